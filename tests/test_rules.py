import itertools
import unittest

from longlife.errors import InvalidRule
from longlife.rules import Rule, read_rule, write_rule


def all_subsets(numbers):
    for size in range(len(numbers) + 1):
        yield from itertools.combinations(numbers, size)


class RuleTest(unittest.TestCase):
    def test_numbers_in_any_order_and_several_times(self):
        rule = Rule([6, 3, 6, 1], [8, 0, 4, 0, 0])
        self.assertEqual(rule.births, (1, 3, 6))
        self.assertEqual(rule.survival, (0, 4, 8))
        self.assertIs(type(rule.births), tuple)
        self.assertIs(type(rule.survival), tuple)

    def test_no_numbers(self):
        rule = Rule([], [])
        self.assertEqual((rule.births, rule.survival), ((), ()))

    def test_all_numbers(self):
        rule = Rule(list(range(8, 0, -1)), list(range(8, -1, -1)))
        self.assertEqual(rule.births, tuple(range(1, 9)))
        self.assertEqual(rule.survival, tuple(range(9)))

    def test_passed_lists_stay_as_they_are(self):
        births, survival = [6, 3, 6], [4, 1, 4]
        Rule(births, survival)
        self.assertEqual((births, survival), ([6, 3, 6], [4, 1, 4]))

    def test_later_changes_of_the_lists_have_no_effect(self):
        births, survival = [3], [2, 3]
        rule = Rule(births, survival)
        births.append(6)
        survival.clear()
        self.assertEqual((rule.births, rule.survival), ((3,), (2, 3)))
        self.assertFalse(rule.lives(False, 6))
        self.assertTrue(rule.lives(True, 2))

    def test_lives_for_both_states_and_every_count(self):
        cases = [([3], [2, 3]), ([], []), ([1, 8], [0]), ([2], []), ([], [0, 8]), ([3, 6], [1, 2, 5])]
        for births, survival in cases:
            rule = Rule(births, survival)
            for count in range(9):
                self.assertIs(rule.lives(False, count), count in births)
                self.assertIs(rule.lives(True, count), count in survival)

    def test_equal_by_both_attributes(self):
        self.assertTrue(Rule([3, 6], [1]) == Rule([6, 3, 3], [1, 1]))
        self.assertFalse(Rule([3, 6], [1]) != Rule([6, 3, 3], [1, 1]))
        self.assertFalse(Rule([3], [1]) == Rule([3], [1, 2]))
        self.assertFalse(Rule([3], [1]) == Rule([3, 4], [1]))
        self.assertFalse(Rule([3], [1]) == Rule([1], [3]))
        self.assertTrue(Rule([3], [1]) != Rule([3], []))

    def test_equal_to_no_value_of_another_class(self):
        class Alike:
            births = (3,)
            survival = (2, 3)

        class Derived(Rule):
            pass

        rule = Rule([3], [2, 3])
        for other in ("B3/S23", ((3,), (2, 3)), [(3,), (2, 3)], None, 0, Alike(), Derived([3], [2, 3])):
            self.assertIs(rule == other, False)
            self.assertIs(other == rule, False)
            self.assertIs(rule != other, True)


class WrittenFormTest(unittest.TestCase):
    def test_written_forms(self):
        self.assertEqual(write_rule(Rule([6, 3], [1])), "B36/S1")
        self.assertEqual(write_rule(Rule([], [])), "B/S")
        self.assertEqual(write_rule(Rule([], [0])), "B/S0")
        self.assertEqual(write_rule(Rule(list(range(1, 9)), list(range(9)))), "B12345678/S012345678")

    def test_reading_a_rule(self):
        rule = read_rule("B36/S014")
        self.assertIs(type(rule), Rule)
        self.assertEqual((rule.births, rule.survival), ((3, 6), (0, 1, 4)))

    def test_reading_and_writing_lead_back_for_every_set_of_numbers(self):
        for births in all_subsets(range(1, 9)):
            for survival in all_subsets(range(9)):
                rule = Rule(births, survival)
                string = write_rule(rule)
                again = read_rule(string)
                self.assertEqual((again.births, again.survival), (births, survival))
                self.assertEqual(again, rule)
                self.assertEqual(write_rule(again), string)

    def check_refused(self, string):
        with self.assertRaises(InvalidRule) as caught:
            read_rule(string)
        self.assertIs(type(caught.exception), InvalidRule)

    def test_strings_that_are_no_written_form(self):
        for string in (
            "", "B", "S", "/", "/S", "B/", "BS", "B3S23", "B3/23", "3/S23", "3/23", "S23/B3", "B3/S23/", "B3//S23",
            "B3/SS23", "BB3/S23", "B3/S23/S23", "B3/S/S", "b3/s23", "B3/s23", "b3/S23", "B3\\S23", "B3|S23",
            "A3/S23", "B3/T23", "B3,6/S23", "B3/S2-3", "B3/S23x", "xB3/S23", "B3x/S23", "B-3/S23", "B+3/S23",
        ):
            with self.subTest(string=string):
                self.check_refused(string)

    def test_numbers_not_ascending_or_twice(self):
        for string in ("B63/S1", "B33/S1", "B3/S32", "B3/S22", "B/S10", "B/S00", "B11/S", "B121/S", "B/S010"):
            with self.subTest(string=string):
                self.check_refused(string)

    def test_numbers_that_a_rule_cannot_have(self):
        for string in ("B0/S", "B03/S23", "B9/S", "B39/S23", "B3/S9", "B3/S239", "B10/S", "B/S19"):
            with self.subTest(string=string):
                self.check_refused(string)

    def test_blanks_and_line_feeds(self):
        for string in (" B3/S23", "B3/S23 ", "B3/S23\n", "\nB3/S23", "B 3/S23", "B3/S 23", "B3/S2 3", "B3 /S23",
                       "B3/ S23", "B3/S23\r", "B3/S23\t", "B3\n/S23"):
            with self.subTest(string=string):
                self.check_refused(string)

    def test_digits_of_other_scripts(self):
        for string in ("B\u0663/S23", "B3/S\u00b2", "B3/S\uff12", "B\u00b3/S", "B3/S2\u0663"):
            with self.subTest(string=string):
                self.check_refused(string)

    def test_one_character_more_less_or_another_one(self):
        form = "B36/S014"
        valid = set()
        for births in all_subsets("12345678"):
            for survival in all_subsets("012345678"):
                valid.add("B" + "".join(births) + "/S" + "".join(survival))
        self.assertIn(form, valid)
        signs = "B/S0123456789 \nbsx"
        near = [form[:at] + form[at + 1:] for at in range(len(form))]
        near += [form[:at] + sign + form[at:] for at in range(len(form) + 1) for sign in signs]
        near += [form[:at] + sign + form[at + 1:] for at in range(len(form)) for sign in signs]
        for string in near:
            with self.subTest(string=string):
                if string in valid:
                    self.assertEqual(write_rule(read_rule(string)), string)
                else:
                    self.check_refused(string)


if __name__ == "__main__":
    unittest.main()
