import PyProof.Rows.All
import Wide.All
import OpenK.AllK
import Wide.FinOn
import HandS.ForMost
import HandS.Strs
import HandS.SetFor
import HandS.OwnEq
import HandS.SlotsOwn
import HandS.IsInst
import HandS.Wide
import HandS.Style
import HandS.Steps
import HandS.Walk
import PySem.Challenge.RW_longlife_k01_rules_written_and_read
set_option Elab.async false
set_option linter.all false
set_option maxRecDepth 100000
set_option maxHeartbeats 4000000
namespace Vx
open PySem PySem.Spec PyProof.Rows L2
/-! ### heaps that grow -/
theorem newS {H : Hp} {p : Addr} {o : HO} (n : H p = none) : Same H (upd H p o) := fun b x e => by
  rw [upd_ne (ne_of_none e n)]
  exact e
theorem mutS {H H' : Hp} {p : Addr} {o : HO} (e : Same H H') (n : H p = none) : Same H (upd H' p o) := fun b x hb => by
  rw [upd_ne (ne_of_none hb n)]
  exact e b x hb
theorem getS {H H' : Hp} {a : Addr} {o : HO} (e : Same H H') (h : H a = some o) : H' a = some o := e a o h
theorem tupS {K : PySem.W.Frag} {H H' : Hp} {a : Addr} {xs : List V} (e : Same H H') (h : SqT K H a xs) : SqT K H' a xs := by
  rcases h with (h | ⟨o, h⟩) | h
  · exact .inl (.inl (e _ _ h))
  · exact .inl (.inr ⟨o, e _ _ h⟩)
  · exact .inr h
theorem lst_of {K : PySem.W.Frag} {H : Hp} {a : Addr} {xs : List V} (h : H a = some (.lst xs)) : SqL K H a xs := .inl (.inl h)
theorem tup_of {K : PySem.W.Frag} {H : Hp} {a : Addr} {xs : List V} (h : H a = some (.tup xs)) : SqT K H a xs := .inl (.inl h)
theorem neS {H H' : Hp} {a p : Addr} {o : HO} (h : H a = some o) (e : Same H H') (n : H' p = none) : a ≠ p := ne_of_none (e a o h) n
theorem backS {H H' : Hp} {p : Addr} (e : Same H H') (n : H' p = none) : H p = none := Same.free e n
theorem gen_e {H H1 : Hp} {p : Addr} {o : HO} (q : upd H p o = H1) (n : H p = none) : Same H H1 ∧ H1 p = some o := by
  subst q
  exact ⟨newS n, upd_same⟩
/-! ### calls of built-ins, one way each -/
section
variable {X : Cx}
theorem call_intI : CallR X (.type "int") (fun xs H Q => ∃ i, xs = [.int i] ∧ Q (.int i) H) := fun pins s σ H xs us Q I r h => call_int1 pins s σ H xs us Q I r (.inl h)
theorem call_tupL : CallR X (.type "tuple") (fun xs H Q => ∃ p ys, xs = [.ref p] ∧ SqL X.K H p ys ∧ ∀ l, H l = none → Q (.ref l) (upd H l (.tup ys))) := fun pins s σ H xs us Q I r h => by
  obtain ⟨p, ys, e, hs, q⟩ := h
  exact call_tuple_of pins s σ H xs us Q I r ⟨p, ys, e, .inl ⟨hs, q⟩⟩
theorem call_lenL : CallR X (.builtin "len") (fun xs H Q => ∃ p ys, xs = [.ref p] ∧ SqL X.K H p ys ∧ Q (.int ys.length) H) := fun pins s σ H xs us Q I r h => by
  obtain ⟨p, ys, e, hs, q⟩ := h
  exact call_len_seq pins s σ H xs us Q I r ⟨p, ys, e, .inl hs, q⟩
theorem call_lenU : CallR X (.builtin "len") (fun xs H Q => ∃ p ys, xs = [.ref p] ∧ SqT X.K H p ys ∧ Q (.int ys.length) H) := fun pins s σ H xs us Q I r h => by
  obtain ⟨p, ys, e, hs, q⟩ := h
  exact call_len_seq pins s σ H xs us Q I r ⟨p, ys, e, .inr hs, q⟩
theorem call_listL : CallR X (.type "list") (fun xs H Q => ∃ p ys, xs = [.ref p] ∧ SqL X.K H p ys ∧ ∀ l, H l = none → Q (.ref l) (upd H l (.lst ys))) := fun pins s σ H xs us Q I r h => by
  obtain ⟨p, ys, e, hs, q⟩ := h
  exact call_list_of pins s σ H xs us Q I r ⟨p, ys, e, .inl hs, q⟩
/-- a class of the text is no built-in type -/
theorem op_isCT : OpR X (compareOp .Is) (fun x y H Q => ∃ a n, x = V.ref a ∧ y = V.ty n ∧ Q (.bl false) H) := by
  intro pins s σ H x y v u Q I rx ry h
  obtain ⟨a, n, rfl, rfl, q⟩ := h
  cases (show v = Value.ref a from rx)
  cases (show u = Value.type n from ry)
  exact wpAny_is_other rfl (fun z => by cases z) ⟨.bl false, H, I, rfl, q⟩
theorem looks_ty {M : Model} {s : Shared} {u : Value} {T : String} (h : s.TypeIs u T) : PySem.W.Looks M s.heap (typeOf u) (.type T) := by
  unfold Shared.TypeIs at h
  split at h
  · obtain ⟨o, ho, hc⟩ := h
    exact fun A Q E s' k q => wpAny_typeOf_ref (k _ _ ho) (by rw [hc]; exact q)
  · exact PySem.W.Looks.of_pure h
/-- x == y by the text's own __eq__; y an instance of that class, or of a built-in type -/
def rEqOwn (K : PySem.W.Frag) (C : Addr) (sp : Sp) (E : XK) : R2 := fun x y H Q => ∃ a dx fs, x = .ref a ∧ H a = some (.ins C dx fs) ∧
  ((∃ b dy gs, y = .ref b ∧ H b = some (.ins C dy gs)) ∨ ∃ T, TyB K H y T ∧ PySem.W.notFirst K C (.type T) = true) ∧ sp [x, y] H Q E
theorem op_eqOwn {CX : CXT} {C g : Addr} {n : Nat} {sp : Sp} {E : XK} (hs : PySem.W.findIn X.K (.ref C) "__eq__" = some (some (.ref g))) (hf : PySem.W.isFn X.K (.ref g) = true)
    (F : FnR X.prog X.w X.K X.mg X.base CX n g sp) (hr : Room n X.A) (hx : Passes CX X E) : OpR X (compareOp .Eq) (rEqOwn X.K C sp E) := by
  intro pins s σ H x y v u Q I rx ry h
  obtain ⟨a, dx, fs, rfl, ha, hy, q⟩ := h
  cases (show v = Value.ref a from rx)
  obtain ⟨mA, O, _⟩ := ins_get I.hok ha
  obtain ⟨od, J, _⟩ := O.look
  obtain ⟨m, hF⟩ := I.fr
  show wpAny (model X.prog X.w) X.A (richCompare .Eq (.ref a) u) (EP X pins σ Q) X.xe s
  have fin : wpAny (model X.prog X.w) X.A (call (.ref g) [.ref a, u]) (PySem.W.CmpBack (EP X pins σ Q)) X.xe s := by
    refine wpAny_mono (wpAny_call (run_fnR (us := [.ref a, u]) (vs := [.ref a, y]) F hr hx I (.cons rfl (.cons ry .nil)) q)) (fun w s' z => ?_) fun _ _ x => x
    obtain ⟨z', H', I', rz, qz⟩ := z
    exact SlX.cmpback rz ⟨z', H', I', rz, qz⟩
  rcases hy with ⟨b, dy, gs, rfl, hb⟩ | ⟨T, ty, nf⟩
  · cases (show u = Value.ref b from ry)
    obtain ⟨mB, O2, _⟩ := ins_get I.hok hb
    obtain ⟨od2, J2, _⟩ := O2.look
    exact PySem.W.cmp_K (op := .Eq) (tb := .ref C) hr.units0 hF I.ok.mod.kin J J2.type (by simp [PySem.W.notFirst]) hs hf fin
  · exact PySem.W.cmp_K (op := .Eq) (tb := .type T) hr.units0 hF I.ok.mod.kin J (looks_ty (ty.is I ry)) nf hs hf fin
theorem nf_str {K : PySem.W.Frag} {C : Addr} : PySem.W.notFirst K C (.type "str") = true := by rfl
theorem nf_tup {K : PySem.W.Frag} {C : Addr} : PySem.W.notFirst K C (.type "tuple") = true := by rfl
end
end Vx
namespace Vx
open PySem PySem.Spec PyProof.Rows L2
/-! ### set(xs) of a list of ints -/
abbrev bareSet (w : World) : Obj := { cls := .type "set", dict := none, data := .set #[] 0 (.fresh 0 0 (!w.params.followText "set-order")) }
section
variable {P : Program} {w : World} {A : Around} {E : Value → Shared → Prop} {s : Shared}
theorem set_of_list {l : Addr} {its : Array Value} (ns : List Int) {Q : Value → Shared → Prop} (calm : A.handled = none) (hl : s.heap.IsList l its) (hi : IntsAre its.toList ns) (room : ns.length + 1 < scanBound)
    (k : ∀ (g : Heap) (t c : Nat), SetR w g s.heap.objs.size (fun j => decide (j ∈ ns)) c → c ≤ ns.length → (∀ b o, s.heap.get? b = some o → g.get? b = some o) → Q (.ref s.heap.objs.size) { s with heap := g, toks := t }) :
    wpAny (model P w) A (call (.type "set") [.ref l]) Q E s := by
  have len : its.size = ns.length := by
    have z := IntsAre.length hi
    rwa [Array.length_toList] at z
  obtain ⟨c0, tl, hmro⟩ := F.called_set.mro
  have hmade := F.called_set.made
  have hsub := F.called_set.sub
  refine wpAny_call (codeAny_of_tree ?_)
  show wpAny _ _ (callAny (.type "set") _) _ _ _
  refine wpAny_pure ⟨Code.quiet_builtin _ (by decide +kernel), codeAny_builtin F.entry_type_call ?_⟩
  rw [Around.under_plain (weight_type_call_type "set" [.ref l] []) rfl]
  have n1 := F.called_set.notType
  have n2 := F.called_set.canCreate
  have n3 := F.typeCall_set_1 (.ref l)
  repeat (any_goals (first | assumption | wp_step))
  refine codeAny_mono (code_set_led1 (.ref l) (E := E) (Q₁ := fun ob s1 => ob = .ref s.heap.objs.size ∧ s1 = { s with heap := s.heap.push (bareSet w) }) ⟨rfl, rfl⟩) fun r s1 hr => ?_
  rcases r with e | fl
  · exact hr
  cases fl with
  | ret ob =>
    obtain ⟨rfl, rfl⟩ := hr
    have at0 : (s.heap.push (bareSet w)).get? s.heap.objs.size = some (bareSet w) := Heap.get?_push_size _ rfl
    have ty0 : Shared.TypeIs { s with heap := s.heap.push (bareSet w) } (.ref s.heap.objs.size) "set" := ⟨_, at0, rfl⟩
    have i1 := F.called_set.init.lookup
    have i2 := F.called_set.init.bind (.ref s.heap.objs.size)
    repeat (any_goals (first | assumption | wp_step))
    refine codeAny_mono (codeAny_call_builtin (R := wants (fun v s2 => v = .none ∧ ∃ g t c, s2 = { s with heap := g, toks := t } ∧ SetR w g s.heap.objs.size (fun j => decide (j ∈ ns)) c ∧ c ≤ ns.length ∧
        (∀ b o, s.heap.get? b = some o → g.get? b = some o)) E) F.called_set.init.plain F.entry_set_init (check_set_init_1 ty0 ?_)) fun r2 s2 hr2 => ?_
    · obtain ⟨⟨oc, od, ob, osl⟩, hol, hcl, nl, hdl⟩ := hl
      simp only at hcl hdl
      subst hcl hdl
      have at1 : (s.heap.push (bareSet w)).get? l = some { cls := .type "list", dict := od, data := .seq its nl, slots := osl } := Heap.get?_push_of_some _ hol
      have q1 := F.sub_list_set
      have q2 := F.sub_list_frozenset
      have q3 : (Value.type "list" == Value.type "dict") = false := by decide
      have isl : (s.heap.push (bareSet w)).IsList l its := ⟨_, at1, rfl, nl, rfl⟩
      unfold Builtin.«set.__init__» noKeywords Builtin.Frozenset.updateFrom
      generalize hPI : pyIter = PI
      wp_walk
      subst hPI
      refine wpAny_pyIter_list isl ?_
      refine wpAny_bind (wpAny_runValue ?_)
      have lS : l < s.heap.objs.size := Heap.lt_size hol
      have calm3 : A.in1.in1.in1.handled = none := by simp [calm]
      have neI : l ≠ (s.heap.push (bareSet w)).objs.size := by
        rw [Heap.size_push]
        exact Nat.ne_of_lt (Nat.lt_succ_of_lt lS)
      have noS : s.heap.objs.size ∉ [(s.heap.push (bareSet w)).objs.size, l] := by
        rw [Heap.size_push]
        simp only [List.mem_cons, List.mem_singleton, List.not_mem_nil, or_false, not_or]
        exact ⟨Nat.ne_of_lt (Nat.lt_succ_self _), Nat.ne_of_gt lS⟩
      have item : ∀ (i : Nat) (v : Value), its[i]? = some v → ∃ m t, ns[i]? = some m ∧ v = .int m t := fun i v hv => by
        have li : i < ns.length := by rw [← len]; exact (Array.getElem?_eq_some_iff.mp hv).1
        obtain ⟨t, e⟩ := PyProof.Rows.IntsAre.int_at hi i v (by rw [Array.getElem?_toList]; exact hv)
        refine ⟨ns[i], t, List.getElem?_eq_getElem li, ?_⟩
        rw [e, List.getD_eq_getElem?_getD, List.getElem?_eq_getElem li]
        rfl
      refine set_update_ints ((Walks.list calm3 _ l neI its).toS) s.heap.objs.size noS ns len room item (its.size - 0) 0 _ (by omega) (Nat.zero_le _) ⟨⟨_, Heap.get?_push_size _ rfl, rfl, rfl⟩, (isl.push _)⟩ ?s0 ?fin
      case s0 => exact ⟨0, Nat.le_refl 0, setR_new_at (Heap.get?_push_of_some _ at0)⟩
      case fin =>
        intro s3 c3 mv hc3 hS3
        obtain ⟨g3, ge, dr, t3, os3⟩ := s3
        cases (show ge = s.gens from mv.gens)
        cases (show dr = s.drawn from mv.drawn)
        cases (show os3 = s.os from mv.os)
        show wpAny _ _ _ _ _ _
        refine wpAny_pure ?_
        show wpAny _ _ (ret Value.none) _ _ _
        rw [len] at hc3
        refine wpAny_pure ⟨rfl, g3, t3, c3, rfl, hS3, hc3, fun b o e => ?_⟩
        have b0 : b < s.heap.objs.size := Heap.lt_size e
        have b2 : b ≠ (s.heap.push (bareSet w)).objs.size := by
          rw [Heap.size_push]
          exact Nat.ne_of_lt (Nat.lt_succ_of_lt b0)
        exact mv.heap b o (by simp only [List.mem_cons, List.mem_singleton, List.not_mem_nil, or_false, not_or]; exact ⟨Nat.ne_of_lt b0, b2⟩) (Heap.get?_push_of_some _ (Heap.get?_push_of_some _ e))
    · rcases r2 with e | fl2
      · exact hr2
      cases fl2 with
      | ret v =>
        obtain ⟨rfl, g, t, c, rfl, hS, hc, hk⟩ := hr2
        repeat (any_goals (first | assumption | wp_step))
        exact k _ _ _ hS hc hk
      | _ => exact hr2.elim
  | _ => exact hr.elim
end
section
variable {X : Cx}
theorem cr_setL (hc : X.calm = true) : CallR X (.type "set") (fun vs H Q => ∃ (l : Addr) (ns : List Int), vs = [V.ref l] ∧ SqL X.K H l (ns.map V.int) ∧ ns.length + 1 < scanBound ∧
    ∀ p c, H p = none → c ≤ ns.length → Q (.ref p) (upd H p (SetO X.w p (fun j => decide (j ∈ ns)) c))) := by
  intro pins s σ H xs us Q I r h
  obtain ⟨l, ns, rfl, hl, room, q⟩ := h
  rw [Vals.ref1 r]
  obtain ⟨its, rv, pl, hz⟩ := I.list hl
  refine set_of_list ns (I.ok.hd hc) pl.isList (by simpa using ints_of_vals rv) room fun g t c R hc' k => ?_
  have hn : H s.heap.objs.size = none := I.hok.fresh (Nat.le_refl _)
  exact ⟨.ref _, _, I.laid (a := s.heap.objs.size) (t' := t) k (Nat.le_refl _) (setO_new R), rfl, q _ c hn hc'⟩
end
end Vx
namespace Vx
open PySem PySem.Spec PyProof.Rows L2
/-! ### ascending lists -/
theorem asc_eq : ∀ {l m : List Int}, l.Pairwise (· < ·) → m.Pairwise (· < ·) → (∀ k, k ∈ l ↔ k ∈ m) → l = m
  | [], [], _, _, _ => rfl
  | [], y :: m, _, _, h => absurd ((h y).mpr List.mem_cons_self) (by simp)
  | x :: l, [], _, _, h => absurd ((h x).mp List.mem_cons_self) (by simp)
  | x :: l, y :: m, hl, hm, h => by
    obtain ⟨h1, h2⟩ := List.pairwise_cons.mp hl
    obtain ⟨h3, h4⟩ := List.pairwise_cons.mp hm
    have e : x = y := by
      rcases List.mem_cons.mp ((h x).mp List.mem_cons_self) with e | e
      · exact e
      · rcases List.mem_cons.mp ((h y).mpr List.mem_cons_self) with e2 | e2
        · exact e2.symm
        · have a := h3 _ e
          have b := h1 _ e2
          omega
    subst e
    rw [asc_eq h2 h4 fun k => ?_]
    have q := h k
    constructor
    · intro hk
      rcases List.mem_cons.mp (q.mp (List.mem_cons_of_mem _ hk)) with e | e
      · exact absurd (h1 _ hk) (by omega)
      · exact e
    · intro hk
      rcases List.mem_cons.mp (q.mpr (List.mem_cons_of_mem _ hk)) with e | e
      · exact absurd (h3 _ hk) (by omega)
      · exact e
/-! ### data -/
theorem eqvAll_ints : ∀ (l m : List Int), PyData.eqvAll (l.map PyData.int) (m.map PyData.int) = decide (l = m)
  | [], [] => by simp [PyData.eqvAll]
  | [], y :: m => by simp [PyData.eqvAll]
  | x :: l, [] => by simp [PyData.eqvAll]
  | x :: l, y :: m => by
    show (PyData.eqv (.int x) (.int y) && PyData.eqvAll (l.map PyData.int) (m.map PyData.int)) = _
    rw [eqvAll_ints l m]
    show ((x == y) && decide (l = m)) = _
    by_cases e : x = y <;> by_cases e2 : l = m <;> simp [e, e2]
theorem eqv_tupI (l m : List Int) : PyData.eqv (.tuple (l.map PyData.int)) (.tuple (m.map PyData.int)) = decide (l = m) := eqvAll_ints l m
theorem eqv_lstI (l m : List Int) : PyData.eqv (.list (l.map PyData.int)) (.list (m.map PyData.int)) = decide (l = m) := eqvAll_ints l m
theorem dpAll_ints {K : PySem.W.Frag} {H : Hp} : ∀ l : List Int, DpAll K H (l.map V.int) (l.map PyData.int)
  | [] => .nil
  | x :: l => .cons (.int x) (dpAll_ints l)
theorem dp_tupI {K : PySem.W.Frag} {H : Hp} {a : Addr} {l : List Int} (h : SqT K H a (l.map V.int)) : Dp K H (.ref a) (.tuple (l.map PyData.int)) := .tup h (dpAll_ints l)
theorem dp_lstI {K : PySem.W.Frag} {H : Hp} {a : Addr} {l : List Int} (h : SqL K H a (l.map V.int)) : Dp K H (.ref a) (.list (l.map PyData.int)) := .lst h (dpAll_ints l)
theorem inV_ints (x : Int) : ∀ l : List Int, inV (.int x) (l.map V.int) = decide (x ∈ l)
  | [] => by simp [inV]
  | y :: l => by
    have ih := inV_ints x l
    unfold inV at ih ⊢
    rw [List.map_cons, List.any_cons, ih]
    show ((y == x) || decide (x ∈ l)) = _
    by_cases e : y = x
    · simp [e]
    · have e' : ¬ x = y := fun z => e z.symm
      simp [e, e']
theorem flat_ints (l : List Int) : (l.map V.int).all flatV = true := by
  rw [List.all_map]
  exact List.all_eq_true.mpr fun _ _ => rfl
end Vx
namespace Vx
open PySem PySem.Spec PyProof.Rows L2
theorem canAll_ints : ∀ l : List Int, PyData.canLayAll0 (l.map PyData.int) = true
  | [] => by simp [PyData.canLayAll0]
  | x :: l => by
    rw [List.map_cons]
    simp [PyData.canLayAll0, PyData.canLay0, canAll_ints l]
theorem depAll_ints : ∀ l : List Int, PyData.depthAll (l.map PyData.int) = 0
  | [] => by simp [PyData.depthAll]
  | x :: l => by
    rw [List.map_cons]
    simp [PyData.depthAll, PyData.depth, depAll_ints l]
theorem shaped_tupI (l : List Int) : SeqAt.shaped (.tuple (l.map PyData.int)) = true := by
  unfold SeqAt.shaped
  simp [PyData.canLay0, PyData.depth, canAll_ints, depAll_ints]
theorem shaped_lstI (l : List Int) : SeqAt.shaped (.list (l.map PyData.int)) = true := by
  unfold SeqAt.shaped
  simp [PyData.canLay0, PyData.depth, canAll_ints, depAll_ints]
theorem tyesT {σ : L2.St} {H : Hp} {A B : Hp → Prop} (h : A H) : tYes σ H (fun b H3 => if b = true then A H3 else B H3) := h
end Vx
namespace My
open PySem PySem.Spec PyProof.Rows L2 Vx
def topS (i : Nat) : Stmt := PySem.Challenge.pw_longlife_k01_rules_written_and_read.main.body.getD i (.Pass ⟨0, 0, 0, 0⟩)
abbrev s_Rule_init : Stmt := inClass (topS 6) 0
abbrev N_Rule_init : List Str := ["self", "births", "survival"]
theorem sc_Rule_init : FnScope N_Rule_init ["self", "births", "survival"] (defScope s_Rule_init) := ⟨rfl, rfl, rfl, by decide +kernel, rfl, by decide +kernel, by decide +kernel⟩
abbrev s_Rule_lives : Stmt := inClass (topS 6) 1
abbrev N_Rule_lives : List Str := ["self", "alive", "count", "numbers"]
theorem sc_Rule_lives : FnScope N_Rule_lives ["self", "alive", "count"] (defScope s_Rule_lives) := ⟨rfl, rfl, rfl, by decide +kernel, rfl, by decide +kernel, by decide +kernel⟩
abbrev s_Rule_eq : Stmt := inClass (topS 6) 2
abbrev N_Rule_eq : List Str := ["self", "other"]
theorem sc_Rule_eq : FnScope N_Rule_eq ["self", "other"] (defScope s_Rule_eq) := ⟨rfl, rfl, rfl, by decide +kernel, rfl, by decide +kernel, by decide +kernel⟩
abbrev s_read_rule : Stmt := topS 7
abbrev N_read_rule : List Str := ["string", "births", "_", "survival", "rule"]
theorem sc_read_rule : FnScope N_read_rule ["string"] (defScope s_read_rule) := ⟨rfl, rfl, rfl, by decide +kernel, rfl, by decide +kernel, by decide +kernel⟩
abbrev s_write_rule : Stmt := topS 8
abbrev N_write_rule : List Str := ["rule"]
theorem sc_write_rule : FnScope N_write_rule ["rule"] (defScope s_write_rule) := ⟨rfl, rfl, rfl, by decide +kernel, rfl, by decide +kernel, by decide +kernel⟩
abbrev s_numbers : Stmt := topS 9
abbrev N_numbers : List Str := ["text", "digits", "character"]
theorem sc_numbers : FnScope N_numbers ["text", "digits"] (defScope s_numbers) := ⟨rfl, rfl, rfl, by decide +kernel, rfl, by decide +kernel, by decide +kernel⟩
abbrev s_digits : Stmt := topS 10
abbrev N_digits : List Str := ["numbers", "number"]
theorem sc_digits : FnScope N_digits ["numbers"] (defScope s_digits) := ⟨rfl, rfl, rfl, by decide +kernel, rfl, by decide +kernel, by decide +kernel⟩
abbrev s_law_cell : Stmt := topS 12
abbrev N_law_cell : List Str := ["script", "k"]
theorem sc_law_cell : FnScope N_law_cell ["script", "k"] (defScope s_law_cell) := ⟨rfl, rfl, rfl, by decide +kernel, rfl, by decide +kernel, by decide +kernel⟩
abbrev s_law_row : Stmt := topS 13
abbrev N_law_row : List Str := ["cell", "count", "bound", "rest", "mixed", "row", "k"]
theorem sc_law_row : FnScope N_law_row ["cell", "count", "bound"] (defScope s_law_row) := ⟨rfl, rfl, rfl, by decide +kernel, rfl, by decide +kernel, by decide +kernel⟩
abbrev s_law_integer : Stmt := topS 14
abbrev N_law_integer : List Str := ["value"]
theorem sc_law_integer : FnScope N_law_integer ["value"] (defScope s_law_integer) := ⟨rfl, rfl, rfl, by decide +kernel, rfl, by decide +kernel, by decide +kernel⟩
abbrev s_law_numbers : Stmt := topS 15
abbrev N_law_numbers : List Str := ["cell", "x", "births", "survival", "k"]
theorem sc_law_numbers : FnScope N_law_numbers ["cell"] (defScope s_law_numbers) := ⟨rfl, rfl, rfl, by decide +kernel, rfl, by decide +kernel, by decide +kernel⟩
abbrev s_law_mixed : Stmt := topS 16
abbrev N_law_mixed : List Str := ["numbers", "cell", "found", "x"]
theorem sc_law_mixed : FnScope N_law_mixed ["numbers", "cell"] (defScope s_law_mixed) := ⟨rfl, rfl, rfl, by decide +kernel, rfl, by decide +kernel, by decide +kernel⟩
abbrev s_law : Stmt := topS 17
abbrev N_law : List Str := ["script", "births", "survival", "first", "second", "rule", "text", "count", "others", "other", "k"]
theorem sc_law : FnScope N_law ["script"] (defScope s_law) := ⟨rfl, rfl, rfl, by decide +kernel, rfl, by decide +kernel, by decide +kernel⟩
structure Txt (K : PySem.W.Frag) (mg : Str → Option Value) where
  C_Rule : Addr
  g_Rule : mg "Rule" = some (.ref C_Rule)
  cl_Rule : Cls K C_Rule
  na_Rule_births : NoAttr K C_Rule "births"
  na_Rule_survival : NoAttr K C_Rule "survival"
  f_Rule_init : Addr
  d_Rule_init : FuncData
  F_Rule_init : Fun K "__init__" "Rule.__init__" s_Rule_init f_Rule_init d_Rule_init
  b_Rule_init : Binds K d_Rule_init ["self", "births", "survival"] []
  M_Rule : Mk K C_Rule f_Rule_init
  f_Rule_lives : Addr
  d_Rule_lives : FuncData
  F_Rule_lives : Fun K "lives" "Rule.lives" s_Rule_lives f_Rule_lives d_Rule_lives
  b_Rule_lives : Binds K d_Rule_lives ["self", "alive", "count"] []
  m_Rule_lives : Meth K C_Rule "lives" f_Rule_lives
  f_Rule_eq : Addr
  d_Rule_eq : FuncData
  F_Rule_eq : Fun K "__eq__" "Rule.__eq__" s_Rule_eq f_Rule_eq d_Rule_eq
  b_Rule_eq : Binds K d_Rule_eq ["self", "other"] []
  e_Rule : PySem.W.findIn K (.ref C_Rule) "__eq__" = some (some (.ref f_Rule_eq))
  i_Rule : PySem.W.isFn K (.ref f_Rule_eq) = true
  f_read_rule : Addr
  d_read_rule : FuncData
  F_read_rule : Fun K "read_rule" "read_rule" s_read_rule f_read_rule d_read_rule
  b_read_rule : Binds K d_read_rule ["string"] []
  g_read_rule : mg "read_rule" = some (.ref f_read_rule)
  f_write_rule : Addr
  d_write_rule : FuncData
  F_write_rule : Fun K "write_rule" "write_rule" s_write_rule f_write_rule d_write_rule
  b_write_rule : Binds K d_write_rule ["rule"] []
  g_write_rule : mg "write_rule" = some (.ref f_write_rule)
  f_numbers : Addr
  d_numbers : FuncData
  F_numbers : Fun K "_numbers" "_numbers" s_numbers f_numbers d_numbers
  b_numbers : Binds K d_numbers ["text", "digits"] []
  g_numbers : mg "_numbers" = some (.ref f_numbers)
  f_digits : Addr
  d_digits : FuncData
  F_digits : Fun K "_digits" "_digits" s_digits f_digits d_digits
  b_digits : Binds K d_digits ["numbers"] []
  g_digits : mg "_digits" = some (.ref f_digits)
  f_law_cell : Addr
  d_law_cell : FuncData
  F_law_cell : Fun K "_law_cell" "_law_cell" s_law_cell f_law_cell d_law_cell
  b_law_cell : Binds K d_law_cell ["script", "k"] []
  g_law_cell : mg "_law_cell" = some (.ref f_law_cell)
  f_law_row : Addr
  d_law_row : FuncData
  F_law_row : Fun K "_law_row" "_law_row" s_law_row f_law_row d_law_row
  b_law_row : Binds K d_law_row ["cell", "count", "bound"] []
  g_law_row : mg "_law_row" = some (.ref f_law_row)
  f_law_numbers : Addr
  d_law_numbers : FuncData
  F_law_numbers : Fun K "_law_numbers" "_law_numbers" s_law_numbers f_law_numbers d_law_numbers
  b_law_numbers : Binds K d_law_numbers ["cell"] []
  g_law_numbers : mg "_law_numbers" = some (.ref f_law_numbers)
  f_law_mixed : Addr
  d_law_mixed : FuncData
  F_law_mixed : Fun K "_law_mixed" "_law_mixed" s_law_mixed f_law_mixed d_law_mixed
  b_law_mixed : Binds K d_law_mixed ["numbers", "cell"] []
  g_law_mixed : mg "_law_mixed" = some (.ref f_law_mixed)
  f_law : Addr
  d_law : FuncData
  F_law : Fun K "law" "law" s_law f_law d_law
  b_law : Binds K d_law ["script"] []
  g_law : mg "law" = some (.ref f_law)
  z_tuple : mg "tuple" = none
  z_sorted : mg "sorted" = none
  z_set : mg "set" = none
  z_type : mg "type" = none
  z_int : mg "int" = none
  z_str : mg "str" = none
  z_len : mg "len" = none
  z_abs : mg "abs" = none
  z_range : mg "range" = none
  z_isinstance : mg "isinstance" = none
  z_bool : mg "bool" = none
  z_list : mg "list" = none
  c_BIRTH_DIGITS : ∃ u, mg "BIRTH_DIGITS" = some u ∧ RelV (.str (Str.ofString "12345678")) u
  c_SURVIVAL_DIGITS : ∃ u, mg "SURVIVAL_DIGITS" = some u ∧ RelV (.str (Str.ofString "012345678")) u
end My
namespace My
open PySem PySem.Spec PyProof.Rows L2 Vx
local macro_rules | `(tactic| k_invariant "new" ($n, $H:ident, $e:ident, $h:ident)) => `(tactic| (generalize hE : upd _ _ _ = $H; obtain ⟨$e:ident, $h:ident⟩ := gen_e hE $n; clear hE))
local macro_rules | `(tactic| k_subL) => `(tactic| first
  | assumption
  | exact lst_of (by assumption)
  | exact tup_of (by assumption)
  | (refine getS (by assumption) ?_; k_subL)
  | (refine Same.seq (by assumption) ?_; k_subL)
  | (refine tupS (by assumption) ?_; k_subL)
  | (refine lst_of ?_; k_subL)
  | (refine tup_of ?_; k_subL))
local macro_rules | `(tactic| k_offL) => `(tactic| first
  | (show (0 : Int) < _; first | omega | decide)
  | (refine ⟨?_, ?_⟩ <;> first | omega | decide)
  | exact .inr ⟨by decide, by decide⟩
  | exact .inl ⟨by decide, by decide⟩
  | exact .inl ⟨by omega, by omega⟩
  | omega)
section
variable {P : Program} {w : World} {K : PySem.W.Frag} {mg : Str → Option Value} {base : Heap}
theorem ok_law_cell (T : Txt K mg) : FnOk P w K mg base CX0 1 T.f_law_cell T.d_law_cell ["script", "k"] (spCell K) := by
  refine T.F_law_cell.ok sc_law_cell (fun vs H Q E h => ?_) (fun cdv A outer s H vs Q E hr h => ?_)
  · obtain ⟨l, ns, j, rfl, _⟩ := h
    rfl
  · obtain ⟨l, ns, j, rfl, hs, q⟩ := h
    refine ⟨_, 
(pss_cons (ps_if (pt_cmpR op_lt (pv 1) (pe_callB call_lenL (by rfl) T.z_len (by decide +kernel) (pa_cons (pv 0) pa_nil)) (nomark _))
      (pss_one (ps_ret (pe_callTy call_intI (by rfl) T.z_int (by decide +kernel) (pa_cons (pe_ix ix_list (pv 0) (pv 1) (fun _ _ => rfl)) pa_nil))))
      pss_nil)
      (pss_one (ps_ret pe_int)))
    , ?_⟩
    refine ⟨_, rfl, _, rfl, _, _, rfl, hs, _, _, rfl, rfl, _, rfl, ite2 (fun c => ?_) (fun c => ?_)⟩
    · have hj : j < ns.length := by
        have z := of_decide_eq_true c
        rw [List.length_map] at z
        omega
      exact ⟨_, rfl, _, rfl, _, _, _, _, rfl, rfl, hs, atI_cell hj, _, rfl, q⟩
    · have hj : ¬ j < ns.length := fun z => c (decide_eq_true (by rw [List.length_map]; omega))
      rw [cell_out hj] at q
      exact q
/-! ### law_row: so many numbers from 0 to below the bound -/
def sp_law_row : Sp := fun vs H Q _ => ∃ (cell count bound : Int), vs = [.int cell, .int count, .int bound] ∧ 0 ≤ count ∧ count ≤ 100000 ∧ 0 < bound ∧ bound < 1000000000 ∧
  ∀ (H' : Hp) (p : Addr) (xs : List Int), H p = none → Same H H' → H' p = some (.lst (xs.map V.int)) → (xs.length : Int) = count → (∀ x ∈ xs, 0 ≤ x ∧ x < bound) → Q (.ref p) H'
theorem ok_law_row (T : Txt K mg) : FnOk P w K mg base CX0 1 T.f_law_row T.d_law_row ["cell", "count", "bound"] sp_law_row := by
  refine T.F_law_row.ok sc_law_row (fun vs H Q E h => ?_) (fun cdv A outer s H vs Q E hr h => ?_)
  · obtain ⟨_, _, _, rfl, _⟩ := h
    rfl
  · obtain ⟨cell, count, bound, rfl, c0, c1, b0, b1, q⟩ := h
    refine ⟨_, 
(pss_cons (ps_set (i := 3) sc_law_row.nd rfl (.inl rfl) (pe_callB call_abs (by rfl) T.z_abs (by decide +kernel) (pa_cons (pe_callTy call_intI (by rfl) T.z_int (by decide +kernel) (pa_cons (pv 0) pa_nil)) pa_nil)))
      (pss_cons (ps_set (i := 4) sc_law_row.nd rfl (.inl rfl) (pe_op op_add (pe_op op_mod (pe_callTy call_intI (by rfl) T.z_int (by decide +kernel) (pa_cons (pv 0) pa_nil)) pe_int) pe_int))
      (pss_cons (ps_set (i := 5) sc_law_row.nd rfl (.inl rfl) (pe_lst pa_nil))
      (pss_cons (ps_for PassesOwn.never rfl (pi_range1 (by rfl) T.z_range (pa_cons (pv 1) pa_nil)) (pg_name (i := 6) sc_law_row.nd rfl (.inl rfl))
      (pss_one (ps_if (pt_cmpR op_ge (pv 3) (pv 2) (nomark _))
      (pss_cons (ps_expr (pe_bm PySem.F.plainAttrs_list PySem.F.slot_list_append PySem.F.type_list_append mt_append (pv 5) (pa_cons (pe_op op_mod (pe_callTy call_intI (by rfl) T.z_int (by decide +kernel) (pa_cons (pv 3) pa_nil)) (pv 2)) pa_nil)))
      (pss_one (ps_set (i := 3) sc_law_row.nd rfl (.inl rfl) (pe_op op_fdiv (pv 3) (pv 2)))))
      (pss_cons (ps_set (i := 4) sc_law_row.nd rfl (.inl rfl) (pe_op op_mod (pe_callTy call_intI (by rfl) T.z_int (by decide +kernel) (pa_cons (pe_op op_add (pe_op op_add (pe_op op_mul (pv 4) pe_int) (pe_op op_mul pe_int (pv 6))) pe_int) pa_nil)) pe_int))
      (pss_one (ps_expr (pe_bm PySem.F.plainAttrs_list PySem.F.slot_list_append PySem.F.type_list_append mt_append (pv 5) (pa_cons (pe_op op_mod (pe_callTy call_intI (by rfl) T.z_int (by decide +kernel) (pa_cons (pe_op op_fdiv (pe_op op_mul (pv 4) pe_int) pe_int) pa_nil)) (pv 2)) pa_nil))))))))
      (pss_one (ps_ret (pv 5)))))))
    , ?_⟩
    refine ⟨_, rfl, _, rfl, _, rfl, _, rfl, _, rfl, _, _, rfl, rfl, (by k_offL), _, _, rfl, rfl, Nat.zero_le _, fun p1 n1 => ?_⟩
    k_invariant "new" (n1, H1, e1, h1)
    refine ⟨_, rfl, _, rfl, by omega, by omega, for_range (lo := 0) (n := count.toNat) (fun i σ H' => ∃ (rest mixed : Int) (xs : List Int) (v : Option V), σ = [some (.int cell), some (.int count), some (.int bound), some (.int rest), some (.int mixed), some (.ref p1), v] ∧
      Same H H' ∧ H' p1 = some (.lst (xs.map V.int)) ∧ xs.length = i ∧ (∀ x ∈ xs, 0 ≤ x ∧ x < bound) ∧ 0 ≤ mixed ∧ mixed < 4294967296) ?_ ?_ ?_⟩
    · refine ⟨_, _, [], none, rfl, e1, h1, rfl, by simp, ?_, ?_⟩
      · have := Int.emod_nonneg cell (show (1000003 : Int) ≠ 0 by decide)
        omega
      · have := Int.emod_lt_of_pos cell (show (0 : Int) < 1000003 by decide)
        omega
    · rintro i σ H' hi ⟨rest, mixed, xs, v, rfl, sm, hp, hl, hx, m0, m1⟩
      refine ⟨_, rfl, _, rfl, _, _, rfl, rfl, _, rfl, ite2 (fun c => ?_) (fun c => ?_)⟩
      · refine ⟨_, rfl, .inl ⟨rfl, _, lst_of hp⟩, _, rfl, _, rfl, _, rfl, _, _, rfl, rfl, b0, _, _, _, rfl, rfl, hp, ?_, ?_⟩
        · rw [List.length_map]
          exact Nat.lt_of_lt_of_le (show xs.length < 100001 by omega) (by decide)
        · refine ⟨_, rfl, _, rfl, _, _, rfl, rfl, ⟨b0, by omega⟩, _, _, xs ++ [rest % bound], _, rfl, mutS sm n1, ?_, by simp [hl], fun x h => ?_, m0, m1⟩
          · rw [upd_same]
            simp
          · rcases List.mem_append.mp h with h | h
            · exact hx x h
            · rw [List.mem_singleton.mp h]
              exact ⟨Int.emod_nonneg _ (by omega), Int.emod_lt_of_pos _ b0⟩
      · refine ⟨_, rfl, _, _, rfl, rfl, .inr ⟨by decide, by decide⟩, _, rfl, _, _, rfl, rfl, .inl ⟨by decide, by decide⟩, _, _, rfl, rfl, _, _, rfl, rfl, _, rfl, _, _, rfl, rfl, (by k_offL), ?_⟩
        refine ⟨_, rfl, .inl ⟨rfl, _, lst_of hp⟩, _, rfl, _, _, rfl, rfl, .inr ⟨by decide, by decide⟩, _, _, rfl, rfl, ⟨by decide, by decide⟩, _, rfl, _, rfl, _, _, rfl, rfl, b0, _, _, _, rfl, rfl, hp, ?_, ?_⟩
        · rw [List.length_map]
          exact Nat.lt_of_lt_of_le (show xs.length < 100001 by omega) (by decide)
        · refine ⟨_, _, xs ++ [(mixed * 48271 + 11 * (0 + (i : Int)) + 7) % 2147483647 * 2862933555777941757 / 1024 % bound], _, rfl, mutS sm n1, ?_, by simp [hl], fun x h => ?_, Int.emod_nonneg _ (by decide), ?_⟩
          · rw [upd_same, List.map_append]
            rfl
          · rcases List.mem_append.mp h with h | h
            · exact hx x h
            · rw [List.mem_singleton.mp h]
              exact ⟨Int.emod_nonneg _ (by omega), Int.emod_lt_of_pos _ b0⟩
          · exact Int.lt_trans (Int.emod_lt_of_pos _ (by decide)) (by decide)
    · rintro σ H' ⟨rest, mixed, xs, v, rfl, sm, hp, hl, hx, _, _⟩
      exact ⟨_, rfl, q H' p1 xs n1 sm hp (by omega) hx⟩
end
end My
namespace My
open PySem PySem.Spec PyProof.Rows L2 Vx
local macro_rules | `(tactic| k_invariant "new" ($n, $H:ident, $e:ident, $h:ident)) => `(tactic| (generalize hE : upd _ _ _ = $H; obtain ⟨$e:ident, $h:ident⟩ := gen_e hE $n; clear hE))
local macro_rules | `(tactic| k_subL) => `(tactic| first
  | assumption
  | exact lst_of (by assumption)
  | exact tup_of (by assumption)
  | (refine getS (by assumption) ?_; k_subL)
  | (refine Same.seq (by assumption) ?_; k_subL)
  | (refine tupS (by assumption) ?_; k_subL)
  | (refine lst_of ?_; k_subL)
  | (refine tup_of ?_; k_subL))
local macro_rules | `(tactic| k_offL) => `(tactic| first
  | (show (0 : Int) < _; first | omega | decide)
  | (refine ⟨?_, ?_⟩ <;> first | omega | decide)
  | exact .inr ⟨by decide, by decide⟩
  | exact .inl ⟨by decide, by decide⟩
  | exact .inl ⟨by omega, by omega⟩
  | omega)
theorem item_ints {xs : List Int} {i : Nat} {x : V} (h : (xs.map V.int)[i]? = some x) : ∃ z, x = .int z ∧ xs[i]? = some z ∧ z ∈ xs := by
  rw [List.getElem?_map] at h
  cases e : xs[i]? with
  | none => rw [e] at h; cases h
  | some z =>
    rw [e] at h
    exact ⟨z, (Option.some.inj h).symm, rfl, List.mem_of_getElem? e⟩
theorem at_ints {xs : List Int} {k : Int} (h0 : 0 ≤ k) (h1 : k < (xs.length : Int)) : ∃ z, z ∈ xs ∧ atI (xs.map V.int) k = some (.int z) := by
  have hj : k.toNat < xs.length := by omega
  refine ⟨xs[k.toNat], List.getElem_mem hj, ?_⟩
  refine at_of (j := k.toNat) (by omega) ?_
  rw [List.getElem?_map, List.getElem?_eq_getElem hj]
  rfl
theorem mem_ins {ys : List Int} {j : Nat} {y k : Int} (hy : y ∈ ys) : k ∈ ys.take j ++ [y] ++ ys.drop j ↔ k ∈ ys := by
  have e : k ∈ ys ↔ k ∈ ys.take j ∨ k ∈ ys.drop j := by rw [← List.mem_append, List.take_append_drop]
  rw [List.mem_append, List.mem_append, List.mem_singleton, e]
  constructor
  · rintro ((h | h) | h)
    · exact .inl h
    · subst h
      exact e.mp hy
    · exact .inr h
  · rintro (h | h)
    · exact .inl (.inl h)
    · exact .inr h
section
variable {P : Program} {w : World} {K : PySem.W.Frag} {mg : Str → Option Value} {base : Heap}
def sp_law_mixed (K : PySem.W.Frag) : Sp := fun vs H Q _ => ∃ (a : Addr) (ns : List Int) (cell : Int), vs = [.ref a, .int cell] ∧ SqL K H a (ns.map V.int) ∧ ns.length ≤ 40 ∧
  ∀ (H' : Hp) (p : Addr) (xs : List Int), H p = none → Same H H' → H' p = some (.lst (xs.map V.int)) → (∀ k, k ∈ xs ↔ k ∈ ns) → xs.length ≤ ns.length + 6 → Q (.ref p) H'
theorem ok_law_mixed (T : Txt K mg) : FnOk P w K mg base CX0 2 T.f_law_mixed T.d_law_mixed ["numbers", "cell"] (sp_law_mixed K) := by
  refine T.F_law_mixed.ok sc_law_mixed (fun vs H Q E h => ?_) (fun cdv A outer s H vs Q E hr h => ?_)
  · obtain ⟨_, _, _, rfl, _⟩ := h
    rfl
  · obtain ⟨a, ns, cell, rfl, hs, l0, q⟩ := h
    refine ⟨_, (pss_cons (ps_set (i := 2) sc_law_mixed.nd rfl (.inl rfl) (pe_callTy call_listL (by rfl) T.z_list (by decide +kernel) (pa_cons (pv 0) pa_nil)))
      (pss_cons (ps_for PassesOwn.never rfl (pi_list (pe_call (ok_law_row T) (hr.mono (by decide)) (by rfl) T.g_law_row T.F_law_row.kp T.b_law_row .nil pass0 (pa_cons (pv 1) (pa_cons pe_int (pa_cons pe_int pa_nil))))) (pg_name (i := 3) sc_law_mixed.nd rfl (.inl rfl))
      (pss_one (ps_if (pt_cmpR op_gt (pe_callB call_lenL (by rfl) T.z_len (by decide +kernel) (pa_cons (pv 2) pa_nil)) pe_int (nomark _))
      (pss_one (ps_expr (pe_bm PySem.F.plainAttrs_list PySem.F.slot_list_insert PySem.F.type_list_insert mt_insert (pv 2) (pa_cons (pe_op op_mod (pv 3) (pe_callB call_lenL (by rfl) T.z_len (by decide +kernel) (pa_cons (pv 2) pa_nil))) (pa_cons (pe_ix ix_list (pv 2) (pe_op op_mod (pe_op op_fdiv (pv 3) pe_int) (pe_callB call_lenL (by rfl) T.z_len (by decide +kernel) (pa_cons (pv 2) pa_nil))) (fun _ _ => rfl)) pa_nil)))))
      pss_nil)))
      (pss_one (ps_ret (pe_revL (pv 2)))))), ?_⟩
    refine ⟨_, rfl, _, _, rfl, hs, fun p1 n1 => ?_⟩
    k_invariant "new" (n1, H1, e1, h1)
    refine ⟨_, rfl, _, _, _, rfl, by decide, by decide, by decide, by decide, fun H2 p2 xs n2 e2 h2 l2 b2 => ?_⟩
    have n12 : p1 ≠ p2 := ne_of_none h1 n2
    refine ⟨_, rfl, ⟨_, lst_of h2⟩, for_list (K := K) (a := p2) (xs := xs.map V.int) (fun i σ H' => ∃ (ys : List Int) (v : Option V), σ = [some (.ref a), some (.int cell), some (.ref p1), v] ∧
      Same H H' ∧ H' p1 = some (.lst (ys.map V.int)) ∧ H' p2 = some (.lst (xs.map V.int)) ∧ (∀ k, k ∈ ys ↔ k ∈ ns) ∧ ys.length ≤ ns.length + i) ⟨ns, none, rfl, e1.trans e2, getS e2 h1, h2, fun k => Iff.rfl, by omega⟩ (fun i σ H' _ ⟨_, _, _, _, _, h, _⟩ => lst_of h) ?_ ?_⟩
    · rintro i x σ H' hi ⟨ys, v, rfl, sm, hp, hx, hm, hl⟩
      obtain ⟨z, rfl, _, hz⟩ := item_ints hi
      have i6 : i < 6 := by
        have := (List.getElem?_eq_some_iff.mp hi).1
        rw [List.length_map] at this
        omega
      refine ⟨_, rfl, _, _, rfl, lst_of hp, _, _, rfl, rfl, _, rfl, ite2 (fun c => ?_) (fun c => ?_)⟩
      · have c := of_decide_eq_true c
        rw [List.length_map] at c
        have m0 := Int.emod_nonneg z (show (ys.length : Int) ≠ 0 by omega)
        have m1 := Int.emod_lt_of_pos z c
        obtain ⟨y, hy, ha⟩ := at_ints (xs := ys) (k := z / 9 % (ys.length : Int)) (Int.emod_nonneg _ (by omega)) (Int.emod_lt_of_pos _ c)
        refine ⟨_, rfl, .inl ⟨rfl, _, lst_of hp⟩, _, rfl, _, rfl, _, _, rfl, lst_of hp, _, _, rfl, rfl, ?_, _, rfl, _, rfl, _, _, rfl, rfl, ⟨by decide, by decide⟩, _, rfl, _, _, rfl, lst_of hp, _, _, rfl, rfl, ?_, _, _, _, .int y, rfl, rfl, lst_of hp, ?_, ?_⟩
        · rw [List.length_map]; exact c
        · rw [List.length_map]; exact c
        · rw [List.length_map]; exact ha
        · refine ⟨_, _, _, _, rfl, rfl, hp, ?_, ?_, ?_, ys.take (z % (ys.length : Int)).toNat ++ [y] ++ ys.drop (z % (ys.length : Int)).toNat, _, rfl, mutS sm n1, ?_, ?_, fun k => ?_, ?_⟩
          · rw [List.length_map]
            exact Nat.lt_of_lt_of_le (show ys.length < 100 by omega) (by decide)
          · rw [List.length_map]; exact m0
          · rw [List.length_map]; omega
          · rw [upd_same, List.map_append, List.map_append, List.map_take, List.map_drop, List.length_map]
            rfl
          · rw [upd_ne n12.symm]; exact hx
          · exact (mem_ins hy).trans (hm k)
          · simp only [List.length_append, List.length_take, List.length_drop, List.length_cons, List.length_nil]
            omega
      · exact ⟨ys, _, rfl, sm, hp, hx, hm, by omega⟩
    · rintro σ H' ⟨ys, v, rfl, sm, hp, hx, hm, hl⟩
      refine ⟨_, rfl, _, _, rfl, lst_of hp, fun p3 n3 => ?_⟩
      k_invariant "new" (n3, H3, e3, h3)
      rw [List.length_map] at hl
      exact q H3 p3 ys.reverse (backS sm n3) (sm.trans e3) (by rw [h3, List.map_reverse]) (fun k => by rw [List.mem_reverse]; exact hm k) (by rw [List.length_reverse]; omega)
end
end My
namespace My
open PySem PySem.Spec PyProof.Rows L2 Vx
local macro_rules | `(tactic| k_invariant "new" ($n, $H:ident, $e:ident, $h:ident)) => `(tactic| (generalize hE : upd _ _ _ = $H; obtain ⟨$e:ident, $h:ident⟩ := gen_e hE $n; clear hE))
local macro_rules | `(tactic| k_places) => `(tactic| first
  | assumption
  | exact lst_of (by assumption)
  | exact tup_of (by assumption)
  | (refine getS (by assumption) ?_; k_places)
  | (refine Same.seq (by assumption) ?_; k_places)
  | (refine tupS (by assumption) ?_; k_places)
  | (refine lst_of ?_; k_places)
  | (refine tup_of ?_; k_places))
local macro_rules | `(tactic| k_subL) => `(tactic| first
  | k_places
  | solve_by_elim (maxDepth := 10) [getS, lst_of, tup_of, Same.seq, tupS])
local macro_rules | `(tactic| k_offL) => `(tactic| first
  | (show (0 : Int) < _; first | omega | decide)
  | (refine ⟨?_, ?_⟩ <;> first | omega | decide)
  | exact .inr ⟨by decide, by decide⟩
  | exact .inl ⟨by decide, by decide⟩
  | exact .inl ⟨by omega, by omega⟩
  | omega)
local macro_rules | `(tactic| k_clsL) => `(tactic| exact Nat.le_of_ble_eq_true rfl)
def Good (lo : Int) (l : List Int) : Prop := l.Pairwise (· < ·) ∧ (∀ b ∈ l, lo ≤ b ∧ b ≤ 8) ∧ l.length ≤ 9
theorem pow9 : ∀ n : Nat, n ≤ 9 → 0 < (2 : Int) ^ n ∧ (2 : Int) ^ n ≤ 512 := by decide
theorem good_snoc {lo hi : Int} {l : List Int} (h1 : l.Pairwise (· < ·)) (h2 : ∀ b ∈ l, lo ≤ b ∧ b < hi) (h : lo ≤ hi) : (l ++ [hi]).Pairwise (· < ·) ∧ ∀ b ∈ l ++ [hi], lo ≤ b ∧ b < hi + 1 := by
  constructor
  · rw [List.pairwise_append]
    refine ⟨h1, by simp, fun a ha b hb => ?_⟩
    rw [List.mem_singleton.mp hb]
    exact (h2 a ha).2
  · intro b hb
    rcases List.mem_append.mp hb with hb | hb
    · have := h2 b hb
      omega
    · rw [List.mem_singleton.mp hb]
      omega
section
variable {P : Program} {w : World} {K : PySem.W.Frag} {mg : Str → Option Value} {base : Heap}
def sp_law_numbers : Sp := fun vs H Q _ => ∃ (cell : Int), vs = [.int cell] ∧
  ∀ (H' : Hp) (p pb ps : Addr) (bs ss : List Int), Same H H' → H' p = some (.tup [.ref pb, .ref ps]) → H' pb = some (.lst (bs.map V.int)) → H' ps = some (.lst (ss.map V.int)) → Good 1 bs → Good 0 ss → Q (.ref p) H'
theorem ok_law_numbers (T : Txt K mg) : FnOk P w K mg base CX0 1 T.f_law_numbers T.d_law_numbers ["cell"] sp_law_numbers := by
  refine T.F_law_numbers.ok sc_law_numbers (fun vs H Q E h => ?_) (fun cdv A outer s H vs Q E hr h => ?_)
  · obtain ⟨_, rfl, _⟩ := h
    rfl
  · obtain ⟨cell, rfl, q⟩ := h
    refine ⟨_, (pss_cons (ps_set (i := 1) sc_law_numbers.nd rfl (.inr rfl) (pe_callB call_abs (by rfl) T.z_abs (by decide +kernel) (pa_cons (pe_callTy call_intI (by rfl) T.z_int (by decide +kernel) (pa_cons (pv 0) pa_nil)) pa_nil)))
      (pss_cons (ps_setLc (i := 2) (own := [("k", 4)]) (g := gName 4) rfl sc_law_numbers.nd rfl rfl (sw_true rfl rfl rfl (by decide +kernel)) (pi_range2 (by rfl) T.z_range (pa_cons pe_int (pa_cons pe_int pa_nil))) (blkOk_by (own := [("k", 4)]) (N := N_law_numbers) (sc := defScope s_law_numbers) (by decide +kernel)) (fun _ _ _ _ _ => pg_name (i := 4) sc_law_numbers.nd rfl (Or.inl rfl)) (fun _ _ _ _ _ => pts_one (pt_cmpR op_eq (pe_op op_mod (pe_op op_fdiv (pv 1) (pe_op op_shl pe_int (pv 4))) pe_int) pe_int (nomark _))) (fun _ _ _ _ _ => (pv 4)))
      (pss_cons (ps_setLc (i := 3) (own := [("k", 4)]) (g := gName 4) rfl sc_law_numbers.nd rfl rfl (sw_true rfl rfl rfl (by decide +kernel)) (pi_range1 (by rfl) T.z_range (pa_cons pe_int pa_nil)) (blkOk_by (own := [("k", 4)]) (N := N_law_numbers) (sc := defScope s_law_numbers) (by decide +kernel)) (fun _ _ _ _ _ => pg_name (i := 4) sc_law_numbers.nd rfl (Or.inl rfl)) (fun _ _ _ _ _ => pts_one (pt_cmpR op_eq (pe_op op_mod (pe_op op_fdiv (pv 1) (pe_op op_shl pe_int (pv 4))) pe_int) pe_int (nomark _))) (fun _ _ _ _ _ => (pv 4)))
      (pss_cons (ps_if (pt_cmpR op_eq (pe_op op_mod (pe_op op_fdiv (pv 1) pe_int) pe_int) pe_int (nomark _))
      (pss_cons (ps_set (i := 2) sc_law_numbers.nd rfl (.inl rfl) (pe_ix ix_list (pe_lst (pa_cons (pe_lst (pa_cons pe_int pa_nil)) (pa_cons (pe_lst (pa_cons pe_int (pa_cons pe_int pa_nil))) (pa_cons (pe_lst (pa_cons pe_int pa_nil)) (pa_cons (pe_lst (pa_cons pe_int (pa_cons pe_int (pa_cons pe_int pa_nil)))) (pa_cons (pe_lst (pa_cons pe_int (pa_cons pe_int pa_nil))) pa_nil)))))) (pe_op op_mod (pe_op op_fdiv (pv 1) pe_int) pe_int) (fun _ _ => rfl)))
      (pss_one (ps_set (i := 3) sc_law_numbers.nd rfl (.inl rfl) (pe_ix ix_list (pe_lst (pa_cons (pe_lst (pa_cons pe_int (pa_cons pe_int pa_nil))) (pa_cons (pe_lst (pa_cons pe_int (pa_cons pe_int pa_nil))) (pa_cons (pe_lst pa_nil) (pa_cons (pe_lst (pa_cons pe_int (pa_cons pe_int (pa_cons pe_int (pa_cons pe_int pa_nil))))) (pa_cons (pe_lst (pa_cons pe_int (pa_cons pe_int (pa_cons pe_int pa_nil)))) pa_nil)))))) (pe_op op_mod (pe_op op_fdiv (pv 1) pe_int) pe_int) (fun _ _ => rfl)))))
      pss_nil)
      (pss_one (ps_ret (pe_tup (pa_cons (pv 2) (pa_cons (pv 3) pa_nil))))))))), ?_⟩
    refine ⟨_, rfl, _, rfl, _, rfl, ?_⟩
    generalize (if cell < 0 then -cell else cell) = x
    -- births
    refine ⟨1, 9, rfl, ⟨by decide, by decide, by decide, by decide⟩, fun p1 n1 => lc_range (lo := 1) (n := 8) (fun i H' => ∃ ys : List Int, Same H H' ∧ H' p1 = some (.lst (ys.map V.int)) ∧ ys.length ≤ i ∧ ys.Pairwise (· < ·) ∧ ∀ b ∈ ys, 1 ≤ b ∧ b < 1 + (i : Int))
      ⟨[], newS n1, upd_same, by simp, by simp, by simp⟩ ?_ ?_⟩
    · rintro i H' hi ⟨ys, sm, hp, hl, h1, h2⟩
      have pw := pow9 (1 + (i : Int)).toNat (by omega)
      refine ⟨rfl, _, rfl, _, rfl, _, _, rfl, rfl, ⟨by omega, by omega, by decide⟩, _, _, rfl, rfl, ⟨?_, ?_⟩, _, _, rfl, rfl, (by k_offL), rfl, _, rfl, ite2 (fun c => ?_) (fun c => ?_)⟩
      · show (0 : Int) < 1 * 2 ^ (1 + (i : Int)).toNat
        omega
      · show (1 : Int) * 2 ^ (1 + (i : Int)).toNat < 1073741824
        omega
      · have g := good_snoc h1 h2 (by omega)
        refine ⟨_, rfl, _, hp, ?_, ys ++ [1 + (i : Int)], mutS sm n1, ?_, by simp; omega, g.1, fun b hb => ?_⟩
        · rw [List.length_map]
          exact Nat.lt_of_lt_of_le (show ys.length < 100 by omega) (by decide)
        · rw [upd_same, List.map_append]
          rfl
        · have := g.2 b hb
          omega
      · exact ⟨ys, sm, hp, by omega, h1, fun b hb => by have := h2 b hb; omega⟩
    rintro H1 ⟨bs, e1, hb, lb, gb1, gb2⟩
    have gb : Good 1 bs := ⟨gb1, fun b h => by have := gb2 b h; omega, by omega⟩
    -- survival
    refine ⟨9, rfl, by decide, by decide, fun p2 n2 => lc_range (lo := 0) (n := 9) (fun i H' => ∃ ys : List Int, Same H1 H' ∧ H' p2 = some (.lst (ys.map V.int)) ∧ ys.length ≤ i ∧ ys.Pairwise (· < ·) ∧ ∀ b ∈ ys, 0 ≤ b ∧ b < 0 + (i : Int))
      ⟨[], newS n2, upd_same, by simp, by simp, by simp⟩ ?_ ?_⟩
    · rintro i H' hi ⟨ys, sm, hp, hl, h1, h2⟩
      have pw := pow9 (0 + (i : Int)).toNat (by omega)
      refine ⟨rfl, _, rfl, _, rfl, _, _, rfl, rfl, ⟨by omega, by omega, by decide⟩, _, _, rfl, rfl, ⟨?_, ?_⟩, _, _, rfl, rfl, (by k_offL), rfl, _, rfl, ite2 (fun c => ?_) (fun c => ?_)⟩
      · show (0 : Int) < 512 * 2 ^ (0 + (i : Int)).toNat
        omega
      · show (512 : Int) * 2 ^ (0 + (i : Int)).toNat < 1073741824
        omega
      · have g := good_snoc h1 h2 (by omega)
        refine ⟨_, rfl, _, hp, ?_, ys ++ [0 + (i : Int)], mutS sm n2, ?_, by simp; omega, g.1, fun b hb => ?_⟩
        · rw [List.length_map]
          exact Nat.lt_of_lt_of_le (show ys.length < 100 by omega) (by decide)
        · rw [upd_same, List.map_append]
          rfl
        · have := g.2 b hb
          omega
      · exact ⟨ys, sm, hp, by omega, h1, fun b hb => by have := h2 b hb; omega⟩
    rintro H2 ⟨ss, e2, hs, ls, gs1, gs2⟩
    have gs : Good 0 ss := ⟨gs1, fun b h => by have := gs2 b h; omega, by omega⟩
    have hb2 := getS e2 hb
    have e02 := e1.trans e2
    -- if
    refine ⟨_, rfl, _, _, rfl, rfl, ⟨by decide, by decide⟩, _, _, rfl, rfl, (by k_offL), rfl, _, rfl, ite2 (fun c => ?_) (fun c => ?_)⟩
    · refine ⟨by decide, fun a1 m1 => ?_⟩
      k_invariant "new" (m1, A1, ea1, h1)
      refine ⟨by decide, fun a2 m2 => ?_⟩
      k_invariant "new" (m2, A2, ea2, h2)
      refine ⟨by decide, fun a3 m3 => ?_⟩
      k_invariant "new" (m3, A3, ea3, h3)
      refine ⟨by decide, fun a4 m4 => ?_⟩
      k_invariant "new" (m4, A4, ea4, h4)
      refine ⟨by decide, fun a5 m5 => ?_⟩
      k_invariant "new" (m5, A5, ea5, h5)
      refine ⟨by k_clsL, fun a6 m6 => ?_⟩
      k_invariant "new" (m6, A6, ea6, h6)
      have pick : ∃ (pb : Addr) (l : List Int), atI [V.ref a1, .ref a2, .ref a3, .ref a4, .ref a5] (x / 786432 % 5) = some (.ref pb) ∧ A6 pb = some (.lst (l.map V.int)) ∧ Good 1 l := by
        have z0 := Int.emod_nonneg (x / 786432) (show (5 : Int) ≠ 0 by decide)
        have z1 := Int.emod_lt_of_pos (x / 786432) (show (0 : Int) < 5 by decide)
        generalize x / 786432 % 5 = j at z0 z1
        have : j = 0 ∨ j = 1 ∨ j = 2 ∨ j = 3 ∨ j = 4 := by omega
        rcases this with rfl | rfl | rfl | rfl | rfl
        · exact ⟨a1, [3], rfl, by k_subL, by unfold Good; decide⟩
        · exact ⟨a2, [3, 6], rfl, by k_subL, by unfold Good; decide⟩
        · exact ⟨a3, [2], rfl, by k_subL, by unfold Good; decide⟩
        · exact ⟨a4, [3, 7, 8], rfl, by k_subL, by unfold Good; decide⟩
        · exact ⟨a5, [2, 5], rfl, by k_subL, by unfold Good; decide⟩
      obtain ⟨pb, l, hpk, hl, gl⟩ := pick
      refine ⟨_, rfl, _, _, rfl, rfl, ⟨by decide, by decide⟩, _, _, rfl, rfl, (by k_offL), _, _, _, _, rfl, rfl, by k_subL, hpk, ?_⟩
      refine ⟨by decide, fun b1 m1 => ?_⟩
      k_invariant "new" (m1, B1, eb1, h1)
      refine ⟨by decide, fun b2 m2 => ?_⟩
      k_invariant "new" (m2, B2, eb2, h2)
      refine ⟨by decide, fun b3 m3 => ?_⟩
      k_invariant "new" (m3, B3, eb3, h3)
      refine ⟨by decide, fun b4 m4 => ?_⟩
      k_invariant "new" (m4, B4, eb4, h4)
      refine ⟨by decide, fun b5 m5 => ?_⟩
      k_invariant "new" (m5, B5, eb5, h5)
      refine ⟨by k_clsL, fun b6 m6 => ?_⟩
      k_invariant "new" (m6, B6, eb6, h6)
      have pick : ∃ (pb : Addr) (l : List Int), atI [V.ref b1, .ref b2, .ref b3, .ref b4, .ref b5] (x / 3932160 % 5) = some (.ref pb) ∧ B6 pb = some (.lst (l.map V.int)) ∧ Good 0 l := by
        have z0 := Int.emod_nonneg (x / 3932160) (show (5 : Int) ≠ 0 by decide)
        have z1 := Int.emod_lt_of_pos (x / 3932160) (show (0 : Int) < 5 by decide)
        generalize x / 3932160 % 5 = j at z0 z1
        have : j = 0 ∨ j = 1 ∨ j = 2 ∨ j = 3 ∨ j = 4 := by omega
        rcases this with rfl | rfl | rfl | rfl | rfl
        · exact ⟨b1, [2, 3], rfl, by k_subL, by unfold Good; decide⟩
        · exact ⟨b2, [2, 3], rfl, by k_subL, by unfold Good; decide⟩
        · exact ⟨b3, [], rfl, by k_subL, by unfold Good; decide⟩
        · exact ⟨b4, [2, 3, 4, 5], rfl, by k_subL, by unfold Good; decide⟩
        · exact ⟨b5, [3, 4, 6], rfl, by k_subL, by unfold Good; decide⟩
      obtain ⟨ps, m, hpk2, hm, gm⟩ := pick
      refine ⟨_, rfl, _, _, rfl, rfl, ⟨by decide, by decide⟩, _, _, rfl, rfl, (by k_offL), _, _, _, _, rfl, rfl, by k_subL, hpk2, ?_⟩
      refine ⟨_, rfl, _, rfl, by k_clsL, fun r nr => ?_⟩
      k_invariant "new" (nr, R1, er, hr1)
      exact q R1 r pb ps l m (e02.trans (ea1.trans (ea2.trans (ea3.trans (ea4.trans (ea5.trans (ea6.trans (eb1.trans (eb2.trans (eb3.trans (eb4.trans (eb5.trans (eb6.trans er))))))))))))) hr1 (by k_subL) (by k_subL) gl gm
    · refine ⟨_, rfl, _, rfl, by k_clsL, fun r nr => ?_⟩
      k_invariant "new" (nr, R1, er, hr1)
      exact q R1 r p1 p2 bs ss (e02.trans er) hr1 (by k_subL) (by k_subL) gb gs
end
end My
namespace My
open PySem PySem.Spec PyProof.Rows L2 Vx
local macro_rules | `(tactic| k_invariant "new" ($n, $H:ident, $e:ident, $h:ident)) => `(tactic| (generalize hE : upd _ _ _ = $H; obtain ⟨$e:ident, $h:ident⟩ := gen_e hE $n; clear hE))
local macro_rules | `(tactic| k_places) => `(tactic| first
  | assumption
  | exact lst_of (by assumption)
  | exact tup_of (by assumption)
  | (refine getS (by assumption) ?_; k_places)
  | (refine Same.seq (by assumption) ?_; k_places)
  | (refine tupS (by assumption) ?_; k_places)
  | (refine lst_of ?_; k_places)
  | (refine tup_of ?_; k_places))
local macro_rules | `(tactic| k_subL) => `(tactic| first
  | k_places
  | solve_by_elim (maxDepth := 10) [getS, lst_of, tup_of, Same.seq, tupS])
local macro_rules | `(tactic| k_offL) => `(tactic| first
  | (show (0 : Int) < _; first | omega | decide)
  | (refine ⟨?_, ?_⟩ <;> first | omega | decide)
  | exact .inr ⟨by decide, by decide⟩
  | exact .inl ⟨by decide, by decide⟩
  | exact .inl ⟨by omega, by omega⟩
  | omega)
local macro_rules | `(tactic| k_clsL) => `(tactic| exact Nat.le_of_ble_eq_true rfl)
/-! ### rules -/
theorem bs_ne : ¬ (("births" : Str) = "survival") := by decide +kernel
theorem sb_ne : ¬ (("survival" : Str) = "births") := by decide +kernel
def rf (tb ts : Addr) : List (Str × V) := putF "survival" (.ref ts) (putF "births" (.ref tb) [])
theorem rf_b (tb ts : Addr) : (rf tb ts).lookup ("births" : Str) = some (.ref tb) := by
  unfold rf
  rw [lookup_putF, if_neg bs_ne, lookup_putF, if_pos rfl]
theorem rf_s (tb ts : Addr) : (rf tb ts).lookup ("survival" : Str) = some (.ref ts) := by
  unfold rf
  rw [lookup_putF, if_pos rfl]
theorem rf_no (tb ts : Addr) {m : Str} (h1 : ¬ m = "survival") (h2 : ¬ m = "births") : (rf tb ts).lookup m = none := by
  unfold rf
  rw [lookup_putF, if_neg h1, lookup_putF, if_neg h2]
  rfl
def RuleAt (C : Addr) (H : Hp) (r : Addr) (bs ss : List Int) : Prop :=
  ∃ dx tb ts, H r = some (.ins C dx (rf tb ts)) ∧ H tb = some (.tup (bs.map V.int)) ∧ H ts = some (.tup (ss.map V.int))
theorem RuleAt.up {C : Addr} {H H' : Hp} {r : Addr} {bs ss : List Int} (e : Same H H') (h : RuleAt C H r bs ss) : RuleAt C H' r bs ss := by
  obtain ⟨dx, tb, ts, h1, h2, h3⟩ := h
  exact ⟨dx, tb, ts, e _ _ h1, e _ _ h2, e _ _ h3⟩
def Canon (ns l : List Int) : Prop := l.Pairwise (· < ·) ∧ ∀ k, k ∈ l ↔ k ∈ ns
theorem canon_eq {ns l m : List Int} (h : Canon ns l) (h2 : m.Pairwise (· < ·)) (h3 : ∀ k, k ∈ ns ↔ k ∈ m) : l = m := asc_eq h.1 h2 fun k => (h.2 k).trans (h3 k)
section
variable {P : Program} {w : World} {K : PySem.W.Frag} {mg : Str → Option Value} {base : Heap}
def sp_Rule_init (K : PySem.W.Frag) (C : Addr) : Sp := fun vs H Q _ => ∃ (H0 : Hp) (r lb ls dx : Addr) (nb ns : List Int), vs = [.ref r, .ref lb, .ref ls] ∧ Same H0 H ∧ H0 r = none ∧ H r = some (.ins C dx []) ∧
  SqL K H0 lb (nb.map V.int) ∧ SqL K H0 ls (ns.map V.int) ∧ nb.length ≤ 63 ∧ ns.length ≤ 63 ∧
  ∀ (H' : Hp) (bs ss : List Int), Same H0 H' → RuleAt C H' r bs ss → Canon nb bs → Canon ns ss → Q .non H'
theorem ok_Rule_init (T : Txt K mg) : FnOk P w K mg base CX0 1 T.f_Rule_init T.d_Rule_init ["self", "births", "survival"] (sp_Rule_init K T.C_Rule) := by
  refine T.F_Rule_init.ok sc_Rule_init (fun vs H Q E h => ?_) (fun cdv A outer s H vs Q E hr h => ?_)
  · obtain ⟨_, _, _, _, _, _, _, rfl, _⟩ := h
    rfl
  · obtain ⟨H0, r, lb, ls, dx, nb, ns, rfl, s0, r0, hr0, hb, hs, l1, l2, q⟩ := h
    refine ⟨_, (pss_cons (ps_fld (pv 0) (pe_callTy call_tupL (by rfl) T.z_tuple (by decide +kernel) (pa_cons (pe_callB (cr_sortedSet rfl) (by rfl) T.z_sorted (by decide +kernel) (pa_cons (pe_callTy (cr_setL rfl) (by rfl) T.z_set (by decide +kernel) (pa_cons (pv 1) pa_nil)) pa_nil)) pa_nil)) rfl)
      (pss_one (ps_fld (pv 0) (pe_callTy call_tupL (by rfl) T.z_tuple (by decide +kernel) (pa_cons (pe_callB (cr_sortedSet rfl) (by rfl) T.z_sorted (by decide +kernel) (pa_cons (pe_callTy (cr_setL rfl) (by rfl) T.z_set (by decide +kernel) (pa_cons (pv 2) pa_nil)) pa_nil)) pa_nil)) rfl))), ?_⟩
    refine ⟨_, rfl, lb, nb, rfl, s0.seq hb, Nat.lt_of_le_of_lt (Nat.add_le_add_right l1 1) (by decide), fun p1 c1 n1 hc1 => ?_⟩
    k_invariant "new" (n1, H1, e1, h1)
    refine ⟨_, _, _, rfl, h1, by omega, fun bs p2 pw1 mem1 len1 n2 => ?_⟩
    k_invariant "new" (n2, H2, e2, h2)
    refine ⟨_, _, rfl, lst_of h2, fun p3 n3 => ?_⟩
    k_invariant "new" (n3, H3, e3, h3)
    refine ⟨_, rfl, r, T.C_Rule, dx, [], rfl, by k_subL, T.cl_Rule, T.na_Rule_births, (by show 0 < 1000; decide), ?_⟩
    have s3 : Same H0 H3 := s0.trans (e1.trans (e2.trans e3))
    have r3 : p3 ≠ r := fun e => by
      have : H3 r = some (.ins T.C_Rule dx []) := by k_subL
      rw [e] at h3
      rw [h3] at this
      cases this
    have s4 : Same H0 (upd H3 r (.ins T.C_Rule dx (putF "births" (.ref p3) []))) := mutS s3 r0
    have g4 : upd H3 r (.ins T.C_Rule dx (putF "births" (.ref p3) [])) r = some (.ins T.C_Rule dx (putF "births" (.ref p3) [])) := upd_same
    have g3 : upd H3 r (.ins T.C_Rule dx (putF "births" (.ref p3) [])) p3 = some (.tup (bs.map V.int)) := by rw [upd_ne r3]; exact h3
    generalize upd H3 r (.ins T.C_Rule dx (putF "births" (.ref p3) [])) = H4 at s4 g4 g3
    refine ⟨_, rfl, ls, ns, rfl, s4.seq hs, Nat.lt_of_le_of_lt (Nat.add_le_add_right l2 1) (by decide), fun p5 c2 n5 hc2 => ?_⟩
    k_invariant "new" (n5, H5, e5, h5)
    refine ⟨_, _, _, rfl, h5, by omega, fun ss p6 pw2 mem2 len2 n6 => ?_⟩
    k_invariant "new" (n6, H6, e6, h6)
    refine ⟨_, _, rfl, lst_of h6, fun p7 n7 => ?_⟩
    k_invariant "new" (n7, H7, e7, h7)
    have g8 : H7 r = some (.ins T.C_Rule dx (putF "births" (.ref p3) [])) := by k_subL
    refine ⟨_, rfl, r, T.C_Rule, dx, _, rfl, g8, T.cl_Rule, T.na_Rule_survival, (by show 1 < 1000; decide), ?_⟩
    have r7 : p7 ≠ r := fun e => by
      have : H7 r = some (.ins T.C_Rule dx (putF "births" (.ref p3) [])) := by k_subL
      rw [e] at h7
      rw [h7] at this
      cases this
    have g7 : H7 p3 = some (.tup (bs.map V.int)) := by k_subL
    refine q _ bs ss (mutS (s4.trans (e5.trans (e6.trans e7))) r0) ⟨dx, p3, p7, upd_same, ?_, ?_⟩ ⟨pw1, fun k => (mem1 k).trans (by simp)⟩ ⟨pw2, fun k => (mem2 k).trans (by simp)⟩
    · rw [upd_ne r3]; exact g7
    · rw [upd_ne r7]; exact h7
end
end My
namespace My
open PySem PySem.Spec PyProof.Rows L2 Vx
local macro_rules | `(tactic| k_invariant "new" ($n, $H:ident, $e:ident, $h:ident)) => `(tactic| (generalize hE : upd _ _ _ = $H; obtain ⟨$e:ident, $h:ident⟩ := gen_e hE $n; clear hE))
local macro_rules | `(tactic| k_places) => `(tactic| first
  | assumption
  | exact lst_of (by assumption)
  | exact tup_of (by assumption)
  | (refine getS (by assumption) ?_; k_places)
  | (refine Same.seq (by assumption) ?_; k_places)
  | (refine tupS (by assumption) ?_; k_places)
  | (refine lst_of ?_; k_places)
  | (refine tup_of ?_; k_places))
local macro_rules | `(tactic| k_subL) => `(tactic| first
  | k_places
  | solve_by_elim (maxDepth := 10) [getS, lst_of, tup_of, Same.seq, tupS])
local macro_rules | `(tactic| k_offL) => `(tactic| first
  | (show (0 : Int) < _; first | omega | decide)
  | (refine ⟨?_, ?_⟩ <;> first | omega | decide)
  | exact .inr ⟨by decide, by decide⟩
  | exact .inl ⟨by decide, by decide⟩
  | exact .inl ⟨by omega, by omega⟩
  | omega)
local macro_rules | `(tactic| k_clsL) => `(tactic| exact Nat.le_of_ble_eq_true rfl)
section
variable {P : Program} {w : World} {K : PySem.W.Frag} {mg : Str → Option Value} {base : Heap}
def sp_Rule_lives (C : Addr) : Sp := fun vs H Q _ => ∃ (r : Addr) (al : Bool) (n : Int) (bs ss : List Int), vs = [.ref r, .bl al, .int n] ∧ RuleAt C H r bs ss ∧ Q (.bl (decide (n ∈ if al = true then ss else bs))) H
theorem ok_Rule_lives (T : Txt K mg) : FnOk P w K mg base CX0 1 T.f_Rule_lives T.d_Rule_lives ["self", "alive", "count"] (sp_Rule_lives T.C_Rule) := by
  refine T.F_Rule_lives.ok sc_Rule_lives (fun vs H Q E h => ?_) (fun cdv A outer s H vs Q E hr h => ?_)
  · obtain ⟨_, _, _, _, _, rfl, _⟩ := h
    rfl
  · obtain ⟨r, al, n, bs, ss, rfl, ⟨dx, tb, ts, h1, h2, h3⟩, q⟩ := h
    refine ⟨_, (pss_cons (ps_set (i := 3) sc_Rule_lives.nd rfl (.inl rfl) (pe_ifExp (pt_val (pv 1)) (pe_fld (pv 0) rfl) (pe_fld (pv 0) rfl)))
      (pss_one (ps_ret (pe_cmpR op_in_seq (pv 2) (pv 3) rfl)))), ?_⟩
    refine ⟨_, rfl, _, rfl, ?_⟩
    cases al with
    | true =>
      refine iteT ⟨_, rfl, r, _, _, _, _, rfl, h1, T.cl_Rule, T.na_Rule_survival, rf_s _ _, _, rfl, _, rfl, _, _, rfl, .inr (tup_of h3), rfl, flat_ints _, ?_⟩
      rw [if_neg Bool.false_ne_true, inV_ints]
      exact q
    | false =>
      refine iteF ⟨_, rfl, r, _, _, _, _, rfl, h1, T.cl_Rule, T.na_Rule_births, rf_b _ _, _, rfl, _, rfl, _, _, rfl, .inr (tup_of h2), rfl, flat_ints _, ?_⟩
      rw [if_neg Bool.false_ne_true, inV_ints]
      exact q
def sp_Rule_eq (K : PySem.W.Frag) (C : Addr) : Sp := fun vs H Q _ => ∃ (r : Addr) (y : V) (bs ss : List Int), vs = [.ref r, y] ∧ RuleAt C H r bs ss ∧
  ((∃ b cs ts, y = .ref b ∧ RuleAt C H b cs ts ∧ Q (.bl (decide (bs = cs) && decide (ss = ts))) H) ∨ ∃ T, TyB K H y T ∧ Q (.bl false) H)
theorem ok_Rule_eq (T : Txt K mg) : FnOk P w K mg base CX0 1 T.f_Rule_eq T.d_Rule_eq ["self", "other"] (sp_Rule_eq K T.C_Rule) := by
  refine T.F_Rule_eq.ok sc_Rule_eq (fun vs H Q E h => ?_) (fun cdv A outer s H vs Q E hr h => ?_)
  · obtain ⟨_, _, _, _, rfl, _⟩ := h
    rfl
  · obtain ⟨r, y, bs, ss, rfl, ⟨dx, tb, ts, h1, h2, h3⟩, h⟩ := h
    refine ⟨_, (pss_cons (ps_if (pt_cmpR (OpR.or op_is_cls op_isCT) (pe_callTy cr_type (by rfl) T.z_type (by decide +kernel) (pa_cons (pv 0) pa_nil)) (pe_callTy (CallR.or cr_type call_type1) (by rfl) T.z_type (by decide +kernel) (pa_cons (pv 1) pa_nil)) (nomark _))
      (pss_one (ps_ret (pe_and (pe_cmpR (op_eqD hr.units) (pe_fld (pv 0) rfl) (pe_fld (pv 1) rfl) (nomark _)) (pe_one (pe_cmpR (op_eqD hr.units) (pe_fld (pv 0) rfl) (pe_fld (pv 1) rfl) (nomark _))))))
      pss_nil)
      (pss_one (ps_ret pe_bl))), ?_⟩
    rcases h with ⟨b, cs, us, rfl, ⟨dx', tb', ts', g1, g2, g3⟩, q⟩ | ⟨U, ty, q⟩
    · refine ⟨_, rfl, r, _, _, _, rfl, h1, _, rfl, .inl ⟨b, _, _, _, rfl, g1, .inl ⟨_, _, rfl, rfl, .inl rfl, _, rfl, ite2 (fun _ => ?_) (fun c => absurd (decide_eq_true rfl) c)⟩⟩⟩
      refine ⟨_, rfl, r, _, _, _, _, rfl, h1, T.cl_Rule, T.na_Rule_births, rf_b _ _, _, rfl, b, _, _, _, _, rfl, g1, T.cl_Rule, T.na_Rule_births, rf_b _ _, _, _, dp_tupI (tup_of h2), dp_tupI (tup_of g2), shaped_tupI _, shaped_tupI _, _, rfl, ?_⟩
      rw [eqv_tupI]
      refine ite2 (fun c => ?_) (fun c => ?_)
      · refine ⟨_, rfl, r, _, _, _, _, rfl, h1, T.cl_Rule, T.na_Rule_survival, rf_s _ _, _, rfl, b, _, _, _, _, rfl, g1, T.cl_Rule, T.na_Rule_survival, rf_s _ _, _, _, dp_tupI (tup_of h3), dp_tupI (tup_of g3), shaped_tupI _, shaped_tupI _, ?_⟩
        rw [eqv_tupI]
        rw [c, Bool.true_and] at q
        exact q
      · rw [Bool.eq_false_iff.mpr c, Bool.false_and] at q
        exact q
    · refine ⟨_, rfl, r, _, _, _, rfl, h1, _, rfl, .inr ⟨y, U, rfl, ty, .inr ⟨_, _, rfl, rfl, _, rfl, iteF ?_⟩⟩⟩
      exact q
end
end My
namespace My
open PySem PySem.Spec PyProof.Rows L2 Vx
local macro_rules | `(tactic| k_invariant "new" ($n, $H:ident, $e:ident, $h:ident)) => `(tactic| (generalize hE : upd _ _ _ = $H; obtain ⟨$e:ident, $h:ident⟩ := gen_e hE $n; clear hE))
local macro_rules | `(tactic| k_places) => `(tactic| first
  | assumption
  | exact lst_of (by assumption)
  | exact tup_of (by assumption)
  | (refine getS (by assumption) ?_; k_places)
  | (refine Same.seq (by assumption) ?_; k_places)
  | (refine tupS (by assumption) ?_; k_places)
  | (refine lst_of ?_; k_places)
  | (refine tup_of ?_; k_places))
local macro_rules | `(tactic| k_subL) => `(tactic| first
  | k_places
  | solve_by_elim (maxDepth := 10) [getS, lst_of, tup_of, Same.seq, tupS])
local macro_rules | `(tactic| k_offL) => `(tactic| first
  | (show (0 : Int) < _; first | omega | decide)
  | (refine ⟨?_, ?_⟩ <;> first | omega | decide)
  | exact .inr ⟨by decide, by decide⟩
  | exact .inl ⟨by decide, by decide⟩
  | exact .inl ⟨by omega, by omega⟩
  | omega)
local macro_rules | `(tactic| k_clsL) => `(tactic| exact Nat.le_of_ble_eq_true rfl)
open TL
/-! ### the written form -/
def dg (n : Int) : Str := Str.ofString (toString n)
def digS (ns : List Int) : Str := Txt.join (Str.ofString "") (ns.map dg)
def ruleT (bs ss : List Int) : Str := ((Str.ofString "B" ++ digS bs) ++ Str.ofString "/S") ++ digS ss
def Dig (ns : List Int) : Prop := ∀ n ∈ ns, 0 ≤ n ∧ n < 10
theorem tl_dg {n : Int} (h0 : 0 ≤ n) (h1 : n < 10) : tl (dg n) = [48 + n.toNat] := by
  have e : n = ((n.toNat : Nat) : Int) := by omega
  unfold dg
  rw [e, tl_num, Int.toNat_natCast]
  exact numL_lt (by omega)
theorem joinL_nil : ∀ ps : List (List Nat), joinL [] ps = ps.flatten
  | [] => rfl
  | [p] => by simp [joinL]
  | p :: q :: r => by
    show p ++ ([] ++ joinL [] (q :: r)) = _
    rw [joinL_nil (q :: r)]
    rfl
theorem tl_empty : tl (Str.ofString "") = [] := by decide +kernel
theorem tl_digS {ns : List Int} (h : Dig ns) : tl (digS ns) = ns.map fun n => 48 + n.toNat := by
  unfold digS
  rw [join_eq, tl_join, tl_empty, joinL_nil]
  induction ns with
  | nil => rfl
  | cons n r ih =>
    have hn := h n List.mem_cons_self
    rw [List.map_cons, List.map_cons, List.flatten_cons, tl_dg hn.1 hn.2, List.map_cons, ih fun x hx => h x (List.mem_cons_of_mem _ hx)]
    rfl
theorem len_digS {ns : List Int} (h : Dig ns) : (digS ns).length = ns.length := by
  rw [len_tl, tl_digS h, List.length_map]
theorem len_app (a b : Str) : (a ++ b).length = a.length + b.length := by
  rw [len_tl, tl_append, List.length_append, ← len_tl, ← len_tl]
theorem len_B : (Str.ofString "B").length = 1 := by decide +kernel
theorem len_S : (Str.ofString "/S").length = 2 := by decide +kernel
theorem tl_B : tl (Str.ofString "B") = [66] := by decide +kernel
theorem tl_S : tl (Str.ofString "/S") = [47, 83] := by decide +kernel
theorem len_ruleT {bs ss : List Int} (h1 : Dig bs) (h2 : Dig ss) : (ruleT bs ss).length = bs.length + ss.length + 3 := by
  unfold ruleT
  rw [len_app, len_app, len_app, len_B, len_S, len_digS h1, len_digS h2]
  omega
theorem part_ruleT {bs ss : List Int} (h1 : Dig bs) : Txt.partition (ruleT bs ss) (Str.ofString "/S") = (Str.ofString "B" ++ digS bs, Str.ofString "/S", digS ss) := by
  unfold ruleT
  refine partition_app (s := 47) (S := [83]) tl_S ?_
  rw [tl_append, tl_B, tl_digS h1]
  intro h
  rcases List.mem_append.mp h with h | h
  · simp at h
  · obtain ⟨n, hn, e⟩ := List.mem_map.mp h
    omega
/-- the numbers that are read off a text -/
def numsOf (z d : Str) : List Int := ((tl z).filter fun c => decide (c ∈ tl d)).map fun (c : Nat) => (c : Int) - 48
theorem tl_birth : tl (Str.ofString "12345678") = [49, 50, 51, 52, 53, 54, 55, 56] := by decide +kernel
theorem tl_surv : tl (Str.ofString "012345678") = [48, 49, 50, 51, 52, 53, 54, 55, 56] := by decide +kernel
theorem nums_dig {ns : List Int} {d : Str} (h : Dig ns) (hd : ∀ n ∈ ns, 48 + n.toNat ∈ tl d) : (((ns.map fun n => 48 + n.toNat).filter fun c => decide (c ∈ tl d)).map fun (c : Nat) => (c : Int) - 48) = ns := by
  induction ns with
  | nil => rfl
  | cons n r ih =>
    have hn := h n List.mem_cons_self
    have e : (((48 + n.toNat : Nat) : Int) - 48) = n := by omega
    rw [List.map_cons, List.filter_cons, if_pos (decide_eq_true (hd n List.mem_cons_self)), List.map_cons, ih (fun x hx => h x (List.mem_cons_of_mem _ hx)) fun x hx => hd x (List.mem_cons_of_mem _ hx), e]
theorem nums_births {bs : List Int} (h : ∀ n ∈ bs, 1 ≤ n ∧ n ≤ 8) : numsOf (Str.ofString "B" ++ digS bs) (Str.ofString "12345678") = bs := by
  have hd : Dig bs := fun n hn => by have := h n hn; omega
  unfold numsOf
  rw [tl_append, tl_B, tl_digS hd, List.filter_append, tl_birth]
  rw [show (List.filter (fun c => decide (c ∈ [49, 50, 51, 52, 53, 54, 55, 56])) [66]) = [] by decide, List.nil_append, ← tl_birth]
  refine nums_dig hd fun n hn => ?_
  rw [tl_birth]
  have := h n hn
  have e : n.toNat = 1 ∨ n.toNat = 2 ∨ n.toNat = 3 ∨ n.toNat = 4 ∨ n.toNat = 5 ∨ n.toNat = 6 ∨ n.toNat = 7 ∨ n.toNat = 8 := by omega
  rcases e with e | e | e | e | e | e | e | e <;> rw [e] <;> decide
theorem nums_survival {ss : List Int} (h : ∀ n ∈ ss, 0 ≤ n ∧ n ≤ 8) : numsOf (digS ss) (Str.ofString "012345678") = ss := by
  have hd : Dig ss := fun n hn => by have := h n hn; omega
  unfold numsOf
  rw [tl_digS hd]
  refine nums_dig hd fun n hn => ?_
  rw [tl_surv]
  have := h n hn
  have e : n.toNat = 0 ∨ n.toNat = 1 ∨ n.toNat = 2 ∨ n.toNat = 3 ∨ n.toNat = 4 ∨ n.toNat = 5 ∨ n.toNat = 6 ∨ n.toNat = 7 ∨ n.toNat = 8 := by omega
  rcases e with e | e | e | e | e | e | e | e | e <;> rw [e] <;> decide
theorem int_sign : ∀ c : Nat, 48 ≤ c → c ≤ 57 → PySem.intText? ⟨#[c]⟩ = some ((c : Int) - 48) := by
  intro c h0 h1
  have e : c = 48 ∨ c = 49 ∨ c = 50 ∨ c = 51 ∨ c = 52 ∨ c = 53 ∨ c = 54 ∨ c = 55 ∨ c = 56 ∨ c = 57 := by omega
  rcases e with rfl | rfl | rfl | rfl | rfl | rfl | rfl | rfl | rfl | rfl <;> decide +kernel
end My
namespace My
open PySem PySem.Spec PyProof.Rows L2 Vx
local macro_rules | `(tactic| k_invariant "new" ($n, $H:ident, $e:ident, $h:ident)) => `(tactic| (generalize hE : upd _ _ _ = $H; obtain ⟨$e:ident, $h:ident⟩ := gen_e hE $n; clear hE))
local macro_rules | `(tactic| k_places) => `(tactic| first
  | assumption
  | exact lst_of (by assumption)
  | exact tup_of (by assumption)
  | (refine getS (by assumption) ?_; k_places)
  | (refine Same.seq (by assumption) ?_; k_places)
  | (refine tupS (by assumption) ?_; k_places)
  | (refine lst_of ?_; k_places)
  | (refine tup_of ?_; k_places))
local macro_rules | `(tactic| k_subL) => `(tactic| first
  | k_places
  | solve_by_elim (maxDepth := 10) [getS, lst_of, tup_of, Same.seq, tupS])
local macro_rules | `(tactic| k_offL) => `(tactic| first
  | (show (0 : Int) < _; first | omega | decide)
  | (refine ⟨?_, ?_⟩ <;> first | omega | decide)
  | exact .inr ⟨by decide, by decide⟩
  | exact .inl ⟨by decide, by decide⟩
  | exact .inl ⟨by omega, by omega⟩
  | omega)
local macro_rules | `(tactic| k_clsL) => `(tactic| exact Nat.le_of_ble_eq_true rfl)
open TL
section
variable {P : Program} {w : World} {K : PySem.W.Frag} {mg : Str → Option Value} {base : Heap}
def sp_digits (K : PySem.W.Frag) : Sp := fun vs H Q _ => ∃ (t : Addr) (ns : List Int), vs = [.ref t] ∧ SqT K H t (ns.map V.int) ∧ Dig ns ∧ ns.length ≤ 1000 ∧ ∀ H', Same H H' → Q (.str (digS ns)) H'
theorem ok_digits (T : Txt K mg) : FnOk P w K mg base CX0 1 T.f_digits T.d_digits ["numbers"] (sp_digits K) := by
  refine T.F_digits.ok sc_digits (fun vs H Q E h => ?_) (fun cdv A outer s H vs Q E hr h => ?_)
  · obtain ⟨_, _, rfl, _⟩ := h
    rfl
  · obtain ⟨t, ns, rfl, ht, hd, hl, q⟩ := h
    refine ⟨_, (pss_one (ps_ret (pe_join pe_str (pe_lc (own := [("number", 1)]) (g := gName 1) (tt := tYes) rfl sc_digits.nd (pi_tup (pv 0)) (blkOk_by (own := [("number", 1)]) (N := N_digits) (sc := defScope s_digits) (by decide +kernel)) (fun _ _ _ _ _ => pg_name (i := 1) sc_digits.nd rfl (Or.inl rfl)) (fun _ _ _ _ _ => pts_nil) (fun _ _ _ _ _ => (pe_callTy call_str_int (by rfl) T.z_str (by decide +kernel) (pa_cons (pv 1) pa_nil))))))), ?_⟩
    refine ⟨⟨_, rfl⟩, _, rfl, t, rfl, ⟨_, ht⟩, fun D nD => lc_tup (K := K) (a := t) (xs := ns.map V.int) (fun i H' => Same H H' ∧ H' D = some (.lst (((ns.take i).map dg).map V.str)))
      ⟨newS nD, by rw [upd_same]; rfl⟩ (fun i H' _ h => tupS h.1 ht) ?_ ?_⟩
    · rintro i x H' hi ⟨sm, hp⟩
      obtain ⟨n, rfl, hn, hm⟩ := item_ints hi
      have hn10 := hd n hm
      refine ⟨rfl, tyesT ⟨_, rfl, n, rfl, ?_, _, hp, ?_, mutS sm nD, ?_⟩⟩
      · have : n.natAbs ≤ 9 := by omega
        have h3 : n.natAbs.log2 ≤ n.natAbs := Nat.log2_le_self _
        omega
      · rw [List.length_map, List.length_map, List.length_take]
        exact Nat.lt_of_lt_of_le (show min i ns.length < 1001 by omega) (by decide)
      · rw [upd_same, List.take_add_one, hn]
        simp [dg]
    · rintro H' ⟨sm, hp⟩
      rw [List.length_map, List.take_length] at hp
      refine ⟨_, D, ns.map dg, rfl, rfl, .inl (lst_of hp), ?_, q H' sm⟩
      have e : ((ns.map dg).map (·.length)) = ns.map fun _ => 1 := by
        rw [List.map_map]
        refine List.map_congr_left fun n hn => ?_
        show (dg n).length = 1
        rw [len_tl, tl_dg (hd n hn).1 (hd n hn).2]
        rfl
      rw [e]
      have e0 : (Str.ofString "").length = 0 := by decide +kernel
      rw [e0, List.map_const', List.sum_replicate_nat]
      omega
def sp_write_rule (C : Addr) : Sp := fun vs H Q _ => ∃ (r : Addr) (bs ss : List Int), vs = [.ref r] ∧ RuleAt C H r bs ss ∧ Dig bs ∧ Dig ss ∧ bs.length ≤ 100 ∧ ss.length ≤ 100 ∧ ∀ H', Same H H' → Q (.str (ruleT bs ss)) H'
theorem ok_write_rule (T : Txt K mg) : FnOk P w K mg base CX0 2 T.f_write_rule T.d_write_rule ["rule"] (sp_write_rule T.C_Rule) := by
  refine T.F_write_rule.ok sc_write_rule (fun vs H Q E h => ?_) (fun cdv A outer s H vs Q E hr h => ?_)
  · obtain ⟨_, _, _, rfl, _⟩ := h
    rfl
  · obtain ⟨r, bs, ss, rfl, ⟨dx, tb, ts, h1, h2, h3⟩, d1, d2, l1, l2, q⟩ := h
    refine ⟨_, (pss_one (ps_ret (pe_op op_add_str (pe_op op_add_str (pe_op op_add_str pe_str (pe_call (ok_digits T) (hr.mono (by decide)) (by rfl) T.g_digits T.F_digits.kp T.b_digits .nil pass0 (pa_cons (pe_fld (pv 0) rfl) pa_nil))) pe_str) (pe_call (ok_digits T) (hr.mono (by decide)) (by rfl) T.g_digits T.F_digits.kp T.b_digits .nil pass0 (pa_cons (pe_fld (pv 0) rfl) pa_nil))))), ?_⟩
    refine ⟨_, rfl, r, _, _, _, _, rfl, h1, T.cl_Rule, T.na_Rule_births, rf_b _ _, tb, bs, rfl, tup_of h2, d1, by omega, fun H1 e1 => ?_⟩
    have z1 := len_digS d1
    have z2 := len_digS d2
    refine ⟨_, _, rfl, rfl, ?_, _, _, rfl, rfl, ?_, _, rfl, r, _, _, _, _, rfl, getS e1 h1, T.cl_Rule, T.na_Rule_survival, rf_s _ _, ts, ss, rfl, tup_of (getS e1 h3), d2, by omega, fun H2 e2 => ⟨_, _, rfl, rfl, ?_, q H2 (e1.trans e2)⟩⟩
    · rw [len_B, z1]
      exact Nat.le_trans (show 1 + bs.length ≤ 200 by omega) (by decide)
    · rw [len_app, len_B, z1, len_S]
      exact Nat.le_trans (show 1 + bs.length + 2 ≤ 200 by omega) (by decide)
    · rw [len_app, len_app, len_B, z1, len_S, z2]
      exact Nat.le_trans (show 1 + bs.length + 2 + ss.length ≤ 400 by omega) (by decide)
def sp_numbers : Sp := fun vs H Q _ => ∃ (z d : Str), vs = [.str z, .str d] ∧ (∀ c ∈ tl d, 48 ≤ c ∧ c ≤ 57) ∧ z.length ≤ 100000 ∧
  ∀ (H' : Hp) (p : Addr), Same H H' → H' p = some (.lst ((numsOf z d).map V.int)) → Q (.ref p) H'
theorem ok_numbers (T : Txt K mg) : FnOk P w K mg base CX0 1 T.f_numbers T.d_numbers ["text", "digits"] sp_numbers := by
  refine T.F_numbers.ok sc_numbers (fun vs H Q E h => ?_) (fun cdv A outer s H vs Q E hr h => ?_)
  · obtain ⟨_, _, rfl, _⟩ := h
    rfl
  · obtain ⟨z, d, rfl, hd, hl, q⟩ := h
    refine ⟨_, (pss_one (ps_ret (pe_lc (own := [("character", 2)]) (g := gName 2) rfl sc_numbers.nd (pi_str (pv 0)) (blkOk_by (own := [("character", 2)]) (N := N_numbers) (sc := defScope s_numbers) (by decide +kernel)) (fun _ _ _ _ _ => pg_name (i := 2) sc_numbers.nd rfl (Or.inl rfl)) (fun _ _ _ _ _ => pts_one (pt_cmpR op_in_sign (pv 2) (pv 1) rfl)) (fun _ _ _ _ _ => (pe_callTy call_int_str (by rfl) T.z_int (by decide +kernel) (pa_cons (pv 2) pa_nil)))))), ?_⟩
    refine ⟨_, rfl, z, rfl, fun D nD => lc_it walk_str (fun i H' => Same H H' ∧ H' D = some (.lst (((((tl z).take i).filter fun c => decide (c ∈ tl d)).map fun (c : Nat) => (c : Int) - 48).map V.int)))
      ⟨newS nD, by rw [upd_same]; rfl⟩ (fun _ _ _ _ => True.intro) ?_ ?_⟩
    · rintro i x H' H'' hi ⟨sm, hp⟩ ⟨rfl, c, hc, rfl⟩
      have hc' : (tl z)[i]? = some c := by
        rw [← hc]
        exact Array.getElem?_toList
      refine ⟨rfl, _, rfl, _, rfl, c, d, rfl, rfl, _, rfl, ite2 (fun t => ?_) (fun t => ?_)⟩
      · have hcd := hd c (of_decide_eq_true t)
        refine ⟨_, rfl, _, _, rfl, int_sign c hcd.1 hcd.2, (by show (1 : Nat) ≤ 640; decide), _, hp, ?_, mutS sm nD, ?_⟩
        · rw [List.length_map, List.length_map]
          refine Nat.lt_of_le_of_lt (List.length_filter_le _ _) ?_
          rw [List.length_take, ← len_tl]
          exact Nat.lt_of_lt_of_le (show min i z.length < 100001 by omega) (by decide)
        · rw [upd_same, List.take_add_one, hc', Option.toList_some, List.filter_append, List.filter_cons, if_pos t]
          simp
      · refine ⟨sm, ?_⟩
        rw [List.take_add_one, hc', Option.toList_some, List.filter_append, List.filter_cons, if_neg t]
        simpa using hp
    · rintro H' ⟨sm, hp⟩
      have e : (tl z).take z.cps.size = tl z := List.take_of_length_le (by rw [Array.length_toList]; exact Nat.le_refl _)
      rw [e] at hp
      exact q H' D sm hp
end
end My
namespace My
open PySem PySem.Spec PyProof.Rows L2 Vx
local macro_rules | `(tactic| k_invariant "new" ($n, $H:ident, $e:ident, $h:ident)) => `(tactic| (generalize hE : upd _ _ _ = $H; obtain ⟨$e:ident, $h:ident⟩ := gen_e hE $n; clear hE))
local macro_rules | `(tactic| k_places) => `(tactic| first
  | assumption
  | exact lst_of (by assumption)
  | exact tup_of (by assumption)
  | (refine getS (by assumption) ?_; k_places)
  | (refine Same.seq (by assumption) ?_; k_places)
  | (refine tupS (by assumption) ?_; k_places)
  | (refine lst_of ?_; k_places)
  | (refine tup_of ?_; k_places))
local macro_rules | `(tactic| k_subL) => `(tactic| first
  | k_places
  | solve_by_elim (maxDepth := 10) [getS, lst_of, tup_of, Same.seq, tupS])
local macro_rules | `(tactic| k_offL) => `(tactic| first
  | (show (0 : Int) < _; first | omega | decide)
  | (refine ⟨?_, ?_⟩ <;> first | omega | decide)
  | exact .inr ⟨by decide, by decide⟩
  | exact .inl ⟨by decide, by decide⟩
  | exact .inl ⟨by omega, by omega⟩
  | omega)
local macro_rules | `(tactic| k_clsL) => `(tactic| exact Nat.le_of_ble_eq_true rfl)
open TL
theorem madeS {C : Addr} {H : Hp} {x dx : Addr} (nx : H x = none) (nd : H dx = none) : Same H (upd (upd H dx (.own x)) x (.ins C dx [])) := fun b o e => by
  rw [upd_ne (ne_of_none e nx), upd_ne (ne_of_none e nd)]
  exact e
theorem RuleAt.mutL {C : Addr} {H : Hp} {r l : Addr} {bs ss : List Int} {xs ys : List V} (hl : H l = some (.lst xs)) (h : RuleAt C H r bs ss) : RuleAt C (upd H l (.lst ys)) r bs ss := by
  obtain ⟨dx, tb, ts, h1, h2, h3⟩ := h
  refine ⟨dx, tb, ts, ?_, ?_, ?_⟩
  · rw [upd_ne (ne_of h1 hl (by intro z; cases z))]; exact h1
  · rw [upd_ne (ne_of h2 hl (by intro z; cases z))]; exact h2
  · rw [upd_ne (ne_of h3 hl (by intro z; cases z))]; exact h3
theorem Good.dig {lo : Int} {l : List Int} (h : Good lo l) (h0 : 0 ≤ lo) : Dig l := fun n hn => by have := h.2.1 n hn; omega
theorem pe_gcx {X : Cx} {x : Str} {pos : Pos} {v : V} (hg : Gl X x) (h : ∃ u, X.mg x = some u ∧ RelV v u) (hd : (x == ("__debug__" : Str)) = false := by decide +kernel) : PE X (.Name x pos) (tC v) := by
  obtain ⟨u, h, r⟩ := h
  exact pe_glob hg h r hd
section
variable {P : Program} {w : World} {K : PySem.W.Frag} {mg : Str → Option Value} {base : Heap}
def sp_read_rule (C : Addr) : Sp := fun vs H Q _ => ∃ (bs ss : List Int), vs = [.str (ruleT bs ss)] ∧ Good 1 bs ∧ Good 0 ss ∧ ∀ (H' : Hp) (r : Addr), Same H H' → RuleAt C H' r bs ss → Q (.ref r) H'
theorem ok_read_rule (T : Txt K mg) : FnOk P w K mg base CX0 3 T.f_read_rule T.d_read_rule ["string"] (sp_read_rule T.C_Rule) := by
  refine T.F_read_rule.ok sc_read_rule (fun vs H Q E h => ?_) (fun cdv A outer s H vs Q E hr h => ?_)
  · obtain ⟨_, _, rfl, _⟩ := h
    rfl
  · obtain ⟨bs, ss, rfl, gb, gs, q⟩ := h
    refine ⟨_, (pss_cons (ps_asg (pe_partition (pv 0) pe_str) (pg_tup rfl (pgs_cons (pg_name (i := 1) sc_read_rule.nd rfl (.inl rfl)) (pgs_cons (pg_name (i := 2) sc_read_rule.nd rfl (.inl rfl)) (pgs_cons (pg_name (i := 3) sc_read_rule.nd rfl (.inl rfl)) pgs_nil)))))
      (pss_cons (ps_set (i := 4) sc_read_rule.nd rfl (.inl rfl) (pe_make T.M_Rule (ok_Rule_init T) (hr.mono (by decide)) rfl T.g_Rule T.b_Rule_init .nil pass0 (pa_cons (pe_call (ok_numbers T) (hr.mono (by decide)) (by rfl) T.g_numbers T.F_numbers.kp T.b_numbers .nil pass0 (pa_cons (pv 1) (pa_cons (pe_gcx (by rfl) T.c_BIRTH_DIGITS) pa_nil))) (pa_cons (pe_call (ok_numbers T) (hr.mono (by decide)) (by rfl) T.g_numbers T.F_numbers.kp T.b_numbers .nil pass0 (pa_cons (pv 3) (pa_cons (pe_gcx (by rfl) T.c_SURVIVAL_DIGITS) pa_nil))) pa_nil))))
      (pss_cons (ps_if (pt_cmpR op_ne (pe_call (ok_write_rule T) (hr.mono (by decide)) (by rfl) T.g_write_rule T.F_write_rule.kp T.b_write_rule .nil pass0 (pa_cons (pv 4) pa_nil)) (pv 0) (nomark _))
      (pss_one ps_never)
      pss_nil)
      (pss_one (ps_ret (pv 4)))))), ?_⟩
    have d1 := gb.dig (by decide)
    have d2 := gs.dig (by decide)
    have lz := len_ruleT d1 d2
    have l1 := gb.2.2
    have l2 := gs.2.2
    refine ⟨_, rfl, ⟨_, rfl⟩, _, _, rfl, rfl, (by rfl), ?_, fun p1 n1 => ?_⟩
    · rw [lz]
      exact Nat.le_trans (show bs.length + ss.length + 3 ≤ 100 by omega) (by decide)
    rw [part_ruleT d1]
    k_invariant "new" (n1, H1, e1, h1)
    refine ⟨p1, _, rfl, tup_of h1, rfl, _, _, rfl, _, _, rfl, _, _, rfl, rfl, ?_⟩
    refine ⟨_, rfl, _, _, rfl, ?_, ?_, fun H2 p2 e2 h2 => ?_⟩
    · rw [tl_birth]; decide
    · rw [len_app, len_B, len_digS d1]; omega
    refine ⟨_, rfl, _, _, rfl, ?_, ?_, fun H3 p3 e3 h3 => ?_⟩
    · rw [tl_surv]; decide
    · rw [len_digS d2]; omega
    rw [nums_births gb.2.1] at h2
    rw [nums_survival gs.2.1] at h3
    intro x dx nx nd nex
    refine ⟨H3, x, p2, p3, dx, bs, ss, rfl, madeS nx nd, nx, upd_same, by k_subL, by k_subL, by omega, by omega, fun H4 bs' ss' e4 ra c1 c2 => ⟨rfl, ?_⟩⟩
    rw [canon_eq c1 gb.1 fun _ => Iff.rfl, canon_eq c2 gs.1 fun _ => Iff.rfl] at ra
    refine ⟨_, rfl, x, bs, ss, rfl, ra, d1, d2, by omega, by omega, fun H5 e5 => ⟨_, rfl, rfl, _, rfl, ite2 (fun c => ?_) (fun _ => ?_)⟩⟩
    · simp at c
    · exact ⟨_, rfl, q H5 x (e1.trans (e2.trans (e3.trans (e4.trans e5)))) (ra.up e5)⟩
end
end My
namespace My
open PySem PySem.Spec PyProof.Rows L2 Vx
local macro_rules | `(tactic| k_invariant "new" ($n, $H:ident, $e:ident, $h:ident)) => `(tactic| (generalize hE : upd _ _ _ = $H; obtain ⟨$e:ident, $h:ident⟩ := gen_e hE $n; clear hE))
local macro_rules | `(tactic| k_places) => `(tactic| first
  | assumption
  | exact lst_of (by assumption)
  | exact tup_of (by assumption)
  | (refine getS (by assumption) ?_; k_places)
  | (refine Same.seq (by assumption) ?_; k_places)
  | (refine tupS (by assumption) ?_; k_places)
  | (refine lst_of ?_; k_places)
  | (refine tup_of ?_; k_places))
local macro_rules | `(tactic| k_subL) => `(tactic| first
  | k_places
  | solve_by_elim (maxDepth := 10) [getS, lst_of, tup_of, Same.seq, tupS])
local macro_rules | `(tactic| k_offL) => `(tactic| first
  | (show (0 : Int) < _; first | omega | decide)
  | (refine ⟨?_, ?_⟩ <;> first | omega | decide)
  | exact .inr ⟨by decide, by decide⟩
  | exact .inl ⟨by decide, by decide⟩
  | exact .inl ⟨by omega, by omega⟩
  | omega)
local macro_rules | `(tactic| k_clsL) => `(tactic| exact Nat.le_of_ble_eq_true rfl)
open TL
theorem RuleAt.ins {C : Addr} {H : Hp} {r : Addr} {bs ss : List Int} (h : RuleAt C H r bs ss) : ∃ dx tb ts, H r = some (.ins C dx (rf tb ts)) := let ⟨dx, tb, ts, h, _⟩ := h; ⟨dx, tb, ts, h⟩
theorem no_lives (tb ts : Addr) : (rf tb ts).lookup ("lives" : Str) = none := rf_no _ _ (by decide +kernel) (by decide +kernel)
theorem strs_len {ns : List Int} (h : Dig ns) : ((ns.map dg).map (·.length)).sum = ns.length := by
  have e : ((ns.map dg).map (·.length)) = ns.map fun _ => 1 := by
    rw [List.map_map]
    refine List.map_congr_left fun n hn => ?_
    show (dg n).length = 1
    rw [len_tl, tl_dg (h n hn).1 (h n hn).2]
    rfl
  rw [e, List.map_const', List.sum_replicate_nat]
  omega
theorem len_e : (Str.ofString "").length = 0 := by decide +kernel
/-- two lists of ints in a tuple, as data -/
theorem eqv_pair (a b c d : List Int) : PyData.eqv (.tuple [.list (a.map PyData.int), .list (b.map PyData.int)]) (.tuple [.list (c.map PyData.int), .list (d.map PyData.int)]) = (decide (a = c) && decide (b = d)) := by
  show (PyData.eqv (.list (a.map PyData.int)) (.list (c.map PyData.int)) && (PyData.eqv (.list (b.map PyData.int)) (.list (d.map PyData.int)) && PyData.eqvAll [] [])) = _
  rw [eqv_lstI, eqv_lstI]
  simp [PyData.eqvAll]
theorem shaped_pair (a b : List Int) : SeqAt.shaped (.tuple [.list (a.map PyData.int), .list (b.map PyData.int)]) = true := by
  unfold SeqAt.shaped
  simp [PyData.canLay0, PyData.depth, PyData.canLayAll0, PyData.depthAll, canAll_ints, depAll_ints]
theorem canon_nil {l : List Int} (h : Canon [] l) : l = [] := canon_eq h List.Pairwise.nil fun _ => Iff.rfl
theorem canon_one {k : Int} {l : List Int} (h : Canon [k] l) : l = [k] := canon_eq h (by simp) fun _ => Iff.rfl
section
variable {P : Program} {w : World} {K : PySem.W.Frag} {mg : Str → Option Value} {base : Heap}
def sp_law (K : PySem.W.Frag) : Sp := fun vs H Q _ => ∃ (a : Addr) (ns : List Int), vs = [.ref a] ∧ SqL K H a (ns.map V.int) ∧ ns.length ≤ 63 ∧ ∀ H', Q (.bl true) H'
theorem ok_law (T : Txt K mg) : FnOk P w K mg base CX0 4 T.f_law T.d_law ["script"] (sp_law K) := by
  refine T.F_law.ok sc_law (fun vs H Q E h => ?_) (fun cdv A outer s H vs Q E hr h => ?_)
  · obtain ⟨a, ns, rfl, _⟩ := h
    rfl
  · obtain ⟨a, ns, rfl, hS, hlen, q⟩ := h
    refine ⟨_, (pss_cons (ps_asg (pe_call (ok_law_numbers T) (hr.mono (by decide)) (by rfl) T.g_law_numbers T.F_law_numbers.kp T.b_law_numbers .nil pass0 (pa_cons (pe_call (ok_law_cell T) (hr.mono (by decide)) (by rfl) T.g_law_cell T.F_law_cell.kp T.b_law_cell .nil pass0 (pa_cons (pv 0) (pa_cons pe_int pa_nil))) pa_nil)) (pg_tup rfl (pgs_cons (pg_name (i := 1) sc_law.nd rfl (.inl rfl)) (pgs_cons (pg_name (i := 2) sc_law.nd rfl (.inl rfl)) pgs_nil))))
      (pss_cons (ps_set (i := 3) sc_law.nd rfl (.inl rfl) (pe_call (ok_law_mixed T) (hr.mono (by decide)) (by rfl) T.g_law_mixed T.F_law_mixed.kp T.b_law_mixed .nil pass0 (pa_cons (pv 1) (pa_cons (pe_call (ok_law_cell T) (hr.mono (by decide)) (by rfl) T.g_law_cell T.F_law_cell.kp T.b_law_cell .nil pass0 (pa_cons (pv 0) (pa_cons pe_int pa_nil))) pa_nil))))
      (pss_cons (ps_set (i := 4) sc_law.nd rfl (.inl rfl) (pe_call (ok_law_mixed T) (hr.mono (by decide)) (by rfl) T.g_law_mixed T.F_law_mixed.kp T.b_law_mixed .nil pass0 (pa_cons (pv 2) (pa_cons (pe_call (ok_law_cell T) (hr.mono (by decide)) (by rfl) T.g_law_cell T.F_law_cell.kp T.b_law_cell .nil pass0 (pa_cons (pv 0) (pa_cons pe_int pa_nil))) pa_nil))))
      (pss_cons (ps_set (i := 5) sc_law.nd rfl (.inl rfl) (pe_make T.M_Rule (ok_Rule_init T) (hr.mono (by decide)) rfl T.g_Rule T.b_Rule_init .nil pass0 (pa_cons (pv 3) (pa_cons (pv 4) pa_nil))))
      (pss_cons (ps_expr (pe_bm PySem.F.plainAttrs_list PySem.F.slot_list_append PySem.F.type_list_append mt_append (pv 3) (pa_cons pe_int pa_nil)))
      (pss_cons (ps_expr (pe_bm PySem.F.plainAttrs_list PySem.F.slot_list_append PySem.F.type_list_append mt_append (pv 4) (pa_cons pe_int pa_nil)))
      (pss_cons (ps_if (PW.pt (pw_or (pt_cmpR (op_neD hr.units) (pe_fld (pv 5) rfl) (pe_callTy call_tupL (by rfl) T.z_tuple (by decide +kernel) (pa_cons (pv 1) pa_nil)) (nomark _)) (pw_or1 (pt_cmpR (op_neD hr.units) (pe_fld (pv 5) rfl) (pe_callTy call_tupL (by rfl) T.z_tuple (by decide +kernel) (pa_cons (pv 2) pa_nil)) (nomark _)))))
      (pss_one (ps_ret pe_bl))
      pss_nil)
      (pss_cons (ps_set (i := 6) sc_law.nd rfl (.inl rfl) (pe_op op_add_str (pe_op op_add_str (pe_op op_add_str pe_str (pe_join pe_str (pe_lc (own := [("k", 10)]) (g := gName 10) (tt := tYes) rfl sc_law.nd (pi_list (pv 1)) (blkOk_by (own := [("k", 10)]) (N := N_law) (sc := defScope s_law) (by decide +kernel)) (fun _ _ _ _ _ => pg_name (i := 10) sc_law.nd rfl (Or.inl rfl)) (fun _ _ _ _ _ => pts_nil) (fun _ _ _ _ _ => (pe_callTy call_str_int (by rfl) T.z_str (by decide +kernel) (pa_cons (pv 10) pa_nil)))))) pe_str) (pe_join pe_str (pe_lc (own := [("k", 10)]) (g := gName 10) (tt := tYes) rfl sc_law.nd (pi_list (pv 2)) (blkOk_by (own := [("k", 10)]) (N := N_law) (sc := defScope s_law) (by decide +kernel)) (fun _ _ _ _ _ => pg_name (i := 10) sc_law.nd rfl (Or.inl rfl)) (fun _ _ _ _ _ => pts_nil) (fun _ _ _ _ _ => (pe_callTy call_str_int (by rfl) T.z_str (by decide +kernel) (pa_cons (pv 10) pa_nil)))))))
      (pss_cons (ps_if (PW.pt (pw_or (pt_cmpR op_ne (pe_call (ok_write_rule T) (hr.mono (by decide)) (by rfl) T.g_write_rule T.F_write_rule.kp T.b_write_rule .nil pass0 (pa_cons (pv 5) pa_nil)) (pv 6) (nomark _)) (pw_or (pt_not (pt_cmpR (op_eqOwn T.e_Rule T.i_Rule ((ok_Rule_eq T).raw T.b_Rule_eq .nil) (hr.mono (by decide)) pass0) (pe_call (ok_read_rule T) (hr.mono (by decide)) (by rfl) T.g_read_rule T.F_read_rule.kp T.b_read_rule .nil pass0 (pa_cons (pv 6) pa_nil)) (pv 5) (nomark _))) (pw_or1 (pt_cmpR (op_neD hr.units) (pe_fld (pe_call (ok_read_rule T) (hr.mono (by decide)) (by rfl) T.g_read_rule T.F_read_rule.kp T.b_read_rule .nil pass0 (pa_cons (pv 6) pa_nil)) rfl) (pe_callTy call_tupL (by rfl) T.z_tuple (by decide +kernel) (pa_cons (pv 1) pa_nil)) (nomark _))))))
      (pss_one (ps_ret pe_bl))
      pss_nil)
      (pss_cons (ps_for PassesOwn.never rfl (pi_range1 (by rfl) T.z_range (pa_cons pe_int pa_nil)) (pg_name (i := 7) sc_law.nd rfl (.inl rfl))
      (pss_cons (ps_if (PW.pt (pw_or (pt_not (pt_val (pe_callB call_isi (by rfl) T.z_isinstance (by decide +kernel) (pa_cons (pe_meth (pv 5) T.cl_Rule T.m_Rule_lives (ok_Rule_lives T) (hr.mono (by decide)) T.b_Rule_lives .nil pass0 (pa_cons pe_bl (pa_cons (pv 7) pa_nil))) (pa_cons (pe_bltn (v := .ty "bool") (by rfl) T.z_bool (by decide +kernel) rfl) pa_nil))))) (pw_or1 (pt_not (pt_val (pe_callB call_isi (by rfl) T.z_isinstance (by decide +kernel) (pa_cons (pe_meth (pv 5) T.cl_Rule T.m_Rule_lives (ok_Rule_lives T) (hr.mono (by decide)) T.b_Rule_lives .nil pass0 (pa_cons pe_bl (pa_cons (pv 7) pa_nil))) (pa_cons (pe_bltn (v := .ty "bool") (by rfl) T.z_bool (by decide +kernel) rfl) pa_nil))))))))
      (pss_one (ps_ret pe_bl))
      pss_nil)
      (pss_one (ps_if (PW.pt (pw_or (pt_cmpR op_ne (pe_meth (pv 5) T.cl_Rule T.m_Rule_lives (ok_Rule_lives T) (hr.mono (by decide)) T.b_Rule_lives .nil pass0 (pa_cons pe_bl (pa_cons (pv 7) pa_nil))) (pe_cmpR op_in_seq (pv 7) (pv 2) rfl) (nomark _)) (pw_or1 (pt_cmpR op_ne (pe_meth (pv 5) T.cl_Rule T.m_Rule_lives (ok_Rule_lives T) (hr.mono (by decide)) T.b_Rule_lives .nil pass0 (pa_cons pe_bl (pa_cons (pv 7) pa_nil))) (pe_cmpR op_in_seq (pv 7) (pv 1) rfl) (nomark _)))))
      (pss_one (ps_ret pe_bl))
      pss_nil))))
      (pss_cons (ps_set (i := 8) sc_law.nd rfl (.inl rfl) (pe_call (ok_law_numbers T) (hr.mono (by decide)) (by rfl) T.g_law_numbers T.F_law_numbers.kp T.b_law_numbers .nil pass0 (pa_cons (pe_call (ok_law_cell T) (hr.mono (by decide)) (by rfl) T.g_law_cell T.F_law_cell.kp T.b_law_cell .nil pass0 (pa_cons (pv 0) (pa_cons pe_int pa_nil))) pa_nil)))
      (pss_cons (ps_set (i := 9) sc_law.nd rfl (.inl rfl) (pe_make T.M_Rule (ok_Rule_init T) (hr.mono (by decide)) rfl T.g_Rule T.b_Rule_init .nil pass0 (pa_cons (pe_ix ix_tup (pv 8) pe_int (fun _ _ => rfl)) (pa_cons (pe_ix ix_tup (pv 8) pe_int (fun _ _ => rfl)) pa_nil))))
      (pss_cons (ps_if (PW.pt (pw_or (pt_cmpR op_ne (pe_cmpR (op_eqOwn T.e_Rule T.i_Rule ((ok_Rule_eq T).raw T.b_Rule_eq .nil) (hr.mono (by decide)) pass0) (pv 5) (pv 9) (nomark _)) (pe_cmpR (op_eqD hr.units) (pv 8) (pe_tup (pa_cons (pv 1) (pa_cons (pv 2) pa_nil))) (nomark _)) (nomark _)) (pw_or (pt_cmpR (op_eqOwn T.e_Rule T.i_Rule ((ok_Rule_eq T).raw T.b_Rule_eq .nil) (hr.mono (by decide)) pass0) (pv 5) (pv 6) (nomark _)) (pw_or1 (pt_cmpR (op_eqOwn T.e_Rule T.i_Rule ((ok_Rule_eq T).raw T.b_Rule_eq .nil) (hr.mono (by decide)) pass0) (pv 5) (pe_tup (pa_cons (pe_callTy call_tupL (by rfl) T.z_tuple (by decide +kernel) (pa_cons (pv 1) pa_nil)) (pa_cons (pe_callTy call_tupL (by rfl) T.z_tuple (by decide +kernel) (pa_cons (pv 2) pa_nil)) pa_nil))) (nomark _))))))
      (pss_one (ps_ret pe_bl))
      pss_nil)
      (pss_one (ps_ret (pe_and (pe_not (pe_cmpR (op_eqOwn T.e_Rule T.i_Rule ((ok_Rule_eq T).raw T.b_Rule_eq .nil) (hr.mono (by decide)) pass0) (pe_make T.M_Rule (ok_Rule_init T) (hr.mono (by decide)) rfl T.g_Rule T.b_Rule_init .nil pass0 (pa_cons (pv 1) (pa_cons (pe_lst pa_nil) pa_nil))) (pe_make T.M_Rule (ok_Rule_init T) (hr.mono (by decide)) rfl T.g_Rule T.b_Rule_init .nil pass0 (pa_cons (pv 1) (pa_cons (pe_lst (pa_cons pe_int pa_nil)) pa_nil))) (nomark _))) (pe_one (pe_not (pe_cmpR (op_eqOwn T.e_Rule T.i_Rule ((ok_Rule_eq T).raw T.b_Rule_eq .nil) (hr.mono (by decide)) pass0) (pe_make T.M_Rule (ok_Rule_init T) (hr.mono (by decide)) rfl T.g_Rule T.b_Rule_init .nil pass0 (pa_cons (pe_lst pa_nil) (pa_cons (pv 2) pa_nil))) (pe_make T.M_Rule (ok_Rule_init T) (hr.mono (by decide)) rfl T.g_Rule T.b_Rule_init .nil pass0 (pa_cons (pe_lst (pa_cons pe_int pa_nil)) (pa_cons (pv 2) pa_nil))) (nomark _)))))))))))))))))))), ?_⟩
    -- births, survival
    refine ⟨_, rfl, a, ns, 0, rfl, hS, _, rfl, fun H1 p pb ps bs ss e1 h1 hb hs gb gs => ?_⟩
    have d1 := gb.dig (by decide)
    have d2 := gs.dig (by decide)
    have l1 := gb.2.2
    have l2 := gs.2.2
    refine ⟨p, _, rfl, tup_of h1, rfl, _, _, rfl, _, _, rfl, rfl, ?_⟩
    -- first, second
    refine ⟨_, rfl, _, rfl, a, ns, 1, rfl, e1.seq hS, _, _, _, rfl, lst_of hb, by omega, fun H2 p2 xs n2 e2 h2 m2 k2 => ?_⟩
    refine ⟨_, rfl, _, rfl, a, ns, 2, rfl, (e1.trans e2).seq hS, _, _, _, rfl, lst_of (getS e2 hs), by omega, fun H3 p3 ys n3 e3 h3 m3 k3 => ?_⟩
    have n23 : p2 ≠ p3 := ne_of_none h2 n3
    -- rule
    refine ⟨_, rfl, _, rfl, ?_⟩
    intro x dx nx nd nex
    refine ⟨H3, x, p2, p3, dx, xs, ys, rfl, madeS nx nd, nx, upd_same, by k_subL, by k_subL, by omega, by omega, fun H4 bs' ss' e4 ra c1 c2 => ⟨rfl, ?_⟩⟩
    rw [canon_eq c1 gb.1 m2, canon_eq c2 gs.1 m3] at ra
    have h24 : H4 p2 = some (.lst (xs.map V.int)) := by k_subL
    have h34 : H4 p3 = some (.lst (ys.map V.int)) := by k_subL
    have s14 : Same H1 H4 := e2.trans (e3.trans e4)
    refine ⟨_, rfl, .inl ⟨rfl, _, lst_of h24⟩, _, _, _, rfl, rfl, h24, ?_, ?_⟩
    · rw [List.length_map]
      exact Nat.lt_of_lt_of_le (show xs.length < 100 by omega) (by decide)
    have ra5 := ra.mutL (ys := xs.map V.int ++ [.int 8]) h24
    have s15 : Same H1 (upd H4 p2 (.lst (xs.map V.int ++ [.int 8]))) := mutS s14 n2
    have h35 : upd H4 p2 (.lst (xs.map V.int ++ [.int 8])) p3 = some (.lst (ys.map V.int)) := by rw [upd_ne n23.symm]; exact h34
    generalize upd H4 p2 (.lst (xs.map V.int ++ [.int 8])) = H5 at ra5 s15 h35
    refine ⟨_, rfl, .inl ⟨rfl, _, lst_of h35⟩, _, _, _, rfl, rfl, h35, ?_, ?_⟩
    · rw [List.length_map]
      exact Nat.lt_of_lt_of_le (show ys.length < 100 by omega) (by decide)
    have ra6 := ra5.mutL (ys := ys.map V.int ++ [.int 0]) h35
    have s16 : Same H1 (upd H5 p3 (.lst (ys.map V.int ++ [.int 0]))) := mutS s15 (backS e2 n3)
    generalize upd H5 p3 (.lst (ys.map V.int ++ [.int 0])) = H6 at ra6 s16
    have hb6 := getS s16 hb
    have hs6 := getS s16 hs
    have hS6 : SqL K H6 a (ns.map V.int) := (e1.trans s16).seq hS
    clear ra ra5 s15 h35 h24 h34 s14 c1 c2 h2 h3 e4 e3 e2 s16 hb hs h1 m2 m3 n2 n3 n23 nx nd nex e1 k2 k3
    obtain ⟨dx6, tb, ts, r1, r2, r3⟩ := id ra6
    -- if rule.births != tuple(births) or ..
    refine ⟨_, rfl, x, _, _, _, _, rfl, r1, T.cl_Rule, T.na_Rule_births, rf_b _ _, _, rfl, _, _, rfl, lst_of hb6, fun p7 n7 => ?_⟩
    k_invariant "new" (n7, H7, e7, h7)
    refine ⟨_, _, dp_tupI (by k_subL : SqT K H7 tb (bs.map V.int)), dp_tupI (tup_of h7), shaped_tupI _, shaped_tupI _, _, rfl, ?_⟩
    rw [eqv_tupI, decide_eq_true rfl]
    refine iteF ⟨_, rfl, x, _, _, _, _, rfl, getS e7 r1, T.cl_Rule, T.na_Rule_survival, rf_s _ _, _, rfl, _, _, rfl, lst_of (getS e7 hs6), fun p8 n8 => ?_⟩
    k_invariant "new" (n8, H8, e8, h8)
    refine ⟨_, _, dp_tupI (by k_subL : SqT K H8 ts (ss.map V.int)), dp_tupI (tup_of h8), shaped_tupI _, shaped_tupI _, _, rfl, ?_⟩
    rw [eqv_tupI, decide_eq_true rfl]
    refine iteF ?_
    have ra8 := ra6.up (e7.trans e8)
    have hb8 := getS (e7.trans e8) hb6
    have hs8 := getS (e7.trans e8) hs6
    have hS8 := (e7.trans e8).seq hS6
    clear r1 r2 r3 ra6 h7 h8 e7 e8 hb6 hs6 hS6 n7 n8
    -- text
    refine ⟨⟨_, rfl⟩, _, rfl, pb, rfl, ⟨_, lst_of hb8⟩, fun D1 nD => lc_list (K := K) (a := pb) (xs := bs.map V.int) (fun i H' => Same H8 H' ∧ H' D1 = some (.lst (((bs.take i).map dg).map V.str)))
      ⟨newS nD, by rw [upd_same]; rfl⟩ (fun i H' _ h => h.1.seq (lst_of hb8)) ?_ ?_⟩
    · rintro i x H' hi ⟨sm, hp⟩
      obtain ⟨n, rfl, hn, hm⟩ := item_ints hi
      have hn10 := d1 n hm
      refine ⟨rfl, tyesT ⟨_, rfl, n, rfl, ?_, _, hp, ?_, mutS sm nD, ?_⟩⟩
      · have : n.natAbs ≤ 9 := by omega
        have h3 : n.natAbs.log2 ≤ n.natAbs := Nat.log2_le_self _
        omega
      · rw [List.length_map, List.length_map, List.length_take]
        exact Nat.lt_of_lt_of_le (show min i bs.length < 1001 by omega) (by decide)
      · rw [upd_same, List.take_add_one, hn]
        simp [dg]
    rintro H9 ⟨e9, h9⟩
    rw [List.length_map, List.take_length] at h9
    refine ⟨_, D1, bs.map dg, rfl, rfl, .inl (lst_of h9), ?_, ?_⟩
    · rw [strs_len d1, len_e]
      omega
    have z1 : Txt.join (Str.ofString "") (bs.map dg) = digS bs := rfl
    rw [z1]
    refine ⟨_, _, rfl, rfl, ?_, _, _, rfl, rfl, ?_, ⟨_, rfl⟩, _, rfl, ps, rfl, ⟨_, lst_of (getS e9 hs8)⟩, fun D2 nD2 => lc_list (K := K) (a := ps) (xs := ss.map V.int) (fun i H' => Same H9 H' ∧ H' D2 = some (.lst (((ss.take i).map dg).map V.str)))
      ⟨newS nD2, by rw [upd_same]; rfl⟩ (fun i H' _ h => h.1.seq (lst_of (getS e9 hs8))) ?_ ?_⟩
    · rw [len_B, len_digS d1]
      exact Nat.le_trans (show 1 + bs.length ≤ 200 by omega) (by decide)
    · rw [len_app, len_B, len_digS d1, len_S]
      exact Nat.le_trans (show 1 + bs.length + 2 ≤ 200 by omega) (by decide)
    · rintro i x H' hi ⟨sm, hp⟩
      obtain ⟨n, rfl, hn, hm⟩ := item_ints hi
      have hn10 := d2 n hm
      refine ⟨rfl, tyesT ⟨_, rfl, n, rfl, ?_, _, hp, ?_, mutS sm nD2, ?_⟩⟩
      · have : n.natAbs ≤ 9 := by omega
        have h3 : n.natAbs.log2 ≤ n.natAbs := Nat.log2_le_self _
        omega
      · rw [List.length_map, List.length_map, List.length_take]
        exact Nat.lt_of_lt_of_le (show min i ss.length < 1001 by omega) (by decide)
      · rw [upd_same, List.take_add_one, hn]
        simp [dg]
    rintro H10 ⟨e10, h10⟩
    rw [List.length_map, List.take_length] at h10
    refine ⟨_, D2, ss.map dg, rfl, rfl, .inl (lst_of h10), ?_, _, _, rfl, rfl, ?_, ?_⟩
    · rw [strs_len d2, len_e]
      omega
    · show ((Str.ofString "B" ++ digS bs) ++ Str.ofString "/S").length + (digS ss).length ≤ sizeLine
      rw [len_app, len_app, len_B, len_digS d1, len_S, len_digS d2]
      exact Nat.le_trans (show 1 + bs.length + 2 + ss.length ≤ 400 by omega) (by decide)
    have z2 : ((Str.ofString "B" ++ digS bs) ++ Str.ofString "/S") ++ Txt.join (Str.ofString "") (ss.map dg) = ruleT bs ss := rfl
    rw [z2]
    have ra10 := ra8.up (e9.trans e10)
    have hb10 := getS (e9.trans e10) hb8
    have hs10 := getS (e9.trans e10) hs8
    have hS10 := (e9.trans e10).seq hS8
    clear ra8 hb8 hs8 hS8 h9 h10 e9 e10 nD nD2
    -- if write_rule(rule) != text or ..
    refine ⟨_, rfl, x, bs, ss, rfl, ra10, d1, d2, by omega, by omega, fun H11 e11 => ⟨_, rfl, rfl, _, rfl, ite2 (fun c => absurd c (by simp)) (fun _ => ?_)⟩⟩
    refine ⟨_, rfl, bs, ss, rfl, gb, gs, fun H12 r12 e12 ra12 => ?_⟩
    obtain ⟨dx12, tb12, ts12, i12⟩ := ra12.ins
    have ra12x := ra10.up (e11.trans e12)
    obtain ⟨dx1, tb1, ts1, i1⟩ := ra12x.ins
    refine ⟨_, rfl, r12, _, _, rfl, i12, .inl ⟨x, _, _, rfl, i1⟩, r12, _, bs, ss, rfl, ra12, .inl ⟨x, bs, ss, rfl, ra12x, _, rfl, ?_⟩⟩
    rw [decide_eq_true rfl, decide_eq_true rfl]
    refine iteF ⟨_, rfl, bs, ss, rfl, gb, gs, fun H13 r13 e13 ra13 => ?_⟩
    obtain ⟨dx13, tb13, ts13, i13, j13, _⟩ := ra13
    refine ⟨r13, _, _, _, _, rfl, i13, T.cl_Rule, T.na_Rule_births, rf_b _ _, _, rfl, _, _, rfl, lst_of (getS (e11.trans (e12.trans e13)) hb10), fun p14 n14 => ?_⟩
    k_invariant "new" (n14, H14, e14, h14)
    refine ⟨_, _, dp_tupI (by k_subL : SqT K H14 tb13 (bs.map V.int)), dp_tupI (tup_of h14), shaped_tupI _, shaped_tupI _, _, rfl, ?_⟩
    rw [eqv_tupI, decide_eq_true rfl]
    refine iteF ?_
    have s := e11.trans (e12.trans (e13.trans e14))
    have ra14 := ra10.up s
    have hb14 := getS s hb10
    have hs14 := getS s hs10
    have hS14 := s.seq hS10
    clear ra10 hb10 hs10 hS10 s e11 e12 e13 e14 i12 ra12 ra12x i1 i13 j13 h14 n14
    -- for count in range(9)
    refine ⟨9, rfl, by decide, by decide, for_range (lo := 0) (n := 9) (fun i σ H' => ∃ v, σ = [some (.ref a), some (.ref pb), some (.ref ps), some (.ref p2), some (.ref p3), some (.ref x), some (.str (ruleT bs ss)), v, none, none, none] ∧ H' = H14) ⟨none, rfl, rfl⟩ ?_ ?_⟩
    · rintro i σ H' hi ⟨v, rfl, rfl⟩
      obtain ⟨dx1, tb1, ts1, i1⟩ := ra14.ins
      refine ⟨_, rfl, x, _, _, rfl, i1, no_lives _ _, _, rfl, x, _, _, bs, ss, rfl, ra14, _, _, _, _, true, rfl, .ty "bool", .base (.bl _), kit_ty (by decide +kernel), _, rfl, ?_⟩
      refine iteF ⟨_, rfl, x, _, _, rfl, i1, no_lives _ _, _, rfl, x, _, _, bs, ss, rfl, ra14, _, _, _, _, true, rfl, .ty "bool", .base (.bl _), kit_ty (by decide +kernel), _, rfl, ?_⟩
      refine iteF ?_
      refine ⟨_, rfl, x, _, _, rfl, i1, no_lives _ _, _, rfl, x, _, _, bs, ss, rfl, ra14, _, rfl, _, rfl, _, _, rfl, .inl (lst_of hs14), rfl, flat_ints _, rfl, _, rfl, ?_⟩
      rw [if_neg Bool.false_ne_true, inV_ints, if_pos rfl, decide_eq_true rfl]
      refine iteF ⟨_, rfl, x, _, _, rfl, i1, no_lives _ _, _, rfl, x, _, _, bs, ss, rfl, ra14, _, rfl, _, rfl, _, _, rfl, .inl (lst_of hb14), rfl, flat_ints _, rfl, _, rfl, ?_⟩
      rw [if_neg Bool.false_ne_true, inV_ints, if_neg Bool.false_ne_true, decide_eq_true rfl]
      exact iteF ⟨_, rfl, rfl⟩
    rintro σ H' ⟨v, rfl, rfl⟩
    -- others, other
    refine ⟨_, rfl, a, ns, 3, rfl, hS14, _, rfl, fun H15 p15 pc pd cs ds e15 h15 hc hd gc gd => ?_⟩
    have l3 := gc.2.2
    have l4 := gd.2.2
    refine ⟨_, rfl, _, _, _, _, rfl, rfl, tup_of h15, rfl, _, rfl, _, _, _, _, rfl, rfl, tup_of h15, rfl, ?_⟩
    intro y dy ny nd ney
    refine ⟨H15, y, pc, pd, dy, cs, ds, rfl, madeS ny nd, ny, upd_same, lst_of hc, lst_of hd, by omega, by omega, fun H16 cs' ds' e16 rb c1 c2 => ⟨rfl, ?_⟩⟩
    rw [canon_eq c1 gc.1 fun _ => Iff.rfl, canon_eq c2 gd.1 fun _ => Iff.rfl] at rb
    have ra16 := ra14.up (e15.trans e16)
    have hb16 := getS (e15.trans e16) hb14
    have hs16 := getS (e15.trans e16) hs14
    have h16 := getS e16 h15
    have hc16 := getS e16 hc
    have hd16 := getS e16 hd
    clear ra14 hb14 hs14 hS14 e15 e16 h15 hc hd c1 c2 ny nd ney
    -- the last if
    obtain ⟨dx1, tb1, ts1, i1⟩ := ra16.ins
    obtain ⟨dx2, tb2, ts2, i2⟩ := rb.ins
    refine ⟨_, rfl, _, rfl, x, _, _, rfl, i1, .inl ⟨y, _, _, rfl, i2⟩, x, _, bs, ss, rfl, ra16, .inl ⟨y, cs, ds, rfl, rb, _, rfl, _, rfl, _, rfl, by k_clsL, fun p17 n17 => ?_⟩⟩
    k_invariant "new" (n17, H17, e17, h17)
    refine ⟨_, _, .tup (tup_of (getS e17 h16)) (.cons (dp_lstI (lst_of (getS e17 hc16))) (.cons (dp_lstI (lst_of (getS e17 hd16))) .nil)), .tup (tup_of h17) (.cons (dp_lstI (lst_of (getS e17 hb16))) (.cons (dp_lstI (lst_of (getS e17 hs16))) .nil)), shaped_pair _ _, shaped_pair _ _, rfl, _, rfl, ?_⟩
    rw [eqv_pair]
    refine ite2 (fun c => absurd c (by simp [eq_comm])) (fun _ => ?_)
    refine ⟨_, rfl, _, rfl, x, _, _, rfl, getS e17 i1, .inr ⟨"str", .str _, nf_str⟩, x, _, bs, ss, rfl, ra16.up e17, .inr ⟨"str", .str _, _, rfl, iteF ?_⟩⟩
    refine ⟨_, rfl, _, rfl, _, _, rfl, lst_of (getS e17 hb16), fun p18 n18 => ?_⟩
    k_invariant "new" (n18, H18, e18, h18)
    refine ⟨_, rfl, _, _, rfl, lst_of (getS (e17.trans e18) hs16), fun p19 n19 => ?_⟩
    k_invariant "new" (n19, H19, e19, h19)
    refine ⟨by k_clsL, fun p20 n20 => ?_⟩
    k_invariant "new" (n20, H20, e20, h20)
    have s20 := e17.trans (e18.trans (e19.trans e20))
    refine ⟨x, _, _, rfl, getS s20 i1, .inr ⟨"tuple", .tup (tup_of h20), nf_tup⟩, x, _, bs, ss, rfl, ra16.up s20, .inr ⟨"tuple", .tup (tup_of h20), _, rfl, iteF ?_⟩⟩
    have hb20 := getS s20 hb16
    have hs20 := getS s20 hs16
    clear ra16 rb hb16 hs16 h16 hc16 hd16 i1 i2 h17 h18 h19 h20 n17 n18 n19 n20 e17 e18 e19 e20 s20
    -- return
    refine ⟨_, rfl, by k_clsL, fun p21 n21 => ?_⟩
    k_invariant "new" (n21, H21, e21, h21)
    intro x1 dx1 nx1 nd1 ne1
    refine ⟨H21, x1, pb, p21, dx1, bs, [], rfl, madeS nx1 nd1, nx1, upd_same, by k_subL, by k_subL, by omega, by decide, fun H22 b1 s1 e22 q1 c1 c2 => ⟨rfl, ?_⟩⟩
    rw [canon_eq c1 gb.1 fun _ => Iff.rfl, canon_nil c2] at q1
    refine ⟨_, rfl, by k_clsL, fun p23 n23 => ?_⟩
    k_invariant "new" (n23, H23, e23, h23)
    intro x2 dx2 nx2 nd2 ne2
    refine ⟨H23, x2, pb, p23, dx2, bs, [4], rfl, madeS nx2 nd2, nx2, upd_same, by k_subL, by k_subL, by omega, by decide, fun H24 b2 s2 e24 q2 c3 c4 => ⟨rfl, ?_⟩⟩
    rw [canon_eq c3 gb.1 fun _ => Iff.rfl, canon_one c4] at q2
    have q1' := q1.up (e23.trans e24)
    obtain ⟨dxa, tba, tsa, ia⟩ := q1'.ins
    obtain ⟨dxb, tbb, tsb, ib⟩ := q2.ins
    refine ⟨x1, _, _, rfl, ia, .inl ⟨x2, _, _, rfl, ib⟩, x1, _, bs, [], rfl, q1', .inl ⟨x2, bs, [4], rfl, q2, _, rfl, _, rfl, ?_⟩⟩
    have s24 := e21.trans (e22.trans (e23.trans e24))
    have hs24 := getS s24 hs20
    clear q1 q2 q1' ia ib e21 e22 e23 e24 h21 h23 hb20 hs20 s24 c1 c2 c3 c4 nx1 nd1 ne1 nx2 nd2 ne2 n21 n23
    refine ite2 (fun _ => ?_) (fun c => absurd (by simp) c)
    refine ⟨by k_clsL, fun p21 n21 => ?_⟩
    k_invariant "new" (n21, H21, e21, h21)
    refine ⟨_, rfl, ?_⟩
    intro x1 dx1 nx1 nd1 ne1
    refine ⟨H21, x1, p21, ps, dx1, [], ss, rfl, madeS nx1 nd1, nx1, upd_same, by k_subL, by k_subL, by decide, by omega, fun H22 b1 s1 e22 q1 c1 c2 => ⟨rfl, ?_⟩⟩
    rw [canon_eq c2 gs.1 fun _ => Iff.rfl, canon_nil c1] at q1
    refine ⟨by k_clsL, fun p23 n23 => ?_⟩
    k_invariant "new" (n23, H23, e23, h23)
    refine ⟨_, rfl, ?_⟩
    intro x2 dx2 nx2 nd2 ne2
    refine ⟨H23, x2, p23, ps, dx2, [1], ss, rfl, madeS nx2 nd2, nx2, upd_same, by k_subL, by k_subL, by decide, by omega, fun H24 b2 s2 e24 q2 c3 c4 => ⟨rfl, ?_⟩⟩
    rw [canon_eq c4 gs.1 fun _ => Iff.rfl, canon_one c3] at q2
    have q1' := q1.up (e23.trans e24)
    obtain ⟨dxa, tba, tsa, ia⟩ := q1'.ins
    obtain ⟨dxb, tbb, tsb, ib⟩ := q2.ins
    refine ⟨x1, _, _, rfl, ia, .inl ⟨x2, _, _, rfl, ib⟩, x1, _, [], ss, rfl, q1', .inl ⟨x2, [1], ss, rfl, q2, _, rfl, ?_⟩⟩
    have := q H24
    simpa using this
end
end My
namespace My
open PySem PySem.Spec PyProof.Rows L2 Vx
theorem all_mk {l : PySem.W.OpenLaw} {w : World} {K : PySem.W.Frag} {h : Heap} {mg : Str → Option Value} {fa : Addr} (X : K.In h) (G : h.Ns mainGlobals mg) (hfa : mg "law" = some (.ref fa))
    {C_Rule : Addr}
    {f_Rule_init : Addr} {odRule_init anRule_init : Option Addr} {slRule_init : Array (Option Value)} {ocRule_init kVRule_init dcRule_init pmRule_init cdRule_init ctRule_init : Value}
    {f_Rule_lives : Addr} {odRule_lives anRule_lives : Option Addr} {slRule_lives : Array (Option Value)} {ocRule_lives kVRule_lives dcRule_lives pmRule_lives cdRule_lives ctRule_lives : Value}
    {f_Rule_eq : Addr} {odRule_eq anRule_eq : Option Addr} {slRule_eq : Array (Option Value)} {ocRule_eq kVRule_eq dcRule_eq pmRule_eq cdRule_eq ctRule_eq : Value}
    {f_read_rule : Addr} {odread_rule anread_rule : Option Addr} {slread_rule : Array (Option Value)} {ocread_rule kVread_rule dcread_rule pmread_rule cdread_rule ctread_rule : Value}
    {f_write_rule : Addr} {odwrite_rule anwrite_rule : Option Addr} {slwrite_rule : Array (Option Value)} {ocwrite_rule kVwrite_rule dcwrite_rule pmwrite_rule cdwrite_rule ctwrite_rule : Value}
    {f_numbers : Addr} {odnumbers annumbers : Option Addr} {slnumbers : Array (Option Value)} {ocnumbers kVnumbers dcnumbers pmnumbers cdnumbers ctnumbers : Value}
    {f_digits : Addr} {oddigits andigits : Option Addr} {sldigits : Array (Option Value)} {ocdigits kVdigits dcdigits pmdigits cddigits ctdigits : Value}
    {f_law_cell : Addr} {odlaw_cell anlaw_cell : Option Addr} {sllaw_cell : Array (Option Value)} {oclaw_cell kVlaw_cell dclaw_cell pmlaw_cell cdlaw_cell ctlaw_cell : Value}
    {f_law_row : Addr} {odlaw_row anlaw_row : Option Addr} {sllaw_row : Array (Option Value)} {oclaw_row kVlaw_row dclaw_row pmlaw_row cdlaw_row ctlaw_row : Value}
    {f_law_numbers : Addr} {odlaw_numbers anlaw_numbers : Option Addr} {sllaw_numbers : Array (Option Value)} {oclaw_numbers kVlaw_numbers dclaw_numbers pmlaw_numbers cdlaw_numbers ctlaw_numbers : Value}
    {f_law_mixed : Addr} {odlaw_mixed anlaw_mixed : Option Addr} {sllaw_mixed : Array (Option Value)} {oclaw_mixed kVlaw_mixed dclaw_mixed pmlaw_mixed cdlaw_mixed ctlaw_mixed : Value}
    {f_law : Addr} {odlaw anlaw : Option Addr} {sllaw : Array (Option Value)} {oclaw kVlaw dclaw pmlaw cdlaw ctlaw : Value}
    {uBIRTH_DIGITS : Tok}
    {uSURVIVAL_DIGITS : Tok}
    (aCRule : PySem.W.nsIn K mainGlobals "Rule" = some (some (.ref C_Rule)))
    (pgRule : PySem.W.plainGet K C_Rule Str.empty = true)
    (hdRule : PySem.W.hasDictIn K C_Rule = true)
    (poRule : PySem.W.plainOver K C_Rule = true)
    (saRule : PySem.W.findIn K (.ref C_Rule) "__setattr__" = some (some (.builtin "object.__setattr__")))
    (mkRule : PySem.W.makesIn K C_Rule = true)
    (kcRule : PySem.W.keepIn K (.ref C_Rule) = true)
    (nRulebirths : PySem.W.findIn K (.ref C_Rule) "births" = some none)
    (nRulesurvival : PySem.W.findIn K (.ref C_Rule) "survival" = some none)
    (aRule_init : PySem.W.findIn K (.ref C_Rule) "__init__" = some (some (.ref f_Rule_init)))
    (iRule_init : PySem.W.isFn K (.ref f_Rule_init) = true)
    (lRule_init : K.lookup f_Rule_init = some ⟨ocRule_init, odRule_init, .func (PySem.W.fnOf "__init__" "Rule.__init__" (defArgs s_Rule_init) (defBody s_Rule_init) (defScope s_Rule_init) .none kVRule_init dcRule_init pmRule_init anRule_init cdRule_init ctRule_init), slRule_init⟩)
    (cRule_init : PySem.W.codeIn K cdRule_init "Rule.__init__" = true)
    (kRule_init : PySem.W.keepIn K (.ref f_Rule_init) = true)
    (aRule_lives : PySem.W.findIn K (.ref C_Rule) "lives" = some (some (.ref f_Rule_lives)))
    (iRule_lives : PySem.W.isFn K (.ref f_Rule_lives) = true)
    (lRule_lives : K.lookup f_Rule_lives = some ⟨ocRule_lives, odRule_lives, .func (PySem.W.fnOf "lives" "Rule.lives" (defArgs s_Rule_lives) (defBody s_Rule_lives) (defScope s_Rule_lives) .none kVRule_lives dcRule_lives pmRule_lives anRule_lives cdRule_lives ctRule_lives), slRule_lives⟩)
    (cRule_lives : PySem.W.codeIn K cdRule_lives "Rule.lives" = true)
    (kRule_lives : PySem.W.keepIn K (.ref f_Rule_lives) = true)
    (aRule_eq : PySem.W.findIn K (.ref C_Rule) "__eq__" = some (some (.ref f_Rule_eq)))
    (iRule_eq : PySem.W.isFn K (.ref f_Rule_eq) = true)
    (lRule_eq : K.lookup f_Rule_eq = some ⟨ocRule_eq, odRule_eq, .func (PySem.W.fnOf "__eq__" "Rule.__eq__" (defArgs s_Rule_eq) (defBody s_Rule_eq) (defScope s_Rule_eq) .none kVRule_eq dcRule_eq pmRule_eq anRule_eq cdRule_eq ctRule_eq), slRule_eq⟩)
    (cRule_eq : PySem.W.codeIn K cdRule_eq "Rule.__eq__" = true)
    (kRule_eq : PySem.W.keepIn K (.ref f_Rule_eq) = true)
    (aread_rule : PySem.W.nsIn K mainGlobals "read_rule" = some (some (.ref f_read_rule)))
    (lread_rule : K.lookup f_read_rule = some ⟨ocread_rule, odread_rule, .func (PySem.W.fnOf "read_rule" "read_rule" (defArgs s_read_rule) (defBody s_read_rule) (defScope s_read_rule) .none kVread_rule dcread_rule pmread_rule anread_rule cdread_rule ctread_rule), slread_rule⟩)
    (cread_rule : PySem.W.codeIn K cdread_rule "read_rule" = true)
    (kread_rule : PySem.W.keepIn K (.ref f_read_rule) = true)
    (awrite_rule : PySem.W.nsIn K mainGlobals "write_rule" = some (some (.ref f_write_rule)))
    (lwrite_rule : K.lookup f_write_rule = some ⟨ocwrite_rule, odwrite_rule, .func (PySem.W.fnOf "write_rule" "write_rule" (defArgs s_write_rule) (defBody s_write_rule) (defScope s_write_rule) .none kVwrite_rule dcwrite_rule pmwrite_rule anwrite_rule cdwrite_rule ctwrite_rule), slwrite_rule⟩)
    (cwrite_rule : PySem.W.codeIn K cdwrite_rule "write_rule" = true)
    (kwrite_rule : PySem.W.keepIn K (.ref f_write_rule) = true)
    (anumbers : PySem.W.nsIn K mainGlobals "_numbers" = some (some (.ref f_numbers)))
    (lnumbers : K.lookup f_numbers = some ⟨ocnumbers, odnumbers, .func (PySem.W.fnOf "_numbers" "_numbers" (defArgs s_numbers) (defBody s_numbers) (defScope s_numbers) .none kVnumbers dcnumbers pmnumbers annumbers cdnumbers ctnumbers), slnumbers⟩)
    (cnumbers : PySem.W.codeIn K cdnumbers "_numbers" = true)
    (knumbers : PySem.W.keepIn K (.ref f_numbers) = true)
    (adigits : PySem.W.nsIn K mainGlobals "_digits" = some (some (.ref f_digits)))
    (ldigits : K.lookup f_digits = some ⟨ocdigits, oddigits, .func (PySem.W.fnOf "_digits" "_digits" (defArgs s_digits) (defBody s_digits) (defScope s_digits) .none kVdigits dcdigits pmdigits andigits cddigits ctdigits), sldigits⟩)
    (cdigits : PySem.W.codeIn K cddigits "_digits" = true)
    (kdigits : PySem.W.keepIn K (.ref f_digits) = true)
    (alaw_cell : PySem.W.nsIn K mainGlobals "_law_cell" = some (some (.ref f_law_cell)))
    (llaw_cell : K.lookup f_law_cell = some ⟨oclaw_cell, odlaw_cell, .func (PySem.W.fnOf "_law_cell" "_law_cell" (defArgs s_law_cell) (defBody s_law_cell) (defScope s_law_cell) .none kVlaw_cell dclaw_cell pmlaw_cell anlaw_cell cdlaw_cell ctlaw_cell), sllaw_cell⟩)
    (claw_cell : PySem.W.codeIn K cdlaw_cell "_law_cell" = true)
    (klaw_cell : PySem.W.keepIn K (.ref f_law_cell) = true)
    (alaw_row : PySem.W.nsIn K mainGlobals "_law_row" = some (some (.ref f_law_row)))
    (llaw_row : K.lookup f_law_row = some ⟨oclaw_row, odlaw_row, .func (PySem.W.fnOf "_law_row" "_law_row" (defArgs s_law_row) (defBody s_law_row) (defScope s_law_row) .none kVlaw_row dclaw_row pmlaw_row anlaw_row cdlaw_row ctlaw_row), sllaw_row⟩)
    (claw_row : PySem.W.codeIn K cdlaw_row "_law_row" = true)
    (klaw_row : PySem.W.keepIn K (.ref f_law_row) = true)
    (alaw_numbers : PySem.W.nsIn K mainGlobals "_law_numbers" = some (some (.ref f_law_numbers)))
    (llaw_numbers : K.lookup f_law_numbers = some ⟨oclaw_numbers, odlaw_numbers, .func (PySem.W.fnOf "_law_numbers" "_law_numbers" (defArgs s_law_numbers) (defBody s_law_numbers) (defScope s_law_numbers) .none kVlaw_numbers dclaw_numbers pmlaw_numbers anlaw_numbers cdlaw_numbers ctlaw_numbers), sllaw_numbers⟩)
    (claw_numbers : PySem.W.codeIn K cdlaw_numbers "_law_numbers" = true)
    (klaw_numbers : PySem.W.keepIn K (.ref f_law_numbers) = true)
    (alaw_mixed : PySem.W.nsIn K mainGlobals "_law_mixed" = some (some (.ref f_law_mixed)))
    (llaw_mixed : K.lookup f_law_mixed = some ⟨oclaw_mixed, odlaw_mixed, .func (PySem.W.fnOf "_law_mixed" "_law_mixed" (defArgs s_law_mixed) (defBody s_law_mixed) (defScope s_law_mixed) .none kVlaw_mixed dclaw_mixed pmlaw_mixed anlaw_mixed cdlaw_mixed ctlaw_mixed), sllaw_mixed⟩)
    (claw_mixed : PySem.W.codeIn K cdlaw_mixed "_law_mixed" = true)
    (klaw_mixed : PySem.W.keepIn K (.ref f_law_mixed) = true)
    (alaw : PySem.W.nsIn K mainGlobals "law" = some (some (.ref f_law)))
    (llaw : K.lookup f_law = some ⟨oclaw, odlaw, .func (PySem.W.fnOf "law" "law" (defArgs s_law) (defBody s_law) (defScope s_law) .none kVlaw dclaw pmlaw anlaw cdlaw ctlaw), sllaw⟩)
    (claw : PySem.W.codeIn K cdlaw "law" = true)
    (klaw : PySem.W.keepIn K (.ref f_law) = true)
    (ztuple : PySem.W.nsIn K mainGlobals "tuple" = some none)
    (zsorted : PySem.W.nsIn K mainGlobals "sorted" = some none)
    (zset : PySem.W.nsIn K mainGlobals "set" = some none)
    (ztype : PySem.W.nsIn K mainGlobals "type" = some none)
    (zint : PySem.W.nsIn K mainGlobals "int" = some none)
    (zstr : PySem.W.nsIn K mainGlobals "str" = some none)
    (zlen : PySem.W.nsIn K mainGlobals "len" = some none)
    (zabs : PySem.W.nsIn K mainGlobals "abs" = some none)
    (zrange : PySem.W.nsIn K mainGlobals "range" = some none)
    (zisinstance : PySem.W.nsIn K mainGlobals "isinstance" = some none)
    (zbool : PySem.W.nsIn K mainGlobals "bool" = some none)
    (zlist : PySem.W.nsIn K mainGlobals "list" = some none)
    (xBIRTH_DIGITS : PySem.W.nsIn K mainGlobals "BIRTH_DIGITS" = some (some (.str (Str.ofString "12345678") uBIRTH_DIGITS)))
    (xSURVIVAL_DIGITS : PySem.W.nsIn K mainGlobals "SURVIVAL_DIGITS" = some (some (.str (Str.ofString "012345678") uSURVIVAL_DIGITS))) :
    ∃ fd : FuncData, (∀ (s : Shared) (v : Value), BindsTo s fd ⟨[v], []⟩ [("script", v)]) ∧ ∀ base : Heap, K.In base → base.Ns mainGlobals mg → FnOk l.prog w K mg base CX0 4 fa fd ["script"] (sp_law K) := by
  have e := hfa.symm.trans (PySem.W.mg_of X G alaw)
  cases e
  have F_Rule_init := fun_mk (st := s_Rule_init) lRule_init cRule_init kRule_init
  have b_Rule_init := F_Rule_init.binds (ps := ["self", "births", "survival"]) fun _ _ _ _ _ _ us hl => match us, hl with | [_, _, _], _ => rfl
  have F_Rule_lives := fun_mk (st := s_Rule_lives) lRule_lives cRule_lives kRule_lives
  have b_Rule_lives := F_Rule_lives.binds (ps := ["self", "alive", "count"]) fun _ _ _ _ _ _ us hl => match us, hl with | [_, _, _], _ => rfl
  have F_Rule_eq := fun_mk (st := s_Rule_eq) lRule_eq cRule_eq kRule_eq
  have b_Rule_eq := F_Rule_eq.binds (ps := ["self", "other"]) fun _ _ _ _ _ _ us hl => match us, hl with | [_, _], _ => rfl
  have F_read_rule := fun_mk (st := s_read_rule) lread_rule cread_rule kread_rule
  have b_read_rule := F_read_rule.binds (ps := ["string"]) fun _ _ _ _ _ _ us hl => match us, hl with | [_], _ => rfl
  have F_write_rule := fun_mk (st := s_write_rule) lwrite_rule cwrite_rule kwrite_rule
  have b_write_rule := F_write_rule.binds (ps := ["rule"]) fun _ _ _ _ _ _ us hl => match us, hl with | [_], _ => rfl
  have F_numbers := fun_mk (st := s_numbers) lnumbers cnumbers knumbers
  have b_numbers := F_numbers.binds (ps := ["text", "digits"]) fun _ _ _ _ _ _ us hl => match us, hl with | [_, _], _ => rfl
  have F_digits := fun_mk (st := s_digits) ldigits cdigits kdigits
  have b_digits := F_digits.binds (ps := ["numbers"]) fun _ _ _ _ _ _ us hl => match us, hl with | [_], _ => rfl
  have F_law_cell := fun_mk (st := s_law_cell) llaw_cell claw_cell klaw_cell
  have b_law_cell := F_law_cell.binds (ps := ["script", "k"]) fun _ _ _ _ _ _ us hl => match us, hl with | [_, _], _ => rfl
  have F_law_row := fun_mk (st := s_law_row) llaw_row claw_row klaw_row
  have b_law_row := F_law_row.binds (ps := ["cell", "count", "bound"]) fun _ _ _ _ _ _ us hl => match us, hl with | [_, _, _], _ => rfl
  have F_law_numbers := fun_mk (st := s_law_numbers) llaw_numbers claw_numbers klaw_numbers
  have b_law_numbers := F_law_numbers.binds (ps := ["cell"]) fun _ _ _ _ _ _ us hl => match us, hl with | [_], _ => rfl
  have F_law_mixed := fun_mk (st := s_law_mixed) llaw_mixed claw_mixed klaw_mixed
  have b_law_mixed := F_law_mixed.binds (ps := ["numbers", "cell"]) fun _ _ _ _ _ _ us hl => match us, hl with | [_, _], _ => rfl
  have F_law := fun_mk (st := s_law) llaw claw klaw
  have b_law := F_law.binds (ps := ["script"]) fun _ _ _ _ _ _ us hl => match us, hl with | [_], _ => rfl
  let T : Txt K mg := {
    C_Rule := C_Rule,
    g_Rule := PySem.W.mg_of X G aCRule,
    cl_Rule := ⟨pgRule, hdRule, poRule, saRule⟩,
    na_Rule_births := nRulebirths,
    na_Rule_survival := nRulesurvival,
    f_Rule_init := f_Rule_init,
    d_Rule_init := _,
    F_Rule_init := F_Rule_init,
    b_Rule_init := b_Rule_init,
    M_Rule := ⟨mkRule, aRule_init, iRule_init, kcRule⟩,
    f_Rule_lives := f_Rule_lives,
    d_Rule_lives := _,
    F_Rule_lives := F_Rule_lives,
    b_Rule_lives := b_Rule_lives,
    m_Rule_lives := ⟨aRule_lives, iRule_lives, kRule_lives⟩,
    f_Rule_eq := f_Rule_eq,
    d_Rule_eq := _,
    F_Rule_eq := F_Rule_eq,
    b_Rule_eq := b_Rule_eq,
    e_Rule := aRule_eq,
    i_Rule := iRule_eq,
    f_read_rule := f_read_rule,
    d_read_rule := _,
    F_read_rule := F_read_rule,
    b_read_rule := b_read_rule,
    g_read_rule := PySem.W.mg_of X G aread_rule,
    f_write_rule := f_write_rule,
    d_write_rule := _,
    F_write_rule := F_write_rule,
    b_write_rule := b_write_rule,
    g_write_rule := PySem.W.mg_of X G awrite_rule,
    f_numbers := f_numbers,
    d_numbers := _,
    F_numbers := F_numbers,
    b_numbers := b_numbers,
    g_numbers := PySem.W.mg_of X G anumbers,
    f_digits := f_digits,
    d_digits := _,
    F_digits := F_digits,
    b_digits := b_digits,
    g_digits := PySem.W.mg_of X G adigits,
    f_law_cell := f_law_cell,
    d_law_cell := _,
    F_law_cell := F_law_cell,
    b_law_cell := b_law_cell,
    g_law_cell := PySem.W.mg_of X G alaw_cell,
    f_law_row := f_law_row,
    d_law_row := _,
    F_law_row := F_law_row,
    b_law_row := b_law_row,
    g_law_row := PySem.W.mg_of X G alaw_row,
    f_law_numbers := f_law_numbers,
    d_law_numbers := _,
    F_law_numbers := F_law_numbers,
    b_law_numbers := b_law_numbers,
    g_law_numbers := PySem.W.mg_of X G alaw_numbers,
    f_law_mixed := f_law_mixed,
    d_law_mixed := _,
    F_law_mixed := F_law_mixed,
    b_law_mixed := b_law_mixed,
    g_law_mixed := PySem.W.mg_of X G alaw_mixed,
    f_law := fa,
    d_law := _,
    F_law := F_law,
    b_law := b_law,
    g_law := PySem.W.mg_of X G alaw,
    z_tuple := PySem.W.mg_none_of X G ztuple,
    z_sorted := PySem.W.mg_none_of X G zsorted,
    z_set := PySem.W.mg_none_of X G zset,
    z_type := PySem.W.mg_none_of X G ztype,
    z_int := PySem.W.mg_none_of X G zint,
    z_str := PySem.W.mg_none_of X G zstr,
    z_len := PySem.W.mg_none_of X G zlen,
    z_abs := PySem.W.mg_none_of X G zabs,
    z_range := PySem.W.mg_none_of X G zrange,
    z_isinstance := PySem.W.mg_none_of X G zisinstance,
    z_bool := PySem.W.mg_none_of X G zbool,
    z_list := PySem.W.mg_none_of X G zlist,
    c_BIRTH_DIGITS := ⟨_, PySem.W.mg_of X G xBIRTH_DIGITS, ⟨_, rfl⟩⟩,
    c_SURVIVAL_DIGITS := ⟨_, PySem.W.mg_of X G xSURVIVAL_DIGITS, ⟨_, rfl⟩⟩ }
  exact ⟨_, fun s v => .of_eq rfl, fun base _ _ => ok_law T⟩
end My
open PySem PySem.W PyProof.Rows
set_option maxHeartbeats 0 in
theorem PySem.Challenge.cw_longlife_k01_rules_written_and_read_holds : PySem.Challenge.rw_longlife_k01_rules_written_and_read.Holds := by
  w_on; o_law; k_head; (case hw => w_witness2)
  k_fill
  refine L2.walk_of (l := PySem.Challenge.rw_longlife_k01_rules_written_and_read) (n := 63) (k := 4) (x := "script") (CX := fun _ => L2.CX0) (sp := fun w => My.sp_law _) rfl (by decide) rfl ⟨rfl, by decide, by decide⟩ (fun w h Y => PySem.W.kIn_of Y) ?F (fun _ _ a ns hl _ hS => ⟨a, ns, rfl, hS, hl, fun _ => rfl⟩) (fun _ _ _ _ _ h => h)
  case F =>
    intro w mg fa h KX G hmg
    refine' My.all_mk KX G hmg ?aCRule ?pgRule ?hdRule ?poRule ?saRule ?mkRule ?kcRule ?nRulebirths ?nRulesurvival ?aRule_init ?iRule_init ?lRule_init ?cRule_init ?kRule_init ?aRule_lives ?iRule_lives ?lRule_lives ?cRule_lives ?kRule_lives ?aRule_eq ?iRule_eq ?lRule_eq ?cRule_eq ?kRule_eq ?aread_rule ?lread_rule ?cread_rule ?kread_rule ?awrite_rule ?lwrite_rule ?cwrite_rule ?kwrite_rule ?anumbers ?lnumbers ?cnumbers ?knumbers ?adigits ?ldigits ?cdigits ?kdigits ?alaw_cell ?llaw_cell ?claw_cell ?klaw_cell ?alaw_row ?llaw_row ?claw_row ?klaw_row ?alaw_numbers ?llaw_numbers ?claw_numbers ?klaw_numbers ?alaw_mixed ?llaw_mixed ?claw_mixed ?klaw_mixed ?alaw ?llaw ?claw ?klaw ?ztuple ?zsorted ?zset ?ztype ?zint ?zstr ?zlen ?zabs ?zrange ?zisinstance ?zbool ?zlist ?xBIRTH_DIGITS ?xSURVIVAL_DIGITS
    (case aCRule => k_is)
    (case pgRule => k_is)
    (case hdRule => k_is)
    (case poRule => k_is)
    (case saRule => k_is)
    (case mkRule => k_is)
    (case kcRule => k_is)
    (case nRulebirths => k_is)
    (case nRulesurvival => k_is)
    (case aRule_init => k_is)
    (case iRule_init => k_is)
    (case lRule_init => k_is)
    (case cRule_init => k_is)
    (case kRule_init => k_is)
    (case aRule_lives => k_is)
    (case iRule_lives => k_is)
    (case lRule_lives => k_is)
    (case cRule_lives => k_is)
    (case kRule_lives => k_is)
    (case aRule_eq => k_is)
    (case iRule_eq => k_is)
    (case lRule_eq => k_is)
    (case cRule_eq => k_is)
    (case kRule_eq => k_is)
    (case aread_rule => k_is)
    (case lread_rule => k_is)
    (case cread_rule => k_is)
    (case kread_rule => k_is)
    (case awrite_rule => k_is)
    (case lwrite_rule => k_is)
    (case cwrite_rule => k_is)
    (case kwrite_rule => k_is)
    (case anumbers => k_is)
    (case lnumbers => k_is)
    (case cnumbers => k_is)
    (case knumbers => k_is)
    (case adigits => k_is)
    (case ldigits => k_is)
    (case cdigits => k_is)
    (case kdigits => k_is)
    (case alaw_cell => k_is)
    (case llaw_cell => k_is)
    (case claw_cell => k_is)
    (case klaw_cell => k_is)
    (case alaw_row => k_is)
    (case llaw_row => k_is)
    (case claw_row => k_is)
    (case klaw_row => k_is)
    (case alaw_numbers => k_is)
    (case llaw_numbers => k_is)
    (case claw_numbers => k_is)
    (case klaw_numbers => k_is)
    (case alaw_mixed => k_is)
    (case llaw_mixed => k_is)
    (case claw_mixed => k_is)
    (case klaw_mixed => k_is)
    (case alaw => k_is)
    (case llaw => k_is)
    (case claw => k_is)
    (case klaw => k_is)
    (case ztuple => k_is)
    (case zsorted => k_is)
    (case zset => k_is)
    (case ztype => k_is)
    (case zint => k_is)
    (case zstr => k_is)
    (case zlen => k_is)
    (case zabs => k_is)
    (case zrange => k_is)
    (case zisinstance => k_is)
    (case zbool => k_is)
    (case zlist => k_is)
    (case xBIRTH_DIGITS => k_is)
    (case xSURVIVAL_DIGITS => k_is)
