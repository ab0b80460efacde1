import PyProof.Rows.All
import Wide.All
import OpenK.AllK
import Wide.FinOn
import HandS.ForMost
import HandS.Strs
import HandS.SetFor
import HandS.OwnEq
import HandS.SlotsOwn
import HandS.IsInst
import HandS.Wide
import HandS.Style
import HandS.Steps
import HandS.Walk
import HandS.Exc
import HandS.TryOnly
import HandS.ExcOwn
import HandS.WordsExc
import HandS.FStr
import HandS.RaiseMore
import HandS.ExcIs
import PySem.Challenge.RW_longlife_k02_strings_that_are_no_rules
set_option Elab.async false
set_option linter.all false
set_option maxRecDepth 100000
set_option maxHeartbeats 4000000
namespace Vx
open PySem PySem.Spec PyProof.Rows L2
/-! ### heaps that grow -/
theorem newS {H : Hp} {p : Addr} {o : HO} (n : H p = none) : Same H (upd H p o) := fun b x e => by
  rw [upd_ne (ne_of_none e n)]
  exact e
theorem mutS {H H' : Hp} {p : Addr} {o : HO} (e : Same H H') (n : H p = none) : Same H (upd H' p o) := fun b x hb => by
  rw [upd_ne (ne_of_none hb n)]
  exact e b x hb
theorem getS {H H' : Hp} {a : Addr} {o : HO} (e : Same H H') (h : H a = some o) : H' a = some o := e a o h
theorem tupS {K : PySem.W.Frag} {H H' : Hp} {a : Addr} {xs : List V} (e : Same H H') (h : SqT K H a xs) : SqT K H' a xs := by
  rcases h with (h | ⟨o, h⟩) | h
  · exact .inl (.inl (e _ _ h))
  · exact .inl (.inr ⟨o, e _ _ h⟩)
  · exact .inr h
theorem lst_of {K : PySem.W.Frag} {H : Hp} {a : Addr} {xs : List V} (h : H a = some (.lst xs)) : SqL K H a xs := .inl (.inl h)
theorem tup_of {K : PySem.W.Frag} {H : Hp} {a : Addr} {xs : List V} (h : H a = some (.tup xs)) : SqT K H a xs := .inl (.inl h)
theorem neS {H H' : Hp} {a p : Addr} {o : HO} (h : H a = some o) (e : Same H H') (n : H' p = none) : a ≠ p := ne_of_none (e a o h) n
theorem backS {H H' : Hp} {p : Addr} (e : Same H H') (n : H' p = none) : H p = none := Same.free e n
theorem gen_e {H H1 : Hp} {p : Addr} {o : HO} (q : upd H p o = H1) (n : H p = none) : Same H H1 ∧ H1 p = some o := by
  subst q
  exact ⟨newS n, upd_same⟩
/-! ### calls of built-ins, one way each -/
section
variable {X : Cx}
theorem call_intI : CallR X (.type "int") (fun xs H Q => ∃ i, xs = [.int i] ∧ Q (.int i) H) := fun pins s σ H xs us Q I r h => call_int1 pins s σ H xs us Q I r (.inl h)
theorem call_tupL : CallR X (.type "tuple") (fun xs H Q => ∃ p ys, xs = [.ref p] ∧ SqL X.K H p ys ∧ ∀ l, H l = none → Q (.ref l) (upd H l (.tup ys))) := fun pins s σ H xs us Q I r h => by
  obtain ⟨p, ys, e, hs, q⟩ := h
  exact call_tuple_of pins s σ H xs us Q I r ⟨p, ys, e, .inl ⟨hs, q⟩⟩
theorem call_lenL : CallR X (.builtin "len") (fun xs H Q => ∃ p ys, xs = [.ref p] ∧ SqL X.K H p ys ∧ Q (.int ys.length) H) := fun pins s σ H xs us Q I r h => by
  obtain ⟨p, ys, e, hs, q⟩ := h
  exact call_len_seq pins s σ H xs us Q I r ⟨p, ys, e, .inl hs, q⟩
theorem call_lenU : CallR X (.builtin "len") (fun xs H Q => ∃ p ys, xs = [.ref p] ∧ SqT X.K H p ys ∧ Q (.int ys.length) H) := fun pins s σ H xs us Q I r h => by
  obtain ⟨p, ys, e, hs, q⟩ := h
  exact call_len_seq pins s σ H xs us Q I r ⟨p, ys, e, .inr hs, q⟩
theorem call_listL : CallR X (.type "list") (fun xs H Q => ∃ p ys, xs = [.ref p] ∧ SqL X.K H p ys ∧ ∀ l, H l = none → Q (.ref l) (upd H l (.lst ys))) := fun pins s σ H xs us Q I r h => by
  obtain ⟨p, ys, e, hs, q⟩ := h
  exact call_list_of pins s σ H xs us Q I r ⟨p, ys, e, .inl hs, q⟩
/-- a class of the text is no built-in type -/
theorem op_isCT : OpR X (compareOp .Is) (fun x y H Q => ∃ a n, x = V.ref a ∧ y = V.ty n ∧ Q (.bl false) H) := by
  intro pins s σ H x y v u Q I rx ry h
  obtain ⟨a, n, rfl, rfl, q⟩ := h
  cases (show v = Value.ref a from rx)
  cases (show u = Value.type n from ry)
  exact wpAny_is_other rfl (fun z => by cases z) ⟨.bl false, H, I, rfl, q⟩
theorem looks_ty {M : Model} {s : Shared} {u : Value} {T : String} (h : s.TypeIs u T) : PySem.W.Looks M s.heap (typeOf u) (.type T) := by
  unfold Shared.TypeIs at h
  split at h
  · obtain ⟨o, ho, hc⟩ := h
    exact fun A Q E s' k q => wpAny_typeOf_ref (k _ _ ho) (by rw [hc]; exact q)
  · exact PySem.W.Looks.of_pure h
/-- x == y by the text's own __eq__; y an instance of that class, or of a built-in type -/
def rEqOwn (K : PySem.W.Frag) (C : Addr) (sp : Sp) (E : XK) : R2 := fun x y H Q => ∃ a dx fs, x = .ref a ∧ H a = some (.ins C dx fs) ∧
  ((∃ b dy gs, y = .ref b ∧ H b = some (.ins C dy gs)) ∨ ∃ T, TyB K H y T ∧ PySem.W.notFirst K C (.type T) = true) ∧ sp [x, y] H Q E
theorem op_eqOwn {CX : CXT} {C g : Addr} {n : Nat} {sp : Sp} {E : XK} (hs : PySem.W.findIn X.K (.ref C) "__eq__" = some (some (.ref g))) (hf : PySem.W.isFn X.K (.ref g) = true)
    (F : FnR X.prog X.w X.K X.mg X.base CX n g sp) (hr : Room n X.A) (hx : Passes CX X E) : OpR X (compareOp .Eq) (rEqOwn X.K C sp E) := by
  intro pins s σ H x y v u Q I rx ry h
  obtain ⟨a, dx, fs, rfl, ha, hy, q⟩ := h
  cases (show v = Value.ref a from rx)
  obtain ⟨mA, O, _⟩ := ins_get I.hok ha
  obtain ⟨od, J, _⟩ := O.look
  obtain ⟨m, hF⟩ := I.fr
  show wpAny (model X.prog X.w) X.A (richCompare .Eq (.ref a) u) (EP X pins σ Q) X.xe s
  have fin : wpAny (model X.prog X.w) X.A (call (.ref g) [.ref a, u]) (PySem.W.CmpBack (EP X pins σ Q)) X.xe s := by
    refine wpAny_mono (wpAny_call (run_fnR (us := [.ref a, u]) (vs := [.ref a, y]) F hr hx I (.cons rfl (.cons ry .nil)) q)) (fun w s' z => ?_) fun _ _ x => x
    obtain ⟨z', H', I', rz, qz⟩ := z
    exact SlX.cmpback rz ⟨z', H', I', rz, qz⟩
  rcases hy with ⟨b, dy, gs, rfl, hb⟩ | ⟨T, ty, nf⟩
  · cases (show u = Value.ref b from ry)
    obtain ⟨mB, O2, _⟩ := ins_get I.hok hb
    obtain ⟨od2, J2, _⟩ := O2.look
    exact PySem.W.cmp_K (op := .Eq) (tb := .ref C) hr.units0 hF I.ok.mod.kin J J2.type (by simp [PySem.W.notFirst]) hs hf fin
  · exact PySem.W.cmp_K (op := .Eq) (tb := .type T) hr.units0 hF I.ok.mod.kin J (looks_ty (ty.is I ry)) nf hs hf fin
theorem nf_str {K : PySem.W.Frag} {C : Addr} : PySem.W.notFirst K C (.type "str") = true := by rfl
theorem nf_tup {K : PySem.W.Frag} {C : Addr} : PySem.W.notFirst K C (.type "tuple") = true := by rfl
end
end Vx
namespace Vx
open PySem PySem.Spec PyProof.Rows L2
/-! ### set(xs) of a list of ints -/
abbrev bareSet (w : World) : Obj := { cls := .type "set", dict := none, data := .set #[] 0 (.fresh 0 0 (!w.params.followText "set-order")) }
section
variable {P : Program} {w : World} {A : Around} {E : Value → Shared → Prop} {s : Shared}
theorem set_of_list {l : Addr} {its : Array Value} (ns : List Int) {Q : Value → Shared → Prop} (calm : A.handled = none) (hl : s.heap.IsList l its) (hi : IntsAre its.toList ns) (room : ns.length + 1 < scanBound)
    (k : ∀ (g : Heap) (t c : Nat), SetR w g s.heap.objs.size (fun j => decide (j ∈ ns)) c → c ≤ ns.length → (∀ b o, s.heap.get? b = some o → g.get? b = some o) → Q (.ref s.heap.objs.size) { s with heap := g, toks := t }) :
    wpAny (model P w) A (call (.type "set") [.ref l]) Q E s := by
  have len : its.size = ns.length := by
    have z := IntsAre.length hi
    rwa [Array.length_toList] at z
  obtain ⟨c0, tl, hmro⟩ := F.called_set.mro
  have hmade := F.called_set.made
  have hsub := F.called_set.sub
  refine wpAny_call (codeAny_of_tree ?_)
  show wpAny _ _ (callAny (.type "set") _) _ _ _
  refine wpAny_pure ⟨Code.quiet_builtin _ (by decide +kernel), codeAny_builtin F.entry_type_call ?_⟩
  rw [Around.under_plain (weight_type_call_type "set" [.ref l] []) rfl]
  have n1 := F.called_set.notType
  have n2 := F.called_set.canCreate
  have n3 := F.typeCall_set_1 (.ref l)
  repeat (any_goals (first | assumption | wp_step))
  refine codeAny_mono (code_set_led1 (.ref l) (E := E) (Q₁ := fun ob s1 => ob = .ref s.heap.objs.size ∧ s1 = { s with heap := s.heap.push (bareSet w) }) ⟨rfl, rfl⟩) fun r s1 hr => ?_
  rcases r with e | fl
  · exact hr
  cases fl with
  | ret ob =>
    obtain ⟨rfl, rfl⟩ := hr
    have at0 : (s.heap.push (bareSet w)).get? s.heap.objs.size = some (bareSet w) := Heap.get?_push_size _ rfl
    have ty0 : Shared.TypeIs { s with heap := s.heap.push (bareSet w) } (.ref s.heap.objs.size) "set" := ⟨_, at0, rfl⟩
    have i1 := F.called_set.init.lookup
    have i2 := F.called_set.init.bind (.ref s.heap.objs.size)
    repeat (any_goals (first | assumption | wp_step))
    refine codeAny_mono (codeAny_call_builtin (R := wants (fun v s2 => v = .none ∧ ∃ g t c, s2 = { s with heap := g, toks := t } ∧ SetR w g s.heap.objs.size (fun j => decide (j ∈ ns)) c ∧ c ≤ ns.length ∧
        (∀ b o, s.heap.get? b = some o → g.get? b = some o)) E) F.called_set.init.plain F.entry_set_init (check_set_init_1 ty0 ?_)) fun r2 s2 hr2 => ?_
    · obtain ⟨⟨oc, od, ob, osl⟩, hol, hcl, nl, hdl⟩ := hl
      simp only at hcl hdl
      subst hcl hdl
      have at1 : (s.heap.push (bareSet w)).get? l = some { cls := .type "list", dict := od, data := .seq its nl, slots := osl } := Heap.get?_push_of_some _ hol
      have q1 := F.sub_list_set
      have q2 := F.sub_list_frozenset
      have q3 : (Value.type "list" == Value.type "dict") = false := by decide
      have isl : (s.heap.push (bareSet w)).IsList l its := ⟨_, at1, rfl, nl, rfl⟩
      unfold Builtin.«set.__init__» noKeywords Builtin.Frozenset.updateFrom
      generalize hPI : pyIter = PI
      wp_walk
      subst hPI
      refine wpAny_pyIter_list isl ?_
      refine wpAny_bind (wpAny_runValue ?_)
      have lS : l < s.heap.objs.size := Heap.lt_size hol
      have calm3 : A.in1.in1.in1.handled = none := by simp [calm]
      have neI : l ≠ (s.heap.push (bareSet w)).objs.size := by
        rw [Heap.size_push]
        exact Nat.ne_of_lt (Nat.lt_succ_of_lt lS)
      have noS : s.heap.objs.size ∉ [(s.heap.push (bareSet w)).objs.size, l] := by
        rw [Heap.size_push]
        simp only [List.mem_cons, List.mem_singleton, List.not_mem_nil, or_false, not_or]
        exact ⟨Nat.ne_of_lt (Nat.lt_succ_self _), Nat.ne_of_gt lS⟩
      have item : ∀ (i : Nat) (v : Value), its[i]? = some v → ∃ m t, ns[i]? = some m ∧ v = .int m t := fun i v hv => by
        have li : i < ns.length := by rw [← len]; exact (Array.getElem?_eq_some_iff.mp hv).1
        obtain ⟨t, e⟩ := PyProof.Rows.IntsAre.int_at hi i v (by rw [Array.getElem?_toList]; exact hv)
        refine ⟨ns[i], t, List.getElem?_eq_getElem li, ?_⟩
        rw [e, List.getD_eq_getElem?_getD, List.getElem?_eq_getElem li]
        rfl
      refine set_update_ints ((Walks.list calm3 _ l neI its).toS) s.heap.objs.size noS ns len room item (its.size - 0) 0 _ (by omega) (Nat.zero_le _) ⟨⟨_, Heap.get?_push_size _ rfl, rfl, rfl⟩, (isl.push _)⟩ ?s0 ?fin
      case s0 => exact ⟨0, Nat.le_refl 0, setR_new_at (Heap.get?_push_of_some _ at0)⟩
      case fin =>
        intro s3 c3 mv hc3 hS3
        obtain ⟨g3, ge, dr, t3, os3⟩ := s3
        cases (show ge = s.gens from mv.gens)
        cases (show dr = s.drawn from mv.drawn)
        cases (show os3 = s.os from mv.os)
        show wpAny _ _ _ _ _ _
        refine wpAny_pure ?_
        show wpAny _ _ (ret Value.none) _ _ _
        rw [len] at hc3
        refine wpAny_pure ⟨rfl, g3, t3, c3, rfl, hS3, hc3, fun b o e => ?_⟩
        have b0 : b < s.heap.objs.size := Heap.lt_size e
        have b2 : b ≠ (s.heap.push (bareSet w)).objs.size := by
          rw [Heap.size_push]
          exact Nat.ne_of_lt (Nat.lt_succ_of_lt b0)
        exact mv.heap b o (by simp only [List.mem_cons, List.mem_singleton, List.not_mem_nil, or_false, not_or]; exact ⟨Nat.ne_of_lt b0, b2⟩) (Heap.get?_push_of_some _ (Heap.get?_push_of_some _ e))
    · rcases r2 with e | fl2
      · exact hr2
      cases fl2 with
      | ret v =>
        obtain ⟨rfl, g, t, c, rfl, hS, hc, hk⟩ := hr2
        repeat (any_goals (first | assumption | wp_step))
        exact k _ _ _ hS hc hk
      | _ => exact hr2.elim
  | _ => exact hr.elim
end
section
variable {X : Cx}
theorem cr_setL (hc : X.calm = true) : CallR X (.type "set") (fun vs H Q => ∃ (l : Addr) (ns : List Int), vs = [V.ref l] ∧ SqL X.K H l (ns.map V.int) ∧ ns.length + 1 < scanBound ∧
    ∀ p c, H p = none → c ≤ ns.length → Q (.ref p) (upd H p (SetO X.w p (fun j => decide (j ∈ ns)) c))) := by
  intro pins s σ H xs us Q I r h
  obtain ⟨l, ns, rfl, hl, room, q⟩ := h
  rw [Vals.ref1 r]
  obtain ⟨its, rv, pl, hz⟩ := I.list hl
  refine set_of_list ns (I.ok.hd hc) pl.isList (by simpa using ints_of_vals rv) room fun g t c R hc' k => ?_
  have hn : H s.heap.objs.size = none := I.hok.fresh (Nat.le_refl _)
  exact ⟨.ref _, _, I.laid (a := s.heap.objs.size) (t' := t) k (Nat.le_refl _) (setO_new R), rfl, q _ c hn hc'⟩
end
end Vx
namespace Vx
open PySem PySem.Spec PyProof.Rows L2
/-! ### ascending lists -/
theorem asc_eq : ∀ {l m : List Int}, l.Pairwise (· < ·) → m.Pairwise (· < ·) → (∀ k, k ∈ l ↔ k ∈ m) → l = m
  | [], [], _, _, _ => rfl
  | [], y :: m, _, _, h => absurd ((h y).mpr List.mem_cons_self) (by simp)
  | x :: l, [], _, _, h => absurd ((h x).mp List.mem_cons_self) (by simp)
  | x :: l, y :: m, hl, hm, h => by
    obtain ⟨h1, h2⟩ := List.pairwise_cons.mp hl
    obtain ⟨h3, h4⟩ := List.pairwise_cons.mp hm
    have e : x = y := by
      rcases List.mem_cons.mp ((h x).mp List.mem_cons_self) with e | e
      · exact e
      · rcases List.mem_cons.mp ((h y).mpr List.mem_cons_self) with e2 | e2
        · exact e2.symm
        · have a := h3 _ e
          have b := h1 _ e2
          omega
    subst e
    rw [asc_eq h2 h4 fun k => ?_]
    have q := h k
    constructor
    · intro hk
      rcases List.mem_cons.mp (q.mp (List.mem_cons_of_mem _ hk)) with e | e
      · exact absurd (h1 _ hk) (by omega)
      · exact e
    · intro hk
      rcases List.mem_cons.mp (q.mpr (List.mem_cons_of_mem _ hk)) with e | e
      · exact absurd (h3 _ hk) (by omega)
      · exact e
/-! ### data -/
theorem eqvAll_ints : ∀ (l m : List Int), PyData.eqvAll (l.map PyData.int) (m.map PyData.int) = decide (l = m)
  | [], [] => by simp [PyData.eqvAll]
  | [], y :: m => by simp [PyData.eqvAll]
  | x :: l, [] => by simp [PyData.eqvAll]
  | x :: l, y :: m => by
    show (PyData.eqv (.int x) (.int y) && PyData.eqvAll (l.map PyData.int) (m.map PyData.int)) = _
    rw [eqvAll_ints l m]
    show ((x == y) && decide (l = m)) = _
    by_cases e : x = y <;> by_cases e2 : l = m <;> simp [e, e2]
theorem eqv_tupI (l m : List Int) : PyData.eqv (.tuple (l.map PyData.int)) (.tuple (m.map PyData.int)) = decide (l = m) := eqvAll_ints l m
theorem eqv_lstI (l m : List Int) : PyData.eqv (.list (l.map PyData.int)) (.list (m.map PyData.int)) = decide (l = m) := eqvAll_ints l m
theorem dpAll_ints {K : PySem.W.Frag} {H : Hp} : ∀ l : List Int, DpAll K H (l.map V.int) (l.map PyData.int)
  | [] => .nil
  | x :: l => .cons (.int x) (dpAll_ints l)
theorem dp_tupI {K : PySem.W.Frag} {H : Hp} {a : Addr} {l : List Int} (h : SqT K H a (l.map V.int)) : Dp K H (.ref a) (.tuple (l.map PyData.int)) := .tup h (dpAll_ints l)
theorem dp_lstI {K : PySem.W.Frag} {H : Hp} {a : Addr} {l : List Int} (h : SqL K H a (l.map V.int)) : Dp K H (.ref a) (.list (l.map PyData.int)) := .lst h (dpAll_ints l)
theorem inV_ints (x : Int) : ∀ l : List Int, inV (.int x) (l.map V.int) = decide (x ∈ l)
  | [] => by simp [inV]
  | y :: l => by
    have ih := inV_ints x l
    unfold inV at ih ⊢
    rw [List.map_cons, List.any_cons, ih]
    show ((y == x) || decide (x ∈ l)) = _
    by_cases e : y = x
    · simp [e]
    · have e' : ¬ x = y := fun z => e z.symm
      simp [e, e']
theorem flat_ints (l : List Int) : (l.map V.int).all flatV = true := by
  rw [List.all_map]
  exact List.all_eq_true.mpr fun _ _ => rfl
end Vx
namespace Vx
open PySem PySem.Spec PyProof.Rows L2
theorem canAll_ints : ∀ l : List Int, PyData.canLayAll0 (l.map PyData.int) = true
  | [] => by simp [PyData.canLayAll0]
  | x :: l => by
    rw [List.map_cons]
    simp [PyData.canLayAll0, PyData.canLay0, canAll_ints l]
theorem depAll_ints : ∀ l : List Int, PyData.depthAll (l.map PyData.int) = 0
  | [] => by simp [PyData.depthAll]
  | x :: l => by
    rw [List.map_cons]
    simp [PyData.depthAll, PyData.depth, depAll_ints l]
theorem shaped_tupI (l : List Int) : SeqAt.shaped (.tuple (l.map PyData.int)) = true := by
  unfold SeqAt.shaped
  simp [PyData.canLay0, PyData.depth, canAll_ints, depAll_ints]
theorem shaped_lstI (l : List Int) : SeqAt.shaped (.list (l.map PyData.int)) = true := by
  unfold SeqAt.shaped
  simp [PyData.canLay0, PyData.depth, canAll_ints, depAll_ints]
theorem tyesT {σ : L2.St} {H : Hp} {A B : Hp → Prop} (h : A H) : tYes σ H (fun b H3 => if b = true then A H3 else B H3) := h
theorem item_ints {xs : List Int} {i : Nat} {x : V} (h : (xs.map V.int)[i]? = some x) : ∃ z, x = .int z ∧ xs[i]? = some z ∧ z ∈ xs := by
  rw [List.getElem?_map] at h
  cases e : xs[i]? with
  | none => rw [e] at h; cases h
  | some z =>
    rw [e] at h
    exact ⟨z, (Option.some.inj h).symm, rfl, List.mem_of_getElem? e⟩
theorem at_ints {xs : List Int} {k : Int} (h0 : 0 ≤ k) (h1 : k < (xs.length : Int)) : ∃ z, z ∈ xs ∧ atI (xs.map V.int) k = some (.int z) := by
  have hj : k.toNat < xs.length := by omega
  refine ⟨xs[k.toNat], List.getElem_mem hj, ?_⟩
  refine at_of (j := k.toNat) (by omega) ?_
  rw [List.getElem?_map, List.getElem?_eq_getElem hj]
  rfl
theorem mem_ins {ys : List Int} {j : Nat} {y k : Int} (hy : y ∈ ys) : k ∈ ys.take j ++ [y] ++ ys.drop j ↔ k ∈ ys := by
  have e : k ∈ ys ↔ k ∈ ys.take j ∨ k ∈ ys.drop j := by rw [← List.mem_append, List.take_append_drop]
  rw [List.mem_append, List.mem_append, List.mem_singleton, e]
  constructor
  · rintro ((h | h) | h)
    · exact .inl h
    · subst h
      exact e.mp hy
    · exact .inr h
  · rintro (h | h)
    · exact .inl (.inl h)
    · exact .inr h
theorem madeS {C : Addr} {H : Hp} {x dx : Addr} (nx : H x = none) (nd : H dx = none) : Same H (upd (upd H dx (.own x)) x (.ins C dx [])) := fun b o e => by
  rw [upd_ne (ne_of_none e nx), upd_ne (ne_of_none e nd)]
  exact e
theorem pe_gcx {X : Cx} {x : Str} {pos : Pos} {v : V} (hg : Gl X x) (h : ∃ u, X.mg x = some u ∧ RelV v u) (hd : (x == ("__debug__" : Str)) = false := by decide +kernel) : PE X (.Name x pos) (tC v) := by
  obtain ⟨u, h, r⟩ := h
  exact pe_glob hg h r hd
theorem call_intB {X : Cx} : CallR X (.type "int") (fun xs H Q => ∃ k, xs = [.bl k] ∧ Q (.int (if k = true then 1 else 0)) H) := fun pins s σ H xs us Q I r h => call_int1 pins s σ H xs us Q I r (.inr h)
theorem cut_lo_len (z : Str) {k : Int} (h : 0 ≤ k) : (cutS z none (some k)).length ≤ k.toNat := by
  show (List.toArray _).size ≤ _
  rw [List.size_toArray, List.length_take]
  show min (HT.sIx z.length z.length (some k) - 0) _ ≤ _
  have e : HT.sIx z.length z.length (some k) = min k.toNat z.length := by
    show (if k < 0 then (k + (z.length : Int)).toNat else min k.toNat z.length) = _
    rw [if_neg (by omega)]
  omega
theorem cut_hi_len (z : Str) {k : Int} (h : 0 ≤ k) : (cutS z (some k) none).length ≤ z.length - k.toNat := by
  show (List.toArray _).size ≤ _
  have e : HT.sIx z.length 0 (some k) = min k.toNat z.length := by
    show (if k < 0 then (k + (z.length : Int)).toNat else min k.toNat z.length) = _
    rw [if_neg (by omega)]
  rw [List.size_toArray, List.length_take, List.length_drop, e]
  show min (z.length - min k.toNat z.length) (z.cps.toList.length - min k.toNat z.length) ≤ _
  have : z.cps.toList.length = z.length := Array.length_toList
  omega
end Vx
namespace Vx
open PySem PySem.Spec PyProof.Rows L2
/-- isinstance of the caught error, its class told by the reading -/
theorem call_isE2 {X : Cx} {a D : Addr} {oe : Obj} {cls : Value} {d : Option Addr} {pn : List (Addr × Obj)} (C : ExcC X.K D) (hz : Zc cls d oe) (hf : ∃ vs, oe.data = .fields vs) :
    CallR (X.suite a ((a, oe) :: pn)) (.builtin "isinstance") (fun xs H Q => cls = .ref D ∧ d = none ∧ rIsE X.K D a xs H Q) := fun pins s σ H xs us Q I r h => by
  obtain ⟨h1, h2, h3⟩ := h
  subst h1 h2
  exact call_isE C hz hf pins s σ H xs us Q I r h3
theorem kit_sub {K : PySem.W.Frag} {D C : Addr} {b : Bool} (hc : PySem.W.isClsIn K C = true) (ht : PySem.W.typeIn K (.ref C) = some (.type "type")) (h1 : PySem.W.subIn K (.ref D) (.ref D) = some true) (h2 : PySem.W.subIn K (.ref D) (.ref C) = some b) :
    PySem.W.kitOne K (.ref D) (.ref C) = some b := by
  unfold PySem.W.kitOne
  by_cases e : D = C
  · subst e
    rw [h1] at h2
    rw [if_pos (beq_self_eq_true _)]
    exact h2
  · rw [if_neg (by intro q; exact e (Value.ref.inj (beq_iff_eq.mp q)))]
    unfold PySem.W.kitCls
    have hc' : (PySem.W.clsIn K C).isSome = true := hc
    have e2 : ((PySem.W.clsIn K C).isSome && PySem.W.typeIn K (.ref C) == some (.type "type")) = true := by rw [hc', ht]; rfl
    show (if ((PySem.W.clsIn K C).isSome && PySem.W.typeIn K (.ref C) == some (.type "type")) = true then PySem.W.subIn K (.ref D) (.ref C) else none) = some b
    rw [if_pos e2]
    exact h2
theorem kit_ve {K : PySem.W.Frag} {D : Addr} {b : Bool} (h2 : PySem.W.subIn K (.ref D) (.type "ValueError") = some b) : PySem.W.kitOne K (.ref D) (.type "ValueError") = some b := by
  unfold PySem.W.kitOne
  rw [if_neg (by intro q; cases (beq_iff_eq.mp q))]
  show (if PySem.W.kitMeta "ValueError" = true then PySem.W.subIn K (.ref D) (.type "ValueError") else none) = some b
  rw [if_pos (by decide +kernel)]
  exact h2
end Vx
namespace My
open PySem PySem.Spec PyProof.Rows L2 Vx
def topS (i : Nat) : Stmt := PySem.Challenge.pw_longlife_k02_strings_that_are_no_rules.main.body.getD i (.Pass ⟨0, 0, 0, 0⟩)
abbrev s_Rule_init : Stmt := inClass (topS 9) 0
abbrev N_Rule_init : List Str := ["self", "births", "survival"]
theorem sc_Rule_init : FnScope N_Rule_init ["self", "births", "survival"] (defScope s_Rule_init) := ⟨rfl, rfl, rfl, by decide +kernel, rfl, by decide +kernel, by decide +kernel⟩
abbrev s_read_rule : Stmt := topS 10
abbrev N_read_rule : List Str := ["string", "births", "_", "survival", "rule"]
theorem sc_read_rule : FnScope N_read_rule ["string"] (defScope s_read_rule) := ⟨rfl, rfl, rfl, by decide +kernel, rfl, by decide +kernel, by decide +kernel⟩
abbrev s_write_rule : Stmt := topS 11
abbrev N_write_rule : List Str := ["rule"]
theorem sc_write_rule : FnScope N_write_rule ["rule"] (defScope s_write_rule) := ⟨rfl, rfl, rfl, by decide +kernel, rfl, by decide +kernel, by decide +kernel⟩
abbrev s_numbers : Stmt := topS 12
abbrev N_numbers : List Str := ["text", "digits", "character"]
theorem sc_numbers : FnScope N_numbers ["text", "digits"] (defScope s_numbers) := ⟨rfl, rfl, rfl, by decide +kernel, rfl, by decide +kernel, by decide +kernel⟩
abbrev s_digits : Stmt := topS 13
abbrev N_digits : List Str := ["numbers", "number"]
theorem sc_digits : FnScope N_digits ["numbers"] (defScope s_digits) := ⟨rfl, rfl, rfl, by decide +kernel, rfl, by decide +kernel, by decide +kernel⟩
abbrev s_law_cell : Stmt := topS 15
abbrev N_law_cell : List Str := ["script", "k"]
theorem sc_law_cell : FnScope N_law_cell ["script", "k"] (defScope s_law_cell) := ⟨rfl, rfl, rfl, by decide +kernel, rfl, by decide +kernel, by decide +kernel⟩
abbrev s_law_row : Stmt := topS 16
abbrev N_law_row : List Str := ["cell", "count", "bound", "rest", "mixed", "row", "k"]
theorem sc_law_row : FnScope N_law_row ["cell", "count", "bound"] (defScope s_law_row) := ⟨rfl, rfl, rfl, by decide +kernel, rfl, by decide +kernel, by decide +kernel⟩
abbrev s_law_numbers : Stmt := topS 18
abbrev N_law_numbers : List Str := ["cell", "x", "births", "survival", "k"]
theorem sc_law_numbers : FnScope N_law_numbers ["cell"] (defScope s_law_numbers) := ⟨rfl, rfl, rfl, by decide +kernel, rfl, by decide +kernel, by decide +kernel⟩
abbrev s_law_string : Stmt := topS 19
abbrev N_law_string : List Str := ["script", "births", "survival", "text", "signs", "k", "x", "at", "news"]
theorem sc_law_string : FnScope N_law_string ["script"] (defScope s_law_string) := ⟨rfl, rfl, rfl, by decide +kernel, rfl, by decide +kernel, by decide +kernel⟩
abbrev s_law_due : Stmt := topS 20
abbrev N_law_due : List Str := ["text", "at", "births", "survival", "k", "sign"]
theorem sc_law_due : FnScope N_law_due ["text"] (defScope s_law_due) := ⟨rfl, rfl, rfl, by decide +kernel, rfl, by decide +kernel, by decide +kernel⟩
abbrev s_law : Stmt := topS 21
abbrev N_law : List Str := ["script", "text", "due", "rule", "error", "others"]
theorem sc_law : FnScope N_law ["script"] (defScope s_law) := ⟨rfl, rfl, rfl, by decide +kernel, rfl, by decide +kernel, by decide +kernel⟩
structure Txt (K : PySem.W.Frag) (mg : Str → Option Value) where
  C_Rule : Addr
  g_Rule : mg "Rule" = some (.ref C_Rule)
  cl_Rule : Cls K C_Rule
  na_Rule_births : NoAttr K C_Rule "births"
  na_Rule_survival : NoAttr K C_Rule "survival"
  f_Rule_init : Addr
  d_Rule_init : FuncData
  F_Rule_init : Fun K "__init__" "Rule.__init__" s_Rule_init f_Rule_init d_Rule_init
  b_Rule_init : Binds K d_Rule_init ["self", "births", "survival"] []
  M_Rule : Mk K C_Rule f_Rule_init
  f_read_rule : Addr
  d_read_rule : FuncData
  F_read_rule : Fun K "read_rule" "read_rule" s_read_rule f_read_rule d_read_rule
  b_read_rule : Binds K d_read_rule ["string"] []
  g_read_rule : mg "read_rule" = some (.ref f_read_rule)
  f_write_rule : Addr
  d_write_rule : FuncData
  F_write_rule : Fun K "write_rule" "write_rule" s_write_rule f_write_rule d_write_rule
  b_write_rule : Binds K d_write_rule ["rule"] []
  g_write_rule : mg "write_rule" = some (.ref f_write_rule)
  f_numbers : Addr
  d_numbers : FuncData
  F_numbers : Fun K "_numbers" "_numbers" s_numbers f_numbers d_numbers
  b_numbers : Binds K d_numbers ["text", "digits"] []
  g_numbers : mg "_numbers" = some (.ref f_numbers)
  f_digits : Addr
  d_digits : FuncData
  F_digits : Fun K "_digits" "_digits" s_digits f_digits d_digits
  b_digits : Binds K d_digits ["numbers"] []
  g_digits : mg "_digits" = some (.ref f_digits)
  f_law_cell : Addr
  d_law_cell : FuncData
  F_law_cell : Fun K "_law_cell" "_law_cell" s_law_cell f_law_cell d_law_cell
  b_law_cell : Binds K d_law_cell ["script", "k"] []
  g_law_cell : mg "_law_cell" = some (.ref f_law_cell)
  f_law_row : Addr
  d_law_row : FuncData
  F_law_row : Fun K "_law_row" "_law_row" s_law_row f_law_row d_law_row
  b_law_row : Binds K d_law_row ["cell", "count", "bound"] []
  g_law_row : mg "_law_row" = some (.ref f_law_row)
  f_law_numbers : Addr
  d_law_numbers : FuncData
  F_law_numbers : Fun K "_law_numbers" "_law_numbers" s_law_numbers f_law_numbers d_law_numbers
  b_law_numbers : Binds K d_law_numbers ["cell"] []
  g_law_numbers : mg "_law_numbers" = some (.ref f_law_numbers)
  f_law_string : Addr
  d_law_string : FuncData
  F_law_string : Fun K "_law_string" "_law_string" s_law_string f_law_string d_law_string
  b_law_string : Binds K d_law_string ["script"] []
  g_law_string : mg "_law_string" = some (.ref f_law_string)
  f_law_due : Addr
  d_law_due : FuncData
  F_law_due : Fun K "_law_due" "_law_due" s_law_due f_law_due d_law_due
  b_law_due : Binds K d_law_due ["text"] []
  g_law_due : mg "_law_due" = some (.ref f_law_due)
  f_law : Addr
  d_law : FuncData
  F_law : Fun K "law" "law" s_law f_law d_law
  b_law : Binds K d_law ["script"] []
  g_law : mg "law" = some (.ref f_law)
  z_tuple : mg "tuple" = none
  z_sorted : mg "sorted" = none
  z_set : mg "set" = none
  z_int : mg "int" = none
  z_str : mg "str" = none
  z_len : mg "len" = none
  z_abs : mg "abs" = none
  z_range : mg "range" = none
  z_ord : mg "ord" = none
  z_isinstance : mg "isinstance" = none
  z_ValueError : mg "ValueError" = none
  c_BIRTH_DIGITS : ∃ u, mg "BIRTH_DIGITS" = some u ∧ RelV (.str (Str.ofString "12345678")) u
  c_SURVIVAL_DIGITS : ∃ u, mg "SURVIVAL_DIGITS" = some u ∧ RelV (.str (Str.ofString "012345678")) u
  C_InvalidRule : Addr
  C_LifeError : Addr
  C_InvalidText : Addr
  C_InvalidPicture : Addr
  g_InvalidRule : mg "InvalidRule" = some (.ref C_InvalidRule)
  g_LifeError : mg "LifeError" = some (.ref C_LifeError)
  g_InvalidText : mg "InvalidText" = some (.ref C_InvalidText)
  g_InvalidPicture : mg "InvalidPicture" = some (.ref C_InvalidPicture)
  xIR : PySem.W.excIn K C_InvalidRule [.type "ValueError", .type "Exception", .type "BaseException", .type "object"] "ValueError.__new__" = true
  kIR : PySem.W.keepIn K (.ref C_InvalidRule) = true
  bIR : PySem.W.subIn K (.ref C_InvalidRule) (.type "BaseException") = some true
  tIR : PySem.W.typeIn K (.ref C_InvalidRule) = some (.type "type")
  exm : PySem.W.exmOne K (.ref C_InvalidRule) (.ref C_LifeError) = some true
  kitT : PySem.W.kitOne K (.ref C_InvalidRule) (.ref C_InvalidText) = some false
  kitP : PySem.W.kitOne K (.ref C_InvalidRule) (.ref C_InvalidPicture) = some false
  kitR : PySem.W.kitOne K (.ref C_InvalidRule) (.ref C_InvalidRule) = some true
  kitV : PySem.W.kitOne K (.ref C_InvalidRule) (.type "ValueError") = some true
  excC : ExcC K C_InvalidRule
end My
namespace My
open PySem PySem.Spec PyProof.Rows L2 Vx
open TL
local macro_rules | `(tactic| k_invariant "new" ($n, $H:ident, $e:ident, $h:ident)) => `(tactic| (generalize hE : upd _ _ _ = $H; obtain ⟨$e:ident, $h:ident⟩ := gen_e hE $n; clear hE))
local macro_rules | `(tactic| k_places) => `(tactic| first
  | assumption
  | exact lst_of (by assumption)
  | exact tup_of (by assumption)
  | (refine getS (by assumption) ?_; k_places)
  | (refine Same.seq (by assumption) ?_; k_places)
  | (refine tupS (by assumption) ?_; k_places)
  | (refine lst_of ?_; k_places)
  | (refine tup_of ?_; k_places))
local macro_rules | `(tactic| k_subL) => `(tactic| first
  | k_places
  | solve_by_elim (maxDepth := 10) [getS, lst_of, tup_of, Same.seq, tupS])
local macro_rules | `(tactic| k_offL) => `(tactic| first
  | (show (0 : Int) < _; first | omega | decide)
  | (refine ⟨?_, ?_⟩ <;> first | omega | decide)
  | exact .inr ⟨by decide, by decide⟩
  | exact .inl ⟨by decide, by decide⟩
  | exact .inl ⟨by omega, by omega⟩
  | omega)
local macro_rules | `(tactic| k_clsL) => `(tactic| exact Nat.le_of_ble_eq_true rfl)
section
variable {P : Program} {w : World} {K : PySem.W.Frag} {mg : Str → Option Value} {base : Heap}
theorem ok_law_cell (T : Txt K mg) : FnOk P w K mg base CX0 1 T.f_law_cell T.d_law_cell ["script", "k"] (spCell K) := by
  refine T.F_law_cell.ok sc_law_cell (fun vs H Q E h => ?_) (fun cdv A outer s H vs Q E hr h => ?_)
  · obtain ⟨l, ns, j, rfl, _⟩ := h
    rfl
  · obtain ⟨l, ns, j, rfl, hs, q⟩ := h
    refine ⟨_, (pss_cons (ps_if (pt_cmpR op_lt (pv 1) (pe_callB call_lenL (by rfl) T.z_len (by decide +kernel) (pa_cons (pv 0) pa_nil)) (nomark _))
      (pss_one (ps_ret (pe_callTy call_intI (by rfl) T.z_int (by decide +kernel) (pa_cons (pe_ix ix_list (pv 0) (pv 1) (fun _ _ => rfl)) pa_nil))))
      pss_nil)
      (pss_one (ps_ret pe_int))), ?_⟩
    refine ⟨_, rfl, _, rfl, _, _, rfl, hs, _, _, rfl, rfl, _, rfl, ite2 (fun c => ?_) (fun c => ?_)⟩
    · have hj : j < ns.length := by
        have z := of_decide_eq_true c
        rw [List.length_map] at z
        omega
      exact ⟨_, rfl, _, rfl, _, _, _, _, rfl, rfl, hs, atI_cell hj, _, rfl, q⟩
    · have hj : ¬ j < ns.length := fun z => c (decide_eq_true (by rw [List.length_map]; omega))
      rw [cell_out hj] at q
      exact q
/-! ### law_row: so many numbers from 0 to below the bound -/
def sp_law_row : Sp := fun vs H Q _ => ∃ (cell count bound : Int), vs = [.int cell, .int count, .int bound] ∧ 0 ≤ count ∧ count ≤ 100000 ∧ 0 < bound ∧ bound < 1000000000 ∧
  ∀ (H' : Hp) (p : Addr) (xs : List Int), H p = none → Same H H' → H' p = some (.lst (xs.map V.int)) → (xs.length : Int) = count → (∀ x ∈ xs, 0 ≤ x ∧ x < bound) → Q (.ref p) H'
theorem ok_law_row (T : Txt K mg) : FnOk P w K mg base CX0 1 T.f_law_row T.d_law_row ["cell", "count", "bound"] sp_law_row := by
  refine T.F_law_row.ok sc_law_row (fun vs H Q E h => ?_) (fun cdv A outer s H vs Q E hr h => ?_)
  · obtain ⟨_, _, _, rfl, _⟩ := h
    rfl
  · obtain ⟨cell, count, bound, rfl, c0, c1, b0, b1, q⟩ := h
    refine ⟨_, (pss_cons (ps_set (i := 3) sc_law_row.nd rfl (.inl rfl) (pe_callB call_abs (by rfl) T.z_abs (by decide +kernel) (pa_cons (pe_callTy call_intI (by rfl) T.z_int (by decide +kernel) (pa_cons (pv 0) pa_nil)) pa_nil)))
      (pss_cons (ps_set (i := 4) sc_law_row.nd rfl (.inl rfl) (pe_op op_add (pe_op op_mod (pe_callTy call_intI (by rfl) T.z_int (by decide +kernel) (pa_cons (pv 0) pa_nil)) pe_int) pe_int))
      (pss_cons (ps_set (i := 5) sc_law_row.nd rfl (.inl rfl) (pe_lst pa_nil))
      (pss_cons (ps_for PassesOwn.never rfl (pi_range1 (by rfl) T.z_range (pa_cons (pv 1) pa_nil)) (pg_name (i := 6) sc_law_row.nd rfl (.inl rfl))
      (pss_one (ps_if (pt_cmpR op_ge (pv 3) (pv 2) (nomark _))
      (pss_cons (ps_expr (pe_bm PySem.F.plainAttrs_list PySem.F.slot_list_append PySem.F.type_list_append mt_append (pv 5) (pa_cons (pe_op op_mod (pe_callTy call_intI (by rfl) T.z_int (by decide +kernel) (pa_cons (pv 3) pa_nil)) (pv 2)) pa_nil)))
      (pss_one (ps_set (i := 3) sc_law_row.nd rfl (.inl rfl) (pe_op op_fdiv (pv 3) (pv 2)))))
      (pss_cons (ps_set (i := 4) sc_law_row.nd rfl (.inl rfl) (pe_op op_mod (pe_callTy call_intI (by rfl) T.z_int (by decide +kernel) (pa_cons (pe_op op_add (pe_op op_add (pe_op op_mul (pv 4) pe_int) (pe_op op_mul pe_int (pv 6))) pe_int) pa_nil)) pe_int))
      (pss_one (ps_expr (pe_bm PySem.F.plainAttrs_list PySem.F.slot_list_append PySem.F.type_list_append mt_append (pv 5) (pa_cons (pe_op op_mod (pe_callTy call_intI (by rfl) T.z_int (by decide +kernel) (pa_cons (pe_op op_fdiv (pe_op op_mul (pv 4) pe_int) pe_int) pa_nil)) (pv 2)) pa_nil))))))))
      (pss_one (ps_ret (pv 5))))))), ?_⟩
    refine ⟨_, rfl, _, rfl, _, rfl, _, rfl, _, rfl, _, _, rfl, rfl, (by k_offL), _, _, rfl, rfl, Nat.zero_le _, fun p1 n1 => ?_⟩
    k_invariant "new" (n1, H1, e1, h1)
    refine ⟨_, rfl, _, rfl, by omega, by omega, for_range (lo := 0) (n := count.toNat) (fun i σ H' => ∃ (rest mixed : Int) (xs : List Int) (v : Option V), σ = [some (.int cell), some (.int count), some (.int bound), some (.int rest), some (.int mixed), some (.ref p1), v] ∧
      Same H H' ∧ H' p1 = some (.lst (xs.map V.int)) ∧ xs.length = i ∧ (∀ x ∈ xs, 0 ≤ x ∧ x < bound) ∧ 0 ≤ mixed ∧ mixed < 4294967296) ?_ ?_ ?_⟩
    · refine ⟨_, _, [], none, rfl, e1, h1, rfl, by simp, ?_, ?_⟩
      · have := Int.emod_nonneg cell (show (1000003 : Int) ≠ 0 by decide)
        omega
      · have := Int.emod_lt_of_pos cell (show (0 : Int) < 1000003 by decide)
        omega
    · rintro i σ H' hi ⟨rest, mixed, xs, v, rfl, sm, hp, hl, hx, m0, m1⟩
      refine ⟨_, rfl, _, rfl, _, _, rfl, rfl, _, rfl, ite2 (fun c => ?_) (fun c => ?_)⟩
      · refine ⟨_, rfl, .inl ⟨rfl, _, lst_of hp⟩, _, rfl, _, rfl, _, rfl, _, _, rfl, rfl, b0, _, _, _, rfl, rfl, hp, ?_, ?_⟩
        · rw [List.length_map]
          exact Nat.lt_of_lt_of_le (show xs.length < 100001 by omega) (by decide)
        · refine ⟨_, rfl, _, rfl, _, _, rfl, rfl, ⟨b0, by omega⟩, _, _, xs ++ [rest % bound], _, rfl, mutS sm n1, ?_, by simp [hl], fun x h => ?_, m0, m1⟩
          · rw [upd_same]
            simp
          · rcases List.mem_append.mp h with h | h
            · exact hx x h
            · rw [List.mem_singleton.mp h]
              exact ⟨Int.emod_nonneg _ (by omega), Int.emod_lt_of_pos _ b0⟩
      · refine ⟨_, rfl, _, _, rfl, rfl, .inr ⟨by decide, by decide⟩, _, rfl, _, _, rfl, rfl, .inl ⟨by decide, by decide⟩, _, _, rfl, rfl, _, _, rfl, rfl, _, rfl, _, _, rfl, rfl, (by k_offL), ?_⟩
        refine ⟨_, rfl, .inl ⟨rfl, _, lst_of hp⟩, _, rfl, _, _, rfl, rfl, .inr ⟨by decide, by decide⟩, _, _, rfl, rfl, ⟨by decide, by decide⟩, _, rfl, _, rfl, _, _, rfl, rfl, b0, _, _, _, rfl, rfl, hp, ?_, ?_⟩
        · rw [List.length_map]
          exact Nat.lt_of_lt_of_le (show xs.length < 100001 by omega) (by decide)
        · refine ⟨_, _, xs ++ [(mixed * 48271 + 11 * (0 + (i : Int)) + 7) % 2147483647 * 2862933555777941757 / 1024 % bound], _, rfl, mutS sm n1, ?_, by simp [hl], fun x h => ?_, Int.emod_nonneg _ (by decide), ?_⟩
          · rw [upd_same, List.map_append]
            rfl
          · rcases List.mem_append.mp h with h | h
            · exact hx x h
            · rw [List.mem_singleton.mp h]
              exact ⟨Int.emod_nonneg _ (by omega), Int.emod_lt_of_pos _ b0⟩
          · exact Int.lt_trans (Int.emod_lt_of_pos _ (by decide)) (by decide)
    · rintro σ H' ⟨rest, mixed, xs, v, rfl, sm, hp, hl, hx, _, _⟩
      exact ⟨_, rfl, q H' p1 xs n1 sm hp (by omega) hx⟩
def Good (lo : Int) (l : List Int) : Prop := l.Pairwise (· < ·) ∧ (∀ b ∈ l, lo ≤ b ∧ b ≤ 8) ∧ l.length ≤ 9
theorem pow9 : ∀ n : Nat, n ≤ 9 → 0 < (2 : Int) ^ n ∧ (2 : Int) ^ n ≤ 512 := by decide
theorem good_snoc {lo hi : Int} {l : List Int} (h1 : l.Pairwise (· < ·)) (h2 : ∀ b ∈ l, lo ≤ b ∧ b < hi) (h : lo ≤ hi) : (l ++ [hi]).Pairwise (· < ·) ∧ ∀ b ∈ l ++ [hi], lo ≤ b ∧ b < hi + 1 := by
  constructor
  · rw [List.pairwise_append]
    refine ⟨h1, by simp, fun a ha b hb => ?_⟩
    rw [List.mem_singleton.mp hb]
    exact (h2 a ha).2
  · intro b hb
    rcases List.mem_append.mp hb with hb | hb
    · have := h2 b hb
      omega
    · rw [List.mem_singleton.mp hb]
      omega
def sp_law_numbers : Sp := fun vs H Q _ => ∃ (cell : Int), vs = [.int cell] ∧
  ∀ (H' : Hp) (p pb ps : Addr) (bs ss : List Int), Same H H' → H' p = some (.tup [.ref pb, .ref ps]) → H' pb = some (.lst (bs.map V.int)) → H' ps = some (.lst (ss.map V.int)) → Good 1 bs → Good 0 ss → Q (.ref p) H'
theorem ok_law_numbers (T : Txt K mg) : FnOk P w K mg base CX0 1 T.f_law_numbers T.d_law_numbers ["cell"] sp_law_numbers := by
  refine T.F_law_numbers.ok sc_law_numbers (fun vs H Q E h => ?_) (fun cdv A outer s H vs Q E hr h => ?_)
  · obtain ⟨_, rfl, _⟩ := h
    rfl
  · obtain ⟨cell, rfl, q⟩ := h
    refine ⟨_, (pss_cons (ps_set (i := 1) sc_law_numbers.nd rfl (.inr rfl) (pe_callB call_abs (by rfl) T.z_abs (by decide +kernel) (pa_cons (pe_callTy call_intI (by rfl) T.z_int (by decide +kernel) (pa_cons (pv 0) pa_nil)) pa_nil)))
      (pss_cons (ps_setLc (i := 2) (own := [("k", 4)]) (g := gName 4) rfl sc_law_numbers.nd rfl rfl (sw_true rfl rfl rfl (by decide +kernel)) (pi_range2 (by rfl) T.z_range (pa_cons pe_int (pa_cons pe_int pa_nil))) (blkOk_by (own := [("k", 4)]) (N := N_law_numbers) (sc := defScope s_law_numbers) (by decide +kernel)) (fun _ _ _ _ _ => pg_name (i := 4) sc_law_numbers.nd rfl (Or.inl rfl)) (fun _ _ _ _ _ => pts_one (pt_cmpR op_eq (pe_op op_mod (pe_op op_fdiv (pv 1) (pe_op op_shl pe_int (pv 4))) pe_int) pe_int (nomark _))) (fun _ _ _ _ _ => (pv 4)))
      (pss_cons (ps_setLc (i := 3) (own := [("k", 4)]) (g := gName 4) rfl sc_law_numbers.nd rfl rfl (sw_true rfl rfl rfl (by decide +kernel)) (pi_range1 (by rfl) T.z_range (pa_cons pe_int pa_nil)) (blkOk_by (own := [("k", 4)]) (N := N_law_numbers) (sc := defScope s_law_numbers) (by decide +kernel)) (fun _ _ _ _ _ => pg_name (i := 4) sc_law_numbers.nd rfl (Or.inl rfl)) (fun _ _ _ _ _ => pts_one (pt_cmpR op_eq (pe_op op_mod (pe_op op_fdiv (pv 1) (pe_op op_shl pe_int (pv 4))) pe_int) pe_int (nomark _))) (fun _ _ _ _ _ => (pv 4)))
      (pss_cons (ps_if (pt_cmpR op_eq (pe_op op_mod (pe_op op_fdiv (pv 1) pe_int) pe_int) pe_int (nomark _))
      (pss_cons (ps_set (i := 2) sc_law_numbers.nd rfl (.inl rfl) (pe_ix ix_list (pe_lst (pa_cons (pe_lst (pa_cons pe_int pa_nil)) (pa_cons (pe_lst (pa_cons pe_int (pa_cons pe_int pa_nil))) (pa_cons (pe_lst (pa_cons pe_int pa_nil)) (pa_cons (pe_lst (pa_cons pe_int (pa_cons pe_int (pa_cons pe_int pa_nil)))) (pa_cons (pe_lst (pa_cons pe_int (pa_cons pe_int pa_nil))) pa_nil)))))) (pe_op op_mod (pe_op op_fdiv (pv 1) pe_int) pe_int) (fun _ _ => rfl)))
      (pss_one (ps_set (i := 3) sc_law_numbers.nd rfl (.inl rfl) (pe_ix ix_list (pe_lst (pa_cons (pe_lst (pa_cons pe_int (pa_cons pe_int pa_nil))) (pa_cons (pe_lst (pa_cons pe_int (pa_cons pe_int pa_nil))) (pa_cons (pe_lst pa_nil) (pa_cons (pe_lst (pa_cons pe_int (pa_cons pe_int (pa_cons pe_int (pa_cons pe_int pa_nil))))) (pa_cons (pe_lst (pa_cons pe_int (pa_cons pe_int (pa_cons pe_int pa_nil)))) pa_nil)))))) (pe_op op_mod (pe_op op_fdiv (pv 1) pe_int) pe_int) (fun _ _ => rfl)))))
      pss_nil)
      (pss_one (ps_ret (pe_tup (pa_cons (pv 2) (pa_cons (pv 3) pa_nil))))))))), ?_⟩
    refine ⟨_, rfl, _, rfl, _, rfl, ?_⟩
    generalize (if cell < 0 then -cell else cell) = x
    -- births
    refine ⟨1, 9, rfl, ⟨by decide, by decide, by decide, by decide⟩, fun p1 n1 => lc_range (lo := 1) (n := 8) (fun i H' => ∃ ys : List Int, Same H H' ∧ H' p1 = some (.lst (ys.map V.int)) ∧ ys.length ≤ i ∧ ys.Pairwise (· < ·) ∧ ∀ b ∈ ys, 1 ≤ b ∧ b < 1 + (i : Int))
      ⟨[], newS n1, upd_same, by simp, by simp, by simp⟩ ?_ ?_⟩
    · rintro i H' hi ⟨ys, sm, hp, hl, h1, h2⟩
      have pw := pow9 (1 + (i : Int)).toNat (by omega)
      refine ⟨rfl, _, rfl, _, rfl, _, _, rfl, rfl, ⟨by omega, by omega, by decide⟩, _, _, rfl, rfl, ⟨?_, ?_⟩, _, _, rfl, rfl, (by k_offL), rfl, _, rfl, ite2 (fun c => ?_) (fun c => ?_)⟩
      · show (0 : Int) < 1 * 2 ^ (1 + (i : Int)).toNat
        omega
      · show (1 : Int) * 2 ^ (1 + (i : Int)).toNat < 1073741824
        omega
      · have g := good_snoc h1 h2 (by omega)
        refine ⟨_, rfl, _, hp, ?_, ys ++ [1 + (i : Int)], mutS sm n1, ?_, by simp; omega, g.1, fun b hb => ?_⟩
        · rw [List.length_map]
          exact Nat.lt_of_lt_of_le (show ys.length < 100 by omega) (by decide)
        · rw [upd_same, List.map_append]
          rfl
        · have := g.2 b hb
          omega
      · exact ⟨ys, sm, hp, by omega, h1, fun b hb => by have := h2 b hb; omega⟩
    rintro H1 ⟨bs, e1, hb, lb, gb1, gb2⟩
    have gb : Good 1 bs := ⟨gb1, fun b h => by have := gb2 b h; omega, by omega⟩
    -- survival
    refine ⟨9, rfl, by decide, by decide, fun p2 n2 => lc_range (lo := 0) (n := 9) (fun i H' => ∃ ys : List Int, Same H1 H' ∧ H' p2 = some (.lst (ys.map V.int)) ∧ ys.length ≤ i ∧ ys.Pairwise (· < ·) ∧ ∀ b ∈ ys, 0 ≤ b ∧ b < 0 + (i : Int))
      ⟨[], newS n2, upd_same, by simp, by simp, by simp⟩ ?_ ?_⟩
    · rintro i H' hi ⟨ys, sm, hp, hl, h1, h2⟩
      have pw := pow9 (0 + (i : Int)).toNat (by omega)
      refine ⟨rfl, _, rfl, _, rfl, _, _, rfl, rfl, ⟨by omega, by omega, by decide⟩, _, _, rfl, rfl, ⟨?_, ?_⟩, _, _, rfl, rfl, (by k_offL), rfl, _, rfl, ite2 (fun c => ?_) (fun c => ?_)⟩
      · show (0 : Int) < 512 * 2 ^ (0 + (i : Int)).toNat
        omega
      · show (512 : Int) * 2 ^ (0 + (i : Int)).toNat < 1073741824
        omega
      · have g := good_snoc h1 h2 (by omega)
        refine ⟨_, rfl, _, hp, ?_, ys ++ [0 + (i : Int)], mutS sm n2, ?_, by simp; omega, g.1, fun b hb => ?_⟩
        · rw [List.length_map]
          exact Nat.lt_of_lt_of_le (show ys.length < 100 by omega) (by decide)
        · rw [upd_same, List.map_append]
          rfl
        · have := g.2 b hb
          omega
      · exact ⟨ys, sm, hp, by omega, h1, fun b hb => by have := h2 b hb; omega⟩
    rintro H2 ⟨ss, e2, hs, ls, gs1, gs2⟩
    have gs : Good 0 ss := ⟨gs1, fun b h => by have := gs2 b h; omega, by omega⟩
    have hb2 := getS e2 hb
    have e02 := e1.trans e2
    -- if
    refine ⟨_, rfl, _, _, rfl, rfl, ⟨by decide, by decide⟩, _, _, rfl, rfl, (by k_offL), rfl, _, rfl, ite2 (fun c => ?_) (fun c => ?_)⟩
    · refine ⟨by decide, fun a1 m1 => ?_⟩
      k_invariant "new" (m1, A1, ea1, h1)
      refine ⟨by decide, fun a2 m2 => ?_⟩
      k_invariant "new" (m2, A2, ea2, h2)
      refine ⟨by decide, fun a3 m3 => ?_⟩
      k_invariant "new" (m3, A3, ea3, h3)
      refine ⟨by decide, fun a4 m4 => ?_⟩
      k_invariant "new" (m4, A4, ea4, h4)
      refine ⟨by decide, fun a5 m5 => ?_⟩
      k_invariant "new" (m5, A5, ea5, h5)
      refine ⟨by k_clsL, fun a6 m6 => ?_⟩
      k_invariant "new" (m6, A6, ea6, h6)
      have pick : ∃ (pb : Addr) (l : List Int), atI [V.ref a1, .ref a2, .ref a3, .ref a4, .ref a5] (x / 786432 % 5) = some (.ref pb) ∧ A6 pb = some (.lst (l.map V.int)) ∧ Good 1 l := by
        have z0 := Int.emod_nonneg (x / 786432) (show (5 : Int) ≠ 0 by decide)
        have z1 := Int.emod_lt_of_pos (x / 786432) (show (0 : Int) < 5 by decide)
        generalize x / 786432 % 5 = j at z0 z1
        have : j = 0 ∨ j = 1 ∨ j = 2 ∨ j = 3 ∨ j = 4 := by omega
        rcases this with rfl | rfl | rfl | rfl | rfl
        · exact ⟨a1, [3], rfl, by k_subL, by unfold Good; decide⟩
        · exact ⟨a2, [3, 6], rfl, by k_subL, by unfold Good; decide⟩
        · exact ⟨a3, [2], rfl, by k_subL, by unfold Good; decide⟩
        · exact ⟨a4, [3, 7, 8], rfl, by k_subL, by unfold Good; decide⟩
        · exact ⟨a5, [2, 5], rfl, by k_subL, by unfold Good; decide⟩
      obtain ⟨pb, l, hpk, hl, gl⟩ := pick
      refine ⟨_, rfl, _, _, rfl, rfl, ⟨by decide, by decide⟩, _, _, rfl, rfl, (by k_offL), _, _, _, _, rfl, rfl, by k_subL, hpk, ?_⟩
      refine ⟨by decide, fun b1 m1 => ?_⟩
      k_invariant "new" (m1, B1, eb1, h1)
      refine ⟨by decide, fun b2 m2 => ?_⟩
      k_invariant "new" (m2, B2, eb2, h2)
      refine ⟨by decide, fun b3 m3 => ?_⟩
      k_invariant "new" (m3, B3, eb3, h3)
      refine ⟨by decide, fun b4 m4 => ?_⟩
      k_invariant "new" (m4, B4, eb4, h4)
      refine ⟨by decide, fun b5 m5 => ?_⟩
      k_invariant "new" (m5, B5, eb5, h5)
      refine ⟨by k_clsL, fun b6 m6 => ?_⟩
      k_invariant "new" (m6, B6, eb6, h6)
      have pick : ∃ (pb : Addr) (l : List Int), atI [V.ref b1, .ref b2, .ref b3, .ref b4, .ref b5] (x / 3932160 % 5) = some (.ref pb) ∧ B6 pb = some (.lst (l.map V.int)) ∧ Good 0 l := by
        have z0 := Int.emod_nonneg (x / 3932160) (show (5 : Int) ≠ 0 by decide)
        have z1 := Int.emod_lt_of_pos (x / 3932160) (show (0 : Int) < 5 by decide)
        generalize x / 3932160 % 5 = j at z0 z1
        have : j = 0 ∨ j = 1 ∨ j = 2 ∨ j = 3 ∨ j = 4 := by omega
        rcases this with rfl | rfl | rfl | rfl | rfl
        · exact ⟨b1, [2, 3], rfl, by k_subL, by unfold Good; decide⟩
        · exact ⟨b2, [2, 3], rfl, by k_subL, by unfold Good; decide⟩
        · exact ⟨b3, [], rfl, by k_subL, by unfold Good; decide⟩
        · exact ⟨b4, [2, 3, 4, 5], rfl, by k_subL, by unfold Good; decide⟩
        · exact ⟨b5, [3, 4, 6], rfl, by k_subL, by unfold Good; decide⟩
      obtain ⟨ps, m, hpk2, hm, gm⟩ := pick
      refine ⟨_, rfl, _, _, rfl, rfl, ⟨by decide, by decide⟩, _, _, rfl, rfl, (by k_offL), _, _, _, _, rfl, rfl, by k_subL, hpk2, ?_⟩
      refine ⟨_, rfl, _, rfl, by k_clsL, fun r nr => ?_⟩
      k_invariant "new" (nr, R1, er, hr1)
      exact q R1 r pb ps l m (e02.trans (ea1.trans (ea2.trans (ea3.trans (ea4.trans (ea5.trans (ea6.trans (eb1.trans (eb2.trans (eb3.trans (eb4.trans (eb5.trans (eb6.trans er))))))))))))) hr1 (by k_subL) (by k_subL) gl gm
    · refine ⟨_, rfl, _, rfl, by k_clsL, fun r nr => ?_⟩
      k_invariant "new" (nr, R1, er, hr1)
      exact q R1 r p1 p2 bs ss (e02.trans er) hr1 (by k_subL) (by k_subL) gb gs
/-! ### rules -/
theorem bs_ne : ¬ (("births" : Str) = "survival") := by decide +kernel
theorem sb_ne : ¬ (("survival" : Str) = "births") := by decide +kernel
def rf (tb ts : Addr) : List (Str × V) := putF "survival" (.ref ts) (putF "births" (.ref tb) [])
theorem rf_b (tb ts : Addr) : (rf tb ts).lookup ("births" : Str) = some (.ref tb) := by
  unfold rf
  rw [lookup_putF, if_neg bs_ne, lookup_putF, if_pos rfl]
theorem rf_s (tb ts : Addr) : (rf tb ts).lookup ("survival" : Str) = some (.ref ts) := by
  unfold rf
  rw [lookup_putF, if_pos rfl]
theorem rf_no (tb ts : Addr) {m : Str} (h1 : ¬ m = "survival") (h2 : ¬ m = "births") : (rf tb ts).lookup m = none := by
  unfold rf
  rw [lookup_putF, if_neg h1, lookup_putF, if_neg h2]
  rfl
def RuleAt (C : Addr) (H : Hp) (r : Addr) (bs ss : List Int) : Prop :=
  ∃ dx tb ts, H r = some (.ins C dx (rf tb ts)) ∧ H tb = some (.tup (bs.map V.int)) ∧ H ts = some (.tup (ss.map V.int))
theorem RuleAt.up {C : Addr} {H H' : Hp} {r : Addr} {bs ss : List Int} (e : Same H H') (h : RuleAt C H r bs ss) : RuleAt C H' r bs ss := by
  obtain ⟨dx, tb, ts, h1, h2, h3⟩ := h
  exact ⟨dx, tb, ts, e _ _ h1, e _ _ h2, e _ _ h3⟩
def Canon (ns l : List Int) : Prop := l.Pairwise (· < ·) ∧ ∀ k, k ∈ l ↔ k ∈ ns
theorem canon_eq {ns l m : List Int} (h : Canon ns l) (h2 : m.Pairwise (· < ·)) (h3 : ∀ k, k ∈ ns ↔ k ∈ m) : l = m := asc_eq h.1 h2 fun k => (h.2 k).trans (h3 k)
def sp_Rule_init (K : PySem.W.Frag) (C : Addr) : Sp := fun vs H Q _ => ∃ (H0 : Hp) (r lb ls dx : Addr) (nb ns : List Int), vs = [.ref r, .ref lb, .ref ls] ∧ Same H0 H ∧ H0 r = none ∧ H r = some (.ins C dx []) ∧
  SqL K H0 lb (nb.map V.int) ∧ SqL K H0 ls (ns.map V.int) ∧ nb.length ≤ 63 ∧ ns.length ≤ 63 ∧
  ∀ (H' : Hp) (bs ss : List Int), Same H0 H' → RuleAt C H' r bs ss → Canon nb bs → Canon ns ss → Q .non H'
theorem ok_Rule_init (T : Txt K mg) : FnOk P w K mg base CX0 1 T.f_Rule_init T.d_Rule_init ["self", "births", "survival"] (sp_Rule_init K T.C_Rule) := by
  refine T.F_Rule_init.ok sc_Rule_init (fun vs H Q E h => ?_) (fun cdv A outer s H vs Q E hr h => ?_)
  · obtain ⟨_, _, _, _, _, _, _, rfl, _⟩ := h
    rfl
  · obtain ⟨H0, r, lb, ls, dx, nb, ns, rfl, s0, r0, hr0, hb, hs, l1, l2, q⟩ := h
    refine ⟨_, (pss_cons (ps_fld (pv 0) (pe_callTy call_tupL (by rfl) T.z_tuple (by decide +kernel) (pa_cons (pe_callB (cr_sortedSet rfl) (by rfl) T.z_sorted (by decide +kernel) (pa_cons (pe_callTy (cr_setL rfl) (by rfl) T.z_set (by decide +kernel) (pa_cons (pv 1) pa_nil)) pa_nil)) pa_nil)) rfl)
      (pss_one (ps_fld (pv 0) (pe_callTy call_tupL (by rfl) T.z_tuple (by decide +kernel) (pa_cons (pe_callB (cr_sortedSet rfl) (by rfl) T.z_sorted (by decide +kernel) (pa_cons (pe_callTy (cr_setL rfl) (by rfl) T.z_set (by decide +kernel) (pa_cons (pv 2) pa_nil)) pa_nil)) pa_nil)) rfl))), ?_⟩
    refine ⟨_, rfl, lb, nb, rfl, s0.seq hb, Nat.lt_of_le_of_lt (Nat.add_le_add_right l1 1) (by decide), fun p1 c1 n1 hc1 => ?_⟩
    k_invariant "new" (n1, H1, e1, h1)
    refine ⟨_, _, _, rfl, h1, by omega, fun bs p2 pw1 mem1 len1 n2 => ?_⟩
    k_invariant "new" (n2, H2, e2, h2)
    refine ⟨_, _, rfl, lst_of h2, fun p3 n3 => ?_⟩
    k_invariant "new" (n3, H3, e3, h3)
    refine ⟨_, rfl, r, T.C_Rule, dx, [], rfl, by k_subL, T.cl_Rule, T.na_Rule_births, (by show 0 < 1000; decide), ?_⟩
    have s3 : Same H0 H3 := s0.trans (e1.trans (e2.trans e3))
    have r3 : p3 ≠ r := fun e => by
      have : H3 r = some (.ins T.C_Rule dx []) := by k_subL
      rw [e] at h3
      rw [h3] at this
      cases this
    have s4 : Same H0 (upd H3 r (.ins T.C_Rule dx (putF "births" (.ref p3) []))) := mutS s3 r0
    have g4 : upd H3 r (.ins T.C_Rule dx (putF "births" (.ref p3) [])) r = some (.ins T.C_Rule dx (putF "births" (.ref p3) [])) := upd_same
    have g3 : upd H3 r (.ins T.C_Rule dx (putF "births" (.ref p3) [])) p3 = some (.tup (bs.map V.int)) := by rw [upd_ne r3]; exact h3
    generalize upd H3 r (.ins T.C_Rule dx (putF "births" (.ref p3) [])) = H4 at s4 g4 g3
    refine ⟨_, rfl, ls, ns, rfl, s4.seq hs, Nat.lt_of_le_of_lt (Nat.add_le_add_right l2 1) (by decide), fun p5 c2 n5 hc2 => ?_⟩
    k_invariant "new" (n5, H5, e5, h5)
    refine ⟨_, _, _, rfl, h5, by omega, fun ss p6 pw2 mem2 len2 n6 => ?_⟩
    k_invariant "new" (n6, H6, e6, h6)
    refine ⟨_, _, rfl, lst_of h6, fun p7 n7 => ?_⟩
    k_invariant "new" (n7, H7, e7, h7)
    have g8 : H7 r = some (.ins T.C_Rule dx (putF "births" (.ref p3) [])) := by k_subL
    refine ⟨_, rfl, r, T.C_Rule, dx, _, rfl, g8, T.cl_Rule, T.na_Rule_survival, (by show 1 < 1000; decide), ?_⟩
    have r7 : p7 ≠ r := fun e => by
      have : H7 r = some (.ins T.C_Rule dx (putF "births" (.ref p3) [])) := by k_subL
      rw [e] at h7
      rw [h7] at this
      cases this
    have g7 : H7 p3 = some (.tup (bs.map V.int)) := by k_subL
    refine q _ bs ss (mutS (s4.trans (e5.trans (e6.trans e7))) r0) ⟨dx, p3, p7, upd_same, ?_, ?_⟩ ⟨pw1, fun k => (mem1 k).trans (by simp)⟩ ⟨pw2, fun k => (mem2 k).trans (by simp)⟩
    · rw [upd_ne r3]; exact g7
    · rw [upd_ne r7]; exact h7
/-! ### the written form -/
def dg (n : Int) : Str := Str.ofString (toString n)
def digS (ns : List Int) : Str := Txt.join (Str.ofString "") (ns.map dg)
def ruleT (bs ss : List Int) : Str := ((Str.ofString "B" ++ digS bs) ++ Str.ofString "/S") ++ digS ss
def Dig (ns : List Int) : Prop := ∀ n ∈ ns, 0 ≤ n ∧ n < 10
theorem tl_dg {n : Int} (h0 : 0 ≤ n) (h1 : n < 10) : tl (dg n) = [48 + n.toNat] := by
  have e : n = ((n.toNat : Nat) : Int) := by omega
  unfold dg
  rw [e, tl_num, Int.toNat_natCast]
  exact numL_lt (by omega)
theorem joinL_nil : ∀ ps : List (List Nat), joinL [] ps = ps.flatten
  | [] => rfl
  | [p] => by simp [joinL]
  | p :: q :: r => by
    show p ++ ([] ++ joinL [] (q :: r)) = _
    rw [joinL_nil (q :: r)]
    rfl
theorem tl_empty : tl (Str.ofString "") = [] := by decide +kernel
theorem tl_digS {ns : List Int} (h : Dig ns) : tl (digS ns) = ns.map fun n => 48 + n.toNat := by
  unfold digS
  rw [join_eq, tl_join, tl_empty, joinL_nil]
  induction ns with
  | nil => rfl
  | cons n r ih =>
    have hn := h n List.mem_cons_self
    rw [List.map_cons, List.map_cons, List.flatten_cons, tl_dg hn.1 hn.2, List.map_cons, ih fun x hx => h x (List.mem_cons_of_mem _ hx)]
    rfl
theorem len_digS {ns : List Int} (h : Dig ns) : (digS ns).length = ns.length := by
  rw [len_tl, tl_digS h, List.length_map]
theorem len_app (a b : Str) : (a ++ b).length = a.length + b.length := by
  rw [len_tl, tl_append, List.length_append, ← len_tl, ← len_tl]
theorem len_B : (Str.ofString "B").length = 1 := by decide +kernel
theorem len_S : (Str.ofString "/S").length = 2 := by decide +kernel
theorem tl_B : tl (Str.ofString "B") = [66] := by decide +kernel
theorem tl_S : tl (Str.ofString "/S") = [47, 83] := by decide +kernel
theorem len_ruleT {bs ss : List Int} (h1 : Dig bs) (h2 : Dig ss) : (ruleT bs ss).length = bs.length + ss.length + 3 := by
  unfold ruleT
  rw [len_app, len_app, len_app, len_B, len_S, len_digS h1, len_digS h2]
  omega
theorem part_ruleT {bs ss : List Int} (h1 : Dig bs) : Txt.partition (ruleT bs ss) (Str.ofString "/S") = (Str.ofString "B" ++ digS bs, Str.ofString "/S", digS ss) := by
  unfold ruleT
  refine partition_app (s := 47) (S := [83]) tl_S ?_
  rw [tl_append, tl_B, tl_digS h1]
  intro h
  rcases List.mem_append.mp h with h | h
  · simp at h
  · obtain ⟨n, hn, e⟩ := List.mem_map.mp h
    omega
/-- the numbers that are read off a text -/
def numsOf (z d : Str) : List Int := ((tl z).filter fun c => decide (c ∈ tl d)).map fun (c : Nat) => (c : Int) - 48
theorem tl_birth : tl (Str.ofString "12345678") = [49, 50, 51, 52, 53, 54, 55, 56] := by decide +kernel
theorem tl_surv : tl (Str.ofString "012345678") = [48, 49, 50, 51, 52, 53, 54, 55, 56] := by decide +kernel
theorem nums_dig {ns : List Int} {d : Str} (h : Dig ns) (hd : ∀ n ∈ ns, 48 + n.toNat ∈ tl d) : (((ns.map fun n => 48 + n.toNat).filter fun c => decide (c ∈ tl d)).map fun (c : Nat) => (c : Int) - 48) = ns := by
  induction ns with
  | nil => rfl
  | cons n r ih =>
    have hn := h n List.mem_cons_self
    have e : (((48 + n.toNat : Nat) : Int) - 48) = n := by omega
    rw [List.map_cons, List.filter_cons, if_pos (decide_eq_true (hd n List.mem_cons_self)), List.map_cons, ih (fun x hx => h x (List.mem_cons_of_mem _ hx)) fun x hx => hd x (List.mem_cons_of_mem _ hx), e]
theorem nums_births {bs : List Int} (h : ∀ n ∈ bs, 1 ≤ n ∧ n ≤ 8) : numsOf (Str.ofString "B" ++ digS bs) (Str.ofString "12345678") = bs := by
  have hd : Dig bs := fun n hn => by have := h n hn; omega
  unfold numsOf
  rw [tl_append, tl_B, tl_digS hd, List.filter_append, tl_birth]
  rw [show (List.filter (fun c => decide (c ∈ [49, 50, 51, 52, 53, 54, 55, 56])) [66]) = [] by decide, List.nil_append, ← tl_birth]
  refine nums_dig hd fun n hn => ?_
  rw [tl_birth]
  have := h n hn
  have e : n.toNat = 1 ∨ n.toNat = 2 ∨ n.toNat = 3 ∨ n.toNat = 4 ∨ n.toNat = 5 ∨ n.toNat = 6 ∨ n.toNat = 7 ∨ n.toNat = 8 := by omega
  rcases e with e | e | e | e | e | e | e | e <;> rw [e] <;> decide
theorem nums_survival {ss : List Int} (h : ∀ n ∈ ss, 0 ≤ n ∧ n ≤ 8) : numsOf (digS ss) (Str.ofString "012345678") = ss := by
  have hd : Dig ss := fun n hn => by have := h n hn; omega
  unfold numsOf
  rw [tl_digS hd]
  refine nums_dig hd fun n hn => ?_
  rw [tl_surv]
  have := h n hn
  have e : n.toNat = 0 ∨ n.toNat = 1 ∨ n.toNat = 2 ∨ n.toNat = 3 ∨ n.toNat = 4 ∨ n.toNat = 5 ∨ n.toNat = 6 ∨ n.toNat = 7 ∨ n.toNat = 8 := by omega
  rcases e with e | e | e | e | e | e | e | e | e <;> rw [e] <;> decide
theorem int_sign : ∀ c : Nat, 48 ≤ c → c ≤ 57 → PySem.intText? ⟨#[c]⟩ = some ((c : Int) - 48) := by
  intro c h0 h1
  have e : c = 48 ∨ c = 49 ∨ c = 50 ∨ c = 51 ∨ c = 52 ∨ c = 53 ∨ c = 54 ∨ c = 55 ∨ c = 56 ∨ c = 57 := by omega
  rcases e with rfl | rfl | rfl | rfl | rfl | rfl | rfl | rfl | rfl | rfl <;> decide +kernel
def sp_digits (K : PySem.W.Frag) : Sp := fun vs H Q _ => ∃ (t : Addr) (ns : List Int), vs = [.ref t] ∧ SqT K H t (ns.map V.int) ∧ Dig ns ∧ ns.length ≤ 1000 ∧ ∀ H', Same H H' → Q (.str (digS ns)) H'
theorem ok_digits (T : Txt K mg) : FnOk P w K mg base CX0 1 T.f_digits T.d_digits ["numbers"] (sp_digits K) := by
  refine T.F_digits.ok sc_digits (fun vs H Q E h => ?_) (fun cdv A outer s H vs Q E hr h => ?_)
  · obtain ⟨_, _, rfl, _⟩ := h
    rfl
  · obtain ⟨t, ns, rfl, ht, hd, hl, q⟩ := h
    refine ⟨_, (pss_one (ps_ret (pe_join pe_str (pe_lc (own := [("number", 1)]) (g := gName 1) (tt := tYes) rfl sc_digits.nd (pi_tup (pv 0)) (blkOk_by (own := [("number", 1)]) (N := N_digits) (sc := defScope s_digits) (by decide +kernel)) (fun _ _ _ _ _ => pg_name (i := 1) sc_digits.nd rfl (Or.inl rfl)) (fun _ _ _ _ _ => pts_nil) (fun _ _ _ _ _ => (pe_callTy call_str_int (by rfl) T.z_str (by decide +kernel) (pa_cons (pv 1) pa_nil))))))), ?_⟩
    refine ⟨⟨_, rfl⟩, _, rfl, t, rfl, ⟨_, ht⟩, fun D nD => lc_tup (K := K) (a := t) (xs := ns.map V.int) (fun i H' => Same H H' ∧ H' D = some (.lst (((ns.take i).map dg).map V.str)))
      ⟨newS nD, by rw [upd_same]; rfl⟩ (fun i H' _ h => tupS h.1 ht) ?_ ?_⟩
    · rintro i x H' hi ⟨sm, hp⟩
      obtain ⟨n, rfl, hn, hm⟩ := item_ints hi
      have hn10 := hd n hm
      refine ⟨rfl, tyesT ⟨_, rfl, n, rfl, ?_, _, hp, ?_, mutS sm nD, ?_⟩⟩
      · have : n.natAbs ≤ 9 := by omega
        have h3 : n.natAbs.log2 ≤ n.natAbs := Nat.log2_le_self _
        omega
      · rw [List.length_map, List.length_map, List.length_take]
        exact Nat.lt_of_lt_of_le (show min i ns.length < 1001 by omega) (by decide)
      · rw [upd_same, List.take_add_one, hn]
        simp [dg]
    · rintro H' ⟨sm, hp⟩
      rw [List.length_map, List.take_length] at hp
      refine ⟨_, D, ns.map dg, rfl, rfl, .inl (lst_of hp), ?_, q H' sm⟩
      have e : ((ns.map dg).map (·.length)) = ns.map fun _ => 1 := by
        rw [List.map_map]
        refine List.map_congr_left fun n hn => ?_
        show (dg n).length = 1
        rw [len_tl, tl_dg (hd n hn).1 (hd n hn).2]
        rfl
      rw [e]
      have e0 : (Str.ofString "").length = 0 := by decide +kernel
      rw [e0, List.map_const', List.sum_replicate_nat]
      omega
def sp_write_rule (C : Addr) : Sp := fun vs H Q _ => ∃ (r : Addr) (bs ss : List Int), vs = [.ref r] ∧ RuleAt C H r bs ss ∧ Dig bs ∧ Dig ss ∧ bs.length ≤ 100 ∧ ss.length ≤ 100 ∧ ∀ H', Same H H' → Q (.str (ruleT bs ss)) H'
theorem ok_write_rule (T : Txt K mg) : FnOk P w K mg base CX0 2 T.f_write_rule T.d_write_rule ["rule"] (sp_write_rule T.C_Rule) := by
  refine T.F_write_rule.ok sc_write_rule (fun vs H Q E h => ?_) (fun cdv A outer s H vs Q E hr h => ?_)
  · obtain ⟨_, _, _, rfl, _⟩ := h
    rfl
  · obtain ⟨r, bs, ss, rfl, ⟨dx, tb, ts, h1, h2, h3⟩, d1, d2, l1, l2, q⟩ := h
    refine ⟨_, (pss_one (ps_ret (pe_op op_add_str (pe_op op_add_str (pe_op op_add_str pe_str (pe_call (ok_digits T) (hr.mono (by decide)) (by rfl) T.g_digits T.F_digits.kp T.b_digits .nil pass0 (pa_cons (pe_fld (pv 0) rfl) pa_nil))) pe_str) (pe_call (ok_digits T) (hr.mono (by decide)) (by rfl) T.g_digits T.F_digits.kp T.b_digits .nil pass0 (pa_cons (pe_fld (pv 0) rfl) pa_nil))))), ?_⟩
    refine ⟨_, rfl, r, _, _, _, _, rfl, h1, T.cl_Rule, T.na_Rule_births, rf_b _ _, tb, bs, rfl, tup_of h2, d1, by omega, fun H1 e1 => ?_⟩
    have z1 := len_digS d1
    have z2 := len_digS d2
    refine ⟨_, _, rfl, rfl, ?_, _, _, rfl, rfl, ?_, _, rfl, r, _, _, _, _, rfl, getS e1 h1, T.cl_Rule, T.na_Rule_survival, rf_s _ _, ts, ss, rfl, tup_of (getS e1 h3), d2, by omega, fun H2 e2 => ⟨_, _, rfl, rfl, ?_, q H2 (e1.trans e2)⟩⟩
    · rw [len_B, z1]
      exact Nat.le_trans (show 1 + bs.length ≤ 200 by omega) (by decide)
    · rw [len_app, len_B, z1, len_S]
      exact Nat.le_trans (show 1 + bs.length + 2 ≤ 200 by omega) (by decide)
    · rw [len_app, len_app, len_B, z1, len_S, z2]
      exact Nat.le_trans (show 1 + bs.length + 2 + ss.length ≤ 400 by omega) (by decide)
def sp_numbers : Sp := fun vs H Q _ => ∃ (z d : Str), vs = [.str z, .str d] ∧ (∀ c ∈ tl d, 48 ≤ c ∧ c ≤ 57) ∧ z.length ≤ 100000 ∧
  ∀ (H' : Hp) (p : Addr), Same H H' → H' p = some (.lst ((numsOf z d).map V.int)) → Q (.ref p) H'
theorem ok_numbers (T : Txt K mg) : FnOk P w K mg base CX0 1 T.f_numbers T.d_numbers ["text", "digits"] sp_numbers := by
  refine T.F_numbers.ok sc_numbers (fun vs H Q E h => ?_) (fun cdv A outer s H vs Q E hr h => ?_)
  · obtain ⟨_, _, rfl, _⟩ := h
    rfl
  · obtain ⟨z, d, rfl, hd, hl, q⟩ := h
    refine ⟨_, (pss_one (ps_ret (pe_lc (own := [("character", 2)]) (g := gName 2) rfl sc_numbers.nd (pi_str (pv 0)) (blkOk_by (own := [("character", 2)]) (N := N_numbers) (sc := defScope s_numbers) (by decide +kernel)) (fun _ _ _ _ _ => pg_name (i := 2) sc_numbers.nd rfl (Or.inl rfl)) (fun _ _ _ _ _ => pts_one (pt_cmpR op_in_sign (pv 2) (pv 1) rfl)) (fun _ _ _ _ _ => (pe_callTy call_int_str (by rfl) T.z_int (by decide +kernel) (pa_cons (pv 2) pa_nil)))))), ?_⟩
    refine ⟨_, rfl, z, rfl, fun D nD => lc_it walk_str (fun i H' => Same H H' ∧ H' D = some (.lst (((((tl z).take i).filter fun c => decide (c ∈ tl d)).map fun (c : Nat) => (c : Int) - 48).map V.int)))
      ⟨newS nD, by rw [upd_same]; rfl⟩ (fun _ _ _ _ => True.intro) ?_ ?_⟩
    · rintro i x H' H'' hi ⟨sm, hp⟩ ⟨rfl, c, hc, rfl⟩
      have hc' : (tl z)[i]? = some c := by
        rw [← hc]
        exact Array.getElem?_toList
      refine ⟨rfl, _, rfl, _, rfl, c, d, rfl, rfl, _, rfl, ite2 (fun t => ?_) (fun t => ?_)⟩
      · have hcd := hd c (of_decide_eq_true t)
        refine ⟨_, rfl, _, _, rfl, int_sign c hcd.1 hcd.2, (by show (1 : Nat) ≤ 640; decide), _, hp, ?_, mutS sm nD, ?_⟩
        · rw [List.length_map, List.length_map]
          refine Nat.lt_of_le_of_lt (List.length_filter_le _ _) ?_
          rw [List.length_take, ← len_tl]
          exact Nat.lt_of_lt_of_le (show min i z.length < 100001 by omega) (by decide)
        · rw [upd_same, List.take_add_one, hc', Option.toList_some, List.filter_append, List.filter_cons, if_pos t]
          simp
      · refine ⟨sm, ?_⟩
        rw [List.take_add_one, hc', Option.toList_some, List.filter_append, List.filter_cons, if_neg t]
        simpa using hp
    · rintro H' ⟨sm, hp⟩
      have e : (tl z).take z.cps.size = tl z := List.take_of_length_le (by rw [Array.length_toList]; exact Nat.le_refl _)
      rw [e] at hp
      exact q H' D sm hp
theorem RuleAt.mutL {C : Addr} {H : Hp} {r l : Addr} {bs ss : List Int} {xs ys : List V} (hl : H l = some (.lst xs)) (h : RuleAt C H r bs ss) : RuleAt C (upd H l (.lst ys)) r bs ss := by
  obtain ⟨dx, tb, ts, h1, h2, h3⟩ := h
  refine ⟨dx, tb, ts, ?_, ?_, ?_⟩
  · rw [upd_ne (ne_of h1 hl (by intro z; cases z))]; exact h1
  · rw [upd_ne (ne_of h2 hl (by intro z; cases z))]; exact h2
  · rw [upd_ne (ne_of h3 hl (by intro z; cases z))]; exact h3
theorem Good.dig {lo : Int} {l : List Int} (h : Good lo l) (h0 : 0 ≤ lo) : Dig l := fun n hn => by have := h.2.1 n hn; omega
end
end My
namespace My
open PySem PySem.Spec PyProof.Rows L2 Vx
open TL
local macro_rules | `(tactic| k_invariant "new" ($n, $H:ident, $e:ident, $h:ident)) => `(tactic| (generalize hE : upd _ _ _ = $H; obtain ⟨$e:ident, $h:ident⟩ := gen_e hE $n; clear hE))
local macro_rules | `(tactic| k_places) => `(tactic| first
  | assumption
  | exact lst_of (by assumption)
  | exact tup_of (by assumption)
  | (refine getS (by assumption) ?_; k_places)
  | (refine Same.seq (by assumption) ?_; k_places)
  | (refine tupS (by assumption) ?_; k_places)
  | (refine lst_of ?_; k_places)
  | (refine tup_of ?_; k_places))
local macro_rules | `(tactic| k_subL) => `(tactic| first
  | k_places
  | solve_by_elim (maxDepth := 10) [getS, lst_of, tup_of, Same.seq, tupS])
local macro_rules | `(tactic| k_offL) => `(tactic| first
  | (show (0 : Int) < _; first | omega | decide)
  | (refine ⟨?_, ?_⟩ <;> first | omega | decide)
  | exact .inr ⟨by decide, by decide⟩
  | exact .inl ⟨by decide, by decide⟩
  | exact .inl ⟨by omega, by omega⟩
  | omega)
local macro_rules | `(tactic| k_clsL) => `(tactic| exact Nat.le_of_ble_eq_true rfl)
section
variable {P : Program} {w : World} {K : PySem.W.Frag} {mg : Str → Option Value} {base : Heap}
/-! ### reading any text -/
def Asc (lo : Int) (l : List Int) : Prop := l.Pairwise (· < ·) ∧ ∀ b ∈ l, lo ≤ b ∧ b ≤ 8
def RuleForm (z : Str) (bs ss : List Int) : Prop := Asc 1 bs ∧ Asc 0 ss ∧ z = ruleT bs ss
theorem asc_len : ∀ {l : List Int} {lo hi : Int}, l.Pairwise (· < ·) → (∀ b ∈ l, lo ≤ b ∧ b ≤ hi) → lo ≤ hi + 1 → (l.length : Int) ≤ hi + 1 - lo
  | [], lo, hi, _, _, h => by simp; omega
  | x :: l, lo, hi, h1, h2, h => by
    obtain ⟨p1, p2⟩ := List.pairwise_cons.mp h1
    have hx := h2 x List.mem_cons_self
    have ih := asc_len (lo := x + 1) (hi := hi) p2 (fun b hb => ⟨by have := p1 b hb; omega, (h2 b (List.mem_cons_of_mem _ hb)).2⟩) (by omega)
    rw [List.length_cons]
    omega
theorem Asc.good {lo : Int} {l : List Int} (h : Asc lo l) (h0 : 0 ≤ lo) (h1 : lo ≤ 9) : Good lo l := ⟨h.1, h.2, by have := asc_len h.1 h.2 (by omega); omega⟩
theorem part_len (z y : Str) : (Txt.partition z y).1.length ≤ z.length ∧ (Txt.partition z y).2.2.length ≤ z.length := by
  rcases PyProof.Rows.partition_whole z y with ⟨e, _⟩ | ⟨i, e, _, _⟩
  · rw [e]
    exact ⟨Nat.le_refl _, Nat.zero_le _⟩
  · rw [e]
    constructor
    · show (PySem.Builtin.Str.strSub z 0 i).length ≤ z.length
      rw [len_tl, tl_strSub, len_tl, List.length_take, List.length_drop]
      omega
    · show (PySem.Builtin.Str.strSub z (i + y.length) z.length).length ≤ z.length
      rw [len_tl, tl_strSub, len_tl, List.length_take, List.length_drop]
      omega
theorem numsOf_len (z d : Str) : (numsOf z d).length ≤ z.length := by
  unfold numsOf
  rw [List.length_map, len_tl]
  exact List.length_filter_le _ _
theorem numsOf_in {z d : Str} {n : Int} (h : n ∈ numsOf z d) : ∃ c, c ∈ tl d ∧ n = (c : Int) - 48 := by
  obtain ⟨c, hc, e⟩ := List.mem_map.mp h
  exact ⟨c, of_decide_eq_true (List.mem_filter.mp hc).2, e.symm⟩
def sp_read_rule (C IR : Addr) : Sp := fun vs H Q E => ∃ (z : Str), vs = [.str z] ∧ z.length ≤ 60 ∧ (∀ H', Same H H' → (¬ ∃ bs ss, RuleForm z bs ss) → E (.ref IR) none H') ∧
  ∀ (H' : Hp) (r : Addr) (bs ss : List Int), Same H H' → RuleForm z bs ss → RuleAt C H' r bs ss → Q (.ref r) H'
theorem ok_read_rule (T : Txt K mg) : FnOk P w K mg base (L2.CX P w) 3 T.f_read_rule T.d_read_rule ["string"] (sp_read_rule T.C_Rule T.C_InvalidRule) := by
  refine T.F_read_rule.okX sc_read_rule (fun vs H Q E h => ?_) (fun cdv A outer s H vs Q E hr h => ?_)
  · obtain ⟨_, rfl, _⟩ := h
    rfl
  · obtain ⟨z, rfl, lz, qe, q⟩ := h
    refine ⟨_, (pss_cons (ps_asg (pe_partition (pv 0) pe_str) (pg_tup rfl (pgs_cons (pg_name (i := 1) sc_read_rule.nd rfl (.inl rfl)) (pgs_cons (pg_name (i := 2) sc_read_rule.nd rfl (.inl rfl)) (pgs_cons (pg_name (i := 3) sc_read_rule.nd rfl (.inl rfl)) pgs_nil)))))
      (pss_cons (ps_set (i := 4) sc_read_rule.nd rfl (.inl rfl) (pe_make T.M_Rule (ok_Rule_init T) (hr.mono (by decide)) rfl T.g_Rule T.b_Rule_init .nil pass0 (pa_cons (pe_call (ok_numbers T) (hr.mono (by decide)) (by rfl) T.g_numbers T.F_numbers.kp T.b_numbers .nil pass0 (pa_cons (pv 1) (pa_cons (pe_gcx (by rfl) T.c_BIRTH_DIGITS) pa_nil))) (pa_cons (pe_call (ok_numbers T) (hr.mono (by decide)) (by rfl) T.g_numbers T.F_numbers.kp T.b_numbers .nil pass0 (pa_cons (pv 3) (pa_cons (pe_gcx (by rfl) T.c_SURVIVAL_DIGITS) pa_nil))) pa_nil))))
      (pss_cons (ps_if (pt_cmpR op_ne (pe_call (ok_write_rule T) (hr.mono (by decide)) (by rfl) T.g_write_rule T.F_write_rule.kp T.b_write_rule .nil pass0 (pa_cons (pv 4) pa_nil)) (pv 0) (nomark _))
      (pss_one (ps_raise rfl (takes_of rfl rfl rfl rfl) (SkE.pmk_own1 PySem.F.excBase_ValueError T.xIR T.g_InvalidRule T.kIR (raises_own T.bIR T.tIR) (by rfl) (pe_joined (.cons pe_str (.cons (pe_fmt (pv 0)) .nil))))))
      pss_nil)
      (pss_one (ps_ret (pv 4)))))), ?_⟩
    refine ⟨_, rfl, ⟨_, rfl⟩, _, _, rfl, rfl, (by rfl), Nat.le_trans lz (by decide), fun p1 n1 => ?_⟩
    have pl := part_len z (Str.ofString "/S")
    have pf : ∀ bs ss, RuleForm z bs ss → (Txt.partition z (Str.ofString "/S")).1 = Str.ofString "B" ++ digS bs ∧ (Txt.partition z (Str.ofString "/S")).2.2 = digS ss := fun bs ss f => by
      rw [f.2.2, part_ruleT ((f.1.good (by decide) (by decide)).dig (by decide))]
      exact ⟨rfl, rfl⟩
    generalize (Txt.partition z (Str.ofString "/S")).1 = x at pl pf
    generalize (Txt.partition z (Str.ofString "/S")).2.2 = y at pl pf
    k_invariant "new" (n1, H1, e1, h1)
    refine ⟨p1, _, rfl, tup_of h1, rfl, _, _, rfl, _, _, rfl, _, _, rfl, rfl, ?_⟩
    refine ⟨_, rfl, _, _, rfl, ?_, by omega, fun H2 p2 e2 h2 => ?_⟩
    · rw [tl_birth]; decide
    refine ⟨_, rfl, _, _, rfl, ?_, by omega, fun H3 p3 e3 h3 => ?_⟩
    · rw [tl_surv]; decide
    have nl1 := numsOf_len x (Str.ofString "12345678")
    have nl2 := numsOf_len y (Str.ofString "012345678")
    have ni1 : ∀ n ∈ numsOf x (Str.ofString "12345678"), 1 ≤ n ∧ n ≤ 8 := fun n hn => by
      obtain ⟨c, hc, e⟩ := numsOf_in hn
      rw [tl_birth] at hc
      have : 49 ≤ c ∧ c ≤ 56 := by simp at hc; omega
      omega
    have ni2 : ∀ n ∈ numsOf y (Str.ofString "012345678"), 0 ≤ n ∧ n ≤ 8 := fun n hn => by
      obtain ⟨c, hc, e⟩ := numsOf_in hn
      rw [tl_surv] at hc
      have : 48 ≤ c ∧ c ≤ 56 := by simp at hc; omega
      omega
    intro r dx nx nd nex
    refine ⟨H3, r, p2, p3, dx, _, _, rfl, madeS nx nd, nx, upd_same, by k_subL, by k_subL, by omega, by omega, fun H4 bs ss e4 ra c1 c2 => ⟨rfl, ?_⟩⟩
    have a1 : Asc 1 bs := ⟨c1.1, fun b hb => ni1 b ((c1.2 b).mp hb)⟩
    have a2 : Asc 0 ss := ⟨c2.1, fun b hb => ni2 b ((c2.2 b).mp hb)⟩
    have g1 := a1.good (by decide) (by decide)
    have g2 := a2.good (by decide) (by decide)
    have l1 := g1.2.2
    have l2 := g2.2.2
    have s4 : Same H H4 := e1.trans (e2.trans (e3.trans e4))
    refine ⟨_, rfl, r, bs, ss, rfl, ra, g1.dig (by decide), g2.dig (by decide), by omega, by omega, fun H5 e5 => ⟨_, rfl, rfl, _, rfl, ite2 (fun c => ?_) (fun c => ?_)⟩⟩
    · have el : (Str.empty ++ Str.ofString "not the written form of a rule: ").length = 32 := by decide +kernel
      refine ⟨_, rfl, ?_, _, rfl, .inl ⟨z, rfl, Nat.le_trans lz (by decide), _, rfl, ?_, qe H5 (s4.trans e5) ?_⟩⟩
      · rw [el]; decide
      · rw [len_app, el]
        exact Nat.le_trans (show 32 + z.length ≤ 100 by omega) (by decide)
      · rintro ⟨bs', ss', f⟩
        obtain ⟨ex, ey⟩ := pf bs' ss' f
        rw [ex, nums_births f.1.2] at c1
        rw [ey, nums_survival f.2.1.2] at c2
        rw [canon_eq c1 f.1.1 fun _ => Iff.rfl, canon_eq c2 f.2.1.1 fun _ => Iff.rfl, ← f.2.2] at c
        simp at c
    · have ez : ruleT bs ss = z := by
        have c' : ¬ (!decide (V.str (ruleT bs ss) = V.str z)) = true := c
        simp at c'
        exact c'
      exact ⟨_, rfl, q H5 r bs ss (s4.trans e5) ⟨a1, a2, ez.symm⟩ (ra.up e5)⟩
end
end My
namespace My
open PySem PySem.Spec PyProof.Rows L2 Vx
open TL
local macro_rules | `(tactic| k_invariant "new" ($n, $H:ident, $e:ident, $h:ident)) => `(tactic| (generalize hE : upd _ _ _ = $H; obtain ⟨$e:ident, $h:ident⟩ := gen_e hE $n; clear hE))
local macro_rules | `(tactic| k_places) => `(tactic| first
  | assumption
  | exact lst_of (by assumption)
  | exact tup_of (by assumption)
  | (refine getS (by assumption) ?_; k_places)
  | (refine Same.seq (by assumption) ?_; k_places)
  | (refine tupS (by assumption) ?_; k_places)
  | (refine lst_of ?_; k_places)
  | (refine tup_of ?_; k_places))
local macro_rules | `(tactic| k_subL) => `(tactic| first
  | k_places
  | solve_by_elim (maxDepth := 10) [getS, lst_of, tup_of, Same.seq, tupS])
local macro_rules | `(tactic| k_offL) => `(tactic| first
  | (show (0 : Int) < _; first | omega | decide)
  | (refine ⟨?_, ?_⟩ <;> first | omega | decide)
  | exact .inr ⟨by decide, by decide⟩
  | exact .inl ⟨by decide, by decide⟩
  | exact .inl ⟨by omega, by omega⟩
  | omega)
local macro_rules | `(tactic| k_clsL) => `(tactic| exact Nat.le_of_ble_eq_true rfl)
section
variable {P : Program} {w : World} {K : PySem.W.Frag} {mg : Str → Option Value} {base : Heap}
/-! ### some text -/
theorem strs_lenD {ns : List Int} (h : Dig ns) : ((ns.map dg).map (·.length)).sum = ns.length := by
  have e : ((ns.map dg).map (·.length)) = ns.map fun _ => 1 := by
    rw [List.map_map]
    refine List.map_congr_left fun n hn => ?_
    show (dg n).length = 1
    rw [len_tl, tl_dg (h n hn).1 (h n hn).2]
    rfl
  rw [e, List.map_const', List.sum_replicate_nat]
  omega
theorem len_e0 : (Str.ofString "").length = 0 := by decide +kernel
theorem join_len : ∀ ys : List Str, (Txt.join (Str.ofString "") ys).length = (ys.map (·.length)).sum := by
  intro ys
  rw [len_tl, join_eq, tl_join, tl_empty, joinL_nil]
  induction ys with
  | nil => rfl
  | cons y r ih =>
    rw [List.map_cons, List.flatten_cons, List.length_append, ih, List.map_cons, List.sum_cons, len_tl]
theorem ones_sum : ∀ {ys : List Str}, (∀ y ∈ ys, y.length = 1) → (ys.map (·.length)).sum = ys.length
  | [], _ => rfl
  | y :: r, h => by
    rw [List.map_cons, List.sum_cons, h y List.mem_cons_self, ones_sum fun z hz => h z (List.mem_cons_of_mem _ hz), List.length_cons]
    omega
theorem len_signs : (Str.ofString "BS/0123456789 b-.").length = 17 := by decide +kernel
theorem at_sign {z : Str} {k : Int} (h0 : 0 ≤ k) (h1 : k < (z.length : Int)) : ∃ c, atI z.cps.toList k = some c := by
  have e : z.cps.toList.length = z.length := Array.length_toList
  have hj : k.toNat < z.cps.toList.length := by omega
  refine ⟨z.cps.toList[k.toNat], ?_⟩
  have e2 : k = ((k.toNat : Nat) : Int) := by omega
  have q := atI_nat (List.getElem?_eq_getElem hj)
  rw [← e2] at q
  exact q
def sp_law_string (K : PySem.W.Frag) : Sp := fun vs H Q _ => ∃ (a : Addr) (ns : List Int), vs = [.ref a] ∧ SqL K H a (ns.map V.int) ∧ ∀ (H' : Hp) (z : Str), Same H H' → z.length ≤ 60 → Q (.str z) H'
theorem ok_law_string (T : Txt K mg) : FnOk P w K mg base CX0 2 T.f_law_string T.d_law_string ["script"] (sp_law_string K) := by
  refine T.F_law_string.ok sc_law_string (fun vs H Q E h => ?_) (fun cdv A outer s H vs Q E hr h => ?_)
  · obtain ⟨a, ns, rfl, _⟩ := h
    rfl
  · obtain ⟨a, ns, rfl, hS, q⟩ := h
    refine ⟨_, (pss_cons (ps_asg (pe_call (ok_law_numbers T) (hr.mono (by decide)) (by rfl) T.g_law_numbers T.F_law_numbers.kp T.b_law_numbers .nil pass0 (pa_cons (pe_call (ok_law_cell T) (hr.mono (by decide)) (by rfl) T.g_law_cell T.F_law_cell.kp T.b_law_cell .nil pass0 (pa_cons (pv 0) (pa_cons pe_int pa_nil))) pa_nil)) (pg_tup rfl (pgs_cons (pg_name (i := 1) sc_law_string.nd rfl (.inl rfl)) (pgs_cons (pg_name (i := 2) sc_law_string.nd rfl (.inl rfl)) pgs_nil))))
      (pss_cons (ps_set (i := 3) sc_law_string.nd rfl (.inl rfl) (pe_op op_add_str (pe_op op_add_str (pe_op op_add_str pe_str (pe_join pe_str (pe_lc (own := [("k", 5)]) (g := gName 5) (tt := tYes) rfl sc_law_string.nd (pi_list (pv 1)) (blkOk_by (own := [("k", 5)]) (N := N_law_string) (sc := defScope s_law_string) (by decide +kernel)) (fun _ _ _ _ _ => pg_name (i := 5) sc_law_string.nd rfl (Or.inl rfl)) (fun _ _ _ _ _ => pts_nil) (fun _ _ _ _ _ => (pe_callTy call_str_int (by rfl) T.z_str (by decide +kernel) (pa_cons (pv 5) pa_nil)))))) pe_str) (pe_join pe_str (pe_lc (own := [("k", 5)]) (g := gName 5) (tt := tYes) rfl sc_law_string.nd (pi_list (pv 2)) (blkOk_by (own := [("k", 5)]) (N := N_law_string) (sc := defScope s_law_string) (by decide +kernel)) (fun _ _ _ _ _ => pg_name (i := 5) sc_law_string.nd rfl (Or.inl rfl)) (fun _ _ _ _ _ => pts_nil) (fun _ _ _ _ _ => (pe_callTy call_str_int (by rfl) T.z_str (by decide +kernel) (pa_cons (pv 5) pa_nil)))))))
      (pss_cons (ps_set (i := 4) sc_law_string.nd rfl (.inr rfl) pe_str)
      (pss_cons (ps_if (pt_cmpR op_eq (pe_op op_mod (pe_call (ok_law_cell T) (hr.mono (by decide)) (by rfl) T.g_law_cell T.F_law_cell.kp T.b_law_cell .nil pass0 (pa_cons (pv 0) (pa_cons pe_int pa_nil))) pe_int) pe_int (nomark _))
      (pss_one (ps_ret (pe_join pe_str (pe_lc (own := [("x", 6)]) (g := gName 6) (tt := tYes) rfl sc_law_string.nd (pi_list (pe_call (ok_law_row T) (hr.mono (by decide)) (by rfl) T.g_law_row T.F_law_row.kp T.b_law_row .nil pass0 (pa_cons (pe_call (ok_law_cell T) (hr.mono (by decide)) (by rfl) T.g_law_cell T.F_law_cell.kp T.b_law_cell .nil pass0 (pa_cons (pv 0) (pa_cons pe_int pa_nil))) (pa_cons (pe_op op_mod (pe_op op_fdiv (pe_call (ok_law_cell T) (hr.mono (by decide)) (by rfl) T.g_law_cell T.F_law_cell.kp T.b_law_cell .nil pass0 (pa_cons (pv 0) (pa_cons pe_int pa_nil))) pe_int) pe_int) (pa_cons pe_int pa_nil))))) (blkOk_by (own := [("x", 6)]) (N := N_law_string) (sc := defScope s_law_string) (by decide +kernel)) (fun _ _ _ _ _ => pg_name (i := 6) sc_law_string.nd rfl (Or.inl rfl)) (fun _ _ _ _ _ => pts_nil) (fun _ _ _ _ _ => (pe_ix ix_str (pv 4) (pv 6) (fun _ _ => rfl)))))))
      pss_nil)
      (pss_cons (ps_for PassesOwn.never rfl (pi_range1 (by rfl) T.z_range (pa_cons (pe_op op_mod (pe_op op_fdiv (pe_call (ok_law_cell T) (hr.mono (by decide)) (by rfl) T.g_law_cell T.F_law_cell.kp T.b_law_cell .nil pass0 (pa_cons (pv 0) (pa_cons pe_int pa_nil))) pe_int) pe_int) pa_nil)) (pg_name (i := 5) sc_law_string.nd rfl (.inl rfl))
      (pss_cons (ps_set (i := 6) sc_law_string.nd rfl (.inl rfl) (pe_callB call_abs (by rfl) T.z_abs (by decide +kernel) (pa_cons (pe_call (ok_law_cell T) (hr.mono (by decide)) (by rfl) T.g_law_cell T.F_law_cell.kp T.b_law_cell .nil pass0 (pa_cons (pv 0) (pa_cons (pe_op op_add pe_int (pv 5)) pa_nil))) pa_nil)))
      (pss_cons (ps_set (i := 7) sc_law_string.nd rfl (.inl rfl) (pe_op op_mod (pv 6) (pe_op op_add (pe_callB call_len_str (by rfl) T.z_len (by decide +kernel) (pa_cons (pv 3) pa_nil)) pe_int)))
      (pss_cons (ps_set (i := 8) sc_law_string.nd rfl (.inl rfl) (pe_ix ix_list (pe_lst (pa_cons (pe_ix ix_str (pv 4) (pe_op op_mod (pe_op op_fdiv (pv 6) pe_int) pe_int) (fun _ _ => rfl)) (pa_cons pe_str (pa_cons (pe_ix ix_str (pv 4) (pe_op op_mod (pe_op op_fdiv (pv 6) pe_int) pe_int) (fun _ _ => rfl)) pa_nil)))) (pe_op op_mod (pe_op op_fdiv (pv 6) pe_int) pe_int) (fun _ _ => rfl)))
      (pss_one (ps_set (i := 3) sc_law_string.nd rfl (.inl rfl) (pe_op op_add_str (pe_op op_add_str (pe_slice sl_str (pv 3) po_none (po_some (pv 7))) (pv 8)) (pe_slice sl_str (pv 3) (po_some (pe_op op_add (pv 7) (pe_callTy call_intB (by rfl) T.z_int (by decide +kernel) (pa_cons (pe_cmpR op_gt (pe_op op_mod (pe_op op_fdiv (pv 6) pe_int) pe_int) pe_int (nomark _)) pa_nil)))) po_none))))))))
      (pss_one (ps_ret (pv 3)))))))), ?_⟩
    refine ⟨_, rfl, a, ns, 0, rfl, hS, _, rfl, fun H1 p pb ps bs ss e1 h1 hb8 hs8 gb gs => ?_⟩
    have d1 := gb.dig (by decide)
    have d2 := gs.dig (by decide)
    have l1 := gb.2.2
    have l2 := gs.2.2
    refine ⟨p, _, rfl, tup_of h1, rfl, _, _, rfl, _, _, rfl, rfl, ?_⟩
    -- text
    refine ⟨⟨_, rfl⟩, _, rfl, pb, rfl, ⟨_, lst_of hb8⟩, fun D1 nD => lc_list (K := K) (a := pb) (xs := bs.map V.int) (fun i H' => Same H1 H' ∧ H' D1 = some (.lst (((bs.take i).map dg).map V.str)))
      ⟨newS nD, by rw [upd_same]; rfl⟩ (fun i H' _ h => h.1.seq (lst_of hb8)) ?_ ?_⟩
    · rintro i x H' hi ⟨sm, hp⟩
      obtain ⟨n, rfl, hn, hm⟩ := item_ints hi
      have hn10 := d1 n hm
      refine ⟨rfl, tyesT ⟨_, rfl, n, rfl, ?_, _, hp, ?_, mutS sm nD, ?_⟩⟩
      · have : n.natAbs ≤ 9 := by omega
        have h3 : n.natAbs.log2 ≤ n.natAbs := Nat.log2_le_self _
        omega
      · rw [List.length_map, List.length_map, List.length_take]
        exact Nat.lt_of_lt_of_le (show min i bs.length < 1001 by omega) (by decide)
      · rw [upd_same, List.take_add_one, hn]
        simp [dg]
    rintro H9 ⟨e9, h9⟩
    rw [List.length_map, List.take_length] at h9
    refine ⟨_, D1, bs.map dg, rfl, rfl, .inl (lst_of h9), ?_, ?_⟩
    · rw [strs_lenD d1, len_e0]
      omega
    have z1 : Txt.join (Str.ofString "") (bs.map dg) = digS bs := rfl
    rw [z1]
    refine ⟨_, _, rfl, rfl, ?_, _, _, rfl, rfl, ?_, ⟨_, rfl⟩, _, rfl, ps, rfl, ⟨_, lst_of (getS e9 hs8)⟩, fun D2 nD2 => lc_list (K := K) (a := ps) (xs := ss.map V.int) (fun i H' => Same H9 H' ∧ H' D2 = some (.lst (((ss.take i).map dg).map V.str)))
      ⟨newS nD2, by rw [upd_same]; rfl⟩ (fun i H' _ h => h.1.seq (lst_of (getS e9 hs8))) ?_ ?_⟩
    · rw [len_B, len_digS d1]
      exact Nat.le_trans (show 1 + bs.length ≤ 200 by omega) (by decide)
    · rw [len_app, len_B, len_digS d1, len_S]
      exact Nat.le_trans (show 1 + bs.length + 2 ≤ 200 by omega) (by decide)
    · rintro i x H' hi ⟨sm, hp⟩
      obtain ⟨n, rfl, hn, hm⟩ := item_ints hi
      have hn10 := d2 n hm
      refine ⟨rfl, tyesT ⟨_, rfl, n, rfl, ?_, _, hp, ?_, mutS sm nD2, ?_⟩⟩
      · have : n.natAbs ≤ 9 := by omega
        have h3 : n.natAbs.log2 ≤ n.natAbs := Nat.log2_le_self _
        omega
      · rw [List.length_map, List.length_map, List.length_take]
        exact Nat.lt_of_lt_of_le (show min i ss.length < 1001 by omega) (by decide)
      · rw [upd_same, List.take_add_one, hn]
        simp [dg]
    rintro H10 ⟨e10, h10⟩
    rw [List.length_map, List.take_length] at h10
    refine ⟨_, D2, ss.map dg, rfl, rfl, .inl (lst_of h10), ?_, _, _, rfl, rfl, ?_, ?_⟩
    · rw [strs_lenD d2, len_e0]
      omega
    · show ((Str.ofString "B" ++ digS bs) ++ Str.ofString "/S").length + (digS ss).length ≤ sizeLine
      rw [len_app, len_app, len_B, len_digS d1, len_S, len_digS d2]
      exact Nat.le_trans (show 1 + bs.length + 2 + ss.length ≤ 400 by omega) (by decide)
    have z2 : (((Str.ofString "B" ++ digS bs) ++ Str.ofString "/S") ++ Txt.join (Str.ofString "") (ss.map dg)).length ≤ 21 := by
      rw [len_app, len_app, len_app, len_B, len_S, len_digS d1]
      show 1 + bs.length + 2 + (digS ss).length ≤ 21
      rw [len_digS d2]
      omega
    generalize ((Str.ofString "B" ++ digS bs) ++ Str.ofString "/S") ++ Txt.join (Str.ofString "") (ss.map dg) = t0 at z2
    have s10 : Same H H10 := e1.trans (e9.trans e10)
    have hS10 : SqL K H10 a (ns.map V.int) := s10.seq hS
    -- if
    refine ⟨_, rfl, a, ns, 1, rfl, hS10, _, _, rfl, rfl, (by k_offL), rfl, _, rfl, ite2 (fun c => ?_) (fun c => ?_)⟩
    · refine ⟨⟨_, rfl⟩, _, rfl, a, ns, 0, rfl, hS10, _, rfl, a, ns, 1, rfl, hS10, _, _, rfl, rfl, ⟨by decide, by decide⟩, _, _, rfl, rfl, (by k_offL), _, _, _, rfl, ?_, ?_, by decide, by decide, fun H11 p11 xs n11 e11 h11 l11 b11 => ?_⟩
      · exact Int.emod_nonneg _ (by decide)
      · exact Int.le_trans (Int.le_of_lt (Int.emod_lt_of_pos _ (by decide))) (by decide)
      have l9 : xs.length ≤ 9 := by
        have := Int.emod_lt_of_pos (cellOf ns 1 / 6) (show (0 : Int) < 9 by decide)
        omega
      refine ⟨p11, rfl, ⟨_, lst_of h11⟩, fun D3 nD3 => lc_list (K := K) (a := p11) (xs := xs.map V.int) (fun i H' => Same H11 H' ∧ ∃ ys : List Str, H' D3 = some (.lst (ys.map V.str)) ∧ ys.length = i ∧ ∀ y ∈ ys, y.length = 1)
        ⟨newS nD3, [], by rw [upd_same]; rfl, rfl, by simp⟩ (fun i H' _ h => h.1.seq (lst_of h11)) ?_ ?_⟩
      · rintro i x H' hi ⟨sm, ys, hp, hl, hy⟩
        obtain ⟨n, rfl, hn, hm⟩ := item_ints hi
        have bn := b11 n hm
        obtain ⟨c, hc⟩ := at_sign (z := Str.ofString "BS/0123456789 b-.") (k := n) bn.1 (by rw [len_signs]; omega)
        have i9 : i < 9 := by
          have := (List.getElem?_eq_some_iff.mp hi).1
          rw [List.length_map] at this
          omega
        refine ⟨rfl, tyesT ⟨_, rfl, _, rfl, _, n, c, rfl, rfl, by rw [len_signs]; decide, hc, _, hp, ?_, mutS sm nD3, ys ++ [⟨#[c]⟩], ?_, by simp [hl], ?_⟩⟩
        · rw [List.length_map]
          exact Nat.lt_of_lt_of_le (show ys.length < 100 by omega) (by decide)
        · rw [upd_same, List.map_append]
          rfl
        · intro y hy'
          rcases List.mem_append.mp hy' with h | h
          · exact hy y h
          · rw [List.mem_singleton.mp h]
            rfl
      · rintro H12 ⟨e12, ys, hp, hl, hy⟩
        rw [List.length_map] at hl
        have hsum := ones_sum hy
        refine ⟨_, D3, ys, rfl, rfl, .inl (lst_of hp), ?_, q H12 _ (s10.trans (e11.trans e12)) ?_⟩
        · rw [hsum, len_e0]
          omega
        · rw [join_len, hsum]
          omega
    -- for
    have m3 := Int.emod_lt_of_pos (cellOf ns 1 / 6) (show (0 : Int) < 3 by decide)
    refine ⟨_, rfl, a, ns, 1, rfl, hS10, _, _, rfl, rfl, ⟨by decide, by decide⟩, _, _, rfl, rfl, (by k_offL), _, rfl, ?_, ?_, for_range (lo := 0) (n := (cellOf ns 1 / 6 % 3).toNat) (fun i σ H' => ∃ (t : Str) (v5 v6 v7 v8 : Option V), σ = [some (.ref a), some (.ref pb), some (.ref ps), some (.str t), some (.str (Str.ofString "BS/0123456789 b-.")), v5, v6, v7, v8] ∧ Same H10 H' ∧ t.length ≤ 21 + i)
      ⟨t0, none, none, none, none, rfl, Same.refl _, z2⟩ ?_ ?_⟩
    · have := Int.emod_nonneg (cellOf ns 1 / 6) (show (3 : Int) ≠ 0 by decide)
      omega
    · omega
    · rintro i σ H' hi ⟨t, v5, v6, v7, v8, rfl, sm, hl⟩
      have i3 : i < 3 := by omega
      refine ⟨_, rfl, _, rfl, _, _, rfl, rfl, a, ns, 2 + i, ?_, sm.seq hS10, _, rfl, ?_⟩
      · show [V.ref a, V.int (2 + (0 + (i : Int)))] = [V.ref a, V.int ((2 + i : Nat) : Int)]
        rw [show (2 + (0 + (i : Int))) = ((2 + i : Nat) : Int) by omega]
      generalize (if cellOf ns (2 + i) < 0 then -cellOf ns (2 + i) else cellOf ns (2 + i)) = x
      have tz : t.length ≤ sizeLine := Nat.le_trans (show t.length ≤ 100 by omega) (by decide)
      have a0 := Int.emod_nonneg x (show ((t.length : Int) + 1) ≠ 0 by omega)
      have a1 := Int.emod_lt_of_pos x (show (0 : Int) < (t.length : Int) + 1 by omega)
      have b0 := Int.emod_nonneg (x / 50) (show (17 : Int) ≠ 0 by decide)
      have b1 := Int.emod_lt_of_pos (x / 50) (show (0 : Int) < 17 by decide)
      obtain ⟨c, hc⟩ := at_sign (z := Str.ofString "BS/0123456789 b-.") (k := x / 50 % 17) b0 (by rw [len_signs]; omega)
      refine ⟨_, rfl, _, rfl, _, rfl, tz, _, _, rfl, rfl, _, _, rfl, rfl, (by k_offL), ?_⟩
      refine ⟨_, rfl, _, rfl, _, _, rfl, rfl, ⟨by decide, by decide⟩, _, _, rfl, rfl, (by k_offL), _, _, c, rfl, rfl, by rw [len_signs]; decide, hc, _, rfl, _, rfl, _, _, rfl, rfl, ⟨by decide, by decide⟩, _, _, rfl, rfl, (by k_offL), _, _, c, rfl, rfl, by rw [len_signs]; decide, hc, by k_clsL, fun p13 n13 => ?_⟩
      k_invariant "new" (n13, H13, e13, h13)
      have pick : ∃ nv : Str, atI [V.str ⟨#[c]⟩, V.str (Str.ofString ""), V.str ⟨#[c]⟩] (x / 17 % 3) = some (.str nv) ∧ nv.length ≤ 1 := by
        have z0 := Int.emod_nonneg (x / 17) (show (3 : Int) ≠ 0 by decide)
        have z1 := Int.emod_lt_of_pos (x / 17) (show (0 : Int) < 3 by decide)
        generalize x / 17 % 3 = j at z0 z1
        have : j = 0 ∨ j = 1 ∨ j = 2 := by omega
        rcases this with rfl | rfl | rfl
        · exact ⟨_, rfl, Nat.le_refl _⟩
        · exact ⟨_, rfl, by rw [len_e0]; decide⟩
        · exact ⟨_, rfl, Nat.le_refl _⟩
      obtain ⟨nv, hnv, lnv⟩ := pick
      refine ⟨_, rfl, _, _, rfl, rfl, ⟨by decide, by decide⟩, _, _, rfl, rfl, (by k_offL), _, _, _, .str nv, rfl, rfl, lst_of h13, hnv, ?_⟩
      have cl := cut_lo_len t a0
      have ch := cut_hi_len t (k := x % ((t.length : Int) + 1) + (if decide (0 < x / 17 % 3) = true then 1 else 0)) (by split <;> omega)
      have hk : x % ((t.length : Int) + 1) ≤ x % ((t.length : Int) + 1) + (if decide (0 < x / 17 % 3) = true then 1 else 0) := by split <;> omega
      refine ⟨_, rfl, _, rfl, _, rfl, t, rfl, tz, _, rfl, _, _, rfl, rfl, ?_, _, rfl, _, rfl, _, rfl, _, _, rfl, rfl, ⟨by decide, by decide⟩, _, _, rfl, rfl, (by k_offL), _, _, rfl, rfl, _, rfl, _, _, rfl, rfl, _, rfl, t, rfl, tz, _, _, rfl, rfl, ?_, ?_⟩
      · exact Nat.le_trans (show (cutS t none (some (x % ((t.length : Int) + 1)))).length + nv.length ≤ 1000 by omega) (by decide)
      · rw [len_app]
        exact Nat.le_trans (show (cutS t none (some (x % ((t.length : Int) + 1)))).length + nv.length + (cutS t (some (x % ((t.length : Int) + 1) + (if decide (0 < x / 17 % 3) = true then 1 else 0))) none).length ≤ 1000 by omega) (by decide)
      · refine ⟨_, _, _, _, _, rfl, sm.trans e13, ?_⟩
        rw [len_app, len_app]
        show (cutS t none (some (x % ((t.length : Int) + 1)))).length + nv.length + (cutS t (some (x % ((t.length : Int) + 1) + (if decide (0 < x / 17 % 3) = true then 1 else 0))) none).length ≤ 21 + (i + 1)
        omega
    · rintro σ H' ⟨t, v5, v6, v7, v8, rfl, sm, hl⟩
      exact ⟨_, rfl, q H' t (s10.trans sm) (by omega)⟩
end
end My
namespace My
open PySem PySem.Spec PyProof.Rows L2 Vx
open TL
local macro_rules | `(tactic| k_invariant "new" ($n, $H:ident, $e:ident, $h:ident)) => `(tactic| (generalize hE : upd _ _ _ = $H; obtain ⟨$e:ident, $h:ident⟩ := gen_e hE $n; clear hE))
local macro_rules | `(tactic| k_places) => `(tactic| first
  | assumption
  | exact lst_of (by assumption)
  | exact tup_of (by assumption)
  | (refine getS (by assumption) ?_; k_places)
  | (refine Same.seq (by assumption) ?_; k_places)
  | (refine tupS (by assumption) ?_; k_places)
  | (refine lst_of ?_; k_places)
  | (refine tup_of ?_; k_places))
local macro_rules | `(tactic| k_subL) => `(tactic| first
  | k_places
  | solve_by_elim (maxDepth := 10) [getS, lst_of, tup_of, Same.seq, tupS])
local macro_rules | `(tactic| k_offL) => `(tactic| first
  | (show (0 : Int) < _; first | omega | decide)
  | (refine ⟨?_, ?_⟩ <;> first | omega | decide)
  | exact .inr ⟨by decide, by decide⟩
  | exact .inl ⟨by decide, by decide⟩
  | exact .inl ⟨by omega, by omega⟩
  | omega)
local macro_rules | `(tactic| k_clsL) => `(tactic| exact Nat.le_of_ble_eq_true rfl)
section
variable {P : Program} {w : World} {K : PySem.W.Frag} {mg : Str → Option Value} {base : Heap}
/-! ### what is due -/
theorem slash : Str.ofString "/" = ⟨#[47]⟩ := by decide +kernel
theorem find_cases (z : Str) : (Txt.find z (Str.ofString "/") = -1 ∧ 47 ∉ tl z) ∨ ∃ a r, tl z = a ++ 47 :: r ∧ 47 ∉ a ∧ Txt.find z (Str.ofString "/") = (a.length : Int) := by
  rw [slash]
  rcases PyProof.Rows.find_whole z ⟨#[47]⟩ with ⟨e, hn⟩ | ⟨i, e, hi, hn⟩
  · refine .inl ⟨e, fun h => ?_⟩
    obtain ⟨i, hi⟩ := (PyProof.Rows.mem_iff_at z 47).mp h
    exact hn i hi
  · have g := (StrLaws.subAt_one z 47 i).mp hi
    obtain ⟨hl, hg⟩ := List.getElem?_eq_some_iff.mp g
    refine .inr ⟨(tl z).take i, (tl z).drop (i + 1), ?_, fun h => ?_, ?_⟩
    · have q := List.drop_eq_getElem_cons hl
      rw [hg] at q
      rw [← q, List.take_append_drop]
    · obtain ⟨k, hk, e2⟩ := List.mem_take_iff_getElem.mp h
      exact hn k (by omega) ((StrLaws.subAt_one z 47 k).mpr (List.getElem?_eq_some_iff.mpr ⟨by omega, e2⟩))
    · have hl' : i < (tl z).length := hl
      rw [e, List.length_take]
      omega
theorem app_uniq {s : Nat} : ∀ {a b r t : List Nat}, a ++ s :: r = b ++ s :: t → s ∉ a → s ∉ b → a = b ∧ r = t
  | [], [], r, t, h, _, _ => ⟨rfl, (List.cons.inj h).2⟩
  | [], y :: b, r, t, h, _, hb => absurd (List.cons.inj h).1 (fun e => hb (by rw [e]; exact List.mem_cons_self))
  | x :: a, [], r, t, h, ha, _ => absurd (List.cons.inj h).1 (fun e => ha (by rw [← e]; exact List.mem_cons_self))
  | x :: a, y :: b, r, t, h, ha, hb => by
    obtain ⟨e1, e2⟩ := List.cons.inj h
    obtain ⟨e3, e4⟩ := app_uniq e2 (fun z => ha (List.mem_cons_of_mem _ z)) fun z => hb (List.mem_cons_of_mem _ z)
    exact ⟨by rw [e1, e3], e4⟩
def up48 (l : List Int) : List Nat := l.map fun n => 48 + n.toNat
def dn48 (l : List Nat) : List Int := l.map fun (c : Nat) => (c : Int) - 48
theorem dn_up {l : List Int} (h : ∀ n ∈ l, 0 ≤ n) : dn48 (up48 l) = l := by
  unfold dn48 up48
  rw [List.map_map]
  refine (List.map_congr_left fun n hn => ?_).trans (List.map_id l)
  have := h n hn
  show (((48 + n.toNat : Nat) : Int) - 48) = n
  omega
theorem up_dn {l : List Nat} (h : ∀ n ∈ dn48 l, 0 ≤ n) : up48 (dn48 l) = l := by
  unfold dn48 up48 at *
  rw [List.map_map]
  refine (List.map_congr_left fun n hn => ?_).trans (List.map_id l)
  have := h _ (List.mem_map.mpr ⟨n, hn, rfl⟩)
  show 48 + ((n : Int) - 48).toNat = n
  omega
theorem tl_ruleT {bs ss : List Int} (h1 : Dig bs) (h2 : Dig ss) : tl (ruleT bs ss) = (66 :: up48 bs) ++ 47 :: (83 :: up48 ss) := by
  unfold ruleT up48
  rw [tl_append, tl_append, tl_append, tl_B, tl_S, tl_digS h1, tl_digS h2]
  simp
theorem no47 {l : List Int} (h : ∀ n ∈ l, 0 ≤ n) : 47 ∉ up48 l := fun m => by
  obtain ⟨n, hn, e⟩ := List.mem_map.mp m
  have := h n hn
  omega
theorem Asc.ge {lo : Int} {l : List Int} (h : Asc lo l) (h0 : 0 ≤ lo) : ∀ n ∈ l, 0 ≤ n := fun n hn => by have := (h.2 n hn).1; omega
theorem form_cut {z : Str} {a r : List Nat} {bs ss : List Int} (e : tl z = a ++ 47 :: r) (ha : 47 ∉ a) (f : RuleForm z bs ss) : a = 66 :: up48 bs ∧ r = 83 :: up48 ss := by
  have q := tl_ruleT ((f.1.good (by decide) (by decide)).dig (by decide)) ((f.2.1.good (by decide) (by decide)).dig (by decide))
  rw [← f.2.2, e] at q
  refine app_uniq q ha fun m => ?_
  rcases List.mem_cons.mp m with m | m
  · cases m
  · exact no47 (f.1.ge (by decide)) m
theorem form_no {z : Str} (h : 47 ∉ tl z) : ¬ ∃ bs ss, RuleForm z bs ss := fun ⟨bs, ss, f⟩ => h (by
  rw [f.2.2, tl_ruleT ((f.1.good (by decide) (by decide)).dig (by decide)) ((f.2.1.good (by decide) (by decide)).dig (by decide))]
  simp)
/-- so far ascending -/
def Steps (lo : Int) (l : List Int) (i : Nat) : Prop := ∀ k x, k < i → l[k]? = some x → (lo ≤ x ∧ x ≤ 8) ∧ ∀ y, 0 < k → l[k - 1]? = some y → y < x
theorem asc_of_steps : ∀ {lo : Int} {l : List Int}, Steps lo l l.length → Asc lo l
  | lo, [], _ => ⟨List.Pairwise.nil, by simp⟩
  | lo, [x], h => ⟨by simp, fun b hb => by rw [List.mem_singleton.mp hb]; exact (h 0 x (by simp) rfl).1⟩
  | lo, x :: y :: r, h => by
    have ih := asc_of_steps (lo := lo) (l := y :: r) fun k a hk ha => by
      have q := h (k + 1) a (by simp at hk ⊢; omega) (by simpa using ha)
      refine ⟨q.1, fun b hb h2 => q.2 b (by omega) ?_⟩
      have e : k + 1 - 1 = (k - 1) + 1 := by omega
      rw [e]
      simpa using h2
    have hxy := (h 1 y (by simp) rfl).2 x (by decide) rfl
    obtain ⟨p1, p2⟩ := List.pairwise_cons.mp ih.1
    refine ⟨List.pairwise_cons.mpr ⟨fun b hb => ?_, ih.1⟩, fun b hb => ?_⟩
    · rcases List.mem_cons.mp hb with e | e
      · rw [e]; exact hxy
      · exact Int.lt_trans hxy (p1 b e)
    · rcases List.mem_cons.mp hb with e | e
      · rw [e]; exact (h 0 x (by simp) rfl).1
      · exact ih.2 b e
theorem steps_of_asc {lo : Int} {l : List Int} (h : Asc lo l) (i : Nat) : Steps lo l i := fun k x _ hx => by
  refine ⟨h.2 x (List.mem_of_getElem? hx), fun y hk hy => ?_⟩
  obtain ⟨h1, e1⟩ := List.getElem?_eq_some_iff.mp hx
  obtain ⟨h2, e2⟩ := List.getElem?_eq_some_iff.mp hy
  have := List.pairwise_iff_getElem.mp h.1 (k - 1) k h2 h1 (by omega)
  rw [e1, e2] at this
  exact this
theorem tl_cutS (z : Str) (lo hi : Option Int) : tl (cutS z lo hi) = ((tl z).drop (HT.sIx z.length 0 lo)).take (HT.sIx z.length z.length hi - HT.sIx z.length 0 lo) := rfl
theorem sIx_k {n d : Nat} {k : Int} (h : 0 ≤ k) : HT.sIx n d (some k) = min k.toNat n := by
  show (if k < 0 then (k + (n : Int)).toNat else min k.toNat n) = _
  rw [if_neg (by omega)]
def sp_law_due : Sp := fun vs H Q _ => ∃ (z : Str), vs = [.str z] ∧ z.length ≤ 60 ∧ (∀ H', Same H H' → (¬ ∃ bs ss, RuleForm z bs ss) → Q .non H') ∧
  ∀ (H' : Hp) (p pb ps : Addr) (bs ss : List Int), Same H H' → RuleForm z bs ss → H' p = some (.tup [.ref pb, .ref ps]) → H' pb = some (.tup (bs.map V.int)) → H' ps = some (.tup (ss.map V.int)) → Q (.ref p) H'
theorem ok_law_due (T : Txt K mg) : FnOk P w K mg base CX0 1 T.f_law_due T.d_law_due ["text"] sp_law_due := by
  refine T.F_law_due.ok sc_law_due (fun vs H Q E h => ?_) (fun cdv A outer s H vs Q E hr h => ?_)
  · obtain ⟨_, rfl, _⟩ := h
    rfl
  · obtain ⟨z, rfl, lz, qn, q⟩ := h
    refine ⟨_, (pss_cons (ps_set (i := 1) sc_law_due.nd rfl (.inl rfl) (pe_m1 PySem.F.slot_str_find PySem.F.type_str_find mt_find (pv 0) pe_str))
      (pss_cons (ps_if (PW.pt (pw_or (pt_cmpR op_lt (pv 1) pe_int (nomark _)) (pw_or (pt_cmpR op_ne (pe_ix ix_str (pv 0) pe_int (fun _ _ => rfl)) pe_str (nomark _)) (pw_or1 (pt_cmpR op_ne (pe_slice sl_str (pv 0) (po_some (pe_op op_add (pv 1) pe_int)) (po_some (pe_op op_add (pv 1) pe_int))) pe_str (nomark _))))))
      (pss_one (ps_ret pe_non))
      pss_nil)
      (pss_cons (ps_setLc (i := 2) (own := [("sign", 5)]) (g := gName 5) (tt := tYes) rfl sc_law_due.nd rfl rfl (sw_true rfl rfl rfl (by decide +kernel)) (pi_str (pe_slice sl_str (pv 0) (po_some pe_int) (po_some (pv 1)))) (blkOk_by (own := [("sign", 5)]) (N := N_law_due) (sc := defScope s_law_due) (by decide +kernel)) (fun _ _ _ _ _ => pg_name (i := 5) sc_law_due.nd rfl (Or.inl rfl)) (fun _ _ _ _ _ => pts_nil) (fun _ _ _ _ _ => (pe_op op_sub (pe_callB call_ord (by rfl) T.z_ord (by decide +kernel) (pa_cons (pv 5) pa_nil)) pe_int)))
      (pss_cons (ps_setLc (i := 3) (own := [("sign", 5)]) (g := gName 5) (tt := tYes) rfl sc_law_due.nd rfl rfl (sw_true rfl rfl rfl (by decide +kernel)) (pi_str (pe_slice sl_str (pv 0) (po_some (pe_op op_add (pv 1) pe_int)) po_none)) (blkOk_by (own := [("sign", 5)]) (N := N_law_due) (sc := defScope s_law_due) (by decide +kernel)) (fun _ _ _ _ _ => pg_name (i := 5) sc_law_due.nd rfl (Or.inl rfl)) (fun _ _ _ _ _ => pts_nil) (fun _ _ _ _ _ => (pe_op op_sub (pe_callB call_ord (by rfl) T.z_ord (by decide +kernel) (pa_cons (pv 5) pa_nil)) pe_int)))
      (pss_cons (ps_for PassesOwn.never rfl (pi_range1 (by rfl) T.z_range (pa_cons (pe_callB call_lenL (by rfl) T.z_len (by decide +kernel) (pa_cons (pv 2) pa_nil)) pa_nil)) (pg_name (i := 4) sc_law_due.nd rfl (.inl rfl))
      (pss_one (ps_if (PW.pt (pw_or (pt_cmpR op_lt (pe_ix ix_list (pv 2) (pv 4) (fun _ _ => rfl)) pe_int (nomark _)) (pw_or (pt_cmpR op_gt (pe_ix ix_list (pv 2) (pv 4) (fun _ _ => rfl)) pe_int (nomark _)) (pw_or1 (PW.pt (pw_and (pt_cmpR op_gt (pv 4) pe_int (nomark _)) (pw_and1 (pt_cmpR op_ge (pe_ix ix_list (pv 2) (pe_op op_sub (pv 4) pe_int) (fun _ _ => rfl)) (pe_ix ix_list (pv 2) (pv 4) (fun _ _ => rfl)) (nomark _)))))))))
      (pss_one (ps_ret pe_non))
      pss_nil)))
      (pss_cons (ps_for PassesOwn.never rfl (pi_range1 (by rfl) T.z_range (pa_cons (pe_callB call_lenL (by rfl) T.z_len (by decide +kernel) (pa_cons (pv 3) pa_nil)) pa_nil)) (pg_name (i := 4) sc_law_due.nd rfl (.inl rfl))
      (pss_one (ps_if (PW.pt (pw_or (pt_cmpR op_lt (pe_ix ix_list (pv 3) (pv 4) (fun _ _ => rfl)) pe_int (nomark _)) (pw_or (pt_cmpR op_gt (pe_ix ix_list (pv 3) (pv 4) (fun _ _ => rfl)) pe_int (nomark _)) (pw_or1 (PW.pt (pw_and (pt_cmpR op_gt (pv 4) pe_int (nomark _)) (pw_and1 (pt_cmpR op_ge (pe_ix ix_list (pv 3) (pe_op op_sub (pv 4) pe_int) (fun _ _ => rfl)) (pe_ix ix_list (pv 3) (pv 4) (fun _ _ => rfl)) (nomark _)))))))))
      (pss_one (ps_ret pe_non))
      pss_nil)))
      (pss_one (ps_ret (pe_tup (pa_cons (pe_callTy call_tupL (by rfl) T.z_tuple (by decide +kernel) (pa_cons (pv 2) pa_nil)) (pa_cons (pe_callTy call_tupL (by rfl) T.z_tuple (by decide +kernel) (pa_cons (pv 3) pa_nil)) pa_nil))))))))))), ?_⟩
    have tz : z.length ≤ sizeLine := Nat.le_trans lz (by decide)
    have lz' : (tl z).length = z.length := (len_tl z).symm
    refine ⟨_, rfl, ⟨_, rfl⟩, _, _, rfl, rfl, _, rfl, _, _, rfl, rfl, _, rfl, ?_⟩
    rcases find_cases z with ⟨ef, hn⟩ | ⟨a, r, ez, ha, ef⟩
    · rw [ef]
      exact iteT (qn H (Same.refl _) (form_no hn))
    rw [ef]
    refine ite2 (fun c => ?_) (fun c => ?_)
    · have c := of_decide_eq_true c
      refine qn H (Same.refl _) fun ⟨bs, ss, f⟩ => ?_
      rw [(form_cut ez ha f).1] at c
      simp at c
      omega
    have c := of_decide_eq_false (Bool.eq_false_iff.mpr c)
    obtain ⟨x, b, rfl⟩ : ∃ x b, a = x :: b := by
      cases a with
      | nil => simp at c
      | cons x b => exact ⟨x, b, rfl⟩
    have hx0 : atI z.cps.toList 0 = some x := by
      exact atI_nat (j := 0) (show (tl z)[0]? = some x by rw [ez]; rfl)
    refine ⟨_, rfl, _, _, _, rfl, rfl, tz, hx0, rfl, _, rfl, ite2 (fun c => ?_) (fun c => ?_)⟩
    · refine qn H (Same.refl _) fun ⟨bs, ss, f⟩ => ?_
      have e := (List.cons.inj (form_cut ez ha f).1).1
      subst e
      revert c
      decide +kernel
    have hx : x = 66 := by
      have c' : ¬ (!decide (V.str ⟨#[x]⟩ = V.str (Str.ofString "B"))) = true := c
      simp at c'
      have e := congrArg tl c'
      rw [tl_B] at e
      exact (List.cons.inj e).1
    subst hx
    have lzz : (tl z).length = b.length + r.length + 2 := by
      rw [ez, List.length_append, List.length_cons, List.length_cons]
      omega
    have nr : (tl z).drop (b.length + 2) = r := by
      rw [ez, show b.length + 2 = (66 :: b).length + 1 by rw [List.length_cons], ← List.drop_drop, List.drop_left]
      rfl
    have e66 : (((66 :: b).length : Nat) : Int) = (b.length : Int) + 1 := by rw [List.length_cons]; omega
    rw [e66]
    have cS : tl (cutS z (some ((b.length : Int) + 1 + 1)) (some ((b.length : Int) + 1 + 2))) = r.take 1 := by
      rw [tl_cutS, sIx_k (by omega), sIx_k (by omega), show ((b.length : Int) + 1 + 1).toNat = b.length + 2 by omega, show ((b.length : Int) + 1 + 2).toNat = b.length + 3 by omega, show min (b.length + 2) z.length = b.length + 2 by omega, nr]
      by_cases hr : r.length = 0
      · rw [List.length_eq_zero_iff.mp hr]; simp
      · rw [show min (b.length + 3) z.length - (b.length + 2) = 1 by omega]
    refine ⟨_, rfl, _, rfl, _, _, rfl, rfl, _, rfl, _, rfl, _, _, rfl, rfl, _, rfl, z, rfl, tz, rfl, _, rfl, ite2 (fun c => ?_) (fun c => ?_)⟩
    · refine qn H (Same.refl _) fun ⟨bs, ss, f⟩ => ?_
      rw [(form_cut ez ha f).2] at cS
      have c' : (!decide (V.str (cutS z (some ((b.length : Int) + 1 + 1)) (some ((b.length : Int) + 1 + 2))) = V.str (Str.ofString "S"))) = true := c
      simp at c'
      exact c' (ext_tl (by rw [cS, show tl (Str.ofString "S") = [83] by decide +kernel]; rfl))
    have hr : ∃ d, r = 83 :: d := by
      have c' : ¬ (!decide (V.str (cutS z (some ((b.length : Int) + 1 + 1)) (some ((b.length : Int) + 1 + 2))) = V.str (Str.ofString "S"))) = true := c
      simp at c'
      rw [c'] at cS
      cases r with
      | nil =>
        have : tl (Str.ofString "S") = [83] := by decide +kernel
        rw [this] at cS
        cases cS
      | cons y d =>
        have : tl (Str.ofString "S") = [83] := by decide +kernel
        rw [this] at cS
        have e := (List.cons.inj cS).1
        exact ⟨d, by rw [e]⟩
    obtain ⟨d, rfl⟩ := hr
    have form : ∀ {bs ss}, RuleForm z bs ss → dn48 b = bs ∧ dn48 d = ss := fun {bs ss} f => by
      obtain ⟨e1, e2⟩ := form_cut ez ha f
      rw [(List.cons.inj e1).2, (List.cons.inj e2).2]
      exact ⟨dn_up (f.1.ge (by decide)), dn_up (f.2.1.ge (by decide))⟩
    have cB : tl (cutS z (some 1) (some ((b.length : Int) + 1))) = b := by
      rw [tl_cutS, sIx_k (k := 1) (by decide), sIx_k (k := (b.length : Int) + 1) (by omega), show ((b.length : Int) + 1).toNat = b.length + 1 by omega, show min (1 : Int).toNat z.length = 1 by show min 1 z.length = 1; omega, show min (b.length + 1) z.length - 1 = b.length by omega, ez]
      simp
    have cC : tl (cutS z (some ((b.length : Int) + 1 + 2)) none) = d := by
      rw [tl_cutS, sIx_k (by omega), show ((b.length : Int) + 1 + 2).toNat = b.length + 3 by omega]
      show ((tl z).drop (min (b.length + 3) z.length)).take (z.length - min (b.length + 3) z.length) = d
      have e3 : (tl z).drop (b.length + 3) = d := by
        rw [show b.length + 3 = (b.length + 2) + 1 by omega, ← List.drop_drop, nr]
        rfl
      have hd : (83 :: d).length = d.length + 1 := List.length_cons
      rw [show min (b.length + 3) z.length = b.length + 3 by omega, e3, List.take_of_length_le (by omega)]
    -- births
    refine ⟨_, rfl, _, rfl, _, rfl, _, rfl, z, rfl, tz, _, rfl, ?_⟩
    generalize cutS z (some 1) (some ((b.length : Int) + 1)) = zb at cB
    refine (fun D1 nD1 => lc_it walk_str (fun i H' => Same H H' ∧ H' D1 = some (.lst ((dn48 ((tl zb).take i)).map V.int)))
      ⟨newS nD1, by rw [upd_same]; rfl⟩ (fun _ _ _ _ => True.intro) ?_ ?_)
    · rintro i x H' H'' hi ⟨sm, hp⟩ ⟨rfl, c, hc, rfl⟩
      have hc' : (tl zb)[i]? = some c := by
        rw [← hc]
        exact Array.getElem?_toList
      have i60 : i < (tl zb).length := (List.getElem?_eq_some_iff.mp hc').1
      rw [cB] at i60
      refine ⟨rfl, tyesT ⟨_, rfl, _, rfl, rfl, _, _, rfl, rfl, _, hp, ?_, mutS sm nD1, ?_⟩⟩
      · rw [List.length_map]
        unfold dn48
        rw [List.length_map, List.length_take]
        exact Nat.lt_of_lt_of_le (show min i (tl zb).length < 100 by omega) (by decide)
      · rw [upd_same, List.take_add_one, hc']
        unfold dn48
        rw [List.map_append, List.map_append]
        rfl
    rintro H1 ⟨e1, h1⟩
    rw [List.take_of_length_le (show (tl zb).length ≤ zb.cps.size by rw [← len_tl]; exact Nat.le_refl _), cB] at h1
    -- survival
    refine ⟨_, rfl, _, rfl, _, _, rfl, rfl, _, rfl, z, rfl, tz, _, rfl, ?_⟩
    generalize cutS z (some ((b.length : Int) + 1 + 2)) none = zd at cC
    refine (fun D2 nD2 => lc_it walk_str (fun i H' => Same H1 H' ∧ H' D2 = some (.lst ((dn48 ((tl zd).take i)).map V.int)))
      ⟨newS nD2, by rw [upd_same]; rfl⟩ (fun _ _ _ _ => True.intro) ?_ ?_)
    · rintro i x H' H'' hi ⟨sm, hp⟩ ⟨rfl, c, hc, rfl⟩
      have hc' : (tl zd)[i]? = some c := by
        rw [← hc]
        exact Array.getElem?_toList
      have i60 : i < (tl zd).length := (List.getElem?_eq_some_iff.mp hc').1
      rw [cC] at i60
      have hd : (83 :: d).length = d.length + 1 := List.length_cons
      refine ⟨rfl, tyesT ⟨_, rfl, _, rfl, rfl, _, _, rfl, rfl, _, hp, ?_, mutS sm nD2, ?_⟩⟩
      · rw [List.length_map]
        unfold dn48
        rw [List.length_map, List.length_take]
        exact Nat.lt_of_lt_of_le (show min i (tl zd).length < 100 by omega) (by decide)
      · rw [upd_same, List.take_add_one, hc']
        unfold dn48
        rw [List.map_append, List.map_append]
        rfl
    rintro H2 ⟨e2, h2⟩
    rw [List.take_of_length_le (show (tl zd).length ≤ zd.cps.size by rw [← len_tl]; exact Nat.le_refl _), cC] at h2
    have h1' := getS e2 h1
    have s2 := e1.trans e2
    have hd : (83 :: d).length = d.length + 1 := List.length_cons
    have lb : (dn48 b).length = b.length := by unfold dn48; rw [List.length_map]
    have ld : (dn48 d).length = d.length := by unfold dn48; rw [List.length_map]
    have fin : Asc 1 (dn48 b) → Asc 0 (dn48 d) → RuleForm z (dn48 b) (dn48 d) := fun f1 f2 => by
      refine ⟨f1, f2, ext_tl ?_⟩
      rw [tl_ruleT ((f1.good (by decide) (by decide)).dig (by decide)) ((f2.good (by decide) (by decide)).dig (by decide)), up_dn (f1.ge (by decide)), up_dn (f2.ge (by decide)), ez]
    generalize dn48 b = bs at *
    generalize dn48 d = ss at *
    clear h1 e1 e2 cB cC cS nD1 nD2 ez nr c
    -- the first loop
    refine ⟨_, rfl, _, _, rfl, lst_of h1', _, rfl, by omega, ?_, for_range (lo := 0) (n := (((bs.map V.int).length : Nat) : Int).toNat) (fun i σ H' => ∃ v4, σ = [some (.str z), some (.int ((b.length : Int) + 1)), some (.ref D1), some (.ref D2), v4, none] ∧ H' = H2 ∧ Steps 1 bs i) ⟨none, rfl, rfl, fun k x hk => absurd hk (Nat.not_lt_zero _)⟩ ?_ ?_⟩
    · rw [List.length_map]
      omega
    · rintro i σ H' hi ⟨v4, rfl, rfl, hst⟩
      rw [List.length_map] at hi
      have hi' : i < bs.length := by omega
      have gx : (bs.map V.int)[i]? = some (.int bs[i]) := by
        rw [List.getElem?_map, List.getElem?_eq_getElem hi']
        rfl
      have ax : atI (bs.map V.int) (0 + (i : Int)) = some (.int bs[i]) := at_of (j := i) (by omega) gx
      have none_ : ¬ Asc 1 bs → Q .non H' := fun h => qn H' s2 fun ⟨bs', ss', f⟩ => by
        obtain ⟨e1, e2⟩ := form f
        exact h (e1 ▸ f.1)
      refine ⟨_, rfl, _, rfl, _, _, _, _, rfl, rfl, lst_of h1', ax, _, _, rfl, rfl, _, rfl, ite2 (fun c => ?_) (fun c => ?_)⟩
      · have c := of_decide_eq_true c
        exact none_ fun h => by have := (h.2 _ (List.getElem_mem hi')).1; omega
      have c1 := of_decide_eq_false (Bool.eq_false_iff.mpr c)
      refine ⟨_, rfl, _, rfl, _, _, _, _, rfl, rfl, lst_of h1', ax, _, _, rfl, rfl, _, rfl, ite2 (fun c => ?_) (fun c => ?_)⟩
      · have c := of_decide_eq_true c
        exact none_ fun h => by have := (h.2 _ (List.getElem_mem hi')).2; omega
      have c2 := of_decide_eq_false (Bool.eq_false_iff.mpr c)
      refine ⟨_, rfl, _, _, rfl, rfl, _, rfl, ite2 (fun c => ?_) (fun c => ?_)⟩
      · have c := of_decide_eq_true c
        have hj : i - 1 < bs.length := by omega
        have gy : (bs.map V.int)[i - 1]? = some (.int bs[i - 1]) := by
          rw [List.getElem?_map, List.getElem?_eq_getElem hj]
          rfl
        have ay : atI (bs.map V.int) (0 + (i : Int) - 1) = some (.int bs[i - 1]) := at_of (j := i - 1) (by omega) gy
        refine ⟨_, rfl, _, rfl, _, _, rfl, rfl, _, _, _, _, rfl, rfl, lst_of h1', ay, _, rfl, _, rfl, _, _, _, _, rfl, rfl, lst_of h1', ax, _, _, rfl, rfl, _, rfl, ite2 (fun c3 => ?_) (fun c3 => ?_)⟩
        · have c3 := of_decide_eq_true c3
          exact none_ fun h => by
            have := List.pairwise_iff_getElem.mp h.1 (i - 1) i hj hi' (by omega)
            omega
        have c3 := of_decide_eq_false (Bool.eq_false_iff.mpr c3)
        refine ⟨_, rfl, rfl, fun k x hk hx => ?_⟩
        by_cases e : k = i
        · subst e
          rw [List.getElem?_eq_getElem hi'] at hx
          cases hx
          refine ⟨by omega, fun y _ hy => ?_⟩
          rw [List.getElem?_eq_getElem hj] at hy
          cases hy
          omega
        · exact hst k x (by omega) hx
      · have c := of_decide_eq_false (Bool.eq_false_iff.mpr c)
        refine iteF ⟨_, rfl, rfl, fun k x hk hx => ?_⟩
        have e0 : i = 0 := by omega
        have e : k = i := by omega
        subst e
        rw [List.getElem?_eq_getElem hi'] at hx
        cases hx
        exact ⟨by omega, fun y hy => by omega⟩
    rintro σ H' ⟨v4, rfl, rfl, hst⟩
    have asc1 : Asc 1 bs := asc_of_steps (by rw [List.length_map] at hst; exact hst)
    -- the second loop
    refine ⟨_, rfl, _, _, rfl, lst_of h2, _, rfl, by omega, ?_, for_range (lo := 0) (n := (((ss.map V.int).length : Nat) : Int).toNat) (fun i σ H'' => ∃ v4, σ = [some (.str z), some (.int ((b.length : Int) + 1)), some (.ref D1), some (.ref D2), v4, none] ∧ H'' = H' ∧ Steps 0 ss i) ⟨_, rfl, rfl, fun k x hk => absurd hk (Nat.not_lt_zero _)⟩ ?_ ?_⟩
    · rw [List.length_map]
      omega
    · rintro i σ H'' hi ⟨v4, rfl, rfl, hst⟩
      rw [List.length_map] at hi
      have hi' : i < ss.length := by omega
      have gx : (ss.map V.int)[i]? = some (.int ss[i]) := by
        rw [List.getElem?_map, List.getElem?_eq_getElem hi']
        rfl
      have ax : atI (ss.map V.int) (0 + (i : Int)) = some (.int ss[i]) := at_of (j := i) (by omega) gx
      have none_ : ¬ Asc 0 ss → Q .non H'' := fun h => qn H'' s2 fun ⟨bs', ss', f⟩ => by
        obtain ⟨e1, e2⟩ := form f
        exact h (e2 ▸ f.2.1)
      refine ⟨_, rfl, _, rfl, _, _, _, _, rfl, rfl, lst_of h2, ax, _, _, rfl, rfl, _, rfl, ite2 (fun c => ?_) (fun c => ?_)⟩
      · have c := of_decide_eq_true c
        exact none_ fun h => by have := (h.2 _ (List.getElem_mem hi')).1; omega
      have c1 := of_decide_eq_false (Bool.eq_false_iff.mpr c)
      refine ⟨_, rfl, _, rfl, _, _, _, _, rfl, rfl, lst_of h2, ax, _, _, rfl, rfl, _, rfl, ite2 (fun c => ?_) (fun c => ?_)⟩
      · have c := of_decide_eq_true c
        exact none_ fun h => by have := (h.2 _ (List.getElem_mem hi')).2; omega
      have c2 := of_decide_eq_false (Bool.eq_false_iff.mpr c)
      refine ⟨_, rfl, _, _, rfl, rfl, _, rfl, ite2 (fun c => ?_) (fun c => ?_)⟩
      · have c := of_decide_eq_true c
        have hj : i - 1 < ss.length := by omega
        have gy : (ss.map V.int)[i - 1]? = some (.int ss[i - 1]) := by
          rw [List.getElem?_map, List.getElem?_eq_getElem hj]
          rfl
        have ay : atI (ss.map V.int) (0 + (i : Int) - 1) = some (.int ss[i - 1]) := at_of (j := i - 1) (by omega) gy
        refine ⟨_, rfl, _, rfl, _, _, rfl, rfl, _, _, _, _, rfl, rfl, lst_of h2, ay, _, rfl, _, rfl, _, _, _, _, rfl, rfl, lst_of h2, ax, _, _, rfl, rfl, _, rfl, ite2 (fun c3 => ?_) (fun c3 => ?_)⟩
        · have c3 := of_decide_eq_true c3
          exact none_ fun h => by
            have := List.pairwise_iff_getElem.mp h.1 (i - 1) i hj hi' (by omega)
            omega
        have c3 := of_decide_eq_false (Bool.eq_false_iff.mpr c3)
        refine ⟨_, rfl, rfl, fun k x hk hx => ?_⟩
        by_cases e : k = i
        · subst e
          rw [List.getElem?_eq_getElem hi'] at hx
          cases hx
          refine ⟨by omega, fun y _ hy => ?_⟩
          rw [List.getElem?_eq_getElem hj] at hy
          cases hy
          omega
        · exact hst k x (by omega) hx
      · have c := of_decide_eq_false (Bool.eq_false_iff.mpr c)
        refine iteF ⟨_, rfl, rfl, fun k x hk hx => ?_⟩
        have e0 : i = 0 := by omega
        have e : k = i := by omega
        subst e
        rw [List.getElem?_eq_getElem hi'] at hx
        cases hx
        exact ⟨by omega, fun y hy => by omega⟩
    rintro σ H'' ⟨v4', rfl, rfl, hst⟩
    have asc0 : Asc 0 ss := asc_of_steps (by rw [List.length_map] at hst; exact hst)
    refine ⟨_, rfl, _, _, rfl, lst_of h1', fun p3 n3 => ?_⟩
    k_invariant "new" (n3, H3, e3, h3)
    refine ⟨_, rfl, _, _, rfl, lst_of (getS e3 h2), fun p4 n4 => ?_⟩
    k_invariant "new" (n4, H4, e4, h4)
    refine ⟨by k_clsL, fun p5 n5 => ?_⟩
    k_invariant "new" (n5, H5, e5, h5)
    exact q H5 p5 p3 p4 bs ss (s2.trans (e3.trans (e4.trans e5))) (fin asc1 asc0) h5 (by k_subL) (by k_subL)
end
end My
namespace My
open PySem PySem.Spec PyProof.Rows L2 Vx
open TL
local macro_rules | `(tactic| k_invariant "new" ($n, $H:ident, $e:ident, $h:ident)) => `(tactic| (generalize hE : upd _ _ _ = $H; obtain ⟨$e:ident, $h:ident⟩ := gen_e hE $n; clear hE))
local macro_rules | `(tactic| k_places) => `(tactic| first
  | assumption
  | exact lst_of (by assumption)
  | exact tup_of (by assumption)
  | (refine getS (by assumption) ?_; k_places)
  | (refine Same.seq (by assumption) ?_; k_places)
  | (refine tupS (by assumption) ?_; k_places)
  | (refine lst_of ?_; k_places)
  | (refine tup_of ?_; k_places))
local macro_rules | `(tactic| k_subL) => `(tactic| first
  | k_places
  | solve_by_elim (maxDepth := 10) [getS, lst_of, tup_of, Same.seq, tupS])
local macro_rules | `(tactic| k_offL) => `(tactic| first
  | (show (0 : Int) < _; first | omega | decide)
  | (refine ⟨?_, ?_⟩ <;> first | omega | decide)
  | exact .inr ⟨by decide, by decide⟩
  | exact .inl ⟨by decide, by decide⟩
  | exact .inl ⟨by omega, by omega⟩
  | omega)
local macro_rules | `(tactic| k_clsL) => `(tactic| exact Nat.le_of_ble_eq_true rfl)
section
variable {P : Program} {w : World} {K : PySem.W.Frag} {mg : Str → Option Value} {base : Heap}
/-! ### the law -/
theorem eqv_pairU (a b c d : List Int) : PyData.eqv (.tuple [.tuple (a.map PyData.int), .tuple (b.map PyData.int)]) (.tuple [.tuple (c.map PyData.int), .tuple (d.map PyData.int)]) = (decide (a = c) && decide (b = d)) := by
  show (PyData.eqv (.tuple (a.map PyData.int)) (.tuple (c.map PyData.int)) && (PyData.eqv (.tuple (b.map PyData.int)) (.tuple (d.map PyData.int)) && PyData.eqvAll [] [])) = _
  rw [eqv_tupI, eqv_tupI]
  simp [PyData.eqvAll]
theorem shaped_pairU (a b : List Int) : SeqAt.shaped (.tuple [.tuple (a.map PyData.int), .tuple (b.map PyData.int)]) = true := by
  unfold SeqAt.shaped
  simp [PyData.canLay0, PyData.depth, PyData.canLayAll0, PyData.depthAll, canAll_ints, depAll_ints]
theorem form_uniq {z : Str} {bs ss cs ts : List Int} (f : RuleForm z bs ss) (g : RuleForm z cs ts) : bs = cs ∧ ss = ts := by
  have q := tl_ruleT ((f.1.good (by decide) (by decide)).dig (by decide)) ((f.2.1.good (by decide) (by decide)).dig (by decide))
  rw [← f.2.2] at q
  obtain ⟨e1, e2⟩ := form_cut q (fun m => by
    rcases List.mem_cons.mp m with m | m
    · cases m
    · exact no47 (f.1.ge (by decide)) m) g
  rw [← dn_up (f.1.ge (by decide)), ← dn_up (f.2.1.ge (by decide)), (List.cons.inj e1).2, (List.cons.inj e2).2]
  exact ⟨dn_up (g.1.ge (by decide)), dn_up (g.2.1.ge (by decide))⟩
def sp_law (K : PySem.W.Frag) : Sp := fun vs H Q _ => ∃ (a : Addr) (ns : List Int), vs = [.ref a] ∧ SqL K H a (ns.map V.int) ∧ ns.length ≤ 63 ∧ ∀ H', Q (.bl true) H'
theorem ok_law (T : Txt K mg) : FnOk P w K mg base CX0 4 T.f_law T.d_law ["script"] (sp_law K) := by
  refine T.F_law.ok sc_law (fun vs H Q E h => ?_) (fun cdv A outer s H vs Q E hr h => ?_)
  · obtain ⟨a, ns, rfl, _⟩ := h
    rfl
  · obtain ⟨a, ns, rfl, hS, hlen, q⟩ := h
    refine ⟨_, (pss_cons (ps_set (i := 1) sc_law.nd rfl (.inl rfl) (pe_call (ok_law_string T) (hr.mono (by decide)) (by rfl) T.g_law_string T.F_law_string.kp T.b_law_string .nil pass0 (pa_cons (pv 0) pa_nil)))
      (pss_cons (ps_set (i := 2) sc_law.nd rfl (.inl rfl) (pe_call (ok_law_due T) (hr.mono (by decide)) (by rfl) T.g_law_due T.F_law_due.kp T.b_law_due .nil pass0 (pa_cons (pv 1) pa_nil)))
      (pss_cons (ps_try_as (i := 4) rfl rfl sc_law.nd rfl rfl ⟨rfl, by decide, .inl T.g_LifeError⟩ takes0 (fun W pn xe tk _ =>
      (pss_one (ps_set (i := 3) sc_law.nd rfl (.inl rfl) (pe_callS (ok_read_rule T) (hr.mono (by decide)) (by rfl) T.g_read_rule T.F_read_rule.kp T.b_read_rule (fun σ => passAt tk σ) (pa_cons (pv 1) pa_nil)))))
      (fun a oe cls d pn hz hf => (pss_cons (ps_set (i := 5) sc_law.nd rfl (.inl rfl) (pe_or (pe_callB (call_isE2 T.excC hz hf) (by rfl) T.z_isinstance (by decide +kernel) (pa_cons (pv 4) (pa_cons (pe_glob (v := .ref T.C_InvalidText) (by rfl) T.g_InvalidText rfl) pa_nil))) (pe_one (pe_callB (call_isE2 T.excC hz hf) (by rfl) T.z_isinstance (by decide +kernel) (pa_cons (pv 4) (pa_cons (pe_glob (v := .ref T.C_InvalidPicture) (by rfl) T.g_InvalidPicture rfl) pa_nil))))))
      (pss_one (ps_ret (pe_and (pe_cmpR op_isN (pv 2) pe_non (nomark _)) (pe_and (pe_callB (call_isE2 T.excC hz hf) (by rfl) T.z_isinstance (by decide +kernel) (pa_cons (pv 4) (pa_cons (pe_glob (v := .ref T.C_InvalidRule) (by rfl) T.g_InvalidRule rfl) pa_nil))) (pe_and (pe_callB (call_isE2 T.excC hz hf) (by rfl) T.z_isinstance (by decide +kernel) (pa_cons (pv 4) (pa_cons (pe_bltn (v := .ty "ValueError") (by rfl) T.z_ValueError (by decide +kernel) rfl) pa_nil))) (pe_one (pe_not (pv 5)))))))))))
      (pss_one (ps_ret (pe_and (pe_cmpR op_notN (pv 2) pe_non (nomark _)) (pe_one (pe_cmpR (op_eqD hr.units) (pe_tup (pa_cons (pe_fld (pv 3) rfl) (pa_cons (pe_fld (pv 3) rfl) pa_nil))) (pv 2) (nomark _))))))))), ?_⟩
    refine ⟨_, rfl, a, ns, rfl, hS, fun H1 z e1 lz => ?_⟩
    refine ⟨_, rfl, z, rfl, lz, fun H2 e2 hno => ?_, fun H2 p pb ps bs ss e2 f hp hb hs => ?_⟩
    · refine ⟨_, rfl, z, rfl, lz, fun H3 e3 _ => ?_, fun H3 r bs ss e3 f _ => absurd ⟨bs, ss, f⟩ hno⟩
      refine ⟨true, T.exm, fun _ x hx => ?_, fun q => Bool.noConfusion q⟩
      refine ⟨_, rfl, rfl, rfl, _, _, false, rfl, fun u e => e, T.kitT, _, rfl, iteF ?_⟩
      refine ⟨_, rfl, rfl, rfl, _, _, false, rfl, fun u e => e, T.kitP, ?_⟩
      refine ⟨_, rfl, rfl, _, rfl, iteT ?_⟩
      refine ⟨_, rfl, rfl, rfl, _, _, true, rfl, fun u e => e, T.kitR, _, rfl, iteT ?_⟩
      refine ⟨_, rfl, rfl, rfl, _, _, true, rfl, fun u e => e, T.kitV, _, rfl, iteT ?_⟩
      exact ⟨_, rfl, _, rfl, q _⟩
    · refine ⟨_, rfl, z, rfl, lz, fun H3 e3 hno => absurd ⟨bs, ss, f⟩ hno, fun H3 r bs' ss' e3 f' ra => ?_⟩
      obtain ⟨e4, e5⟩ := form_uniq f' f
      subst e4 e5
      obtain ⟨dx, tb, ts, r1, r2, r3⟩ := ra
      refine ⟨_, rfl, rfl, _, rfl, iteT ?_⟩
      refine ⟨_, rfl, r, _, _, _, _, rfl, r1, T.cl_Rule, T.na_Rule_births, rf_b _ _, _, rfl, r, _, _, _, _, rfl, r1, T.cl_Rule, T.na_Rule_survival, rf_s _ _, by k_clsL, fun p4 n4 => ?_⟩
      k_invariant "new" (n4, H4, e4, h4)
      refine ⟨_, rfl, _, _, .tup (tup_of h4) (.cons (dp_tupI (tup_of (getS e4 r2))) (.cons (dp_tupI (tup_of (getS e4 r3))) .nil)), .tup (tup_of (getS e4 (getS e3 hp))) (.cons (dp_tupI (tup_of (getS e4 (getS e3 hb)))) (.cons (dp_tupI (tup_of (getS e4 (getS e3 hs)))) .nil)), shaped_pairU _ _, shaped_pairU _ _, ?_⟩
      rw [eqv_pairU]
      simpa using q H4
end
end My
namespace My
open PySem PySem.Spec PyProof.Rows L2 Vx
theorem all_mk {l : PySem.W.OpenLaw} {w : World} {K : PySem.W.Frag} {h : Heap} {mg : Str → Option Value} {fa : Addr} (X : K.In h) (G : h.Ns mainGlobals mg) (hfa : mg "law" = some (.ref fa))
    {C_Rule : Addr}
    {f_Rule_init : Addr} {odRule_init anRule_init : Option Addr} {slRule_init : Array (Option Value)} {ocRule_init kVRule_init dcRule_init pmRule_init cdRule_init ctRule_init : Value}
    {f_read_rule : Addr} {odread_rule anread_rule : Option Addr} {slread_rule : Array (Option Value)} {ocread_rule kVread_rule dcread_rule pmread_rule cdread_rule ctread_rule : Value}
    {f_write_rule : Addr} {odwrite_rule anwrite_rule : Option Addr} {slwrite_rule : Array (Option Value)} {ocwrite_rule kVwrite_rule dcwrite_rule pmwrite_rule cdwrite_rule ctwrite_rule : Value}
    {f_numbers : Addr} {odnumbers annumbers : Option Addr} {slnumbers : Array (Option Value)} {ocnumbers kVnumbers dcnumbers pmnumbers cdnumbers ctnumbers : Value}
    {f_digits : Addr} {oddigits andigits : Option Addr} {sldigits : Array (Option Value)} {ocdigits kVdigits dcdigits pmdigits cddigits ctdigits : Value}
    {f_law_cell : Addr} {odlaw_cell anlaw_cell : Option Addr} {sllaw_cell : Array (Option Value)} {oclaw_cell kVlaw_cell dclaw_cell pmlaw_cell cdlaw_cell ctlaw_cell : Value}
    {f_law_row : Addr} {odlaw_row anlaw_row : Option Addr} {sllaw_row : Array (Option Value)} {oclaw_row kVlaw_row dclaw_row pmlaw_row cdlaw_row ctlaw_row : Value}
    {f_law_numbers : Addr} {odlaw_numbers anlaw_numbers : Option Addr} {sllaw_numbers : Array (Option Value)} {oclaw_numbers kVlaw_numbers dclaw_numbers pmlaw_numbers cdlaw_numbers ctlaw_numbers : Value}
    {f_law_string : Addr} {odlaw_string anlaw_string : Option Addr} {sllaw_string : Array (Option Value)} {oclaw_string kVlaw_string dclaw_string pmlaw_string cdlaw_string ctlaw_string : Value}
    {f_law_due : Addr} {odlaw_due anlaw_due : Option Addr} {sllaw_due : Array (Option Value)} {oclaw_due kVlaw_due dclaw_due pmlaw_due cdlaw_due ctlaw_due : Value}
    {f_law : Addr} {odlaw anlaw : Option Addr} {sllaw : Array (Option Value)} {oclaw kVlaw dclaw pmlaw cdlaw ctlaw : Value}
    {uBIRTH_DIGITS : Tok}
    {uSURVIVAL_DIGITS : Tok}
    {C_InvalidRule : Addr}
    {C_LifeError : Addr}
    {C_InvalidText : Addr}
    {C_InvalidPicture : Addr}
    (aCRule : PySem.W.nsIn K mainGlobals "Rule" = some (some (.ref C_Rule)))
    (pgRule : PySem.W.plainGet K C_Rule Str.empty = true)
    (hdRule : PySem.W.hasDictIn K C_Rule = true)
    (poRule : PySem.W.plainOver K C_Rule = true)
    (saRule : PySem.W.findIn K (.ref C_Rule) "__setattr__" = some (some (.builtin "object.__setattr__")))
    (mkRule : PySem.W.makesIn K C_Rule = true)
    (kcRule : PySem.W.keepIn K (.ref C_Rule) = true)
    (nRulebirths : PySem.W.findIn K (.ref C_Rule) "births" = some none)
    (nRulesurvival : PySem.W.findIn K (.ref C_Rule) "survival" = some none)
    (aRule_init : PySem.W.findIn K (.ref C_Rule) "__init__" = some (some (.ref f_Rule_init)))
    (iRule_init : PySem.W.isFn K (.ref f_Rule_init) = true)
    (lRule_init : K.lookup f_Rule_init = some ⟨ocRule_init, odRule_init, .func (PySem.W.fnOf "__init__" "Rule.__init__" (defArgs s_Rule_init) (defBody s_Rule_init) (defScope s_Rule_init) .none kVRule_init dcRule_init pmRule_init anRule_init cdRule_init ctRule_init), slRule_init⟩)
    (cRule_init : PySem.W.codeIn K cdRule_init "Rule.__init__" = true)
    (kRule_init : PySem.W.keepIn K (.ref f_Rule_init) = true)
    (aread_rule : PySem.W.nsIn K mainGlobals "read_rule" = some (some (.ref f_read_rule)))
    (lread_rule : K.lookup f_read_rule = some ⟨ocread_rule, odread_rule, .func (PySem.W.fnOf "read_rule" "read_rule" (defArgs s_read_rule) (defBody s_read_rule) (defScope s_read_rule) .none kVread_rule dcread_rule pmread_rule anread_rule cdread_rule ctread_rule), slread_rule⟩)
    (cread_rule : PySem.W.codeIn K cdread_rule "read_rule" = true)
    (kread_rule : PySem.W.keepIn K (.ref f_read_rule) = true)
    (awrite_rule : PySem.W.nsIn K mainGlobals "write_rule" = some (some (.ref f_write_rule)))
    (lwrite_rule : K.lookup f_write_rule = some ⟨ocwrite_rule, odwrite_rule, .func (PySem.W.fnOf "write_rule" "write_rule" (defArgs s_write_rule) (defBody s_write_rule) (defScope s_write_rule) .none kVwrite_rule dcwrite_rule pmwrite_rule anwrite_rule cdwrite_rule ctwrite_rule), slwrite_rule⟩)
    (cwrite_rule : PySem.W.codeIn K cdwrite_rule "write_rule" = true)
    (kwrite_rule : PySem.W.keepIn K (.ref f_write_rule) = true)
    (anumbers : PySem.W.nsIn K mainGlobals "_numbers" = some (some (.ref f_numbers)))
    (lnumbers : K.lookup f_numbers = some ⟨ocnumbers, odnumbers, .func (PySem.W.fnOf "_numbers" "_numbers" (defArgs s_numbers) (defBody s_numbers) (defScope s_numbers) .none kVnumbers dcnumbers pmnumbers annumbers cdnumbers ctnumbers), slnumbers⟩)
    (cnumbers : PySem.W.codeIn K cdnumbers "_numbers" = true)
    (knumbers : PySem.W.keepIn K (.ref f_numbers) = true)
    (adigits : PySem.W.nsIn K mainGlobals "_digits" = some (some (.ref f_digits)))
    (ldigits : K.lookup f_digits = some ⟨ocdigits, oddigits, .func (PySem.W.fnOf "_digits" "_digits" (defArgs s_digits) (defBody s_digits) (defScope s_digits) .none kVdigits dcdigits pmdigits andigits cddigits ctdigits), sldigits⟩)
    (cdigits : PySem.W.codeIn K cddigits "_digits" = true)
    (kdigits : PySem.W.keepIn K (.ref f_digits) = true)
    (alaw_cell : PySem.W.nsIn K mainGlobals "_law_cell" = some (some (.ref f_law_cell)))
    (llaw_cell : K.lookup f_law_cell = some ⟨oclaw_cell, odlaw_cell, .func (PySem.W.fnOf "_law_cell" "_law_cell" (defArgs s_law_cell) (defBody s_law_cell) (defScope s_law_cell) .none kVlaw_cell dclaw_cell pmlaw_cell anlaw_cell cdlaw_cell ctlaw_cell), sllaw_cell⟩)
    (claw_cell : PySem.W.codeIn K cdlaw_cell "_law_cell" = true)
    (klaw_cell : PySem.W.keepIn K (.ref f_law_cell) = true)
    (alaw_row : PySem.W.nsIn K mainGlobals "_law_row" = some (some (.ref f_law_row)))
    (llaw_row : K.lookup f_law_row = some ⟨oclaw_row, odlaw_row, .func (PySem.W.fnOf "_law_row" "_law_row" (defArgs s_law_row) (defBody s_law_row) (defScope s_law_row) .none kVlaw_row dclaw_row pmlaw_row anlaw_row cdlaw_row ctlaw_row), sllaw_row⟩)
    (claw_row : PySem.W.codeIn K cdlaw_row "_law_row" = true)
    (klaw_row : PySem.W.keepIn K (.ref f_law_row) = true)
    (alaw_numbers : PySem.W.nsIn K mainGlobals "_law_numbers" = some (some (.ref f_law_numbers)))
    (llaw_numbers : K.lookup f_law_numbers = some ⟨oclaw_numbers, odlaw_numbers, .func (PySem.W.fnOf "_law_numbers" "_law_numbers" (defArgs s_law_numbers) (defBody s_law_numbers) (defScope s_law_numbers) .none kVlaw_numbers dclaw_numbers pmlaw_numbers anlaw_numbers cdlaw_numbers ctlaw_numbers), sllaw_numbers⟩)
    (claw_numbers : PySem.W.codeIn K cdlaw_numbers "_law_numbers" = true)
    (klaw_numbers : PySem.W.keepIn K (.ref f_law_numbers) = true)
    (alaw_string : PySem.W.nsIn K mainGlobals "_law_string" = some (some (.ref f_law_string)))
    (llaw_string : K.lookup f_law_string = some ⟨oclaw_string, odlaw_string, .func (PySem.W.fnOf "_law_string" "_law_string" (defArgs s_law_string) (defBody s_law_string) (defScope s_law_string) .none kVlaw_string dclaw_string pmlaw_string anlaw_string cdlaw_string ctlaw_string), sllaw_string⟩)
    (claw_string : PySem.W.codeIn K cdlaw_string "_law_string" = true)
    (klaw_string : PySem.W.keepIn K (.ref f_law_string) = true)
    (alaw_due : PySem.W.nsIn K mainGlobals "_law_due" = some (some (.ref f_law_due)))
    (llaw_due : K.lookup f_law_due = some ⟨oclaw_due, odlaw_due, .func (PySem.W.fnOf "_law_due" "_law_due" (defArgs s_law_due) (defBody s_law_due) (defScope s_law_due) .none kVlaw_due dclaw_due pmlaw_due anlaw_due cdlaw_due ctlaw_due), sllaw_due⟩)
    (claw_due : PySem.W.codeIn K cdlaw_due "_law_due" = true)
    (klaw_due : PySem.W.keepIn K (.ref f_law_due) = true)
    (alaw : PySem.W.nsIn K mainGlobals "law" = some (some (.ref f_law)))
    (llaw : K.lookup f_law = some ⟨oclaw, odlaw, .func (PySem.W.fnOf "law" "law" (defArgs s_law) (defBody s_law) (defScope s_law) .none kVlaw dclaw pmlaw anlaw cdlaw ctlaw), sllaw⟩)
    (claw : PySem.W.codeIn K cdlaw "law" = true)
    (klaw : PySem.W.keepIn K (.ref f_law) = true)
    (ztuple : PySem.W.nsIn K mainGlobals "tuple" = some none)
    (zsorted : PySem.W.nsIn K mainGlobals "sorted" = some none)
    (zset : PySem.W.nsIn K mainGlobals "set" = some none)
    (zint : PySem.W.nsIn K mainGlobals "int" = some none)
    (zstr : PySem.W.nsIn K mainGlobals "str" = some none)
    (zlen : PySem.W.nsIn K mainGlobals "len" = some none)
    (zabs : PySem.W.nsIn K mainGlobals "abs" = some none)
    (zrange : PySem.W.nsIn K mainGlobals "range" = some none)
    (zord : PySem.W.nsIn K mainGlobals "ord" = some none)
    (zisinstance : PySem.W.nsIn K mainGlobals "isinstance" = some none)
    (zValueError : PySem.W.nsIn K mainGlobals "ValueError" = some none)
    (xBIRTH_DIGITS : PySem.W.nsIn K mainGlobals "BIRTH_DIGITS" = some (some (.str (Str.ofString "12345678") uBIRTH_DIGITS)))
    (xSURVIVAL_DIGITS : PySem.W.nsIn K mainGlobals "SURVIVAL_DIGITS" = some (some (.str (Str.ofString "012345678") uSURVIVAL_DIGITS)))
    (aIR : PySem.W.nsIn K mainGlobals "InvalidRule" = some (some (.ref C_InvalidRule)))
    (aLE : PySem.W.nsIn K mainGlobals "LifeError" = some (some (.ref C_LifeError)))
    (aIT : PySem.W.nsIn K mainGlobals "InvalidText" = some (some (.ref C_InvalidText)))
    (aIP : PySem.W.nsIn K mainGlobals "InvalidPicture" = some (some (.ref C_InvalidPicture)))
    (xIR : PySem.W.excIn K C_InvalidRule [.type "ValueError", .type "Exception", .type "BaseException", .type "object"] "ValueError.__new__" = true)
    (kIR : PySem.W.keepIn K (.ref C_InvalidRule) = true)
    (bIR : PySem.W.subIn K (.ref C_InvalidRule) (.type "BaseException") = some true)
    (tIR : PySem.W.typeIn K (.ref C_InvalidRule) = some (.type "type"))
    (sII : PySem.W.subIn K (.ref C_InvalidRule) (.ref C_InvalidRule) = some true)
    (sIT : PySem.W.subIn K (.ref C_InvalidRule) (.ref C_InvalidText) = some false)
    (sIP : PySem.W.subIn K (.ref C_InvalidRule) (.ref C_InvalidPicture) = some false)
    (sIL : PySem.W.subIn K (.ref C_InvalidRule) (.ref C_LifeError) = some true)
    (sIV : PySem.W.subIn K (.ref C_InvalidRule) (.type "ValueError") = some true)
    (oInvalidRule : PySem.W.isClsIn K C_InvalidRule = true)
    (yInvalidRule : PySem.W.typeIn K (.ref C_InvalidRule) = some (.type "type"))
    (oInvalidText : PySem.W.isClsIn K C_InvalidText = true)
    (yInvalidText : PySem.W.typeIn K (.ref C_InvalidText) = some (.type "type"))
    (oInvalidPicture : PySem.W.isClsIn K C_InvalidPicture = true)
    (yInvalidPicture : PySem.W.typeIn K (.ref C_InvalidPicture) = some (.type "type"))
    (bLE : PySem.W.subIn K (.ref C_LifeError) (.type "BaseException") = some true)
    (dLE : PySem.W.hasDictIn K C_LifeError = true)
    (tLE : PySem.W.typeIn K (.ref C_LifeError) = some (.type "type"))
    (eHg : PySem.W.findIn K (.ref C_InvalidRule) "__getattribute__" = some (some (.builtin "BaseException.__getattribute__")))
    (eHk : PySem.W.findIn K (.ref C_InvalidRule) "__getattr__" = some none)
    (eHd : PySem.W.hasDictIn K C_InvalidRule = true)
    (eHa : PySem.W.findIn K (.ref C_InvalidRule) "__class__" = some (some (.builtin "object.__class__")))
    (eHn : PySem.W.specialIn K (.builtin "object.__class__") "__get__" = some (some (.builtin "getset_descriptor.__get__")))
    (eHt : PySem.W.takesIn K (.builtin "object.__class__") = some true)
    (eHm : PySem.W.mroIn K C_InvalidRule (.type "object") = some true) :
    ∃ fd : FuncData, (∀ (s : Shared) (v : Value), BindsTo s fd ⟨[v], []⟩ [("script", v)]) ∧ ∀ base : Heap, K.In base → base.Ns mainGlobals mg → FnOk l.prog w K mg base CX0 4 fa fd ["script"] (sp_law K) := by
  have e := hfa.symm.trans (PySem.W.mg_of X G alaw)
  cases e
  have F_Rule_init := fun_mk (st := s_Rule_init) lRule_init cRule_init kRule_init
  have b_Rule_init := F_Rule_init.binds (ps := ["self", "births", "survival"]) fun _ _ _ _ _ _ us hl => match us, hl with | [_, _, _], _ => rfl
  have F_read_rule := fun_mk (st := s_read_rule) lread_rule cread_rule kread_rule
  have b_read_rule := F_read_rule.binds (ps := ["string"]) fun _ _ _ _ _ _ us hl => match us, hl with | [_], _ => rfl
  have F_write_rule := fun_mk (st := s_write_rule) lwrite_rule cwrite_rule kwrite_rule
  have b_write_rule := F_write_rule.binds (ps := ["rule"]) fun _ _ _ _ _ _ us hl => match us, hl with | [_], _ => rfl
  have F_numbers := fun_mk (st := s_numbers) lnumbers cnumbers knumbers
  have b_numbers := F_numbers.binds (ps := ["text", "digits"]) fun _ _ _ _ _ _ us hl => match us, hl with | [_, _], _ => rfl
  have F_digits := fun_mk (st := s_digits) ldigits cdigits kdigits
  have b_digits := F_digits.binds (ps := ["numbers"]) fun _ _ _ _ _ _ us hl => match us, hl with | [_], _ => rfl
  have F_law_cell := fun_mk (st := s_law_cell) llaw_cell claw_cell klaw_cell
  have b_law_cell := F_law_cell.binds (ps := ["script", "k"]) fun _ _ _ _ _ _ us hl => match us, hl with | [_, _], _ => rfl
  have F_law_row := fun_mk (st := s_law_row) llaw_row claw_row klaw_row
  have b_law_row := F_law_row.binds (ps := ["cell", "count", "bound"]) fun _ _ _ _ _ _ us hl => match us, hl with | [_, _, _], _ => rfl
  have F_law_numbers := fun_mk (st := s_law_numbers) llaw_numbers claw_numbers klaw_numbers
  have b_law_numbers := F_law_numbers.binds (ps := ["cell"]) fun _ _ _ _ _ _ us hl => match us, hl with | [_], _ => rfl
  have F_law_string := fun_mk (st := s_law_string) llaw_string claw_string klaw_string
  have b_law_string := F_law_string.binds (ps := ["script"]) fun _ _ _ _ _ _ us hl => match us, hl with | [_], _ => rfl
  have F_law_due := fun_mk (st := s_law_due) llaw_due claw_due klaw_due
  have b_law_due := F_law_due.binds (ps := ["text"]) fun _ _ _ _ _ _ us hl => match us, hl with | [_], _ => rfl
  have F_law := fun_mk (st := s_law) llaw claw klaw
  have b_law := F_law.binds (ps := ["script"]) fun _ _ _ _ _ _ us hl => match us, hl with | [_], _ => rfl
  let T : Txt K mg := {
    C_Rule := C_Rule,
    g_Rule := PySem.W.mg_of X G aCRule,
    cl_Rule := ⟨pgRule, hdRule, poRule, saRule⟩,
    na_Rule_births := nRulebirths,
    na_Rule_survival := nRulesurvival,
    f_Rule_init := f_Rule_init,
    d_Rule_init := _,
    F_Rule_init := F_Rule_init,
    b_Rule_init := b_Rule_init,
    M_Rule := ⟨mkRule, aRule_init, iRule_init, kcRule⟩,
    f_read_rule := f_read_rule,
    d_read_rule := _,
    F_read_rule := F_read_rule,
    b_read_rule := b_read_rule,
    g_read_rule := PySem.W.mg_of X G aread_rule,
    f_write_rule := f_write_rule,
    d_write_rule := _,
    F_write_rule := F_write_rule,
    b_write_rule := b_write_rule,
    g_write_rule := PySem.W.mg_of X G awrite_rule,
    f_numbers := f_numbers,
    d_numbers := _,
    F_numbers := F_numbers,
    b_numbers := b_numbers,
    g_numbers := PySem.W.mg_of X G anumbers,
    f_digits := f_digits,
    d_digits := _,
    F_digits := F_digits,
    b_digits := b_digits,
    g_digits := PySem.W.mg_of X G adigits,
    f_law_cell := f_law_cell,
    d_law_cell := _,
    F_law_cell := F_law_cell,
    b_law_cell := b_law_cell,
    g_law_cell := PySem.W.mg_of X G alaw_cell,
    f_law_row := f_law_row,
    d_law_row := _,
    F_law_row := F_law_row,
    b_law_row := b_law_row,
    g_law_row := PySem.W.mg_of X G alaw_row,
    f_law_numbers := f_law_numbers,
    d_law_numbers := _,
    F_law_numbers := F_law_numbers,
    b_law_numbers := b_law_numbers,
    g_law_numbers := PySem.W.mg_of X G alaw_numbers,
    f_law_string := f_law_string,
    d_law_string := _,
    F_law_string := F_law_string,
    b_law_string := b_law_string,
    g_law_string := PySem.W.mg_of X G alaw_string,
    f_law_due := f_law_due,
    d_law_due := _,
    F_law_due := F_law_due,
    b_law_due := b_law_due,
    g_law_due := PySem.W.mg_of X G alaw_due,
    f_law := fa,
    d_law := _,
    F_law := F_law,
    b_law := b_law,
    g_law := PySem.W.mg_of X G alaw,
    z_tuple := PySem.W.mg_none_of X G ztuple,
    z_sorted := PySem.W.mg_none_of X G zsorted,
    z_set := PySem.W.mg_none_of X G zset,
    z_int := PySem.W.mg_none_of X G zint,
    z_str := PySem.W.mg_none_of X G zstr,
    z_len := PySem.W.mg_none_of X G zlen,
    z_abs := PySem.W.mg_none_of X G zabs,
    z_range := PySem.W.mg_none_of X G zrange,
    z_ord := PySem.W.mg_none_of X G zord,
    z_isinstance := PySem.W.mg_none_of X G zisinstance,
    z_ValueError := PySem.W.mg_none_of X G zValueError,
    c_BIRTH_DIGITS := ⟨_, PySem.W.mg_of X G xBIRTH_DIGITS, ⟨_, rfl⟩⟩,
    c_SURVIVAL_DIGITS := ⟨_, PySem.W.mg_of X G xSURVIVAL_DIGITS, ⟨_, rfl⟩⟩,
    C_InvalidRule := C_InvalidRule,
    C_LifeError := C_LifeError,
    C_InvalidText := C_InvalidText,
    C_InvalidPicture := C_InvalidPicture,
    g_InvalidRule := PySem.W.mg_of X G aIR,
    g_LifeError := PySem.W.mg_of X G aLE,
    g_InvalidText := PySem.W.mg_of X G aIT,
    g_InvalidPicture := PySem.W.mg_of X G aIP,
    xIR := xIR,
    kIR := kIR,
    bIR := bIR,
    tIR := tIR,
    exm := PySem.W.exm_ref bLE dLE tLE sIL,
    kitT := kit_sub oInvalidText yInvalidText sII sIT,
    kitP := kit_sub oInvalidPicture yInvalidPicture sII sIP,
    kitR := kit_sub oInvalidRule yInvalidRule sII sII,
    kitV := kit_ve sIV,
    excC := ⟨eHg, eHk, bIR, eHd, eHa, eHn, eHt, eHm⟩ }
  exact ⟨_, fun s v => .of_eq rfl, fun base _ _ => ok_law T⟩
end My
open PySem PySem.W PyProof.Rows
set_option maxHeartbeats 0 in
theorem PySem.Challenge.cw_longlife_k02_strings_that_are_no_rules_holds : PySem.Challenge.rw_longlife_k02_strings_that_are_no_rules.Holds := by
  w_on; o_law; k_head; (case hw => w_witness2)
  k_fill
  refine L2.walk_of (l := PySem.Challenge.rw_longlife_k02_strings_that_are_no_rules) (n := 63) (k := 4) (x := "script") (CX := fun _ => L2.CX0) (sp := fun w => My.sp_law _) rfl (by decide) rfl ⟨rfl, by decide, by decide⟩ (fun w h Y => PySem.W.kIn_of Y) ?F (fun _ _ a ns hl _ hS => ⟨a, ns, rfl, hS, hl, fun _ => rfl⟩) (fun _ _ _ _ _ h => h)
  case F =>
    intro w mg fa h KX G hmg
    refine' My.all_mk KX G hmg ?aCRule ?pgRule ?hdRule ?poRule ?saRule ?mkRule ?kcRule ?nRulebirths ?nRulesurvival ?aRule_init ?iRule_init ?lRule_init ?cRule_init ?kRule_init ?aread_rule ?lread_rule ?cread_rule ?kread_rule ?awrite_rule ?lwrite_rule ?cwrite_rule ?kwrite_rule ?anumbers ?lnumbers ?cnumbers ?knumbers ?adigits ?ldigits ?cdigits ?kdigits ?alaw_cell ?llaw_cell ?claw_cell ?klaw_cell ?alaw_row ?llaw_row ?claw_row ?klaw_row ?alaw_numbers ?llaw_numbers ?claw_numbers ?klaw_numbers ?alaw_string ?llaw_string ?claw_string ?klaw_string ?alaw_due ?llaw_due ?claw_due ?klaw_due ?alaw ?llaw ?claw ?klaw ?ztuple ?zsorted ?zset ?zint ?zstr ?zlen ?zabs ?zrange ?zord ?zisinstance ?zValueError ?xBIRTH_DIGITS ?xSURVIVAL_DIGITS ?aIR ?aLE ?aIT ?aIP ?xIR ?kIR ?bIR ?tIR ?sII ?sIT ?sIP ?sIL ?sIV ?oInvalidRule ?yInvalidRule ?oInvalidText ?yInvalidText ?oInvalidPicture ?yInvalidPicture ?bLE ?dLE ?tLE ?eHg ?eHk ?eHd ?eHa ?eHn ?eHt ?eHm
    (case aCRule => k_is)
    (case pgRule => k_is)
    (case hdRule => k_is)
    (case poRule => k_is)
    (case saRule => k_is)
    (case mkRule => k_is)
    (case kcRule => k_is)
    (case nRulebirths => k_is)
    (case nRulesurvival => k_is)
    (case aRule_init => k_is)
    (case iRule_init => k_is)
    (case lRule_init => k_is)
    (case cRule_init => k_is)
    (case kRule_init => k_is)
    (case aread_rule => k_is)
    (case lread_rule => k_is)
    (case cread_rule => k_is)
    (case kread_rule => k_is)
    (case awrite_rule => k_is)
    (case lwrite_rule => k_is)
    (case cwrite_rule => k_is)
    (case kwrite_rule => k_is)
    (case anumbers => k_is)
    (case lnumbers => k_is)
    (case cnumbers => k_is)
    (case knumbers => k_is)
    (case adigits => k_is)
    (case ldigits => k_is)
    (case cdigits => k_is)
    (case kdigits => k_is)
    (case alaw_cell => k_is)
    (case llaw_cell => k_is)
    (case claw_cell => k_is)
    (case klaw_cell => k_is)
    (case alaw_row => k_is)
    (case llaw_row => k_is)
    (case claw_row => k_is)
    (case klaw_row => k_is)
    (case alaw_numbers => k_is)
    (case llaw_numbers => k_is)
    (case claw_numbers => k_is)
    (case klaw_numbers => k_is)
    (case alaw_string => k_is)
    (case llaw_string => k_is)
    (case claw_string => k_is)
    (case klaw_string => k_is)
    (case alaw_due => k_is)
    (case llaw_due => k_is)
    (case claw_due => k_is)
    (case klaw_due => k_is)
    (case alaw => k_is)
    (case llaw => k_is)
    (case claw => k_is)
    (case klaw => k_is)
    (case ztuple => k_is)
    (case zsorted => k_is)
    (case zset => k_is)
    (case zint => k_is)
    (case zstr => k_is)
    (case zlen => k_is)
    (case zabs => k_is)
    (case zrange => k_is)
    (case zord => k_is)
    (case zisinstance => k_is)
    (case zValueError => k_is)
    (case xBIRTH_DIGITS => k_is)
    (case xSURVIVAL_DIGITS => k_is)
    (case aIR => k_is)
    (case aLE => k_is)
    (case aIT => k_is)
    (case aIP => k_is)
    (case xIR => k_exc)
    (case kIR => k_is)
    (case bIR => k_is)
    (case tIR => k_is)
    (case sII => k_is)
    (case sIT => k_is)
    (case sIP => k_is)
    (case sIL => k_is)
    (case sIV => k_is)
    (case oInvalidRule => k_is)
    (case yInvalidRule => k_is)
    (case oInvalidText => k_is)
    (case yInvalidText => k_is)
    (case oInvalidPicture => k_is)
    (case yInvalidPicture => k_is)
    (case bLE => k_is)
    (case dLE => k_is)
    (case tLE => k_is)
    (case eHg => k_is)
    (case eHk => k_is)
    (case eHd => k_is)
    (case eHa => k_is)
    (case eHn => k_is)
    (case eHt => k_is)
    (case eHm => k_is)
