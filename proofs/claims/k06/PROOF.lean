import PyProof.Rows.All
import Wide.All
import OpenK.AllK
import Wide.FinOn
import HandS.ForMost
import HandS.Strs
import HandS.SetFor
import HandS.OwnEq
import HandS.SlotsOwn
import HandS.IsInst
import HandS.Wide
import HandS.Style
import HandS.Steps
import HandS.Walk
import HandS.TupSets
import HandS.SortRule
import PyProof.Rows.AssignMoreSeq
import HandS.NoneIn
import HandS.Deep
import PyProof.Rows.RegStrFacts
import PySem.Challenge.RW_longlife_k06_run_texts
set_option Elab.async false
set_option linter.all false
set_option maxRecDepth 100000
set_option maxHeartbeats 4000000
namespace Vx
open PySem PySem.Spec PyProof.Rows L2
/-! ### heaps that grow -/
theorem newS {H : Hp} {p : Addr} {o : HO} (n : H p = none) : Same H (upd H p o) := fun b x e => by
  rw [upd_ne (ne_of_none e n)]
  exact e
theorem mutS {H H' : Hp} {p : Addr} {o : HO} (e : Same H H') (n : H p = none) : Same H (upd H' p o) := fun b x hb => by
  rw [upd_ne (ne_of_none hb n)]
  exact e b x hb
theorem getS {H H' : Hp} {a : Addr} {o : HO} (e : Same H H') (h : H a = some o) : H' a = some o := e a o h
theorem tupS {K : PySem.W.Frag} {H H' : Hp} {a : Addr} {xs : List V} (e : Same H H') (h : SqT K H a xs) : SqT K H' a xs := by
  rcases h with (h | ⟨o, h⟩) | h
  · exact .inl (.inl (e _ _ h))
  · exact .inl (.inr ⟨o, e _ _ h⟩)
  · exact .inr h
theorem lst_of {K : PySem.W.Frag} {H : Hp} {a : Addr} {xs : List V} (h : H a = some (.lst xs)) : SqL K H a xs := .inl (.inl h)
theorem tup_of {K : PySem.W.Frag} {H : Hp} {a : Addr} {xs : List V} (h : H a = some (.tup xs)) : SqT K H a xs := .inl (.inl h)
theorem neS {H H' : Hp} {a p : Addr} {o : HO} (h : H a = some o) (e : Same H H') (n : H' p = none) : a ≠ p := ne_of_none (e a o h) n
theorem backS {H H' : Hp} {p : Addr} (e : Same H H') (n : H' p = none) : H p = none := Same.free e n
theorem gen_e {H H1 : Hp} {p : Addr} {o : HO} (q : upd H p o = H1) (n : H p = none) : Same H H1 ∧ H1 p = some o := by
  subst q
  exact ⟨newS n, upd_same⟩
/-! ### calls of built-ins, one way each -/
section
variable {X : Cx}
theorem call_intI : CallR X (.type "int") (fun xs H Q => ∃ i, xs = [.int i] ∧ Q (.int i) H) := fun pins s σ H xs us Q I r h => call_int1 pins s σ H xs us Q I r (.inl h)
theorem call_tupL : CallR X (.type "tuple") (fun xs H Q => ∃ p ys, xs = [.ref p] ∧ SqL X.K H p ys ∧ ∀ l, H l = none → Q (.ref l) (upd H l (.tup ys))) := fun pins s σ H xs us Q I r h => by
  obtain ⟨p, ys, e, hs, q⟩ := h
  exact call_tuple_of pins s σ H xs us Q I r ⟨p, ys, e, .inl ⟨hs, q⟩⟩
theorem call_lenL : CallR X (.builtin "len") (fun xs H Q => ∃ p ys, xs = [.ref p] ∧ SqL X.K H p ys ∧ Q (.int ys.length) H) := fun pins s σ H xs us Q I r h => by
  obtain ⟨p, ys, e, hs, q⟩ := h
  exact call_len_seq pins s σ H xs us Q I r ⟨p, ys, e, .inl hs, q⟩
theorem call_lenU : CallR X (.builtin "len") (fun xs H Q => ∃ p ys, xs = [.ref p] ∧ SqT X.K H p ys ∧ Q (.int ys.length) H) := fun pins s σ H xs us Q I r h => by
  obtain ⟨p, ys, e, hs, q⟩ := h
  exact call_len_seq pins s σ H xs us Q I r ⟨p, ys, e, .inr hs, q⟩
theorem call_listL : CallR X (.type "list") (fun xs H Q => ∃ p ys, xs = [.ref p] ∧ SqL X.K H p ys ∧ ∀ l, H l = none → Q (.ref l) (upd H l (.lst ys))) := fun pins s σ H xs us Q I r h => by
  obtain ⟨p, ys, e, hs, q⟩ := h
  exact call_list_of pins s σ H xs us Q I r ⟨p, ys, e, .inl hs, q⟩
/-- a class of the text is no built-in type -/
theorem op_isCT : OpR X (compareOp .Is) (fun x y H Q => ∃ a n, x = V.ref a ∧ y = V.ty n ∧ Q (.bl false) H) := by
  intro pins s σ H x y v u Q I rx ry h
  obtain ⟨a, n, rfl, rfl, q⟩ := h
  cases (show v = Value.ref a from rx)
  cases (show u = Value.type n from ry)
  exact wpAny_is_other rfl (fun z => by cases z) ⟨.bl false, H, I, rfl, q⟩
theorem looks_ty {M : Model} {s : Shared} {u : Value} {T : String} (h : s.TypeIs u T) : PySem.W.Looks M s.heap (typeOf u) (.type T) := by
  unfold Shared.TypeIs at h
  split at h
  · obtain ⟨o, ho, hc⟩ := h
    exact fun A Q E s' k q => wpAny_typeOf_ref (k _ _ ho) (by rw [hc]; exact q)
  · exact PySem.W.Looks.of_pure h
/-- x == y by the text's own __eq__; y an instance of that class, or of a built-in type -/
def rEqOwn (K : PySem.W.Frag) (C : Addr) (sp : Sp) (E : XK) : R2 := fun x y H Q => ∃ a dx fs, x = .ref a ∧ H a = some (.ins C dx fs) ∧
  ((∃ b dy gs, y = .ref b ∧ H b = some (.ins C dy gs)) ∨ ∃ T, TyB K H y T ∧ PySem.W.notFirst K C (.type T) = true) ∧ sp [x, y] H Q E
theorem op_eqOwn {CX : CXT} {C g : Addr} {n : Nat} {sp : Sp} {E : XK} (hs : PySem.W.findIn X.K (.ref C) "__eq__" = some (some (.ref g))) (hf : PySem.W.isFn X.K (.ref g) = true)
    (F : FnR X.prog X.w X.K X.mg X.base CX n g sp) (hr : Room n X.A) (hx : Passes CX X E) : OpR X (compareOp .Eq) (rEqOwn X.K C sp E) := by
  intro pins s σ H x y v u Q I rx ry h
  obtain ⟨a, dx, fs, rfl, ha, hy, q⟩ := h
  cases (show v = Value.ref a from rx)
  obtain ⟨mA, O, _⟩ := ins_get I.hok ha
  obtain ⟨od, J, _⟩ := O.look
  obtain ⟨m, hF⟩ := I.fr
  show wpAny (model X.prog X.w) X.A (richCompare .Eq (.ref a) u) (EP X pins σ Q) X.xe s
  have fin : wpAny (model X.prog X.w) X.A (call (.ref g) [.ref a, u]) (PySem.W.CmpBack (EP X pins σ Q)) X.xe s := by
    refine wpAny_mono (wpAny_call (run_fnR (us := [.ref a, u]) (vs := [.ref a, y]) F hr hx I (.cons rfl (.cons ry .nil)) q)) (fun w s' z => ?_) fun _ _ x => x
    obtain ⟨z', H', I', rz, qz⟩ := z
    exact SlX.cmpback rz ⟨z', H', I', rz, qz⟩
  rcases hy with ⟨b, dy, gs, rfl, hb⟩ | ⟨T, ty, nf⟩
  · cases (show u = Value.ref b from ry)
    obtain ⟨mB, O2, _⟩ := ins_get I.hok hb
    obtain ⟨od2, J2, _⟩ := O2.look
    exact PySem.W.cmp_K (op := .Eq) (tb := .ref C) hr.units0 hF I.ok.mod.kin J J2.type (by simp [PySem.W.notFirst]) hs hf fin
  · exact PySem.W.cmp_K (op := .Eq) (tb := .type T) hr.units0 hF I.ok.mod.kin J (looks_ty (ty.is I ry)) nf hs hf fin
theorem nf_str {K : PySem.W.Frag} {C : Addr} : PySem.W.notFirst K C (.type "str") = true := by rfl
theorem nf_tup {K : PySem.W.Frag} {C : Addr} : PySem.W.notFirst K C (.type "tuple") = true := by rfl
end
end Vx
namespace Vx
open PySem PySem.Spec PyProof.Rows L2
/-! ### set(xs) of a list of ints -/
abbrev bareSet (w : World) : Obj := { cls := .type "set", dict := none, data := .set #[] 0 (.fresh 0 0 (!w.params.followText "set-order")) }
section
variable {P : Program} {w : World} {A : Around} {E : Value → Shared → Prop} {s : Shared}
theorem set_of_list {l : Addr} {its : Array Value} (ns : List Int) {Q : Value → Shared → Prop} (calm : A.handled = none) (hl : s.heap.IsList l its) (hi : IntsAre its.toList ns) (room : ns.length + 1 < scanBound)
    (k : ∀ (g : Heap) (t c : Nat), SetR w g s.heap.objs.size (fun j => decide (j ∈ ns)) c → c ≤ ns.length → (∀ b o, s.heap.get? b = some o → g.get? b = some o) → Q (.ref s.heap.objs.size) { s with heap := g, toks := t }) :
    wpAny (model P w) A (call (.type "set") [.ref l]) Q E s := by
  have len : its.size = ns.length := by
    have z := IntsAre.length hi
    rwa [Array.length_toList] at z
  obtain ⟨c0, tl, hmro⟩ := F.called_set.mro
  have hmade := F.called_set.made
  have hsub := F.called_set.sub
  refine wpAny_call (codeAny_of_tree ?_)
  show wpAny _ _ (callAny (.type "set") _) _ _ _
  refine wpAny_pure ⟨Code.quiet_builtin _ (by decide +kernel), codeAny_builtin F.entry_type_call ?_⟩
  rw [Around.under_plain (weight_type_call_type "set" [.ref l] []) rfl]
  have n1 := F.called_set.notType
  have n2 := F.called_set.canCreate
  have n3 := F.typeCall_set_1 (.ref l)
  repeat (any_goals (first | assumption | wp_step))
  refine codeAny_mono (code_set_led1 (.ref l) (E := E) (Q₁ := fun ob s1 => ob = .ref s.heap.objs.size ∧ s1 = { s with heap := s.heap.push (bareSet w) }) ⟨rfl, rfl⟩) fun r s1 hr => ?_
  rcases r with e | fl
  · exact hr
  cases fl with
  | ret ob =>
    obtain ⟨rfl, rfl⟩ := hr
    have at0 : (s.heap.push (bareSet w)).get? s.heap.objs.size = some (bareSet w) := Heap.get?_push_size _ rfl
    have ty0 : Shared.TypeIs { s with heap := s.heap.push (bareSet w) } (.ref s.heap.objs.size) "set" := ⟨_, at0, rfl⟩
    have i1 := F.called_set.init.lookup
    have i2 := F.called_set.init.bind (.ref s.heap.objs.size)
    repeat (any_goals (first | assumption | wp_step))
    refine codeAny_mono (codeAny_call_builtin (R := wants (fun v s2 => v = .none ∧ ∃ g t c, s2 = { s with heap := g, toks := t } ∧ SetR w g s.heap.objs.size (fun j => decide (j ∈ ns)) c ∧ c ≤ ns.length ∧
        (∀ b o, s.heap.get? b = some o → g.get? b = some o)) E) F.called_set.init.plain F.entry_set_init (check_set_init_1 ty0 ?_)) fun r2 s2 hr2 => ?_
    · obtain ⟨⟨oc, od, ob, osl⟩, hol, hcl, nl, hdl⟩ := hl
      simp only at hcl hdl
      subst hcl hdl
      have at1 : (s.heap.push (bareSet w)).get? l = some { cls := .type "list", dict := od, data := .seq its nl, slots := osl } := Heap.get?_push_of_some _ hol
      have q1 := F.sub_list_set
      have q2 := F.sub_list_frozenset
      have q3 : (Value.type "list" == Value.type "dict") = false := by decide
      have isl : (s.heap.push (bareSet w)).IsList l its := ⟨_, at1, rfl, nl, rfl⟩
      unfold Builtin.«set.__init__» noKeywords Builtin.Frozenset.updateFrom
      generalize hPI : pyIter = PI
      wp_walk
      subst hPI
      refine wpAny_pyIter_list isl ?_
      refine wpAny_bind (wpAny_runValue ?_)
      have lS : l < s.heap.objs.size := Heap.lt_size hol
      have calm3 : A.in1.in1.in1.handled = none := by simp [calm]
      have neI : l ≠ (s.heap.push (bareSet w)).objs.size := by
        rw [Heap.size_push]
        exact Nat.ne_of_lt (Nat.lt_succ_of_lt lS)
      have noS : s.heap.objs.size ∉ [(s.heap.push (bareSet w)).objs.size, l] := by
        rw [Heap.size_push]
        simp only [List.mem_cons, List.mem_singleton, List.not_mem_nil, or_false, not_or]
        exact ⟨Nat.ne_of_lt (Nat.lt_succ_self _), Nat.ne_of_gt lS⟩
      have item : ∀ (i : Nat) (v : Value), its[i]? = some v → ∃ m t, ns[i]? = some m ∧ v = .int m t := fun i v hv => by
        have li : i < ns.length := by rw [← len]; exact (Array.getElem?_eq_some_iff.mp hv).1
        obtain ⟨t, e⟩ := PyProof.Rows.IntsAre.int_at hi i v (by rw [Array.getElem?_toList]; exact hv)
        refine ⟨ns[i], t, List.getElem?_eq_getElem li, ?_⟩
        rw [e, List.getD_eq_getElem?_getD, List.getElem?_eq_getElem li]
        rfl
      refine set_update_ints ((Walks.list calm3 _ l neI its).toS) s.heap.objs.size noS ns len room item (its.size - 0) 0 _ (by omega) (Nat.zero_le _) ⟨⟨_, Heap.get?_push_size _ rfl, rfl, rfl⟩, (isl.push _)⟩ ?s0 ?fin
      case s0 => exact ⟨0, Nat.le_refl 0, setR_new_at (Heap.get?_push_of_some _ at0)⟩
      case fin =>
        intro s3 c3 mv hc3 hS3
        obtain ⟨g3, ge, dr, t3, os3⟩ := s3
        cases (show ge = s.gens from mv.gens)
        cases (show dr = s.drawn from mv.drawn)
        cases (show os3 = s.os from mv.os)
        show wpAny _ _ _ _ _ _
        refine wpAny_pure ?_
        show wpAny _ _ (ret Value.none) _ _ _
        rw [len] at hc3
        refine wpAny_pure ⟨rfl, g3, t3, c3, rfl, hS3, hc3, fun b o e => ?_⟩
        have b0 : b < s.heap.objs.size := Heap.lt_size e
        have b2 : b ≠ (s.heap.push (bareSet w)).objs.size := by
          rw [Heap.size_push]
          exact Nat.ne_of_lt (Nat.lt_succ_of_lt b0)
        exact mv.heap b o (by simp only [List.mem_cons, List.mem_singleton, List.not_mem_nil, or_false, not_or]; exact ⟨Nat.ne_of_lt b0, b2⟩) (Heap.get?_push_of_some _ (Heap.get?_push_of_some _ e))
    · rcases r2 with e | fl2
      · exact hr2
      cases fl2 with
      | ret v =>
        obtain ⟨rfl, g, t, c, rfl, hS, hc, hk⟩ := hr2
        repeat (any_goals (first | assumption | wp_step))
        exact k _ _ _ hS hc hk
      | _ => exact hr2.elim
  | _ => exact hr.elim
end
section
variable {X : Cx}
theorem cr_setL (hc : X.calm = true) : CallR X (.type "set") (fun vs H Q => ∃ (l : Addr) (ns : List Int), vs = [V.ref l] ∧ SqL X.K H l (ns.map V.int) ∧ ns.length + 1 < scanBound ∧
    ∀ p c, H p = none → c ≤ ns.length → Q (.ref p) (upd H p (SetO X.w p (fun j => decide (j ∈ ns)) c))) := by
  intro pins s σ H xs us Q I r h
  obtain ⟨l, ns, rfl, hl, room, q⟩ := h
  rw [Vals.ref1 r]
  obtain ⟨its, rv, pl, hz⟩ := I.list hl
  refine set_of_list ns (I.ok.hd hc) pl.isList (by simpa using ints_of_vals rv) room fun g t c R hc' k => ?_
  have hn : H s.heap.objs.size = none := I.hok.fresh (Nat.le_refl _)
  exact ⟨.ref _, _, I.laid (a := s.heap.objs.size) (t' := t) k (Nat.le_refl _) (setO_new R), rfl, q _ c hn hc'⟩
end
end Vx
namespace Vx
open PySem PySem.Spec PyProof.Rows L2
/-! ### ascending lists -/
theorem asc_eq : ∀ {l m : List Int}, l.Pairwise (· < ·) → m.Pairwise (· < ·) → (∀ k, k ∈ l ↔ k ∈ m) → l = m
  | [], [], _, _, _ => rfl
  | [], y :: m, _, _, h => absurd ((h y).mpr List.mem_cons_self) (by simp)
  | x :: l, [], _, _, h => absurd ((h x).mp List.mem_cons_self) (by simp)
  | x :: l, y :: m, hl, hm, h => by
    obtain ⟨h1, h2⟩ := List.pairwise_cons.mp hl
    obtain ⟨h3, h4⟩ := List.pairwise_cons.mp hm
    have e : x = y := by
      rcases List.mem_cons.mp ((h x).mp List.mem_cons_self) with e | e
      · exact e
      · rcases List.mem_cons.mp ((h y).mpr List.mem_cons_self) with e2 | e2
        · exact e2.symm
        · have a := h3 _ e
          have b := h1 _ e2
          omega
    subst e
    rw [asc_eq h2 h4 fun k => ?_]
    have q := h k
    constructor
    · intro hk
      rcases List.mem_cons.mp (q.mp (List.mem_cons_of_mem _ hk)) with e | e
      · exact absurd (h1 _ hk) (by omega)
      · exact e
    · intro hk
      rcases List.mem_cons.mp (q.mpr (List.mem_cons_of_mem _ hk)) with e | e
      · exact absurd (h3 _ hk) (by omega)
      · exact e
/-! ### data -/
theorem eqvAll_ints : ∀ (l m : List Int), PyData.eqvAll (l.map PyData.int) (m.map PyData.int) = decide (l = m)
  | [], [] => by simp [PyData.eqvAll]
  | [], y :: m => by simp [PyData.eqvAll]
  | x :: l, [] => by simp [PyData.eqvAll]
  | x :: l, y :: m => by
    show (PyData.eqv (.int x) (.int y) && PyData.eqvAll (l.map PyData.int) (m.map PyData.int)) = _
    rw [eqvAll_ints l m]
    show ((x == y) && decide (l = m)) = _
    by_cases e : x = y <;> by_cases e2 : l = m <;> simp [e, e2]
theorem eqv_tupI (l m : List Int) : PyData.eqv (.tuple (l.map PyData.int)) (.tuple (m.map PyData.int)) = decide (l = m) := eqvAll_ints l m
theorem eqv_lstI (l m : List Int) : PyData.eqv (.list (l.map PyData.int)) (.list (m.map PyData.int)) = decide (l = m) := eqvAll_ints l m
theorem dpAll_ints {K : PySem.W.Frag} {H : Hp} : ∀ l : List Int, DpAll K H (l.map V.int) (l.map PyData.int)
  | [] => .nil
  | x :: l => .cons (.int x) (dpAll_ints l)
theorem dp_tupI {K : PySem.W.Frag} {H : Hp} {a : Addr} {l : List Int} (h : SqT K H a (l.map V.int)) : Dp K H (.ref a) (.tuple (l.map PyData.int)) := .tup h (dpAll_ints l)
theorem dp_lstI {K : PySem.W.Frag} {H : Hp} {a : Addr} {l : List Int} (h : SqL K H a (l.map V.int)) : Dp K H (.ref a) (.list (l.map PyData.int)) := .lst h (dpAll_ints l)
theorem inV_ints (x : Int) : ∀ l : List Int, inV (.int x) (l.map V.int) = decide (x ∈ l)
  | [] => by simp [inV]
  | y :: l => by
    have ih := inV_ints x l
    unfold inV at ih ⊢
    rw [List.map_cons, List.any_cons, ih]
    show ((y == x) || decide (x ∈ l)) = _
    by_cases e : y = x
    · simp [e]
    · have e' : ¬ x = y := fun z => e z.symm
      simp [e, e']
theorem flat_ints (l : List Int) : (l.map V.int).all flatV = true := by
  rw [List.all_map]
  exact List.all_eq_true.mpr fun _ _ => rfl
end Vx
namespace Vx
open PySem PySem.Spec PyProof.Rows L2
theorem canAll_ints : ∀ l : List Int, PyData.canLayAll0 (l.map PyData.int) = true
  | [] => by simp [PyData.canLayAll0]
  | x :: l => by
    rw [List.map_cons]
    simp [PyData.canLayAll0, PyData.canLay0, canAll_ints l]
theorem depAll_ints : ∀ l : List Int, PyData.depthAll (l.map PyData.int) = 0
  | [] => by simp [PyData.depthAll]
  | x :: l => by
    rw [List.map_cons]
    simp [PyData.depthAll, PyData.depth, depAll_ints l]
theorem shaped_tupI (l : List Int) : SeqAt.shaped (.tuple (l.map PyData.int)) = true := by
  unfold SeqAt.shaped
  simp [PyData.canLay0, PyData.depth, canAll_ints, depAll_ints]
theorem shaped_lstI (l : List Int) : SeqAt.shaped (.list (l.map PyData.int)) = true := by
  unfold SeqAt.shaped
  simp [PyData.canLay0, PyData.depth, canAll_ints, depAll_ints]
theorem tyesT {σ : L2.St} {H : Hp} {A B : Hp → Prop} (h : A H) : tYes σ H (fun b H3 => if b = true then A H3 else B H3) := h
theorem item_ints {xs : List Int} {i : Nat} {x : V} (h : (xs.map V.int)[i]? = some x) : ∃ z, x = .int z ∧ xs[i]? = some z ∧ z ∈ xs := by
  rw [List.getElem?_map] at h
  cases e : xs[i]? with
  | none => rw [e] at h; cases h
  | some z =>
    rw [e] at h
    exact ⟨z, (Option.some.inj h).symm, rfl, List.mem_of_getElem? e⟩
theorem at_ints {xs : List Int} {k : Int} (h0 : 0 ≤ k) (h1 : k < (xs.length : Int)) : ∃ z, z ∈ xs ∧ atI (xs.map V.int) k = some (.int z) := by
  have hj : k.toNat < xs.length := by omega
  refine ⟨xs[k.toNat], List.getElem_mem hj, ?_⟩
  refine at_of (j := k.toNat) (by omega) ?_
  rw [List.getElem?_map, List.getElem?_eq_getElem hj]
  rfl
theorem mem_ins {ys : List Int} {j : Nat} {y k : Int} (hy : y ∈ ys) : k ∈ ys.take j ++ [y] ++ ys.drop j ↔ k ∈ ys := by
  have e : k ∈ ys ↔ k ∈ ys.take j ∨ k ∈ ys.drop j := by rw [← List.mem_append, List.take_append_drop]
  rw [List.mem_append, List.mem_append, List.mem_singleton, e]
  constructor
  · rintro ((h | h) | h)
    · exact .inl h
    · subst h
      exact e.mp hy
    · exact .inr h
  · rintro (h | h)
    · exact .inl (.inl h)
    · exact .inr h
theorem madeS {C : Addr} {H : Hp} {x dx : Addr} (nx : H x = none) (nd : H dx = none) : Same H (upd (upd H dx (.own x)) x (.ins C dx [])) := fun b o e => by
  rw [upd_ne (ne_of_none e nx), upd_ne (ne_of_none e nd)]
  exact e
theorem pe_gcx {X : Cx} {x : Str} {pos : Pos} {v : V} (hg : Gl X x) (h : ∃ u, X.mg x = some u ∧ RelV v u) (hd : (x == ("__debug__" : Str)) = false := by decide +kernel) : PE X (.Name x pos) (tC v) := by
  obtain ⟨u, h, r⟩ := h
  exact pe_glob hg h r hd
theorem call_intB {X : Cx} : CallR X (.type "int") (fun xs H Q => ∃ k, xs = [.bl k] ∧ Q (.int (if k = true then 1 else 0)) H) := fun pins s σ H xs us Q I r h => call_int1 pins s σ H xs us Q I r (.inr h)
theorem cut_lo_len (z : Str) {k : Int} (h : 0 ≤ k) : (cutS z none (some k)).length ≤ k.toNat := by
  show (List.toArray _).size ≤ _
  rw [List.size_toArray, List.length_take]
  show min (HT.sIx z.length z.length (some k) - 0) _ ≤ _
  have e : HT.sIx z.length z.length (some k) = min k.toNat z.length := by
    show (if k < 0 then (k + (z.length : Int)).toNat else min k.toNat z.length) = _
    rw [if_neg (by omega)]
  omega
theorem cut_hi_len (z : Str) {k : Int} (h : 0 ≤ k) : (cutS z (some k) none).length ≤ z.length - k.toNat := by
  show (List.toArray _).size ≤ _
  have e : HT.sIx z.length 0 (some k) = min k.toNat z.length := by
    show (if k < 0 then (k + (z.length : Int)).toNat else min k.toNat z.length) = _
    rw [if_neg (by omega)]
  rw [List.size_toArray, List.length_take, List.length_drop, e]
  show min (z.length - min k.toNat z.length) (z.cps.toList.length - min k.toNat z.length) ≤ _
  have : z.cps.toList.length = z.length := Array.length_toList
  omega
end Vx
namespace Vx
open PySem PySem.Spec PyProof.Rows L2
/-! ### pairs and lists of them -/
abbrev Pr := Int × Int
def pr (l : List Int) : Pr := (l.getD 0 0, l.getD 1 0)
def Cells (H : Hp) (l : Addr) (ps : List Pr) : Prop :=
  ∃ ts : List (Addr × Pr), H l = some (.lst (ts.map fun t => V.ref t.1)) ∧ (∀ t ∈ ts, H t.1 = some (.tup [.int t.2.1, .int t.2.2])) ∧ ts.map (·.2) = ps
theorem Cells.up {H H' : Hp} {l : Addr} {ps : List Pr} (e : Same H H') (h : Cells H l ps) : Cells H' l ps := by
  obtain ⟨ts, h1, h2, h3⟩ := h
  exact ⟨ts, e _ _ h1, fun t m => e _ _ (h2 t m), h3⟩
def SetP (P : Program) (w : World) (H : Hp) (a : Addr) (ps : List Pr) : Prop :=
  ∃ L : List (Addr × List Int), H a = some (SetTO P w a L) ∧ (∀ q ∈ L, q.2.length = 2 ∧ H q.1 = some (.tup (q.2.map V.int))) ∧ ∀ x, x ∈ L.map (fun q => pr q.2) ↔ x ∈ ps
abbrev ltP (p q : Pr) : Prop := SrtO.lexB p q = true
theorem pr_inj : ∀ {l m : List Int}, l.length = 2 → m.length = 2 → pr l = pr m → l = m
  | [a, b], [c, d], _, _, h => by
    have h1 : a = c := congrArg Prod.fst h
    have h2 : b = d := congrArg Prod.snd h
    rw [h1, h2]
theorem len2 : ∀ {l : List Int}, l.length = 2 → l = [(pr l).1, (pr l).2]
  | [a, b], _ => rfl
section
variable {P : Program} {w : World} {A : Around} {E : Value → Shared → Prop} {s : Shared}
def adr : Value → Addr
  | .ref a => a
  | _ => 0
/-- the set's members, sorted -/
theorem sorted_pairs {a : Addr} {L : List (Addr × List Int)} {es : Array (Int × Value)} {ep : Nat} {t : SetTable} {Q : Value → Shared → Prop} (R : SetTR P w s.heap a L es ep t) (hh : A.handled = none) (h2 : ∀ q ∈ L, q.2.length = 2)
    (hQ : ∀ s' p (ts : List (Addr × Pr)) (c : Nat), (∀ b o, s.heap.get? b = some o → s'.heap.get? b = some o) → s'.gens = s.gens → s'.os = s.os → s.heap.objs.size ≤ p →
      s'.heap.get? p = some (seqObj "list" (ts.map fun q => Value.ref q.1).toArray c) → (∀ q ∈ ts, ∃ r ∈ L, r.1 = q.1 ∧ pr r.2 = q.2) → (∀ x, x ∈ ts.map (·.2) ↔ x ∈ L.map fun q => pr q.2) → (ts.map (·.2)).Pairwise ltP → ts.length = L.length → Q (.ref p) s') :
    wpAny (model P w) A (call (.builtin "sorted") [.ref a]) Q E s := by
  have few := R.few
  obtain ⟨o, go, xo, dat⟩ := R.ob
  refine Calls.call_function_entry kind_sorted plain_sorted entry_sorted (args_sorted1 _) ?_
  unfold Builtin.«sorted»
  refine wpAny_bind (m := checkCount "sorted" 1 1 _) (wpAny_pure ?_)
  refine wpAny_bind (collect_set (A := A.in1) hh ⟨o, go, xo.1, dat⟩ R.fits (by rw [R.size]; unfold scanBound; omega) R.tab.ris R.led fun s1 vs keep sz gg oo pm => ?_)
  have em : es.toList.map (·.2) = L.map fun q => Value.ref q.1 := by
    rw [R.rows]
    show (L.map fun q => (thash P w q.2, Value.ref q.1)).map (·.2) = _
    rw [List.map_map] <;> rfl
  rw [em] at pm
  have vl : vs.length = L.length := by rw [pm.length_eq, List.length_map]
  have lim : vs.length ≤ sizeLine := by
    rw [sizeLine_eq]
    omega
  refine wpAny_bind (wpAny_newList ?_ lim)
  have gl : (s1.heap.push (seqObj "list" vs.toArray 0)).get? s1.heap.objs.size = some (seqObj "list" vs.toArray 0) := Heap.get?_push_size _ rfl
  generalize hh1 : s1.heap.push (seqObj "list" vs.toArray 0) = h1 at gl
  have keep1 : ∀ b u, s1.heap.get? b = some u → h1.get? b = some u := fun b u e => by
    rw [← hh1]
    exact Heap.get?_push_of_some _ e
  have tin : ∀ q ∈ L, TS.TupInts h1 (.ref q.1) q.2 := fun q m => tupInts_of (P := P) (w := w) (isT_keep (R.tup q m) fun b u e => keep1 b u (keep b u e))
  have mem : ∀ v ∈ vs, ∃ q ∈ L, v = Value.ref q.1 := fun v m => by
    obtain ⟨q, m1, e⟩ := List.mem_map.mp (pm.mem_iff.mp m)
    exact ⟨q, m1, e.symm⟩
  have key : ∀ q ∈ L, pr (TS.intsOf h1 (.ref q.1)) = pr q.2 := fun q m => by rw [(tin q m).ints]
  have isP : ∀ v ∈ vs, Srt.IsPair h1 v (pr (TS.intsOf h1 v)).1 (pr (TS.intsOf h1 v)).2 := fun v m => by
    obtain ⟨q, m1, rfl⟩ := mem v m
    rw [key q m1]
    have i := tin q m1
    have l2 := len2 (h2 q m1)
    rw [l2] at i
    obtain ⟨b, items, eb, ⟨o1, go1, co1, n1, do1⟩, ia⟩ := i
    cases eb
    obtain ⟨xs⟩ := items
    cases ia with
    | cons _ t1 ia =>
      cases ia with
      | cons _ t2 ia =>
        cases ia
        exact ⟨_, o1, t1, t2, n1, rfl, go1, co1, do1⟩
  refine wpAny_bind (wpAny_holding (wpAny_call_entry (s := { s1 with heap := h1 }) slot_list_sort ⟨_, gl, rfl⟩ entry_list_sort (SrtO.list_sort_ord (s := { s1 with heap := h1 }) (SrtO.swo_lex fun v => pr (TS.intsOf h1 v)) gl lim (fun two => SrtO.pairs_sortableO (by omega) isP fun o1 e => ?_) fun out srt stb => ⟨_, rfl, ?_⟩) (args_list_sort _)))
  · have e' : some o1 = some (seqObj "list" vs.toArray 0) := e.symm.trans gl
    cases e'
    intro c
    exact absurd (Value.type.inj c) (by decide)
  · obtain ⟨c, gc⟩ := sortedHeap_at (vs := vs) (out := out.toArray) gl
    have omem : ∀ v ∈ out, ∃ q ∈ L, v = Value.ref q.1 := fun v m => mem v (stb.perm.mem_iff.mp m)
    refine wpAny_pure ⟨_, rfl, hQ _ s1.heap.objs.size (out.map fun v => (adr v, pr (TS.intsOf h1 v))) c (fun b u e => ?_) gg oo sz ?_ ?_ ?_ ?_ ?_⟩
    · have g1 := keep b u e
      have lt1 := Heap.lt_size g1
      show (sortedHeap h1 s1.heap.objs.size vs out.toArray).get? b = some u
      rw [sortedHeap_old (Nat.ne_of_lt lt1) (Heap.lt_size (keep1 b u g1))]
      exact keep1 b u g1
    · have eo : (out.map fun v => (adr v, pr (TS.intsOf h1 v))).map (fun q => Value.ref q.1) = out := by
        rw [List.map_map]
        refine (List.map_congr_left fun v m => ?_).trans (List.map_id _)
        obtain ⟨q, _, rfl⟩ := omem v m
        rfl
      rw [eo]
      exact gc
    · intro q m
      obtain ⟨v, m1, rfl⟩ := List.mem_map.mp m
      obtain ⟨r, mr, rfl⟩ := omem v m1
      exact ⟨r, mr, rfl, (key r mr).symm⟩
    · intro x
      rw [List.map_map]
      constructor
      · intro m
        obtain ⟨v, m1, rfl⟩ := List.mem_map.mp m
        obtain ⟨r, mr, rfl⟩ := omem v m1
        exact List.mem_map.mpr ⟨r, mr, (key r mr).symm⟩
      · intro m
        obtain ⟨r, mr, rfl⟩ := List.mem_map.mp m
        exact List.mem_map.mpr ⟨.ref r.1, stb.perm.mem_iff.mpr (pm.mem_iff.mpr (List.mem_map.mpr ⟨r, mr, rfl⟩)), key r mr⟩
    · rw [List.map_map]
      have nd : ((L.map fun q => Value.ref q.1).map fun v => pr (TS.intsOf h1 v)).Nodup := by
        rw [List.map_map]
        refine List.pairwise_map.mpr ((List.pairwise_map.mp R.nd).imp_of_mem fun {q r} mq mr ne e => ne ?_)
        refine pr_inj (h2 q mq) (h2 r mr) ?_
        rw [← key q mq, ← key r mr]
        exact e
      have nd2 : (out.map fun v => pr (TS.intsOf h1 v)).Nodup := ((stb.perm.trans pm).map _).nodup_iff.mpr nd
      refine List.pairwise_map.mpr ((srt.and (List.pairwise_map.mp nd2)).imp fun {u v} h => ?_)
      have a1 := SrtO.lexB_no.mp h.1
      refine SrtO.lexB_iff.mpr ?_
      have a2 : ¬ ((pr (TS.intsOf h1 u)).1 = (pr (TS.intsOf h1 v)).1 ∧ (pr (TS.intsOf h1 u)).2 = (pr (TS.intsOf h1 v)).2) := fun e => h.2 (Prod.ext e.1 e.2)
      show (pr (TS.intsOf h1 u)).1 < (pr (TS.intsOf h1 v)).1 ∨ (pr (TS.intsOf h1 u)).1 = (pr (TS.intsOf h1 v)).1 ∧ (pr (TS.intsOf h1 u)).2 < (pr (TS.intsOf h1 v)).2
      omega
    · rw [List.length_map, stb.perm.length_eq, vl]
end
section
variable {X : Cx}
theorem cr_setP (hc : X.calm = true) (hu : X.A.units + 64 < cLine) : CallR X (.type "set") (fun xs H Q => ∃ l ps, xs = [V.ref l] ∧ Cells H l ps ∧ ps.length < 64 ∧
    ∀ a H', Same H H' → H a = none → SetP X.prog X.w H' a ps → Q (.ref a) H') := by
  intro pins s σ H xs us Q I r h
  obtain ⟨l, ps, rfl, ⟨ts, hl, ht, rfl⟩, few, q⟩ := h
  rw [List.length_map] at few
  refine cr_setOfT hc hu pins s σ H [V.ref l] us Q I r ⟨l, ts.map fun t => (t.1, [t.2.1, t.2.2]), rfl, ?_, ?_, by rw [List.length_map]; exact few, fun a L n sub all => ?_⟩
  · rw [List.map_map]
    exact lst_of hl
  · intro p m
    obtain ⟨t, m1, rfl⟩ := List.mem_map.mp m
    exact tup_of (ht t m1)
  · refine q a _ (newS n) n ⟨L, upd_same, fun p m => ?_, fun x => ⟨fun m => ?_, fun m => ?_⟩⟩
    · obtain ⟨t, m1, rfl⟩ := List.mem_map.mp (sub p m)
      exact ⟨rfl, newS n _ _ (ht t m1)⟩
    · obtain ⟨p, m1, rfl⟩ := List.mem_map.mp m
      obtain ⟨t, m2, rfl⟩ := List.mem_map.mp (sub p m1)
      exact List.mem_map.mpr ⟨t, m2, rfl⟩
    · obtain ⟨t, m1, rfl⟩ := List.mem_map.mp m
      obtain ⟨p, m2, e⟩ := List.mem_map.mp (all _ (List.mem_map.mpr ⟨t, m1, rfl⟩))
      refine List.mem_map.mpr ⟨p, m2, ?_⟩
      rw [e]
      rfl
theorem cr_sortedP (hc : X.calm = true) : CallR X (.builtin "sorted") (fun xs H Q => ∃ a ps, xs = [V.ref a] ∧ SetP X.prog X.w H a ps ∧
    ∀ p H' qs, Same H H' → H p = none → Cells H' p qs → qs.Pairwise ltP → (∀ x, x ∈ qs ↔ x ∈ ps) → qs.length < 64 → Q (.ref p) H') := by
  intro pins s σ H vs us Q I r h
  obtain ⟨a, ps, rfl, ⟨L, ha, hL, mem⟩, q⟩ := h
  have R0 : SetT0 X.prog X.w s.heap a L := (I.hok a _ ha).1
  obtain ⟨es, ep, t, R⟩ := R0.full fun p hp => I.isT (tup_of (hL p hp).2)
  rw [Vals.ref1 r]
  refine sorted_pairs R (I.ok.hd hc) (fun q m => (hL q m).1) fun s' p ts c k g o hp hg own all pw le => ?_
  have few := R.few
  have lim : (ts.map fun q => V.ref q.1).length ≤ sizeLine := by
    rw [List.length_map, sizeLine_eq]
    omega
  have n : H p = none := I.hok.fresh hp
  have vals : ∀ ts : List (Addr × Pr), Vals (ts.map fun q => V.ref q.1) (ts.map fun q => Value.ref q.1) := fun ts => by
    induction ts with
    | nil => exact .nil
    | cons t ts ih => exact .cons rfl ih
  have J : Inv X pins σ (upd H p (.lst (ts.map fun q => V.ref q.1))) { s with heap := s'.heap, gens := s'.gens, drawn := s'.drawn, toks := s'.toks } :=
    I.call (ch := []) (Un.laid k hp n) (I.hok.laid k hp ⟨lim, _, c, vals ts, hg⟩) (by rw [g]; exact I.bare) (fun _ z => nomatch z)
  have e : s' = { s with heap := s'.heap, gens := s'.gens, drawn := s'.drawn, toks := s'.toks } := by
    obtain ⟨_, _, _, _, _⟩ := s'
    obtain ⟨_, _, _, _, _⟩ := s
    cases o
    rfl
  rw [e]
  have sm : Same H (upd H p (.lst (ts.map fun q => V.ref q.1))) := newS n
  refine ⟨.ref p, _, J, rfl, q p _ (ts.map (·.2)) sm n ⟨ts, upd_same, fun t m => ?_, rfl⟩ pw (fun x => (all x).trans (mem x)) (by rw [List.length_map, le]; exact few)⟩
  obtain ⟨r, mr, e1, e2⟩ := own t m
  have z := sm _ _ (hL r mr).2
  rw [len2 (hL r mr).1, e1, e2] at z
  exact z
end
section
variable {X : Cx}
theorem pg_tupK {K : PySem.W.Frag} {es : List Expr} {k : Nat} {t : TGs} {n : Nat} {pos : Pos} (hK : X.K = K) (hc : X.calm = true) (h : PGs X es t)
    (hn : (assignEach es X.env).length = n := by rfl) (hst : (assignEach es X.env).findIdx? (·.1) = none := by rfl) : PG X (.Tuple es k pos) (gTup K n t) := by
  subst hK
  exact pg_tup hc h hn hst
theorem ix_tupK {K : PySem.W.Frag} (hK : X.K = K) : IxR X (rIxT K) := by
  subst hK
  exact ix_tup
end
/-! ### comprehensions over such a list -/
theorem item_cells {H : Hp} {ts : List (Addr × Pr)} {ps : List Pr} {i : Nat} {x : V} (h : (ts.map fun t => V.ref t.1)[i]? = some x) (e : ts.map (·.2) = ps) :
    ∃ t ∈ ts, x = .ref t.1 ∧ ps[i]? = some t.2 := by
  rw [List.getElem?_map] at h
  cases q : ts[i]? with
  | none => rw [q] at h; cases h
  | some t =>
    rw [q] at h
    refine ⟨t, List.mem_of_getElem? q, (Option.some.inj h).symm, ?_⟩
    rw [← e, List.getElem?_map, q]
    rfl
theorem lc_cells {K : PySem.W.Frag} {l : Addr} {ps : List Pr} {g : TG} {tt : TT} {te : TE} {vs : List Nat} {σ : L2.St} {H1 : Hp} {D : Addr} {Qd : Hp → Prop} (f : Pr → Pr) (hC : Cells H1 l ps) (nD : H1 D = none) (few : ps.length < sizeLine)
    (hs : ∀ (t : Addr) (x : Pr) (H' : Hp) (Po : V → Hp → Prop) (Pn : Hp → Prop), Same H1 H' → H' t = some (.tup [.int x.1, .int x.2]) → (∀ t2, H' t2 = none → Po (.ref t2) (upd H' t2 (.tup [.int (f x).1, .int (f x).2]))) →
      g (.ref t) (wipe σ vs) H' fun σ2 H2 => wipe σ2 vs = wipe σ vs ∧ tt σ2 H2 fun b H3 => if b = true then te σ2 H3 Po else Pn H3)
    (hd : ∀ H', Same H1 H' → Cells H' D (ps.map f) → Qd H') :
    ∃ W : Nat → Nat → Hp → Prop, (∃ m, W 0 m (upd H1 D (.lst []))) ∧ ∀ i m H, W i m H →
      ((Itl K l).stop i H ∧ Qd H) ∨ ((Itl K l).go i H ∧ ∃ Nx : Hp → Prop, (∀ H', Nx H' → ∃ m', m' < m ∧ W (i + 1) m' H') ∧ ∀ x H', (Itl K l).yld i H x H' → g x (wipe σ vs) H' fun σ2 H2 => wipe σ2 vs = wipe σ vs ∧ tt σ2 H2 fun b H3 =>
        if b = true then te σ2 H3 fun y H4 => ∃ acc, H4 D = some (.lst acc) ∧ acc.length < sizeLine ∧ Nx (upd H4 D (.lst (acc ++ [y]))) else Nx H3) := by
  obtain ⟨ts, hl, ht, rfl⟩ := hC
  rw [List.length_map] at few
  refine lc_list (K := K) (a := l) (xs := ts.map fun t => V.ref t.1) (fun i H' => Same H1 H' ∧ ∃ us : List (Addr × Pr), H' D = some (.lst (us.map fun t => V.ref t.1)) ∧ (∀ t ∈ us, H' t.1 = some (.tup [.int t.2.1, .int t.2.2])) ∧ us.map (·.2) = ((ts.map (·.2)).take i).map f)
    ⟨newS nD, [], upd_same, fun _ m => (by cases m), rfl⟩ (fun i H' _ p => lst_of (p.1 _ _ hl)) ?_ ?_
  · rintro i x H' hi ⟨sm, us, h1, h2, h3⟩
    obtain ⟨t, mt, rfl, hp⟩ := item_cells (H := H') hi rfl
    have ul : us.length = i := by
      have z := congrArg List.length h3
      rw [List.length_map, List.length_map, List.length_take, List.length_map] at z
      have := (List.getElem?_eq_some_iff.mp hi).1
      rw [List.length_map] at this
      omega
    refine hs t.1 t.2 H' _ _ sm (sm _ _ (ht t mt)) fun t2 n2 => ⟨us.map fun t => V.ref t.1, ?_, ?_, ?_, us ++ [(t2, f t.2)], ?_, ?_, ?_⟩
    · exact newS n2 _ _ h1
    · rw [List.length_map, ul]
      have := (List.getElem?_eq_some_iff.mp hi).1
      rw [List.length_map] at this
      omega
    · exact mutS (sm.trans (newS n2)) nD
    · rw [upd_same, List.map_append]
      rfl
    · have nD2 : t2 ≠ D := fun e => by
        rw [e, h1] at n2
        cases n2
      intro u m
      rcases List.mem_append.mp m with m | m
      · have z := h2 u m
        rw [upd_ne (fun e => ?_)]
        · exact newS n2 _ _ z
        · rw [e, h1] at z
          cases z
      · rw [List.mem_singleton.mp m, upd_ne nD2, upd_same]
    · rw [List.map_append, h3, take_next hp, List.map_append]
      rfl
  · rintro H' ⟨sm, us, h1, h2, h3⟩
    refine hd H' sm ⟨us, h1, h2, ?_⟩
    rw [h3, List.length_map, List.take_of_length_le (by rw [List.length_map]; exact Nat.le_refl _)]
theorem lc_nums {K : PySem.W.Frag} {l : Addr} {ps : List Pr} {g : TG} {tt : TT} {te : TE} {vs : List Nat} {σ : L2.St} {H1 : Hp} {D : Addr} {Qd : Hp → Prop} (f : Pr → Int) (hC : Cells H1 l ps) (nD : H1 D = none) (few : ps.length < sizeLine)
    (hs : ∀ (t : Addr) (x : Pr) (H' : Hp) (Po : V → Hp → Prop) (Pn : Hp → Prop), Same H1 H' → H' t = some (.tup [.int x.1, .int x.2]) → Po (.int (f x)) H' →
      g (.ref t) (wipe σ vs) H' fun σ2 H2 => wipe σ2 vs = wipe σ vs ∧ tt σ2 H2 fun b H3 => if b = true then te σ2 H3 Po else Pn H3)
    (hd : ∀ H', Same H1 H' → H' D = some (.lst ((ps.map f).map V.int)) → Qd H') :
    ∃ W : Nat → Nat → Hp → Prop, (∃ m, W 0 m (upd H1 D (.lst []))) ∧ ∀ i m H, W i m H →
      ((Itl K l).stop i H ∧ Qd H) ∨ ((Itl K l).go i H ∧ ∃ Nx : Hp → Prop, (∀ H', Nx H' → ∃ m', m' < m ∧ W (i + 1) m' H') ∧ ∀ x H', (Itl K l).yld i H x H' → g x (wipe σ vs) H' fun σ2 H2 => wipe σ2 vs = wipe σ vs ∧ tt σ2 H2 fun b H3 =>
        if b = true then te σ2 H3 fun y H4 => ∃ acc, H4 D = some (.lst acc) ∧ acc.length < sizeLine ∧ Nx (upd H4 D (.lst (acc ++ [y]))) else Nx H3) := by
  obtain ⟨ts, hl, ht, rfl⟩ := hC
  rw [List.length_map] at few
  refine lc_list (K := K) (a := l) (xs := ts.map fun t => V.ref t.1) (fun i H' => Same H1 H' ∧ H' D = some (.lst ((((ts.map (·.2)).take i).map f).map V.int)))
    ⟨newS nD, upd_same⟩ (fun i H' _ p => lst_of (p.1 _ _ hl)) ?_ ?_
  · rintro i x H' hi ⟨sm, h1⟩
    obtain ⟨t, mt, rfl, hp⟩ := item_cells (H := H') hi rfl
    refine hs t.1 t.2 H' _ _ sm (sm _ _ (ht t mt)) ⟨_, h1, ?_, mutS sm nD, ?_⟩
    · rw [List.length_map, List.length_map, List.length_take, List.length_map]
      omega
    · rw [upd_same, take_next hp, List.map_append, List.map_append]
      rfl
  · rintro H' ⟨sm, h1⟩
    rw [List.length_map, List.take_of_length_le (by rw [List.length_map]; exact Nat.le_refl _)] at h1
    exact hd H' sm h1
/-! ### one such list -/
def CanP (ps qs : List Pr) : Prop := qs.Pairwise ltP ∧ ∀ x, x ∈ qs ↔ x ∈ ps
theorem ltP_iff {p q : Pr} : ltP p q ↔ p.1 < q.1 ∨ (p.1 = q.1 ∧ p.2 < q.2) := SrtO.lexB_iff
theorem ascP_eq : ∀ {l m : List Pr}, l.Pairwise ltP → m.Pairwise ltP → (∀ k, k ∈ l ↔ k ∈ m) → l = m
  | [], [], _, _, _ => rfl
  | [], y :: m, _, _, h => absurd ((h y).mpr List.mem_cons_self) (by simp)
  | x :: l, [], _, _, h => absurd ((h x).mp List.mem_cons_self) (by simp)
  | x :: l, y :: m, hl, hm, h => by
    obtain ⟨h1, h2⟩ := List.pairwise_cons.mp hl
    obtain ⟨h3, h4⟩ := List.pairwise_cons.mp hm
    have irr : ∀ a b : Pr, ltP a b → ltP b a → False := fun a b p q => by
      have p := ltP_iff.mp p
      have q := ltP_iff.mp q
      omega
    have e : x = y := by
      rcases List.mem_cons.mp ((h x).mp List.mem_cons_self) with e | e
      · exact e
      · rcases List.mem_cons.mp ((h y).mpr List.mem_cons_self) with e2 | e2
        · exact e2.symm
        · exact (irr _ _ (h3 _ e) (h1 _ e2)).elim
    subst e
    rw [ascP_eq h2 h4 fun k => ?_]
    have q := h k
    constructor
    · intro hk
      rcases List.mem_cons.mp (q.mp (List.mem_cons_of_mem _ hk)) with e | e
      · have z := h1 _ hk
        rw [e] at z
        exact (irr _ _ z z).elim
      · exact e
    · intro hk
      rcases List.mem_cons.mp (q.mpr (List.mem_cons_of_mem _ hk)) with e | e
      · have z := h3 _ hk
        rw [e] at z
        exact (irr _ _ z z).elim
      · exact e
theorem canP_eq {ps qs m : List Pr} (h : CanP ps qs) (h2 : m.Pairwise ltP) (h3 : ∀ k, k ∈ ps ↔ k ∈ m) : qs = m := ascP_eq h.1 h2 fun k => (h.2 k).trans (h3 k)
/-! ### as data -/
def pd (p : Pr) : PyData := .tuple [.int p.1, .int p.2]
theorem eqv_pd (p q : Pr) : PyData.eqv (pd p) (pd q) = decide (p = q) := by
  show ((p.1 == q.1) && ((p.2 == q.2) && true)) = _
  obtain ⟨a, b⟩ := p
  obtain ⟨c, d⟩ := q
  by_cases e1 : a = c <;> by_cases e2 : b = d <;> simp [e1, e2]
theorem eqvAll_pd : ∀ (l m : List Pr), PyData.eqvAll (l.map pd) (m.map pd) = decide (l = m)
  | [], [] => by simp [PyData.eqvAll]
  | [], y :: m => by simp [PyData.eqvAll]
  | x :: l, [] => by simp [PyData.eqvAll]
  | x :: l, y :: m => by
    show (PyData.eqv (pd x) (pd y) && PyData.eqvAll (l.map pd) (m.map pd)) = _
    rw [eqvAll_pd l m, eqv_pd]
    by_cases e : x = y <;> by_cases e2 : l = m <;> simp [e, e2]
theorem eqv_cells (l m : List Pr) : PyData.eqv (.list (l.map pd)) (.list (m.map pd)) = decide (l = m) := eqvAll_pd l m
theorem canAll_pd : ∀ l : List Pr, PyData.canLayAll0 (l.map pd) = true
  | [] => by simp [PyData.canLayAll0]
  | x :: l => by
    rw [List.map_cons]
    simp [PyData.canLayAll0, PyData.canLay0, pd, canAll_pd l]
theorem depAll_pd : ∀ l : List Pr, PyData.depthAll (l.map pd) ≤ 1
  | [] => by simp [PyData.depthAll]
  | x :: l => by
    rw [List.map_cons]
    have := depAll_pd l
    simp only [PyData.depthAll, PyData.depth, pd]
    omega
theorem shaped_cells (l : List Pr) : SeqAt.shaped (.list (l.map pd)) = true := by
  unfold SeqAt.shaped
  have := depAll_pd l
  simp only [PyData.canLay0, PyData.depth, canAll_pd]
  simp
  omega
theorem dp_cells {K : PySem.W.Frag} {H : Hp} {a : Addr} {ps : List Pr} (h : Cells H a ps) : Dp K H (.ref a) (.list (ps.map pd)) := by
  obtain ⟨ts, hl, ht, rfl⟩ := h
  refine .lst (lst_of hl) ?_
  have go : ∀ us : List (Addr × Pr), (∀ t ∈ us, H t.1 = some (.tup [.int t.2.1, .int t.2.2])) → DpAll K H (us.map fun t => V.ref t.1) ((us.map (·.2)).map pd) := fun us => by
    induction us with
    | nil => exact fun _ => .nil
    | cons t us ih => exact fun h => .cons (.tup (tup_of (h t List.mem_cons_self)) (.cons (.int _) (.cons (.int _) .nil))) (ih fun u m => h u (List.mem_cons_of_mem _ m))
  exact go ts ht
/-! ### sorted, of such a list -/
def kH (H : Hp) : V → Pr
  | .ref a => match H a with
    | some (.tup [.int x, .int y]) => (x, y)
    | _ => (0, 0)
  | _ => (0, 0)
def adV : V → Addr
  | .ref a => a
  | _ => 0
theorem kH_at {H : Hp} {a : Addr} {x : Pr} (h : H a = some (.tup [.int x.1, .int x.2])) : kH H (.ref a) = x := by
  show (match H a with
    | some (.tup [.int x, .int y]) => (x, y)
    | _ => (0, 0)) = x
  rw [h]
theorem ltP_irr {a b : Pr} (p : ltP a b) (q : ltP b a) : False := by
  have p := ltP_iff.mp p
  have q := ltP_iff.mp q
  omega
theorem nodup_lt {l : List Pr} (h : l.Pairwise ltP) : l.Nodup := h.imp fun {a b} q e => by
  subst e
  exact ltP_irr q q
theorem cr_sortedC {X : Cx} : CallR X (.builtin "sorted") (fun xs H Q => ∃ l ps, xs = [V.ref l] ∧ Cells H l ps ∧ ps.Nodup ∧
    ∀ p H' qs, Same H H' → H p = none → Cells H' p qs → CanP ps qs → qs.length = ps.length → Q (.ref p) H') := by
  intro pins s σ H xs us Q I r h
  obtain ⟨l, ps, rfl, ⟨ts, hl, ht, rfl⟩, nd, q⟩ := h
  refine cr_sortedPO pins s σ H [V.ref l] us Q I r ⟨l, ts.map fun t => V.ref t.1, kH H, rfl, lst_of hl, fun x m => ?_, fun ys p srt stb n => ?_⟩
  · obtain ⟨t, m1, rfl⟩ := List.mem_map.mp m
    have g := ht t m1
    refine ⟨t.1, rfl, ?_⟩
    rw [kH_at g]
    exact g
  · have own : ∀ y ∈ ys, ∃ t ∈ ts, y = V.ref t.1 := fun y m => by
      obtain ⟨t, m1, e⟩ := List.mem_map.mp (stb.perm.mem_iff.mp m)
      exact ⟨t, m1, e.symm⟩
    have key : ∀ t ∈ ts, kH H (.ref t.1) = t.2 := fun t m => kH_at (ht t m)
    have pm : (ys.map (kH H)).Perm (ts.map (·.2)) := by
      have z := stb.perm.map (kH H)
      rw [List.map_map] at z
      rw [show ts.map (·.2) = ts.map (kH H ∘ fun t => V.ref t.1) from List.map_congr_left fun t m => (key t m).symm]
      exact z
    have sm : Same H (upd H p (.lst ys)) := newS n
    have eo : (ys.map fun v => (adV v, kH H v)).map (fun t => V.ref t.1) = ys := by
      rw [List.map_map]
      refine (List.map_congr_left fun v m => ?_).trans (List.map_id _)
      obtain ⟨t, _, rfl⟩ := own v m
      rfl
    refine q p _ (ys.map (kH H)) sm n ⟨ys.map fun v => (adV v, kH H v), ?_, fun u m => ?_, ?_⟩ ⟨?_, fun x => pm.mem_iff⟩ pm.length_eq
    · rw [eo, upd_same]
    · obtain ⟨v, m1, rfl⟩ := List.mem_map.mp m
      obtain ⟨t, m2, rfl⟩ := own v m1
      refine sm _ _ ?_
      show H t.1 = _
      rw [key t m2]
      exact ht t m2
    · rw [List.map_map]
      rfl
    · have nd2 : (ys.map (kH H)).Nodup := pm.nodup_iff.mpr nd
      refine List.pairwise_map.mpr ((srt.and (List.pairwise_map.mp nd2)).imp fun {u v} h => ?_)
      have a1 := SrtO.lexB_no.mp h.1
      have a2 : ¬ ((kH H u).1 = (kH H v).1 ∧ (kH H u).2 = (kH H v).2) := fun e => h.2 (Prod.ext e.1 e.2)
      refine ltP_iff.mpr ?_
      omega
/-! ### dicts whose keys are such pairs -/
def keyP (x : Pr) : List L2.Key := [Sum.inl x.1, Sum.inl x.2]
theorem keyP_inj {x y : Pr} (h : keyP x = keyP y) : x = y := by
  injection h with h1 h2
  injection h2 with h2 _
  exact Prod.ext (Sum.inl.inj h1) (Sum.inl.inj h2)
def KeysP (kvs : List (List L2.Key × V)) (ps : List Pr) : Prop := kvs.map (·.1) = ps.map keyP ∧ ps.Nodup
theorem KeysP.put {kvs : List (List L2.Key × V)} {ps : List Pr} (h : KeysP kvs ps) (x : Pr) (v : V) :
    ∃ qs, KeysP (putK kvs (keyP x) v) qs ∧ qs.length ≤ ps.length + 1 ∧ ∀ y, y ∈ qs ↔ y ∈ ps ∨ y = x := by
  have mem : (kvs.any fun kv => decide (kv.1 = keyP x)) = true ↔ x ∈ ps := by
    rw [List.any_eq_true]
    constructor
    · rintro ⟨kv, m, e⟩
      have m2 : kv.1 ∈ ps.map keyP := by
        rw [← h.1]
        exact List.mem_map.mpr ⟨kv, m, rfl⟩
      obtain ⟨y, my, ey⟩ := List.mem_map.mp m2
      rw [← keyP_inj (ey.trans (of_decide_eq_true e))]
      exact my
    · intro m
      have m2 : keyP x ∈ kvs.map (·.1) := by
        rw [h.1]
        exact List.mem_map.mpr ⟨x, m, rfl⟩
      obtain ⟨kv, mk, e⟩ := List.mem_map.mp m2
      exact ⟨kv, mk, decide_eq_true e⟩
  by_cases c : x ∈ ps
  · refine ⟨ps, ⟨?_, h.2⟩, by omega, fun y => ⟨.inl, fun z => z.elim id fun e => e ▸ c⟩⟩
    unfold putK
    rw [if_pos (mem.mpr c), List.map_map, ← h.1]
    refine List.map_congr_left fun kv _ => ?_
    show (if kv.1 = keyP x then (kv.1, v) else kv).1 = kv.1
    by_cases e : kv.1 = keyP x
    · rw [if_pos e]
    · rw [if_neg e]
  · refine ⟨ps ++ [x], ⟨?_, ?_⟩, by rw [List.length_append]; exact Nat.le_refl _, fun y => by rw [List.mem_append, List.mem_singleton]⟩
    · unfold putK
      rw [if_neg (fun z => c (mem.mp z)), List.map_append, List.map_append, h.1]
      rfl
    · refine List.pairwise_append.mpr ⟨h.2, List.pairwise_cons.mpr ⟨fun _ m => (by cases m), List.Pairwise.nil⟩, fun a ma b mb e => ?_⟩
      rw [List.mem_singleton.mp mb] at e
      exact c (e ▸ ma)
theorem KeysP.len {kvs : List (List L2.Key × V)} {ps : List Pr} (h : KeysP kvs ps) : kvs.length = ps.length := by
  have z := congrArg List.length h.1
  rw [List.length_map, List.length_map] at z
  exact z
theorem KeysP.at {kvs : List (List L2.Key × V)} {ps : List Pr} (h : KeysP kvs ps) {i : Nat} {k : List L2.Key} {v : V} (e : kvs[i]? = some (k, v)) : ∃ x, ps[i]? = some x ∧ k.map kV = [.int x.1, .int x.2] := by
  have z := congrArg (fun l => l[i]?) h.1
  simp only [List.getElem?_map] at z
  rw [e] at z
  cases q : ps[i]? with
  | none => rw [q] at z; cases z
  | some x =>
    rw [q] at z
    refine ⟨x, rfl, ?_⟩
    have : k = keyP x := Option.some.inj z
    rw [this]
    rfl
/-- the keys of such a dict, listed -/
theorem lc_keysP {d : Addr} {od : Obj} {kvs : List (List L2.Key × V)} {ps : List Pr} {vs : List Nat} {σ : L2.St} {H1 : Hp} {D : Addr} {Qd : Hp → Prop} {g : TG} {tt : TT} {te : TE} (hK : KeysP kvs ps) (hD : H1 d = some (.frz od (.dT kvs))) (nD : H1 D = none) (few : ps.length < sizeLine)
    (hs : ∀ (t : Addr) (x : Pr) (H' : Hp) (Po : V → Hp → Prop) (Pn : Hp → Prop), H' t = some (.tup [.int x.1, .int x.2]) → Po (.ref t) H' →
      g (.ref t) (wipe σ vs) H' fun σ2 H2 => wipe σ2 vs = wipe σ vs ∧ tt σ2 H2 fun b H3 => if b = true then te σ2 H3 Po else Pn H3)
    (hd : ∀ H', Same H1 H' → Cells H' D ps → Qd H') :
    ∃ W : Nat → Nat → Hp → Prop, (∃ m, W 0 m (upd H1 D (.lst []))) ∧ ∀ i m H, W i m H →
      ((Itkt d od kvs).stop i H ∧ Qd H) ∨ ((Itkt d od kvs).go i H ∧ ∃ Nx : Hp → Prop, (∀ H', Nx H' → ∃ m', m' < m ∧ W (i + 1) m' H') ∧ ∀ x H', (Itkt d od kvs).yld i H x H' → g x (wipe σ vs) H' fun σ2 H2 => wipe σ2 vs = wipe σ vs ∧ tt σ2 H2 fun b H3 =>
        if b = true then te σ2 H3 fun y H4 => ∃ acc, H4 D = some (.lst acc) ∧ acc.length < sizeLine ∧ Nx (upd H4 D (.lst (acc ++ [y]))) else Nx H3) := by
  have len := hK.len
  refine lc_it walk_keysT (fun i H' => Same H1 H' ∧ ∃ us : List (Addr × Pr), H' D = some (.lst (us.map fun t => V.ref t.1)) ∧ (∀ t ∈ us, H' t.1 = some (.tup [.int t.2.1, .int t.2.2])) ∧ us.map (·.2) = ps.take i)
    ⟨newS nD, [], upd_same, fun _ m => (by cases m), rfl⟩ (fun i H' _ p => p.1 _ _ hD) ?_ ?_
  · rintro i x H' H2 hi ⟨sm, us, h1, h2, h3⟩ ⟨rfl, k, v, q, e, rfl, hq⟩
    obtain ⟨y, hy, ek⟩ := hK.at e
    rw [ek] at hq
    have ul : us.length = i := by
      have z := congrArg List.length h3
      rw [List.length_map, List.length_take] at z
      omega
    refine hs q y _ _ _ hq ⟨_, h1, ?_, mutS sm nD, us ++ [(q, y)], ?_, ?_, ?_⟩
    · rw [List.length_map]
      omega
    · rw [upd_same, List.map_append]
      rfl
    · intro u m
      have off : ∀ z : Addr × Pr, H2 z.1 = some (.tup [.int z.2.1, .int z.2.2]) → upd H2 D (.lst ((us.map fun t => V.ref t.1) ++ [V.ref q])) z.1 = some (.tup [.int z.2.1, .int z.2.2]) := fun z g => by
        rw [upd_ne (fun e => ?_)]
        · exact g
        · rw [e, h1] at g
          cases g
      rcases List.mem_append.mp m with m | m
      · exact off u (h2 u m)
      · rw [List.mem_singleton.mp m]
        exact off (q, y) hq
    · rw [List.map_append, h3, take_next hy]
      rfl
  · rintro H' ⟨sm, us, h1, h2, h3⟩
    refine hd H' sm ⟨us, h1, h2, ?_⟩
    rw [h3, List.take_of_length_le (by omega)]
/-- such a list outlives a change of an object that is no tuple and not the list -/
theorem Cells.mut {H : Hp} {l d : Addr} {ps : List Pr} {o : HO} (h : Cells H l ps) (ne : l ≠ d) (nt : ∀ xs, H d ≠ some (.tup xs)) : Cells (upd H d o) l ps := by
  obtain ⟨ts, h1, h2, h3⟩ := h
  refine ⟨ts, by rw [upd_ne ne]; exact h1, fun t m => ?_, h3⟩
  rw [upd_ne (fun e => nt _ (e ▸ h2 t m))]
  exact h2 t m
theorem cells_mk {H : Hp} {l : Addr} (us : List (Addr × Pr)) (h : H l = some (.lst (us.map fun t => V.ref t.1))) (ht : ∀ u ∈ us, H u.1 = some (.tup [.int u.2.1, .int u.2.2])) : Cells H l (us.map (·.2)) := ⟨us, h, ht, rfl⟩
def cutT {α : Type} (ts : List α) (lo hi : Option Int) : List α := (ts.drop (HT.sIx ts.length 0 lo)).take (HT.sIx ts.length ts.length hi - HT.sIx ts.length 0 lo)
theorem cutV_map {α : Type} (f : α → V) (ts : List α) (lo hi : Option Int) : cutV (ts.map f) lo hi = (cutT ts lo hi).map f := by
  unfold cutV cutT
  rw [List.length_map, List.map_take, List.map_drop]
theorem cutT_mem {α : Type} {ts : List α} {lo hi : Option Int} {x : α} (h : x ∈ cutT ts lo hi) : x ∈ ts := List.mem_of_mem_drop (List.mem_of_mem_take h)
theorem cutT_len {α : Type} (ts : List α) (lo hi : Option Int) : (cutT ts lo hi).length ≤ ts.length := by
  unfold cutT
  rw [List.length_take, List.length_drop]
  omega
theorem eq_cells {l m : List Pr} (h : l = m) : V.bl (PyData.eqv (.list (l.map pd)) (.list (m.map pd))) = V.bl true := by
  rw [eqv_cells, decide_eq_true h]
theorem ne_cells {l m : List Pr} (h : l = m) : V.bl (!PyData.eqv (.list (l.map pd)) (.list (m.map pd))) = V.bl false := by
  rw [eqv_cells, decide_eq_true h] <;> rfl
theorem pw_map {f : Pr → Pr} (hf : ∀ x y, ltP x y → ltP (f x) (f y)) {l : List Pr} (h : l.Pairwise ltP) : (l.map f).Pairwise ltP := List.pairwise_map.mpr (h.imp fun {x y} q => hf x y q)
theorem nodup_map {f : Pr → Pr} (hf : ∀ x y, f x = f y → x = y) {l : List Pr} (h : l.Nodup) : (l.map f).Nodup := List.pairwise_map.mpr (h.imp fun {x y} q e => q (hf x y e))
theorem mem_map2 {f : Pr → Pr} {l m : List Pr} (h : ∀ x, x ∈ l ↔ x ∈ m) (k : Pr) : k ∈ l.map f ↔ k ∈ m.map f := by
  rw [List.mem_map, List.mem_map]
  exact ⟨fun ⟨x, m1, e⟩ => ⟨x, (h x).mp m1, e⟩, fun ⟨x, m1, e⟩ => ⟨x, (h x).mpr m1, e⟩⟩
theorem wipe2 (σ : L2.St) (i j : Nat) (a b : Option V) : wipe (((wipe σ [i, j]).set i a).set j b) [i, j] = wipe σ [i, j] := by
  refine List.ext_getElem? fun k => ?_
  show ((((((σ.set j none).set i none).set i a).set j b).set j none).set i none)[k]? = ((σ.set j none).set i none)[k]?
  simp only [List.getElem?_set, List.length_set]
  by_cases e1 : i = k <;> by_cases e2 : j = k <;> by_cases e3 : k < σ.length <;> simp [e1, e2, e3]
end Vx
namespace Vx
open PySem PySem.Spec PyProof.Rows L2
section
variable {X : Cx}
/-- xs[j], read for xs[j] op= v -/
theorem pget_list : PGet X (fun o i H Q => ∃ p xs j v, o = .ref p ∧ i = .int ((j : Nat) : Int) ∧ SqL X.K H p xs ∧ xs[j]? = some v ∧ Q v H) := by
  intro pins s σ H o i ov iv Q I ro ri h
  obtain ⟨p, xs, j, v, rfl, rfl, hs, hv, q⟩ := h
  cases ro
  obtain ⟨t, rfl⟩ := ri
  obtain ⟨its, r, pl, hz⟩ := I.list hs
  obtain ⟨w, ew, rw'⟩ := r.get hv
  exact getItem_listL pl.isList (by omega) (by have := line63; have := (List.getElem?_eq_some_iff.mp hv).1; omega) (by simpa using ew) ⟨v, H, I, rw', q⟩
theorem ip_addS : PIp X .Add (fun x y H Q => ∃ i j, x = .str i ∧ y = .str j ∧ i.length + j.length ≤ sizeLine ∧ Q (.str (i ++ j)) H) := fun pins s σ H x y v u Q I r1 r2 h => iop_add_str pins s σ H x y v u Q I r1 r2 h
end
theorem lc_pairs {lo : Int} {n : Nat} {g : TG} {tt : TT} {te : TE} {vs : List Nat} {σ : L2.St} {H1 : Hp} {D : Addr} {Qd : Hp → Prop} (f : Nat → Pr) (nD : H1 D = none) (few : n < sizeLine)
    (hs : ∀ (i : Nat) (H' : Hp) (Po : V → Hp → Prop) (Pn : Hp → Prop), i < n → Same H1 H' → (∀ t2, H' t2 = none → Po (.ref t2) (upd H' t2 (.tup [.int (f i).1, .int (f i).2]))) →
      g (.int (lo + i)) (wipe σ vs) H' fun σ2 H2 => wipe σ2 vs = wipe σ vs ∧ tt σ2 H2 fun b H3 => if b = true then te σ2 H3 Po else Pn H3)
    (hd : ∀ (H' : Hp) (us : List (Addr × Pr)), Same H1 H' → H' D = some (.lst (us.map fun t => V.ref t.1)) → (∀ t ∈ us, H' t.1 = some (.tup [.int t.2.1, .int t.2.2])) → us.map (·.2) = (List.range n).map f → Qd H') :
    ∃ W : Nat → Nat → Hp → Prop, (∃ m, W 0 m (upd H1 D (.lst []))) ∧ ∀ i m H, W i m H →
      ((Itr lo n).stop i H ∧ Qd H) ∨ ((Itr lo n).go i H ∧ ∃ Nx : Hp → Prop, (∀ H', Nx H' → ∃ m', m' < m ∧ W (i + 1) m' H') ∧ ∀ x H', (Itr lo n).yld i H x H' → g x (wipe σ vs) H' fun σ2 H2 => wipe σ2 vs = wipe σ vs ∧ tt σ2 H2 fun b H3 =>
        if b = true then te σ2 H3 fun y H4 => ∃ acc, H4 D = some (.lst acc) ∧ acc.length < sizeLine ∧ Nx (upd H4 D (.lst (acc ++ [y]))) else Nx H3) := by
  refine lc_range (lo := lo) (n := n) (fun i H' => Same H1 H' ∧ ∃ us : List (Addr × Pr), H' D = some (.lst (us.map fun t => V.ref t.1)) ∧ (∀ t ∈ us, H' t.1 = some (.tup [.int t.2.1, .int t.2.2])) ∧ us.map (·.2) = (List.range i).map f)
    ⟨newS nD, [], upd_same, fun _ m => (by cases m), rfl⟩ ?_ ?_
  · rintro i H' hi ⟨sm, us, h1, h2, h3⟩
    have ul : us.length = i := by
      have z := congrArg List.length h3
      rw [List.length_map, List.length_map, List.length_range] at z
      exact z
    refine hs i H' _ _ hi sm fun t2 n2 => ⟨us.map fun t => V.ref t.1, newS n2 _ _ h1, ?_, mutS (sm.trans (newS n2)) nD, us ++ [(t2, f i)], ?_, ?_, ?_⟩
    · rw [List.length_map, ul]
      omega
    · rw [upd_same, List.map_append]
      rfl
    · have nD2 : t2 ≠ D := fun e => by
        rw [e, h1] at n2
        cases n2
      intro u m
      rcases List.mem_append.mp m with m | m
      · have z := h2 u m
        rw [upd_ne (fun e => ?_)]
        · exact newS n2 _ _ z
        · rw [e, h1] at z
          cases z
      · rw [List.mem_singleton.mp m, upd_ne nD2, upd_same]
    · rw [List.map_append, h3, List.range_succ, List.map_append]
      rfl
  · rintro H' ⟨sm, us, h1, h2, h3⟩
    exact hd H' us sm h1 h2 h3
/-- a pair in a list of pairs -/
theorem any_pd (p : Pr) : ∀ ps : List Pr, (ps.map pd).any (fun z => PyData.eqv z (pd p)) = decide (p ∈ ps)
  | [] => by simp
  | q :: ps => by
    rw [List.map_cons, List.any_cons, any_pd p ps, eqv_pd]
    by_cases e : q = p
    · subst e
      simp
    · have e2 : ¬ p = q := fun z => e z.symm
      simp [e, e2]
theorem shaped_pd (p : Pr) : SeqAt.shaped (pd p) = true := by
  unfold SeqAt.shaped pd
  simp [PyData.canLay0, PyData.canLayAll0, PyData.depth, PyData.depthAll]
theorem op_inP {X : Cx} (hu : X.A.units + 65 < cLine) : OpR X (compareOp .In) (fun x y H Q => ∃ (t a : Addr) (p : Pr) (ps : List Pr), x = .ref t ∧ y = .ref a ∧ H t = some (.tup [.int p.1, .int p.2]) ∧ Cells H a ps ∧ Q (.bl (decide (p ∈ ps))) H) := by
  intro pins s σ H x y v u Q I rx ry h
  obtain ⟨t, a, p, ps, rfl, rfl, ht, hc, q⟩ := h
  refine op_inD hu pins s σ H _ _ v u Q I rx ry ⟨pd p, ps.map pd, .tup (tup_of ht) (.cons (.int _) (.cons (.int _) .nil)), dp_cells hc, shaped_pd p, shaped_cells ps, ?_⟩
  rw [any_pd]
  exact q
/-- sorted, of a list of pairs that may hold one several times -/
theorem cr_sortedN {X : Cx} : CallR X (.builtin "sorted") (fun xs H Q => ∃ l ps, xs = [V.ref l] ∧ Cells H l ps ∧
    ∀ p H' qs, Same H H' → H p = none → Cells H' p qs → qs.Perm ps → qs.Pairwise (fun x y => ¬ ltP y x) → Q (.ref p) H') := by
  intro pins s σ H xs us Q I r h
  obtain ⟨l, ps, rfl, ⟨ts, hl, ht, rfl⟩, q⟩ := h
  refine cr_sortedPO pins s σ H [V.ref l] us Q I r ⟨l, ts.map fun t => V.ref t.1, kH H, rfl, lst_of hl, fun x m => ?_, fun ys p srt stb n => ?_⟩
  · obtain ⟨t, m1, rfl⟩ := List.mem_map.mp m
    have g := ht t m1
    refine ⟨t.1, rfl, ?_⟩
    rw [kH_at g]
    exact g
  · have own : ∀ y ∈ ys, ∃ t ∈ ts, y = V.ref t.1 := fun y m => by
      obtain ⟨t, m1, e⟩ := List.mem_map.mp (stb.perm.mem_iff.mp m)
      exact ⟨t, m1, e.symm⟩
    have key : ∀ t ∈ ts, kH H (.ref t.1) = t.2 := fun t m => kH_at (ht t m)
    have pm : (ys.map (kH H)).Perm (ts.map (·.2)) := by
      have z := stb.perm.map (kH H)
      rw [List.map_map] at z
      rw [show ts.map (·.2) = ts.map (kH H ∘ fun t => V.ref t.1) from List.map_congr_left fun t m => (key t m).symm]
      exact z
    have sm : Same H (upd H p (.lst ys)) := newS n
    have eo : (ys.map fun v => (adV v, kH H v)).map (fun t => V.ref t.1) = ys := by
      rw [List.map_map]
      refine (List.map_congr_left fun v m => ?_).trans (List.map_id _)
      obtain ⟨t, _, rfl⟩ := own v m
      rfl
    refine q p _ (ys.map (kH H)) sm n ⟨ys.map fun v => (adV v, kH H v), ?_, fun u m => ?_, ?_⟩ pm ?_
    · rw [eo, upd_same]
    · obtain ⟨v, m1, rfl⟩ := List.mem_map.mp m
      obtain ⟨t, m2, rfl⟩ := own v m1
      refine sm _ _ ?_
      show H t.1 = _
      rw [key t m2]
      exact ht t m2
    · rw [List.map_map]
      rfl
    · refine List.pairwise_map.mpr (srt.imp fun {u v} h z => ?_)
      have h : SrtO.lexB (kH H v) (kH H u) = false := h
      have z : SrtO.lexB (kH H v) (kH H u) = true := z
      rw [h] at z
      cases z
end Vx
namespace My
open PySem PySem.Spec PyProof.Rows L2 Vx
def topS (i : Nat) : Stmt := PySem.Challenge.pw_longlife_k06_run_texts.main.body.getD i (.Pass ⟨0, 0, 0, 0⟩)
abbrev s_pattern : Stmt := topS 9
abbrev N_pattern : List Str := ["cells"]
theorem sc_pattern : FnScope N_pattern ["cells"] (defScope s_pattern) := ⟨rfl, rfl, rfl, by decide +kernel, rfl, by decide +kernel, by decide +kernel⟩
abbrev s_moved : Stmt := topS 10
abbrev N_moved : List Str := ["cells", "rows", "columns", "row", "column"]
theorem sc_moved : FnScope N_moved ["cells", "rows", "columns"] (defScope s_moved) := ⟨rfl, rfl, rfl, by decide +kernel, rfl, by decide +kernel, by decide +kernel⟩
abbrev s_home : Stmt := topS 11
abbrev N_home : List Str := ["cells", "least_row", "least_column", "row", "_", "column"]
theorem sc_home : FnScope N_home ["cells"] (defScope s_home) := ⟨rfl, rfl, rfl, by decide +kernel, rfl, by decide +kernel, by decide +kernel⟩
abbrev s_read_text : Stmt := topS 12
abbrev N_read_text : List Str := ["string", "cells"]
theorem sc_read_text : FnScope N_read_text ["string"] (defScope s_read_text) := ⟨rfl, rfl, rfl, by decide +kernel, rfl, by decide +kernel, by decide +kernel⟩
abbrev s_cells_of_text : Stmt := topS 13
abbrev N_cells_of_text : List Str := ["string", "cells", "row", "column", "digits", "sign", "number", "step"]
theorem sc_cells_of_text : FnScope N_cells_of_text ["string"] (defScope s_cells_of_text) := ⟨rfl, rfl, rfl, by decide +kernel, rfl, by decide +kernel, by decide +kernel⟩
abbrev s_write_text : Stmt := topS 14
abbrev N_write_text : List Str := ["cells", "parts", "last_row", "end", "row", "column", "length"]
theorem sc_write_text : FnScope N_write_text ["cells"] (defScope s_write_text) := ⟨rfl, rfl, rfl, by decide +kernel, rfl, by decide +kernel, by decide +kernel⟩
abbrev s_runs : Stmt := topS 15
abbrev N_runs : List Str := ["living", "runs", "row", "column"]
theorem sc_runs : FnScope N_runs ["living"] (defScope s_runs) := ⟨rfl, rfl, rfl, by decide +kernel, rfl, by decide +kernel, by decide +kernel⟩
abbrev s_counted : Stmt := topS 16
abbrev N_counted : List Str := ["number", "sign"]
theorem sc_counted : FnScope N_counted ["number", "sign"] (defScope s_counted) := ⟨rfl, rfl, rfl, by decide +kernel, rfl, by decide +kernel, by decide +kernel⟩
abbrev s_law_cell : Stmt := topS 18
abbrev N_law_cell : List Str := ["script", "k"]
theorem sc_law_cell : FnScope N_law_cell ["script", "k"] (defScope s_law_cell) := ⟨rfl, rfl, rfl, by decide +kernel, rfl, by decide +kernel, by decide +kernel⟩
abbrev s_law_row : Stmt := topS 19
abbrev N_law_row : List Str := ["cell", "count", "bound", "rest", "mixed", "row", "k"]
theorem sc_law_row : FnScope N_law_row ["cell", "count", "bound"] (defScope s_law_row) := ⟨rfl, rfl, rfl, by decide +kernel, rfl, by decide +kernel, by decide +kernel⟩
abbrev s_law_integer : Stmt := topS 20
abbrev N_law_integer : List Str := ["value"]
theorem sc_law_integer : FnScope N_law_integer ["value"] (defScope s_law_integer) := ⟨rfl, rfl, rfl, by decide +kernel, rfl, by decide +kernel, by decide +kernel⟩
abbrev s_law_cells : Stmt := topS 21
abbrev N_law_cells : List Str := ["value", "cell"]
theorem sc_law_cells : FnScope N_law_cells ["value"] (defScope s_law_cells) := ⟨rfl, rfl, rfl, by decide +kernel, rfl, by decide +kernel, by decide +kernel⟩
abbrev s_law_some : Stmt := topS 22
abbrev N_law_some : List Str := ["cell", "count", "height", "width", "x", "found", "y", "place"]
theorem sc_law_some : FnScope N_law_some ["cell", "count", "height", "width"] (defScope s_law_some) := ⟨rfl, rfl, rfl, by decide +kernel, rfl, by decide +kernel, by decide +kernel⟩
abbrev s_law_counted : Stmt := topS 23
abbrev N_law_counted : List Str := ["count", "sign"]
theorem sc_law_counted : FnScope N_law_counted ["count", "sign"] (defScope s_law_counted) := ⟨rfl, rfl, rfl, by decide +kernel, rfl, by decide +kernel, by decide +kernel⟩
abbrev s_law_runs : Stmt := topS 24
abbrev N_law_runs : List Str := ["cells", "r", "width", "line", "text", "count", "c"]
theorem sc_law_runs : FnScope N_law_runs ["cells", "r", "width"] (defScope s_law_runs) := ⟨rfl, rfl, rfl, by decide +kernel, rfl, by decide +kernel, by decide +kernel⟩
abbrev s_law_text : Stmt := topS 25
abbrev N_law_text : List Str := ["cells", "text", "ends", "r", "runs", "c"]
theorem sc_law_text : FnScope N_law_text ["cells"] (defScope s_law_text) := ⟨rfl, rfl, rfl, by decide +kernel, rfl, by decide +kernel, by decide +kernel⟩
abbrev s_law : Stmt := topS 26
abbrev N_law : List Str := ["script", "first", "cells", "x", "unique", "cell", "home_v", "top", "left", "told", "back", "j", "r", "c"]
theorem sc_law : FnScope N_law ["script"] (defScope s_law) := ⟨rfl, rfl, rfl, by decide +kernel, rfl, by decide +kernel, by decide +kernel⟩
structure Txt (K : PySem.W.Frag) (mg : Str → Option Value) where
  f_pattern : Addr
  d_pattern : FuncData
  F_pattern : Fun K "pattern" "pattern" s_pattern f_pattern d_pattern
  b_pattern : Binds K d_pattern ["cells"] []
  g_pattern : mg "pattern" = some (.ref f_pattern)
  f_moved : Addr
  d_moved : FuncData
  F_moved : Fun K "moved" "moved" s_moved f_moved d_moved
  b_moved : Binds K d_moved ["cells", "rows", "columns"] []
  g_moved : mg "moved" = some (.ref f_moved)
  f_home : Addr
  d_home : FuncData
  F_home : Fun K "home" "home" s_home f_home d_home
  b_home : Binds K d_home ["cells"] []
  g_home : mg "home" = some (.ref f_home)
  f_read_text : Addr
  d_read_text : FuncData
  F_read_text : Fun K "read_text" "read_text" s_read_text f_read_text d_read_text
  b_read_text : Binds K d_read_text ["string"] []
  g_read_text : mg "read_text" = some (.ref f_read_text)
  f_cells_of_text : Addr
  d_cells_of_text : FuncData
  F_cells_of_text : Fun K "_cells_of_text" "_cells_of_text" s_cells_of_text f_cells_of_text d_cells_of_text
  b_cells_of_text : Binds K d_cells_of_text ["string"] []
  g_cells_of_text : mg "_cells_of_text" = some (.ref f_cells_of_text)
  f_write_text : Addr
  d_write_text : FuncData
  F_write_text : Fun K "write_text" "write_text" s_write_text f_write_text d_write_text
  b_write_text : Binds K d_write_text ["cells"] []
  g_write_text : mg "write_text" = some (.ref f_write_text)
  f_runs : Addr
  d_runs : FuncData
  F_runs : Fun K "_runs" "_runs" s_runs f_runs d_runs
  b_runs : Binds K d_runs ["living"] []
  g_runs : mg "_runs" = some (.ref f_runs)
  f_counted : Addr
  d_counted : FuncData
  F_counted : Fun K "_counted" "_counted" s_counted f_counted d_counted
  b_counted : Binds K d_counted ["number", "sign"] []
  g_counted : mg "_counted" = some (.ref f_counted)
  f_law_cell : Addr
  d_law_cell : FuncData
  F_law_cell : Fun K "_law_cell" "_law_cell" s_law_cell f_law_cell d_law_cell
  b_law_cell : Binds K d_law_cell ["script", "k"] []
  g_law_cell : mg "_law_cell" = some (.ref f_law_cell)
  f_law_row : Addr
  d_law_row : FuncData
  F_law_row : Fun K "_law_row" "_law_row" s_law_row f_law_row d_law_row
  b_law_row : Binds K d_law_row ["cell", "count", "bound"] []
  g_law_row : mg "_law_row" = some (.ref f_law_row)
  f_law_integer : Addr
  d_law_integer : FuncData
  F_law_integer : Fun K "_law_integer" "_law_integer" s_law_integer f_law_integer d_law_integer
  b_law_integer : Binds K d_law_integer ["value"] []
  g_law_integer : mg "_law_integer" = some (.ref f_law_integer)
  f_law_cells : Addr
  d_law_cells : FuncData
  F_law_cells : Fun K "_law_cells" "_law_cells" s_law_cells f_law_cells d_law_cells
  b_law_cells : Binds K d_law_cells ["value"] []
  g_law_cells : mg "_law_cells" = some (.ref f_law_cells)
  f_law_some : Addr
  d_law_some : FuncData
  F_law_some : Fun K "_law_some" "_law_some" s_law_some f_law_some d_law_some
  b_law_some : Binds K d_law_some ["cell", "count", "height", "width"] []
  g_law_some : mg "_law_some" = some (.ref f_law_some)
  f_law_counted : Addr
  d_law_counted : FuncData
  F_law_counted : Fun K "_law_counted" "_law_counted" s_law_counted f_law_counted d_law_counted
  b_law_counted : Binds K d_law_counted ["count", "sign"] []
  g_law_counted : mg "_law_counted" = some (.ref f_law_counted)
  f_law_runs : Addr
  d_law_runs : FuncData
  F_law_runs : Fun K "_law_runs" "_law_runs" s_law_runs f_law_runs d_law_runs
  b_law_runs : Binds K d_law_runs ["cells", "r", "width"] []
  g_law_runs : mg "_law_runs" = some (.ref f_law_runs)
  f_law_text : Addr
  d_law_text : FuncData
  F_law_text : Fun K "_law_text" "_law_text" s_law_text f_law_text d_law_text
  b_law_text : Binds K d_law_text ["cells"] []
  g_law_text : mg "_law_text" = some (.ref f_law_text)
  f_law : Addr
  d_law : FuncData
  F_law : Fun K "law" "law" s_law f_law d_law
  b_law : Binds K d_law ["script"] []
  g_law : mg "law" = some (.ref f_law)
  z_sorted : mg "sorted" = none
  z_set : mg "set" = none
  z_min : mg "min" = none
  z_int : mg "int" = none
  z_range : mg "range" = none
  z_str : mg "str" = none
  z_len : mg "len" = none
  z_abs : mg "abs" = none
  z_isinstance : mg "isinstance" = none
  z_bool : mg "bool" = none
  z_list : mg "list" = none
  z_tuple : mg "tuple" = none
  z_sum : mg "sum" = none
  z_max : mg "max" = none
  c_DIGITS : ∃ u, mg "DIGITS" = some u ∧ RelV (.str (Str.ofString "0123456789")) u
  c_ROW_END : ∃ u, mg "ROW_END" = some u ∧ RelV (.str (Str.ofString "/")) u
  c_ALIVE : ∃ u, mg "ALIVE" = some u ∧ RelV (.str (Str.ofString "O")) u
  c_DEAD : ∃ u, mg "DEAD" = some u ∧ RelV (.str (Str.ofString ".")) u
  c_MARK : ∃ u, mg "MARK" = some u ∧ RelV (.str (Str.ofString "!")) u
end My
namespace My
open PySem PySem.Spec PyProof.Rows L2 Vx
open TL
local macro_rules | `(tactic| k_invariant "new" ($n, $H:ident, $e:ident, $h:ident)) => `(tactic| (generalize hE : upd _ _ _ = $H; obtain ⟨$e:ident, $h:ident⟩ := gen_e hE $n; clear hE))
local macro_rules | `(tactic| k_places) => `(tactic| first
  | assumption
  | exact lst_of (by assumption)
  | exact tup_of (by assumption)
  | (refine getS (by assumption) ?_; k_places)
  | (refine Same.seq (by assumption) ?_; k_places)
  | (refine tupS (by assumption) ?_; k_places)
  | (refine lst_of ?_; k_places)
  | (refine tup_of ?_; k_places))
local macro_rules | `(tactic| k_subL) => `(tactic| first
  | k_places
  | solve_by_elim (maxDepth := 10) [getS, lst_of, tup_of, Same.seq, tupS])
local macro_rules | `(tactic| k_offL) => `(tactic| first
  | (show (0 : Int) < _; first | omega | decide)
  | (refine ⟨?_, ?_⟩ <;> first | omega | decide)
  | exact .inr ⟨by decide, by decide⟩
  | exact .inl ⟨by decide, by decide⟩
  | exact .inl ⟨by omega, by omega⟩
  | omega)
local macro_rules | `(tactic| k_clsL) => `(tactic| exact Nat.le_of_ble_eq_true rfl)
section
variable {P : Program} {w : World} {K : PySem.W.Frag} {mg : Str → Option Value} {base : Heap}
/-! ### run texts, the program's own -/
def cntS (n : Int) (sg : Str) : Str := if n = 1 then sg else (toString n : Str) ++ sg
def sp_counted : Sp := fun vs H Q _ => ∃ (n : Int) (sg : Str), vs = [.int n, .str sg] ∧ n.natAbs < 2 ^ 60 ∧ sg.length ≤ 100 ∧ Q (.str (cntS n sg)) H
theorem ok_counted (T : Txt K mg) : FnOk P w K mg base CX0 1 T.f_counted T.d_counted ["number", "sign"] sp_counted := by
  refine T.F_counted.ok sc_counted (fun vs H Q E h => ?_) (fun cdv A outer s H vs Q E hr h => ?_)
  · obtain ⟨_, _, rfl, _⟩ := h
    rfl
  · obtain ⟨n, sg, rfl, b, ls, q⟩ := h
    refine ⟨_, (pss_one (ps_ret (pe_ifExp (pt_cmpR op_eq (pv 0) pe_int (nomark _)) (pv 1) (pe_op op_add_str (pe_callTy call_str_int (by rfl) T.z_str (by decide +kernel) (pa_cons (pv 0) pa_nil)) (pv 1))))), ?_⟩
    have lg : n.natAbs.log2 < 1920 := by
      rcases Nat.eq_zero_or_pos n.natAbs with z | z
      · rw [z]
        decide
      · exact Nat.lt_trans ((Nat.log2_lt (by omega)).mpr b) (by decide)
    have ln := int_text_len_1921 lg
    refine ⟨_, rfl, rfl, _, rfl, ite2 (fun c => ?_) (fun c => ?_)⟩
    · have c : n = 1 := by simpa using c
      refine ⟨_, rfl, ?_⟩
      unfold cntS at q
      rw [if_pos c] at q
      exact q
    · have c : ¬ n = 1 := by simpa using c
      refine ⟨_, rfl, _, rfl, ?_, _, rfl, _, _, rfl, rfl, ?_, ?_⟩
      · exact lg
      · rw [sizeLine_eq]
        omega
      · unfold cntS at q
        rw [if_neg c] at q
        exact q
abbrev Run := Int × Int × Int
def runV (t : Run) : List V := [.int t.1, .int t.2.1, .int t.2.2]
/-- the runs so far, and one more cell -/
def runStep (rs : List Run) (x : Pr) : List Run := match rs.getLast? with
  | some t => if t.1 = x.1 ∧ t.2.1 + t.2.2 = x.2 then rs.dropLast ++ [(t.1, t.2.1, t.2.2 + 1)] else rs ++ [(x.1, x.2, 1)]
  | none => [(x.1, x.2, 1)]
def runsP (ps : List Pr) : List Run := ps.foldl runStep []
def RunsAt (H : Hp) (l : Addr) (rs : List Run) : Prop :=
  ∃ ts : List (Addr × Run), H l = some (.lst (ts.map fun t => V.ref t.1)) ∧ (∀ t ∈ ts, H t.1 = some (.lst (runV t.2))) ∧ ts.map (·.2) = rs
theorem runStep_len (rs : List Run) (x : Pr) : (runStep rs x).length ≤ rs.length + 1 := by
  unfold runStep
  cases rs.getLast? with
  | none => show 1 ≤ _; omega
  | some t =>
    show (if t.1 = x.1 ∧ t.2.1 + t.2.2 = x.2 then rs.dropLast ++ [(t.1, t.2.1, t.2.2 + 1)] else rs ++ [(x.1, x.2, 1)]).length ≤ _
    by_cases c : t.1 = x.1 ∧ t.2.1 + t.2.2 = x.2
    · rw [if_pos c, List.length_append, List.length_dropLast]
      show rs.length - 1 + 1 ≤ _
      omega
    · rw [if_neg c, List.length_append]
      exact Nat.le_refl _
theorem runStep_last (rs : List Run) (t : Run) (x : Pr) : runStep (rs ++ [t]) x = if t.1 = x.1 ∧ t.2.1 + t.2.2 = x.2 then rs ++ [(t.1, t.2.1, t.2.2 + 1)] else rs ++ [t] ++ [(x.1, x.2, 1)] := by
  unfold runStep
  rw [List.getLast?_concat, List.dropLast_concat]
theorem atI_last (xs : List V) (v : V) : atI (xs ++ [v]) (-1) = some v := by
  unfold atI ixN
  rw [if_neg (by decide), List.length_append, List.length_singleton, if_pos (by omega)]
  show (xs ++ [v])[(-1 + ((xs.length + 1 : Nat) : Int)).toNat]? = some v
  rw [show (-1 + ((xs.length + 1 : Nat) : Int)).toNat = xs.length by omega]
  simp
theorem runs_app {H H' : Hp} {p q : Addr} {ts : List (Addr × Run)} {r : Run} (sm : Same H H') (np : H p = none) (hp : H' p = some (.lst (ts.map fun t => V.ref t.1))) (htt : ∀ t ∈ ts, H' t.1 = some (.lst (runV t.2)) ∧ H t.1 = none ∧ t.1 ≠ p)
    (nd : (ts.map (·.1)).Nodup) (nq : H' q = none) :
    Same H (upd (upd H' q (.lst (runV r))) p (.lst (ts.map (fun t => V.ref t.1) ++ [.ref q]))) ∧ upd H' q (.lst (runV r)) p = some (.lst (ts.map fun t => V.ref t.1)) ∧
    upd (upd H' q (.lst (runV r))) p (.lst (ts.map (fun t => V.ref t.1) ++ [.ref q])) p = some (.lst ((ts ++ [(q, r)]).map fun t => V.ref t.1)) ∧
    (∀ t ∈ ts ++ [(q, r)], upd (upd H' q (.lst (runV r))) p (.lst (ts.map (fun t => V.ref t.1) ++ [.ref q])) t.1 = some (.lst (runV t.2)) ∧ H t.1 = none ∧ t.1 ≠ p) ∧ ((ts ++ [(q, r)]).map (·.1)).Nodup := by
  have qp : q ≠ p := fun e => by
    rw [e, hp] at nq
    cases nq
  refine ⟨mutS (sm.trans (newS nq)) np, newS nq _ _ hp, by rw [upd_same, List.map_append]; rfl, fun t m => ?_, ?_⟩
  · rcases List.mem_append.mp m with m | m
    · obtain ⟨h1, h2, h3⟩ := htt t m
      exact ⟨by rw [upd_ne h3]; exact newS nq _ _ h1, h2, h3⟩
    · rw [List.mem_singleton.mp m]
      exact ⟨by rw [upd_ne qp, upd_same], backS sm nq, qp⟩
  · rw [List.map_append]
    refine List.pairwise_append.mpr ⟨nd, List.pairwise_cons.mpr ⟨fun _ m => (by cases m), List.Pairwise.nil⟩, fun a ma b mb e => ?_⟩
    obtain ⟨t, mt, rfl⟩ := List.mem_map.mp ma
    rw [List.mem_singleton.mp mb] at e
    have h1 := (htt t mt).1
    have e : t.1 = q := e
    rw [e, nq] at h1
    cases h1
theorem runs_mut {H H' : Hp} {p : Addr} {us : List (Addr × Run)} {u : Addr × Run} {r : Run} (sm : Same H H') (hp : H' p = some (.lst ((us ++ [u]).map fun t => V.ref t.1))) (htt : ∀ t ∈ us ++ [u], H' t.1 = some (.lst (runV t.2)) ∧ H t.1 = none ∧ t.1 ≠ p)
    (nd : ((us ++ [u]).map (·.1)).Nodup) : Same H (upd H' u.1 (.lst (runV r))) ∧ upd H' u.1 (.lst (runV r)) p = some (.lst ((us ++ [(u.1, r)]).map fun t => V.ref t.1)) ∧
    (∀ t ∈ us ++ [(u.1, r)], upd H' u.1 (.lst (runV r)) t.1 = some (.lst (runV t.2)) ∧ H t.1 = none ∧ t.1 ≠ p) ∧ ((us ++ [(u.1, r)]).map (·.1)).Nodup := by
  obtain ⟨h1, h2, h3⟩ := htt u (List.mem_append.mpr (.inr (List.mem_singleton.mpr rfl)))
  have em : (us ++ [(u.1, r)]).map (fun t => V.ref t.1) = (us ++ [u]).map (fun t => V.ref t.1) := by
    rw [List.map_append, List.map_append]
    rfl
  have ea : (us ++ [(u.1, r)]).map (·.1) = (us ++ [u]).map (·.1) := by
    rw [List.map_append, List.map_append]
    rfl
  refine ⟨mutS sm h2, by rw [upd_ne (Ne.symm h3), em]; exact hp, fun t m => ?_, by rw [ea]; exact nd⟩
  rcases List.mem_append.mp m with m | m
  · obtain ⟨k1, k2, k3⟩ := htt t (List.mem_append.mpr (.inl m))
    rw [List.map_append] at nd
    have ne := (List.pairwise_append.mp nd).2.2 t.1 (List.mem_map.mpr ⟨t, m, rfl⟩) u.1 (List.mem_singleton.mpr rfl)
    exact ⟨by rw [upd_ne ne]; exact k1, k2, k3⟩
  · rw [List.mem_singleton.mp m]
    exact ⟨upd_same, h2, h3⟩
def sp_runs (K : PySem.W.Frag) : Sp := fun vs H Q _ => ∃ (l : Addr) (ps : List Pr), vs = [.ref l] ∧ Cells H l ps ∧ ps.length < 1000000 ∧
  ∀ (H' : Hp) (p : Addr), H p = none → Same H H' → RunsAt H' p (runsP ps) → Q (.ref p) H'
theorem ok_runs (T : Txt K mg) : FnOk P w K mg base CX0 1 T.f_runs T.d_runs ["living"] (sp_runs K) := by
  refine T.F_runs.ok sc_runs (fun vs H Q E h => ?_) (fun cdv A outer s H vs Q E hr h => ?_)
  · obtain ⟨_, _, rfl, _⟩ := h
    rfl
  · obtain ⟨l, ps, rfl, hC, lim, q⟩ := h
    refine ⟨_, (pss_cons (ps_set (i := 1) sc_runs.nd rfl (.inl rfl) (pe_lst pa_nil))
      (pss_cons (ps_for PassesOwn.never rfl (pi_list (pv 0)) (pg_tupK (K := K) (n := 2) rfl rfl (pgs_cons (pg_name (i := 2) sc_runs.nd rfl (.inl rfl)) (pgs_cons (pg_name (i := 3) sc_runs.nd rfl (.inl rfl)) pgs_nil)))
      (pss_one (ps_if (PW.pt (pw_and (pt_truth (pv 1) (by intro _; rfl)) (pw_and (pt_cmpR op_eq (pe_ix ix_list (pe_ix ix_list (pv 1) (pe_un un_neg pe_int) (fun _ _ => rfl)) pe_int (fun _ _ => rfl)) (pv 2) (nomark _)) (pw_and1 (pt_cmpR op_eq (pe_op op_add (pe_ix ix_list (pe_ix ix_list (pv 1) (pe_un un_neg pe_int) (fun _ _ => rfl)) pe_int (fun _ _ => rfl)) (pe_ix ix_list (pe_ix ix_list (pv 1) (pe_un un_neg pe_int) (fun _ _ => rfl)) pe_int (fun _ _ => rfl))) (pv 3) (nomark _))))))
      (pss_one (ps_augS (pe_ix ix_list (pv 1) (pe_un un_neg pe_int) (fun _ _ => rfl)) pe_int pget_list pe_int ip_add set_list))
      (pss_one (ps_expr (pe_bm PySem.F.plainAttrs_list PySem.F.slot_list_append PySem.F.type_list_append mt_append (pv 1) (pa_cons (pe_lst (pa_cons (pv 2) (pa_cons (pv 3) (pa_cons pe_int pa_nil)))) pa_nil)))))))
      (pss_one (ps_ret (pv 1))))), ?_⟩
    obtain ⟨cs, hl, ht, rfl⟩ := id hC
    rw [List.length_map] at lim
    refine ⟨by k_clsL, fun p np => ?_⟩
    k_invariant "new" (np, H1, e1, g1)
    have nlp : p ≠ l := fun e => by
      rw [e, hl] at np
      cases np
    refine ⟨_, rfl, l, rfl, ⟨_, lst_of (e1 _ _ hl)⟩, for_list (K := K) (a := l) (xs := cs.map fun t => V.ref t.1) (fun i σ H' => Same H H' ∧ (∃ (x y : Option V), σ = [some (.ref l), some (.ref p), x, y]) ∧
      ∃ ts : List (Addr × Run), H' p = some (.lst (ts.map fun t => V.ref t.1)) ∧ (∀ t ∈ ts, H' t.1 = some (.lst (runV t.2)) ∧ H t.1 = none ∧ t.1 ≠ p) ∧ (ts.map (·.1)).Nodup ∧ ts.map (·.2) = runsP ((cs.map (·.2)).take i) ∧ ts.length ≤ i)
      ⟨e1, ⟨_, _, rfl⟩, [], g1, fun _ m => (by cases m), List.nodup_nil, rfl, Nat.le_refl _⟩ (fun i σ H' _ h => lst_of (h.1 _ _ hl)) ?_ ?_⟩
    · rintro i z σ H' hi ⟨sm, ⟨x0, y0, rfl⟩, ts, hp, htt, nd, et, lt⟩
      obtain ⟨t, mt, rfl, hx⟩ := item_cells (H := H') hi rfl
      have li : i < cs.length := by
        have := (List.getElem?_eq_some_iff.mp hi).1
        rwa [List.length_map] at this
      have gt := sm _ _ (ht t mt)
      have step : runsP ((cs.map (·.2)).take (i + 1)) = runStep (ts.map (·.2)) t.2 := by
        rw [take_next hx]
        unfold runsP
        rw [List.foldl_append, et]
        rfl
      refine ⟨t.1, _, rfl, tup_of gt, rfl, _, _, rfl, _, _, rfl, rfl, ?_⟩
      have app : ∀ q, H' q = none → upd H' q (.lst (runV (t.2.1, t.2.2, 1))) p = some (.lst (ts.map fun t => V.ref t.1)) ∧ (runStep (ts.map (·.2)) t.2 = ts.map (·.2) ++ [(t.2.1, t.2.2, 1)] →
          Same H (upd (upd H' q (.lst (runV (t.2.1, t.2.2, 1)))) p (.lst (ts.map (fun t => V.ref t.1) ++ [.ref q]))) ∧ ∃ ts' : List (Addr × Run), upd (upd H' q (.lst (runV (t.2.1, t.2.2, 1)))) p (.lst (ts.map (fun t => V.ref t.1) ++ [.ref q])) p = some (.lst (ts'.map fun t => V.ref t.1)) ∧
          (∀ t' ∈ ts', upd (upd H' q (.lst (runV (t.2.1, t.2.2, 1)))) p (.lst (ts.map (fun t => V.ref t.1) ++ [.ref q])) t'.1 = some (.lst (runV t'.2)) ∧ H t'.1 = none ∧ t'.1 ≠ p) ∧ (ts'.map (·.1)).Nodup ∧ ts'.map (·.2) = runsP ((cs.map (·.2)).take (i + 1)) ∧ ts'.length ≤ i + 1) := fun q nq => by
        obtain ⟨a1, a2, a3, a4, a5⟩ := runs_app (r := (t.2.1, t.2.2, 1)) sm np hp htt nd nq
        refine ⟨a2, fun e => ⟨a1, _, a3, a4, a5, ?_, ?_⟩⟩
        · rw [step, e, List.map_append]
          rfl
        · rw [List.length_append]
          show ts.length + 1 ≤ i + 1
          omega
      have lz : ts.length < sizeLine := by
        rw [sizeLine_eq]
        omega
      rcases List.eq_nil_or_concat ts with e0 | ⟨us, u, e0⟩
      · refine ⟨_, rfl, false, .inl ⟨_, lst_of hp, by rw [e0]; rfl⟩, iteF ?_⟩
        refine ⟨_, rfl, .inl ⟨rfl, _, lst_of hp⟩, _, rfl, _, rfl, by k_clsL, fun q nq => ?_⟩
        obtain ⟨b1, b2⟩ := app q nq
        obtain ⟨c1, c2⟩ := b2 (by rw [e0]; rfl)
        exact ⟨_, _, _, rfl, rfl, b1, by rw [List.length_map]; exact lz, c1, ⟨_, _, rfl⟩, c2⟩
      · rw [List.concat_eq_append] at e0
        have hu := (htt u (by rw [e0]; exact List.mem_append.mpr (.inr (List.mem_singleton.mpr rfl)))).1
        have at1 : atI (ts.map fun t => V.ref t.1) (-1) = some (.ref u.1) := by
          rw [e0, List.map_append]
          exact atI_last _ _
        have rl := runStep_last (us.map (·.2)) u.2 t.2
        rw [show us.map (·.2) ++ [u.2] = ts.map (·.2) by rw [e0, List.map_append]; rfl] at rl
        have fail : ¬ (u.2.1 = t.2.1 ∧ u.2.2.1 + u.2.2.2 = t.2.2) → runStep (ts.map (·.2)) t.2 = ts.map (·.2) ++ [(t.2.1, t.2.2, 1)] := fun c => by rw [rl, if_neg c]
        refine ⟨_, rfl, true, .inl ⟨_, lst_of hp, by rw [e0, List.map_append]; simp⟩, iteT ?_⟩
        refine ⟨_, rfl, _, rfl, _, _, _, _, rfl, rfl, lst_of hp, at1, _, _, _, _, rfl, rfl, lst_of hu, rfl, _, rfl, rfl, _, rfl, ite2 (fun c => ?_) (fun c => ?_)⟩
        · refine ⟨_, rfl, _, rfl, _, _, _, _, rfl, rfl, lst_of hp, at1, _, _, _, _, rfl, rfl, lst_of hu, rfl, _, rfl, _, rfl, _, _, _, _, rfl, rfl, lst_of hp, at1, _, _, _, _, rfl, rfl, lst_of hu, rfl, _, _, rfl, rfl, _, rfl, rfl, _, rfl, ite2 (fun c2 => ?_) (fun c2 => ?_)⟩
          · have c : u.2.1 = t.2.1 := V.int.inj (of_decide_eq_true c)
            have c2 : u.2.2.1 + u.2.2.2 = t.2.2 := V.int.inj (of_decide_eq_true c2)
            obtain ⟨a1, a2, a3, a4⟩ := runs_mut (r := (u.2.1, u.2.2.1, u.2.2.2 + 1)) sm (by rw [← e0]; exact hp) (by rw [← e0]; exact htt) (by rw [← e0]; exact nd)
            refine ⟨_, rfl, _, rfl, _, _, _, _, rfl, rfl, lst_of hp, at1, _, _, 2, _, rfl, rfl, lst_of hu, rfl, _, _, rfl, rfl, _, _, _, _, rfl, rfl, hu, rfl, a1, ⟨_, _, rfl⟩, _, a2, a3, a4, ?_, ?_⟩
            · rw [step, rl, if_pos ⟨c, c2⟩, List.map_append]
              rfl
            · rw [e0, List.length_append] at lt
              rw [List.length_append]
              show us.length + 1 ≤ i + 1
              have : us.length + 1 ≤ i := lt
              omega
          · have c2 : ¬ u.2.2.1 + u.2.2.2 = t.2.2 := fun e => c2 (decide_eq_true (congrArg V.int e))
            refine ⟨_, rfl, .inl ⟨rfl, _, lst_of hp⟩, _, rfl, _, rfl, by k_clsL, fun q nq => ?_⟩
            obtain ⟨b1, b2⟩ := app q nq
            obtain ⟨c1, c2⟩ := b2 (fail fun z => c2 z.2)
            exact ⟨_, _, _, rfl, rfl, b1, by rw [List.length_map]; exact lz, c1, ⟨_, _, rfl⟩, c2⟩
        · have c : ¬ u.2.1 = t.2.1 := fun e => c (decide_eq_true (congrArg V.int e))
          refine ⟨_, rfl, .inl ⟨rfl, _, lst_of hp⟩, _, rfl, _, rfl, by k_clsL, fun q nq => ?_⟩
          obtain ⟨b1, b2⟩ := app q nq
          obtain ⟨c1, c2⟩ := b2 (fail fun z => c z.1)
          exact ⟨_, _, _, rfl, rfl, b1, by rw [List.length_map]; exact lz, c1, ⟨_, _, rfl⟩, c2⟩
    · rintro σ H' ⟨sm, ⟨x0, y0, rfl⟩, ts, hp, htt, nd, et, lt⟩
      rw [List.length_map, List.take_of_length_le (by rw [List.length_map]; exact Nat.le_refl _)] at et
      exact ⟨_, rfl, q H' p np sm ⟨ts, hp, fun t m => (htt t m).1, et⟩⟩
end
end My
namespace My
open PySem PySem.Spec PyProof.Rows L2 Vx
open TL
local macro_rules | `(tactic| k_invariant "new" ($n, $H:ident, $e:ident, $h:ident)) => `(tactic| (generalize hE : upd _ _ _ = $H; obtain ⟨$e:ident, $h:ident⟩ := gen_e hE $n; clear hE))
local macro_rules | `(tactic| k_places) => `(tactic| first
  | assumption
  | exact lst_of (by assumption)
  | exact tup_of (by assumption)
  | (refine getS (by assumption) ?_; k_places)
  | (refine Same.seq (by assumption) ?_; k_places)
  | (refine tupS (by assumption) ?_; k_places)
  | (refine lst_of ?_; k_places)
  | (refine tup_of ?_; k_places))
local macro_rules | `(tactic| k_subL) => `(tactic| first
  | k_places
  | solve_by_elim (maxDepth := 10) [getS, lst_of, tup_of, Same.seq, tupS])
local macro_rules | `(tactic| k_offL) => `(tactic| first
  | (show (0 : Int) < _; first | omega | decide)
  | (refine ⟨?_, ?_⟩ <;> first | omega | decide)
  | exact .inr ⟨by decide, by decide⟩
  | exact .inl ⟨by decide, by decide⟩
  | exact .inl ⟨by omega, by omega⟩
  | omega)
local macro_rules | `(tactic| k_clsL) => `(tactic| exact Nat.le_of_ble_eq_true rfl)
section
variable {P : Program} {w : World} {K : PySem.W.Frag} {mg : Str → Option Value} {base : Heap}
/-! ### patterns -/
def addP (dr dc : Int) (x : Pr) : Pr := (x.1 + dr, x.2 + dc)
def turnP (x : Pr) : Pr := (x.2, -x.1)
def mirP (x : Pr) : Pr := (x.1, -x.2)
def sp_pattern : Sp := fun vs H Q _ => ∃ (l : Addr) (ps : List Pr), vs = [.ref l] ∧ Cells H l ps ∧ ps.length < 64 ∧
  ∀ (H' : Hp) (p : Addr) (qs : List Pr), H p = none → Same H H' → Cells H' p qs → CanP ps qs → qs.length < 64 → Q (.ref p) H'
theorem ok_pattern (T : Txt K mg) : FnOk P w K mg base CX0 1 T.f_pattern T.d_pattern ["cells"] sp_pattern := by
  refine T.F_pattern.ok sc_pattern (fun vs H Q E h => ?_) (fun cdv A outer s H vs Q E hr h => ?_)
  · obtain ⟨_, _, rfl, _⟩ := h
    rfl
  · obtain ⟨l, ps, rfl, hC, few, q⟩ := h
    refine ⟨_, (pss_one (ps_ret (pe_callB (cr_sortedP rfl) (by rfl) T.z_sorted (by decide +kernel) (pa_cons (pe_callTy (cr_setP rfl hr.units) (by rfl) T.z_set (by decide +kernel) (pa_cons (pv 0) pa_nil)) pa_nil)))), ?_⟩
    exact ⟨_, rfl, _, _, rfl, hC, few, fun a H1 e1 n1 h1 => ⟨_, _, rfl, h1, fun p H2 qs e2 n2 h2 pw mem l2 => q H2 p qs (backS e1 n2) (e1.trans e2) h2 ⟨pw, mem⟩ l2⟩⟩
def sp_moved : Sp := fun vs H Q _ => ∃ (l : Addr) (ps : List Pr) (dr dc : Int), vs = [.ref l, .int dr, .int dc] ∧ Cells H l ps ∧ ps.length < 64 ∧
  ∀ (H' : Hp) (p : Addr) (qs : List Pr), H p = none → Same H H' → Cells H' p qs → CanP (ps.map (addP dr dc)) qs → qs.length < 64 → Q (.ref p) H'
theorem lt_line {n : Nat} (h : n < 64) : n < sizeLine := by
  rw [sizeLine_eq]
  omega
theorem ok_moved (T : Txt K mg) : FnOk P w K mg base CX0 2 T.f_moved T.d_moved ["cells", "rows", "columns"] sp_moved := by
  refine T.F_moved.ok sc_moved (fun vs H Q E h => ?_) (fun cdv A outer s H vs Q E hr h => ?_)
  · obtain ⟨_, _, _, _, rfl, _⟩ := h
    rfl
  · obtain ⟨l, ps, dr, dc, rfl, hC, few, q⟩ := h
    refine ⟨_, (pss_one (ps_ret (pe_call (ok_pattern T) (hr.mono (by decide)) (by rfl) T.g_pattern T.F_pattern.kp T.b_pattern .nil pass0 (pa_cons (pe_lc (own := [("row", 3), ("column", 4)]) (tt := tYes) rfl sc_moved.nd (pi_list (pv 0)) (blkOk_by (own := [("row", 3), ("column", 4)]) (N := N_moved) (sc := defScope s_moved) (by decide +kernel)) (fun _ _ _ _ _ => (pg_tupK (K := K) (n := 2) rfl rfl (pgs_cons (pg_name (i := 3) sc_moved.nd rfl (.inl rfl)) (pgs_cons (pg_name (i := 4) sc_moved.nd rfl (.inl rfl)) pgs_nil)))) (fun _ _ _ _ _ => pts_nil) (fun _ _ _ _ _ => (pe_tup (pa_cons (pe_op op_add (pv 3) (pv 1)) (pa_cons (pe_op op_add (pv 4) (pv 2)) pa_nil))))) pa_nil)))), ?_⟩
    refine ⟨_, rfl, _, rfl, ⟨_, lst_of hC.choose_spec.1⟩, fun D nD => lc_cells (addP dr dc) hC nD (lt_line few) ?_ fun H1 e1 h1 => ?_⟩
    · intro t x H' Po Pn _ ht hq
      exact ⟨t, _, rfl, tup_of ht, rfl, _, _, rfl, _, _, rfl, rfl, rfl, tyesT ⟨_, rfl, _, rfl, _, _, rfl, rfl, _, rfl, _, rfl, _, _, rfl, rfl, (by k_clsL), fun t2 n2 => hq t2 n2⟩⟩
    · exact ⟨_, _, rfl, h1, by rw [List.length_map]; exact few, fun H2 p qs n2 e2 h2 c2 l2 => q H2 p qs (backS e1 n2) (e1.trans e2) h2 c2 l2⟩
/-- a is the least of them -/
def Least (a : Int) (l : List Int) : Prop := a ∈ l ∧ ∀ y, y ∈ l → a ≤ y
theorem Least.uniq {a b : Int} {l : List Int} (h : Least a l) (h2 : Least b l) : a = b := by
  have := h.2 _ h2.1
  have := h2.2 _ h.1
  omega
def rowsP (ps : List Pr) : List Int := ps.map (·.1)
def colsP (ps : List Pr) : List Int := ps.map (·.2)
def sp_home : Sp := fun vs H Q _ => ∃ (l : Addr) (ps : List Pr), vs = [.ref l] ∧ Cells H l ps ∧ ps.length < 64 ∧
  ∀ (H' : Hp) (p : Addr) (qs : List Pr), H p = none → Same H H' → Cells H' p qs → (ps = [] → qs = []) → (∀ a b, Least a (rowsP ps) → Least b (colsP ps) → CanP (ps.map (addP (-a) (-b))) qs) → qs.length < 64 → Q (.ref p) H'
theorem tru_cells {K : PySem.W.Frag} {H : Hp} {l : Addr} {ps : List Pr} (h : Cells H l ps) : TruV K (.ref l) H (!ps.isEmpty) := by
  obtain ⟨ts, h1, _, rfl⟩ := h
  exact .inl ⟨_, lst_of h1, by cases ts <;> rfl⟩
theorem ok_home (T : Txt K mg) : FnOk P w K mg base CX0 3 T.f_home T.d_home ["cells"] sp_home := by
  refine T.F_home.ok sc_home (fun vs H Q E h => ?_) (fun cdv A outer s H vs Q E hr h => ?_)
  · obtain ⟨_, _, rfl, _⟩ := h
    rfl
  · obtain ⟨l, ps, rfl, hC, few, q⟩ := h
    refine ⟨_, (pss_cons (ps_if (pt_not (pt_truth (pv 0) (by intro _; rfl)))
      (pss_one (ps_ret (pe_lst pa_nil)))
      pss_nil)
      (pss_cons (ps_set (i := 1) sc_home.nd rfl (.inl rfl) (pe_callB (cr_min rfl) (by rfl) T.z_min (by decide +kernel) (pa_cons (pe_lc (own := [("row", 3), ("_", 4)]) (tt := tYes) rfl sc_home.nd (pi_list (pv 0)) (blkOk_by (own := [("row", 3), ("_", 4)]) (N := N_home) (sc := defScope s_home) (by decide +kernel)) (fun _ _ _ _ _ => (pg_tupK (K := K) (n := 2) rfl rfl (pgs_cons (pg_name (i := 3) sc_home.nd rfl (.inl rfl)) (pgs_cons (pg_name (i := 4) sc_home.nd rfl (.inl rfl)) pgs_nil)))) (fun _ _ _ _ _ => pts_nil) (fun _ _ _ _ _ => (pv 3))) pa_nil)))
      (pss_cons (ps_set (i := 2) sc_home.nd rfl (.inl rfl) (pe_callB (cr_min rfl) (by rfl) T.z_min (by decide +kernel) (pa_cons (pe_lc (own := [("_", 4), ("column", 5)]) (tt := tYes) rfl sc_home.nd (pi_list (pv 0)) (blkOk_by (own := [("_", 4), ("column", 5)]) (N := N_home) (sc := defScope s_home) (by decide +kernel)) (fun _ _ _ _ _ => (pg_tupK (K := K) (n := 2) rfl rfl (pgs_cons (pg_name (i := 4) sc_home.nd rfl (.inl rfl)) (pgs_cons (pg_name (i := 5) sc_home.nd rfl (.inl rfl)) pgs_nil)))) (fun _ _ _ _ _ => pts_nil) (fun _ _ _ _ _ => (pv 5))) pa_nil)))
      (pss_one (ps_ret (pe_call (ok_moved T) (hr.mono (by decide)) (by rfl) T.g_moved T.F_moved.kp T.b_moved .nil pass0 (pa_cons (pv 0) (pa_cons (pe_un un_neg (pv 1)) (pa_cons (pe_un un_neg (pv 2)) pa_nil))))))))), ?_⟩
    refine ⟨_, rfl, _, tru_cells hC, ?_⟩
    cases ps with
    | nil =>
      refine ⟨by k_clsL, fun p n => q _ p [] n (newS n) ⟨[], upd_same, fun _ m => (by cases m), rfl⟩ (fun _ => rfl) (fun a b ha _ => ?_) (by decide)⟩
      cases ha.1
    | cons x0 ps =>
      refine ⟨_, rfl, _, rfl, ⟨_, lst_of hC.choose_spec.1⟩, fun D nD => lc_nums (·.1) hC nD (lt_line few) ?_ fun H1 e1 h1 => ?_⟩
      · intro t x H' Po Pn _ ht hq
        exact ⟨t, _, rfl, tup_of ht, rfl, _, _, rfl, _, _, rfl, rfl, rfl, tyesT ⟨_, rfl, hq⟩⟩
      refine ⟨_, _, rfl, lst_of h1, by simp, fun a ma la => ?_⟩
      have hC1 := hC.up e1
      refine ⟨_, rfl, _, rfl, ⟨_, lst_of hC1.choose_spec.1⟩, fun D nD => lc_nums (·.2) hC1 nD (lt_line few) ?_ fun H2 e2 h2 => ?_⟩
      · intro t x H' Po Pn _ ht hq
        exact ⟨t, _, rfl, tup_of ht, rfl, _, _, rfl, _, _, rfl, rfl, rfl, tyesT ⟨_, rfl, hq⟩⟩
      refine ⟨_, _, rfl, lst_of h2, by simp, fun b mb lb => ?_⟩
      refine ⟨_, rfl, _, rfl, _, rfl, _, rfl, _, rfl, _, _, _, _, rfl, hC1.up e2, few, fun H3 p qs n3 e3 h3 c3 l3 => q H3 p qs (backS (e1.trans e2) n3) (e1.trans (e2.trans e3)) h3 (fun z => by cases z) (fun a' b' ha hb => ?_) l3⟩
      rw [ha.uniq ⟨ma, la⟩, hb.uniq ⟨mb, lb⟩]
      exact c3
theorem joinL_e : ∀ ps : List (List Nat), joinL [] ps = ps.flatten
  | [] => rfl
  | [p] => by simp [joinL]
  | p :: q :: r => by
    show p ++ ([] ++ joinL [] (q :: r)) = _
    rw [joinL_e (q :: r)]
    rfl
theorem tl_e : tl (Str.ofString "") = [] := by decide +kernel
theorem tl_slash : tl (Str.ofString "/") = [47] := by decide +kernel
theorem tl_dot : tl (Str.ofString ".") = [46] := by decide +kernel
theorem tl_O : tl (Str.ofString "O") = [79] := by decide +kernel
theorem tl_mark : tl (Str.ofString "!") = [33] := by decide +kernel
def cntL (n : Int) (c : Nat) : List Nat := if n = 1 then [c] else tl (Str.ofString (toString n)) ++ [c]
theorem tl_cntS {n : Int} {sg : Str} {c : Nat} (h : tl sg = [c]) : tl (cntS n sg) = cntL n c := by
  unfold cntS cntL
  by_cases e : n = 1
  · rw [if_pos e, if_pos e, h]
  · rw [if_neg e, if_neg e, tl_append, h]
theorem len_cntS {n : Int} {sg : Str} (b : n.natAbs < 2 ^ 60) (h : sg.length ≤ 1) : (cntS n sg).length ≤ 2000 := by
  have lg : n.natAbs.log2 < 1920 := by
    rcases Nat.eq_zero_or_pos n.natAbs with z | z
    · rw [z]
      decide
    · exact Nat.lt_trans ((Nat.log2_lt (by omega)).mpr b) (by decide)
  have ln := int_text_len_1921 lg
  unfold cntS
  by_cases e : n = 1
  · rw [if_pos e]
    omega
  · rw [if_neg e]
    have : ((toString n : Str) ++ sg).length = (toString n : Str).length + sg.length := by
      rw [TL.len_tl, TL.len_tl, TL.len_tl, tl_append, List.length_append]
    rw [this]
    have : (toString n : Str).length ≤ 1921 := ln
    omega
/-- one run written: the text so far, the row, the place behind the last run -/
def wStep (st : List Nat × Int × Int) (t : Run) : List Nat × Int × Int :=
  let s1 := if st.2.1 < t.1 then (st.1 ++ cntL (t.1 - st.2.1) 47, t.1, 0) else st
  let s2 := if s1.2.2 < t.2.1 then s1.1 ++ cntL (t.2.1 - s1.2.2) 46 else s1.1
  (s2 ++ cntL t.2.2 79, s1.2.1, t.2.1 + t.2.2)
theorem wStep_eq {a a1 a2 : List Nat} {last en last1 en1 : Int} {t : Run} (h1 : (if last < t.1 then (a ++ cntL (t.1 - last) 47, t.1, 0) else (a, last, en)) = (a1, last1, en1)) (h2 : (if en1 < t.2.1 then a1 ++ cntL (t.2.1 - en1) 46 else a1) = a2) :
    wStep (a, last, en) t = (a2 ++ cntL t.2.2 79, last1, t.2.1 + t.2.2) := by
  have e : wStep (a, last, en) t = ((if (if last < t.1 then (a ++ cntL (t.1 - last) 47, t.1, 0) else (a, last, en)).2.2 < t.2.1 then (if last < t.1 then (a ++ cntL (t.1 - last) 47, t.1, 0) else (a, last, en)).1 ++ cntL (t.2.1 - (if last < t.1 then (a ++ cntL (t.1 - last) 47, t.1, 0) else (a, last, en)).2.2) 46 else (if last < t.1 then (a ++ cntL (t.1 - last) 47, t.1, 0) else (a, last, en)).1) ++ cntL t.2.2 79, (if last < t.1 then (a ++ cntL (t.1 - last) 47, t.1, 0) else (a, last, en)).2.1, t.2.1 + t.2.2) := rfl
  rw [e, h1]
  show ((if en1 < t.2.1 then a1 ++ cntL (t.2.1 - en1) 46 else a1) ++ _, _, _) = _
  rw [h2]
def writeP (rs : List Run) : List Nat := (rs.foldl wStep ([], 0, 0)).1 ++ [33]
/-- numbers that fit -/
def Fit (n : Int) : Prop := n.natAbs < 2 ^ 58
theorem runs_fit : ∀ (l : List Pr) (rs : List Run) (k : Nat), (∀ x ∈ l, Fit x.1 ∧ Fit x.2) → (∀ t ∈ rs, Fit t.1 ∧ Fit t.2.1 ∧ 1 ≤ t.2.2 ∧ t.2.2 ≤ (k : Int)) → 1 ≤ k → ∀ t ∈ l.foldl runStep rs, Fit t.1 ∧ Fit t.2.1 ∧ 1 ≤ t.2.2 ∧ t.2.2 ≤ ((k + l.length : Nat) : Int)
  | [], rs, k, _, h2, _ => h2
  | x :: l, rs, k, h1, h2, hk => by
    rw [List.foldl_cons, List.length_cons, show k + (l.length + 1) = (k + 1) + l.length by omega]
    refine runs_fit l (runStep rs x) (k + 1) (fun y m => h1 y (List.mem_cons_of_mem _ m)) (fun t m => ?_) (by omega)
    have hx := h1 x List.mem_cons_self
    have up : ∀ t ∈ rs, Fit t.1 ∧ Fit t.2.1 ∧ 1 ≤ t.2.2 ∧ t.2.2 ≤ ((k + 1 : Nat) : Int) := fun t m => by
      obtain ⟨a, b, c, d⟩ := h2 t m
      exact ⟨a, b, c, by omega⟩
    rcases List.eq_nil_or_concat rs with rfl | ⟨us, u, e⟩
    · have m : t ∈ [(x.1, x.2, (1 : Int))] := m
      rw [List.mem_singleton.mp m]
      exact ⟨hx.1, hx.2, by show (1 : Int) ≤ 1; omega, by show (1 : Int) ≤ _; omega⟩
    · rw [List.concat_eq_append] at e
      subst e
      rw [runStep_last] at m
      by_cases c : u.1 = x.1 ∧ u.2.1 + u.2.2 = x.2
      · rw [if_pos c] at m
        rcases List.mem_append.mp m with m | m
        · exact up t (List.mem_append.mpr (.inl m))
        · obtain ⟨a, b, c, d⟩ := h2 u (List.mem_append.mpr (.inr (List.mem_singleton.mpr rfl)))
          rw [List.mem_singleton.mp m]
          exact ⟨a, b, by show (1 : Int) ≤ u.2.2 + 1; omega, by show u.2.2 + 1 ≤ _; omega⟩
      · rw [if_neg c] at m
        rcases List.mem_append.mp m with m | m
        · exact up t m
        · rw [List.mem_singleton.mp m]
          exact ⟨hx.1, hx.2, by show (1 : Int) ≤ 1; omega, by show (1 : Int) ≤ _; omega⟩
theorem runs_len : ∀ (l : List Pr) (rs : List Run), (l.foldl runStep rs).length ≤ rs.length + l.length
  | [], rs => Nat.le_refl _
  | x :: l, rs => by
    rw [List.foldl_cons, List.length_cons]
    have := runs_len l (runStep rs x)
    have := runStep_len rs x
    omega
def HomeOf (ps qs : List Pr) : Prop := (ps = [] → qs = []) ∧ ∀ a b, Least a (rowsP ps) → Least b (colsP ps) → CanP (ps.map (addP (-a) (-b))) qs
theorem least_ex : ∀ l : List Int, l ≠ [] → ∃ a, Least a l
  | [], h => absurd rfl h
  | [x], _ => ⟨x, List.mem_singleton.mpr rfl, fun y m => by rw [List.mem_singleton.mp m]; omega⟩
  | x :: y :: l, _ => by
    obtain ⟨a, m, h⟩ := least_ex (y :: l) (by simp)
    by_cases c : x ≤ a
    · refine ⟨x, List.mem_cons_self, fun z mz => ?_⟩
      rcases List.mem_cons.mp mz with e | mz
      · omega
      · have := h z mz
        omega
    · refine ⟨a, List.mem_cons_of_mem _ m, fun z mz => ?_⟩
      rcases List.mem_cons.mp mz with e | mz
      · omega
      · exact h z mz
theorem HomeOf.fit {ps qs : List Pr} (h : HomeOf ps qs) (b : ∀ x ∈ ps, x.1.natAbs < 2 ^ 56 ∧ x.2.natAbs < 2 ^ 56) : ∀ x ∈ qs, Fit x.1 ∧ Fit x.2 := fun x m => by
  by_cases e : ps = []
  · rw [h.1 e] at m
    cases m
  · obtain ⟨a, ha⟩ := least_ex (rowsP ps) (fun z => e (List.map_eq_nil_iff.mp z))
    obtain ⟨c, hc⟩ := least_ex (colsP ps) (fun z => e (List.map_eq_nil_iff.mp z))
    obtain ⟨y, my, rfl⟩ := List.mem_map.mp (((h.2 a c ha hc).2 x).mp m)
    obtain ⟨u, mu, eu⟩ := List.mem_map.mp ha.1
    obtain ⟨v, mv, ev⟩ := List.mem_map.mp hc.1
    have b1 := b y my
    have b2 := b u mu
    have b3 := b v mv
    have eu : u.1 = a := eu
    have ev : v.2 = c := ev
    unfold Fit addP
    constructor
    · show (y.1 + -a).natAbs < _
      omega
    · show (y.2 + -c).natAbs < _
      omega
theorem sum_len : ∀ {l : List Str}, (∀ y ∈ l, y.length ≤ 2000) → (l.map (·.length)).sum ≤ 2000 * l.length
  | [], _ => Nat.le_refl _
  | y :: l, h => by
    have h1 := h y List.mem_cons_self
    have h2 := sum_len (l := l) fun z m => h z (List.mem_cons_of_mem _ m)
    rw [List.map_cons, List.sum_cons, List.length_cons]
    omega
def sp_write_text : Sp := fun vs H Q _ => ∃ (l : Addr) (ps : List Pr), vs = [.ref l] ∧ Cells H l ps ∧ ps.length < 64 ∧ (∀ x ∈ ps, x.1.natAbs < 2 ^ 56 ∧ x.2.natAbs < 2 ^ 56) ∧
  ∀ (H' : Hp) (s : Str) (qs : List Pr), Same H H' → HomeOf ps qs → tl s = writeP (runsP qs) → s.length ≤ 1000000 → Q (.str s) H'
theorem ok_write_text (T : Txt K mg) : FnOk P w K mg base CX0 4 T.f_write_text T.d_write_text ["cells"] sp_write_text := by
  refine T.F_write_text.ok sc_write_text (fun vs H Q E h => ?_) (fun cdv A outer s H vs Q E hr h => ?_)
  · obtain ⟨_, _, rfl, _⟩ := h
    rfl
  · obtain ⟨l, ps, rfl, hC, few, fit, q⟩ := h
    refine ⟨_, (pss_cons (ps_set (i := 1) sc_write_text.nd rfl (.inl rfl) (pe_lst pa_nil))
      (pss_cons (ps_set (i := 2) sc_write_text.nd rfl (.inl rfl) pe_int)
      (pss_cons (ps_set (i := 3) sc_write_text.nd rfl (.inl rfl) pe_int)
      (pss_cons (ps_for PassesOwn.never rfl (pi_list (pe_call (ok_runs T) (hr.mono (by decide)) (by rfl) T.g_runs T.F_runs.kp T.b_runs .nil pass0 (pa_cons (pe_call (ok_home T) (hr.mono (by decide)) (by rfl) T.g_home T.F_home.kp T.b_home .nil pass0 (pa_cons (pv 0) pa_nil)) pa_nil))) (pg_unl rfl (pgs_cons (pg_name (i := 4) sc_write_text.nd rfl (.inl rfl)) (pgs_cons (pg_name (i := 5) sc_write_text.nd rfl (.inl rfl)) (pgs_cons (pg_name (i := 6) sc_write_text.nd rfl (.inl rfl)) pgs_nil))))
      (pss_cons (ps_if (pt_cmpR op_gt (pv 4) (pv 2) (nomark _))
      (pss_cons (ps_expr (pe_bm PySem.F.plainAttrs_list PySem.F.slot_list_append PySem.F.type_list_append mt_append (pv 1) (pa_cons (pe_call (ok_counted T) (hr.mono (by decide)) (by rfl) T.g_counted T.F_counted.kp T.b_counted .nil pass0 (pa_cons (pe_op op_sub (pv 4) (pv 2)) (pa_cons (pe_gcx (by rfl) T.c_ROW_END) pa_nil))) pa_nil)))
      (pss_cons (ps_set (i := 2) sc_write_text.nd rfl (.inl rfl) (pv 4))
      (pss_one (ps_set (i := 3) sc_write_text.nd rfl (.inl rfl) pe_int))))
      pss_nil)
      (pss_cons (ps_if (pt_cmpR op_gt (pv 5) (pv 3) (nomark _))
      (pss_one (ps_expr (pe_bm PySem.F.plainAttrs_list PySem.F.slot_list_append PySem.F.type_list_append mt_append (pv 1) (pa_cons (pe_call (ok_counted T) (hr.mono (by decide)) (by rfl) T.g_counted T.F_counted.kp T.b_counted .nil pass0 (pa_cons (pe_op op_sub (pv 5) (pv 3)) (pa_cons (pe_gcx (by rfl) T.c_DEAD) pa_nil))) pa_nil))))
      pss_nil)
      (pss_cons (ps_expr (pe_bm PySem.F.plainAttrs_list PySem.F.slot_list_append PySem.F.type_list_append mt_append (pv 1) (pa_cons (pe_call (ok_counted T) (hr.mono (by decide)) (by rfl) T.g_counted T.F_counted.kp T.b_counted .nil pass0 (pa_cons (pv 6) (pa_cons (pe_gcx (by rfl) T.c_ALIVE) pa_nil))) pa_nil)))
      (pss_one (ps_set (i := 3) sc_write_text.nd rfl (.inl rfl) (pe_op op_add (pv 5) (pv 6))))))))
      (pss_cons (ps_expr (pe_bm PySem.F.plainAttrs_list PySem.F.slot_list_append PySem.F.type_list_append mt_append (pv 1) (pa_cons (pe_gcx (by rfl) T.c_MARK) pa_nil)))
      (pss_one (ps_ret (pe_join pe_str (pv 1))))))))), ?_⟩
    refine ⟨by k_clsL, fun p np => ?_⟩
    k_invariant "new" (np, H1, e1, g1)
    refine ⟨_, rfl, l, ps, rfl, hC.up e1, few, fun H2 p2 qs n2 e2 h2 z2 c2 l2 => ?_⟩
    have hm : HomeOf ps qs := ⟨z2, c2⟩
    have fq := hm.fit fit
    refine ⟨p2, qs, rfl, h2, by omega, fun H3 p3 n3 e3 h3 => ?_⟩
    have lr := runs_len qs []
    have fr := runs_fit qs [] 1 fq (fun _ m => (by cases m)) (Nat.le_refl _)
    obtain ⟨ts, g3, ht3, et⟩ := h3
    have lt3 : ts.length < 64 := by
      have := congrArg List.length et
      rw [List.length_map] at this
      have lr : (runsP qs).length ≤ 0 + qs.length := lr
      omega
    have np3 : p ≠ p3 := neS g1 e2 n3
    refine ⟨p3, rfl, ⟨_, lst_of g3⟩, for_list (K := K) (a := p3) (xs := ts.map fun t => V.ref t.1) (fun i σ H' => (∀ b o, b ≠ p → H3 b = some o → H' b = some o) ∧ ∃ (ys : List Str) (last en : Int) (x y z : Option V), σ = [some (.ref l), some (.ref p), some (.int last), some (.int en), x, y, z] ∧
      H' p = some (.lst (ys.map V.str)) ∧ ((ys.map tl).flatten, last, en) = ((runsP qs).take i).foldl wStep ([], 0, 0) ∧ ys.length ≤ 3 * i ∧ (∀ y ∈ ys, y.length ≤ 2000) ∧ Fit last ∧ en.natAbs < 2 ^ 59)
      ⟨fun _ _ _ e => e, [], 0, 0, _, _, _, rfl, e3 _ _ (e2 _ _ g1), rfl, by decide, fun _ m => (by cases m), by unfold Fit; decide, by decide⟩ (fun i σ H' _ h => lst_of (h.1 _ _ np3.symm g3)) ?_ ?_⟩
    · rintro i v σ H' hi ⟨sb, ys, last, en, x0, y0, z0, rfl, hp, hw, ly, yl, fl, fe⟩
      obtain ⟨t, mt, rfl, ht2⟩ : ∃ t ∈ ts, v = .ref t.1 ∧ (runsP qs)[i]? = some t.2 := by
        rw [List.getElem?_map] at hi
        cases e : ts[i]? with
        | none => rw [e] at hi; cases hi
        | some t =>
          rw [e] at hi
          refine ⟨t, List.mem_of_getElem? e, (Option.some.inj hi).symm, ?_⟩
          rw [← et, List.getElem?_map, e]
          rfl
      have li : i < ts.length := by
        have := (List.getElem?_eq_some_iff.mp hi).1
        rwa [List.length_map] at this
      have ft := fr t.2 (List.mem_of_getElem? ht2)
      have ft1 := ft.1
      have ft2 := ft.2.1
      unfold Fit at ft1 ft2 fl
      have ft3 := ft.2.2
      have tp : t.1 ≠ p := fun e => by
        have := ht3 t mt
        have g := e3 _ _ (e2 _ _ g1)
        rw [e, g] at this
        have z := HO.lst.inj (Option.some.inj this)
        cases z
      have gt := sb _ _ tp (ht3 t mt)
      have step : ((runsP qs).take (i + 1)).foldl wStep ([], 0, 0) = wStep ((ys.map tl).flatten, last, en) t.2 := by
        rw [take_next ht2, List.foldl_append, ← hw]
        rfl
      refine ⟨t.1, _, rfl, lst_of gt, rfl, _, _, rfl, _, _, rfl, _, _, rfl, rfl, ?_⟩
      refine ⟨_, rfl, _, rfl, _, _, rfl, rfl, _, rfl, ite2 (fun c => ?_) (fun c => ?_)⟩
      · -- row >
        have c := of_decide_eq_true c
        have c : last < t.2.1 := c
        refine ⟨_, rfl, .inl ⟨rfl, _, lst_of hp⟩, _, rfl, _, rfl, _, _, rfl, rfl, _, _, rfl, by show (t.2.1 - last).natAbs < _; omega, by decide, _, _, _, rfl, rfl, hp, by rw [List.length_map, sizeLine_eq]; omega, _, rfl, ?_⟩
        have sb1 : ∀ b o, b ≠ p → H3 b = some o → upd H' p (.lst (ys.map V.str ++ [.str (cntS (t.2.1 - last) (Str.ofString "/"))])) b = some o := fun b o nb e => by
          rw [upd_ne nb]
          exact sb b o nb e
        have hp1 : upd H' p (.lst (ys.map V.str ++ [.str (cntS (t.2.1 - last) (Str.ofString "/"))])) p = some (.lst ((ys ++ [cntS (t.2.1 - last) (Str.ofString "/")]).map V.str)) := by
          rw [upd_same, List.map_append]
          rfl
        have yl1 : ∀ y ∈ ys ++ [cntS (t.2.1 - last) (Str.ofString "/")], y.length ≤ 2000 := fun y m => by
          rcases List.mem_append.mp m with m | m
          · exact yl y m
          · rw [List.mem_singleton.mp m]
            exact len_cntS (by omega) (by decide)
        have tl1 : ((ys ++ [cntS (t.2.1 - last) (Str.ofString "/")]).map tl).flatten = (ys.map tl).flatten ++ cntL (t.2.1 - last) 47 := by
          rw [List.map_append, List.flatten_append]
          show _ ++ [tl (cntS (t.2.1 - last) (Str.ofString "/"))].flatten = _
          rw [tl_cntS tl_slash]
          simp
        have w1 : (if last < t.2.1 then ((ys.map tl).flatten ++ cntL (t.2.1 - last) 47, t.2.1, 0) else ((ys.map tl).flatten, last, en)) = (((ys ++ [cntS (t.2.1 - last) (Str.ofString "/")]).map tl).flatten, t.2.1, (0 : Int)) := by
          rw [if_pos c, tl1]
        have ly1 : (ys ++ [cntS (t.2.1 - last) (Str.ofString "/")]).length ≤ 3 * i + 1 := by
          rw [List.length_append, List.length_singleton]
          omega
        have fl1 : Fit t.2.1 := ft.1
        have fe1 : (0 : Int).natAbs < 2 ^ 59 := by decide
        generalize ys ++ [cntS (t.2.1 - last) (Str.ofString "/")] = ys1 at hp1 yl1 tl1 w1 ly1
        generalize upd H' p (.lst (ys.map V.str ++ [.str (cntS (t.2.1 - last) (Str.ofString "/"))])) = Ha at sb1 hp1
        refine ⟨_, rfl, _, rfl, _, _, rfl, rfl, _, rfl, ite2 (fun d => ?_) (fun d => ?_)⟩
        · have d : 0 < t.2.2.1 := of_decide_eq_true d
          refine ⟨_, rfl, .inl ⟨rfl, _, lst_of hp1⟩, _, rfl, _, rfl, _, _, rfl, rfl, _, _, rfl, by show (t.2.2.1 - 0).natAbs < _; omega, by decide, _, _, _, rfl, rfl, hp1, by rw [List.length_map, sizeLine_eq]; omega, ?_⟩
          have hp2 : upd Ha p (.lst (ys1.map V.str ++ [.str (cntS (t.2.2.1 - 0) (Str.ofString "."))])) p = some (.lst ((ys1 ++ [cntS (t.2.2.1 - 0) (Str.ofString ".")]).map V.str)) := by
            rw [upd_same, List.map_append]
            rfl
          have sb2 : ∀ b o, b ≠ p → H3 b = some o → upd Ha p (.lst (ys1.map V.str ++ [.str (cntS (t.2.2.1 - 0) (Str.ofString "."))])) b = some o := fun b o nb e => by
            rw [upd_ne nb]
            exact sb1 b o nb e
          have yl2 : ∀ y ∈ ys1 ++ [cntS (t.2.2.1 - 0) (Str.ofString ".")], y.length ≤ 2000 := fun y m => by
            rcases List.mem_append.mp m with m | m
            · exact yl1 y m
            · rw [List.mem_singleton.mp m]
              exact len_cntS (by omega) (by decide)
          have w2 : (if 0 < t.2.2.1 then (ys1.map tl).flatten ++ cntL (t.2.2.1 - 0) 46 else (ys1.map tl).flatten) = ((ys1 ++ [cntS (t.2.2.1 - 0) (Str.ofString ".")]).map tl).flatten := by
            rw [if_pos d, List.map_append, List.flatten_append]
            show _ = _ ++ [tl (cntS (t.2.2.1 - 0) (Str.ofString "."))].flatten
            rw [tl_cntS tl_dot]
            simp
          have ly2 : (ys1 ++ [cntS (t.2.2.1 - 0) (Str.ofString ".")]).length ≤ 3 * i + 2 := by
            rw [List.length_append, List.length_singleton]
            omega
          generalize ys1 ++ [cntS (t.2.2.1 - 0) (Str.ofString ".")] = ys2 at hp2 yl2 w2 ly2
          generalize upd Ha p (.lst (ys1.map V.str ++ [.str (cntS (t.2.2.1 - 0) (Str.ofString "."))])) = Hb at sb2 hp2
          refine ⟨_, rfl, .inl ⟨rfl, _, lst_of hp2⟩, _, rfl, _, _, rfl, by show (t.2.2.2).natAbs < _; omega, by decide, _, _, _, rfl, rfl, hp2, by rw [List.length_map, sizeLine_eq]; omega, ?_⟩
          refine ⟨_, rfl, _, rfl, _, _, rfl, rfl, fun b o nb e => ?_, ys2 ++ [cntS t.2.2.2 (Str.ofString "O")], t.2.1, t.2.2.1 + t.2.2.2, _, _, _, rfl, ?_, ?_, ?_, fun y m => ?_, fl1, by omega⟩
          · rw [upd_ne nb]
            exact sb2 b o nb e
          · rw [upd_same, List.map_append]
            rfl
          · rw [step]
            rw [wStep_eq w1 w2, List.map_append, List.flatten_append]
            show (_ ++ [tl (cntS t.2.2.2 (Str.ofString "O"))].flatten, _, _) = _
            rw [tl_cntS tl_O]
            simp
          · rw [List.length_append, List.length_singleton]
            omega
          · rcases List.mem_append.mp m with m | m
            · exact yl2 y m
            · rw [List.mem_singleton.mp m]
              exact len_cntS (by omega) (by decide)
        · have d : ¬ 0 < t.2.2.1 := fun z => d (decide_eq_true z)
          have hp2 := hp1
          have sb2 := sb1
          have yl2 := yl1
          have ly2 : ys1.length ≤ 3 * i + 2 := by omega
          have w2 : (if 0 < t.2.2.1 then (ys1.map tl).flatten ++ cntL (t.2.2.1 - 0) 46 else (ys1.map tl).flatten) = (ys1.map tl).flatten := if_neg d
          refine ⟨_, rfl, .inl ⟨rfl, _, lst_of hp2⟩, _, rfl, _, _, rfl, by show (t.2.2.2).natAbs < _; omega, by decide, _, _, _, rfl, rfl, hp2, by rw [List.length_map, sizeLine_eq]; omega, ?_⟩
          refine ⟨_, rfl, _, rfl, _, _, rfl, rfl, fun b o nb e => ?_, ys1 ++ [cntS t.2.2.2 (Str.ofString "O")], t.2.1, t.2.2.1 + t.2.2.2, _, _, _, rfl, ?_, ?_, ?_, fun y m => ?_, fl1, by omega⟩
          · rw [upd_ne nb]
            exact sb2 b o nb e
          · rw [upd_same, List.map_append]
            rfl
          · rw [step]
            rw [wStep_eq w1 w2, List.map_append, List.flatten_append]
            show (_ ++ [tl (cntS t.2.2.2 (Str.ofString "O"))].flatten, _, _) = _
            rw [tl_cntS tl_O]
            simp
          · rw [List.length_append, List.length_singleton]
            omega
          · rcases List.mem_append.mp m with m | m
            · exact yl2 y m
            · rw [List.mem_singleton.mp m]
              exact len_cntS (by omega) (by decide)
      · -- row =
        have c : ¬ last < t.2.1 := fun z => c (decide_eq_true z)
        have sb1 := sb
        have hp1 := hp
        have yl1 := yl
        have w1 : (if last < t.2.1 then ((ys.map tl).flatten ++ cntL (t.2.1 - last) 47, t.2.1, 0) else ((ys.map tl).flatten, last, en)) = ((ys.map tl).flatten, last, en) := if_neg c
        have ly1 : ys.length ≤ 3 * i + 1 := by omega
        have fl1 := fl
        have fe1 := fe
        refine ⟨_, rfl, _, rfl, _, _, rfl, rfl, _, rfl, ite2 (fun d => ?_) (fun d => ?_)⟩
        · have d : en < t.2.2.1 := of_decide_eq_true d
          refine ⟨_, rfl, .inl ⟨rfl, _, lst_of hp1⟩, _, rfl, _, rfl, _, _, rfl, rfl, _, _, rfl, by show (t.2.2.1 - en).natAbs < _; omega, by decide, _, _, _, rfl, rfl, hp1, by rw [List.length_map, sizeLine_eq]; omega, ?_⟩
          have hp2 : upd H' p (.lst (ys.map V.str ++ [.str (cntS (t.2.2.1 - en) (Str.ofString "."))])) p = some (.lst ((ys ++ [cntS (t.2.2.1 - en) (Str.ofString ".")]).map V.str)) := by
            rw [upd_same, List.map_append]
            rfl
          have sb2 : ∀ b o, b ≠ p → H3 b = some o → upd H' p (.lst (ys.map V.str ++ [.str (cntS (t.2.2.1 - en) (Str.ofString "."))])) b = some o := fun b o nb e => by
            rw [upd_ne nb]
            exact sb1 b o nb e
          have yl2 : ∀ y ∈ ys ++ [cntS (t.2.2.1 - en) (Str.ofString ".")], y.length ≤ 2000 := fun y m => by
            rcases List.mem_append.mp m with m | m
            · exact yl1 y m
            · rw [List.mem_singleton.mp m]
              exact len_cntS (by omega) (by decide)
          have w2 : (if en < t.2.2.1 then (ys.map tl).flatten ++ cntL (t.2.2.1 - en) 46 else (ys.map tl).flatten) = ((ys ++ [cntS (t.2.2.1 - en) (Str.ofString ".")]).map tl).flatten := by
            rw [if_pos d, List.map_append, List.flatten_append]
            show _ = _ ++ [tl (cntS (t.2.2.1 - en) (Str.ofString "."))].flatten
            rw [tl_cntS tl_dot]
            simp
          have ly2 : (ys ++ [cntS (t.2.2.1 - en) (Str.ofString ".")]).length ≤ 3 * i + 2 := by
            rw [List.length_append, List.length_singleton]
            omega
          generalize ys ++ [cntS (t.2.2.1 - en) (Str.ofString ".")] = ys2 at hp2 yl2 w2 ly2
          generalize upd H' p (.lst (ys.map V.str ++ [.str (cntS (t.2.2.1 - en) (Str.ofString "."))])) = Hb at sb2 hp2
          refine ⟨_, rfl, .inl ⟨rfl, _, lst_of hp2⟩, _, rfl, _, _, rfl, by show (t.2.2.2).natAbs < _; omega, by decide, _, _, _, rfl, rfl, hp2, by rw [List.length_map, sizeLine_eq]; omega, ?_⟩
          refine ⟨_, rfl, _, rfl, _, _, rfl, rfl, fun b o nb e => ?_, ys2 ++ [cntS t.2.2.2 (Str.ofString "O")], last, t.2.2.1 + t.2.2.2, _, _, _, rfl, ?_, ?_, ?_, fun y m => ?_, fl1, by omega⟩
          · rw [upd_ne nb]
            exact sb2 b o nb e
          · rw [upd_same, List.map_append]
            rfl
          · rw [step]
            rw [wStep_eq w1 w2, List.map_append, List.flatten_append]
            show (_ ++ [tl (cntS t.2.2.2 (Str.ofString "O"))].flatten, _, _) = _
            rw [tl_cntS tl_O]
            simp
          · rw [List.length_append, List.length_singleton]
            omega
          · rcases List.mem_append.mp m with m | m
            · exact yl2 y m
            · rw [List.mem_singleton.mp m]
              exact len_cntS (by omega) (by decide)
        · have d : ¬ en < t.2.2.1 := fun z => d (decide_eq_true z)
          have hp2 := hp1
          have sb2 := sb1
          have yl2 := yl1
          have ly2 : ys.length ≤ 3 * i + 2 := by omega
          have w2 : (if en < t.2.2.1 then (ys.map tl).flatten ++ cntL (t.2.2.1 - en) 46 else (ys.map tl).flatten) = (ys.map tl).flatten := if_neg d
          refine ⟨_, rfl, .inl ⟨rfl, _, lst_of hp2⟩, _, rfl, _, _, rfl, by show (t.2.2.2).natAbs < _; omega, by decide, _, _, _, rfl, rfl, hp2, by rw [List.length_map, sizeLine_eq]; omega, ?_⟩
          refine ⟨_, rfl, _, rfl, _, _, rfl, rfl, fun b o nb e => ?_, ys ++ [cntS t.2.2.2 (Str.ofString "O")], last, t.2.2.1 + t.2.2.2, _, _, _, rfl, ?_, ?_, ?_, fun y m => ?_, fl1, by omega⟩
          · rw [upd_ne nb]
            exact sb2 b o nb e
          · rw [upd_same, List.map_append]
            rfl
          · rw [step]
            rw [wStep_eq w1 w2, List.map_append, List.flatten_append]
            show (_ ++ [tl (cntS t.2.2.2 (Str.ofString "O"))].flatten, _, _) = _
            rw [tl_cntS tl_O]
            simp
          · rw [List.length_append, List.length_singleton]
            omega
          · rcases List.mem_append.mp m with m | m
            · exact yl2 y m
            · rw [List.mem_singleton.mp m]
              exact len_cntS (by omega) (by decide)
    · rintro σ H' ⟨sb, ys, last, en, x0, y0, z0, rfl, hp, hw, ly, yl, fl, fe⟩
      rw [List.take_of_length_le (by rw [← et, List.length_map, List.length_map]; exact Nat.le_refl _)] at hw
      have sH : Same H (upd H' p (.lst (ys.map V.str ++ [.str (Str.ofString "!")]))) := fun b o e => by
        have nb : b ≠ p := fun z => by
          rw [z, np] at e
          cases e
        rw [upd_ne nb]
        exact sb b o nb (e3 _ _ (e2 _ _ (e1 _ _ e)))
      have hp1 : upd H' p (.lst (ys.map V.str ++ [.str (Str.ofString "!")])) p = some (.lst ((ys ++ [Str.ofString "!"]).map V.str)) := by
        rw [upd_same, List.map_append]
        rfl
      rw [List.length_map] at ly
      refine ⟨_, rfl, .inl ⟨rfl, _, lst_of hp⟩, _, _, _, rfl, rfl, hp, by rw [List.length_map, sizeLine_eq]; omega, ?_⟩
      have all1 : ∀ y ∈ ys ++ [Str.ofString "!"], y.length ≤ 2000 := fun y m => by
        rcases List.mem_append.mp m with m | m
        · exact yl y m
        · rw [List.mem_singleton.mp m]
          decide
      have sum1 := sum_len all1
      have ll1 : (ys ++ [Str.ofString "!"]).length ≤ 200 := by
        rw [List.length_append, List.length_singleton]
        omega
      have tj : tl (Txt.join (Str.ofString "") (ys ++ [Str.ofString "!"])) = ((ys ++ [Str.ofString "!"]).map tl).flatten := by
        rw [join_eq, tl_join, tl_e, joinL_e]
      refine ⟨⟨_, rfl⟩, _, rfl, _, p, ys ++ [Str.ofString "!"], rfl, rfl, .inl (lst_of hp1), ?_, ?_⟩
      · rw [show (Str.ofString "").length = 0 by decide +kernel]
        omega
      · refine q _ _ qs sH hm ?_ ?_
        · rw [tj, List.map_append, List.flatten_append]
          show _ ++ [tl (Str.ofString "!")].flatten = _
          rw [tl_mark]
          unfold writeP
          rw [← hw]
          simp
        · rw [TL.len_tl, tj, List.length_flatten, List.map_map]
          have : ((ys ++ [Str.ofString "!"]).map (List.length ∘ tl)) = (ys ++ [Str.ofString "!"]).map (·.length) := List.map_congr_left fun y _ => (TL.len_tl y).symm
          rw [this]
          omega
end
end My
namespace My
open PySem PySem.Spec PyProof.Rows L2 Vx
open TL
local macro_rules | `(tactic| k_invariant "new" ($n, $H:ident, $e:ident, $h:ident)) => `(tactic| (generalize hE : upd _ _ _ = $H; obtain ⟨$e:ident, $h:ident⟩ := gen_e hE $n; clear hE))
local macro_rules | `(tactic| k_places) => `(tactic| first
  | assumption
  | exact lst_of (by assumption)
  | exact tup_of (by assumption)
  | (refine getS (by assumption) ?_; k_places)
  | (refine Same.seq (by assumption) ?_; k_places)
  | (refine tupS (by assumption) ?_; k_places)
  | (refine lst_of ?_; k_places)
  | (refine tup_of ?_; k_places))
local macro_rules | `(tactic| k_subL) => `(tactic| first
  | k_places
  | solve_by_elim (maxDepth := 10) [getS, lst_of, tup_of, Same.seq, tupS])
local macro_rules | `(tactic| k_offL) => `(tactic| first
  | (show (0 : Int) < _; first | omega | decide)
  | (refine ⟨?_, ?_⟩ <;> first | omega | decide)
  | exact .inr ⟨by decide, by decide⟩
  | exact .inl ⟨by decide, by decide⟩
  | exact .inl ⟨by omega, by omega⟩
  | omega)
local macro_rules | `(tactic| k_clsL) => `(tactic| exact Nat.le_of_ble_eq_true rfl)
section
variable {P : Program} {w : World} {K : PySem.W.Frag} {mg : Str → Option Value} {base : Heap}
/-! ### reading a run text, as the program does -/
abbrev TSt := List Pr × Int × Int × List Nat
def numT (d : List Nat) : Nat := if d = [] then 1 else NumText.digitsVal d
def tStep (st : TSt) (c : Nat) : TSt :=
  if 48 ≤ c ∧ c ≤ 57 then (st.1, st.2.1, st.2.2.1, st.2.2.2 ++ [c])
  else if c = 47 then (st.1, st.2.1 + numT st.2.2.2, 0, [])
  else if c = 79 then (st.1 ++ (List.range (numT st.2.2.2)).map (fun (k : Nat) => (st.2.1, st.2.2.1 + (k : Int))), st.2.1, st.2.2.1 + numT st.2.2.2, [])
  else if c = 46 then (st.1, st.2.1, st.2.2.1 + numT st.2.2.2, [])
  else (st.1, st.2.1, st.2.2.1, [])
def cellsT (l : List Nat) : TSt := l.foldl tStep ([], 0, 0, [])
theorem val_lt : ∀ (l : List Nat) (acc : Nat), NumText.AllDigits l → l.foldl (fun acc c => acc * 10 + (c - 48)) acc < (acc + 1) * 10 ^ l.length
  | [], acc, _ => by simp
  | c :: l, acc, h => by
    have hc := h.head
    rw [List.foldl_cons, List.length_cons]
    refine Nat.lt_of_lt_of_le (val_lt l _ h.tail) ?_
    rw [Nat.pow_succ, Nat.mul_comm (10 ^ l.length) 10, ← Nat.mul_assoc]
    exact Nat.mul_le_mul_right _ (by omega)
theorem numT_lt {d : List Nat} (h : NumText.AllDigits d) (l : d.length ≤ 3) : numT d < 1000 := by
  unfold numT
  by_cases e : d = []
  · rw [if_pos e]
    decide
  · rw [if_neg e]
    have := val_lt d 0 h
    have h2 : 10 ^ d.length ≤ 10 ^ 3 := Nat.pow_le_pow_right (by decide) l
    show d.foldl _ 0 < 1000
    omega
theorem tl_digits : tl (Str.ofString "0123456789") = [48, 49, 50, 51, 52, 53, 54, 55, 56, 57] := by decide +kernel
theorem mem_digits {c : Nat} : c ∈ (Str.ofString "0123456789").cps.toList ↔ 48 ≤ c ∧ c ≤ 57 := by
  show c ∈ tl (Str.ofString "0123456789") ↔ _
  rw [tl_digits]
  simp only [List.mem_cons, List.not_mem_nil, or_false]
  omega
theorem sgE (c k : Nat) (s : Str) (h : s = ⟨#[k]⟩) [i1 : Decidable (V.str ⟨#[c]⟩ = V.str s)] : V.bl (decide (V.str ⟨#[c]⟩ = V.str s)) = V.bl (decide (c = k)) := by
  subst h
  refine congrArg V.bl (decide_eq_decide.mpr ⟨fun e => ?_, fun e => by rw [e]⟩)
  have e := V.str.inj e
  injection e with e
  injection e with e
  injection e
theorem o47 : Str.ofString "/" = ⟨#[47]⟩ := by decide +kernel
theorem o79 : Str.ofString "O" = ⟨#[79]⟩ := by decide +kernel
theorem o46 : Str.ofString "." = ⟨#[46]⟩ := by decide +kernel
theorem sg47 (c : Nat) [i1 : Decidable (V.str ⟨#[c]⟩ = V.str (Str.ofString "/"))] : V.bl (decide (V.str ⟨#[c]⟩ = V.str (Str.ofString "/"))) = V.bl (decide (c = 47)) := sgE c 47 _ o47
theorem sg79 (c : Nat) [i1 : Decidable (V.str ⟨#[c]⟩ = V.str (Str.ofString "O"))] : V.bl (decide (V.str ⟨#[c]⟩ = V.str (Str.ofString "O"))) = V.bl (decide (c = 79)) := sgE c 79 _ o79
theorem sgIn (c : Nat) : V.bl (if false = true then !inV (V.str ⟨#[c]⟩) [V.str (Str.ofString "O"), V.str (Str.ofString ".")] else inV (V.str ⟨#[c]⟩) [V.str (Str.ofString "O"), V.str (Str.ofString ".")]) = V.bl (decide (c = 79 ∨ c = 46)) := by
  rw [o79, o46]
  refine congrArg V.bl ?_
  show (eqV (.str ⟨#[79]⟩) (.str ⟨#[c]⟩) || (eqV (.str ⟨#[46]⟩) (.str ⟨#[c]⟩) || false)) = _
  show (((⟨#[79]⟩ : Str) == ⟨#[c]⟩) || (((⟨#[46]⟩ : Str) == ⟨#[c]⟩) || false)) = _
  have q : ∀ k, ((⟨#[k]⟩ : Str) == ⟨#[c]⟩) = decide (c = k) := fun k => by
    by_cases e : c = k
    · rw [e, decide_eq_true rfl]
      exact beq_self_eq_true _
    · rw [decide_eq_false e]
      refine beq_eq_false_iff_ne.mpr fun z => e ?_
      injection z with z
      injection z with z
      injection z with z _
      exact z.symm
  rw [q, q]
  by_cases e1 : c = 79 <;> by_cases e2 : c = 46 <;> simp [e1, e2]
def sp_cells_of_text : Sp := fun vs H Q _ => ∃ z : Str, vs = [.str z] ∧ z.length ≤ 1000 ∧ (∀ i, (cellsT ((tl z).take i)).2.2.2.length ≤ 3) ∧
  ∀ (H' : Hp) (p : Addr), H p = none → Same H H' → Cells H' p (cellsT (tl z)).1 → Q (.ref p) H'
theorem ok_cells_of_text (T : Txt K mg) : FnOk P w K mg base CX0 1 T.f_cells_of_text T.d_cells_of_text ["string"] sp_cells_of_text := by
  refine T.F_cells_of_text.ok sc_cells_of_text (fun vs H Q E h => ?_) (fun cdv A outer s H vs Q E hr h => ?_)
  · obtain ⟨_, rfl, _⟩ := h
    rfl
  · obtain ⟨z, rfl, lz, small, q⟩ := h
    refine ⟨_, (pss_cons (ps_set (i := 1) sc_cells_of_text.nd rfl (.inl rfl) (pe_lst pa_nil))
      (pss_cons (ps_set (i := 2) sc_cells_of_text.nd rfl (.inr rfl) pe_int)
      (pss_cons (ps_set (i := 3) sc_cells_of_text.nd rfl (.inr rfl) pe_int)
      (pss_cons (ps_set (i := 4) sc_cells_of_text.nd rfl (.inl rfl) pe_str)
      (pss_cons (ps_for PassesOwn.never rfl (pi_str (pv 0)) (pg_name (i := 5) sc_cells_of_text.nd rfl (.inl rfl))
      (pss_cons (ps_if (pt_cmpR op_in_sign (pv 5) (pe_gcx (by rfl) T.c_DIGITS) rfl)
      (pss_cons (ps_aug (i := 4) sc_cells_of_text.nd rfl (.inl rfl) (pv 5) ip_addS)
      (pss_one ps_continue))
      pss_nil)
      (pss_cons (ps_set (i := 6) sc_cells_of_text.nd rfl (.inl rfl) (pe_ifExp (pt_truth (pv 4) (by intro _; rfl)) (pe_callTy call_int_str (by rfl) T.z_int (by decide +kernel) (pa_cons (pv 4) pa_nil)) pe_int))
      (pss_cons (ps_set (i := 4) sc_cells_of_text.nd rfl (.inl rfl) pe_str)
      (pss_cons (ps_if (pt_cmpR op_eq (pv 5) (pe_gcx (by rfl) T.c_ROW_END) (nomark _))
      (pss_cons (ps_aug (i := 2) sc_cells_of_text.nd rfl (.inr rfl) (pv 6) ip_add)
      (pss_one (ps_set (i := 3) sc_cells_of_text.nd rfl (.inr rfl) pe_int)))
      pss_nil)
      (pss_cons (ps_if (pt_cmpR op_eq (pv 5) (pe_gcx (by rfl) T.c_ALIVE) (nomark _))
      (pss_one (ps_expr (pe_bm PySem.F.plainAttrs_list PySem.F.slot_list_extend PySem.F.type_list_extend mt_extend (pv 1) (pa_cons (pe_lc (own := [("step", 7)]) (g := gName 7) (tt := tYes) rfl sc_cells_of_text.nd (pi_range1 (by rfl) T.z_range (pa_cons (pv 6) pa_nil)) (blkOk_by (own := [("step", 7)]) (N := N_cells_of_text) (sc := defScope s_cells_of_text) (by decide +kernel)) (fun _ _ _ _ _ => pg_name (i := 7) sc_cells_of_text.nd rfl (Or.inl rfl)) (fun _ _ _ _ _ => pts_nil) (fun _ _ _ _ _ => (pe_tup (pa_cons (pv 2) (pa_cons (pe_op op_add (pv 3) (pv 7)) pa_nil))))) pa_nil))))
      pss_nil)
      (pss_one (ps_if (pt_cmpR op_in_seq (pv 5) (pe_tup (pa_cons (pe_gcx (by rfl) T.c_ALIVE) (pa_cons (pe_gcx (by rfl) T.c_DEAD) pa_nil))) rfl)
      (pss_one (ps_aug (i := 3) sc_cells_of_text.nd rfl (.inr rfl) (pv 6) ip_add))
      pss_nil))))))))
      (pss_one (ps_ret (pv 1)))))))), ?_⟩
    refine ⟨by k_clsL, fun p np => ?_⟩
    k_invariant "new" (np, H1, e1, g1)
    refine ⟨_, rfl, z, rfl, for_it walk_str (fun i σ H' => ∃ (us : List (Addr × Pr)) (row col : Int) (d : Str) (x y v : Option V), σ = [some (.str z), some (.ref p), some (.int row), some (.int col), some (.str d), x, y, v] ∧ Same H H' ∧
      H' p = some (.lst (us.map fun t => V.ref t.1)) ∧ (∀ u ∈ us, H' u.1 = some (.tup [.int u.2.1, .int u.2.2])) ∧ (us.map (·.2), row, col, tl d) = cellsT ((tl z).take i) ∧ us.length ≤ 1000 * i ∧ NumText.AllDigits (tl d))
      ⟨[], 0, 0, _, _, _, _, rfl, e1, g1, fun _ m => (by cases m), ?_, by decide, ?_⟩ (fun _ _ _ _ _ => trivial) ?_ ?_⟩
    · rw [tl_e]
      rfl
    · rw [tl_e]
      intro c m
      cases m
    · rintro i v σ H2 H' hi ⟨us, row, col, d, x0, y0, v0, rfl, sm, hp, hu, hw, lu, ad⟩ ⟨rfl, c, hc, rfl⟩
      have hc' : (tl z)[i]? = some c := by
        show z.cps.toList[i]? = some c
        rw [Array.getElem?_toList]
        exact hc
      have step : cellsT ((tl z).take (i + 1)) = tStep (us.map (·.2), row, col, tl d) c := by
        unfold cellsT at hw ⊢
        rw [take_next hc', List.foldl_append, ← hw]
        rfl
      have sd : (tl d).length ≤ 3 := by
        have := small i
        rw [← hw] at this
        exact this
      have dl : d.length ≤ 3 := by
        rw [TL.len_tl]
        exact sd
      have nl := numT_lt ad sd
      refine ⟨_, rfl, c, _, rfl, rfl, _, rfl, ite2 (fun cd => ?_) (fun cd => ?_)⟩
      · have cd := mem_digits.mp (of_decide_eq_true cd)
        have tld : tl (d ++ (⟨#[c]⟩ : Str)) = tl d ++ [c] := tl_append _ _
        refine ⟨_, rfl, _, rfl, _, _, rfl, rfl, ?_, us, row, col, d ++ (⟨#[c]⟩ : Str), _, _, _, rfl, sm, hp, hu, ?_, by omega, ?_⟩
        · rw [sizeLine_eq]
          show d.length + 1 ≤ _
          omega
        · rw [step, tld]
          unfold tStep
          rw [if_pos cd]
        · rw [tld]
          intro k m
          rcases List.mem_append.mp m with m | m
          · exact ad k m
          · rw [List.mem_singleton.mp m]
            exact cd
      · have cd : ¬ (48 ≤ c ∧ c ≤ 57) := fun e => cd (decide_eq_true (mem_digits.mpr e))
        refine ⟨_, rfl, decide (tl d ≠ []), ⟨by rw [sizeLine_eq]; omega, ?_⟩, ite2 (fun e => ?_) (fun e => ?_)⟩
        · rw [TL.len_tl]
          cases tl d with
          | nil => rfl
          | cons x l =>
            rw [decide_eq_true (by simp)]
            refine (bne_iff_ne.mpr ?_).symm
            rw [List.length_cons]
            omega
        · have e := of_decide_eq_true e
          have hn : numT (tl d) = NumText.digitsVal (tl d) := if_neg e
          rw [hn] at nl
          refine ⟨_, rfl, d, ((NumText.digitsVal (tl d) : Nat) : Int), rfl, PySem.intText_digits ad e (by omega), by omega, ?_⟩
          have fin : ∀ (ws : List (Addr × Pr)) (r k : Int), (tStep (us.map (·.2), row, col, tl d) c = (ws.map (·.2), r, k, [])) → (ws.map (·.2), r, k, tl (Str.ofString "")) = cellsT ((tl z).take (i + 1)) := fun ws r k e => by rw [step, e, tl_e]
          refine ⟨_, rfl, rfl, _, sg47 c, ite2 (fun a => ?_) (fun a => ?_)⟩
          · have a : c = 47 := of_decide_eq_true a
            refine ⟨_, rfl, _, rfl, _, _, rfl, rfl, ?_⟩
            refine ⟨_, rfl, rfl, _, sg79 c, ite2 (fun b => absurd (of_decide_eq_true b) (by omega)) (fun b => ?_)⟩
            refine ⟨_, rfl, by k_clsL, fun t nt => ?_⟩
            refine ⟨_, _, rfl, .inr (tup_of upd_same), rfl, rfl, _, sgIn c, ite2 (fun b2 => absurd (of_decide_eq_true b2) (by omega)) (fun b2 => ?_)⟩
            have tp : ∀ b o, H' b = some o → upd H' t (.tup [.str (Str.ofString "O"), .str (Str.ofString ".")]) b = some o := newS nt
            refine ⟨us, row + ((NumText.digitsVal (tl d) : Nat) : Int), 0, Str.ofString "", _, _, _, rfl, sm.trans (newS nt), tp _ _ hp, fun u m => tp _ _ (hu u m), fin _ _ _ ?_, by omega, by rw [tl_e]; intro c m; cases m⟩
            unfold tStep
            rw [if_neg cd, if_pos a, hn]
          · have a : ¬ c = 47 := fun e => a (decide_eq_true e)
            refine ⟨_, rfl, rfl, _, sg79 c, ite2 (fun b => ?_) (fun b => ?_)⟩
            · have b : c = 79 := of_decide_eq_true b
              refine ⟨_, rfl, .inl ⟨rfl, _, lst_of hp⟩, _, rfl, ((NumText.digitsVal (tl d) : Nat) : Int), rfl, ?_, ?_, fun D nD => lc_pairs (fun (k : Nat) => (row, col + (0 + (k : Int)))) nD (by rw [sizeLine_eq]; omega) ?_ fun H3 ws e3 gD hws ew => ?_⟩
              · omega
              · omega
              · intro j H4 Po Pn hj sm4 hq
                exact ⟨rfl, tyesT ⟨_, rfl, _, rfl, _, rfl, _, _, rfl, rfl, by k_clsL, fun t2 n2 => hq t2 n2⟩⟩
              · have f1 : (fun (k : Nat) => ((row, col + (0 + (k : Int))) : Pr)) = fun (k : Nat) => (row, col + (k : Int)) := funext fun k => by rw [Int.zero_add]
                have lw : ws.length < 1000 := by
                  have z := congrArg List.length ew
                  rw [List.length_map, List.length_map, List.length_range] at z
                  omega
                have hp3 := e3 _ _ hp
                refine ⟨_, _, _, _, rfl, rfl, hp3, gD, by rw [List.length_map, List.length_map, sizeLine_eq]; have := Array.length_toList (xs := z.cps); have : z.length = z.cps.size := rfl; omega, ?_⟩
                have s5 : Same H (upd H3 p (.lst ((us.map fun t => V.ref t.1) ++ ws.map fun t => V.ref t.1))) := mutS (sm.trans e3) np
                have g5 : upd H3 p (.lst ((us.map fun t => V.ref t.1) ++ ws.map fun t => V.ref t.1)) p = some (.lst ((us ++ ws).map fun t => V.ref t.1)) := by rw [upd_same, List.map_append]
                have u5 : ∀ u ∈ us ++ ws, upd H3 p (.lst ((us.map fun t => V.ref t.1) ++ ws.map fun t => V.ref t.1)) u.1 = some (.tup [.int u.2.1, .int u.2.2]) := fun u m => by
                  have g : H3 u.1 = some (.tup [.int u.2.1, .int u.2.2]) := by
                    rcases List.mem_append.mp m with m | m
                    · exact e3 _ _ (hu u m)
                    · exact hws u m
                  rw [upd_ne (fun e => by rw [e, hp3] at g; cases g)]
                  exact g
                generalize upd H3 p (.lst ((us.map fun t => V.ref t.1) ++ ws.map fun t => V.ref t.1)) = H5 at s5 g5 u5
                refine ⟨_, rfl, by k_clsL, fun t nt => ?_⟩
                have tp : ∀ b o, H5 b = some o → upd H5 t (.tup [.str (Str.ofString "O"), .str (Str.ofString ".")]) b = some o := newS nt
                refine ⟨_, _, rfl, .inr (tup_of upd_same), rfl, rfl, _, sgIn c, ite2 (fun b2 => ?_) (fun b2 => absurd (decide_eq_true (.inl b)) b2)⟩
                refine ⟨_, rfl, _, rfl, _, _, rfl, rfl, us ++ ws, row, col + ((NumText.digitsVal (tl d) : Nat) : Int), Str.ofString "", _, _, _, rfl, s5.trans (newS nt), tp _ _ g5, fun u m => tp _ _ (u5 u m), fin _ _ _ ?_, by rw [List.length_append]; omega, by rw [tl_e]; intro c m; cases m⟩
                rw [List.map_append, ew, f1]
                unfold tStep
                rw [if_neg cd, if_neg a, if_pos b, hn, Int.toNat_natCast]
            · have b : ¬ c = 79 := fun e => b (decide_eq_true e)
              refine ⟨_, rfl, by k_clsL, fun t nt => ?_⟩
              have tp : ∀ b o, H' b = some o → upd H' t (.tup [.str (Str.ofString "O"), .str (Str.ofString ".")]) b = some o := newS nt
              refine ⟨_, _, rfl, .inr (tup_of upd_same), rfl, rfl, _, sgIn c, ite2 (fun b2 => ?_) (fun b2 => ?_)⟩
              · have b2 : c = 46 := by have := of_decide_eq_true b2; omega
                refine ⟨_, rfl, _, rfl, _, _, rfl, rfl, us, row, col + ((NumText.digitsVal (tl d) : Nat) : Int), Str.ofString "", _, _, _, rfl, sm.trans (newS nt), tp _ _ hp, fun u m => tp _ _ (hu u m), fin _ _ _ ?_, by omega, by rw [tl_e]; intro c m; cases m⟩
                unfold tStep
                rw [if_neg cd, if_neg a, if_neg b, if_pos b2, hn]
              · have b2 : ¬ c = 46 := fun e => b2 (decide_eq_true (.inr e))
                refine ⟨us, row, col, Str.ofString "", _, _, _, rfl, sm.trans (newS nt), tp _ _ hp, fun u m => tp _ _ (hu u m), fin _ _ _ ?_, by omega, by rw [tl_e]; intro c m; cases m⟩
                unfold tStep
                rw [if_neg cd, if_neg a, if_neg b, if_neg b2]
        · have e : tl d = [] := by
            by_cases z : tl d = []
            · exact z
            · exact absurd (decide_eq_true z) e
          have hn : numT (tl d) = 1 := if_pos e
          have fin : ∀ (ws : List (Addr × Pr)) (r k : Int), (tStep (us.map (·.2), row, col, tl d) c = (ws.map (·.2), r, k, [])) → (ws.map (·.2), r, k, tl (Str.ofString "")) = cellsT ((tl z).take (i + 1)) := fun ws r k e => by rw [step, e, tl_e]
          refine ⟨_, rfl, rfl, _, sg47 c, ite2 (fun a => ?_) (fun a => ?_)⟩
          · have a : c = 47 := of_decide_eq_true a
            refine ⟨_, rfl, _, rfl, _, _, rfl, rfl, ?_⟩
            refine ⟨_, rfl, rfl, _, sg79 c, ite2 (fun b => absurd (of_decide_eq_true b) (by omega)) (fun b => ?_)⟩
            refine ⟨_, rfl, by k_clsL, fun t nt => ?_⟩
            refine ⟨_, _, rfl, .inr (tup_of upd_same), rfl, rfl, _, sgIn c, ite2 (fun b2 => absurd (of_decide_eq_true b2) (by omega)) (fun b2 => ?_)⟩
            have tp : ∀ b o, H' b = some o → upd H' t (.tup [.str (Str.ofString "O"), .str (Str.ofString ".")]) b = some o := newS nt
            refine ⟨us, row + ((1 : Nat) : Int), 0, Str.ofString "", _, _, _, rfl, sm.trans (newS nt), tp _ _ hp, fun u m => tp _ _ (hu u m), fin _ _ _ ?_, by omega, by rw [tl_e]; intro c m; cases m⟩
            unfold tStep
            rw [if_neg cd, if_pos a, hn]
          · have a : ¬ c = 47 := fun e => a (decide_eq_true e)
            refine ⟨_, rfl, rfl, _, sg79 c, ite2 (fun b => ?_) (fun b => ?_)⟩
            · have b : c = 79 := of_decide_eq_true b
              refine ⟨_, rfl, .inl ⟨rfl, _, lst_of hp⟩, _, rfl, ((1 : Nat) : Int), rfl, ?_, ?_, fun D nD => lc_pairs (fun (k : Nat) => (row, col + (0 + (k : Int)))) nD (by rw [sizeLine_eq]; omega) ?_ fun H3 ws e3 gD hws ew => ?_⟩
              · omega
              · omega
              · intro j H4 Po Pn hj sm4 hq
                exact ⟨rfl, tyesT ⟨_, rfl, _, rfl, _, rfl, _, _, rfl, rfl, by k_clsL, fun t2 n2 => hq t2 n2⟩⟩
              · have f1 : (fun (k : Nat) => ((row, col + (0 + (k : Int))) : Pr)) = fun (k : Nat) => (row, col + (k : Int)) := funext fun k => by rw [Int.zero_add]
                have lw : ws.length < 1000 := by
                  have z := congrArg List.length ew
                  rw [List.length_map, List.length_map, List.length_range] at z
                  omega
                have hp3 := e3 _ _ hp
                refine ⟨_, _, _, _, rfl, rfl, hp3, gD, by rw [List.length_map, List.length_map, sizeLine_eq]; have := Array.length_toList (xs := z.cps); have : z.length = z.cps.size := rfl; omega, ?_⟩
                have s5 : Same H (upd H3 p (.lst ((us.map fun t => V.ref t.1) ++ ws.map fun t => V.ref t.1))) := mutS (sm.trans e3) np
                have g5 : upd H3 p (.lst ((us.map fun t => V.ref t.1) ++ ws.map fun t => V.ref t.1)) p = some (.lst ((us ++ ws).map fun t => V.ref t.1)) := by rw [upd_same, List.map_append]
                have u5 : ∀ u ∈ us ++ ws, upd H3 p (.lst ((us.map fun t => V.ref t.1) ++ ws.map fun t => V.ref t.1)) u.1 = some (.tup [.int u.2.1, .int u.2.2]) := fun u m => by
                  have g : H3 u.1 = some (.tup [.int u.2.1, .int u.2.2]) := by
                    rcases List.mem_append.mp m with m | m
                    · exact e3 _ _ (hu u m)
                    · exact hws u m
                  rw [upd_ne (fun e => by rw [e, hp3] at g; cases g)]
                  exact g
                generalize upd H3 p (.lst ((us.map fun t => V.ref t.1) ++ ws.map fun t => V.ref t.1)) = H5 at s5 g5 u5
                refine ⟨_, rfl, by k_clsL, fun t nt => ?_⟩
                have tp : ∀ b o, H5 b = some o → upd H5 t (.tup [.str (Str.ofString "O"), .str (Str.ofString ".")]) b = some o := newS nt
                refine ⟨_, _, rfl, .inr (tup_of upd_same), rfl, rfl, _, sgIn c, ite2 (fun b2 => ?_) (fun b2 => absurd (decide_eq_true (.inl b)) b2)⟩
                refine ⟨_, rfl, _, rfl, _, _, rfl, rfl, us ++ ws, row, col + ((1 : Nat) : Int), Str.ofString "", _, _, _, rfl, s5.trans (newS nt), tp _ _ g5, fun u m => tp _ _ (u5 u m), fin _ _ _ ?_, by rw [List.length_append]; omega, by rw [tl_e]; intro c m; cases m⟩
                rw [List.map_append, ew, f1]
                unfold tStep
                rw [if_neg cd, if_neg a, if_pos b, hn, Int.toNat_natCast]
            · have b : ¬ c = 79 := fun e => b (decide_eq_true e)
              refine ⟨_, rfl, by k_clsL, fun t nt => ?_⟩
              have tp : ∀ b o, H' b = some o → upd H' t (.tup [.str (Str.ofString "O"), .str (Str.ofString ".")]) b = some o := newS nt
              refine ⟨_, _, rfl, .inr (tup_of upd_same), rfl, rfl, _, sgIn c, ite2 (fun b2 => ?_) (fun b2 => ?_)⟩
              · have b2 : c = 46 := by have := of_decide_eq_true b2; omega
                refine ⟨_, rfl, _, rfl, _, _, rfl, rfl, us, row, col + ((1 : Nat) : Int), Str.ofString "", _, _, _, rfl, sm.trans (newS nt), tp _ _ hp, fun u m => tp _ _ (hu u m), fin _ _ _ ?_, by omega, by rw [tl_e]; intro c m; cases m⟩
                unfold tStep
                rw [if_neg cd, if_neg a, if_neg b, if_pos b2, hn]
              · have b2 : ¬ c = 46 := fun e => b2 (decide_eq_true (.inr e))
                refine ⟨us, row, col, Str.ofString "", _, _, _, rfl, sm.trans (newS nt), tp _ _ hp, fun u m => tp _ _ (hu u m), fin _ _ _ ?_, by omega, by rw [tl_e]; intro c m; cases m⟩
                unfold tStep
                rw [if_neg cd, if_neg a, if_neg b, if_neg b2]
    · rintro σ H' ⟨us, row, col, d, x0, y0, v0, rfl, sm, hp, hu, hw, lu, ad⟩
      have tk : (tl z).take z.cps.size = tl z := List.take_of_length_le (by show z.cps.toList.length ≤ _; rw [Array.length_toList]; exact Nat.le_refl _)
      rw [tk] at hw
      exact ⟨_, rfl, q H' p np sm ⟨us, hp, hu, congrArg Prod.fst hw⟩⟩
end
end My
namespace My
open PySem PySem.Spec PyProof.Rows L2 Vx
open TL
local macro_rules | `(tactic| k_invariant "new" ($n, $H:ident, $e:ident, $h:ident)) => `(tactic| (generalize hE : upd _ _ _ = $H; obtain ⟨$e:ident, $h:ident⟩ := gen_e hE $n; clear hE))
local macro_rules | `(tactic| k_places) => `(tactic| first
  | assumption
  | exact lst_of (by assumption)
  | exact tup_of (by assumption)
  | (refine getS (by assumption) ?_; k_places)
  | (refine Same.seq (by assumption) ?_; k_places)
  | (refine tupS (by assumption) ?_; k_places)
  | (refine lst_of ?_; k_places)
  | (refine tup_of ?_; k_places))
local macro_rules | `(tactic| k_subL) => `(tactic| first
  | k_places
  | solve_by_elim (maxDepth := 10) [getS, lst_of, tup_of, Same.seq, tupS])
local macro_rules | `(tactic| k_offL) => `(tactic| first
  | (show (0 : Int) < _; first | omega | decide)
  | (refine ⟨?_, ?_⟩ <;> first | omega | decide)
  | exact .inr ⟨by decide, by decide⟩
  | exact .inl ⟨by decide, by decide⟩
  | exact .inl ⟨by omega, by omega⟩
  | omega)
local macro_rules | `(tactic| k_clsL) => `(tactic| exact Nat.le_of_ble_eq_true rfl)
section
variable {P : Program} {w : World} {K : PySem.W.Frag} {mg : Str → Option Value} {base : Heap}
/-! ### what is written is read back -/
def runCells (t : Run) : List Pr := (List.range t.2.2.toNat).map fun (k : Nat) => (t.1, t.2.1 + (k : Int))
theorem runCells_one (r c : Int) : runCells (r, c, 1) = [(r, c)] := by
  show [(r, c + ((0 : Nat) : Int))] = _
  rw [show c + ((0 : Nat) : Int) = c by omega]
theorem runCells_more {r c n : Int} (h : 0 ≤ n) : runCells (r, c, n + 1) = runCells (r, c, n) ++ [(r, c + n)] := by
  unfold runCells
  show (List.range (n + 1).toNat).map _ = _
  rw [show (n + 1).toNat = n.toNat + 1 by omega, List.range_succ, List.map_append]
  show _ ++ [(r, c + ((n.toNat : Nat) : Int))] = _
  rw [show ((n.toNat : Nat) : Int) = n by omega]
/-- runs in order, from a row and a place on: each behind the one before -/
def Ordered : Int → Int → List Run → Prop
  | _, _, [] => True
  | row, en, t :: rs => (row < t.1 ∧ 0 ≤ t.2.1 ∨ row = t.1 ∧ en ≤ t.2.1) ∧ 1 ≤ t.2.2 ∧ Ordered t.1 (t.2.1 + t.2.2) rs
theorem runs_back : ∀ (l : List Pr) (rs : List Run), (∀ t ∈ rs, 1 ≤ t.2.2) → ((l.foldl runStep rs).map runCells).flatten = (rs.map runCells).flatten ++ l ∧ ∀ t ∈ l.foldl runStep rs, 1 ≤ t.2.2
  | [], rs, h => ⟨by simp, h⟩
  | x :: l, rs, h => by
    rw [List.foldl_cons]
    have key : ((runStep rs x).map runCells).flatten = (rs.map runCells).flatten ++ [x] ∧ ∀ t ∈ runStep rs x, 1 ≤ t.2.2 := by
      rcases List.eq_nil_or_concat rs with rfl | ⟨us, u, e⟩
      · refine ⟨?_, fun t m => ?_⟩
        · show (([(x.1, x.2, (1 : Int))]).map runCells).flatten = _
          simp [runCells_one]
        · have m : t ∈ [(x.1, x.2, (1 : Int))] := m
          rw [List.mem_singleton.mp m]
          exact Int.le_refl 1
      · rw [List.concat_eq_append] at e
        subst e
        have hu := h u (List.mem_append.mpr (.inr (List.mem_singleton.mpr rfl)))
        rw [runStep_last]
        by_cases c : u.1 = x.1 ∧ u.2.1 + u.2.2 = x.2
        · rw [if_pos c]
          refine ⟨?_, fun t m => ?_⟩
          · rw [List.map_append, List.map_append, List.flatten_append, List.flatten_append]
            show _ ++ [runCells (u.1, u.2.1, u.2.2 + 1)].flatten = _ ++ [runCells u].flatten ++ _
            rw [runCells_more (by omega), c.2, c.1]
            have : runCells (x.1, u.2.1, u.2.2) = runCells u := by rw [← c.1]
            rw [this]
            simp
          · rcases List.mem_append.mp m with m | m
            · exact h t (List.mem_append.mpr (.inl m))
            · rw [List.mem_singleton.mp m]
              show 1 ≤ u.2.2 + 1
              omega
        · rw [if_neg c]
          refine ⟨?_, fun t m => ?_⟩
          · rw [List.map_append (l₁ := us ++ [u]), List.flatten_append]
            show _ ++ [runCells (x.1, x.2, 1)].flatten = _
            rw [runCells_one]
            simp
          · rcases List.mem_append.mp m with m | m
            · exact h t m
            · rw [List.mem_singleton.mp m]
              exact Int.le_refl 1
    obtain ⟨h1, h2⟩ := runs_back l (runStep rs x) key.2
    refine ⟨?_, h2⟩
    rw [h1, key.1]
    simp
theorem runs_cells (l : List Pr) : ((runsP l).map runCells).flatten = l := by
  have h := (runs_back l [] fun _ m => (by cases m)).1
  unfold runsP
  rw [h]
  rfl
theorem ord_snoc : ∀ (rs : List Run) (u t : Run) (row en : Int), Ordered row en (rs ++ [u]) → (u.1 < t.1 ∧ 0 ≤ t.2.1 ∨ u.1 = t.1 ∧ u.2.1 + u.2.2 ≤ t.2.1) → 1 ≤ t.2.2 → Ordered row en (rs ++ [u] ++ [t])
  | [], u, t, row, en, h, h1, h2 => ⟨h.1, h.2.1, h1, h2, trivial⟩
  | x :: rs, u, t, row, en, h, h1, h2 => ⟨h.1, h.2.1, ord_snoc rs u t _ _ h.2.2 h1 h2⟩
theorem ord_grow : ∀ (rs : List Run) (u : Run) (row en : Int), Ordered row en (rs ++ [u]) → Ordered row en (rs ++ [(u.1, u.2.1, u.2.2 + 1)])
  | [], u, row, en, h => ⟨h.1, by show 1 ≤ u.2.2 + 1; have := h.2.1; omega, trivial⟩
  | x :: rs, u, row, en, h => ⟨h.1, h.2.1, ord_grow rs u _ _ h.2.2⟩
theorem ord_runs : ∀ (l : List Pr) (rs : List Run), Ordered 0 0 rs → (∀ x ∈ l, 0 ≤ x.1 ∧ 0 ≤ x.2) → l.Pairwise ltP → (∀ us u, rs = us ++ [u] → ∀ x ∈ l, u.1 < x.1 ∨ u.1 = x.1 ∧ u.2.1 + u.2.2 ≤ x.2) → Ordered 0 0 (l.foldl runStep rs)
  | [], rs, h, _, _, _ => h
  | x :: l, rs, h, h1, h2, h3 => by
    rw [List.foldl_cons]
    have hx := h1 x List.mem_cons_self
    obtain ⟨p1, p2⟩ := List.pairwise_cons.mp h2
    have nx : ∀ y ∈ l, x.1 < y.1 ∨ x.1 = y.1 ∧ x.2 + 1 ≤ y.2 := fun y m => by
      have := ltP_iff.mp (p1 y m)
      omega
    rcases List.eq_nil_or_concat rs with rfl | ⟨us, u, e⟩
    · refine ord_runs l _ ?_ (fun y m => h1 y (List.mem_cons_of_mem _ m)) p2 ?_
      · show Ordered 0 0 [(x.1, x.2, (1 : Int))]
        refine ⟨?_, Int.le_refl 1, trivial⟩
        show (0 : Int) < x.1 ∧ 0 ≤ x.2 ∨ 0 = x.1 ∧ 0 ≤ x.2
        omega
      · intro us u e y m
        have e : [(x.1, x.2, (1 : Int))] = us ++ [u] := e
        have e2 : us ++ [u] = [] ++ [(x.1, x.2, (1 : Int))] := e.symm
        have := (List.append_inj' e2 rfl).2
        rw [List.cons.inj this |>.1]
        exact nx y m
    · rw [List.concat_eq_append] at e
      subst e
      have link := h3 us u rfl x List.mem_cons_self
      rw [runStep_last]
      by_cases c : u.1 = x.1 ∧ u.2.1 + u.2.2 = x.2
      · rw [if_pos c]
        refine ord_runs l _ (ord_grow us u _ _ h) (fun y m => h1 y (List.mem_cons_of_mem _ m)) p2 ?_
        intro vs v e y m
        have := (List.append_inj' e rfl).2
        rw [← List.cons.inj this |>.1]
        have := nx y m
        show u.1 < y.1 ∨ u.1 = y.1 ∧ u.2.1 + (u.2.2 + 1) ≤ y.2
        omega
      · rw [if_neg c]
        refine ord_runs l _ (ord_snoc us u _ _ _ h ?_ (Int.le_refl 1)) (fun y m => h1 y (List.mem_cons_of_mem _ m)) p2 ?_
        · show u.1 < x.1 ∧ 0 ≤ x.2 ∨ u.1 = x.1 ∧ u.2.1 + u.2.2 ≤ x.2
          omega
        · intro vs v e y m
          have := (List.append_inj' e rfl).2
          rw [← List.cons.inj this |>.1]
          exact nx y m
/-! ### parsing one count -/
theorem fold_digits (cs : List Pr) (row col : Int) : ∀ (ds acc : List Nat), NumText.AllDigits ds → ds.foldl tStep (cs, row, col, acc) = (cs, row, col, acc ++ ds)
  | [], acc, _ => by simp
  | d :: ds, acc, h => by
    have hd : tStep (cs, row, col, acc) d = (cs, row, col, acc ++ [d]) := by
      unfold tStep
      rw [if_pos h.head]
    rw [List.foldl_cons, hd, fold_digits cs row col ds _ h.tail, List.append_assoc]
    rfl
def tNum (cs : List Pr) (row col : Int) (n : Nat) (c : Nat) : TSt :=
  if c = 47 then (cs, row + n, 0, [])
  else if c = 79 then (cs ++ (List.range n).map (fun (k : Nat) => (row, col + (k : Int))), row, col + n, [])
  else if c = 46 then (cs, row, col + n, [])
  else (cs, row, col, [])
theorem tStep_num (cs : List Pr) (row col : Int) (d : List Nat) {c : Nat} (hc : ¬ (48 ≤ c ∧ c ≤ 57)) : tStep (cs, row, col, d) c = tNum cs row col (numT d) c := by
  unfold tStep tNum
  rw [if_neg hc]
theorem parse_cnt (cs : List Pr) (row col : Int) {m : Int} (h0 : 1 ≤ m) (h1 : m < 1000) {c : Nat} (hc : ¬ (48 ≤ c ∧ c ≤ 57)) :
    (cntL m c).foldl tStep (cs, row, col, []) = tNum cs row col m.toNat c ∧ ∀ i, (((cntL m c).take i).foldl tStep (cs, row, col, [])).2.2.2.length ≤ 3 := by
  have nod : ∀ n, (tNum cs row col n c).2.2.2 = [] := fun n => by
    unfold tNum
    by_cases e1 : c = 47
    · rw [if_pos e1]
    · by_cases e2 : c = 79
      · rw [if_neg e1, if_pos e2]
      · by_cases e3 : c = 46
        · rw [if_neg e1, if_neg e2, if_pos e3]
        · rw [if_neg e1, if_neg e2, if_neg e3]
  by_cases e : m = 1
  · have ec : cntL m c = [c] := if_pos e
    have s1 : tStep (cs, row, col, []) c = tNum cs row col m.toNat c := by
      rw [tStep_num _ _ _ _ hc, e]
      rfl
    rw [ec]
    refine ⟨s1, fun i => ?_⟩
    cases i with
    | zero => exact Nat.zero_le 3
    | succ i =>
      show (List.foldl tStep (tStep (cs, row, col, []) c) (List.take i [])).2.2.2.length ≤ 3
      rw [List.take_nil, s1]
      show (tNum cs row col m.toNat c).2.2.2.length ≤ 3
      rw [nod]
      exact Nat.zero_le 3
  · have em : m = ((m.toNat : Nat) : Int) := by omega
    have ec : cntL m c = numL m.toNat ++ [c] := by
      unfold cntL
      rw [if_neg e]
      conv => lhs; rw [em]
      rw [tl_num]
    have len := numL_len (n := m.toNat) (k := 3) (by decide) (by omega)
    have fd := fold_digits cs row col (numL m.toNat) [] (numL_digits _)
    have s1 : tStep (cs, row, col, numL m.toNat) c = tNum cs row col m.toNat c := by
      rw [tStep_num _ _ _ _ hc]
      unfold numT
      rw [if_neg (numL_ne _), numL_val]
    rw [ec]
    refine ⟨?_, fun i => ?_⟩
    · rw [List.foldl_append, fd]
      exact s1
    · by_cases c1 : i ≤ (numL m.toNat).length
      · rw [List.take_append_of_le_length c1, fold_digits cs row col _ [] fun d md => numL_digits _ d (List.mem_of_mem_take md)]
        show ([] ++ (numL m.toNat).take i).length ≤ 3
        rw [List.nil_append, List.length_take]
        omega
      · rw [List.take_of_length_le (by rw [List.length_append, List.length_singleton]; omega), List.foldl_append, fd]
        show (tStep (cs, row, col, [] ++ numL m.toNat) c).2.2.2.length ≤ 3
        rw [List.nil_append, s1, nod]
        exact Nat.zero_le 3
def Sm (l : List Nat) : Prop := ∀ i, (cellsT (l.take i)).2.2.2.length ≤ 3
theorem Sm.app {acc l : List Nat} {st : TSt} (h : Sm acc) (e : cellsT acc = st) (q : ∀ i, ((l.take i).foldl tStep st).2.2.2.length ≤ 3) : Sm (acc ++ l) := fun i => by
  by_cases c : i ≤ acc.length
  · rw [List.take_append_of_le_length c]
    exact h i
  · rw [show i = acc.length + (i - acc.length) by omega, List.take_length_add_append]
    unfold cellsT at e ⊢
    rw [List.foldl_append, e]
    exact q _
theorem cellsT_app {acc l : List Nat} {st : TSt} (e : cellsT acc = st) : cellsT (acc ++ l) = l.foldl tStep st := by
  unfold cellsT at e ⊢
  rw [List.foldl_append, e]
theorem parse_add {cs : List Pr} {row col : Int} {acc : List Nat} (h : cellsT acc = (cs, row, col, [])) (s : Sm acc) {m : Int} (h0 : 1 ≤ m) (h1 : m < 1000) {c : Nat} (hc : ¬ (48 ≤ c ∧ c ≤ 57)) :
    cellsT (acc ++ cntL m c) = tNum cs row col m.toNat c ∧ Sm (acc ++ cntL m c) := by
  obtain ⟨a, b⟩ := parse_cnt cs row col h0 h1 hc
  exact ⟨(cellsT_app h).trans a, s.app h b⟩
theorem parse_runs : ∀ (rs : List Run) (row en : Int) (cs : List Pr) (acc : List Nat), 0 ≤ row → 0 ≤ en → Ordered row en rs → (∀ t ∈ rs, t.1 < 1000 ∧ t.2.1 < 1000 ∧ t.2.2 < 1000) → cellsT acc = (cs, row, en, []) → Sm acc →
    (∃ r e, cellsT (rs.foldl wStep (acc, row, en)).1 = (cs ++ (rs.map runCells).flatten, r, e, [])) ∧ Sm (rs.foldl wStep (acc, row, en)).1
  | [], row, en, cs, acc, _, _, _, _, h, s => by
    refine ⟨⟨row, en, ?_⟩, s⟩
    show cellsT acc = _
    rw [h]
    simp
  | t :: rs, row, en, cs, acc, r0, e0, o, b, h, s => by
    obtain ⟨o1, o2, o3⟩ := o
    obtain ⟨b1, b2, b3⟩ := b t List.mem_cons_self
    rw [List.foldl_cons]
    -- the row
    have A : ∃ acc1 en1, (if row < t.1 then (acc ++ cntL (t.1 - row) 47, t.1, 0) else (acc, row, en)) = (acc1, t.1, en1) ∧ 0 ≤ en1 ∧ en1 ≤ t.2.1 ∧ cellsT acc1 = (cs, t.1, en1, []) ∧ Sm acc1 := by
      by_cases c : row < t.1
      · obtain ⟨x, y⟩ := parse_add h s (m := t.1 - row) (by omega) (by omega) (c := 47) (by decide)
        refine ⟨acc ++ cntL (t.1 - row) 47, 0, if_pos c, Int.le_refl 0, by omega, ?_, y⟩
        rw [x]
        unfold tNum
        rw [if_pos rfl, show row + (((t.1 - row).toNat : Nat) : Int) = t.1 by omega]
      · have e : row = t.1 := by omega
        exact ⟨acc, en, by rw [if_neg c, e], e0, by omega, by rw [h, e], s⟩
    obtain ⟨acc1, en1, w1, e1, le1, h1, s1⟩ := A
    have B : ∃ acc2, (if en1 < t.2.1 then acc1 ++ cntL (t.2.1 - en1) 46 else acc1) = acc2 ∧ cellsT acc2 = (cs, t.1, t.2.1, []) ∧ Sm acc2 := by
      by_cases c : en1 < t.2.1
      · obtain ⟨x, y⟩ := parse_add h1 s1 (m := t.2.1 - en1) (by omega) (by omega) (c := 46) (by decide)
        refine ⟨acc1 ++ cntL (t.2.1 - en1) 46, if_pos c, ?_, y⟩
        rw [x]
        unfold tNum
        rw [if_neg (by decide), if_neg (by decide), if_pos rfl, show en1 + (((t.2.1 - en1).toNat : Nat) : Int) = t.2.1 by omega]
      · exact ⟨acc1, if_neg c, by rw [h1, show en1 = t.2.1 by omega], s1⟩
    obtain ⟨acc2, w2, h2, s2⟩ := B
    obtain ⟨x, y⟩ := parse_add h2 s2 (m := t.2.2) o2 b3 (c := 79) (by decide)
    rw [wStep_eq w1 w2]
    have hx : cellsT (acc2 ++ cntL t.2.2 79) = (cs ++ runCells t, t.1, t.2.1 + t.2.2, []) := by
      rw [x]
      unfold tNum
      rw [if_neg (by decide), if_pos rfl, show t.2.1 + ((t.2.2.toNat : Nat) : Int) = t.2.1 + t.2.2 by omega]
      rfl
    obtain ⟨⟨r, e, z⟩, w⟩ := parse_runs rs t.1 (t.2.1 + t.2.2) (cs ++ runCells t) _ (by omega) (by omega) o3 (fun u m => b u (List.mem_cons_of_mem _ m)) hx y
    refine ⟨⟨r, e, ?_⟩, w⟩
    rw [z]
    simp
/-- a home form, written and read back -/
theorem parse_home {qs : List Pr} (pw : qs.Pairwise ltP) (nn : ∀ x ∈ qs, 0 ≤ x.1 ∧ 0 ≤ x.2) (b : ∀ t ∈ runsP qs, t.1 < 1000 ∧ t.2.1 < 1000 ∧ t.2.2 < 1000) : (cellsT (writeP (runsP qs))).1 = qs ∧ Sm (writeP (runsP qs)) := by
  have o := ord_runs qs [] trivial nn pw (fun us u e => by
    have := congrArg List.length e
    rw [List.length_append] at this
    simp at this)
  obtain ⟨⟨r, e, h⟩, s⟩ := parse_runs (runsP qs) 0 0 [] [] (Int.le_refl 0) (Int.le_refl 0) o b rfl (fun i => by rw [List.take_nil]; exact Nat.zero_le 3)
  rw [runs_cells] at h
  have last : tStep (qs, r, e, []) 33 = (qs, r, e, []) := by
    unfold tStep
    rw [if_neg (by decide), if_neg (by decide), if_neg (by decide), if_neg (by decide)]
  unfold writeP
  refine ⟨?_, ?_⟩
  · rw [cellsT_app h]
    show (tStep ([] ++ qs, r, e, []) 33).1 = qs
    rw [List.nil_append, last]
  · refine Sm.app s h fun i => ?_
    cases i with
    | zero => exact Nat.zero_le 3
    | succ i =>
      show (List.foldl tStep (tStep ([] ++ qs, r, e, []) 33) (List.take i [])).2.2.2.length ≤ 3
      rw [List.take_nil, List.nil_append, last]
      exact Nat.zero_le 3
end
end My
namespace My
open PySem PySem.Spec PyProof.Rows L2 Vx
open TL
local macro_rules | `(tactic| k_invariant "new" ($n, $H:ident, $e:ident, $h:ident)) => `(tactic| (generalize hE : upd _ _ _ = $H; obtain ⟨$e:ident, $h:ident⟩ := gen_e hE $n; clear hE))
local macro_rules | `(tactic| k_places) => `(tactic| first
  | assumption
  | exact lst_of (by assumption)
  | exact tup_of (by assumption)
  | (refine getS (by assumption) ?_; k_places)
  | (refine Same.seq (by assumption) ?_; k_places)
  | (refine tupS (by assumption) ?_; k_places)
  | (refine lst_of ?_; k_places)
  | (refine tup_of ?_; k_places))
local macro_rules | `(tactic| k_subL) => `(tactic| first
  | k_places
  | solve_by_elim (maxDepth := 10) [getS, lst_of, tup_of, Same.seq, tupS])
local macro_rules | `(tactic| k_offL) => `(tactic| first
  | (show (0 : Int) < _; first | omega | decide)
  | (refine ⟨?_, ?_⟩ <;> first | omega | decide)
  | exact .inr ⟨by decide, by decide⟩
  | exact .inl ⟨by decide, by decide⟩
  | exact .inl ⟨by omega, by omega⟩
  | omega)
local macro_rules | `(tactic| k_clsL) => `(tactic| exact Nat.le_of_ble_eq_true rfl)
section
variable {P : Program} {w : World} {K : PySem.W.Frag} {mg : Str → Option Value} {base : Heap}
theorem tlInj {s z : Str} (h : tl s = tl z) : s = z := by
  obtain ⟨a⟩ := s
  obtain ⟨b⟩ := z
  have h : a.toList = b.toList := h
  rw [show a = b from Array.toList_inj.mp h]
def IsHome (qs : List Pr) : Prop := qs.Pairwise ltP ∧ (qs ≠ [] → Least 0 (rowsP qs) ∧ Least 0 (colsP qs))
theorem IsHome.nn {qs : List Pr} (h : IsHome qs) : ∀ x ∈ qs, 0 ≤ x.1 ∧ 0 ≤ x.2 := fun x m => by
  obtain ⟨a, b⟩ := h.2 (fun e => by rw [e] at m; cases m)
  exact ⟨a.2 _ (List.mem_map.mpr ⟨x, m, rfl⟩), b.2 _ (List.mem_map.mpr ⟨x, m, rfl⟩)⟩
theorem IsHome.same {qs rs : List Pr} (h : IsHome qs) (hm : HomeOf qs rs) : rs = qs := by
  by_cases e : qs = []
  · rw [hm.1 e, e]
  · obtain ⟨a, b⟩ := h.2 e
    refine canP_eq (hm.2 0 0 a b) h.1 fun k => ?_
    rw [show addP (-0) (-0) = id from funext fun x => ?_, List.map_id]
    show (x.1 + -0, x.2 + -0) = x
    rw [Int.neg_zero, Int.add_zero, Int.add_zero]
theorem le_sum : ∀ (l : List Nat) (x : Nat), x ∈ l → x ≤ l.sum
  | y :: l, x, m => by
    rw [List.sum_cons]
    rcases List.mem_cons.mp m with e | m
    · omega
    · have := le_sum l x m
      omega
theorem runs_small {qs : List Pr} (b : ∀ x ∈ qs, x.1 < 1000 ∧ x.2 < 1000) (l : qs.length < 64) : ∀ t ∈ runsP qs, t.1 < 1000 ∧ t.2.1 < 1000 ∧ t.2.2 < 1000 := fun t m => by
  have hc := runs_cells qs
  have h1 := (runs_back qs [] fun _ m => (by cases m)).2 t m
  have sub : ∀ y ∈ runCells t, y ∈ qs := fun y my => by
    rw [← hc]
    exact List.mem_flatten.mpr ⟨runCells t, List.mem_map.mpr ⟨t, m, rfl⟩, my⟩
  have first : (t.1, t.2.1) ∈ runCells t := by
    refine List.mem_map.mpr ⟨0, List.mem_range.mpr (by omega), ?_⟩
    rw [show t.2.1 + ((0 : Nat) : Int) = t.2.1 by omega]
  have f := b _ (sub _ first)
  refine ⟨f.1, f.2, ?_⟩
  have len : (runCells t).length ≤ qs.length := by
    rw [← hc, List.length_flatten, List.map_map]
    refine le_sum _ _ (List.mem_map.mpr ⟨t, m, rfl⟩)
  have : (runCells t).length = t.2.2.toNat := by
    unfold runCells
    rw [List.length_map, List.length_range]
  omega
def sp_read_text : Sp := fun vs H Q _ => ∃ (z : Str) (qs : List Pr), vs = [.str z] ∧ z.length ≤ 1000 ∧ IsHome qs ∧ (∀ x ∈ qs, x.1 < 1000 ∧ x.2 < 1000) ∧ qs.length < 64 ∧ tl z = writeP (runsP qs) ∧
  ∀ (H' : Hp) (p : Addr), H p = none → Same H H' → Cells H' p qs → Q (.ref p) H'
theorem ok_read_text (T : Txt K mg) : FnOk P w K mg base CX0 5 T.f_read_text T.d_read_text ["string"] sp_read_text := by
  refine T.F_read_text.ok sc_read_text (fun vs H Q E h => ?_) (fun cdv A outer s H vs Q E hr h => ?_)
  · obtain ⟨_, _, rfl, _⟩ := h
    rfl
  · obtain ⟨z, qs, rfl, lz, hh, b, few, ez, q⟩ := h
    refine ⟨_, (pss_cons (ps_set (i := 1) sc_read_text.nd rfl (.inl rfl) (pe_call (ok_cells_of_text T) (hr.mono (by decide)) (by rfl) T.g_cells_of_text T.F_cells_of_text.kp T.b_cells_of_text .nil pass0 (pa_cons (pv 0) pa_nil)))
      (pss_cons (ps_if (pt_cmpR op_ne (pe_call (ok_write_text T) (hr.mono (by decide)) (by rfl) T.g_write_text T.F_write_text.kp T.b_write_text .nil pass0 (pa_cons (pv 1) pa_nil)) (pv 0) (nomark _))
      (pss_one ps_never)
      pss_nil)
      (pss_one (ps_ret (pv 1))))), ?_⟩
    obtain ⟨ph, sm⟩ := parse_home hh.1 hh.nn (runs_small b few)
    rw [← ez] at ph sm
    refine ⟨_, rfl, z, rfl, lz, sm, fun H1 p n1 e1 h1 => ?_⟩
    rw [ph] at h1
    refine ⟨_, rfl, p, qs, rfl, h1, few, fun x m => ?_, fun H2 s qs' e2 hm ht hl => ?_⟩
    · have := hh.nn x m
      have := b x m
      omega
    · rw [hh.same hm, ← ez] at ht
      have es : s = z := tlInj ht
      refine ⟨_, rfl, rfl, _, by rw [es, decide_eq_true rfl]; rfl, iteF ?_⟩
      exact ⟨_, rfl, q H2 p n1 (e1.trans e2) (h1.up e2)⟩
end
end My
namespace My
open PySem PySem.Spec PyProof.Rows L2 Vx
open TL
local macro_rules | `(tactic| k_invariant "new" ($n, $H:ident, $e:ident, $h:ident)) => `(tactic| (generalize hE : upd _ _ _ = $H; obtain ⟨$e:ident, $h:ident⟩ := gen_e hE $n; clear hE))
local macro_rules | `(tactic| k_places) => `(tactic| first
  | assumption
  | exact lst_of (by assumption)
  | exact tup_of (by assumption)
  | (refine getS (by assumption) ?_; k_places)
  | (refine Same.seq (by assumption) ?_; k_places)
  | (refine tupS (by assumption) ?_; k_places)
  | (refine lst_of ?_; k_places)
  | (refine tup_of ?_; k_places))
local macro_rules | `(tactic| k_subL) => `(tactic| first
  | k_places
  | solve_by_elim (maxDepth := 10) [getS, lst_of, tup_of, Same.seq, tupS])
local macro_rules | `(tactic| k_offL) => `(tactic| first
  | (show (0 : Int) < _; first | omega | decide)
  | (refine ⟨?_, ?_⟩ <;> first | omega | decide)
  | exact .inr ⟨by decide, by decide⟩
  | exact .inl ⟨by decide, by decide⟩
  | exact .inl ⟨by omega, by omega⟩
  | omega)
local macro_rules | `(tactic| k_clsL) => `(tactic| exact Nat.le_of_ble_eq_true rfl)
section
variable {P : Program} {w : World} {K : PySem.W.Frag} {mg : Str → Option Value} {base : Heap}
/-! ### a row's text: by bits, as the law counts; and by cells -/
def sgn (x : Int) : Nat := if x = 1 then 79 else 46
/-- as the law does: k equal bits stand before -/
def lawL : List Int → Nat → List Nat
  | [], _ => []
  | x :: rest, k => if rest.head? = some x then lawL rest (k + 1) else (if x = 1 ∨ 0 < (x :: rest).sum then cntL ((k + 1 : Nat) : Int) (sgn x) else []) ++ lawL rest 0
/-- d dead ones or a living ones are open -/
def prL : List Int → Nat → Nat → List Nat
  | [], _, a => if a = 0 then [] else cntL ((a : Nat) : Int) 79
  | x :: rest, d, a => if x = 1 then (if a = 0 then (if d = 0 then [] else cntL ((d : Nat) : Int) 46) ++ prL rest 0 1 else prL rest 0 (a + 1))
    else (if a = 0 then prL rest (d + 1) 0 else cntL ((a : Nat) : Int) 79 ++ prL rest 1 0)
def Bits (l : List Int) : Prop := ∀ x ∈ l, x = 0 ∨ x = 1
theorem Bits.tail {x : Int} {l : List Int} (h : Bits (x :: l)) : Bits l := fun y m => h y (List.mem_cons_of_mem _ m)
theorem bits_sum : ∀ {l : List Int}, Bits l → 0 ≤ l.sum
  | [], _ => Int.le_refl 0
  | x :: l, h => by
    have := bits_sum h.tail
    have := h x List.mem_cons_self
    rw [List.sum_cons]
    omega
theorem pr1 (rest : List Int) (d a : Nat) : prL (1 :: rest) d a = if a = 0 then (if d = 0 then [] else cntL ((d : Nat) : Int) 46) ++ prL rest 0 1 else prL rest 0 (a + 1) := rfl
theorem pr0 (rest : List Int) (d a : Nat) : prL (0 :: rest) d a = if a = 0 then prL rest (d + 1) 0 else cntL ((a : Nat) : Int) 79 ++ prL rest 1 0 := rfl
theorem law_pr : ∀ (l : List Int) (k : Nat), Bits l → (l.head? = some 1 → lawL l k = prL l 0 k) ∧ (l.head? = some 0 → lawL l k = prL l k 0) ∧ (l = [] → lawL l k = [])
  | [], k, _ => ⟨fun h => (by cases h), fun h => (by cases h), fun _ => rfl⟩
  | x :: rest, k, hb => by
    have ih := fun j => law_pr rest j hb.tail
    have bx := hb x List.mem_cons_self
    have sr := bits_sum hb.tail
    have unf : lawL (x :: rest) k = if rest.head? = some x then lawL rest (k + 1) else (if x = 1 ∨ 0 < (x :: rest).sum then cntL ((k + 1 : Nat) : Int) (sgn x) else []) ++ lawL rest 0 := rfl
    have kk : ¬ k + 1 = 0 := by omega
    refine ⟨fun h => ?_, fun h => ?_, fun h => (by cases h)⟩
    · have e : x = 1 := Option.some.inj h
      subst e
      rw [unf, pr1]
      cases rest with
      | nil =>
        rw [if_neg (by simp), if_pos (.inl rfl)]
        show cntL _ 79 ++ [] = _
        by_cases e : k = 0
        · rw [if_pos e, if_pos rfl, e]
          show _ = [] ++ (if (1 : Nat) = 0 then [] else cntL ((1 : Nat) : Int) 79)
          rw [if_neg (by decide), List.append_nil, List.nil_append]
        · rw [if_neg e]
          show _ = if k + 1 = 0 then [] else cntL ((k + 1 : Nat) : Int) 79
          rw [if_neg kk, List.append_nil]
      | cons y r2 =>
        rcases hb y (List.mem_cons_of_mem _ List.mem_cons_self) with e | e
        · subst e
          rw [if_neg (by simp), if_pos (.inl rfl), ((ih 0).2.1 rfl), pr0, if_pos rfl]
          show cntL _ 79 ++ _ = _
          by_cases e : k = 0
          · rw [if_pos e, if_pos rfl, pr0, if_neg (by decide), e]
            rfl
          · rw [if_neg e, pr0, if_neg kk]
        · subst e
          rw [if_pos (show (1 :: r2).head? = some (1 : Int) from rfl), (ih (k + 1)).1 rfl]
          by_cases e : k = 0
          · rw [if_pos e, if_pos rfl, e]
            rfl
          · rw [if_neg e]
    · have e : x = 0 := Option.some.inj h
      subst e
      rw [unf, pr0, if_pos rfl]
      cases rest with
      | nil =>
        rw [if_neg (by simp), if_neg (by simp)]
        show [] ++ [] = if (0 : Nat) = 0 then [] else _
        rw [if_pos rfl]
        rfl
      | cons y r2 =>
        rcases hb y (List.mem_cons_of_mem _ List.mem_cons_self) with e | e
        · subst e
          rw [if_pos (show (0 :: r2).head? = some (0 : Int) from rfl), (ih (k + 1)).2.1 rfl]
        · subst e
          have sp : 0 < ((0 : Int) :: 1 :: r2).sum := by
            have := bits_sum (l := r2) hb.tail.tail
            rw [List.sum_cons, List.sum_cons]
            omega
          rw [if_neg (by simp), if_pos (.inr sp), (ih 0).1 rfl, pr1, if_pos rfl, if_pos rfl, pr1, if_pos rfl, if_neg kk]
          rfl
theorem law_pr0 {l : List Int} (h : Bits l) : lawL l 0 = prL l 0 0 := by
  obtain ⟨a, b, c⟩ := law_pr l 0 h
  cases l with
  | nil => rfl
  | cons x l =>
    rcases h x List.mem_cons_self with e | e
    · exact b (by rw [e]; rfl)
    · exact a (by rw [e]; rfl)
end
end My
namespace My
open PySem PySem.Spec PyProof.Rows L2 Vx
open TL
local macro_rules | `(tactic| k_invariant "new" ($n, $H:ident, $e:ident, $h:ident)) => `(tactic| (generalize hE : upd _ _ _ = $H; obtain ⟨$e:ident, $h:ident⟩ := gen_e hE $n; clear hE))
local macro_rules | `(tactic| k_places) => `(tactic| first
  | assumption
  | exact lst_of (by assumption)
  | exact tup_of (by assumption)
  | (refine getS (by assumption) ?_; k_places)
  | (refine Same.seq (by assumption) ?_; k_places)
  | (refine tupS (by assumption) ?_; k_places)
  | (refine lst_of ?_; k_places)
  | (refine tup_of ?_; k_places))
local macro_rules | `(tactic| k_subL) => `(tactic| first
  | k_places
  | solve_by_elim (maxDepth := 10) [getS, lst_of, tup_of, Same.seq, tupS])
local macro_rules | `(tactic| k_offL) => `(tactic| first
  | (show (0 : Int) < _; first | omega | decide)
  | (refine ⟨?_, ?_⟩ <;> first | omega | decide)
  | exact .inr ⟨by decide, by decide⟩
  | exact .inl ⟨by decide, by decide⟩
  | exact .inl ⟨by omega, by omega⟩
  | omega)
local macro_rules | `(tactic| k_clsL) => `(tactic| exact Nat.le_of_ble_eq_true rfl)
section
variable {P : Program} {w : World} {K : PySem.W.Frag} {mg : Str → Option Value} {base : Heap}
/-! ### the text, cell by cell -/
abbrev CSt := List Nat × Int × Int × Nat
def flushL (a : Nat) : List Nat := if a = 0 then [] else cntL ((a : Nat) : Int) 79
/-- a run's beginning, behind a row and a place -/
def wPre (a : List Nat) (row en : Int) (r c : Int) : List Nat × Int :=
  let p := if row < r then (a ++ cntL (r - row) 47, r, 0) else (a, row, en)
  (if p.2.2 < c then p.1 ++ cntL (c - p.2.2) 46 else p.1, p.2.1)
theorem wStep_pre (a : List Nat) (row en : Int) (t : Run) : wStep (a, row, en) t = ((wPre a row en t.1 t.2.1).1 ++ cntL t.2.2 79, (wPre a row en t.1 t.2.1).2, t.2.1 + t.2.2) := rfl
theorem wPre_row {a : List Nat} {row en r c : Int} (h : row ≤ r) : (wPre a row en r c).2 = r := by
  unfold wPre
  by_cases e : row < r
  · rw [if_pos e]
  · rw [if_neg e]
    show row = r
    omega
def cStep (st : CSt) (x : Pr) : CSt :=
  if 0 < st.2.2.2 ∧ st.2.1 = x.1 ∧ st.2.2.1 = x.2 then (st.1, st.2.1, st.2.2.1 + 1, st.2.2.2 + 1)
  else ((wPre (st.1 ++ flushL st.2.2.2) st.2.1 st.2.2.1 x.1 x.2).1, (wPre (st.1 ++ flushL st.2.2.2) st.2.1 st.2.2.1 x.1 x.2).2, x.2 + 1, 1)
def finC (st : CSt) : List Nat := st.1 ++ flushL st.2.2.2
def Rel (rs : List Run) (st : CSt) : Prop := (rs = [] ∧ st = ([], 0, 0, 0)) ∨
  ∃ (us : List Run) (u : Run) (w : List Nat) (row en : Int), rs = us ++ [u] ∧ us.foldl wStep ([], 0, 0) = (w, row, en) ∧ st.1 = (wPre w row en u.1 u.2.1).1 ∧ st.2.1 = u.1 ∧ (wPre w row en u.1 u.2.1).2 = u.1 ∧ st.2.2.1 = u.2.1 + u.2.2 ∧ ((st.2.2.2 : Nat) : Int) = u.2.2 ∧ 0 < st.2.2.2
theorem Rel.step {rs : List Run} {st : CSt} {x : Pr} (h : Rel rs st) (le : st.2.1 ≤ x.1) : Rel (runStep rs x) (cStep st x) := by
  rcases h with ⟨rfl, rfl⟩ | ⟨us, u, w, row, en, rfl, hw, h1, h2, h3, h4, h5, h6⟩
  · refine .inr ⟨[], (x.1, x.2, 1), [], 0, 0, rfl, rfl, ?_, ?_, ?_, rfl, rfl, Nat.one_pos⟩
    · rfl
    · show (wPre ([] ++ flushL 0) 0 0 x.1 x.2).2 = x.1
      exact wPre_row (c := x.2) le
    · exact wPre_row (c := x.2) le
  · rw [runStep_last]
    unfold cStep
    by_cases c : u.1 = x.1 ∧ u.2.1 + u.2.2 = x.2
    · rw [if_pos c, if_pos ⟨h6, h2.trans c.1, h4.trans c.2⟩]
      refine .inr ⟨us, _, w, row, en, rfl, hw, h1, h2, h3, ?_, ?_, Nat.succ_pos _⟩
      · show st.2.2.1 + 1 = u.2.1 + (u.2.2 + 1)
        omega
      · show ((st.2.2.2 + 1 : Nat) : Int) = u.2.2 + 1
        omega
    · rw [if_neg c, if_neg (fun z => c ⟨h2.symm.trans z.2.1, h4.symm.trans z.2.2⟩)]
      have fl : flushL st.2.2.2 = cntL u.2.2 79 := by
        unfold flushL
        rw [if_neg (by omega), h5]
      have ws : (us ++ [u]).foldl wStep ([], 0, 0) = (st.1 ++ flushL st.2.2.2, st.2.1, st.2.2.1) := by
        rw [List.foldl_append, hw]
        show wStep (w, row, en) u = _
        rw [wStep_pre, fl, h1, h2, h3, h4]
      exact .inr ⟨us ++ [u], (x.1, x.2, 1), _, _, _, rfl, ws, rfl, wPre_row (c := x.2) le, wPre_row (c := x.2) le, rfl, rfl, Nat.one_pos⟩
theorem cStep_row {st : CSt} {x : Pr} (le : st.2.1 ≤ x.1) : (cStep st x).2.1 = x.1 := by
  unfold cStep
  by_cases c : 0 < st.2.2.2 ∧ st.2.1 = x.1 ∧ st.2.2.1 = x.2
  · rw [if_pos c]
    exact c.2.1
  · rw [if_neg c]
    exact wPre_row (c := x.2) le
theorem rel_fold : ∀ (l : List Pr) (rs : List Run) (st : CSt), Rel rs st → (∀ x ∈ l, st.2.1 ≤ x.1) → l.Pairwise ltP → Rel (l.foldl runStep rs) (l.foldl cStep st)
  | [], _, _, h, _, _ => h
  | x :: l, rs, st, h, h1, h2 => by
    obtain ⟨p1, p2⟩ := List.pairwise_cons.mp h2
    have le := h1 x List.mem_cons_self
    refine rel_fold l _ _ (h.step le) (fun y m => ?_) p2
    rw [cStep_row le]
    have := ltP_iff.mp (p1 y m)
    omega
theorem write_cells {qs : List Pr} (pw : qs.Pairwise ltP) (nn : ∀ x ∈ qs, 0 ≤ x.1 ∧ 0 ≤ x.2) : writeP (runsP qs) = finC (qs.foldl cStep ([], 0, 0, 0)) ++ [33] := by
  have h := rel_fold qs [] ([], 0, 0, 0) (.inl ⟨rfl, rfl⟩) (fun x m => (nn x m).1) pw
  unfold writeP finC
  rcases h with ⟨e1, e2⟩ | ⟨us, u, w, row, en, e, hw, h1, h2, h3, h4, h5, h6⟩
  · rw [show runsP qs = [] from e1, e2]
    rfl
  · rw [show runsP qs = us ++ [u] from e, List.foldl_append, hw]
    show (wStep (w, row, en) u).1 ++ [33] = _
    have fl : flushL (List.foldl cStep ([], 0, 0, 0) qs).2.2.2 = cntL u.2.2 79 := by
      unfold flushL
      rw [if_neg (by omega), h5]
    rw [wStep_pre, fl, h1]
/-! ### a row -/
def cellsOf (r : Int) : Int → List Int → List Pr
  | _, [] => []
  | c, x :: rest => if x = 1 then (r, c) :: cellsOf r (c + 1) rest else cellsOf r (c + 1) rest
theorem row_fold (r : Int) : ∀ (bits : List Int) (c : Int) (acc : List Nat) (e : Int) (a : Nat), Bits bits →
    (0 < a → e = c → finC ((cellsOf r c bits).foldl cStep (acc, r, e, a)) = acc ++ prL bits 0 a) ∧
    (e ≤ c → (a = 0 ∨ e < c) → finC ((cellsOf r c bits).foldl cStep (acc, r, e, a)) = acc ++ flushL a ++ prL bits (c - e).toNat 0)
  | [], c, acc, e, a, _ => by
    refine ⟨fun _ _ => ?_, fun _ _ => ?_⟩
    · rfl
    · show acc ++ flushL a = acc ++ flushL a ++ []
      rw [List.append_nil]
  | x :: rest, c, acc, e, a, hb => by
    have ih := fun acc e a => row_fold r rest (c + 1) acc e a hb.tail
    rcases hb x List.mem_cons_self with q | q
    · subst q
      have ec : cellsOf r c (0 :: rest) = cellsOf r (c + 1) rest := if_neg (by decide)
      rw [ec, pr0, pr0]
      refine ⟨fun h1 h2 => ?_, fun h1 h2 => ?_⟩
      · rw [(ih acc e a).2 (by omega) (.inr (by omega)), if_neg (by omega), show (c + 1 - e).toNat = 1 by omega]
        unfold flushL
        rw [if_neg (by omega), List.append_assoc]
      · rw [(ih acc e a).2 (by omega) (.inr (by omega)), if_pos rfl, show (c + 1 - e).toNat = (c - e).toNat + 1 by omega]
    · subst q
      have ec : cellsOf r c (1 :: rest) = (r, c) :: cellsOf r (c + 1) rest := if_pos rfl
      rw [ec, pr1, pr1, List.foldl_cons]
      refine ⟨fun h1 h2 => ?_, fun h1 h2 => ?_⟩
      · have st : cStep (acc, r, e, a) (r, c) = (acc, r, e + 1, a + 1) := if_pos ⟨h1, rfl, h2⟩
        rw [st, (ih acc (e + 1) (a + 1)).1 (Nat.succ_pos _) (by omega), if_neg (by omega)]
      · have st : cStep (acc, r, e, a) (r, c) = (if e < c then acc ++ flushL a ++ cntL (c - e) 46 else acc ++ flushL a, r, c + 1, 1) := by
          unfold cStep
          rw [if_neg (fun z => by have : e = c := z.2.2; have : 0 < a := z.1; omega)]
          show ((wPre (acc ++ flushL a) r e r c).1, (wPre (acc ++ flushL a) r e r c).2, c + 1, 1) = _
          unfold wPre
          rw [if_neg (Int.lt_irrefl r)]
        rw [st, (ih _ (c + 1) 1).1 Nat.one_pos rfl, if_pos rfl]
        by_cases k : e < c
        · rw [if_pos k, if_neg (by omega), show (((c - e).toNat : Nat) : Int) = c - e by omega]
          simp
        · rw [if_neg k, if_pos (by omega)]
          rfl
end
end My
namespace My
open PySem PySem.Spec PyProof.Rows L2 Vx
open TL
local macro_rules | `(tactic| k_invariant "new" ($n, $H:ident, $e:ident, $h:ident)) => `(tactic| (generalize hE : upd _ _ _ = $H; obtain ⟨$e:ident, $h:ident⟩ := gen_e hE $n; clear hE))
local macro_rules | `(tactic| k_places) => `(tactic| first
  | assumption
  | exact lst_of (by assumption)
  | exact tup_of (by assumption)
  | (refine getS (by assumption) ?_; k_places)
  | (refine Same.seq (by assumption) ?_; k_places)
  | (refine tupS (by assumption) ?_; k_places)
  | (refine lst_of ?_; k_places)
  | (refine tup_of ?_; k_places))
local macro_rules | `(tactic| k_subL) => `(tactic| first
  | k_places
  | solve_by_elim (maxDepth := 10) [getS, lst_of, tup_of, Same.seq, tupS])
local macro_rules | `(tactic| k_offL) => `(tactic| first
  | (show (0 : Int) < _; first | omega | decide)
  | (refine ⟨?_, ?_⟩ <;> first | omega | decide)
  | exact .inr ⟨by decide, by decide⟩
  | exact .inl ⟨by decide, by decide⟩
  | exact .inl ⟨by omega, by omega⟩
  | omega)
local macro_rules | `(tactic| k_clsL) => `(tactic| exact Nat.le_of_ble_eq_true rfl)
section
variable {P : Program} {w : World} {K : PySem.W.Frag} {mg : Str → Option Value} {base : Heap}
/-! ### all rows -/
theorem cellsOf_mem {r : Int} : ∀ {bits : List Int} {c : Int} {y : Pr}, y ∈ cellsOf r c bits ↔ y.1 = r ∧ ∃ j : Nat, bits[j]? = some 1 ∧ y.2 = c + (j : Int)
  | [], c, y => by
    constructor
    · intro h
      cases h
    · rintro ⟨_, j, h, _⟩
      simp at h
  | x :: rest, c, y => by
    have ih := cellsOf_mem (r := r) (bits := rest) (c := c + 1) (y := y)
    have shift : (∃ j : Nat, rest[j]? = some 1 ∧ y.2 = c + 1 + (j : Int)) → ∃ j : Nat, (x :: rest)[j]? = some 1 ∧ y.2 = c + (j : Int) := fun ⟨j, h1, h2⟩ => ⟨j + 1, h1, by omega⟩
    by_cases e : x = 1
    · have ec : cellsOf r c (x :: rest) = (r, c) :: cellsOf r (c + 1) rest := if_pos e
      rw [ec, List.mem_cons, ih]
      constructor
      · rintro (h | ⟨h1, h2⟩)
        · subst h
          exact ⟨rfl, 0, by rw [e]; rfl, by show c = c + ((0 : Nat) : Int); omega⟩
        · exact ⟨h1, shift h2⟩
      · rintro ⟨h1, j, h2, h3⟩
        cases j with
        | zero => exact .inl (Prod.ext h1 (by show y.2 = c; omega))
        | succ j => exact .inr ⟨h1, j, h2, by omega⟩
    · have ec : cellsOf r c (x :: rest) = cellsOf r (c + 1) rest := if_neg e
      rw [ec, ih]
      constructor
      · rintro ⟨h1, h2⟩
        exact ⟨h1, shift h2⟩
      · rintro ⟨h1, j, h2, h3⟩
        cases j with
        | zero => exact absurd (Option.some.inj h2) e
        | succ j => exact ⟨h1, j, h2, by omega⟩
theorem cellsOf_pw (r : Int) : ∀ (bits : List Int) (c : Int), (cellsOf r c bits).Pairwise ltP
  | [], _ => List.Pairwise.nil
  | x :: rest, c => by
    have ih := cellsOf_pw r rest (c + 1)
    by_cases e : x = 1
    · have ec : cellsOf r c (x :: rest) = (r, c) :: cellsOf r (c + 1) rest := if_pos e
      rw [ec]
      refine List.pairwise_cons.mpr ⟨fun y m => ?_, ih⟩
      obtain ⟨h1, j, _, h3⟩ := cellsOf_mem.mp m
      refine ltP_iff.mpr (.inr ⟨h1.symm, ?_⟩)
      show c < y.2
      omega
    · have ec : cellsOf r c (x :: rest) = cellsOf r (c + 1) rest := if_neg e
      rw [ec]
      exact ih
def rowsC (b : Nat → List Int) : Nat → List Pr
  | 0 => []
  | n + 1 => rowsC b n ++ cellsOf (n : Int) 0 (b n)
theorem rowsC_mem {b : Nat → List Int} : ∀ {n : Nat} {y : Pr}, y ∈ rowsC b n ↔ ∃ i, i < n ∧ y ∈ cellsOf (i : Int) 0 (b i)
  | 0, y => ⟨fun h => (by cases h), fun ⟨i, h, _⟩ => absurd h (Nat.not_lt_zero i)⟩
  | n + 1, y => by
    show y ∈ rowsC b n ++ cellsOf (n : Int) 0 (b n) ↔ _
    rw [List.mem_append, rowsC_mem]
    constructor
    · rintro (⟨i, h, m⟩ | m)
      · exact ⟨i, by omega, m⟩
      · exact ⟨n, by omega, m⟩
    · rintro ⟨i, h, m⟩
      by_cases e : i = n
      · subst e
        exact .inr m
      · exact .inl ⟨i, by omega, m⟩
theorem rowsC_pw (b : Nat → List Int) : ∀ n, (rowsC b n).Pairwise ltP
  | 0 => List.Pairwise.nil
  | n + 1 => by
    refine List.pairwise_append.mpr ⟨rowsC_pw b n, cellsOf_pw _ _ _, fun x hx y hy => ?_⟩
    obtain ⟨i, hi, m⟩ := rowsC_mem.mp hx
    have h1 := (cellsOf_mem.mp m).1
    have h2 := (cellsOf_mem.mp hy).1
    exact ltP_iff.mpr (.inl (by omega))
def ltStep (st : List Nat × Int) (runs : List Nat) : List Nat × Int :=
  if runs ≠ [] ∧ 0 < st.2 then (st.1 ++ cntL st.2 47 ++ runs, 1) else (st.1 ++ runs, st.2 + 1)
def lawRows (b : Nat → List Int) : Nat → List Nat × Int
  | 0 => ([], 0)
  | n + 1 => ltStep (lawRows b n) (lawL (b n) 0)
theorem cntL_ne (n : Int) (c : Nat) : cntL n c ≠ [] := by
  unfold cntL
  by_cases e : n = 1
  · rw [if_pos e]
    simp
  · rw [if_neg e]
    simp
theorem cStep_pos (st : CSt) (x : Pr) : 0 < (cStep st x).2.2.2 := by
  unfold cStep
  by_cases c : 0 < st.2.2.2 ∧ st.2.1 = x.1 ∧ st.2.2.1 = x.2
  · rw [if_pos c]
    exact Nat.succ_pos _
  · rw [if_neg c]
    exact Nat.one_pos
theorem fold_pos : ∀ (l : List Pr) (st : CSt), 0 < st.2.2.2 → 0 < (l.foldl cStep st).2.2.2
  | [], _, h => h
  | x :: l, st, _ => fold_pos l _ (cStep_pos st x)
theorem finC_ne {st : CSt} (h : 0 < st.2.2.2) : finC st ≠ [] := by
  unfold finC flushL
  rw [if_neg (by omega)]
  intro e
  exact cntL_ne _ _ (List.append_eq_nil_iff.mp e).2
theorem fold_row : ∀ (l : List Pr) (st : CSt), (∀ y ∈ l, y.1 = st.2.1) → (l.foldl cStep st).2.1 = st.2.1
  | [], _, _ => rfl
  | x :: l, st, h => by
    have e := h x List.mem_cons_self
    have r := cStep_row (st := st) (x := x) (by omega)
    rw [List.foldl_cons, fold_row l _ fun y m => ?_, r, e]
    rw [r, h y (List.mem_cons_of_mem _ m), e]
theorem cStep_jump {st : CSt} {x : Pr} (h : st.2.1 < x.1) : cStep st x = cStep (finC st ++ cntL (x.1 - st.2.1) 47, x.1, 0, 0) x := by
  unfold cStep
  rw [if_neg (fun z => by have := z.2.1; omega), if_neg (fun z => by have : 0 < (0 : Nat) := z.1; omega)]
  have e1 : wPre (st.1 ++ flushL st.2.2.2) st.2.1 st.2.2.1 x.1 x.2 = (if 0 < x.2 then st.1 ++ flushL st.2.2.2 ++ cntL (x.1 - st.2.1) 47 ++ cntL (x.2 - 0) 46 else st.1 ++ flushL st.2.2.2 ++ cntL (x.1 - st.2.1) 47, x.1) := by
    unfold wPre
    rw [if_pos h]
  have e2 : wPre (finC st ++ cntL (x.1 - st.2.1) 47 ++ flushL 0) x.1 0 x.1 x.2 = (if 0 < x.2 then st.1 ++ flushL st.2.2.2 ++ cntL (x.1 - st.2.1) 47 ++ cntL (x.2 - 0) 46 else st.1 ++ flushL st.2.2.2 ++ cntL (x.1 - st.2.1) 47, x.1) := by
    unfold wPre finC
    rw [if_neg (Int.lt_irrefl _)]
    show (if 0 < x.2 then st.1 ++ flushL st.2.2.2 ++ cntL (x.1 - st.2.1) 47 ++ [] ++ _ else st.1 ++ flushL st.2.2.2 ++ cntL (x.1 - st.2.1) 47 ++ [], x.1) = _
    rw [List.append_nil]
  rw [e1]
  show _ = ((wPre (finC st ++ cntL (x.1 - st.2.1) 47 ++ flushL 0) x.1 0 x.1 x.2).1, (wPre (finC st ++ cntL (x.1 - st.2.1) 47 ++ flushL 0) x.1 0 x.1 x.2).2, x.2 + 1, 1)
  rw [e2]
theorem rows_eq {b : Nat → List Int} (hb : ∀ i, Bits (b i)) : ∀ n : Nat, (lawRows b n).1 = finC ((rowsC b n).foldl cStep ([], 0, 0, 0)) ∧ (lawRows b n).2 = (n : Int) - ((rowsC b n).foldl cStep ([], 0, 0, 0)).2.1 ∧
    ((rowsC b n).foldl cStep ([], 0, 0, 0) = ([], 0, 0, 0) ∨ ((rowsC b n).foldl cStep ([], 0, 0, 0)).2.1 < (n : Int))
  | 0 => ⟨rfl, rfl, .inl rfl⟩
  | n + 1 => by
    obtain ⟨h1, h2, h3⟩ := rows_eq hb n
    have e0 : rowsC b (n + 1) = rowsC b n ++ cellsOf (n : Int) 0 (b n) := rfl
    have el : lawRows b (n + 1) = ltStep (lawRows b n) (prL (b n) 0 0) := by
      show ltStep (lawRows b n) (lawL (b n) 0) = _
      rw [law_pr0 (hb n)]
    rw [e0, List.foldl_append, el]
    generalize (rowsC b n).foldl cStep ([], 0, 0, 0) = st at h1 h2 h3
    generalize lawRows b n = T at h1 h2
    have base := fun acc => (row_fold (n : Int) (b n) 0 acc 0 0 (hb n)).2 (Int.le_refl 0) (.inl rfl)
    cases hc : cellsOf (n : Int) 0 (b n) with
    | nil =>
      have p0 : prL (b n) 0 0 = [] := by
        have := base []
        rw [hc] at this
        exact this.symm
      have es : ltStep T (prL (b n) 0 0) = (T.1 ++ prL (b n) 0 0, T.2 + 1) := if_neg (fun z => z.1 p0)
      rw [es, p0, List.append_nil]
      refine ⟨h1, ?_, ?_⟩
      · show T.2 + 1 = ((n + 1 : Nat) : Int) - st.2.1
        omega
      · rcases h3 with h3 | h3
        · exact .inl h3
        · exact .inr (by show st.2.1 < ((n + 1 : Nat) : Int); omega)
    | cons x l =>
      have rows : ∀ y ∈ x :: l, y.1 = (n : Int) := fun y m => (cellsOf_mem.mp (by rw [hc]; exact m)).1
      have xr := rows x List.mem_cons_self
      have ne : prL (b n) 0 0 ≠ [] := by
        have := base []
        rw [hc] at this
        have e : prL (b n) 0 0 = finC ((x :: l).foldl cStep ([], (n : Int), 0, 0)) := this.symm
        rw [e]
        exact finC_ne (fold_pos l _ (cStep_pos _ x))
      have row2 : st.2.1 ≤ (n : Int) → ((x :: l).foldl cStep st).2.1 = (n : Int) := fun le => by
        have r := cStep_row (st := st) (x := x) (by omega)
        rw [List.foldl_cons, fold_row l _ fun y m => ?_, r, xr]
        rw [r, rows y (List.mem_cons_of_mem _ m), xr]
      by_cases lt : st.2.1 < (n : Int)
      · have es : ltStep T (prL (b n) 0 0) = (T.1 ++ cntL T.2 47 ++ prL (b n) 0 0, 1) := if_pos ⟨ne, by omega⟩
        rw [es]
        refine ⟨?_, ?_, .inr ?_⟩
        · show T.1 ++ cntL T.2 47 ++ prL (b n) 0 0 = finC ((x :: l).foldl cStep st)
          have jump : (x :: l).foldl cStep st = (x :: l).foldl cStep (finC st ++ cntL (x.1 - st.2.1) 47, x.1, 0, 0) := by
            rw [List.foldl_cons, List.foldl_cons, cStep_jump (by omega)]
          have bs := base (finC st ++ cntL (x.1 - st.2.1) 47)
          rw [hc] at bs
          rw [jump, h1, h2, xr] at *
          rw [bs]
          show _ = finC st ++ cntL ((n : Int) - st.2.1) 47 ++ [] ++ prL (b n) 0 0
          rw [List.append_nil]
        · rw [row2 (by omega)]
          show (1 : Int) = ((n + 1 : Nat) : Int) - n
          omega
        · rw [row2 (by omega)]
          omega
      · rcases h3 with h3 | h3
        · subst h3
          have n0 : n = 0 := by
            have : ¬ (0 : Int) < (n : Int) := lt
            omega
          have t0 : T.2 = 0 := by
            rw [h2, n0]
            rfl
          have es : ltStep T (prL (b n) 0 0) = (T.1 ++ prL (b n) 0 0, T.2 + 1) := if_neg (fun z => by have := z.2; omega)
          rw [es]
          refine ⟨?_, ?_, .inr ?_⟩
          · show T.1 ++ prL (b n) 0 0 = finC ((x :: l).foldl cStep ([], 0, 0, 0))
            have bs := base []
            rw [hc] at bs
            have z : (n : Int) = 0 := by omega
            rw [z] at bs
            rw [bs, h1]
            rfl
          · rw [row2 (by show (0 : Int) ≤ _; omega)]
            show T.2 + 1 = ((n + 1 : Nat) : Int) - n
            omega
          · rw [row2 (by show (0 : Int) ≤ _; omega)]
            omega
        · exact absurd h3 lt
end
end My
namespace My
open PySem PySem.Spec PyProof.Rows L2 Vx
open TL
local macro_rules | `(tactic| k_invariant "new" ($n, $H:ident, $e:ident, $h:ident)) => `(tactic| (generalize hE : upd _ _ _ = $H; obtain ⟨$e:ident, $h:ident⟩ := gen_e hE $n; clear hE))
local macro_rules | `(tactic| k_places) => `(tactic| first
  | assumption
  | exact lst_of (by assumption)
  | exact tup_of (by assumption)
  | (refine getS (by assumption) ?_; k_places)
  | (refine Same.seq (by assumption) ?_; k_places)
  | (refine tupS (by assumption) ?_; k_places)
  | (refine lst_of ?_; k_places)
  | (refine tup_of ?_; k_places))
local macro_rules | `(tactic| k_subL) => `(tactic| first
  | k_places
  | solve_by_elim (maxDepth := 10) [getS, lst_of, tup_of, Same.seq, tupS])
local macro_rules | `(tactic| k_offL) => `(tactic| first
  | (show (0 : Int) < _; first | omega | decide)
  | (refine ⟨?_, ?_⟩ <;> first | omega | decide)
  | exact .inr ⟨by decide, by decide⟩
  | exact .inl ⟨by decide, by decide⟩
  | exact .inl ⟨by omega, by omega⟩
  | omega)
local macro_rules | `(tactic| k_clsL) => `(tactic| exact Nat.le_of_ble_eq_true rfl)
section
variable {P : Program} {w : World} {K : PySem.W.Frag} {mg : Str → Option Value} {base : Heap}
theorem home_rows {qs : List Pr} {w n : Nat} (pw : qs.Pairwise ltP) (b : ∀ x ∈ qs, 0 ≤ x.1 ∧ x.1 < n ∧ 0 ≤ x.2 ∧ x.2 < w) :
    writeP (runsP qs) = (lawRows (fun i => (List.range w).map fun (c : Nat) => if ((i : Int), (c : Int)) ∈ qs then (1 : Int) else 0) n).1 ++ [33] := by
  have hb : ∀ i : Nat, Bits ((fun (i : Nat) => (List.range w).map fun (c : Nat) => if ((i : Int), (c : Int)) ∈ qs then (1 : Int) else 0) i) := fun i x m => by
    obtain ⟨c, _, e⟩ := List.mem_map.mp m
    by_cases k : ((i : Int), (c : Int)) ∈ qs
    · rw [if_pos k] at e
      exact .inr e.symm
    · rw [if_neg k] at e
      exact .inl e.symm
  have e : rowsC (fun i => (List.range w).map fun (c : Nat) => if ((i : Int), (c : Int)) ∈ qs then (1 : Int) else 0) n = qs := by
    refine ascP_eq (rowsC_pw _ n) pw fun y => ?_
    rw [rowsC_mem]
    constructor
    · rintro ⟨i, hi, m⟩
      obtain ⟨h1, j, h2, h3⟩ := cellsOf_mem.mp m
      rw [List.getElem?_map] at h2
      cases q : (List.range w)[j]? with
      | none => rw [q] at h2; cases h2
      | some c =>
        rw [q] at h2
        have cj : c = j := by
          have := (List.getElem?_eq_some_iff.mp q).2
          rw [List.getElem_range] at this
          exact this.symm
        subst cj
        have h2 : (if ((i : Int), (c : Int)) ∈ qs then (1 : Int) else 0) = 1 := Option.some.inj h2
        by_cases k : ((i : Int), (c : Int)) ∈ qs
        · rw [show y = ((i : Int), (c : Int)) from Prod.ext h1 (by show y.2 = (c : Int); omega)]
          exact k
        · rw [if_neg k] at h2
          cases h2
    · intro m
      obtain ⟨b1, b2, b3, b4⟩ := b y m
      refine ⟨y.1.toNat, by omega, cellsOf_mem.mpr ⟨by omega, y.2.toNat, ?_, by omega⟩⟩
      have ey : (((y.1.toNat : Nat) : Int), ((y.2.toNat : Nat) : Int)) = y := Prod.ext (by show ((y.1.toNat : Nat) : Int) = y.1; omega) (by show ((y.2.toNat : Nat) : Int) = y.2; omega)
      rw [List.getElem?_map, List.getElem?_range (by omega)]
      show some (if _ ∈ qs then (1 : Int) else 0) = some 1
      rw [ey, if_pos m]
  rw [write_cells pw fun x m => ⟨(b x m).1, (b x m).2.2.1⟩, (rows_eq hb n).1, e]
/-! ### the law's own text of a row -/
def sp_law_counted : Sp := fun vs H Q _ => ∃ (n : Int) (sg : Str), vs = [.int n, .str sg] ∧ n.natAbs < 2 ^ 60 ∧ sg.length ≤ 100 ∧ Q (.str (cntS n sg)) H
theorem ok_law_counted (T : Txt K mg) : FnOk P w K mg base CX0 1 T.f_law_counted T.d_law_counted ["count", "sign"] sp_law_counted := by
  refine T.F_law_counted.ok sc_law_counted (fun vs H Q E h => ?_) (fun cdv A outer s H vs Q E hr h => ?_)
  · obtain ⟨_, _, rfl, _⟩ := h
    rfl
  · obtain ⟨n, sg, rfl, b, ls, q⟩ := h
    refine ⟨_, (pss_cons (ps_if (pt_cmpR op_eq (pv 0) pe_int (nomark _))
      (pss_one (ps_ret (pv 1)))
      pss_nil)
      (pss_one (ps_ret (pe_op op_add_str (pe_callTy call_str_int (by rfl) T.z_str (by decide +kernel) (pa_cons (pv 0) pa_nil)) (pv 1))))), ?_⟩
    have lg : n.natAbs.log2 < 1920 := by
      rcases Nat.eq_zero_or_pos n.natAbs with z | z
      · rw [z]
        decide
      · exact Nat.lt_trans ((Nat.log2_lt (by omega)).mpr b) (by decide)
    have ln := int_text_len_1921 lg
    refine ⟨_, rfl, rfl, _, rfl, ite2 (fun c => ?_) (fun c => ?_)⟩
    · have c : n = 1 := by simpa using c
      refine ⟨_, rfl, ?_⟩
      unfold cntS at q
      rw [if_pos c] at q
      exact q
    · have c : ¬ n = 1 := by simpa using c
      refine ⟨_, rfl, _, rfl, lg, _, rfl, _, _, rfl, rfl, ?_, ?_⟩
      · rw [sizeLine_eq]
        omega
      · unfold cntS at q
        rw [if_neg c] at q
        exact q
theorem cutT_from (ts : List Int) (i : Nat) (h : i ≤ ts.length) : cutT ts (some ((i : Nat) : Int)) none = ts.drop i := by
  have e : HT.sIx ts.length 0 (some ((i : Nat) : Int)) = i := by
    show (if ((i : Nat) : Int) < 0 then (((i : Nat) : Int) + (ts.length : Int)).toNat else min ((i : Nat) : Int).toNat ts.length) = i
    rw [if_neg (by omega)]
    omega
  unfold cutT
  rw [e]
  show (ts.drop i).take (ts.length - i) = _
  exact List.take_of_length_le (by rw [List.length_drop]; exact Nat.le_refl _)
theorem at_bits {ts : List Int} {i : Nat} {x : Int} (h : ts[i]? = some x) : atI (ts.map V.int) ((i : Nat) : Int) = some (.int x) := atI_nat (by rw [List.getElem?_map, h]; rfl)
theorem tl_dotO : tl (Str.ofString ".O") = [46, 79] := by decide +kernel
theorem at_dotO {x : Int} (h : x = 0 ∨ x = 1) : atI (Str.ofString ".O").cps.toList x = some (sgn x) := by
  show atI (tl (Str.ofString ".O")) x = _
  rw [tl_dotO]
  rcases h with h | h <;> subst h <;> rfl
def bitsR (ps : List Pr) (r : Int) (w : Nat) : List Int := (List.range w).map fun (c : Nat) => if (r, (c : Int)) ∈ ps then 1 else 0
def sp_law_runs : Sp := fun vs H Q _ => ∃ (l : Addr) (ps : List Pr) (r w : Int), vs = [.ref l, .int r, .int w] ∧ Cells H l ps ∧ 0 ≤ w ∧ w ≤ 1000 ∧
  ∀ (H' : Hp) (s : Str), Same H H' → tl s = lawL (bitsR ps r w.toNat) 0 → s.length ≤ 2000 * w.toNat → Q (.str s) H'
theorem ok_law_runs (T : Txt K mg) : FnOk P w K mg base CX0 2 T.f_law_runs T.d_law_runs ["cells", "r", "width"] sp_law_runs := by
  refine T.F_law_runs.ok sc_law_runs (fun vs H Q E h => ?_) (fun cdv A outer s H vs Q E hr h => ?_)
  · obtain ⟨_, _, _, _, rfl, _⟩ := h
    rfl
  · obtain ⟨l, ps, r, wd, rfl, hC, w0, w1, q⟩ := h
    have hu : (A.deeper (envOfC (Str.ofString "_law_runs") (defScope s_law_runs) s.heap.objs.size T.f_law_runs cdv)).units + 65 < cLine := by
      have := hr.un
      omega
    refine ⟨_, (pss_cons (ps_setLc (i := 3) (own := [("c", 6)]) (g := gName 6) (tt := tYes) rfl sc_law_runs.nd rfl rfl (sw_true rfl rfl rfl (by decide +kernel)) (pi_range1 (by rfl) T.z_range (pa_cons (pv 2) pa_nil)) (blkOk_by (own := [("c", 6)]) (N := N_law_runs) (sc := defScope s_law_runs) (by decide +kernel)) (fun _ _ _ _ _ => pg_name (i := 6) sc_law_runs.nd rfl (Or.inl rfl)) (fun _ _ _ _ _ => pts_nil) (fun _ _ _ _ _ => (pe_callTy call_intB (by rfl) T.z_int (by decide +kernel) (pa_cons (pe_cmpR (op_inP hu) (pe_tup (pa_cons (pv 1) (pa_cons (pv 6) pa_nil))) (pv 0) rfl) pa_nil))))
      (pss_cons (ps_set (i := 4) sc_law_runs.nd rfl (.inl rfl) pe_str)
      (pss_cons (ps_set (i := 5) sc_law_runs.nd rfl (.inl rfl) pe_int)
      (pss_cons (ps_for PassesOwn.never rfl (pi_range1 (by rfl) T.z_range (pa_cons (pv 2) pa_nil)) (pg_name (i := 6) sc_law_runs.nd rfl (.inl rfl))
      (pss_cons (ps_set (i := 5) sc_law_runs.nd rfl (.inl rfl) (pe_op op_add (pv 5) pe_int))
      (pss_one (ps_if (PW.pt (pw_or (pt_cmpR op_eq (pe_op op_add (pv 6) pe_int) (pv 2) (nomark _)) (pw_or1 (pt_cmpR op_ne (pe_ix ix_list (pv 3) (pe_op op_add (pv 6) pe_int) (fun _ _ => rfl)) (pe_ix ix_list (pv 3) (pv 6) (fun _ _ => rfl)) (nomark _)))))
      (pss_cons (ps_if (PW.pt (pw_or (pt_cmpR op_eq (pe_ix ix_list (pv 3) (pv 6) (fun _ _ => rfl)) pe_int (nomark _)) (pw_or1 (pt_cmpR op_gt (pe_callB (cr_sum rfl) (by rfl) T.z_sum (by decide +kernel) (pa_cons (pe_slice sl_list (pv 3) (po_some (pv 6)) po_none) pa_nil)) pe_int (nomark _)))))
      (pss_one (ps_set (i := 4) sc_law_runs.nd rfl (.inl rfl) (pe_op op_add_str (pv 4) (pe_call (ok_law_counted T) (hr.mono (by decide)) (by rfl) T.g_law_counted T.F_law_counted.kp T.b_law_counted .nil pass0 (pa_cons (pv 5) (pa_cons (pe_ix ix_str pe_str (pe_ix ix_list (pv 3) (pv 6) (fun _ _ => rfl)) (fun _ _ => rfl)) pa_nil))))))
      pss_nil)
      (pss_one (ps_set (i := 5) sc_law_runs.nd rfl (.inl rfl) pe_int)))
      pss_nil))))
      (pss_one (ps_ret (pv 4))))))), ?_⟩
    refine ⟨_, rfl, wd, rfl, by omega, by omega, fun D nD => lc_range (lo := 0) (n := wd.toNat) (fun i H' => Same H H' ∧ H' D = some (.lst (((bitsR ps r wd.toNat).take i).map V.int))) ⟨newS nD, upd_same⟩ ?_ ?_⟩
    · rintro i H' hi ⟨sm, hd⟩
      refine ⟨rfl, tyesT ⟨_, rfl, _, rfl, by k_clsL, fun t nt => ?_⟩⟩
      have hC2 := hC.up (sm.trans (newS nt (o := .tup [.int r, .int (0 + (i : Int))])))
      refine ⟨_, rfl, t, l, (r, 0 + (i : Int)), ps, rfl, rfl, upd_same, hC2, _, rfl, _, newS nt _ _ hd, ?_, mutS (sm.trans (newS nt)) nD, ?_⟩
      · rw [List.length_map, List.length_take, sizeLine_eq]
        omega
      · have bi : (bitsR ps r wd.toNat)[i]? = some (if (r, (i : Int)) ∈ ps then (1 : Int) else 0) := by
          unfold bitsR
          rw [List.getElem?_map, List.getElem?_range hi]
          rfl
        rw [upd_same, take_next bi, List.map_append, show (0 : Int) + (i : Int) = (i : Int) by omega]
        by_cases k : (r, (i : Int)) ∈ ps
        · rw [if_pos k, decide_eq_true k]
          rfl
        · rw [if_neg k, decide_eq_false k]
          rfl
    · rintro H1 ⟨e1, g1⟩
      have lb : (bitsR ps r wd.toNat).length = wd.toNat := by
        unfold bitsR
        rw [List.length_map, List.length_range]
      rw [List.take_of_length_le (by omega)] at g1
      refine ⟨_, rfl, wd, rfl, by omega, by omega, for_range (lo := 0) (n := wd.toNat) (fun i σ H' => ∃ (tx : Str) (k : Nat) (x : Option V), σ = [some (.ref l), some (.int r), some (.int wd), some (.ref D), some (.str tx), some (.int ((k : Nat) : Int)), x] ∧ Same H H' ∧
        H' D = some (.lst ((bitsR ps r wd.toNat).map V.int)) ∧ tl tx ++ lawL ((bitsR ps r wd.toNat).drop i) k = lawL (bitsR ps r wd.toNat) 0 ∧ k ≤ i ∧ tx.length ≤ 2000 * i)
        ⟨Str.ofString "", 0, _, rfl, e1, g1, by rw [tl_e]; rfl, Nat.zero_le _, by decide⟩ ?_ ?_⟩
      · rintro i σ H' hi ⟨tx, k, x0, rfl, sm, gd, hw, lk, lt⟩
        obtain ⟨x, hx⟩ : ∃ x, (bitsR ps r wd.toNat)[i]? = some x := ⟨_, List.getElem?_eq_getElem (by omega)⟩
        have hx01 : x = 0 ∨ x = 1 := by
          have m := List.mem_of_getElem? hx
          obtain ⟨c, _, e⟩ := List.mem_map.mp m
          by_cases q : (r, (c : Int)) ∈ ps
          · rw [if_pos q] at e
            exact .inr e.symm
          · rw [if_neg q] at e
            exact .inl e.symm
        have dr : (bitsR ps r wd.toNat).drop i = x :: (bitsR ps r wd.toNat).drop (i + 1) := by
          obtain ⟨h1, h2⟩ := List.getElem?_eq_some_iff.mp hx
          rw [List.drop_eq_getElem_cons h1, h2]
        have hd1 : ((bitsR ps r wd.toNat).drop (i + 1)).head? = (bitsR ps r wd.toNat)[i + 1]? := by
          rw [List.head?_drop]
        have ati : atI ((bitsR ps r wd.toNat).map V.int) (0 + ((i : Nat) : Int)) = some (.int x) := by
          rw [Int.zero_add]
          exact at_bits hx
        refine ⟨_, rfl, _, _, rfl, rfl, _, rfl, _, _, rfl, rfl, _, rfl, rfl, _, rfl, ite2 (fun c => ?_) (fun c => ?_)⟩
        · have c : (0 : Int) + (i : Int) + 1 = wd := V.int.inj (of_decide_eq_true c)
          have hfl := (show ¬ ((bitsR ps r wd.toNat).drop (i + 1)).head? = some x by
            rw [hd1, List.getElem?_eq_none (by omega)]
            intro z
            cases z)
          have unf : lawL (x :: (bitsR ps r wd.toNat).drop (i + 1)) k = (if x = 1 ∨ 0 < (x :: (bitsR ps r wd.toNat).drop (i + 1)).sum then cntL ((k + 1 : Nat) : Int) (sgn x) else []) ++ lawL ((bitsR ps r wd.toNat).drop (i + 1)) 0 := if_neg hfl
          refine ⟨_, rfl, _, rfl, _, _, _, _, rfl, rfl, lst_of gd, ati, rfl, _, rfl, ite2 (fun d => ?_) (fun d => ?_)⟩
          · have d : x = 1 := V.int.inj (of_decide_eq_true d)
            refine ⟨_, rfl, _, rfl, _, rfl, _, rfl, _, _, _, _, rfl, rfl, lst_of gd, ati, _, _, _, rfl, rfl, by decide, at_dotO hx01, _, _, rfl, by show (((k : Nat) : Int) + 1).natAbs < _; omega, (show (1 : Nat) ≤ 100 by decide), _, _, rfl, rfl, ?_, ?_⟩
            · have := len_cntS (n := ((k : Nat) : Int) + 1) (sg := (⟨#[sgn x]⟩ : Str)) (by omega) (Nat.le_refl 1)
              rw [sizeLine_eq]
              omega
            · refine ⟨tx ++ cntS (((k : Nat) : Int) + 1) (⟨#[sgn x]⟩ : Str), 0, _, rfl, sm, gd, ?_, Nat.zero_le _, ?_⟩
              · have tc : tl (cntS (((k : Nat) : Int) + 1) (⟨#[sgn x]⟩ : Str)) = cntL ((k + 1 : Nat) : Int) (sgn x) := tl_cntS rfl
                rw [← hw, dr, unf, if_pos (.inl d), tl_append, tc, List.append_assoc]
              · have := len_cntS (n := ((k : Nat) : Int) + 1) (sg := (⟨#[sgn x]⟩ : Str)) (by omega) (Nat.le_refl 1)
                have la : (tx ++ cntS (((k : Nat) : Int) + 1) (⟨#[sgn x]⟩ : Str)).length = tx.length + (cntS (((k : Nat) : Int) + 1) (⟨#[sgn x]⟩ : Str)).length := by
                  rw [TL.len_tl, TL.len_tl, TL.len_tl, tl_append, List.length_append]
                omega
          · have d : ¬ x = 1 := fun e => d (decide_eq_true (congrArg V.int e))
            refine ⟨_, rfl, _, rfl, _, rfl, _, _, rfl, lst_of gd, fun p4 n4 => ?_⟩
            rw [cutV_map]
            k_invariant "new" (n4, H4, e4, g4)
            have g4 : H4 p4 = some (.lst (((bitsR ps r wd.toNat).drop i).map V.int)) := by
              rw [g4, show (0 : Int) + ((i : Nat) : Int) = ((i : Nat) : Int) by omega, cutT_from _ _ (by omega)]
            refine ⟨_, _, rfl, lst_of g4, _, _, rfl, rfl, _, rfl, ite2 (fun d2 => ?_) (fun d2 => ?_)⟩
            · have d2 : 0 < ((bitsR ps r wd.toNat).drop i).sum := of_decide_eq_true d2
              rw [dr] at d2
              refine ⟨_, rfl, _, rfl, _, rfl, _, rfl, _, _, _, _, rfl, rfl, lst_of (e4 _ _ gd), ati, _, _, _, rfl, rfl, by decide, at_dotO hx01, _, _, rfl, by show (((k : Nat) : Int) + 1).natAbs < _; omega, (show (1 : Nat) ≤ 100 by decide), _, _, rfl, rfl, ?_, ?_⟩
              · have := len_cntS (n := ((k : Nat) : Int) + 1) (sg := (⟨#[sgn x]⟩ : Str)) (by omega) (Nat.le_refl 1)
                rw [sizeLine_eq]
                omega
              · refine ⟨tx ++ cntS (((k : Nat) : Int) + 1) (⟨#[sgn x]⟩ : Str), 0, _, rfl, (sm.trans e4), (e4 _ _ gd), ?_, Nat.zero_le _, ?_⟩
                · have tc : tl (cntS (((k : Nat) : Int) + 1) (⟨#[sgn x]⟩ : Str)) = cntL ((k + 1 : Nat) : Int) (sgn x) := tl_cntS rfl
                  rw [← hw, dr, unf, if_pos (.inr d2), tl_append, tc, List.append_assoc]
                · have := len_cntS (n := ((k : Nat) : Int) + 1) (sg := (⟨#[sgn x]⟩ : Str)) (by omega) (Nat.le_refl 1)
                  have la : (tx ++ cntS (((k : Nat) : Int) + 1) (⟨#[sgn x]⟩ : Str)).length = tx.length + (cntS (((k : Nat) : Int) + 1) (⟨#[sgn x]⟩ : Str)).length := by
                    rw [TL.len_tl, TL.len_tl, TL.len_tl, tl_append, List.length_append]
                  omega
            · have d2 : ¬ 0 < ((bitsR ps r wd.toNat).drop i).sum := fun e => d2 (decide_eq_true e)
              rw [dr] at d2
              refine ⟨tx, 0, _, rfl, sm.trans e4, e4 _ _ gd, ?_, Nat.zero_le _, by omega⟩
              rw [← hw, dr, unf, if_neg (fun z => z.elim d d2)]
              rfl
        · have c : ¬ (0 : Int) + (i : Int) + 1 = wd := fun e => c (decide_eq_true (congrArg V.int e))
          obtain ⟨y, hy⟩ : ∃ y, (bitsR ps r wd.toNat)[i + 1]? = some y := ⟨_, List.getElem?_eq_getElem (by omega)⟩
          have aty : atI ((bitsR ps r wd.toNat).map V.int) (0 + ((i : Nat) : Int) + 1) = some (.int y) := by
            rw [show (0 : Int) + ((i : Nat) : Int) + 1 = ((i + 1 : Nat) : Int) by omega]
            exact at_bits hy
          refine ⟨_, rfl, _, rfl, _, _, rfl, rfl, _, _, _, _, rfl, rfl, lst_of gd, aty, _, rfl, _, rfl, _, _, _, _, rfl, rfl, lst_of gd, ati, rfl, _, rfl, ite2 (fun c2 => ?_) (fun c2 => ?_)⟩
          · have c2 : ¬ y = x := fun e => by
              rw [e] at c2
              simp at c2
            have hfl := (show ¬ ((bitsR ps r wd.toNat).drop (i + 1)).head? = some x by
              rw [hd1, hy]
              exact fun z => c2 (Option.some.inj z))
            have unf : lawL (x :: (bitsR ps r wd.toNat).drop (i + 1)) k = (if x = 1 ∨ 0 < (x :: (bitsR ps r wd.toNat).drop (i + 1)).sum then cntL ((k + 1 : Nat) : Int) (sgn x) else []) ++ lawL ((bitsR ps r wd.toNat).drop (i + 1)) 0 := if_neg hfl
            refine ⟨_, rfl, _, rfl, _, _, _, _, rfl, rfl, lst_of gd, ati, rfl, _, rfl, ite2 (fun d => ?_) (fun d => ?_)⟩
            · have d : x = 1 := V.int.inj (of_decide_eq_true d)
              refine ⟨_, rfl, _, rfl, _, rfl, _, rfl, _, _, _, _, rfl, rfl, lst_of gd, ati, _, _, _, rfl, rfl, by decide, at_dotO hx01, _, _, rfl, by show (((k : Nat) : Int) + 1).natAbs < _; omega, (show (1 : Nat) ≤ 100 by decide), _, _, rfl, rfl, ?_, ?_⟩
              · have := len_cntS (n := ((k : Nat) : Int) + 1) (sg := (⟨#[sgn x]⟩ : Str)) (by omega) (Nat.le_refl 1)
                rw [sizeLine_eq]
                omega
              · refine ⟨tx ++ cntS (((k : Nat) : Int) + 1) (⟨#[sgn x]⟩ : Str), 0, _, rfl, sm, gd, ?_, Nat.zero_le _, ?_⟩
                · have tc : tl (cntS (((k : Nat) : Int) + 1) (⟨#[sgn x]⟩ : Str)) = cntL ((k + 1 : Nat) : Int) (sgn x) := tl_cntS rfl
                  rw [← hw, dr, unf, if_pos (.inl d), tl_append, tc, List.append_assoc]
                · have := len_cntS (n := ((k : Nat) : Int) + 1) (sg := (⟨#[sgn x]⟩ : Str)) (by omega) (Nat.le_refl 1)
                  have la : (tx ++ cntS (((k : Nat) : Int) + 1) (⟨#[sgn x]⟩ : Str)).length = tx.length + (cntS (((k : Nat) : Int) + 1) (⟨#[sgn x]⟩ : Str)).length := by
                    rw [TL.len_tl, TL.len_tl, TL.len_tl, tl_append, List.length_append]
                  omega
            · have d : ¬ x = 1 := fun e => d (decide_eq_true (congrArg V.int e))
              refine ⟨_, rfl, _, rfl, _, rfl, _, _, rfl, lst_of gd, fun p4 n4 => ?_⟩
              rw [cutV_map]
              k_invariant "new" (n4, H4, e4, g4)
              have g4 : H4 p4 = some (.lst (((bitsR ps r wd.toNat).drop i).map V.int)) := by
                rw [g4, show (0 : Int) + ((i : Nat) : Int) = ((i : Nat) : Int) by omega, cutT_from _ _ (by omega)]
              refine ⟨_, _, rfl, lst_of g4, _, _, rfl, rfl, _, rfl, ite2 (fun d2 => ?_) (fun d2 => ?_)⟩
              · have d2 : 0 < ((bitsR ps r wd.toNat).drop i).sum := of_decide_eq_true d2
                rw [dr] at d2
                refine ⟨_, rfl, _, rfl, _, rfl, _, rfl, _, _, _, _, rfl, rfl, lst_of (e4 _ _ gd), ati, _, _, _, rfl, rfl, by decide, at_dotO hx01, _, _, rfl, by show (((k : Nat) : Int) + 1).natAbs < _; omega, (show (1 : Nat) ≤ 100 by decide), _, _, rfl, rfl, ?_, ?_⟩
                · have := len_cntS (n := ((k : Nat) : Int) + 1) (sg := (⟨#[sgn x]⟩ : Str)) (by omega) (Nat.le_refl 1)
                  rw [sizeLine_eq]
                  omega
                · refine ⟨tx ++ cntS (((k : Nat) : Int) + 1) (⟨#[sgn x]⟩ : Str), 0, _, rfl, (sm.trans e4), (e4 _ _ gd), ?_, Nat.zero_le _, ?_⟩
                  · have tc : tl (cntS (((k : Nat) : Int) + 1) (⟨#[sgn x]⟩ : Str)) = cntL ((k + 1 : Nat) : Int) (sgn x) := tl_cntS rfl
                    rw [← hw, dr, unf, if_pos (.inr d2), tl_append, tc, List.append_assoc]
                  · have := len_cntS (n := ((k : Nat) : Int) + 1) (sg := (⟨#[sgn x]⟩ : Str)) (by omega) (Nat.le_refl 1)
                    have la : (tx ++ cntS (((k : Nat) : Int) + 1) (⟨#[sgn x]⟩ : Str)).length = tx.length + (cntS (((k : Nat) : Int) + 1) (⟨#[sgn x]⟩ : Str)).length := by
                      rw [TL.len_tl, TL.len_tl, TL.len_tl, tl_append, List.length_append]
                    omega
              · have d2 : ¬ 0 < ((bitsR ps r wd.toNat).drop i).sum := fun e => d2 (decide_eq_true e)
                rw [dr] at d2
                refine ⟨tx, 0, _, rfl, sm.trans e4, e4 _ _ gd, ?_, Nat.zero_le _, by omega⟩
                rw [← hw, dr, unf, if_neg (fun z => z.elim d d2)]
                rfl
          · have c2 : y = x := by
              by_cases e : y = x
              · exact e
              · exact absurd (by simp [e]) c2
            refine ⟨tx, k + 1, _, rfl, sm, gd, ?_, by omega, by omega⟩
            rw [← hw, dr]
            have unf : lawL (x :: (bitsR ps r wd.toNat).drop (i + 1)) k = lawL ((bitsR ps r wd.toNat).drop (i + 1)) (k + 1) := if_pos (by rw [hd1, hy, c2])
            rw [unf]
      · rintro σ H' ⟨tx, k, x0, rfl, sm, gd, hw, lk, lt⟩
        rw [List.drop_eq_nil_of_le (by omega)] at hw
        have hw : tl tx ++ [] = _ := hw
        rw [List.append_nil] at hw
        exact ⟨_, rfl, q H' tx sm hw lt⟩
end
end My
namespace My
open PySem PySem.Spec PyProof.Rows L2 Vx
open TL
local macro_rules | `(tactic| k_invariant "new" ($n, $H:ident, $e:ident, $h:ident)) => `(tactic| (generalize hE : upd _ _ _ = $H; obtain ⟨$e:ident, $h:ident⟩ := gen_e hE $n; clear hE))
local macro_rules | `(tactic| k_places) => `(tactic| first
  | assumption
  | exact lst_of (by assumption)
  | exact tup_of (by assumption)
  | (refine getS (by assumption) ?_; k_places)
  | (refine Same.seq (by assumption) ?_; k_places)
  | (refine tupS (by assumption) ?_; k_places)
  | (refine lst_of ?_; k_places)
  | (refine tup_of ?_; k_places))
local macro_rules | `(tactic| k_subL) => `(tactic| first
  | k_places
  | solve_by_elim (maxDepth := 10) [getS, lst_of, tup_of, Same.seq, tupS])
local macro_rules | `(tactic| k_offL) => `(tactic| first
  | (show (0 : Int) < _; first | omega | decide)
  | (refine ⟨?_, ?_⟩ <;> first | omega | decide)
  | exact .inr ⟨by decide, by decide⟩
  | exact .inl ⟨by decide, by decide⟩
  | exact .inl ⟨by omega, by omega⟩
  | omega)
local macro_rules | `(tactic| k_clsL) => `(tactic| exact Nat.le_of_ble_eq_true rfl)
section
variable {P : Program} {w : World} {K : PySem.W.Frag} {mg : Str → Option Value} {base : Heap}
theorem cntL_len {n : Int} {c : Nat} (h0 : 0 ≤ n) (h1 : n < 1000) : (cntL n c).length ≤ 4 := by
  unfold cntL
  by_cases e : n = 1
  · rw [if_pos e]
    exact (show (1 : Nat) ≤ 4 by decide)
  · rw [if_neg e, show n = ((n.toNat : Nat) : Int) by omega, tl_num, List.length_append, List.length_singleton]
    have := numL_len (n := n.toNat) (k := 3) (by decide) (by omega)
    omega
theorem write_len : ∀ (rs : List Run) (row en : Int) (acc : List Nat), 0 ≤ row → 0 ≤ en → Ordered row en rs → (∀ t ∈ rs, t.1 < 1000 ∧ t.2.1 < 1000 ∧ t.2.2 < 1000) → (rs.foldl wStep (acc, row, en)).1.length ≤ acc.length + 12 * rs.length
  | [], row, en, acc, _, _, _, _ => Nat.le_refl _
  | t :: rs, row, en, acc, r0, e0, o, b => by
    obtain ⟨o1, o2, o3⟩ := o
    obtain ⟨b1, b2, b3⟩ := b t List.mem_cons_self
    rw [List.foldl_cons, List.length_cons]
    have A : ∃ acc1 en1, (if row < t.1 then (acc ++ cntL (t.1 - row) 47, t.1, 0) else (acc, row, en)) = (acc1, t.1, en1) ∧ 0 ≤ en1 ∧ en1 ≤ t.2.1 ∧ acc1.length ≤ acc.length + 4 := by
      by_cases c : row < t.1
      · refine ⟨acc ++ cntL (t.1 - row) 47, 0, if_pos c, Int.le_refl 0, by omega, ?_⟩
        have := cntL_len (n := t.1 - row) (c := 47) (by omega) (by omega)
        rw [List.length_append]
        omega
      · have e : row = t.1 := by omega
        exact ⟨acc, en, by rw [if_neg c, e], e0, by omega, by omega⟩
    obtain ⟨acc1, en1, w1, e1, le1, l1⟩ := A
    have B : ∃ acc2, (if en1 < t.2.1 then acc1 ++ cntL (t.2.1 - en1) 46 else acc1) = acc2 ∧ acc2.length ≤ acc1.length + 4 := by
      by_cases c : en1 < t.2.1
      · refine ⟨acc1 ++ cntL (t.2.1 - en1) 46, if_pos c, ?_⟩
        have := cntL_len (n := t.2.1 - en1) (c := 46) (by omega) (by omega)
        rw [List.length_append]
        omega
      · exact ⟨acc1, if_neg c, by omega⟩
    obtain ⟨acc2, w2, l2⟩ := B
    rw [wStep_eq w1 w2]
    have := cntL_len (n := t.2.2) (c := 79) (by omega) (by omega)
    have z := write_len rs t.1 (t.2.1 + t.2.2) (acc2 ++ cntL t.2.2 79) (by omega) (by omega) o3 (fun u m => b u (List.mem_cons_of_mem _ m))
    rw [List.length_append] at z
    omega
theorem home_len {qs : List Pr} (h : IsHome qs) (b : ∀ x ∈ qs, x.1 < 1000 ∧ x.2 < 1000) (l : qs.length < 64) : (writeP (runsP qs)).length ≤ 1000 := by
  have o := ord_runs qs [] trivial h.nn h.1 (fun us u e => by
    have := congrArg List.length e
    rw [List.length_append] at this
    simp at this)
  have z := write_len (runsP qs) 0 0 [] (Int.le_refl 0) (Int.le_refl 0) o (runs_small b l)
  have lr := runs_len qs []
  have lr : (runsP qs).length ≤ 0 + qs.length := lr
  unfold writeP
  rw [List.length_append, List.length_singleton]
  have : ([] : List Nat).length = 0 := rfl
  omega
def Greatest (a : Int) (l : List Int) : Prop := a ∈ l ∧ ∀ y, y ∈ l → y ≤ a
theorem Greatest.uniq {a b : Int} {l : List Int} (h : Greatest a l) (h2 : Greatest b l) : a = b := by
  have := h.2 _ h2.1
  have := h2.2 _ h.1
  omega
theorem greatest_ex : ∀ l : List Int, l ≠ [] → ∃ a, Greatest a l
  | [], h => absurd rfl h
  | [x], _ => ⟨x, List.mem_singleton.mpr rfl, fun y m => by rw [List.mem_singleton.mp m]; omega⟩
  | x :: y :: l, _ => by
    obtain ⟨a, m, h⟩ := greatest_ex (y :: l) (by simp)
    by_cases c : a ≤ x
    · refine ⟨x, List.mem_cons_self, fun z mz => ?_⟩
      rcases List.mem_cons.mp mz with e | mz
      · omega
      · have := h z mz
        omega
    · refine ⟨a, List.mem_cons_of_mem _ m, fun z mz => ?_⟩
      rcases List.mem_cons.mp mz with e | mz
      · omega
      · exact h z mz
def sp_law_text : Sp := fun vs H Q _ => ∃ (l : Addr) (qs : List Pr), vs = [.ref l] ∧ Cells H l qs ∧ IsHome qs ∧ (∀ x ∈ qs, x.1 < 64 ∧ x.2 < 64) ∧ qs.length < 64 ∧
  ∀ (H' : Hp) (s : Str), Same H H' → tl s = writeP (runsP qs) → Q (.str s) H'
theorem ok_law_text (T : Txt K mg) : FnOk P w K mg base CX0 3 T.f_law_text T.d_law_text ["cells"] sp_law_text := by
  refine T.F_law_text.ok sc_law_text (fun vs H Q E h => ?_) (fun cdv A outer s H vs Q E hr h => ?_)
  · obtain ⟨_, _, rfl, _⟩ := h
    rfl
  · obtain ⟨l, qs, rfl, hC, hh, b, few, q⟩ := h
    refine ⟨_, (pss_cons (ps_if (pt_cmpR (op_eqD hr.units) (pv 0) (pe_lst pa_nil) (nomark _))
      (pss_one (ps_ret pe_str))
      pss_nil)
      (pss_cons (ps_set (i := 1) sc_law_text.nd rfl (.inl rfl) pe_str)
      (pss_cons (ps_set (i := 2) sc_law_text.nd rfl (.inl rfl) pe_int)
      (pss_cons (ps_for PassesOwn.never rfl (pi_range1 (by rfl) T.z_range (pa_cons (pe_op op_add (pe_callB (cr_max rfl) (by rfl) T.z_max (by decide +kernel) (pa_cons (pe_lc (own := [("r", 3), ("c", 5)]) (tt := tYes) rfl sc_law_text.nd (pi_list (pv 0)) (blkOk_by (own := [("r", 3), ("c", 5)]) (N := N_law_text) (sc := defScope s_law_text) (by decide +kernel)) (fun _ _ _ _ _ => (pg_tupK (K := K) (n := 2) rfl rfl (pgs_cons (pg_name (i := 3) sc_law_text.nd rfl (.inl rfl)) (pgs_cons (pg_name (i := 5) sc_law_text.nd rfl (.inl rfl)) pgs_nil)))) (fun _ _ _ _ _ => pts_nil) (fun _ _ _ _ _ => (pv 3))) pa_nil)) pe_int) pa_nil)) (pg_name (i := 3) sc_law_text.nd rfl (.inl rfl))
      (pss_cons (ps_set (i := 4) sc_law_text.nd rfl (.inl rfl) (pe_call (ok_law_runs T) (hr.mono (by decide)) (by rfl) T.g_law_runs T.F_law_runs.kp T.b_law_runs .nil pass0 (pa_cons (pv 0) (pa_cons (pv 3) (pa_cons (pe_op op_add (pe_callB (cr_max rfl) (by rfl) T.z_max (by decide +kernel) (pa_cons (pe_lc (own := [("r", 3), ("c", 5)]) (tt := tYes) rfl sc_law_text.nd (pi_list (pv 0)) (blkOk_by (own := [("r", 3), ("c", 5)]) (N := N_law_text) (sc := defScope s_law_text) (by decide +kernel)) (fun _ _ _ _ _ => (pg_tupK (K := K) (n := 2) rfl rfl (pgs_cons (pg_name (i := 3) sc_law_text.nd rfl (.inl rfl)) (pgs_cons (pg_name (i := 5) sc_law_text.nd rfl (.inl rfl)) pgs_nil)))) (fun _ _ _ _ _ => pts_nil) (fun _ _ _ _ _ => (pv 5))) pa_nil)) pe_int) pa_nil)))))
      (pss_cons (ps_if (PW.pt (pw_and (pt_cmpR op_ne (pv 4) pe_str (nomark _)) (pw_and1 (pt_cmpR op_gt (pv 2) pe_int (nomark _)))))
      (pss_cons (ps_set (i := 1) sc_law_text.nd rfl (.inl rfl) (pe_op op_add_str (pv 1) (pe_call (ok_law_counted T) (hr.mono (by decide)) (by rfl) T.g_law_counted T.F_law_counted.kp T.b_law_counted .nil pass0 (pa_cons (pv 2) (pa_cons pe_str pa_nil)))))
      (pss_one (ps_set (i := 2) sc_law_text.nd rfl (.inl rfl) pe_int)))
      pss_nil)
      (pss_cons (ps_set (i := 1) sc_law_text.nd rfl (.inl rfl) (pe_op op_add_str (pv 1) (pv 4)))
      (pss_one (ps_set (i := 2) sc_law_text.nd rfl (.inl rfl) (pe_op op_add (pv 2) pe_int)))))))
      (pss_one (ps_ret (pe_op op_add_str (pv 1) pe_str))))))), ?_⟩
    refine ⟨_, rfl, by k_clsL, fun pz nz => ?_⟩
    k_invariant "new" (nz, H1, e1, gz)
    have hZ : Cells H1 pz [] := ⟨[], gz, fun _ m => (by cases m), rfl⟩
    have hC1 := hC.up e1
    refine ⟨_, _, dp_cells hC1, dp_cells hZ, shaped_cells _, shaped_cells _, _, by rw [eqv_cells], ite2 (fun c => ?_) (fun c => ?_)⟩
    · have c := of_decide_eq_true c
      subst c
      exact q _ _ e1 tl_mark
    · have c : qs ≠ [] := fun e => c (decide_eq_true e)
      have ne0 : 0 < qs.length := by
        cases qs with
        | nil => exact absurd rfl c
        | cons x l => exact Nat.succ_pos _
      obtain ⟨R, hR⟩ := greatest_ex (qs.map (·.1)) (fun z => c (List.map_eq_nil_iff.mp z))
      obtain ⟨W, hW⟩ := greatest_ex (qs.map (·.2)) (fun z => c (List.map_eq_nil_iff.mp z))
      have R0 : 0 ≤ R ∧ R < 64 := by
        obtain ⟨x, m, e⟩ := List.mem_map.mp hR.1
        have := hh.nn x m
        have := b x m
        have e : x.1 = R := e
        omega
      have W0 : 0 ≤ W ∧ W < 64 := by
        obtain ⟨x, m, e⟩ := List.mem_map.mp hW.1
        have := hh.nn x m
        have := b x m
        have e : x.2 = W := e
        omega
      have full := home_rows (qs := qs) (w := (W + 1).toNat) (n := (R + 1).toNat) hh.1 fun x m => by
        have := hh.nn x m
        have := hR.2 x.1 (List.mem_map.mpr ⟨x, m, rfl⟩)
        have := hW.2 x.2 (List.mem_map.mpr ⟨x, m, rfl⟩)
        omega
      refine ⟨_, rfl, _, rfl, ⟨_, lst_of hC1.choose_spec.1⟩, fun Dt nDt => lc_nums (·.1) hC1 nDt (lt_line few) ?_ fun H2 e2 g2 => ?_⟩
      · intro t x H' Po Pn sm ht hq
        exact ⟨t, _, rfl, tup_of ht, rfl, _, _, rfl, _, _, rfl, rfl, rfl, tyesT ⟨_, rfl, hq⟩⟩
      refine ⟨_, _, rfl, lst_of g2, by rw [List.length_map]; exact ne0, fun R' m1 m2 => ?_⟩
      have eR : R' = R := Greatest.uniq (l := qs.map (·.1)) ⟨m1, m2⟩ hR
      subst eR
      refine ⟨_, _, rfl, rfl, _, rfl, by omega, by omega, for_range (lo := 0) (n := (R' + 1).toNat) (fun i σ H' => ∃ (tx : Str) (en : Int) (x y z : Option V), σ = [some (.ref l), some (.str tx), some (.int en), x, y, z] ∧ Same H1 H' ∧
        (tl tx, en) = lawRows (fun i => (List.range (W + 1).toNat).map fun (c : Nat) => if ((i : Int), (c : Int)) ∈ qs then (1 : Int) else 0) i ∧ tx.length ≤ 132000 * i ∧ 0 ≤ en ∧ en ≤ i)
        ⟨Str.ofString "", 0, _, _, _, rfl, e2, by rw [tl_e]; rfl, by decide, Int.le_refl 0, Int.le_refl 0⟩ ?_ ?_⟩
      · rintro i σ H' hi ⟨tx, en, x0, y0, z0, rfl, sm, hw, lt, en0, en1⟩
        have hC2 := hC1.up sm
        refine ⟨_, rfl, _, rfl, _, rfl, _, rfl, ⟨_, lst_of hC2.choose_spec.1⟩, fun Du nDu => lc_nums (·.2) hC2 nDu (lt_line few) ?_ fun H3 e3 g3 => ?_⟩
        · intro t x H' Po Pn sm ht hq
          exact ⟨t, _, rfl, tup_of ht, rfl, _, _, rfl, _, _, rfl, rfl, rfl, tyesT ⟨_, rfl, hq⟩⟩
        refine ⟨_, _, rfl, lst_of g3, by rw [List.length_map]; exact ne0, fun W' m3 m4 => ?_⟩
        have eW : W' = W := Greatest.uniq (l := qs.map (·.2)) ⟨m3, m4⟩ hW
        subst eW
        refine ⟨_, _, rfl, rfl, l, qs, _, _, rfl, hC2.up e3, by omega, by omega, fun H4 s e4 hs ls => ?_⟩
        have hs : tl s = lawL ((fun (i : Nat) => (List.range (W' + 1).toNat).map fun (c : Nat) => if ((i : Int), (c : Int)) ∈ qs then (1 : Int) else 0) i) 0 := by
          rw [hs]
          unfold bitsR
          rw [show (0 : Int) + (i : Int) = (i : Int) by omega]
        have stp : lawRows (fun i => (List.range (W' + 1).toNat).map fun (c : Nat) => if ((i : Int), (c : Int)) ∈ qs then (1 : Int) else 0) (i + 1) = ltStep (tl tx, en) (tl s) := by
          rw [hs, hw]
          rfl
        have nz : s = Str.ofString "" ↔ tl s = [] := ⟨fun e => by rw [e, tl_e], fun e => tlInj (by rw [e, tl_e])⟩
        have ls2 : s.length ≤ 130000 := by omega
        have lap : ∀ u v : Str, (u ++ v).length = u.length + v.length := fun u v => by rw [TL.len_tl, TL.len_tl, TL.len_tl, tl_append, List.length_append]
        have sm4 := sm.trans (e3.trans e4)
        have plain : ¬ (tl s ≠ [] ∧ 0 < en) → (tl (tx ++ s), en + 1) = lawRows (fun i => (List.range (W' + 1).toNat).map fun (c : Nat) => if ((i : Int), (c : Int)) ∈ qs then (1 : Int) else 0) (i + 1) := fun z => by
          rw [stp]
          unfold ltStep
          rw [if_neg z, tl_append]
        refine ⟨_, rfl, rfl, _, rfl, ite2 (fun d => ?_) (fun d => ?_)⟩
        · have d : tl s ≠ [] := fun z => by
            rw [nz.mpr z] at d
            simp at d
          refine ⟨_, rfl, _, _, rfl, rfl, _, rfl, ite2 (fun d2 => ?_) (fun d2 => ?_)⟩
          · have d2 : 0 < en := of_decide_eq_true d2
            have lc := len_cntS (n := en) (sg := Str.ofString "/") (by omega) (by decide)
            refine ⟨_, rfl, _, rfl, _, _, rfl, by omega, by decide, _, _, rfl, rfl, by rw [sizeLine_eq]; omega, ?_⟩
            refine ⟨_, rfl, _, rfl, _, _, rfl, rfl, by rw [sizeLine_eq, lap]; omega, ?_⟩
            refine ⟨_, rfl, _, _, rfl, rfl, tx ++ cntS en (Str.ofString "/") ++ s, 0 + 1, _, _, _, rfl, sm4, ?_, by rw [lap, lap]; omega, by decide, by omega⟩
            rw [stp]
            unfold ltStep
            rw [if_pos ⟨d, d2⟩, tl_append, tl_append, tl_cntS tl_slash]
            rfl
          · have d2 : ¬ 0 < en := fun z => d2 (decide_eq_true z)
            refine ⟨_, rfl, _, rfl, _, _, rfl, rfl, by rw [sizeLine_eq]; omega, ?_⟩
            exact ⟨_, rfl, _, _, rfl, rfl, tx ++ s, en + 1, _, _, _, rfl, sm4, plain fun z => d2 z.2, by rw [lap]; omega, by omega, by omega⟩
        · have d : tl s = [] := by
            refine nz.mp ?_
            by_cases z : s = Str.ofString ""
            · exact z
            · refine absurd ?_ d
              rw [decide_eq_false (fun y => z (V.str.inj y))]
              rfl
          refine ⟨_, rfl, _, rfl, _, _, rfl, rfl, by rw [sizeLine_eq]; omega, ?_⟩
          exact ⟨_, rfl, _, _, rfl, rfl, tx ++ s, en + 1, _, _, _, rfl, sm4, plain fun z => z.1 d, by rw [lap]; omega, by omega, by omega⟩
      · rintro σ H' ⟨tx, en, x0, y0, z0, rfl, sm, hw, lt, en0, en1⟩
        refine ⟨_, rfl, _, _, rfl, rfl, ?_, ?_⟩
        · rw [sizeLine_eq, show (Str.ofString "!").length = 1 by decide +kernel]
          omega
        · refine q H' _ (e1.trans sm) ?_
          rw [full, tl_append, tl_mark, ← hw]
end
end My
namespace My
open PySem PySem.Spec PyProof.Rows L2 Vx
open TL
local macro_rules | `(tactic| k_invariant "new" ($n, $H:ident, $e:ident, $h:ident)) => `(tactic| (generalize hE : upd _ _ _ = $H; obtain ⟨$e:ident, $h:ident⟩ := gen_e hE $n; clear hE))
local macro_rules | `(tactic| k_places) => `(tactic| first
  | assumption
  | exact lst_of (by assumption)
  | exact tup_of (by assumption)
  | (refine getS (by assumption) ?_; k_places)
  | (refine Same.seq (by assumption) ?_; k_places)
  | (refine tupS (by assumption) ?_; k_places)
  | (refine lst_of ?_; k_places)
  | (refine tup_of ?_; k_places))
local macro_rules | `(tactic| k_subL) => `(tactic| first
  | k_places
  | solve_by_elim (maxDepth := 10) [getS, lst_of, tup_of, Same.seq, tupS])
local macro_rules | `(tactic| k_offL) => `(tactic| first
  | (show (0 : Int) < _; first | omega | decide)
  | (refine ⟨?_, ?_⟩ <;> first | omega | decide)
  | exact .inr ⟨by decide, by decide⟩
  | exact .inl ⟨by decide, by decide⟩
  | exact .inl ⟨by omega, by omega⟩
  | omega)
local macro_rules | `(tactic| k_clsL) => `(tactic| exact Nat.le_of_ble_eq_true rfl)
section
variable {P : Program} {w : World} {K : PySem.W.Frag} {mg : Str → Option Value} {base : Heap}
theorem ok_law_cell (T : Txt K mg) : FnOk P w K mg base CX0 1 T.f_law_cell T.d_law_cell ["script", "k"] (spCell K) := by
  refine T.F_law_cell.ok sc_law_cell (fun vs H Q E h => ?_) (fun cdv A outer s H vs Q E hr h => ?_)
  · obtain ⟨l, ns, j, rfl, _⟩ := h
    rfl
  · obtain ⟨l, ns, j, rfl, hs, q⟩ := h
    refine ⟨_, (pss_cons (ps_if (pt_cmpR op_lt (pv 1) (pe_callB call_lenL (by rfl) T.z_len (by decide +kernel) (pa_cons (pv 0) pa_nil)) (nomark _))
      (pss_one (ps_ret (pe_callTy call_intI (by rfl) T.z_int (by decide +kernel) (pa_cons (pe_ix ix_list (pv 0) (pv 1) (fun _ _ => rfl)) pa_nil))))
      pss_nil)
      (pss_one (ps_ret pe_int))), ?_⟩
    refine ⟨_, rfl, _, rfl, _, _, rfl, hs, _, _, rfl, rfl, _, rfl, ite2 (fun c => ?_) (fun c => ?_)⟩
    · have hj : j < ns.length := by
        have z := of_decide_eq_true c
        rw [List.length_map] at z
        omega
      exact ⟨_, rfl, _, rfl, _, _, _, _, rfl, rfl, hs, atI_cell hj, _, rfl, q⟩
    · have hj : ¬ j < ns.length := fun z => c (decide_eq_true (by rw [List.length_map]; omega))
      rw [cell_out hj] at q
      exact q
/-! ### law_row: so many numbers from 0 to below the bound -/
def sp_law_row : Sp := fun vs H Q _ => ∃ (cell count bound : Int), vs = [.int cell, .int count, .int bound] ∧ 0 ≤ count ∧ count ≤ 100000 ∧ 0 < bound ∧ bound < 1000000000 ∧
  ∀ (H' : Hp) (p : Addr) (xs : List Int), H p = none → Same H H' → H' p = some (.lst (xs.map V.int)) → (xs.length : Int) = count → (∀ x ∈ xs, 0 ≤ x ∧ x < bound) → Q (.ref p) H'
theorem ok_law_row (T : Txt K mg) : FnOk P w K mg base CX0 1 T.f_law_row T.d_law_row ["cell", "count", "bound"] sp_law_row := by
  refine T.F_law_row.ok sc_law_row (fun vs H Q E h => ?_) (fun cdv A outer s H vs Q E hr h => ?_)
  · obtain ⟨_, _, _, rfl, _⟩ := h
    rfl
  · obtain ⟨cell, count, bound, rfl, c0, c1, b0, b1, q⟩ := h
    refine ⟨_, (pss_cons (ps_set (i := 3) sc_law_row.nd rfl (.inl rfl) (pe_callB call_abs (by rfl) T.z_abs (by decide +kernel) (pa_cons (pe_callTy call_intI (by rfl) T.z_int (by decide +kernel) (pa_cons (pv 0) pa_nil)) pa_nil)))
      (pss_cons (ps_set (i := 4) sc_law_row.nd rfl (.inl rfl) (pe_op op_add (pe_op op_mod (pe_callTy call_intI (by rfl) T.z_int (by decide +kernel) (pa_cons (pv 0) pa_nil)) pe_int) pe_int))
      (pss_cons (ps_set (i := 5) sc_law_row.nd rfl (.inl rfl) (pe_lst pa_nil))
      (pss_cons (ps_for PassesOwn.never rfl (pi_range1 (by rfl) T.z_range (pa_cons (pv 1) pa_nil)) (pg_name (i := 6) sc_law_row.nd rfl (.inl rfl))
      (pss_one (ps_if (pt_cmpR op_ge (pv 3) (pv 2) (nomark _))
      (pss_cons (ps_expr (pe_bm PySem.F.plainAttrs_list PySem.F.slot_list_append PySem.F.type_list_append mt_append (pv 5) (pa_cons (pe_op op_mod (pe_callTy call_intI (by rfl) T.z_int (by decide +kernel) (pa_cons (pv 3) pa_nil)) (pv 2)) pa_nil)))
      (pss_one (ps_set (i := 3) sc_law_row.nd rfl (.inl rfl) (pe_op op_fdiv (pv 3) (pv 2)))))
      (pss_cons (ps_set (i := 4) sc_law_row.nd rfl (.inl rfl) (pe_op op_mod (pe_callTy call_intI (by rfl) T.z_int (by decide +kernel) (pa_cons (pe_op op_add (pe_op op_add (pe_op op_mul (pv 4) pe_int) (pe_op op_mul pe_int (pv 6))) pe_int) pa_nil)) pe_int))
      (pss_one (ps_expr (pe_bm PySem.F.plainAttrs_list PySem.F.slot_list_append PySem.F.type_list_append mt_append (pv 5) (pa_cons (pe_op op_mod (pe_callTy call_intI (by rfl) T.z_int (by decide +kernel) (pa_cons (pe_op op_fdiv (pe_op op_mul (pv 4) pe_int) pe_int) pa_nil)) (pv 2)) pa_nil))))))))
      (pss_one (ps_ret (pv 5))))))), ?_⟩
    refine ⟨_, rfl, _, rfl, _, rfl, _, rfl, _, rfl, _, _, rfl, rfl, (by k_offL), _, _, rfl, rfl, Nat.zero_le _, fun p1 n1 => ?_⟩
    k_invariant "new" (n1, H1, e1, h1)
    refine ⟨_, rfl, _, rfl, by omega, by omega, for_range (lo := 0) (n := count.toNat) (fun i σ H' => ∃ (rest mixed : Int) (xs : List Int) (v : Option V), σ = [some (.int cell), some (.int count), some (.int bound), some (.int rest), some (.int mixed), some (.ref p1), v] ∧
      Same H H' ∧ H' p1 = some (.lst (xs.map V.int)) ∧ xs.length = i ∧ (∀ x ∈ xs, 0 ≤ x ∧ x < bound) ∧ 0 ≤ mixed ∧ mixed < 4294967296) ?_ ?_ ?_⟩
    · refine ⟨_, _, [], none, rfl, e1, h1, rfl, by simp, ?_, ?_⟩
      · have := Int.emod_nonneg cell (show (1000003 : Int) ≠ 0 by decide)
        omega
      · have := Int.emod_lt_of_pos cell (show (0 : Int) < 1000003 by decide)
        omega
    · rintro i σ H' hi ⟨rest, mixed, xs, v, rfl, sm, hp, hl, hx, m0, m1⟩
      refine ⟨_, rfl, _, rfl, _, _, rfl, rfl, _, rfl, ite2 (fun c => ?_) (fun c => ?_)⟩
      · refine ⟨_, rfl, .inl ⟨rfl, _, lst_of hp⟩, _, rfl, _, rfl, _, rfl, _, _, rfl, rfl, b0, _, _, _, rfl, rfl, hp, ?_, ?_⟩
        · rw [List.length_map]
          exact Nat.lt_of_lt_of_le (show xs.length < 100001 by omega) (by decide)
        · refine ⟨_, rfl, _, rfl, _, _, rfl, rfl, ⟨b0, by omega⟩, _, _, xs ++ [rest % bound], _, rfl, mutS sm n1, ?_, by simp [hl], fun x h => ?_, m0, m1⟩
          · rw [upd_same]
            simp
          · rcases List.mem_append.mp h with h | h
            · exact hx x h
            · rw [List.mem_singleton.mp h]
              exact ⟨Int.emod_nonneg _ (by omega), Int.emod_lt_of_pos _ b0⟩
      · refine ⟨_, rfl, _, _, rfl, rfl, .inr ⟨by decide, by decide⟩, _, rfl, _, _, rfl, rfl, .inl ⟨by decide, by decide⟩, _, _, rfl, rfl, _, _, rfl, rfl, _, rfl, _, _, rfl, rfl, (by k_offL), ?_⟩
        refine ⟨_, rfl, .inl ⟨rfl, _, lst_of hp⟩, _, rfl, _, _, rfl, rfl, .inr ⟨by decide, by decide⟩, _, _, rfl, rfl, ⟨by decide, by decide⟩, _, rfl, _, rfl, _, _, rfl, rfl, b0, _, _, _, rfl, rfl, hp, ?_, ?_⟩
        · rw [List.length_map]
          exact Nat.lt_of_lt_of_le (show xs.length < 100001 by omega) (by decide)
        · refine ⟨_, _, xs ++ [(mixed * 48271 + 11 * (0 + (i : Int)) + 7) % 2147483647 * 2862933555777941757 / 1024 % bound], _, rfl, mutS sm n1, ?_, by simp [hl], fun x h => ?_, Int.emod_nonneg _ (by decide), ?_⟩
          · rw [upd_same, List.map_append]
            rfl
          · rcases List.mem_append.mp h with h | h
            · exact hx x h
            · rw [List.mem_singleton.mp h]
              exact ⟨Int.emod_nonneg _ (by omega), Int.emod_lt_of_pos _ b0⟩
          · exact Int.lt_trans (Int.emod_lt_of_pos _ (by decide)) (by decide)
    · rintro σ H' ⟨rest, mixed, xs, v, rfl, sm, hp, hl, hx, _, _⟩
      exact ⟨_, rfl, q H' p1 xs n1 sm hp (by omega) hx⟩
/-! ### law_some: some cells of a box, ascending -/
def sp_law_some : Sp := fun vs H Q _ => ∃ (cell count h v : Int), vs = [.int cell, .int count, .int h, .int v] ∧ 0 ≤ count ∧ count ≤ 1000 ∧ 0 < h ∧ h ≤ 1000 ∧ 0 < v ∧ v ≤ 1000 ∧
  ∀ (H' : Hp) (p : Addr) (ps : List Pr), H p = none → Same H H' → Cells H' p ps → ps.Pairwise ltP → (ps.length : Int) ≤ count → (∀ x ∈ ps, 0 ≤ x.1 ∧ x.1 < h ∧ 0 ≤ x.2 ∧ x.2 < v) → Q (.ref p) H'
theorem ok_law_some (T : Txt K mg) : FnOk P w K mg base CX0 2 T.f_law_some T.d_law_some ["cell", "count", "height", "width"] sp_law_some := by
  refine T.F_law_some.ok sc_law_some (fun vs H Q E h => ?_) (fun cdv A outer s H vs Q E hr h => ?_)
  · obtain ⟨_, _, _, _, rfl, _⟩ := h
    rfl
  · obtain ⟨cell, count, h, v, rfl, c0, c1, h0, h1, v0, v1, q⟩ := h
    have hu : (A.deeper (envOfC (Str.ofString "_law_some") (defScope s_law_some) s.heap.objs.size T.f_law_some cdv)).units + 1 < cLine := by
      have := hr.units
      omega
    refine ⟨_, (pss_cons (ps_set (i := 4) sc_law_some.nd rfl (.inl rfl) (pe_callB call_abs (by rfl) T.z_abs (by decide +kernel) (pa_cons (pe_callTy call_intI (by rfl) T.z_int (by decide +kernel) (pa_cons (pv 0) pa_nil)) pa_nil)))
      (pss_cons (ps_set (i := 5) sc_law_some.nd rfl (.inl rfl) pe_dnewT)
      (pss_cons (ps_for PassesOwn.never rfl (pi_list (pe_call (ok_law_row T) (hr.mono (by decide)) (by rfl) T.g_law_row T.F_law_row.kp T.b_law_row .nil pass0 (pa_cons (pv 0) (pa_cons (pv 1) (pa_cons (pe_op op_mul (pv 2) (pv 3)) pa_nil))))) (pg_name (i := 6) sc_law_some.nd rfl (.inl rfl))
      (pss_one (ps_dput hu (pv 5) (pe_tup (pa_cons (pe_op op_fdiv (pv 6) (pv 3)) (pa_cons (pe_op op_mod (pv 6) (pv 3)) pa_nil))) pe_bl rfl)))
      (pss_one (ps_ret (pe_callB cr_sortedC (by rfl) T.z_sorted (by decide +kernel) (pa_cons (pe_lock (pe_lc (own := [("place", 7)]) (g := gName 7) (tt := tYes) rfl sc_law_some.nd (pi_keys (pv 5)) (blkOk_by (own := [("place", 7)]) (N := N_law_some) (sc := defScope s_law_some) (by decide +kernel)) (fun _ _ _ _ _ => pg_name (i := 7) sc_law_some.nd rfl (Or.inl rfl)) (fun _ _ _ _ _ => pts_nil) (fun _ _ _ _ _ => (pv 7)))) pa_nil))))))), ?_⟩
    have b0 : 0 < h * v := Int.mul_pos h0 v0
    have b1 : h * v < 1000000000 := by
      have := Int.mul_le_mul h1 v1 (by omega) (by decide)
      omega
    refine ⟨_, rfl, _, rfl, _, rfl, fun d nd => ?_⟩
    k_invariant "new" (nd, H1, e1, g1)
    refine ⟨_, rfl, _, rfl, _, rfl, _, rfl, _, _, rfl, rfl, (by k_offL), _, _, _, rfl, c0, by omega, b0, b1, fun H2 p2 xs n2 e2 g2 l2 m2 => ?_⟩
    have nd2 : d ≠ p2 := neS g1 (fun _ _ z => z) n2
    refine ⟨p2, rfl, ⟨_, lst_of g2⟩, for_list (K := K) (a := p2) (xs := xs.map V.int) (fun i σ H' => Same H H' ∧ H' p2 = some (.lst (xs.map V.int)) ∧ (∃ (x y z : Option V), σ = [some (.int cell), some (.int count), some (.int h), some (.int v), x, some (.ref d), y, z]) ∧ ∃ kvs ps, H' d = some (.dT kvs) ∧ KeysP kvs ps ∧ ps.length ≤ i ∧ ∀ x ∈ ps, 0 ≤ x.1 ∧ x.1 < h ∧ 0 ≤ x.2 ∧ x.2 < v)
      ⟨e1.trans e2, g2, ⟨_, _, _, rfl⟩, [], [], e2 _ _ g1, ⟨rfl, List.nodup_nil⟩, Nat.le_refl _, fun _ m => (by cases m)⟩ (fun i σ H' _ p => lst_of p.2.1) ?_ ?_⟩
    · rintro i z σ H' hi ⟨sm, gp, ⟨x, y, z1, rfl⟩, kvs, ps, gd, hK, lp, bd⟩
      obtain ⟨n, rfl, _, mn⟩ := item_ints hi
      have bn := m2 n mn
      have li := (List.getElem?_eq_some_iff.mp hi).1
      rw [List.length_map] at li
      refine ⟨_, rfl, _, rfl, _, rfl, _, _, rfl, rfl, ⟨v0, by omega⟩, _, rfl, _, rfl, _, _, rfl, rfl, v0, (by k_clsL), fun t nt => ?_⟩
      have ntd : t ≠ d := fun e => by
        rw [e, gd] at nt
        cases nt
      have ntp : p2 ≠ d := fun e => by
        rw [e, gd] at gp
        cases gp
      obtain ⟨qs, hQ, lq, mq⟩ := hK.put (n / v, n % v) (.bl true)
      refine ⟨d, _, rfl, DPut.t (k := keyP (n / v, n % v)) (newS nt _ _ gd) upd_same (by rw [hK.len, sizeLine_eq]; omega), mutS (sm.trans (newS nt)) nd, ?_, ⟨_, _, _, rfl⟩, _, qs, upd_same, hQ, by omega, fun x m => ?_⟩
      · rw [upd_ne ntp]
        exact newS nt _ _ gp
      · rcases (mq x).mp m with m | e
        · exact bd x m
        · rw [e]
          exact ⟨Int.ediv_nonneg bn.1 (by omega), Int.ediv_lt_of_lt_mul v0 bn.2, Int.emod_nonneg _ (by omega), Int.emod_lt_of_pos _ v0⟩
    · rintro σ H' ⟨sm, gp, ⟨x, y, z1, rfl⟩, kvs, ps, gd, hK, lp, bd⟩
      rw [List.length_map] at lp
      refine ⟨d, _, gd, trivial, fun od => ⟨_, rfl, d, od, rfl, .inr ⟨kvs, upd_same, fun D nD => lc_keysP hK upd_same nD (by rw [sizeLine_eq]; omega) ?_ fun H3 e3 g3 => ?_⟩⟩⟩
      · intro t x H' Po Pn ht hq
        exact ⟨rfl, tyesT ⟨_, rfl, hq⟩⟩
      · have gd3 : H3 d = some (.frz od (.dT kvs)) := e3 _ _ upd_same
        have s3 : Same H (upd H3 d (.dT kvs)) := mutS ((mutS sm nd).trans e3) nd
        have neD : D ≠ d := fun e => by
          rw [e, upd_same] at nD
          cases nD
        refine ⟨gd3, D, ps, rfl, g3.mut neD (fun xs e => ?_), hK.2, fun p H4 qs e4 n4 h4 c4 l4 => q H4 p qs (backS s3 n4) (s3.trans e4) h4 c4.1 (by omega) fun x m => bd x ((c4.2 x).mp m)⟩
        rw [gd3] at e
        cases e
/-! ### what the law says of an answer -/
def sp_law_integer : Sp := fun vs H Q _ => ∃ i : Int, vs = [.int i] ∧ Q (.bl true) H
theorem ok_law_integer (T : Txt K mg) : FnOk P w K mg base CX0 1 T.f_law_integer T.d_law_integer ["value"] sp_law_integer := by
  refine T.F_law_integer.ok sc_law_integer (fun vs H Q E h => ?_) (fun cdv A outer s H vs Q E hr h => ?_)
  · obtain ⟨_, rfl, _⟩ := h
    rfl
  · obtain ⟨i, rfl, q⟩ := h
    refine ⟨_, (pss_one (ps_ret (pe_and (pe_callB call_isi (by rfl) T.z_isinstance (by decide +kernel) (pa_cons (pv 0) (pa_cons (pe_bltn (v := .ty "int") (by rfl) T.z_int (by decide +kernel) rfl) pa_nil))) (pe_one (pe_not (pe_callB call_isi (by rfl) T.z_isinstance (by decide +kernel) (pa_cons (pv 0) (pa_cons (pe_bltn (v := .ty "bool") (by rfl) T.z_bool (by decide +kernel) rfl) pa_nil)))))))), ?_⟩
    exact ⟨_, rfl, _, _, _, _, _, rfl, .ty _, .base (.int _), rfl, _, rfl, _, rfl, _, _, _, _, _, rfl, .ty _, .base (.int _), rfl, _, rfl, q⟩
def sp_law_cells : Sp := fun vs H Q _ => ∃ (l : Addr) (ps : List Pr), vs = [.ref l] ∧ Cells H l ps ∧ ps.length < 64 ∧ ps.Pairwise ltP ∧ ∀ H', Same H H' → Q (.bl true) H'
theorem ok_law_cells (T : Txt K mg) : FnOk P w K mg base CX0 2 T.f_law_cells T.d_law_cells ["value"] sp_law_cells := by
  refine T.F_law_cells.ok sc_law_cells (fun vs H Q E h => ?_) (fun cdv A outer s H vs Q E hr h => ?_)
  · obtain ⟨_, _, rfl, _⟩ := h
    rfl
  · obtain ⟨l, ps, rfl, hC, few, pw, q⟩ := h
    refine ⟨_, (pss_cons (ps_if (pt_not (pt_val (pe_callB call_isi (by rfl) T.z_isinstance (by decide +kernel) (pa_cons (pv 0) (pa_cons (pe_bltn (v := .ty "list") (by rfl) T.z_list (by decide +kernel) rfl) pa_nil)))))
      (pss_one (ps_ret pe_bl))
      pss_nil)
      (pss_cons (ps_for PassesOwn.never rfl (pi_list (pv 0)) (pg_name (i := 1) sc_law_cells.nd rfl (.inl rfl))
      (pss_one (ps_if (PW.pt (pw_or (pt_not (pt_val (pe_callB call_isi (by rfl) T.z_isinstance (by decide +kernel) (pa_cons (pv 1) (pa_cons (pe_bltn (v := .ty "tuple") (by rfl) T.z_tuple (by decide +kernel) rfl) pa_nil))))) (pw_or (pt_cmpR op_ne (pe_callB call_lenU (by rfl) T.z_len (by decide +kernel) (pa_cons (pv 1) pa_nil)) pe_int (nomark _)) (pw_or (pt_not (pt_val (pe_call (ok_law_integer T) (hr.mono (by decide)) (by rfl) T.g_law_integer T.F_law_integer.kp T.b_law_integer .nil pass0 (pa_cons (pe_ix (ix_tupK (K := K) rfl) (pv 1) pe_int (fun _ _ => rfl)) pa_nil)))) (pw_or1 (pt_not (pt_val (pe_call (ok_law_integer T) (hr.mono (by decide)) (by rfl) T.g_law_integer T.F_law_integer.kp T.b_law_integer .nil pass0 (pa_cons (pe_ix (ix_tupK (K := K) rfl) (pv 1) pe_int (fun _ _ => rfl)) pa_nil)))))))))
      (pss_one (ps_ret pe_bl))
      pss_nil)))
      (pss_one (ps_ret (pe_cmpR (op_eqD hr.units) (pv 0) (pe_callB cr_sortedC (by rfl) T.z_sorted (by decide +kernel) (pa_cons (pv 0) pa_nil)) (nomark _)))))), ?_⟩
    obtain ⟨ts, hl, ht, rfl⟩ := id hC
    refine ⟨_, rfl, _, _, _, _, _, rfl, .ty _, .base (.lst hl), rfl, ?_⟩
    refine ⟨_, rfl, _, rfl, l, rfl, ⟨_, lst_of hl⟩, for_list (K := K) (a := l) (xs := ts.map fun t => V.ref t.1) (fun i σ H' => H' = H ∧ ∃ v : Option V, σ = [some (.ref l), v]) ⟨rfl, _, rfl⟩ (fun i σ H' _ p => by rw [p.1]; exact lst_of hl) ?_ ?_⟩
    · rintro i x σ H' hi ⟨rfl, v, rfl⟩
      obtain ⟨t, mt, rfl, _⟩ := item_cells (H := H') hi rfl
      have g := ht t mt
      refine ⟨_, rfl, _, _, _, _, _, rfl, .ty _, .base (.tup g), rfl, ?_⟩
      refine ⟨_, rfl, _, rfl, _, _, rfl, tup_of g, rfl, _, rfl, iteF ?_⟩
      refine ⟨_, rfl, _, _, _, _, rfl, rfl, tup_of g, rfl, _, rfl, _, rfl, iteF ?_⟩
      refine ⟨_, rfl, _, _, _, _, rfl, rfl, tup_of g, rfl, _, rfl, _, rfl, iteF ?_⟩
      exact ⟨rfl, _, rfl⟩
    · rintro σ H' ⟨rfl, v, rfl⟩
      refine ⟨_, rfl, _, rfl, _, _, rfl, hC, nodup_lt pw, fun p H1 qs e1 n1 h1 c1 l1 => ⟨_, _, dp_cells (hC.up e1), dp_cells h1, shaped_cells _, shaped_cells _, ?_⟩⟩
      rw [eqv_cells, canP_eq c1 pw fun _ => Iff.rfl, decide_eq_true rfl]
      exact q H1 e1
end
end My
namespace My
open PySem PySem.Spec PyProof.Rows L2 Vx
open TL
local macro_rules | `(tactic| k_invariant "new" ($n, $H:ident, $e:ident, $h:ident)) => `(tactic| (generalize hE : upd _ _ _ = $H; obtain ⟨$e:ident, $h:ident⟩ := gen_e hE $n; clear hE))
local macro_rules | `(tactic| k_places) => `(tactic| first
  | assumption
  | exact lst_of (by assumption)
  | exact tup_of (by assumption)
  | (refine getS (by assumption) ?_; k_places)
  | (refine Same.seq (by assumption) ?_; k_places)
  | (refine tupS (by assumption) ?_; k_places)
  | (refine lst_of ?_; k_places)
  | (refine tup_of ?_; k_places))
local macro_rules | `(tactic| k_subL) => `(tactic| first
  | k_places
  | solve_by_elim (maxDepth := 10) [getS, lst_of, tup_of, Same.seq, tupS])
local macro_rules | `(tactic| k_offL) => `(tactic| first
  | (show (0 : Int) < _; first | omega | decide)
  | (refine ⟨?_, ?_⟩ <;> first | omega | decide)
  | exact .inr ⟨by decide, by decide⟩
  | exact .inl ⟨by decide, by decide⟩
  | exact .inl ⟨by omega, by omega⟩
  | omega)
local macro_rules | `(tactic| k_clsL) => `(tactic| exact Nat.le_of_ble_eq_true rfl)
section
variable {P : Program} {w : World} {K : PySem.W.Frag} {mg : Str → Option Value} {base : Heap}
/-- no two neighbours alike: ascending -/
def sp_law (K : PySem.W.Frag) : Sp := fun vs H Q _ => ∃ (a : Addr) (ns : List Int), vs = [.ref a] ∧ SqL K H a (ns.map V.int) ∧ ns.length ≤ 63 ∧ ∀ H', Q (.bl true) H'
def B64 (ps : List Pr) : Prop := ∀ x ∈ ps, 0 ≤ x.1 ∧ x.1 < 64 ∧ 0 ≤ x.2 ∧ x.2 < 64
theorem ok_law (T : Txt K mg) : FnOk P w K mg base CX0 6 T.f_law T.d_law ["script"] (sp_law K) := by
  refine T.F_law.ok sc_law (fun vs H Q E h => ?_) (fun cdv A outer s H vs Q E hr h => ?_)
  · obtain ⟨a, ns, rfl, _⟩ := h
    rfl
  · obtain ⟨a, ns, rfl, hS, hlen, q⟩ := h
    refine ⟨_, (pss_cons (ps_set (i := 1) sc_law.nd rfl (.inl rfl) (pe_call (ok_law_cell T) (hr.mono (by decide)) (by rfl) T.g_law_cell T.F_law_cell.kp T.b_law_cell .nil pass0 (pa_cons (pv 0) (pa_cons pe_int pa_nil))))
      (pss_cons (ps_set (i := 2) sc_law.nd rfl (.inl rfl) (pe_call (ok_law_some T) (hr.mono (by decide)) (by rfl) T.g_law_some T.F_law_some.kp T.b_law_some .nil pass0 (pa_cons (pe_call (ok_law_cell T) (hr.mono (by decide)) (by rfl) T.g_law_cell T.F_law_cell.kp T.b_law_cell .nil pass0 (pa_cons (pv 0) (pa_cons pe_int pa_nil))) (pa_cons (pe_op op_mod (pv 1) pe_int) (pa_cons (pe_op op_add pe_int (pe_op op_mod (pe_op op_fdiv (pv 1) pe_int) pe_int)) (pa_cons (pe_op op_add pe_int (pe_op op_mod (pe_op op_fdiv (pv 1) pe_int) pe_int)) pa_nil))))))
      (pss_cons (ps_if (pt_cmpR op_eq (pe_op op_mod (pe_op op_fdiv (pv 1) pe_int) pe_int) pe_int (nomark _))
      (pss_cons (ps_for PassesOwn.never rfl (pi_list (pe_call (ok_law_row T) (hr.mono (by decide)) (by rfl) T.g_law_row T.F_law_row.kp T.b_law_row .nil pass0 (pa_cons (pe_call (ok_law_cell T) (hr.mono (by decide)) (by rfl) T.g_law_cell T.F_law_cell.kp T.b_law_cell .nil pass0 (pa_cons (pv 0) (pa_cons pe_int pa_nil))) (pa_cons pe_int (pa_cons pe_int pa_nil))))) (pg_name (i := 3) sc_law.nd rfl (.inr rfl))
      (pss_one (ps_set (i := 2) sc_law.nd rfl (.inl rfl) (pe_op op_cat (pv 2) (pe_lc (own := [("j", 11)]) (g := gName 11) (tt := tYes) rfl sc_law.nd (pi_range1 (by rfl) T.z_range (pa_cons (pe_op op_add (pe_op op_fdiv (pv 3) pe_int) pe_int) pa_nil)) (blkOk_by (own := [("j", 11)]) (N := N_law) (sc := defScope s_law) (by decide +kernel)) (fun _ _ _ _ _ => pg_name (i := 11) sc_law.nd rfl (Or.inl rfl)) (fun _ _ _ _ _ => pts_nil) (fun _ _ _ _ _ => (pe_tup (pa_cons (pe_op op_mod (pv 3) pe_int) (pa_cons (pe_op op_add (pe_op op_mod (pe_op op_fdiv (pv 3) pe_int) pe_int) (pv 11)) pa_nil)))))))))
      (pss_one (ps_set (i := 2) sc_law.nd rfl (.inl rfl) (pe_callB cr_sortedN (by rfl) T.z_sorted (by decide +kernel) (pa_cons (pv 2) pa_nil)))))
      pss_nil)
      (pss_cons (ps_set (i := 4) sc_law.nd rfl (.inl rfl) (pe_lst pa_nil))
      (pss_cons (ps_for PassesOwn.never rfl (pi_list (pv 2)) (pg_name (i := 5) sc_law.nd rfl (.inl rfl))
      (pss_one (ps_if (PW.pt (pw_or (pt_cmpR (op_eqD hr.units) (pv 4) (pe_lst pa_nil) (nomark _)) (pw_or1 (pt_cmpR (op_neD hr.units) (pe_ix ix_list (pv 4) (pe_op op_sub (pe_callB call_lenL (by rfl) T.z_len (by decide +kernel) (pa_cons (pv 4) pa_nil)) pe_int) (fun _ _ => rfl)) (pv 5) (nomark _)))))
      (pss_one (ps_expr (pe_bm PySem.F.plainAttrs_list PySem.F.slot_list_append PySem.F.type_list_append mt_append (pv 4) (pa_cons (pv 5) pa_nil))))
      pss_nil)))
      (pss_cons (ps_set (i := 6) sc_law.nd rfl (.inl rfl) (pe_lst pa_nil))
      (pss_cons (ps_if (pt_cmpR (op_neD hr.units) (pv 4) (pe_lst pa_nil) (nomark _))
      (pss_cons (ps_set (i := 7) sc_law.nd rfl (.inr rfl) (pe_callB (cr_min rfl) (by rfl) T.z_min (by decide +kernel) (pa_cons (pe_lc (own := [("r", 12), ("c", 13)]) (tt := tYes) rfl sc_law.nd (pi_list (pv 4)) (blkOk_by (own := [("r", 12), ("c", 13)]) (N := N_law) (sc := defScope s_law) (by decide +kernel)) (fun _ _ _ _ _ => (pg_tupK (K := K) (n := 2) rfl rfl (pgs_cons (pg_name (i := 12) sc_law.nd rfl (.inl rfl)) (pgs_cons (pg_name (i := 13) sc_law.nd rfl (.inl rfl)) pgs_nil)))) (fun _ _ _ _ _ => pts_nil) (fun _ _ _ _ _ => (pv 12))) pa_nil)))
      (pss_cons (ps_set (i := 8) sc_law.nd rfl (.inr rfl) (pe_callB (cr_min rfl) (by rfl) T.z_min (by decide +kernel) (pa_cons (pe_lc (own := [("r", 12), ("c", 13)]) (tt := tYes) rfl sc_law.nd (pi_list (pv 4)) (blkOk_by (own := [("r", 12), ("c", 13)]) (N := N_law) (sc := defScope s_law) (by decide +kernel)) (fun _ _ _ _ _ => (pg_tupK (K := K) (n := 2) rfl rfl (pgs_cons (pg_name (i := 12) sc_law.nd rfl (.inl rfl)) (pgs_cons (pg_name (i := 13) sc_law.nd rfl (.inl rfl)) pgs_nil)))) (fun _ _ _ _ _ => pts_nil) (fun _ _ _ _ _ => (pv 13))) pa_nil)))
      (pss_one (ps_setLc (i := 6) (own := [("r", 12), ("c", 13)]) (tt := tYes) rfl sc_law.nd rfl rfl (sw_true rfl rfl rfl (by decide +kernel)) (pi_list (pv 4)) (blkOk_by (own := [("r", 12), ("c", 13)]) (N := N_law) (sc := defScope s_law) (by decide +kernel)) (fun _ _ _ _ _ => (pg_tupK (K := K) (n := 2) rfl rfl (pgs_cons (pg_name (i := 12) sc_law.nd rfl (.inl rfl)) (pgs_cons (pg_name (i := 13) sc_law.nd rfl (.inl rfl)) pgs_nil)))) (fun _ _ _ _ _ => pts_nil) (fun _ _ _ _ _ => (pe_tup (pa_cons (pe_op op_sub (pv 12) (pv 7)) (pa_cons (pe_op op_sub (pv 13) (pv 8)) pa_nil))))))))
      pss_nil)
      (pss_cons (ps_set (i := 9) sc_law.nd rfl (.inl rfl) (pe_call (ok_write_text T) (hr.mono (by decide)) (by rfl) T.g_write_text T.F_write_text.kp T.b_write_text .nil pass0 (pa_cons (pe_lc (own := [("r", 12), ("c", 13)]) (tt := tYes) rfl sc_law.nd (pi_list (pv 2)) (blkOk_by (own := [("r", 12), ("c", 13)]) (N := N_law) (sc := defScope s_law) (by decide +kernel)) (fun _ _ _ _ _ => (pg_tupK (K := K) (n := 2) rfl rfl (pgs_cons (pg_name (i := 12) sc_law.nd rfl (.inl rfl)) (pgs_cons (pg_name (i := 13) sc_law.nd rfl (.inl rfl)) pgs_nil)))) (fun _ _ _ _ _ => pts_nil) (fun _ _ _ _ _ => (pe_tup (pa_cons (pe_op op_sub (pv 12) pe_int) (pa_cons (pe_op op_add (pv 13) pe_int) pa_nil))))) pa_nil)))
      (pss_cons (ps_if (PW.pt (pw_or (pt_not (pt_val (pe_callB call_isi (by rfl) T.z_isinstance (by decide +kernel) (pa_cons (pv 9) (pa_cons (pe_bltn (v := .ty "str") (by rfl) T.z_str (by decide +kernel) rfl) pa_nil))))) (pw_or1 (pt_cmpR op_ne (pv 9) (pe_call (ok_law_text T) (hr.mono (by decide)) (by rfl) T.g_law_text T.F_law_text.kp T.b_law_text .nil pass0 (pa_cons (pv 6) pa_nil)) (nomark _)))))
      (pss_one (ps_ret pe_bl))
      pss_nil)
      (pss_cons (ps_set (i := 10) sc_law.nd rfl (.inl rfl) (pe_call (ok_read_text T) (hr.mono (by decide)) (by rfl) T.g_read_text T.F_read_text.kp T.b_read_text .nil pass0 (pa_cons (pv 9) pa_nil)))
      (pss_one (ps_ret (pe_and (pe_call (ok_law_cells T) (hr.mono (by decide)) (by rfl) T.g_law_cells T.F_law_cells.kp T.b_law_cells .nil pass0 (pa_cons (pv 10) pa_nil)) (pe_one (pe_cmpR (op_eqD hr.units) (pv 10) (pv 6) (nomark _)))))))))))))))), ?_⟩
    refine ⟨_, rfl, a, ns, 0, rfl, hS, ?_⟩
    generalize cellOf ns 0 = first
    refine ⟨_, rfl, a, ns, 1, rfl, hS, _, rfl, _, _, rfl, rfl, (by k_offL), _, rfl, _, _, rfl, rfl, (by k_offL), _, _, rfl, rfl, (by k_offL), _, _, rfl, rfl, _, rfl, _, _, rfl, rfl, (by k_offL), _, _, rfl, rfl, (by k_offL), _, _, rfl, rfl, ?_⟩
    have q1 := Int.emod_nonneg first (show (25 : Int) ≠ 0 by decide)
    have q2 := Int.emod_lt_of_pos first (show (0 : Int) < 25 by decide)
    have q3 := Int.emod_nonneg (first / 25) (show (12 : Int) ≠ 0 by decide)
    have q4 := Int.emod_lt_of_pos (first / 25) (show (0 : Int) < 12 by decide)
    have q5 := Int.emod_nonneg (first / 300) (show (30 : Int) ≠ 0 by decide)
    have q6 := Int.emod_lt_of_pos (first / 300) (show (0 : Int) < 30 by decide)
    refine ⟨_, _, _, _, rfl, q1, by omega, by omega, by omega, by omega, by omega, fun H1 p1 ps1 n1 e1 h1 pw1 l1 b1 => ?_⟩
    have bb1 : B64 ps1 := fun x m => by
      have := b1 x m
      omega
    have hS1 := e1.seq hS
    refine ⟨_, rfl, _, _, rfl, rfl, (by k_offL), _, _, rfl, rfl, (by k_offL), rfl, _, rfl, ite2 (fun c => ?_) (fun c => ?_)⟩
    · -- more cells
      refine ⟨_, rfl, a, ns, 2, rfl, hS1, _, _, _, rfl, by decide, by decide, by decide, by decide, fun Hr pr' xs nr er hr' lr mr => ?_⟩
      refine ⟨pr', rfl, ⟨_, lst_of hr'⟩, for_list (K := K) (a := pr') (xs := xs.map V.int) (fun i σ H' => Same Hr H' ∧ ∃ (pc : Addr) (ps : List Pr) (x3 : Option V), σ = [some (.ref a), some (.int first), some (.ref pc), x3, none, none, none, none, none, none, none, none, none, none] ∧ Cells H' pc ps ∧ B64 ps ∧ ps.length ≤ 24 + 13 * i)
        ⟨fun _ _ z => z, p1, ps1, _, rfl, h1.up er, bb1, by omega⟩ (fun i σ H' _ h => lst_of (h.1 _ _ hr')) ?_ ?_⟩
      · rintro i v σ H' hi ⟨sm, pc, ps, x3, rfl, hC, bb, lp⟩
        obtain ⟨x, rfl, _, mx⟩ := item_ints hi
        have bx := mr x mx
        have d1 : 0 ≤ x / 2000 ∧ x / 2000 ≤ 2 := by omega
        refine ⟨_, rfl, _, rfl, _, _, rfl, rfl, (by k_offL), _, _, rfl, rfl, _, rfl, by omega, by omega, fun D nD => lc_pairs (fun (k : Nat) => (x % 40, x / 40 % 50 + (0 + (k : Int)))) nD (by rw [sizeLine_eq]; omega) ?_ fun H3 ws e3 gD hws ew => ?_⟩
        · intro j H4 Po Pn hj sm4 hq
          exact ⟨rfl, tyesT ⟨_, rfl, _, _, rfl, rfl, (by k_offL), _, rfl, _, _, rfl, rfl, (by k_offL), _, _, rfl, rfl, (by k_offL), _, rfl, _, _, rfl, rfl, by k_clsL, fun t2 n2 => hq t2 n2⟩⟩
        · obtain ⟨ts, hts, htt, ets⟩ := hC.up e3
          have lw : ws.length = (x / 2000 + 11).toNat := by
            have z := congrArg List.length ew
            rw [List.length_map, List.length_map, List.length_range] at z
            exact z
          have lts : ts.length = ps.length := by rw [← ets, List.length_map]
          refine ⟨pc, D, _, _, rfl, rfl, hts, gD, by rw [List.length_map, List.length_map, sizeLine_eq]; have := (List.getElem?_eq_some_iff.mp hi).1; rw [List.length_map] at this; omega, fun p5 n5 => ?_⟩
          k_invariant "new" (n5, H5, e5, g5)
          have hN : Cells H5 p5 (ps ++ ws.map (·.2)) := by
            have := cells_mk (H := H5) (l := p5) (ts ++ ws) (by rw [g5, List.map_append]) (fun u m => by
              rcases List.mem_append.mp m with m | m
              · exact e5 _ _ (htt u m)
              · exact e5 _ _ (hws u m))
            rw [List.map_append, ets] at this
            exact this
          refine ⟨sm.trans (e3.trans e5), p5, _, _, rfl, hN, fun y m => ?_, ?_⟩
          · rcases List.mem_append.mp m with m | m
            · exact bb y m
            · rw [ew] at m
              obtain ⟨k, mk, rfl⟩ := List.mem_map.mp m
              have := List.mem_range.mp mk
              show 0 ≤ x % 40 ∧ x % 40 < 64 ∧ 0 ≤ x / 40 % 50 + (0 + (k : Int)) ∧ x / 40 % 50 + (0 + (k : Int)) < 64
              omega
          · rw [List.length_append, List.length_map, lw]
            omega
      · rintro σ Hq ⟨sm, pc0, ps0, x3, rfl, hC0, bb0, lp0⟩
        rw [List.length_map] at lp0
        refine ⟨_, rfl, pc0, ps0, rfl, hC0, fun pc Hc ps e6 n6 hC pm srt => ?_⟩
        have bb : B64 ps := fun x m => bb0 x (pm.mem_iff.mp m)
        have lps : ps.length < 64 := by
          rw [pm.length_eq]
          omega
        refine ⟨by k_clsL, fun pu nu => ?_⟩
        k_invariant "new" (nu, Hu, eu, gu)
        have hCu := hC.up eu
        obtain ⟨cs, hcs, hct, ecs⟩ := id hCu
        refine ⟨_, rfl, pc, rfl, ⟨_, lst_of hcs⟩, for_list (K := K) (a := pc) (xs := cs.map fun t => V.ref t.1) (fun i σ H' => Same Hc H' ∧ H' pc = some (.lst (cs.map fun t => V.ref t.1)) ∧ (∀ t ∈ cs, H' t.1 = some (.tup [.int t.2.1, .int t.2.2])) ∧
          (∃ y5 : Option V, σ = [some (.ref a), some (.int first), some (.ref pc), x3, some (.ref pu), y5, none, none, none, none, none, none, none, none]) ∧
          ∃ us : List (Addr × Pr), H' pu = some (.lst (us.map fun t => V.ref t.1)) ∧ (∀ t ∈ us, H' t.1 = some (.tup [.int t.2.1, .int t.2.2])) ∧ (us.map (·.2)).Pairwise ltP ∧ (∀ x, x ∈ us.map (·.2) ↔ x ∈ ps.take i) ∧ us.length ≤ i)
          ⟨eu, hcs, hct, ⟨_, rfl⟩, [], gu, fun _ m => (by cases m), List.Pairwise.nil, fun x => by simp, Nat.le_refl _⟩ (fun i σ H' _ h => lst_of h.2.1) ?_ ?_⟩
        · rintro i v σ H' hi ⟨sm, hc1, hc2, ⟨y5, rfl⟩, us, gus, tus, pus, mus, lus⟩
          obtain ⟨t, mt, rfl, hx⟩ := item_cells (H := H') hi rfl
          rw [ecs] at hx
          have li : i < cs.length := by
            have := (List.getElem?_eq_some_iff.mp hi).1
            rwa [List.length_map] at this
          have lcs : cs.length = ps.length := by rw [← ecs, List.length_map]
          have gt := hc2 t mt
          have hU : Cells H' pu (us.map (·.2)) := ⟨us, gus, tus, rfl⟩
          have app : ∀ H2 : Hp, Same H' H2 → (∀ x ∈ us.map (·.2), ltP x t.2) → Same Hc (upd H2 pu (.lst ((us.map fun t => V.ref t.1) ++ [.ref t.1]))) ∧ upd H2 pu (.lst ((us.map fun t => V.ref t.1) ++ [.ref t.1])) pc = some (.lst (cs.map fun t => V.ref t.1)) ∧ (∀ t' ∈ cs, upd H2 pu (.lst ((us.map fun t => V.ref t.1) ++ [.ref t.1])) t'.1 = some (.tup [.int t'.2.1, .int t'.2.2])) ∧
              ∃ us' : List (Addr × Pr), upd H2 pu (.lst ((us.map fun t => V.ref t.1) ++ [.ref t.1])) pu = some (.lst (us'.map fun t => V.ref t.1)) ∧ (∀ t' ∈ us', upd H2 pu (.lst ((us.map fun t => V.ref t.1) ++ [.ref t.1])) t'.1 = some (.tup [.int t'.2.1, .int t'.2.2])) ∧ (us'.map (·.2)).Pairwise ltP ∧ (∀ x, x ∈ us'.map (·.2) ↔ x ∈ ps.take (i + 1)) ∧ us'.length ≤ i + 1 := fun H2 e2 big => by
            have off : ∀ z : Addr × Pr, H2 z.1 = some (.tup [.int z.2.1, .int z.2.2]) → upd H2 pu (.lst ((us.map fun t => V.ref t.1) ++ [.ref t.1])) z.1 = some (.tup [.int z.2.1, .int z.2.2]) := fun z g => by
              rw [upd_ne (fun e => ?_)]
              · exact g
              · have := e2 _ _ gus
                rw [e, this] at g
                cases g
            refine ⟨mutS (sm.trans e2) nu, ?_, fun t' m => off t' (e2 _ _ (hc2 t' m)), us ++ [t], ?_, fun t' m => ?_, ?_, fun x => ?_, ?_⟩
            · rw [upd_ne (fun e => ?_)]
              · exact e2 _ _ hc1
              · obtain ⟨ts0, g, _⟩ := id hC
                rw [e, nu] at g
                cases g
            · rw [upd_same, List.map_append]
              rfl
            · rcases List.mem_append.mp m with m | m
              · exact off t' (e2 _ _ (tus t' m))
              · rw [List.mem_singleton.mp m]
                exact off t (e2 _ _ gt)
            · rw [List.map_append]
              exact List.pairwise_append.mpr ⟨pus, List.pairwise_cons.mpr ⟨fun _ m => (by cases m), List.Pairwise.nil⟩, fun x mx y my => by rw [List.mem_singleton.mp my]; exact big x mx⟩
            · rw [List.map_append, List.mem_append, take_next hx, List.mem_append, mus x]
              exact Iff.rfl
            · rw [List.length_append, List.length_singleton]
              omega
          have lz : us.length < sizeLine := by
            rw [sizeLine_eq]
            omega
          refine ⟨_, rfl, by k_clsL, fun pz nz => ?_⟩
          k_invariant "new" (nz, H2, e2, gz)
          have hZ : Cells H2 pz [] := ⟨[], gz, fun _ m => (by cases m), rfl⟩
          refine ⟨_, _, dp_cells (hU.up e2), dp_cells hZ, shaped_cells _, shaped_cells _, _, by rw [eqv_cells], ite2 (fun d => ?_) (fun d => ?_)⟩
          · have d := of_decide_eq_true d
            obtain ⟨a1, a2, a3, a4⟩ := app H2 e2 (fun x m => by rw [d] at m; cases m)
            exact ⟨_, rfl, .inl ⟨rfl, _, lst_of (e2 _ _ gus)⟩, _, rfl, _, _, _, rfl, rfl, e2 _ _ gus, by rw [List.length_map]; exact lz, a1, a2, a3, ⟨_, rfl⟩, a4⟩
          · have d : us.map (·.2) ≠ [] := fun e => d (decide_eq_true e)
            rcases List.eq_nil_or_concat us with e0 | ⟨vs, u, e0⟩
            · exact absurd (by rw [e0]; rfl) d
            rw [List.concat_eq_append] at e0
            have mu : u ∈ us := by rw [e0]; exact List.mem_append.mpr (.inr (List.mem_singleton.mpr rfl))
            have atl : atI (us.map fun t => V.ref t.1) (((us.map fun t => V.ref t.1).length : Int) - 1) = some (.ref u.1) := by
              rw [show ((us.map fun t => V.ref t.1).length : Int) - 1 = ((vs.length : Nat) : Int) by rw [e0, List.length_map, List.length_append, List.length_singleton]; omega]
              refine atI_nat ?_
              rw [e0, List.map_append, List.getElem?_append_right (by rw [List.length_map]; exact Nat.le_refl _), List.length_map, Nat.sub_self]
              rfl
            have noless : ∀ x ∈ ps.take i, ¬ ltP t.2 x := fun x m => by
              obtain ⟨j, hj, e⟩ := List.getElem_of_mem m
              have hj2 : j < i := by rw [List.length_take] at hj; omega
              have w := List.pairwise_iff_getElem.mp srt j i (by omega) (by omega) hj2
              rw [List.getElem_take] at e
              rw [e, (List.getElem?_eq_some_iff.mp hx).2] at w
              exact w
            have mlast : u.2 ∈ us.map (·.2) := List.mem_map.mpr ⟨u, mu, rfl⟩
            refine ⟨_, rfl, _, rfl, _, _, rfl, lst_of (e2 _ _ gus), _, _, rfl, rfl, _, _, _, _, rfl, rfl, lst_of (e2 _ _ gus), atl, _, rfl, pd u.2, pd t.2, .tup (tup_of (e2 _ _ (tus u mu))) (.cons (.int _) (.cons (.int _) .nil)), .tup (tup_of (e2 _ _ gt)) (.cons (.int _) (.cons (.int _) .nil)), shaped_pd _, shaped_pd _, _, by rw [eqv_pd], ite2 (fun d2 => ?_) (fun d2 => ?_)⟩
            · have d2 : ¬ u.2 = t.2 := fun e => by
                rw [decide_eq_true e] at d2
                cases d2
              have big : ∀ x ∈ us.map (·.2), ltP x t.2 := fun x m => by
                have n1 := noless x ((mus x).mp m)
                have n2 := noless u.2 ((mus u.2).mp mlast)
                have ne : x ≠ t.2 := fun e => by
                  rw [e0, List.map_append] at m pus
                  rcases List.mem_append.mp m with m | m
                  · have z := (List.pairwise_append.mp pus).2.2 x m u.2 (List.mem_singleton.mpr rfl)
                    rw [e] at z
                    exact n2 z
                  · have z : x = u.2 := List.mem_singleton.mp m
                    exact d2 (z.symm.trans e)
                refine ltP_iff.mpr ?_
                have n1 : ¬ (t.2.1 < x.1 ∨ (t.2.1 = x.1 ∧ t.2.2 < x.2)) := fun z => n1 (ltP_iff.mpr z)
                have ne : ¬ (x.1 = t.2.1 ∧ x.2 = t.2.2) := fun z => ne (Prod.ext z.1 z.2)
                omega
              obtain ⟨a1, a2, a3, a4⟩ := app H2 e2 big
              exact ⟨_, rfl, .inl ⟨rfl, _, lst_of (e2 _ _ gus)⟩, _, rfl, _, _, _, rfl, rfl, e2 _ _ gus, by rw [List.length_map]; exact lz, a1, a2, a3, ⟨_, rfl⟩, a4⟩
            · have d2 : u.2 = t.2 := by
                by_cases e : u.2 = t.2
                · exact e
                · refine absurd ?_ d2
                  rw [decide_eq_false e]
                  rfl
              refine ⟨sm.trans e2, e2 _ _ hc1, fun t' m => e2 _ _ (hc2 t' m), ⟨_, rfl⟩, us, e2 _ _ gus, fun t' m => e2 _ _ (tus t' m), pus, fun x => ?_, by omega⟩
              rw [take_next hx, List.mem_append, mus x]
              refine ⟨.inl, fun z => z.elim id fun z => ?_⟩
              have z : x = t.2 := List.mem_singleton.mp z
              rw [z, ← d2]
              exact (mus u.2).mp mlast
        · rintro σ Hv ⟨sm, hc1, hc2, ⟨y5, rfl⟩, us, gus, tus, pus, mus, lus⟩
          have lcs : cs.length = ps.length := by rw [← ecs, List.length_map]
          rw [List.length_map] at lus mus
          have mus : ∀ x, x ∈ us.map (·.2) ↔ x ∈ ps := fun x => by
            rw [mus x, List.take_of_length_le (by omega)]
          have hU : Cells Hv pu (us.map (·.2)) := ⟨us, gus, tus, rfl⟩
          have lU : (us.map (·.2)).length < 64 := by
            rw [List.length_map]
            omega
          generalize us.map (·.2) = U at hU pus mus lU
          refine ⟨by k_clsL, fun ph nh => ?_⟩
          k_invariant "new" (nh, Hh, eh, gh)
          refine ⟨_, rfl, by k_clsL, fun pz nz => ?_⟩
          k_invariant "new" (nz, H2, e2, gz)
          have hZ : Cells H2 pz [] := ⟨[], gz, fun _ m => (by cases m), rfl⟩
          have hU2 := hU.up (eh.trans e2)
          refine ⟨_, _, dp_cells hU2, dp_cells hZ, shaped_cells _, shaped_cells _, _, by rw [eqv_cells], ite2 (fun d => ?_) (fun d => ?_)⟩
          · have d : U ≠ [] := fun e => by
              rw [decide_eq_true e] at d
              cases d
            have ne0 : 0 < U.length := by
              cases U with
              | nil => exact absurd rfl d
              | cons x l => exact Nat.succ_pos _
            refine ⟨_, rfl, _, rfl, ⟨_, lst_of hU2.choose_spec.1⟩, fun Dt nDt => lc_nums (·.1) hU2 nDt (lt_line lU) ?_ fun H3 e3 g3 => ?_⟩
            · intro t x H' Po Pn sm ht hq
              exact ⟨t, _, rfl, tup_of ht, rfl, _, _, rfl, _, _, rfl, rfl, rfl, tyesT ⟨_, rfl, hq⟩⟩
            refine ⟨_, _, rfl, lst_of g3, by rw [List.length_map]; exact ne0, fun top mt lt => ?_⟩
            have hU3 := hU2.up e3
            refine ⟨_, rfl, _, rfl, ⟨_, lst_of hU3.choose_spec.1⟩, fun Dw nDw => lc_nums (·.2) hU3 nDw (lt_line lU) ?_ fun H4 e4 g4 => ?_⟩
            · intro t x H' Po Pn sm ht hq
              exact ⟨t, _, rfl, tup_of ht, rfl, _, _, rfl, _, _, rfl, rfl, rfl, tyesT ⟨_, rfl, hq⟩⟩
            refine ⟨_, _, rfl, lst_of g4, by rw [List.length_map]; exact ne0, fun left ml ll => ?_⟩
            have hU4 := hU3.up e4
            refine ⟨_, rfl, _, rfl, ⟨_, lst_of hU4.choose_spec.1⟩, fun ph nph => lc_cells (fun x => (x.1 - top, x.2 - left)) hU4 nph (lt_line lU) ?_ fun Hx ex hHv => ?_⟩
            · intro t x H' Po Pn sm ht hq
              exact ⟨t, _, rfl, tup_of ht, rfl, _, _, rfl, _, _, rfl, rfl, wipe2 _ 12 13 _ _, tyesT ⟨_, rfl, _, rfl, _, _, rfl, rfl, _, rfl, _, rfl, _, _, rfl, rfl, (by k_clsL), fun t2 n2 => hq t2 n2⟩⟩
            have sx : Same Hc Hx := sm.trans (eh.trans (e2.trans (e3.trans (e4.trans ex))))
            have pwh : (U.map fun x => (x.1 - top, x.2 - left)).Pairwise ltP := pw_map (fun x y h => by
              have h := ltP_iff.mp h
              refine ltP_iff.mpr ?_
              show x.1 - top < y.1 - top ∨ (x.1 - top = y.1 - top ∧ x.2 - left < y.2 - left)
              omega) pus
            have hvAll : ∀ qs, HomeOf (ps.map fun x => (x.1 - 4, x.2 + 9)) qs → qs = U.map fun x => (x.1 - top, x.2 - left) := fun qs h => by
              refine canP_eq (h.2 (top - 4) (left + 9) ⟨?_, fun y m => ?_⟩ ⟨?_, fun y m => ?_⟩) pwh fun k => ?_
              · obtain ⟨x, m, e⟩ := List.mem_map.mp mt
                exact List.mem_map.mpr ⟨_, List.mem_map.mpr ⟨x, (mus x).mp m, rfl⟩, by show x.1 - 4 = top - 4; have e : x.1 = top := e; omega⟩
              · obtain ⟨z, mz, e⟩ := List.mem_map.mp m
                obtain ⟨x, mx, rfl⟩ := List.mem_map.mp mz
                have := lt x.1 (List.mem_map.mpr ⟨x, (mus x).mpr mx, rfl⟩)
                have e : x.1 - 4 = y := e
                omega
              · obtain ⟨x, m, e⟩ := List.mem_map.mp ml
                exact List.mem_map.mpr ⟨_, List.mem_map.mpr ⟨x, (mus x).mp m, rfl⟩, by show x.2 + 9 = left + 9; have e : x.2 = left := e; omega⟩
              · obtain ⟨z, mz, e⟩ := List.mem_map.mp m
                obtain ⟨x, mx, rfl⟩ := List.mem_map.mp mz
                have := ll x.2 (List.mem_map.mpr ⟨x, (mus x).mpr mx, rfl⟩)
                have e : x.2 + 9 = y := e
                omega
              · have ef : (addP (-(top - 4)) (-(left + 9)) ∘ fun (x : Pr) => ((x.1 - 4, x.2 + 9) : Pr)) = fun (x : Pr) => ((x.1 - top, x.2 - left) : Pr) := funext fun x => by
                  show (x.1 - 4 + -(top - 4), x.2 + 9 + -(left + 9)) = (x.1 - top, x.2 - left)
                  rw [show x.1 - 4 + -(top - 4) = x.1 - top by omega, show x.2 + 9 + -(left + 9) = x.2 - left by omega]
                rw [List.map_map, ef]
                exact (mem_map2 mus k).symm
            have ishv : IsHome (U.map fun x => (x.1 - top, x.2 - left)) := by
              refine ⟨pwh, fun _ => ⟨⟨?_, fun y m => ?_⟩, ?_, fun y m => ?_⟩⟩
              · obtain ⟨x, m, e⟩ := List.mem_map.mp mt
                exact List.mem_map.mpr ⟨_, List.mem_map.mpr ⟨x, m, rfl⟩, by show x.1 - top = 0; have e : x.1 = top := e; omega⟩
              · obtain ⟨z, mz, e⟩ := List.mem_map.mp m
                obtain ⟨x, mx, rfl⟩ := List.mem_map.mp mz
                have := lt x.1 (List.mem_map.mpr ⟨x, mx, rfl⟩)
                have e : x.1 - top = y := e
                omega
              · obtain ⟨x, m, e⟩ := List.mem_map.mp ml
                exact List.mem_map.mpr ⟨_, List.mem_map.mpr ⟨x, m, rfl⟩, by show x.2 - left = 0; have e : x.2 = left := e; omega⟩
              · obtain ⟨z, mz, e⟩ := List.mem_map.mp m
                obtain ⟨x, mx, rfl⟩ := List.mem_map.mp mz
                have := ll x.2 (List.mem_map.mpr ⟨x, mx, rfl⟩)
                have e : x.2 - left = y := e
                omega
            have bhv : ∀ x ∈ U.map fun x => (x.1 - top, x.2 - left), x.1 < 64 ∧ x.2 < 64 := fun x m => by
              obtain ⟨y, my, rfl⟩ := List.mem_map.mp m
              obtain ⟨u, mu, eu⟩ := List.mem_map.mp mt
              obtain ⟨w, mw, ew⟩ := List.mem_map.mp ml
              have b1 := bb y ((mus y).mp my)
              have b2 := bb u ((mus u).mp mu)
              have b3 := bb w ((mus w).mp mw)
              have eu : u.1 = top := eu
              have ew : w.2 = left := ew
              show y.1 - top < 64 ∧ y.2 - left < 64
              omega
            have lhv : (U.map fun x => (x.1 - top, x.2 - left)).length < 64 := by
              rw [List.length_map]
              exact lU
            obtain ⟨hv, hHv, hvAll, ishv, bhv, lhv⟩ : ∃ hv : List Pr, Cells Hx ph hv ∧ (∀ qs, HomeOf (ps.map fun x => (x.1 - 4, x.2 + 9)) qs → qs = hv) ∧ IsHome hv ∧ (∀ x ∈ hv, x.1 < 64 ∧ x.2 < 64) ∧ hv.length < 64 := ⟨_, hHv, hvAll, ishv, bhv, lhv⟩
            have hCy := hC.up sx
            refine ⟨_, rfl, _, rfl, ⟨_, lst_of hCy.choose_spec.1⟩, fun Dy nDy => lc_cells (fun x => (x.1 - 4, x.2 + 9)) hCy nDy (lt_line lps) ?_ fun Hy ey hy => ?_⟩
            · intro t x H' Po Pn sm ht hq
              exact ⟨t, _, rfl, tup_of ht, rfl, _, _, rfl, _, _, rfl, rfl, wipe2 _ 12 13 _ _, tyesT ⟨_, rfl, _, _, rfl, rfl, _, rfl, _, _, rfl, rfl, (by k_clsL), fun t2 n2 => hq t2 n2⟩⟩
            refine ⟨Dy, _, rfl, hy, by rw [List.length_map]; exact lps, fun x m => ?_, fun Hz s qs ez hm ht hl => ?_⟩
            · obtain ⟨y, my, rfl⟩ := List.mem_map.mp m
              have := bb y my
              show (y.1 - 4).natAbs < _ ∧ (y.2 + 9).natAbs < _
              omega
            have eq := hvAll qs hm
            subst eq
            have gHome := hHv.up (ey.trans ez)
            refine ⟨_, rfl, _, _, _, _, _, rfl, .ty _, .base (.str _), rfl, _, rfl, iteF ?_⟩
            refine ⟨_, rfl, _, rfl, ph, qs, rfl, gHome, ishv, fun x m => by have := bhv x m; omega, lhv, fun Hw s2 ew h2 => ?_⟩
            have es : s2 = s := tlInj (by rw [h2, ht])
            refine ⟨rfl, _, (show V.bl (!decide (V.str s = V.str s2)) = V.bl false by rw [es, decide_eq_true rfl]; rfl), iteF ?_⟩
            have b1000 : ∀ x ∈ qs, x.1 < 1000 ∧ x.2 < 1000 := fun x m => by
              have := bhv x m
              omega
            have len : s.length ≤ 1000 := by
              rw [TL.len_tl, ht]
              exact home_len ishv b1000 lhv
            refine ⟨_, rfl, s, qs, rfl, len, ishv, b1000, lhv, ht, fun Hb pb nb eb hb => ?_⟩
            refine ⟨_, rfl, pb, qs, rfl, hb, lhv, ishv.1, fun Hl el => ⟨_, rfl, iteT ?_⟩⟩
            refine ⟨_, rfl, _, rfl, _, _, dp_cells (hb.up el), dp_cells (gHome.up (ew.trans (eb.trans el))), shaped_cells _, shaped_cells _, ?_⟩
            rw [eqv_cells, decide_eq_true rfl]
            exact q _
          · have d : U = [] := by
              by_cases e : U = []
              · exact e
              · refine absurd ?_ d
                rw [decide_eq_false e]
                rfl
            subst d
            have ps0 : ps = [] := by
              cases ps with
              | nil => rfl
              | cons x l =>
                have z := (mus x).mpr List.mem_cons_self
                cases z
            have sx : Same Hc H2 := sm.trans (eh.trans e2)
            have hHv : Cells H2 ph [] := ⟨[], e2 _ _ gh, fun _ m => (by cases m), rfl⟩
            have hvAll : ∀ qs, HomeOf (ps.map fun x => (x.1 - 4, x.2 + 9)) qs → qs = [] := fun qs h => h.1 (by rw [ps0]; rfl)
            have ishv : IsHome [] := ⟨List.Pairwise.nil, fun z => absurd rfl z⟩
            have bhv : ∀ x ∈ ([] : List Pr), x.1 < 64 ∧ x.2 < 64 := fun _ m => (by cases m)
            have lhv : ([] : List Pr).length < 64 := by decide
            obtain ⟨hv, hHv, hvAll, ishv, bhv, lhv⟩ : ∃ hv : List Pr, Cells H2 ph hv ∧ (∀ qs, HomeOf (ps.map fun x => (x.1 - 4, x.2 + 9)) qs → qs = hv) ∧ IsHome hv ∧ (∀ x ∈ hv, x.1 < 64 ∧ x.2 < 64) ∧ hv.length < 64 := ⟨_, hHv, hvAll, ishv, bhv, lhv⟩
            have hCy := hC.up sx
            refine ⟨_, rfl, _, rfl, ⟨_, lst_of hCy.choose_spec.1⟩, fun Dy nDy => lc_cells (fun x => (x.1 - 4, x.2 + 9)) hCy nDy (lt_line lps) ?_ fun Hy ey hy => ?_⟩
            · intro t x H' Po Pn sm ht hq
              exact ⟨t, _, rfl, tup_of ht, rfl, _, _, rfl, _, _, rfl, rfl, wipe2 _ 12 13 _ _, tyesT ⟨_, rfl, _, _, rfl, rfl, _, rfl, _, _, rfl, rfl, (by k_clsL), fun t2 n2 => hq t2 n2⟩⟩
            refine ⟨Dy, _, rfl, hy, by rw [List.length_map]; exact lps, fun x m => ?_, fun Hz s qs ez hm ht hl => ?_⟩
            · obtain ⟨y, my, rfl⟩ := List.mem_map.mp m
              have := bb y my
              show (y.1 - 4).natAbs < _ ∧ (y.2 + 9).natAbs < _
              omega
            have eq := hvAll qs hm
            subst eq
            have gHome := hHv.up (ey.trans ez)
            refine ⟨_, rfl, _, _, _, _, _, rfl, .ty _, .base (.str _), rfl, _, rfl, iteF ?_⟩
            refine ⟨_, rfl, _, rfl, ph, qs, rfl, gHome, ishv, fun x m => by have := bhv x m; omega, lhv, fun Hw s2 ew h2 => ?_⟩
            have es : s2 = s := tlInj (by rw [h2, ht])
            refine ⟨rfl, _, (show V.bl (!decide (V.str s = V.str s2)) = V.bl false by rw [es, decide_eq_true rfl]; rfl), iteF ?_⟩
            have b1000 : ∀ x ∈ qs, x.1 < 1000 ∧ x.2 < 1000 := fun x m => by
              have := bhv x m
              omega
            have len : s.length ≤ 1000 := by
              rw [TL.len_tl, ht]
              exact home_len ishv b1000 lhv
            refine ⟨_, rfl, s, qs, rfl, len, ishv, b1000, lhv, ht, fun Hb pb nb eb hb => ?_⟩
            refine ⟨_, rfl, pb, qs, rfl, hb, lhv, ishv.1, fun Hl el => ⟨_, rfl, iteT ?_⟩⟩
            refine ⟨_, rfl, _, rfl, _, _, dp_cells (hb.up el), dp_cells (gHome.up (ew.trans (eb.trans el))), shaped_cells _, shaped_cells _, ?_⟩
            rw [eqv_cells, decide_eq_true rfl]
            exact q _
    · -- as they are
      obtain ⟨pc, hpc⟩ : ∃ z, z = p1 := ⟨_, rfl⟩
      obtain ⟨ps, hps⟩ : ∃ z, z = ps1 := ⟨_, rfl⟩
      have hC : Cells H1 pc ps := by rw [hpc, hps]; exact h1
      have bb : B64 ps := by rw [hps]; exact bb1
      have lps : ps.length < 64 := by rw [hps]; omega
      have srt : ps.Pairwise (fun x y => ¬ ltP y x) := by
        rw [hps]
        exact pw1.imp fun {x y} h z => ltP_irr h z
      rw [← hpc]
      generalize H1 = Hc at hC ⊢
      refine ⟨by k_clsL, fun pu nu => ?_⟩
      k_invariant "new" (nu, Hu, eu, gu)
      have hCu := hC.up eu
      obtain ⟨cs, hcs, hct, ecs⟩ := id hCu
      refine ⟨_, rfl, pc, rfl, ⟨_, lst_of hcs⟩, for_list (K := K) (a := pc) (xs := cs.map fun t => V.ref t.1) (fun i σ H' => Same Hc H' ∧ H' pc = some (.lst (cs.map fun t => V.ref t.1)) ∧ (∀ t ∈ cs, H' t.1 = some (.tup [.int t.2.1, .int t.2.2])) ∧
        (∃ y5 : Option V, σ = [some (.ref a), some (.int first), some (.ref pc), none, some (.ref pu), y5, none, none, none, none, none, none, none, none]) ∧
        ∃ us : List (Addr × Pr), H' pu = some (.lst (us.map fun t => V.ref t.1)) ∧ (∀ t ∈ us, H' t.1 = some (.tup [.int t.2.1, .int t.2.2])) ∧ (us.map (·.2)).Pairwise ltP ∧ (∀ x, x ∈ us.map (·.2) ↔ x ∈ ps.take i) ∧ us.length ≤ i)
        ⟨eu, hcs, hct, ⟨_, rfl⟩, [], gu, fun _ m => (by cases m), List.Pairwise.nil, fun x => by simp, Nat.le_refl _⟩ (fun i σ H' _ h => lst_of h.2.1) ?_ ?_⟩
      · rintro i v σ H' hi ⟨sm, hc1, hc2, ⟨y5, rfl⟩, us, gus, tus, pus, mus, lus⟩
        obtain ⟨t, mt, rfl, hx⟩ := item_cells (H := H') hi rfl
        rw [ecs] at hx
        have li : i < cs.length := by
          have := (List.getElem?_eq_some_iff.mp hi).1
          rwa [List.length_map] at this
        have lcs : cs.length = ps.length := by rw [← ecs, List.length_map]
        have gt := hc2 t mt
        have hU : Cells H' pu (us.map (·.2)) := ⟨us, gus, tus, rfl⟩
        have app : ∀ H2 : Hp, Same H' H2 → (∀ x ∈ us.map (·.2), ltP x t.2) → Same Hc (upd H2 pu (.lst ((us.map fun t => V.ref t.1) ++ [.ref t.1]))) ∧ upd H2 pu (.lst ((us.map fun t => V.ref t.1) ++ [.ref t.1])) pc = some (.lst (cs.map fun t => V.ref t.1)) ∧ (∀ t' ∈ cs, upd H2 pu (.lst ((us.map fun t => V.ref t.1) ++ [.ref t.1])) t'.1 = some (.tup [.int t'.2.1, .int t'.2.2])) ∧
            ∃ us' : List (Addr × Pr), upd H2 pu (.lst ((us.map fun t => V.ref t.1) ++ [.ref t.1])) pu = some (.lst (us'.map fun t => V.ref t.1)) ∧ (∀ t' ∈ us', upd H2 pu (.lst ((us.map fun t => V.ref t.1) ++ [.ref t.1])) t'.1 = some (.tup [.int t'.2.1, .int t'.2.2])) ∧ (us'.map (·.2)).Pairwise ltP ∧ (∀ x, x ∈ us'.map (·.2) ↔ x ∈ ps.take (i + 1)) ∧ us'.length ≤ i + 1 := fun H2 e2 big => by
          have off : ∀ z : Addr × Pr, H2 z.1 = some (.tup [.int z.2.1, .int z.2.2]) → upd H2 pu (.lst ((us.map fun t => V.ref t.1) ++ [.ref t.1])) z.1 = some (.tup [.int z.2.1, .int z.2.2]) := fun z g => by
            rw [upd_ne (fun e => ?_)]
            · exact g
            · have := e2 _ _ gus
              rw [e, this] at g
              cases g
          refine ⟨mutS (sm.trans e2) nu, ?_, fun t' m => off t' (e2 _ _ (hc2 t' m)), us ++ [t], ?_, fun t' m => ?_, ?_, fun x => ?_, ?_⟩
          · rw [upd_ne (fun e => ?_)]
            · exact e2 _ _ hc1
            · obtain ⟨ts0, g, _⟩ := id hC
              rw [e, nu] at g
              cases g
          · rw [upd_same, List.map_append]
            rfl
          · rcases List.mem_append.mp m with m | m
            · exact off t' (e2 _ _ (tus t' m))
            · rw [List.mem_singleton.mp m]
              exact off t (e2 _ _ gt)
          · rw [List.map_append]
            exact List.pairwise_append.mpr ⟨pus, List.pairwise_cons.mpr ⟨fun _ m => (by cases m), List.Pairwise.nil⟩, fun x mx y my => by rw [List.mem_singleton.mp my]; exact big x mx⟩
          · rw [List.map_append, List.mem_append, take_next hx, List.mem_append, mus x]
            exact Iff.rfl
          · rw [List.length_append, List.length_singleton]
            omega
        have lz : us.length < sizeLine := by
          rw [sizeLine_eq]
          omega
        refine ⟨_, rfl, by k_clsL, fun pz nz => ?_⟩
        k_invariant "new" (nz, H2, e2, gz)
        have hZ : Cells H2 pz [] := ⟨[], gz, fun _ m => (by cases m), rfl⟩
        refine ⟨_, _, dp_cells (hU.up e2), dp_cells hZ, shaped_cells _, shaped_cells _, _, by rw [eqv_cells], ite2 (fun d => ?_) (fun d => ?_)⟩
        · have d := of_decide_eq_true d
          obtain ⟨a1, a2, a3, a4⟩ := app H2 e2 (fun x m => by rw [d] at m; cases m)
          exact ⟨_, rfl, .inl ⟨rfl, _, lst_of (e2 _ _ gus)⟩, _, rfl, _, _, _, rfl, rfl, e2 _ _ gus, by rw [List.length_map]; exact lz, a1, a2, a3, ⟨_, rfl⟩, a4⟩
        · have d : us.map (·.2) ≠ [] := fun e => d (decide_eq_true e)
          rcases List.eq_nil_or_concat us with e0 | ⟨vs, u, e0⟩
          · exact absurd (by rw [e0]; rfl) d
          rw [List.concat_eq_append] at e0
          have mu : u ∈ us := by rw [e0]; exact List.mem_append.mpr (.inr (List.mem_singleton.mpr rfl))
          have atl : atI (us.map fun t => V.ref t.1) (((us.map fun t => V.ref t.1).length : Int) - 1) = some (.ref u.1) := by
            rw [show ((us.map fun t => V.ref t.1).length : Int) - 1 = ((vs.length : Nat) : Int) by rw [e0, List.length_map, List.length_append, List.length_singleton]; omega]
            refine atI_nat ?_
            rw [e0, List.map_append, List.getElem?_append_right (by rw [List.length_map]; exact Nat.le_refl _), List.length_map, Nat.sub_self]
            rfl
          have noless : ∀ x ∈ ps.take i, ¬ ltP t.2 x := fun x m => by
            obtain ⟨j, hj, e⟩ := List.getElem_of_mem m
            have hj2 : j < i := by rw [List.length_take] at hj; omega
            have w := List.pairwise_iff_getElem.mp srt j i (by omega) (by omega) hj2
            rw [List.getElem_take] at e
            rw [e, (List.getElem?_eq_some_iff.mp hx).2] at w
            exact w
          have mlast : u.2 ∈ us.map (·.2) := List.mem_map.mpr ⟨u, mu, rfl⟩
          refine ⟨_, rfl, _, rfl, _, _, rfl, lst_of (e2 _ _ gus), _, _, rfl, rfl, _, _, _, _, rfl, rfl, lst_of (e2 _ _ gus), atl, _, rfl, pd u.2, pd t.2, .tup (tup_of (e2 _ _ (tus u mu))) (.cons (.int _) (.cons (.int _) .nil)), .tup (tup_of (e2 _ _ gt)) (.cons (.int _) (.cons (.int _) .nil)), shaped_pd _, shaped_pd _, _, by rw [eqv_pd], ite2 (fun d2 => ?_) (fun d2 => ?_)⟩
          · have d2 : ¬ u.2 = t.2 := fun e => by
              rw [decide_eq_true e] at d2
              cases d2
            have big : ∀ x ∈ us.map (·.2), ltP x t.2 := fun x m => by
              have n1 := noless x ((mus x).mp m)
              have n2 := noless u.2 ((mus u.2).mp mlast)
              have ne : x ≠ t.2 := fun e => by
                rw [e0, List.map_append] at m pus
                rcases List.mem_append.mp m with m | m
                · have z := (List.pairwise_append.mp pus).2.2 x m u.2 (List.mem_singleton.mpr rfl)
                  rw [e] at z
                  exact n2 z
                · have z : x = u.2 := List.mem_singleton.mp m
                  exact d2 (z.symm.trans e)
              refine ltP_iff.mpr ?_
              have n1 : ¬ (t.2.1 < x.1 ∨ (t.2.1 = x.1 ∧ t.2.2 < x.2)) := fun z => n1 (ltP_iff.mpr z)
              have ne : ¬ (x.1 = t.2.1 ∧ x.2 = t.2.2) := fun z => ne (Prod.ext z.1 z.2)
              omega
            obtain ⟨a1, a2, a3, a4⟩ := app H2 e2 big
            exact ⟨_, rfl, .inl ⟨rfl, _, lst_of (e2 _ _ gus)⟩, _, rfl, _, _, _, rfl, rfl, e2 _ _ gus, by rw [List.length_map]; exact lz, a1, a2, a3, ⟨_, rfl⟩, a4⟩
          · have d2 : u.2 = t.2 := by
              by_cases e : u.2 = t.2
              · exact e
              · refine absurd ?_ d2
                rw [decide_eq_false e]
                rfl
            refine ⟨sm.trans e2, e2 _ _ hc1, fun t' m => e2 _ _ (hc2 t' m), ⟨_, rfl⟩, us, e2 _ _ gus, fun t' m => e2 _ _ (tus t' m), pus, fun x => ?_, by omega⟩
            rw [take_next hx, List.mem_append, mus x]
            refine ⟨.inl, fun z => z.elim id fun z => ?_⟩
            have z : x = t.2 := List.mem_singleton.mp z
            rw [z, ← d2]
            exact (mus u.2).mp mlast
      · rintro σ Hv ⟨sm, hc1, hc2, ⟨y5, rfl⟩, us, gus, tus, pus, mus, lus⟩
        have lcs : cs.length = ps.length := by rw [← ecs, List.length_map]
        rw [List.length_map] at lus mus
        have mus : ∀ x, x ∈ us.map (·.2) ↔ x ∈ ps := fun x => by
          rw [mus x, List.take_of_length_le (by omega)]
        have hU : Cells Hv pu (us.map (·.2)) := ⟨us, gus, tus, rfl⟩
        have lU : (us.map (·.2)).length < 64 := by
          rw [List.length_map]
          omega
        generalize us.map (·.2) = U at hU pus mus lU
        refine ⟨by k_clsL, fun ph nh => ?_⟩
        k_invariant "new" (nh, Hh, eh, gh)
        refine ⟨_, rfl, by k_clsL, fun pz nz => ?_⟩
        k_invariant "new" (nz, H2, e2, gz)
        have hZ : Cells H2 pz [] := ⟨[], gz, fun _ m => (by cases m), rfl⟩
        have hU2 := hU.up (eh.trans e2)
        refine ⟨_, _, dp_cells hU2, dp_cells hZ, shaped_cells _, shaped_cells _, _, by rw [eqv_cells], ite2 (fun d => ?_) (fun d => ?_)⟩
        · have d : U ≠ [] := fun e => by
            rw [decide_eq_true e] at d
            cases d
          have ne0 : 0 < U.length := by
            cases U with
            | nil => exact absurd rfl d
            | cons x l => exact Nat.succ_pos _
          refine ⟨_, rfl, _, rfl, ⟨_, lst_of hU2.choose_spec.1⟩, fun Dt nDt => lc_nums (·.1) hU2 nDt (lt_line lU) ?_ fun H3 e3 g3 => ?_⟩
          · intro t x H' Po Pn sm ht hq
            exact ⟨t, _, rfl, tup_of ht, rfl, _, _, rfl, _, _, rfl, rfl, rfl, tyesT ⟨_, rfl, hq⟩⟩
          refine ⟨_, _, rfl, lst_of g3, by rw [List.length_map]; exact ne0, fun top mt lt => ?_⟩
          have hU3 := hU2.up e3
          refine ⟨_, rfl, _, rfl, ⟨_, lst_of hU3.choose_spec.1⟩, fun Dw nDw => lc_nums (·.2) hU3 nDw (lt_line lU) ?_ fun H4 e4 g4 => ?_⟩
          · intro t x H' Po Pn sm ht hq
            exact ⟨t, _, rfl, tup_of ht, rfl, _, _, rfl, _, _, rfl, rfl, rfl, tyesT ⟨_, rfl, hq⟩⟩
          refine ⟨_, _, rfl, lst_of g4, by rw [List.length_map]; exact ne0, fun left ml ll => ?_⟩
          have hU4 := hU3.up e4
          refine ⟨_, rfl, _, rfl, ⟨_, lst_of hU4.choose_spec.1⟩, fun ph nph => lc_cells (fun x => (x.1 - top, x.2 - left)) hU4 nph (lt_line lU) ?_ fun Hx ex hHv => ?_⟩
          · intro t x H' Po Pn sm ht hq
            exact ⟨t, _, rfl, tup_of ht, rfl, _, _, rfl, _, _, rfl, rfl, wipe2 _ 12 13 _ _, tyesT ⟨_, rfl, _, rfl, _, _, rfl, rfl, _, rfl, _, rfl, _, _, rfl, rfl, (by k_clsL), fun t2 n2 => hq t2 n2⟩⟩
          have sx : Same Hc Hx := sm.trans (eh.trans (e2.trans (e3.trans (e4.trans ex))))
          have pwh : (U.map fun x => (x.1 - top, x.2 - left)).Pairwise ltP := pw_map (fun x y h => by
            have h := ltP_iff.mp h
            refine ltP_iff.mpr ?_
            show x.1 - top < y.1 - top ∨ (x.1 - top = y.1 - top ∧ x.2 - left < y.2 - left)
            omega) pus
          have hvAll : ∀ qs, HomeOf (ps.map fun x => (x.1 - 4, x.2 + 9)) qs → qs = U.map fun x => (x.1 - top, x.2 - left) := fun qs h => by
            refine canP_eq (h.2 (top - 4) (left + 9) ⟨?_, fun y m => ?_⟩ ⟨?_, fun y m => ?_⟩) pwh fun k => ?_
            · obtain ⟨x, m, e⟩ := List.mem_map.mp mt
              exact List.mem_map.mpr ⟨_, List.mem_map.mpr ⟨x, (mus x).mp m, rfl⟩, by show x.1 - 4 = top - 4; have e : x.1 = top := e; omega⟩
            · obtain ⟨z, mz, e⟩ := List.mem_map.mp m
              obtain ⟨x, mx, rfl⟩ := List.mem_map.mp mz
              have := lt x.1 (List.mem_map.mpr ⟨x, (mus x).mpr mx, rfl⟩)
              have e : x.1 - 4 = y := e
              omega
            · obtain ⟨x, m, e⟩ := List.mem_map.mp ml
              exact List.mem_map.mpr ⟨_, List.mem_map.mpr ⟨x, (mus x).mp m, rfl⟩, by show x.2 + 9 = left + 9; have e : x.2 = left := e; omega⟩
            · obtain ⟨z, mz, e⟩ := List.mem_map.mp m
              obtain ⟨x, mx, rfl⟩ := List.mem_map.mp mz
              have := ll x.2 (List.mem_map.mpr ⟨x, (mus x).mpr mx, rfl⟩)
              have e : x.2 + 9 = y := e
              omega
            · have ef : (addP (-(top - 4)) (-(left + 9)) ∘ fun (x : Pr) => ((x.1 - 4, x.2 + 9) : Pr)) = fun (x : Pr) => ((x.1 - top, x.2 - left) : Pr) := funext fun x => by
                show (x.1 - 4 + -(top - 4), x.2 + 9 + -(left + 9)) = (x.1 - top, x.2 - left)
                rw [show x.1 - 4 + -(top - 4) = x.1 - top by omega, show x.2 + 9 + -(left + 9) = x.2 - left by omega]
              rw [List.map_map, ef]
              exact (mem_map2 mus k).symm
          have ishv : IsHome (U.map fun x => (x.1 - top, x.2 - left)) := by
            refine ⟨pwh, fun _ => ⟨⟨?_, fun y m => ?_⟩, ?_, fun y m => ?_⟩⟩
            · obtain ⟨x, m, e⟩ := List.mem_map.mp mt
              exact List.mem_map.mpr ⟨_, List.mem_map.mpr ⟨x, m, rfl⟩, by show x.1 - top = 0; have e : x.1 = top := e; omega⟩
            · obtain ⟨z, mz, e⟩ := List.mem_map.mp m
              obtain ⟨x, mx, rfl⟩ := List.mem_map.mp mz
              have := lt x.1 (List.mem_map.mpr ⟨x, mx, rfl⟩)
              have e : x.1 - top = y := e
              omega
            · obtain ⟨x, m, e⟩ := List.mem_map.mp ml
              exact List.mem_map.mpr ⟨_, List.mem_map.mpr ⟨x, m, rfl⟩, by show x.2 - left = 0; have e : x.2 = left := e; omega⟩
            · obtain ⟨z, mz, e⟩ := List.mem_map.mp m
              obtain ⟨x, mx, rfl⟩ := List.mem_map.mp mz
              have := ll x.2 (List.mem_map.mpr ⟨x, mx, rfl⟩)
              have e : x.2 - left = y := e
              omega
          have bhv : ∀ x ∈ U.map fun x => (x.1 - top, x.2 - left), x.1 < 64 ∧ x.2 < 64 := fun x m => by
            obtain ⟨y, my, rfl⟩ := List.mem_map.mp m
            obtain ⟨u, mu, eu⟩ := List.mem_map.mp mt
            obtain ⟨w, mw, ew⟩ := List.mem_map.mp ml
            have b1 := bb y ((mus y).mp my)
            have b2 := bb u ((mus u).mp mu)
            have b3 := bb w ((mus w).mp mw)
            have eu : u.1 = top := eu
            have ew : w.2 = left := ew
            show y.1 - top < 64 ∧ y.2 - left < 64
            omega
          have lhv : (U.map fun x => (x.1 - top, x.2 - left)).length < 64 := by
            rw [List.length_map]
            exact lU
          obtain ⟨hv, hHv, hvAll, ishv, bhv, lhv⟩ : ∃ hv : List Pr, Cells Hx ph hv ∧ (∀ qs, HomeOf (ps.map fun x => (x.1 - 4, x.2 + 9)) qs → qs = hv) ∧ IsHome hv ∧ (∀ x ∈ hv, x.1 < 64 ∧ x.2 < 64) ∧ hv.length < 64 := ⟨_, hHv, hvAll, ishv, bhv, lhv⟩
          have hCy := hC.up sx
          refine ⟨_, rfl, _, rfl, ⟨_, lst_of hCy.choose_spec.1⟩, fun Dy nDy => lc_cells (fun x => (x.1 - 4, x.2 + 9)) hCy nDy (lt_line lps) ?_ fun Hy ey hy => ?_⟩
          · intro t x H' Po Pn sm ht hq
            exact ⟨t, _, rfl, tup_of ht, rfl, _, _, rfl, _, _, rfl, rfl, wipe2 _ 12 13 _ _, tyesT ⟨_, rfl, _, _, rfl, rfl, _, rfl, _, _, rfl, rfl, (by k_clsL), fun t2 n2 => hq t2 n2⟩⟩
          refine ⟨Dy, _, rfl, hy, by rw [List.length_map]; exact lps, fun x m => ?_, fun Hz s qs ez hm ht hl => ?_⟩
          · obtain ⟨y, my, rfl⟩ := List.mem_map.mp m
            have := bb y my
            show (y.1 - 4).natAbs < _ ∧ (y.2 + 9).natAbs < _
            omega
          have eq := hvAll qs hm
          subst eq
          have gHome := hHv.up (ey.trans ez)
          refine ⟨_, rfl, _, _, _, _, _, rfl, .ty _, .base (.str _), rfl, _, rfl, iteF ?_⟩
          refine ⟨_, rfl, _, rfl, ph, qs, rfl, gHome, ishv, fun x m => by have := bhv x m; omega, lhv, fun Hw s2 ew h2 => ?_⟩
          have es : s2 = s := tlInj (by rw [h2, ht])
          refine ⟨rfl, _, (show V.bl (!decide (V.str s = V.str s2)) = V.bl false by rw [es, decide_eq_true rfl]; rfl), iteF ?_⟩
          have b1000 : ∀ x ∈ qs, x.1 < 1000 ∧ x.2 < 1000 := fun x m => by
            have := bhv x m
            omega
          have len : s.length ≤ 1000 := by
            rw [TL.len_tl, ht]
            exact home_len ishv b1000 lhv
          refine ⟨_, rfl, s, qs, rfl, len, ishv, b1000, lhv, ht, fun Hb pb nb eb hb => ?_⟩
          refine ⟨_, rfl, pb, qs, rfl, hb, lhv, ishv.1, fun Hl el => ⟨_, rfl, iteT ?_⟩⟩
          refine ⟨_, rfl, _, rfl, _, _, dp_cells (hb.up el), dp_cells (gHome.up (ew.trans (eb.trans el))), shaped_cells _, shaped_cells _, ?_⟩
          rw [eqv_cells, decide_eq_true rfl]
          exact q _
        · have d : U = [] := by
            by_cases e : U = []
            · exact e
            · refine absurd ?_ d
              rw [decide_eq_false e]
              rfl
          subst d
          have ps0 : ps = [] := by
            cases ps with
            | nil => rfl
            | cons x l =>
              have z := (mus x).mpr List.mem_cons_self
              cases z
          have sx : Same Hc H2 := sm.trans (eh.trans e2)
          have hHv : Cells H2 ph [] := ⟨[], e2 _ _ gh, fun _ m => (by cases m), rfl⟩
          have hvAll : ∀ qs, HomeOf (ps.map fun x => (x.1 - 4, x.2 + 9)) qs → qs = [] := fun qs h => h.1 (by rw [ps0]; rfl)
          have ishv : IsHome [] := ⟨List.Pairwise.nil, fun z => absurd rfl z⟩
          have bhv : ∀ x ∈ ([] : List Pr), x.1 < 64 ∧ x.2 < 64 := fun _ m => (by cases m)
          have lhv : ([] : List Pr).length < 64 := by decide
          obtain ⟨hv, hHv, hvAll, ishv, bhv, lhv⟩ : ∃ hv : List Pr, Cells H2 ph hv ∧ (∀ qs, HomeOf (ps.map fun x => (x.1 - 4, x.2 + 9)) qs → qs = hv) ∧ IsHome hv ∧ (∀ x ∈ hv, x.1 < 64 ∧ x.2 < 64) ∧ hv.length < 64 := ⟨_, hHv, hvAll, ishv, bhv, lhv⟩
          have hCy := hC.up sx
          refine ⟨_, rfl, _, rfl, ⟨_, lst_of hCy.choose_spec.1⟩, fun Dy nDy => lc_cells (fun x => (x.1 - 4, x.2 + 9)) hCy nDy (lt_line lps) ?_ fun Hy ey hy => ?_⟩
          · intro t x H' Po Pn sm ht hq
            exact ⟨t, _, rfl, tup_of ht, rfl, _, _, rfl, _, _, rfl, rfl, wipe2 _ 12 13 _ _, tyesT ⟨_, rfl, _, _, rfl, rfl, _, rfl, _, _, rfl, rfl, (by k_clsL), fun t2 n2 => hq t2 n2⟩⟩
          refine ⟨Dy, _, rfl, hy, by rw [List.length_map]; exact lps, fun x m => ?_, fun Hz s qs ez hm ht hl => ?_⟩
          · obtain ⟨y, my, rfl⟩ := List.mem_map.mp m
            have := bb y my
            show (y.1 - 4).natAbs < _ ∧ (y.2 + 9).natAbs < _
            omega
          have eq := hvAll qs hm
          subst eq
          have gHome := hHv.up (ey.trans ez)
          refine ⟨_, rfl, _, _, _, _, _, rfl, .ty _, .base (.str _), rfl, _, rfl, iteF ?_⟩
          refine ⟨_, rfl, _, rfl, ph, qs, rfl, gHome, ishv, fun x m => by have := bhv x m; omega, lhv, fun Hw s2 ew h2 => ?_⟩
          have es : s2 = s := tlInj (by rw [h2, ht])
          refine ⟨rfl, _, (show V.bl (!decide (V.str s = V.str s2)) = V.bl false by rw [es, decide_eq_true rfl]; rfl), iteF ?_⟩
          have b1000 : ∀ x ∈ qs, x.1 < 1000 ∧ x.2 < 1000 := fun x m => by
            have := bhv x m
            omega
          have len : s.length ≤ 1000 := by
            rw [TL.len_tl, ht]
            exact home_len ishv b1000 lhv
          refine ⟨_, rfl, s, qs, rfl, len, ishv, b1000, lhv, ht, fun Hb pb nb eb hb => ?_⟩
          refine ⟨_, rfl, pb, qs, rfl, hb, lhv, ishv.1, fun Hl el => ⟨_, rfl, iteT ?_⟩⟩
          refine ⟨_, rfl, _, rfl, _, _, dp_cells (hb.up el), dp_cells (gHome.up (ew.trans (eb.trans el))), shaped_cells _, shaped_cells _, ?_⟩
          rw [eqv_cells, decide_eq_true rfl]
          exact q _
end
end My
namespace My
open PySem PySem.Spec PyProof.Rows L2 Vx
theorem all_mk {l : PySem.W.OpenLaw} {w : World} {K : PySem.W.Frag} {h : Heap} {mg : Str → Option Value} {fa : Addr} (X : K.In h) (G : h.Ns mainGlobals mg) (hfa : mg "law" = some (.ref fa))
    {f_pattern : Addr} {odpattern anpattern : Option Addr} {slpattern : Array (Option Value)} {ocpattern kVpattern dcpattern pmpattern cdpattern ctpattern : Value}
    {f_moved : Addr} {odmoved anmoved : Option Addr} {slmoved : Array (Option Value)} {ocmoved kVmoved dcmoved pmmoved cdmoved ctmoved : Value}
    {f_home : Addr} {odhome anhome : Option Addr} {slhome : Array (Option Value)} {ochome kVhome dchome pmhome cdhome cthome : Value}
    {f_read_text : Addr} {odread_text anread_text : Option Addr} {slread_text : Array (Option Value)} {ocread_text kVread_text dcread_text pmread_text cdread_text ctread_text : Value}
    {f_cells_of_text : Addr} {odcells_of_text ancells_of_text : Option Addr} {slcells_of_text : Array (Option Value)} {occells_of_text kVcells_of_text dccells_of_text pmcells_of_text cdcells_of_text ctcells_of_text : Value}
    {f_write_text : Addr} {odwrite_text anwrite_text : Option Addr} {slwrite_text : Array (Option Value)} {ocwrite_text kVwrite_text dcwrite_text pmwrite_text cdwrite_text ctwrite_text : Value}
    {f_runs : Addr} {odruns anruns : Option Addr} {slruns : Array (Option Value)} {ocruns kVruns dcruns pmruns cdruns ctruns : Value}
    {f_counted : Addr} {odcounted ancounted : Option Addr} {slcounted : Array (Option Value)} {occounted kVcounted dccounted pmcounted cdcounted ctcounted : Value}
    {f_law_cell : Addr} {odlaw_cell anlaw_cell : Option Addr} {sllaw_cell : Array (Option Value)} {oclaw_cell kVlaw_cell dclaw_cell pmlaw_cell cdlaw_cell ctlaw_cell : Value}
    {f_law_row : Addr} {odlaw_row anlaw_row : Option Addr} {sllaw_row : Array (Option Value)} {oclaw_row kVlaw_row dclaw_row pmlaw_row cdlaw_row ctlaw_row : Value}
    {f_law_integer : Addr} {odlaw_integer anlaw_integer : Option Addr} {sllaw_integer : Array (Option Value)} {oclaw_integer kVlaw_integer dclaw_integer pmlaw_integer cdlaw_integer ctlaw_integer : Value}
    {f_law_cells : Addr} {odlaw_cells anlaw_cells : Option Addr} {sllaw_cells : Array (Option Value)} {oclaw_cells kVlaw_cells dclaw_cells pmlaw_cells cdlaw_cells ctlaw_cells : Value}
    {f_law_some : Addr} {odlaw_some anlaw_some : Option Addr} {sllaw_some : Array (Option Value)} {oclaw_some kVlaw_some dclaw_some pmlaw_some cdlaw_some ctlaw_some : Value}
    {f_law_counted : Addr} {odlaw_counted anlaw_counted : Option Addr} {sllaw_counted : Array (Option Value)} {oclaw_counted kVlaw_counted dclaw_counted pmlaw_counted cdlaw_counted ctlaw_counted : Value}
    {f_law_runs : Addr} {odlaw_runs anlaw_runs : Option Addr} {sllaw_runs : Array (Option Value)} {oclaw_runs kVlaw_runs dclaw_runs pmlaw_runs cdlaw_runs ctlaw_runs : Value}
    {f_law_text : Addr} {odlaw_text anlaw_text : Option Addr} {sllaw_text : Array (Option Value)} {oclaw_text kVlaw_text dclaw_text pmlaw_text cdlaw_text ctlaw_text : Value}
    {f_law : Addr} {odlaw anlaw : Option Addr} {sllaw : Array (Option Value)} {oclaw kVlaw dclaw pmlaw cdlaw ctlaw : Value}
    {uDIGITS : Tok}
    {uROW_END : Tok}
    {uALIVE : Tok}
    {uDEAD : Tok}
    {uMARK : Tok}
    (apattern : PySem.W.nsIn K mainGlobals "pattern" = some (some (.ref f_pattern)))
    (lpattern : K.lookup f_pattern = some ⟨ocpattern, odpattern, .func (PySem.W.fnOf "pattern" "pattern" (defArgs s_pattern) (defBody s_pattern) (defScope s_pattern) .none kVpattern dcpattern pmpattern anpattern cdpattern ctpattern), slpattern⟩)
    (cpattern : PySem.W.codeIn K cdpattern "pattern" = true)
    (kpattern : PySem.W.keepIn K (.ref f_pattern) = true)
    (amoved : PySem.W.nsIn K mainGlobals "moved" = some (some (.ref f_moved)))
    (lmoved : K.lookup f_moved = some ⟨ocmoved, odmoved, .func (PySem.W.fnOf "moved" "moved" (defArgs s_moved) (defBody s_moved) (defScope s_moved) .none kVmoved dcmoved pmmoved anmoved cdmoved ctmoved), slmoved⟩)
    (cmoved : PySem.W.codeIn K cdmoved "moved" = true)
    (kmoved : PySem.W.keepIn K (.ref f_moved) = true)
    (ahome : PySem.W.nsIn K mainGlobals "home" = some (some (.ref f_home)))
    (lhome : K.lookup f_home = some ⟨ochome, odhome, .func (PySem.W.fnOf "home" "home" (defArgs s_home) (defBody s_home) (defScope s_home) .none kVhome dchome pmhome anhome cdhome cthome), slhome⟩)
    (chome : PySem.W.codeIn K cdhome "home" = true)
    (khome : PySem.W.keepIn K (.ref f_home) = true)
    (aread_text : PySem.W.nsIn K mainGlobals "read_text" = some (some (.ref f_read_text)))
    (lread_text : K.lookup f_read_text = some ⟨ocread_text, odread_text, .func (PySem.W.fnOf "read_text" "read_text" (defArgs s_read_text) (defBody s_read_text) (defScope s_read_text) .none kVread_text dcread_text pmread_text anread_text cdread_text ctread_text), slread_text⟩)
    (cread_text : PySem.W.codeIn K cdread_text "read_text" = true)
    (kread_text : PySem.W.keepIn K (.ref f_read_text) = true)
    (acells_of_text : PySem.W.nsIn K mainGlobals "_cells_of_text" = some (some (.ref f_cells_of_text)))
    (lcells_of_text : K.lookup f_cells_of_text = some ⟨occells_of_text, odcells_of_text, .func (PySem.W.fnOf "_cells_of_text" "_cells_of_text" (defArgs s_cells_of_text) (defBody s_cells_of_text) (defScope s_cells_of_text) .none kVcells_of_text dccells_of_text pmcells_of_text ancells_of_text cdcells_of_text ctcells_of_text), slcells_of_text⟩)
    (ccells_of_text : PySem.W.codeIn K cdcells_of_text "_cells_of_text" = true)
    (kcells_of_text : PySem.W.keepIn K (.ref f_cells_of_text) = true)
    (awrite_text : PySem.W.nsIn K mainGlobals "write_text" = some (some (.ref f_write_text)))
    (lwrite_text : K.lookup f_write_text = some ⟨ocwrite_text, odwrite_text, .func (PySem.W.fnOf "write_text" "write_text" (defArgs s_write_text) (defBody s_write_text) (defScope s_write_text) .none kVwrite_text dcwrite_text pmwrite_text anwrite_text cdwrite_text ctwrite_text), slwrite_text⟩)
    (cwrite_text : PySem.W.codeIn K cdwrite_text "write_text" = true)
    (kwrite_text : PySem.W.keepIn K (.ref f_write_text) = true)
    (aruns : PySem.W.nsIn K mainGlobals "_runs" = some (some (.ref f_runs)))
    (lruns : K.lookup f_runs = some ⟨ocruns, odruns, .func (PySem.W.fnOf "_runs" "_runs" (defArgs s_runs) (defBody s_runs) (defScope s_runs) .none kVruns dcruns pmruns anruns cdruns ctruns), slruns⟩)
    (cruns : PySem.W.codeIn K cdruns "_runs" = true)
    (kruns : PySem.W.keepIn K (.ref f_runs) = true)
    (acounted : PySem.W.nsIn K mainGlobals "_counted" = some (some (.ref f_counted)))
    (lcounted : K.lookup f_counted = some ⟨occounted, odcounted, .func (PySem.W.fnOf "_counted" "_counted" (defArgs s_counted) (defBody s_counted) (defScope s_counted) .none kVcounted dccounted pmcounted ancounted cdcounted ctcounted), slcounted⟩)
    (ccounted : PySem.W.codeIn K cdcounted "_counted" = true)
    (kcounted : PySem.W.keepIn K (.ref f_counted) = true)
    (alaw_cell : PySem.W.nsIn K mainGlobals "_law_cell" = some (some (.ref f_law_cell)))
    (llaw_cell : K.lookup f_law_cell = some ⟨oclaw_cell, odlaw_cell, .func (PySem.W.fnOf "_law_cell" "_law_cell" (defArgs s_law_cell) (defBody s_law_cell) (defScope s_law_cell) .none kVlaw_cell dclaw_cell pmlaw_cell anlaw_cell cdlaw_cell ctlaw_cell), sllaw_cell⟩)
    (claw_cell : PySem.W.codeIn K cdlaw_cell "_law_cell" = true)
    (klaw_cell : PySem.W.keepIn K (.ref f_law_cell) = true)
    (alaw_row : PySem.W.nsIn K mainGlobals "_law_row" = some (some (.ref f_law_row)))
    (llaw_row : K.lookup f_law_row = some ⟨oclaw_row, odlaw_row, .func (PySem.W.fnOf "_law_row" "_law_row" (defArgs s_law_row) (defBody s_law_row) (defScope s_law_row) .none kVlaw_row dclaw_row pmlaw_row anlaw_row cdlaw_row ctlaw_row), sllaw_row⟩)
    (claw_row : PySem.W.codeIn K cdlaw_row "_law_row" = true)
    (klaw_row : PySem.W.keepIn K (.ref f_law_row) = true)
    (alaw_integer : PySem.W.nsIn K mainGlobals "_law_integer" = some (some (.ref f_law_integer)))
    (llaw_integer : K.lookup f_law_integer = some ⟨oclaw_integer, odlaw_integer, .func (PySem.W.fnOf "_law_integer" "_law_integer" (defArgs s_law_integer) (defBody s_law_integer) (defScope s_law_integer) .none kVlaw_integer dclaw_integer pmlaw_integer anlaw_integer cdlaw_integer ctlaw_integer), sllaw_integer⟩)
    (claw_integer : PySem.W.codeIn K cdlaw_integer "_law_integer" = true)
    (klaw_integer : PySem.W.keepIn K (.ref f_law_integer) = true)
    (alaw_cells : PySem.W.nsIn K mainGlobals "_law_cells" = some (some (.ref f_law_cells)))
    (llaw_cells : K.lookup f_law_cells = some ⟨oclaw_cells, odlaw_cells, .func (PySem.W.fnOf "_law_cells" "_law_cells" (defArgs s_law_cells) (defBody s_law_cells) (defScope s_law_cells) .none kVlaw_cells dclaw_cells pmlaw_cells anlaw_cells cdlaw_cells ctlaw_cells), sllaw_cells⟩)
    (claw_cells : PySem.W.codeIn K cdlaw_cells "_law_cells" = true)
    (klaw_cells : PySem.W.keepIn K (.ref f_law_cells) = true)
    (alaw_some : PySem.W.nsIn K mainGlobals "_law_some" = some (some (.ref f_law_some)))
    (llaw_some : K.lookup f_law_some = some ⟨oclaw_some, odlaw_some, .func (PySem.W.fnOf "_law_some" "_law_some" (defArgs s_law_some) (defBody s_law_some) (defScope s_law_some) .none kVlaw_some dclaw_some pmlaw_some anlaw_some cdlaw_some ctlaw_some), sllaw_some⟩)
    (claw_some : PySem.W.codeIn K cdlaw_some "_law_some" = true)
    (klaw_some : PySem.W.keepIn K (.ref f_law_some) = true)
    (alaw_counted : PySem.W.nsIn K mainGlobals "_law_counted" = some (some (.ref f_law_counted)))
    (llaw_counted : K.lookup f_law_counted = some ⟨oclaw_counted, odlaw_counted, .func (PySem.W.fnOf "_law_counted" "_law_counted" (defArgs s_law_counted) (defBody s_law_counted) (defScope s_law_counted) .none kVlaw_counted dclaw_counted pmlaw_counted anlaw_counted cdlaw_counted ctlaw_counted), sllaw_counted⟩)
    (claw_counted : PySem.W.codeIn K cdlaw_counted "_law_counted" = true)
    (klaw_counted : PySem.W.keepIn K (.ref f_law_counted) = true)
    (alaw_runs : PySem.W.nsIn K mainGlobals "_law_runs" = some (some (.ref f_law_runs)))
    (llaw_runs : K.lookup f_law_runs = some ⟨oclaw_runs, odlaw_runs, .func (PySem.W.fnOf "_law_runs" "_law_runs" (defArgs s_law_runs) (defBody s_law_runs) (defScope s_law_runs) .none kVlaw_runs dclaw_runs pmlaw_runs anlaw_runs cdlaw_runs ctlaw_runs), sllaw_runs⟩)
    (claw_runs : PySem.W.codeIn K cdlaw_runs "_law_runs" = true)
    (klaw_runs : PySem.W.keepIn K (.ref f_law_runs) = true)
    (alaw_text : PySem.W.nsIn K mainGlobals "_law_text" = some (some (.ref f_law_text)))
    (llaw_text : K.lookup f_law_text = some ⟨oclaw_text, odlaw_text, .func (PySem.W.fnOf "_law_text" "_law_text" (defArgs s_law_text) (defBody s_law_text) (defScope s_law_text) .none kVlaw_text dclaw_text pmlaw_text anlaw_text cdlaw_text ctlaw_text), sllaw_text⟩)
    (claw_text : PySem.W.codeIn K cdlaw_text "_law_text" = true)
    (klaw_text : PySem.W.keepIn K (.ref f_law_text) = true)
    (alaw : PySem.W.nsIn K mainGlobals "law" = some (some (.ref f_law)))
    (llaw : K.lookup f_law = some ⟨oclaw, odlaw, .func (PySem.W.fnOf "law" "law" (defArgs s_law) (defBody s_law) (defScope s_law) .none kVlaw dclaw pmlaw anlaw cdlaw ctlaw), sllaw⟩)
    (claw : PySem.W.codeIn K cdlaw "law" = true)
    (klaw : PySem.W.keepIn K (.ref f_law) = true)
    (zsorted : PySem.W.nsIn K mainGlobals "sorted" = some none)
    (zset : PySem.W.nsIn K mainGlobals "set" = some none)
    (zmin : PySem.W.nsIn K mainGlobals "min" = some none)
    (zint : PySem.W.nsIn K mainGlobals "int" = some none)
    (zrange : PySem.W.nsIn K mainGlobals "range" = some none)
    (zstr : PySem.W.nsIn K mainGlobals "str" = some none)
    (zlen : PySem.W.nsIn K mainGlobals "len" = some none)
    (zabs : PySem.W.nsIn K mainGlobals "abs" = some none)
    (zisinstance : PySem.W.nsIn K mainGlobals "isinstance" = some none)
    (zbool : PySem.W.nsIn K mainGlobals "bool" = some none)
    (zlist : PySem.W.nsIn K mainGlobals "list" = some none)
    (ztuple : PySem.W.nsIn K mainGlobals "tuple" = some none)
    (zsum : PySem.W.nsIn K mainGlobals "sum" = some none)
    (zmax : PySem.W.nsIn K mainGlobals "max" = some none)
    (xDIGITS : PySem.W.nsIn K mainGlobals "DIGITS" = some (some (.str (Str.ofString "0123456789") uDIGITS)))
    (xROW_END : PySem.W.nsIn K mainGlobals "ROW_END" = some (some (.str (Str.ofString "/") uROW_END)))
    (xALIVE : PySem.W.nsIn K mainGlobals "ALIVE" = some (some (.str (Str.ofString "O") uALIVE)))
    (xDEAD : PySem.W.nsIn K mainGlobals "DEAD" = some (some (.str (Str.ofString ".") uDEAD)))
    (xMARK : PySem.W.nsIn K mainGlobals "MARK" = some (some (.str (Str.ofString "!") uMARK))) :
    ∃ fd : FuncData, (∀ (s : Shared) (v : Value), BindsTo s fd ⟨[v], []⟩ [("script", v)]) ∧ ∀ base : Heap, K.In base → base.Ns mainGlobals mg → FnOk l.prog w K mg base CX0 6 fa fd ["script"] (sp_law K) := by
  have e := hfa.symm.trans (PySem.W.mg_of X G alaw)
  cases e
  have F_pattern := fun_mk (st := s_pattern) lpattern cpattern kpattern
  have b_pattern := F_pattern.binds (ps := ["cells"]) fun _ _ _ _ _ _ us hl => match us, hl with | [_], _ => rfl
  have F_moved := fun_mk (st := s_moved) lmoved cmoved kmoved
  have b_moved := F_moved.binds (ps := ["cells", "rows", "columns"]) fun _ _ _ _ _ _ us hl => match us, hl with | [_, _, _], _ => rfl
  have F_home := fun_mk (st := s_home) lhome chome khome
  have b_home := F_home.binds (ps := ["cells"]) fun _ _ _ _ _ _ us hl => match us, hl with | [_], _ => rfl
  have F_read_text := fun_mk (st := s_read_text) lread_text cread_text kread_text
  have b_read_text := F_read_text.binds (ps := ["string"]) fun _ _ _ _ _ _ us hl => match us, hl with | [_], _ => rfl
  have F_cells_of_text := fun_mk (st := s_cells_of_text) lcells_of_text ccells_of_text kcells_of_text
  have b_cells_of_text := F_cells_of_text.binds (ps := ["string"]) fun _ _ _ _ _ _ us hl => match us, hl with | [_], _ => rfl
  have F_write_text := fun_mk (st := s_write_text) lwrite_text cwrite_text kwrite_text
  have b_write_text := F_write_text.binds (ps := ["cells"]) fun _ _ _ _ _ _ us hl => match us, hl with | [_], _ => rfl
  have F_runs := fun_mk (st := s_runs) lruns cruns kruns
  have b_runs := F_runs.binds (ps := ["living"]) fun _ _ _ _ _ _ us hl => match us, hl with | [_], _ => rfl
  have F_counted := fun_mk (st := s_counted) lcounted ccounted kcounted
  have b_counted := F_counted.binds (ps := ["number", "sign"]) fun _ _ _ _ _ _ us hl => match us, hl with | [_, _], _ => rfl
  have F_law_cell := fun_mk (st := s_law_cell) llaw_cell claw_cell klaw_cell
  have b_law_cell := F_law_cell.binds (ps := ["script", "k"]) fun _ _ _ _ _ _ us hl => match us, hl with | [_, _], _ => rfl
  have F_law_row := fun_mk (st := s_law_row) llaw_row claw_row klaw_row
  have b_law_row := F_law_row.binds (ps := ["cell", "count", "bound"]) fun _ _ _ _ _ _ us hl => match us, hl with | [_, _, _], _ => rfl
  have F_law_integer := fun_mk (st := s_law_integer) llaw_integer claw_integer klaw_integer
  have b_law_integer := F_law_integer.binds (ps := ["value"]) fun _ _ _ _ _ _ us hl => match us, hl with | [_], _ => rfl
  have F_law_cells := fun_mk (st := s_law_cells) llaw_cells claw_cells klaw_cells
  have b_law_cells := F_law_cells.binds (ps := ["value"]) fun _ _ _ _ _ _ us hl => match us, hl with | [_], _ => rfl
  have F_law_some := fun_mk (st := s_law_some) llaw_some claw_some klaw_some
  have b_law_some := F_law_some.binds (ps := ["cell", "count", "height", "width"]) fun _ _ _ _ _ _ us hl => match us, hl with | [_, _, _, _], _ => rfl
  have F_law_counted := fun_mk (st := s_law_counted) llaw_counted claw_counted klaw_counted
  have b_law_counted := F_law_counted.binds (ps := ["count", "sign"]) fun _ _ _ _ _ _ us hl => match us, hl with | [_, _], _ => rfl
  have F_law_runs := fun_mk (st := s_law_runs) llaw_runs claw_runs klaw_runs
  have b_law_runs := F_law_runs.binds (ps := ["cells", "r", "width"]) fun _ _ _ _ _ _ us hl => match us, hl with | [_, _, _], _ => rfl
  have F_law_text := fun_mk (st := s_law_text) llaw_text claw_text klaw_text
  have b_law_text := F_law_text.binds (ps := ["cells"]) fun _ _ _ _ _ _ us hl => match us, hl with | [_], _ => rfl
  have F_law := fun_mk (st := s_law) llaw claw klaw
  have b_law := F_law.binds (ps := ["script"]) fun _ _ _ _ _ _ us hl => match us, hl with | [_], _ => rfl
  let T : Txt K mg := {
    f_pattern := f_pattern,
    d_pattern := _,
    F_pattern := F_pattern,
    b_pattern := b_pattern,
    g_pattern := PySem.W.mg_of X G apattern,
    f_moved := f_moved,
    d_moved := _,
    F_moved := F_moved,
    b_moved := b_moved,
    g_moved := PySem.W.mg_of X G amoved,
    f_home := f_home,
    d_home := _,
    F_home := F_home,
    b_home := b_home,
    g_home := PySem.W.mg_of X G ahome,
    f_read_text := f_read_text,
    d_read_text := _,
    F_read_text := F_read_text,
    b_read_text := b_read_text,
    g_read_text := PySem.W.mg_of X G aread_text,
    f_cells_of_text := f_cells_of_text,
    d_cells_of_text := _,
    F_cells_of_text := F_cells_of_text,
    b_cells_of_text := b_cells_of_text,
    g_cells_of_text := PySem.W.mg_of X G acells_of_text,
    f_write_text := f_write_text,
    d_write_text := _,
    F_write_text := F_write_text,
    b_write_text := b_write_text,
    g_write_text := PySem.W.mg_of X G awrite_text,
    f_runs := f_runs,
    d_runs := _,
    F_runs := F_runs,
    b_runs := b_runs,
    g_runs := PySem.W.mg_of X G aruns,
    f_counted := f_counted,
    d_counted := _,
    F_counted := F_counted,
    b_counted := b_counted,
    g_counted := PySem.W.mg_of X G acounted,
    f_law_cell := f_law_cell,
    d_law_cell := _,
    F_law_cell := F_law_cell,
    b_law_cell := b_law_cell,
    g_law_cell := PySem.W.mg_of X G alaw_cell,
    f_law_row := f_law_row,
    d_law_row := _,
    F_law_row := F_law_row,
    b_law_row := b_law_row,
    g_law_row := PySem.W.mg_of X G alaw_row,
    f_law_integer := f_law_integer,
    d_law_integer := _,
    F_law_integer := F_law_integer,
    b_law_integer := b_law_integer,
    g_law_integer := PySem.W.mg_of X G alaw_integer,
    f_law_cells := f_law_cells,
    d_law_cells := _,
    F_law_cells := F_law_cells,
    b_law_cells := b_law_cells,
    g_law_cells := PySem.W.mg_of X G alaw_cells,
    f_law_some := f_law_some,
    d_law_some := _,
    F_law_some := F_law_some,
    b_law_some := b_law_some,
    g_law_some := PySem.W.mg_of X G alaw_some,
    f_law_counted := f_law_counted,
    d_law_counted := _,
    F_law_counted := F_law_counted,
    b_law_counted := b_law_counted,
    g_law_counted := PySem.W.mg_of X G alaw_counted,
    f_law_runs := f_law_runs,
    d_law_runs := _,
    F_law_runs := F_law_runs,
    b_law_runs := b_law_runs,
    g_law_runs := PySem.W.mg_of X G alaw_runs,
    f_law_text := f_law_text,
    d_law_text := _,
    F_law_text := F_law_text,
    b_law_text := b_law_text,
    g_law_text := PySem.W.mg_of X G alaw_text,
    f_law := fa,
    d_law := _,
    F_law := F_law,
    b_law := b_law,
    g_law := PySem.W.mg_of X G alaw,
    z_sorted := PySem.W.mg_none_of X G zsorted,
    z_set := PySem.W.mg_none_of X G zset,
    z_min := PySem.W.mg_none_of X G zmin,
    z_int := PySem.W.mg_none_of X G zint,
    z_range := PySem.W.mg_none_of X G zrange,
    z_str := PySem.W.mg_none_of X G zstr,
    z_len := PySem.W.mg_none_of X G zlen,
    z_abs := PySem.W.mg_none_of X G zabs,
    z_isinstance := PySem.W.mg_none_of X G zisinstance,
    z_bool := PySem.W.mg_none_of X G zbool,
    z_list := PySem.W.mg_none_of X G zlist,
    z_tuple := PySem.W.mg_none_of X G ztuple,
    z_sum := PySem.W.mg_none_of X G zsum,
    z_max := PySem.W.mg_none_of X G zmax,
    c_DIGITS := ⟨_, PySem.W.mg_of X G xDIGITS, ⟨_, rfl⟩⟩,
    c_ROW_END := ⟨_, PySem.W.mg_of X G xROW_END, ⟨_, rfl⟩⟩,
    c_ALIVE := ⟨_, PySem.W.mg_of X G xALIVE, ⟨_, rfl⟩⟩,
    c_DEAD := ⟨_, PySem.W.mg_of X G xDEAD, ⟨_, rfl⟩⟩,
    c_MARK := ⟨_, PySem.W.mg_of X G xMARK, ⟨_, rfl⟩⟩ }
  exact ⟨_, fun s v => .of_eq rfl, fun base _ _ => ok_law T⟩
end My
open PySem PySem.W PyProof.Rows
set_option maxHeartbeats 0 in
theorem PySem.Challenge.cw_longlife_k06_run_texts_holds : PySem.Challenge.rw_longlife_k06_run_texts.Holds := by
  w_on; o_law; k_head; (case hw => w_witness2)
  k_fill
  refine L2.walk_of (l := PySem.Challenge.rw_longlife_k06_run_texts) (n := 63) (k := 6) (x := "script") (CX := fun _ => L2.CX0) (sp := fun w => My.sp_law _) rfl (by decide) rfl ⟨rfl, by decide, by decide⟩ (fun w h Y => PySem.W.kIn_of Y) ?F (fun _ _ a ns hl _ hS => ⟨a, ns, rfl, hS, hl, fun _ => rfl⟩) (fun _ _ _ _ _ h => h)
  case F =>
    intro w mg fa h KX G hmg
    refine' My.all_mk KX G hmg ?apattern ?lpattern ?cpattern ?kpattern ?amoved ?lmoved ?cmoved ?kmoved ?ahome ?lhome ?chome ?khome ?aread_text ?lread_text ?cread_text ?kread_text ?acells_of_text ?lcells_of_text ?ccells_of_text ?kcells_of_text ?awrite_text ?lwrite_text ?cwrite_text ?kwrite_text ?aruns ?lruns ?cruns ?kruns ?acounted ?lcounted ?ccounted ?kcounted ?alaw_cell ?llaw_cell ?claw_cell ?klaw_cell ?alaw_row ?llaw_row ?claw_row ?klaw_row ?alaw_integer ?llaw_integer ?claw_integer ?klaw_integer ?alaw_cells ?llaw_cells ?claw_cells ?klaw_cells ?alaw_some ?llaw_some ?claw_some ?klaw_some ?alaw_counted ?llaw_counted ?claw_counted ?klaw_counted ?alaw_runs ?llaw_runs ?claw_runs ?klaw_runs ?alaw_text ?llaw_text ?claw_text ?klaw_text ?alaw ?llaw ?claw ?klaw ?zsorted ?zset ?zmin ?zint ?zrange ?zstr ?zlen ?zabs ?zisinstance ?zbool ?zlist ?ztuple ?zsum ?zmax ?xDIGITS ?xROW_END ?xALIVE ?xDEAD ?xMARK
    (case apattern => k_is)
    (case lpattern => k_is)
    (case cpattern => k_is)
    (case kpattern => k_is)
    (case amoved => k_is)
    (case lmoved => k_is)
    (case cmoved => k_is)
    (case kmoved => k_is)
    (case ahome => k_is)
    (case lhome => k_is)
    (case chome => k_is)
    (case khome => k_is)
    (case aread_text => k_is)
    (case lread_text => k_is)
    (case cread_text => k_is)
    (case kread_text => k_is)
    (case acells_of_text => k_is)
    (case lcells_of_text => k_is)
    (case ccells_of_text => k_is)
    (case kcells_of_text => k_is)
    (case awrite_text => k_is)
    (case lwrite_text => k_is)
    (case cwrite_text => k_is)
    (case kwrite_text => k_is)
    (case aruns => k_is)
    (case lruns => k_is)
    (case cruns => k_is)
    (case kruns => k_is)
    (case acounted => k_is)
    (case lcounted => k_is)
    (case ccounted => k_is)
    (case kcounted => k_is)
    (case alaw_cell => k_is)
    (case llaw_cell => k_is)
    (case claw_cell => k_is)
    (case klaw_cell => k_is)
    (case alaw_row => k_is)
    (case llaw_row => k_is)
    (case claw_row => k_is)
    (case klaw_row => k_is)
    (case alaw_integer => k_is)
    (case llaw_integer => k_is)
    (case claw_integer => k_is)
    (case klaw_integer => k_is)
    (case alaw_cells => k_is)
    (case llaw_cells => k_is)
    (case claw_cells => k_is)
    (case klaw_cells => k_is)
    (case alaw_some => k_is)
    (case llaw_some => k_is)
    (case claw_some => k_is)
    (case klaw_some => k_is)
    (case alaw_counted => k_is)
    (case llaw_counted => k_is)
    (case claw_counted => k_is)
    (case klaw_counted => k_is)
    (case alaw_runs => k_is)
    (case llaw_runs => k_is)
    (case claw_runs => k_is)
    (case klaw_runs => k_is)
    (case alaw_text => k_is)
    (case llaw_text => k_is)
    (case claw_text => k_is)
    (case klaw_text => k_is)
    (case alaw => k_is)
    (case llaw => k_is)
    (case claw => k_is)
    (case klaw => k_is)
    (case zsorted => k_is)
    (case zset => k_is)
    (case zmin => k_is)
    (case zint => k_is)
    (case zrange => k_is)
    (case zstr => k_is)
    (case zlen => k_is)
    (case zabs => k_is)
    (case zisinstance => k_is)
    (case zbool => k_is)
    (case zlist => k_is)
    (case ztuple => k_is)
    (case zsum => k_is)
    (case zmax => k_is)
    (case xDIGITS => k_is)
    (case xROW_END => k_is)
    (case xALIVE => k_is)
    (case xDEAD => k_is)
    (case xMARK => k_is)
