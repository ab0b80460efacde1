import PyProof.Rows.All
import Wide.All
import OpenK.AllK
import Wide.FinOn
import HandS.ForMost
import HandS.Strs
import HandS.SetFor
import HandS.OwnEq
import HandS.SlotsOwn
import HandS.IsInst
import HandS.Wide
import HandS.Style
import HandS.Steps
import HandS.Walk
import HandS.TupSets
import HandS.SortRule
import PyProof.Rows.AssignMoreSeq
import HandS.NoneIn
import HandS.Deep
import PyProof.Rows.RegStrFacts
import HandS.DictTup
import HandS.Conv
import HandS.WideBits
import KE.OsArith
import PyProof.Rows.StrIntSpec
import KE.KxField
import HandS.FStr
import PyProof.Rows.RegReprOcc
import HandS.DictComp
import KE.DataMinMax
import KE.DataFind
import HandS.Exc
import HandS.TryOnly
import HandS.ExcOwn
import HandS.WordsExc
import HandS.RaiseMore
import HandS.ExcIs
import HandS.Comp
import KE.GoesEnum
import KE.GoesMore
import HandS.TupLen
import HandS.SortKw
import HandS.Gcd
import KE.KMathGC
import KE.SortData
import HandS.ListItems
import HandS.ReplaceLit
import HandS.ReplaceList
import HandS.Flow
import PySem.Challenge.RW_longlife_k07_strings_that_are_no_run_tex
set_option Elab.async false
set_option linter.all false
set_option maxRecDepth 100000
set_option maxHeartbeats 4000000
namespace Vx
open PySem PySem.Spec PyProof.Rows L2
/-! ### heaps that grow -/
theorem newS {H : Hp} {p : Addr} {o : HO} (n : H p = none) : Same H (upd H p o) := fun b x e => by
  rw [upd_ne (ne_of_none e n)]
  exact e
theorem mutS {H H' : Hp} {p : Addr} {o : HO} (e : Same H H') (n : H p = none) : Same H (upd H' p o) := fun b x hb => by
  rw [upd_ne (ne_of_none hb n)]
  exact e b x hb
theorem getS {H H' : Hp} {a : Addr} {o : HO} (e : Same H H') (h : H a = some o) : H' a = some o := e a o h
theorem tupS {K : PySem.W.Frag} {H H' : Hp} {a : Addr} {xs : List V} (e : Same H H') (h : SqT K H a xs) : SqT K H' a xs := by
  rcases h with (h | ⟨o, h⟩) | h
  · exact .inl (.inl (e _ _ h))
  · exact .inl (.inr ⟨o, e _ _ h⟩)
  · exact .inr h
theorem lst_of {K : PySem.W.Frag} {H : Hp} {a : Addr} {xs : List V} (h : H a = some (.lst xs)) : SqL K H a xs := .inl (.inl h)
theorem tup_of {K : PySem.W.Frag} {H : Hp} {a : Addr} {xs : List V} (h : H a = some (.tup xs)) : SqT K H a xs := .inl (.inl h)
theorem neS {H H' : Hp} {a p : Addr} {o : HO} (h : H a = some o) (e : Same H H') (n : H' p = none) : a ≠ p := ne_of_none (e a o h) n
theorem backS {H H' : Hp} {p : Addr} (e : Same H H') (n : H' p = none) : H p = none := Same.free e n
theorem gen_e {H H1 : Hp} {p : Addr} {o : HO} (q : upd H p o = H1) (n : H p = none) : Same H H1 ∧ H1 p = some o := by
  subst q
  exact ⟨newS n, upd_same⟩
/-! ### calls of built-ins, one way each -/
section
variable {X : Cx}
theorem call_intI : CallR X (.type "int") (fun xs H Q => ∃ i, xs = [.int i] ∧ Q (.int i) H) := fun pins s σ H xs us Q I r h => call_int1 pins s σ H xs us Q I r (.inl h)
theorem call_tupL : CallR X (.type "tuple") (fun xs H Q => ∃ p ys, xs = [.ref p] ∧ SqL X.K H p ys ∧ ∀ l, H l = none → Q (.ref l) (upd H l (.tup ys))) := fun pins s σ H xs us Q I r h => by
  obtain ⟨p, ys, e, hs, q⟩ := h
  exact call_tuple_of pins s σ H xs us Q I r ⟨p, ys, e, .inl ⟨hs, q⟩⟩
theorem call_lenL : CallR X (.builtin "len") (fun xs H Q => ∃ p ys, xs = [.ref p] ∧ SqL X.K H p ys ∧ Q (.int ys.length) H) := fun pins s σ H xs us Q I r h => by
  obtain ⟨p, ys, e, hs, q⟩ := h
  exact call_len_seq pins s σ H xs us Q I r ⟨p, ys, e, .inl hs, q⟩
theorem call_lenU : CallR X (.builtin "len") (fun xs H Q => ∃ p ys, xs = [.ref p] ∧ SqT X.K H p ys ∧ Q (.int ys.length) H) := fun pins s σ H xs us Q I r h => by
  obtain ⟨p, ys, e, hs, q⟩ := h
  exact call_len_seq pins s σ H xs us Q I r ⟨p, ys, e, .inr hs, q⟩
theorem call_listL : CallR X (.type "list") (fun xs H Q => ∃ p ys, xs = [.ref p] ∧ SqL X.K H p ys ∧ ∀ l, H l = none → Q (.ref l) (upd H l (.lst ys))) := fun pins s σ H xs us Q I r h => by
  obtain ⟨p, ys, e, hs, q⟩ := h
  exact call_list_of pins s σ H xs us Q I r ⟨p, ys, e, .inl hs, q⟩
/-- a class of the text is no built-in type -/
theorem op_isCT : OpR X (compareOp .Is) (fun x y H Q => ∃ a n, x = V.ref a ∧ y = V.ty n ∧ Q (.bl false) H) := by
  intro pins s σ H x y v u Q I rx ry h
  obtain ⟨a, n, rfl, rfl, q⟩ := h
  cases (show v = Value.ref a from rx)
  cases (show u = Value.type n from ry)
  exact wpAny_is_other rfl (fun z => by cases z) ⟨.bl false, H, I, rfl, q⟩
theorem looks_ty {M : Model} {s : Shared} {u : Value} {T : String} (h : s.TypeIs u T) : PySem.W.Looks M s.heap (typeOf u) (.type T) := by
  unfold Shared.TypeIs at h
  split at h
  · obtain ⟨o, ho, hc⟩ := h
    exact fun A Q E s' k q => wpAny_typeOf_ref (k _ _ ho) (by rw [hc]; exact q)
  · exact PySem.W.Looks.of_pure h
/-- x == y by the text's own __eq__; y an instance of that class, or of a built-in type -/
def rEqOwn (K : PySem.W.Frag) (C : Addr) (sp : Sp) (E : XK) : R2 := fun x y H Q => ∃ a dx fs, x = .ref a ∧ H a = some (.ins C dx fs) ∧
  ((∃ b dy gs, y = .ref b ∧ H b = some (.ins C dy gs)) ∨ ∃ T, TyB K H y T ∧ PySem.W.notFirst K C (.type T) = true) ∧ sp [x, y] H Q E
theorem op_eqOwn {CX : CXT} {C g : Addr} {n : Nat} {sp : Sp} {E : XK} (hs : PySem.W.findIn X.K (.ref C) "__eq__" = some (some (.ref g))) (hf : PySem.W.isFn X.K (.ref g) = true)
    (F : FnR X.prog X.w X.K X.mg X.base CX n g sp) (hr : Room n X.A) (hx : Passes CX X E) : OpR X (compareOp .Eq) (rEqOwn X.K C sp E) := by
  intro pins s σ H x y v u Q I rx ry h
  obtain ⟨a, dx, fs, rfl, ha, hy, q⟩ := h
  cases (show v = Value.ref a from rx)
  obtain ⟨mA, O, _⟩ := ins_get I.hok ha
  obtain ⟨od, J, _⟩ := O.look
  obtain ⟨m, hF⟩ := I.fr
  show wpAny (model X.prog X.w) X.A (richCompare .Eq (.ref a) u) (EP X pins σ Q) X.xe s
  have fin : wpAny (model X.prog X.w) X.A (call (.ref g) [.ref a, u]) (PySem.W.CmpBack (EP X pins σ Q)) X.xe s := by
    refine wpAny_mono (wpAny_call (run_fnR (us := [.ref a, u]) (vs := [.ref a, y]) F hr hx I (.cons rfl (.cons ry .nil)) q)) (fun w s' z => ?_) fun _ _ x => x
    obtain ⟨z', H', I', rz, qz⟩ := z
    exact SlX.cmpback rz ⟨z', H', I', rz, qz⟩
  rcases hy with ⟨b, dy, gs, rfl, hb⟩ | ⟨T, ty, nf⟩
  · cases (show u = Value.ref b from ry)
    obtain ⟨mB, O2, _⟩ := ins_get I.hok hb
    obtain ⟨od2, J2, _⟩ := O2.look
    exact PySem.W.cmp_K (op := .Eq) (tb := .ref C) hr.units0 hF I.ok.mod.kin J J2.type (by simp [PySem.W.notFirst]) hs hf fin
  · exact PySem.W.cmp_K (op := .Eq) (tb := .type T) hr.units0 hF I.ok.mod.kin J (looks_ty (ty.is I ry)) nf hs hf fin
theorem nf_str {K : PySem.W.Frag} {C : Addr} : PySem.W.notFirst K C (.type "str") = true := by rfl
theorem nf_tup {K : PySem.W.Frag} {C : Addr} : PySem.W.notFirst K C (.type "tuple") = true := by rfl
end
end Vx
namespace Vx
open PySem PySem.Spec PyProof.Rows L2
/-! ### set(xs) of a list of ints -/
abbrev bareSet (w : World) : Obj := { cls := .type "set", dict := none, data := .set #[] 0 (.fresh 0 0 (!w.params.followText "set-order")) }
section
variable {P : Program} {w : World} {A : Around} {E : Value → Shared → Prop} {s : Shared}
theorem set_of_list {l : Addr} {its : Array Value} (ns : List Int) {Q : Value → Shared → Prop} (calm : A.handled = none) (hl : s.heap.IsList l its) (hi : IntsAre its.toList ns) (room : ns.length + 1 < scanBound)
    (k : ∀ (g : Heap) (t c : Nat), SetR w g s.heap.objs.size (fun j => decide (j ∈ ns)) c → c ≤ ns.length → (∀ b o, s.heap.get? b = some o → g.get? b = some o) → Q (.ref s.heap.objs.size) { s with heap := g, toks := t }) :
    wpAny (model P w) A (call (.type "set") [.ref l]) Q E s := by
  have len : its.size = ns.length := by
    have z := IntsAre.length hi
    rwa [Array.length_toList] at z
  obtain ⟨c0, tl, hmro⟩ := F.called_set.mro
  have hmade := F.called_set.made
  have hsub := F.called_set.sub
  refine wpAny_call (codeAny_of_tree ?_)
  show wpAny _ _ (callAny (.type "set") _) _ _ _
  refine wpAny_pure ⟨Code.quiet_builtin _ (by decide +kernel), codeAny_builtin F.entry_type_call ?_⟩
  rw [Around.under_plain (weight_type_call_type "set" [.ref l] []) rfl]
  have n1 := F.called_set.notType
  have n2 := F.called_set.canCreate
  have n3 := F.typeCall_set_1 (.ref l)
  repeat (any_goals (first | assumption | wp_step))
  refine codeAny_mono (code_set_led1 (.ref l) (E := E) (Q₁ := fun ob s1 => ob = .ref s.heap.objs.size ∧ s1 = { s with heap := s.heap.push (bareSet w) }) ⟨rfl, rfl⟩) fun r s1 hr => ?_
  rcases r with e | fl
  · exact hr
  cases fl with
  | ret ob =>
    obtain ⟨rfl, rfl⟩ := hr
    have at0 : (s.heap.push (bareSet w)).get? s.heap.objs.size = some (bareSet w) := Heap.get?_push_size _ rfl
    have ty0 : Shared.TypeIs { s with heap := s.heap.push (bareSet w) } (.ref s.heap.objs.size) "set" := ⟨_, at0, rfl⟩
    have i1 := F.called_set.init.lookup
    have i2 := F.called_set.init.bind (.ref s.heap.objs.size)
    repeat (any_goals (first | assumption | wp_step))
    refine codeAny_mono (codeAny_call_builtin (R := wants (fun v s2 => v = .none ∧ ∃ g t c, s2 = { s with heap := g, toks := t } ∧ SetR w g s.heap.objs.size (fun j => decide (j ∈ ns)) c ∧ c ≤ ns.length ∧
        (∀ b o, s.heap.get? b = some o → g.get? b = some o)) E) F.called_set.init.plain F.entry_set_init (check_set_init_1 ty0 ?_)) fun r2 s2 hr2 => ?_
    · obtain ⟨⟨oc, od, ob, osl⟩, hol, hcl, nl, hdl⟩ := hl
      simp only at hcl hdl
      subst hcl hdl
      have at1 : (s.heap.push (bareSet w)).get? l = some { cls := .type "list", dict := od, data := .seq its nl, slots := osl } := Heap.get?_push_of_some _ hol
      have q1 := F.sub_list_set
      have q2 := F.sub_list_frozenset
      have q3 : (Value.type "list" == Value.type "dict") = false := by decide
      have isl : (s.heap.push (bareSet w)).IsList l its := ⟨_, at1, rfl, nl, rfl⟩
      unfold Builtin.«set.__init__» noKeywords Builtin.Frozenset.updateFrom
      generalize hPI : pyIter = PI
      wp_walk
      subst hPI
      refine wpAny_pyIter_list isl ?_
      refine wpAny_bind (wpAny_runValue ?_)
      have lS : l < s.heap.objs.size := Heap.lt_size hol
      have calm3 : A.in1.in1.in1.handled = none := by simp [calm]
      have neI : l ≠ (s.heap.push (bareSet w)).objs.size := by
        rw [Heap.size_push]
        exact Nat.ne_of_lt (Nat.lt_succ_of_lt lS)
      have noS : s.heap.objs.size ∉ [(s.heap.push (bareSet w)).objs.size, l] := by
        rw [Heap.size_push]
        simp only [List.mem_cons, List.mem_singleton, List.not_mem_nil, or_false, not_or]
        exact ⟨Nat.ne_of_lt (Nat.lt_succ_self _), Nat.ne_of_gt lS⟩
      have item : ∀ (i : Nat) (v : Value), its[i]? = some v → ∃ m t, ns[i]? = some m ∧ v = .int m t := fun i v hv => by
        have li : i < ns.length := by rw [← len]; exact (Array.getElem?_eq_some_iff.mp hv).1
        obtain ⟨t, e⟩ := PyProof.Rows.IntsAre.int_at hi i v (by rw [Array.getElem?_toList]; exact hv)
        refine ⟨ns[i], t, List.getElem?_eq_getElem li, ?_⟩
        rw [e, List.getD_eq_getElem?_getD, List.getElem?_eq_getElem li]
        rfl
      refine set_update_ints ((Walks.list calm3 _ l neI its).toS) s.heap.objs.size noS ns len room item (its.size - 0) 0 _ (by omega) (Nat.zero_le _) ⟨⟨_, Heap.get?_push_size _ rfl, rfl, rfl⟩, (isl.push _)⟩ ?s0 ?fin
      case s0 => exact ⟨0, Nat.le_refl 0, setR_new_at (Heap.get?_push_of_some _ at0)⟩
      case fin =>
        intro s3 c3 mv hc3 hS3
        obtain ⟨g3, ge, dr, t3, os3⟩ := s3
        cases (show ge = s.gens from mv.gens)
        cases (show dr = s.drawn from mv.drawn)
        cases (show os3 = s.os from mv.os)
        show wpAny _ _ _ _ _ _
        refine wpAny_pure ?_
        show wpAny _ _ (ret Value.none) _ _ _
        rw [len] at hc3
        refine wpAny_pure ⟨rfl, g3, t3, c3, rfl, hS3, hc3, fun b o e => ?_⟩
        have b0 : b < s.heap.objs.size := Heap.lt_size e
        have b2 : b ≠ (s.heap.push (bareSet w)).objs.size := by
          rw [Heap.size_push]
          exact Nat.ne_of_lt (Nat.lt_succ_of_lt b0)
        exact mv.heap b o (by simp only [List.mem_cons, List.mem_singleton, List.not_mem_nil, or_false, not_or]; exact ⟨Nat.ne_of_lt b0, b2⟩) (Heap.get?_push_of_some _ (Heap.get?_push_of_some _ e))
    · rcases r2 with e | fl2
      · exact hr2
      cases fl2 with
      | ret v =>
        obtain ⟨rfl, g, t, c, rfl, hS, hc, hk⟩ := hr2
        repeat (any_goals (first | assumption | wp_step))
        exact k _ _ _ hS hc hk
      | _ => exact hr2.elim
  | _ => exact hr.elim
end
section
variable {X : Cx}
theorem cr_setL (hc : X.calm = true) : CallR X (.type "set") (fun vs H Q => ∃ (l : Addr) (ns : List Int), vs = [V.ref l] ∧ SqL X.K H l (ns.map V.int) ∧ ns.length + 1 < scanBound ∧
    ∀ p c, H p = none → c ≤ ns.length → Q (.ref p) (upd H p (SetO X.w p (fun j => decide (j ∈ ns)) c))) := by
  intro pins s σ H xs us Q I r h
  obtain ⟨l, ns, rfl, hl, room, q⟩ := h
  rw [Vals.ref1 r]
  obtain ⟨its, rv, pl, hz⟩ := I.list hl
  refine set_of_list ns (I.ok.hd hc) pl.isList (by simpa using ints_of_vals rv) room fun g t c R hc' k => ?_
  have hn : H s.heap.objs.size = none := I.hok.fresh (Nat.le_refl _)
  exact ⟨.ref _, _, I.laid (a := s.heap.objs.size) (t' := t) k (Nat.le_refl _) (setO_new R), rfl, q _ c hn hc'⟩
end
end Vx
namespace Vx
open PySem PySem.Spec PyProof.Rows L2
/-! ### ascending lists -/
theorem asc_eq : ∀ {l m : List Int}, l.Pairwise (· < ·) → m.Pairwise (· < ·) → (∀ k, k ∈ l ↔ k ∈ m) → l = m
  | [], [], _, _, _ => rfl
  | [], y :: m, _, _, h => absurd ((h y).mpr List.mem_cons_self) (by simp)
  | x :: l, [], _, _, h => absurd ((h x).mp List.mem_cons_self) (by simp)
  | x :: l, y :: m, hl, hm, h => by
    obtain ⟨h1, h2⟩ := List.pairwise_cons.mp hl
    obtain ⟨h3, h4⟩ := List.pairwise_cons.mp hm
    have e : x = y := by
      rcases List.mem_cons.mp ((h x).mp List.mem_cons_self) with e | e
      · exact e
      · rcases List.mem_cons.mp ((h y).mpr List.mem_cons_self) with e2 | e2
        · exact e2.symm
        · have a := h3 _ e
          have b := h1 _ e2
          omega
    subst e
    rw [asc_eq h2 h4 fun k => ?_]
    have q := h k
    constructor
    · intro hk
      rcases List.mem_cons.mp (q.mp (List.mem_cons_of_mem _ hk)) with e | e
      · exact absurd (h1 _ hk) (by omega)
      · exact e
    · intro hk
      rcases List.mem_cons.mp (q.mpr (List.mem_cons_of_mem _ hk)) with e | e
      · exact absurd (h3 _ hk) (by omega)
      · exact e
/-! ### data -/
theorem eqvAll_ints : ∀ (l m : List Int), PyData.eqvAll (l.map PyData.int) (m.map PyData.int) = decide (l = m)
  | [], [] => by simp [PyData.eqvAll]
  | [], y :: m => by simp [PyData.eqvAll]
  | x :: l, [] => by simp [PyData.eqvAll]
  | x :: l, y :: m => by
    show (PyData.eqv (.int x) (.int y) && PyData.eqvAll (l.map PyData.int) (m.map PyData.int)) = _
    rw [eqvAll_ints l m]
    show ((x == y) && decide (l = m)) = _
    by_cases e : x = y <;> by_cases e2 : l = m <;> simp [e, e2]
theorem eqv_tupI (l m : List Int) : PyData.eqv (.tuple (l.map PyData.int)) (.tuple (m.map PyData.int)) = decide (l = m) := eqvAll_ints l m
theorem eqv_lstI (l m : List Int) : PyData.eqv (.list (l.map PyData.int)) (.list (m.map PyData.int)) = decide (l = m) := eqvAll_ints l m
theorem dpAll_ints {K : PySem.W.Frag} {H : Hp} : ∀ l : List Int, DpAll K H (l.map V.int) (l.map PyData.int)
  | [] => .nil
  | x :: l => .cons (.int x) (dpAll_ints l)
theorem dp_tupI {K : PySem.W.Frag} {H : Hp} {a : Addr} {l : List Int} (h : SqT K H a (l.map V.int)) : Dp K H (.ref a) (.tuple (l.map PyData.int)) := .tup h (dpAll_ints l)
theorem dp_lstI {K : PySem.W.Frag} {H : Hp} {a : Addr} {l : List Int} (h : SqL K H a (l.map V.int)) : Dp K H (.ref a) (.list (l.map PyData.int)) := .lst h (dpAll_ints l)
theorem inV_ints (x : Int) : ∀ l : List Int, inV (.int x) (l.map V.int) = decide (x ∈ l)
  | [] => by simp [inV]
  | y :: l => by
    have ih := inV_ints x l
    unfold inV at ih ⊢
    rw [List.map_cons, List.any_cons, ih]
    show ((y == x) || decide (x ∈ l)) = _
    by_cases e : y = x
    · simp [e]
    · have e' : ¬ x = y := fun z => e z.symm
      simp [e, e']
theorem flat_ints (l : List Int) : (l.map V.int).all flatV = true := by
  rw [List.all_map]
  exact List.all_eq_true.mpr fun _ _ => rfl
end Vx
namespace Vx
open PySem PySem.Spec PyProof.Rows L2
theorem canAll_ints : ∀ l : List Int, PyData.canLayAll0 (l.map PyData.int) = true
  | [] => by simp [PyData.canLayAll0]
  | x :: l => by
    rw [List.map_cons]
    simp [PyData.canLayAll0, PyData.canLay0, canAll_ints l]
theorem depAll_ints : ∀ l : List Int, PyData.depthAll (l.map PyData.int) = 0
  | [] => by simp [PyData.depthAll]
  | x :: l => by
    rw [List.map_cons]
    simp [PyData.depthAll, PyData.depth, depAll_ints l]
theorem shaped_tupI (l : List Int) : SeqAt.shaped (.tuple (l.map PyData.int)) = true := by
  unfold SeqAt.shaped
  simp [PyData.canLay0, PyData.depth, canAll_ints, depAll_ints]
theorem shaped_lstI (l : List Int) : SeqAt.shaped (.list (l.map PyData.int)) = true := by
  unfold SeqAt.shaped
  simp [PyData.canLay0, PyData.depth, canAll_ints, depAll_ints]
theorem tyesT {σ : L2.St} {H : Hp} {A B : Hp → Prop} (h : A H) : tYes σ H (fun b H3 => if b = true then A H3 else B H3) := h
theorem item_ints {xs : List Int} {i : Nat} {x : V} (h : (xs.map V.int)[i]? = some x) : ∃ z, x = .int z ∧ xs[i]? = some z ∧ z ∈ xs := by
  rw [List.getElem?_map] at h
  cases e : xs[i]? with
  | none => rw [e] at h; cases h
  | some z =>
    rw [e] at h
    exact ⟨z, (Option.some.inj h).symm, rfl, List.mem_of_getElem? e⟩
theorem at_ints {xs : List Int} {k : Int} (h0 : 0 ≤ k) (h1 : k < (xs.length : Int)) : ∃ z, z ∈ xs ∧ atI (xs.map V.int) k = some (.int z) := by
  have hj : k.toNat < xs.length := by omega
  refine ⟨xs[k.toNat], List.getElem_mem hj, ?_⟩
  refine at_of (j := k.toNat) (by omega) ?_
  rw [List.getElem?_map, List.getElem?_eq_getElem hj]
  rfl
theorem mem_ins {ys : List Int} {j : Nat} {y k : Int} (hy : y ∈ ys) : k ∈ ys.take j ++ [y] ++ ys.drop j ↔ k ∈ ys := by
  have e : k ∈ ys ↔ k ∈ ys.take j ∨ k ∈ ys.drop j := by rw [← List.mem_append, List.take_append_drop]
  rw [List.mem_append, List.mem_append, List.mem_singleton, e]
  constructor
  · rintro ((h | h) | h)
    · exact .inl h
    · subst h
      exact e.mp hy
    · exact .inr h
  · rintro (h | h)
    · exact .inl (.inl h)
    · exact .inr h
theorem madeS {C : Addr} {H : Hp} {x dx : Addr} (nx : H x = none) (nd : H dx = none) : Same H (upd (upd H dx (.own x)) x (.ins C dx [])) := fun b o e => by
  rw [upd_ne (ne_of_none e nx), upd_ne (ne_of_none e nd)]
  exact e
theorem pe_gcx {X : Cx} {x : Str} {pos : Pos} {v : V} (hg : Gl X x) (h : ∃ u, X.mg x = some u ∧ RelV v u) (hd : (x == ("__debug__" : Str)) = false := by decide +kernel) : PE X (.Name x pos) (tC v) := by
  obtain ⟨u, h, r⟩ := h
  exact pe_glob hg h r hd
theorem call_intB {X : Cx} : CallR X (.type "int") (fun xs H Q => ∃ k, xs = [.bl k] ∧ Q (.int (if k = true then 1 else 0)) H) := fun pins s σ H xs us Q I r h => call_int1 pins s σ H xs us Q I r (.inr h)
theorem cut_lo_len (z : Str) {k : Int} (h : 0 ≤ k) : (cutS z none (some k)).length ≤ k.toNat := by
  show (List.toArray _).size ≤ _
  rw [List.size_toArray, List.length_take]
  show min (HT.sIx z.length z.length (some k) - 0) _ ≤ _
  have e : HT.sIx z.length z.length (some k) = min k.toNat z.length := by
    show (if k < 0 then (k + (z.length : Int)).toNat else min k.toNat z.length) = _
    rw [if_neg (by omega)]
  omega
theorem cut_hi_len (z : Str) {k : Int} (h : 0 ≤ k) : (cutS z (some k) none).length ≤ z.length - k.toNat := by
  show (List.toArray _).size ≤ _
  have e : HT.sIx z.length 0 (some k) = min k.toNat z.length := by
    show (if k < 0 then (k + (z.length : Int)).toNat else min k.toNat z.length) = _
    rw [if_neg (by omega)]
  rw [List.size_toArray, List.length_take, List.length_drop, e]
  show min (z.length - min k.toNat z.length) (z.cps.toList.length - min k.toNat z.length) ≤ _
  have : z.cps.toList.length = z.length := Array.length_toList
  omega
end Vx
namespace Vx
open PySem PySem.Spec PyProof.Rows L2
/-! ### pairs and lists of them -/
abbrev Pr := Int × Int
def pr (l : List Int) : Pr := (l.getD 0 0, l.getD 1 0)
def Cells (H : Hp) (l : Addr) (ps : List Pr) : Prop :=
  ∃ ts : List (Addr × Pr), H l = some (.lst (ts.map fun t => V.ref t.1)) ∧ (∀ t ∈ ts, H t.1 = some (.tup [.int t.2.1, .int t.2.2])) ∧ ts.map (·.2) = ps
theorem Cells.up {H H' : Hp} {l : Addr} {ps : List Pr} (e : Same H H') (h : Cells H l ps) : Cells H' l ps := by
  obtain ⟨ts, h1, h2, h3⟩ := h
  exact ⟨ts, e _ _ h1, fun t m => e _ _ (h2 t m), h3⟩
def SetP (P : Program) (w : World) (H : Hp) (a : Addr) (ps : List Pr) : Prop :=
  ∃ L : List (Addr × List Int), H a = some (SetTO P w a L) ∧ (∀ q ∈ L, q.2.length = 2 ∧ H q.1 = some (.tup (q.2.map V.int))) ∧ ∀ x, x ∈ L.map (fun q => pr q.2) ↔ x ∈ ps
abbrev ltP (p q : Pr) : Prop := SrtO.lexB p q = true
theorem pr_inj : ∀ {l m : List Int}, l.length = 2 → m.length = 2 → pr l = pr m → l = m
  | [a, b], [c, d], _, _, h => by
    have h1 : a = c := congrArg Prod.fst h
    have h2 : b = d := congrArg Prod.snd h
    rw [h1, h2]
theorem len2 : ∀ {l : List Int}, l.length = 2 → l = [(pr l).1, (pr l).2]
  | [a, b], _ => rfl
section
variable {P : Program} {w : World} {A : Around} {E : Value → Shared → Prop} {s : Shared}
def adr : Value → Addr
  | .ref a => a
  | _ => 0
/-- the set's members, sorted -/
theorem sorted_pairs {a : Addr} {L : List (Addr × List Int)} {es : Array (Int × Value)} {ep : Nat} {t : SetTable} {Q : Value → Shared → Prop} (R : SetTR P w s.heap a L es ep t) (hh : A.handled = none) (h2 : ∀ q ∈ L, q.2.length = 2)
    (hQ : ∀ s' p (ts : List (Addr × Pr)) (c : Nat), (∀ b o, s.heap.get? b = some o → s'.heap.get? b = some o) → s'.gens = s.gens → s'.os = s.os → s.heap.objs.size ≤ p →
      s'.heap.get? p = some (seqObj "list" (ts.map fun q => Value.ref q.1).toArray c) → (∀ q ∈ ts, ∃ r ∈ L, r.1 = q.1 ∧ pr r.2 = q.2) → (∀ x, x ∈ ts.map (·.2) ↔ x ∈ L.map fun q => pr q.2) → (ts.map (·.2)).Pairwise ltP → ts.length = L.length → Q (.ref p) s') :
    wpAny (model P w) A (call (.builtin "sorted") [.ref a]) Q E s := by
  have few := R.few
  obtain ⟨o, go, xo, dat⟩ := R.ob
  refine Calls.call_function_entry kind_sorted plain_sorted entry_sorted (args_sorted1 _) ?_
  unfold Builtin.«sorted»
  refine wpAny_bind (m := checkCount "sorted" 1 1 _) (wpAny_pure ?_)
  refine wpAny_bind (collect_set (A := A.in1) hh ⟨o, go, xo.1, dat⟩ R.fits (by rw [R.size]; unfold scanBound; omega) R.tab.ris R.led fun s1 vs keep sz gg oo pm => ?_)
  have em : es.toList.map (·.2) = L.map fun q => Value.ref q.1 := by
    rw [R.rows]
    show (L.map fun q => (thash P w q.2, Value.ref q.1)).map (·.2) = _
    rw [List.map_map] <;> rfl
  rw [em] at pm
  have vl : vs.length = L.length := by rw [pm.length_eq, List.length_map]
  have lim : vs.length ≤ sizeLine := by
    rw [sizeLine_eq]
    omega
  refine wpAny_bind (wpAny_newList ?_ lim)
  have gl : (s1.heap.push (seqObj "list" vs.toArray 0)).get? s1.heap.objs.size = some (seqObj "list" vs.toArray 0) := Heap.get?_push_size _ rfl
  generalize hh1 : s1.heap.push (seqObj "list" vs.toArray 0) = h1 at gl
  have keep1 : ∀ b u, s1.heap.get? b = some u → h1.get? b = some u := fun b u e => by
    rw [← hh1]
    exact Heap.get?_push_of_some _ e
  have tin : ∀ q ∈ L, TS.TupInts h1 (.ref q.1) q.2 := fun q m => tupInts_of (P := P) (w := w) (isT_keep (R.tup q m) fun b u e => keep1 b u (keep b u e))
  have mem : ∀ v ∈ vs, ∃ q ∈ L, v = Value.ref q.1 := fun v m => by
    obtain ⟨q, m1, e⟩ := List.mem_map.mp (pm.mem_iff.mp m)
    exact ⟨q, m1, e.symm⟩
  have key : ∀ q ∈ L, pr (TS.intsOf h1 (.ref q.1)) = pr q.2 := fun q m => by rw [(tin q m).ints]
  have isP : ∀ v ∈ vs, Srt.IsPair h1 v (pr (TS.intsOf h1 v)).1 (pr (TS.intsOf h1 v)).2 := fun v m => by
    obtain ⟨q, m1, rfl⟩ := mem v m
    rw [key q m1]
    have i := tin q m1
    have l2 := len2 (h2 q m1)
    rw [l2] at i
    obtain ⟨b, items, eb, ⟨o1, go1, co1, n1, do1⟩, ia⟩ := i
    cases eb
    obtain ⟨xs⟩ := items
    cases ia with
    | cons _ t1 ia =>
      cases ia with
      | cons _ t2 ia =>
        cases ia
        exact ⟨_, o1, t1, t2, n1, rfl, go1, co1, do1⟩
  refine wpAny_bind (wpAny_holding (wpAny_call_entry (s := { s1 with heap := h1 }) slot_list_sort ⟨_, gl, rfl⟩ entry_list_sort (SrtO.list_sort_ord (s := { s1 with heap := h1 }) (SrtO.swo_lex fun v => pr (TS.intsOf h1 v)) gl lim (fun two => SrtO.pairs_sortableO (by omega) isP fun o1 e => ?_) fun out srt stb => ⟨_, rfl, ?_⟩) (args_list_sort _)))
  · have e' : some o1 = some (seqObj "list" vs.toArray 0) := e.symm.trans gl
    cases e'
    intro c
    exact absurd (Value.type.inj c) (by decide)
  · obtain ⟨c, gc⟩ := sortedHeap_at (vs := vs) (out := out.toArray) gl
    have omem : ∀ v ∈ out, ∃ q ∈ L, v = Value.ref q.1 := fun v m => mem v (stb.perm.mem_iff.mp m)
    refine wpAny_pure ⟨_, rfl, hQ _ s1.heap.objs.size (out.map fun v => (adr v, pr (TS.intsOf h1 v))) c (fun b u e => ?_) gg oo sz ?_ ?_ ?_ ?_ ?_⟩
    · have g1 := keep b u e
      have lt1 := Heap.lt_size g1
      show (sortedHeap h1 s1.heap.objs.size vs out.toArray).get? b = some u
      rw [sortedHeap_old (Nat.ne_of_lt lt1) (Heap.lt_size (keep1 b u g1))]
      exact keep1 b u g1
    · have eo : (out.map fun v => (adr v, pr (TS.intsOf h1 v))).map (fun q => Value.ref q.1) = out := by
        rw [List.map_map]
        refine (List.map_congr_left fun v m => ?_).trans (List.map_id _)
        obtain ⟨q, _, rfl⟩ := omem v m
        rfl
      rw [eo]
      exact gc
    · intro q m
      obtain ⟨v, m1, rfl⟩ := List.mem_map.mp m
      obtain ⟨r, mr, rfl⟩ := omem v m1
      exact ⟨r, mr, rfl, (key r mr).symm⟩
    · intro x
      rw [List.map_map]
      constructor
      · intro m
        obtain ⟨v, m1, rfl⟩ := List.mem_map.mp m
        obtain ⟨r, mr, rfl⟩ := omem v m1
        exact List.mem_map.mpr ⟨r, mr, (key r mr).symm⟩
      · intro m
        obtain ⟨r, mr, rfl⟩ := List.mem_map.mp m
        exact List.mem_map.mpr ⟨.ref r.1, stb.perm.mem_iff.mpr (pm.mem_iff.mpr (List.mem_map.mpr ⟨r, mr, rfl⟩)), key r mr⟩
    · rw [List.map_map]
      have nd : ((L.map fun q => Value.ref q.1).map fun v => pr (TS.intsOf h1 v)).Nodup := by
        rw [List.map_map]
        refine List.pairwise_map.mpr ((List.pairwise_map.mp R.nd).imp_of_mem fun {q r} mq mr ne e => ne ?_)
        refine pr_inj (h2 q mq) (h2 r mr) ?_
        rw [← key q mq, ← key r mr]
        exact e
      have nd2 : (out.map fun v => pr (TS.intsOf h1 v)).Nodup := ((stb.perm.trans pm).map _).nodup_iff.mpr nd
      refine List.pairwise_map.mpr ((srt.and (List.pairwise_map.mp nd2)).imp fun {u v} h => ?_)
      have a1 := SrtO.lexB_no.mp h.1
      refine SrtO.lexB_iff.mpr ?_
      have a2 : ¬ ((pr (TS.intsOf h1 u)).1 = (pr (TS.intsOf h1 v)).1 ∧ (pr (TS.intsOf h1 u)).2 = (pr (TS.intsOf h1 v)).2) := fun e => h.2 (Prod.ext e.1 e.2)
      show (pr (TS.intsOf h1 u)).1 < (pr (TS.intsOf h1 v)).1 ∨ (pr (TS.intsOf h1 u)).1 = (pr (TS.intsOf h1 v)).1 ∧ (pr (TS.intsOf h1 u)).2 < (pr (TS.intsOf h1 v)).2
      omega
    · rw [List.length_map, stb.perm.length_eq, vl]
end
section
variable {X : Cx}
theorem cr_setP (hc : X.calm = true) (hu : X.A.units + 64 < cLine) : CallR X (.type "set") (fun xs H Q => ∃ l ps, xs = [V.ref l] ∧ Cells H l ps ∧ ps.length < 64 ∧
    ∀ a H', Same H H' → H a = none → SetP X.prog X.w H' a ps → Q (.ref a) H') := by
  intro pins s σ H xs us Q I r h
  obtain ⟨l, ps, rfl, ⟨ts, hl, ht, rfl⟩, few, q⟩ := h
  rw [List.length_map] at few
  refine cr_setOfT hc hu pins s σ H [V.ref l] us Q I r ⟨l, ts.map fun t => (t.1, [t.2.1, t.2.2]), rfl, ?_, ?_, by rw [List.length_map]; exact few, fun a L n sub all => ?_⟩
  · rw [List.map_map]
    exact lst_of hl
  · intro p m
    obtain ⟨t, m1, rfl⟩ := List.mem_map.mp m
    exact tup_of (ht t m1)
  · refine q a _ (newS n) n ⟨L, upd_same, fun p m => ?_, fun x => ⟨fun m => ?_, fun m => ?_⟩⟩
    · obtain ⟨t, m1, rfl⟩ := List.mem_map.mp (sub p m)
      exact ⟨rfl, newS n _ _ (ht t m1)⟩
    · obtain ⟨p, m1, rfl⟩ := List.mem_map.mp m
      obtain ⟨t, m2, rfl⟩ := List.mem_map.mp (sub p m1)
      exact List.mem_map.mpr ⟨t, m2, rfl⟩
    · obtain ⟨t, m1, rfl⟩ := List.mem_map.mp m
      obtain ⟨p, m2, e⟩ := List.mem_map.mp (all _ (List.mem_map.mpr ⟨t, m1, rfl⟩))
      refine List.mem_map.mpr ⟨p, m2, ?_⟩
      rw [e]
      rfl
theorem cr_sortedP (hc : X.calm = true) : CallR X (.builtin "sorted") (fun xs H Q => ∃ a ps, xs = [V.ref a] ∧ SetP X.prog X.w H a ps ∧
    ∀ p H' qs, Same H H' → H p = none → Cells H' p qs → qs.Pairwise ltP → (∀ x, x ∈ qs ↔ x ∈ ps) → qs.length < 64 → Q (.ref p) H') := by
  intro pins s σ H vs us Q I r h
  obtain ⟨a, ps, rfl, ⟨L, ha, hL, mem⟩, q⟩ := h
  have R0 : SetT0 X.prog X.w s.heap a L := (I.hok a _ ha).1
  obtain ⟨es, ep, t, R⟩ := R0.full fun p hp => I.isT (tup_of (hL p hp).2)
  rw [Vals.ref1 r]
  refine sorted_pairs R (I.ok.hd hc) (fun q m => (hL q m).1) fun s' p ts c k g o hp hg own all pw le => ?_
  have few := R.few
  have lim : (ts.map fun q => V.ref q.1).length ≤ sizeLine := by
    rw [List.length_map, sizeLine_eq]
    omega
  have n : H p = none := I.hok.fresh hp
  have vals : ∀ ts : List (Addr × Pr), Vals (ts.map fun q => V.ref q.1) (ts.map fun q => Value.ref q.1) := fun ts => by
    induction ts with
    | nil => exact .nil
    | cons t ts ih => exact .cons rfl ih
  have J : Inv X pins σ (upd H p (.lst (ts.map fun q => V.ref q.1))) { s with heap := s'.heap, gens := s'.gens, drawn := s'.drawn, toks := s'.toks } :=
    I.call (ch := []) (Un.laid k hp n) (I.hok.laid k hp ⟨lim, _, c, vals ts, hg⟩) (by rw [g]; exact I.bare) (fun _ z => nomatch z)
  have e : s' = { s with heap := s'.heap, gens := s'.gens, drawn := s'.drawn, toks := s'.toks } := by
    obtain ⟨_, _, _, _, _⟩ := s'
    obtain ⟨_, _, _, _, _⟩ := s
    cases o
    rfl
  rw [e]
  have sm : Same H (upd H p (.lst (ts.map fun q => V.ref q.1))) := newS n
  refine ⟨.ref p, _, J, rfl, q p _ (ts.map (·.2)) sm n ⟨ts, upd_same, fun t m => ?_, rfl⟩ pw (fun x => (all x).trans (mem x)) (by rw [List.length_map, le]; exact few)⟩
  obtain ⟨r, mr, e1, e2⟩ := own t m
  have z := sm _ _ (hL r mr).2
  rw [len2 (hL r mr).1, e1, e2] at z
  exact z
end
section
variable {X : Cx}
theorem pg_tupK {K : PySem.W.Frag} {es : List Expr} {k : Nat} {t : TGs} {n : Nat} {pos : Pos} (hK : X.K = K) (hc : X.calm = true) (h : PGs X es t)
    (hn : (assignEach es X.env).length = n := by rfl) (hst : (assignEach es X.env).findIdx? (·.1) = none := by rfl) : PG X (.Tuple es k pos) (gTup K n t) := by
  subst hK
  exact pg_tup hc h hn hst
theorem ix_tupK {K : PySem.W.Frag} (hK : X.K = K) : IxR X (rIxT K) := by
  subst hK
  exact ix_tup
end
/-! ### comprehensions over such a list -/
theorem item_cells {H : Hp} {ts : List (Addr × Pr)} {ps : List Pr} {i : Nat} {x : V} (h : (ts.map fun t => V.ref t.1)[i]? = some x) (e : ts.map (·.2) = ps) :
    ∃ t ∈ ts, x = .ref t.1 ∧ ps[i]? = some t.2 := by
  rw [List.getElem?_map] at h
  cases q : ts[i]? with
  | none => rw [q] at h; cases h
  | some t =>
    rw [q] at h
    refine ⟨t, List.mem_of_getElem? q, (Option.some.inj h).symm, ?_⟩
    rw [← e, List.getElem?_map, q]
    rfl
theorem lc_cells {K : PySem.W.Frag} {l : Addr} {ps : List Pr} {g : TG} {tt : TT} {te : TE} {vs : List Nat} {σ : L2.St} {H1 : Hp} {D : Addr} {Qd : Hp → Prop} (f : Pr → Pr) (hC : Cells H1 l ps) (nD : H1 D = none) (few : ps.length < sizeLine)
    (hs : ∀ (t : Addr) (x : Pr) (H' : Hp) (Po : V → Hp → Prop) (Pn : Hp → Prop), Same H1 H' → H' t = some (.tup [.int x.1, .int x.2]) → (∀ t2, H' t2 = none → Po (.ref t2) (upd H' t2 (.tup [.int (f x).1, .int (f x).2]))) →
      g (.ref t) (wipe σ vs) H' fun σ2 H2 => wipe σ2 vs = wipe σ vs ∧ tt σ2 H2 fun b H3 => if b = true then te σ2 H3 Po else Pn H3)
    (hd : ∀ H', Same H1 H' → Cells H' D (ps.map f) → Qd H') :
    ∃ W : Nat → Nat → Hp → Prop, (∃ m, W 0 m (upd H1 D (.lst []))) ∧ ∀ i m H, W i m H →
      ((Itl K l).stop i H ∧ Qd H) ∨ ((Itl K l).go i H ∧ ∃ Nx : Hp → Prop, (∀ H', Nx H' → ∃ m', m' < m ∧ W (i + 1) m' H') ∧ ∀ x H', (Itl K l).yld i H x H' → g x (wipe σ vs) H' fun σ2 H2 => wipe σ2 vs = wipe σ vs ∧ tt σ2 H2 fun b H3 =>
        if b = true then te σ2 H3 fun y H4 => ∃ acc, H4 D = some (.lst acc) ∧ acc.length < sizeLine ∧ Nx (upd H4 D (.lst (acc ++ [y]))) else Nx H3) := by
  obtain ⟨ts, hl, ht, rfl⟩ := hC
  rw [List.length_map] at few
  refine lc_list (K := K) (a := l) (xs := ts.map fun t => V.ref t.1) (fun i H' => Same H1 H' ∧ ∃ us : List (Addr × Pr), H' D = some (.lst (us.map fun t => V.ref t.1)) ∧ (∀ t ∈ us, H' t.1 = some (.tup [.int t.2.1, .int t.2.2])) ∧ us.map (·.2) = ((ts.map (·.2)).take i).map f)
    ⟨newS nD, [], upd_same, fun _ m => (by cases m), rfl⟩ (fun i H' _ p => lst_of (p.1 _ _ hl)) ?_ ?_
  · rintro i x H' hi ⟨sm, us, h1, h2, h3⟩
    obtain ⟨t, mt, rfl, hp⟩ := item_cells (H := H') hi rfl
    have ul : us.length = i := by
      have z := congrArg List.length h3
      rw [List.length_map, List.length_map, List.length_take, List.length_map] at z
      have := (List.getElem?_eq_some_iff.mp hi).1
      rw [List.length_map] at this
      omega
    refine hs t.1 t.2 H' _ _ sm (sm _ _ (ht t mt)) fun t2 n2 => ⟨us.map fun t => V.ref t.1, ?_, ?_, ?_, us ++ [(t2, f t.2)], ?_, ?_, ?_⟩
    · exact newS n2 _ _ h1
    · rw [List.length_map, ul]
      have := (List.getElem?_eq_some_iff.mp hi).1
      rw [List.length_map] at this
      omega
    · exact mutS (sm.trans (newS n2)) nD
    · rw [upd_same, List.map_append]
      rfl
    · have nD2 : t2 ≠ D := fun e => by
        rw [e, h1] at n2
        cases n2
      intro u m
      rcases List.mem_append.mp m with m | m
      · have z := h2 u m
        rw [upd_ne (fun e => ?_)]
        · exact newS n2 _ _ z
        · rw [e, h1] at z
          cases z
      · rw [List.mem_singleton.mp m, upd_ne nD2, upd_same]
    · rw [List.map_append, h3, take_next hp, List.map_append]
      rfl
  · rintro H' ⟨sm, us, h1, h2, h3⟩
    refine hd H' sm ⟨us, h1, h2, ?_⟩
    rw [h3, List.length_map, List.take_of_length_le (by rw [List.length_map]; exact Nat.le_refl _)]
theorem lc_nums {K : PySem.W.Frag} {l : Addr} {ps : List Pr} {g : TG} {tt : TT} {te : TE} {vs : List Nat} {σ : L2.St} {H1 : Hp} {D : Addr} {Qd : Hp → Prop} (f : Pr → Int) (hC : Cells H1 l ps) (nD : H1 D = none) (few : ps.length < sizeLine)
    (hs : ∀ (t : Addr) (x : Pr) (H' : Hp) (Po : V → Hp → Prop) (Pn : Hp → Prop), Same H1 H' → H' t = some (.tup [.int x.1, .int x.2]) → Po (.int (f x)) H' →
      g (.ref t) (wipe σ vs) H' fun σ2 H2 => wipe σ2 vs = wipe σ vs ∧ tt σ2 H2 fun b H3 => if b = true then te σ2 H3 Po else Pn H3)
    (hd : ∀ H', Same H1 H' → H' D = some (.lst ((ps.map f).map V.int)) → Qd H') :
    ∃ W : Nat → Nat → Hp → Prop, (∃ m, W 0 m (upd H1 D (.lst []))) ∧ ∀ i m H, W i m H →
      ((Itl K l).stop i H ∧ Qd H) ∨ ((Itl K l).go i H ∧ ∃ Nx : Hp → Prop, (∀ H', Nx H' → ∃ m', m' < m ∧ W (i + 1) m' H') ∧ ∀ x H', (Itl K l).yld i H x H' → g x (wipe σ vs) H' fun σ2 H2 => wipe σ2 vs = wipe σ vs ∧ tt σ2 H2 fun b H3 =>
        if b = true then te σ2 H3 fun y H4 => ∃ acc, H4 D = some (.lst acc) ∧ acc.length < sizeLine ∧ Nx (upd H4 D (.lst (acc ++ [y]))) else Nx H3) := by
  obtain ⟨ts, hl, ht, rfl⟩ := hC
  rw [List.length_map] at few
  refine lc_list (K := K) (a := l) (xs := ts.map fun t => V.ref t.1) (fun i H' => Same H1 H' ∧ H' D = some (.lst ((((ts.map (·.2)).take i).map f).map V.int)))
    ⟨newS nD, upd_same⟩ (fun i H' _ p => lst_of (p.1 _ _ hl)) ?_ ?_
  · rintro i x H' hi ⟨sm, h1⟩
    obtain ⟨t, mt, rfl, hp⟩ := item_cells (H := H') hi rfl
    refine hs t.1 t.2 H' _ _ sm (sm _ _ (ht t mt)) ⟨_, h1, ?_, mutS sm nD, ?_⟩
    · rw [List.length_map, List.length_map, List.length_take, List.length_map]
      omega
    · rw [upd_same, take_next hp, List.map_append, List.map_append]
      rfl
  · rintro H' ⟨sm, h1⟩
    rw [List.length_map, List.take_of_length_le (by rw [List.length_map]; exact Nat.le_refl _)] at h1
    exact hd H' sm h1
/-! ### one such list -/
def CanP (ps qs : List Pr) : Prop := qs.Pairwise ltP ∧ ∀ x, x ∈ qs ↔ x ∈ ps
theorem ltP_iff {p q : Pr} : ltP p q ↔ p.1 < q.1 ∨ (p.1 = q.1 ∧ p.2 < q.2) := SrtO.lexB_iff
theorem ascP_eq : ∀ {l m : List Pr}, l.Pairwise ltP → m.Pairwise ltP → (∀ k, k ∈ l ↔ k ∈ m) → l = m
  | [], [], _, _, _ => rfl
  | [], y :: m, _, _, h => absurd ((h y).mpr List.mem_cons_self) (by simp)
  | x :: l, [], _, _, h => absurd ((h x).mp List.mem_cons_self) (by simp)
  | x :: l, y :: m, hl, hm, h => by
    obtain ⟨h1, h2⟩ := List.pairwise_cons.mp hl
    obtain ⟨h3, h4⟩ := List.pairwise_cons.mp hm
    have irr : ∀ a b : Pr, ltP a b → ltP b a → False := fun a b p q => by
      have p := ltP_iff.mp p
      have q := ltP_iff.mp q
      omega
    have e : x = y := by
      rcases List.mem_cons.mp ((h x).mp List.mem_cons_self) with e | e
      · exact e
      · rcases List.mem_cons.mp ((h y).mpr List.mem_cons_self) with e2 | e2
        · exact e2.symm
        · exact (irr _ _ (h3 _ e) (h1 _ e2)).elim
    subst e
    rw [ascP_eq h2 h4 fun k => ?_]
    have q := h k
    constructor
    · intro hk
      rcases List.mem_cons.mp (q.mp (List.mem_cons_of_mem _ hk)) with e | e
      · have z := h1 _ hk
        rw [e] at z
        exact (irr _ _ z z).elim
      · exact e
    · intro hk
      rcases List.mem_cons.mp (q.mpr (List.mem_cons_of_mem _ hk)) with e | e
      · have z := h3 _ hk
        rw [e] at z
        exact (irr _ _ z z).elim
      · exact e
theorem canP_eq {ps qs m : List Pr} (h : CanP ps qs) (h2 : m.Pairwise ltP) (h3 : ∀ k, k ∈ ps ↔ k ∈ m) : qs = m := ascP_eq h.1 h2 fun k => (h.2 k).trans (h3 k)
/-! ### as data -/
def pd (p : Pr) : PyData := .tuple [.int p.1, .int p.2]
theorem eqv_pd (p q : Pr) : PyData.eqv (pd p) (pd q) = decide (p = q) := by
  show ((p.1 == q.1) && ((p.2 == q.2) && true)) = _
  obtain ⟨a, b⟩ := p
  obtain ⟨c, d⟩ := q
  by_cases e1 : a = c <;> by_cases e2 : b = d <;> simp [e1, e2]
theorem eqvAll_pd : ∀ (l m : List Pr), PyData.eqvAll (l.map pd) (m.map pd) = decide (l = m)
  | [], [] => by simp [PyData.eqvAll]
  | [], y :: m => by simp [PyData.eqvAll]
  | x :: l, [] => by simp [PyData.eqvAll]
  | x :: l, y :: m => by
    show (PyData.eqv (pd x) (pd y) && PyData.eqvAll (l.map pd) (m.map pd)) = _
    rw [eqvAll_pd l m, eqv_pd]
    by_cases e : x = y <;> by_cases e2 : l = m <;> simp [e, e2]
theorem eqv_cells (l m : List Pr) : PyData.eqv (.list (l.map pd)) (.list (m.map pd)) = decide (l = m) := eqvAll_pd l m
theorem canAll_pd : ∀ l : List Pr, PyData.canLayAll0 (l.map pd) = true
  | [] => by simp [PyData.canLayAll0]
  | x :: l => by
    rw [List.map_cons]
    simp [PyData.canLayAll0, PyData.canLay0, pd, canAll_pd l]
theorem depAll_pd : ∀ l : List Pr, PyData.depthAll (l.map pd) ≤ 1
  | [] => by simp [PyData.depthAll]
  | x :: l => by
    rw [List.map_cons]
    have := depAll_pd l
    simp only [PyData.depthAll, PyData.depth, pd]
    omega
theorem shaped_cells (l : List Pr) : SeqAt.shaped (.list (l.map pd)) = true := by
  unfold SeqAt.shaped
  have := depAll_pd l
  simp only [PyData.canLay0, PyData.depth, canAll_pd]
  simp
  omega
theorem dp_cells {K : PySem.W.Frag} {H : Hp} {a : Addr} {ps : List Pr} (h : Cells H a ps) : Dp K H (.ref a) (.list (ps.map pd)) := by
  obtain ⟨ts, hl, ht, rfl⟩ := h
  refine .lst (lst_of hl) ?_
  have go : ∀ us : List (Addr × Pr), (∀ t ∈ us, H t.1 = some (.tup [.int t.2.1, .int t.2.2])) → DpAll K H (us.map fun t => V.ref t.1) ((us.map (·.2)).map pd) := fun us => by
    induction us with
    | nil => exact fun _ => .nil
    | cons t us ih => exact fun h => .cons (.tup (tup_of (h t List.mem_cons_self)) (.cons (.int _) (.cons (.int _) .nil))) (ih fun u m => h u (List.mem_cons_of_mem _ m))
  exact go ts ht
/-! ### sorted, of such a list -/
def kH (H : Hp) : V → Pr
  | .ref a => match H a with
    | some (.tup [.int x, .int y]) => (x, y)
    | _ => (0, 0)
  | _ => (0, 0)
def adV : V → Addr
  | .ref a => a
  | _ => 0
theorem kH_at {H : Hp} {a : Addr} {x : Pr} (h : H a = some (.tup [.int x.1, .int x.2])) : kH H (.ref a) = x := by
  show (match H a with
    | some (.tup [.int x, .int y]) => (x, y)
    | _ => (0, 0)) = x
  rw [h]
theorem ltP_irr {a b : Pr} (p : ltP a b) (q : ltP b a) : False := by
  have p := ltP_iff.mp p
  have q := ltP_iff.mp q
  omega
theorem nodup_lt {l : List Pr} (h : l.Pairwise ltP) : l.Nodup := h.imp fun {a b} q e => by
  subst e
  exact ltP_irr q q
theorem cr_sortedC {X : Cx} : CallR X (.builtin "sorted") (fun xs H Q => ∃ l ps, xs = [V.ref l] ∧ Cells H l ps ∧ ps.Nodup ∧
    ∀ p H' qs, Same H H' → H p = none → Cells H' p qs → CanP ps qs → qs.length = ps.length → Q (.ref p) H') := by
  intro pins s σ H xs us Q I r h
  obtain ⟨l, ps, rfl, ⟨ts, hl, ht, rfl⟩, nd, q⟩ := h
  refine cr_sortedPO pins s σ H [V.ref l] us Q I r ⟨l, ts.map fun t => V.ref t.1, kH H, rfl, lst_of hl, fun x m => ?_, fun ys p srt stb n => ?_⟩
  · obtain ⟨t, m1, rfl⟩ := List.mem_map.mp m
    have g := ht t m1
    refine ⟨t.1, rfl, ?_⟩
    rw [kH_at g]
    exact g
  · have own : ∀ y ∈ ys, ∃ t ∈ ts, y = V.ref t.1 := fun y m => by
      obtain ⟨t, m1, e⟩ := List.mem_map.mp (stb.perm.mem_iff.mp m)
      exact ⟨t, m1, e.symm⟩
    have key : ∀ t ∈ ts, kH H (.ref t.1) = t.2 := fun t m => kH_at (ht t m)
    have pm : (ys.map (kH H)).Perm (ts.map (·.2)) := by
      have z := stb.perm.map (kH H)
      rw [List.map_map] at z
      rw [show ts.map (·.2) = ts.map (kH H ∘ fun t => V.ref t.1) from List.map_congr_left fun t m => (key t m).symm]
      exact z
    have sm : Same H (upd H p (.lst ys)) := newS n
    have eo : (ys.map fun v => (adV v, kH H v)).map (fun t => V.ref t.1) = ys := by
      rw [List.map_map]
      refine (List.map_congr_left fun v m => ?_).trans (List.map_id _)
      obtain ⟨t, _, rfl⟩ := own v m
      rfl
    refine q p _ (ys.map (kH H)) sm n ⟨ys.map fun v => (adV v, kH H v), ?_, fun u m => ?_, ?_⟩ ⟨?_, fun x => pm.mem_iff⟩ pm.length_eq
    · rw [eo, upd_same]
    · obtain ⟨v, m1, rfl⟩ := List.mem_map.mp m
      obtain ⟨t, m2, rfl⟩ := own v m1
      refine sm _ _ ?_
      show H t.1 = _
      rw [key t m2]
      exact ht t m2
    · rw [List.map_map]
      rfl
    · have nd2 : (ys.map (kH H)).Nodup := pm.nodup_iff.mpr nd
      refine List.pairwise_map.mpr ((srt.and (List.pairwise_map.mp nd2)).imp fun {u v} h => ?_)
      have a1 := SrtO.lexB_no.mp h.1
      have a2 : ¬ ((kH H u).1 = (kH H v).1 ∧ (kH H u).2 = (kH H v).2) := fun e => h.2 (Prod.ext e.1 e.2)
      refine ltP_iff.mpr ?_
      omega
/-! ### dicts whose keys are such pairs -/
def keyP (x : Pr) : List L2.Key := [Sum.inl x.1, Sum.inl x.2]
theorem keyP_inj {x y : Pr} (h : keyP x = keyP y) : x = y := by
  injection h with h1 h2
  injection h2 with h2 _
  exact Prod.ext (Sum.inl.inj h1) (Sum.inl.inj h2)
def KeysP (kvs : List (List L2.Key × V)) (ps : List Pr) : Prop := kvs.map (·.1) = ps.map keyP ∧ ps.Nodup
theorem KeysP.put {kvs : List (List L2.Key × V)} {ps : List Pr} (h : KeysP kvs ps) (x : Pr) (v : V) :
    ∃ qs, KeysP (putK kvs (keyP x) v) qs ∧ qs.length ≤ ps.length + 1 ∧ ∀ y, y ∈ qs ↔ y ∈ ps ∨ y = x := by
  have mem : (kvs.any fun kv => decide (kv.1 = keyP x)) = true ↔ x ∈ ps := by
    rw [List.any_eq_true]
    constructor
    · rintro ⟨kv, m, e⟩
      have m2 : kv.1 ∈ ps.map keyP := by
        rw [← h.1]
        exact List.mem_map.mpr ⟨kv, m, rfl⟩
      obtain ⟨y, my, ey⟩ := List.mem_map.mp m2
      rw [← keyP_inj (ey.trans (of_decide_eq_true e))]
      exact my
    · intro m
      have m2 : keyP x ∈ kvs.map (·.1) := by
        rw [h.1]
        exact List.mem_map.mpr ⟨x, m, rfl⟩
      obtain ⟨kv, mk, e⟩ := List.mem_map.mp m2
      exact ⟨kv, mk, decide_eq_true e⟩
  by_cases c : x ∈ ps
  · refine ⟨ps, ⟨?_, h.2⟩, by omega, fun y => ⟨.inl, fun z => z.elim id fun e => e ▸ c⟩⟩
    unfold putK
    rw [if_pos (mem.mpr c), List.map_map, ← h.1]
    refine List.map_congr_left fun kv _ => ?_
    show (if kv.1 = keyP x then (kv.1, v) else kv).1 = kv.1
    by_cases e : kv.1 = keyP x
    · rw [if_pos e]
    · rw [if_neg e]
  · refine ⟨ps ++ [x], ⟨?_, ?_⟩, by rw [List.length_append]; exact Nat.le_refl _, fun y => by rw [List.mem_append, List.mem_singleton]⟩
    · unfold putK
      rw [if_neg (fun z => c (mem.mp z)), List.map_append, List.map_append, h.1]
      rfl
    · refine List.pairwise_append.mpr ⟨h.2, List.pairwise_cons.mpr ⟨fun _ m => (by cases m), List.Pairwise.nil⟩, fun a ma b mb e => ?_⟩
      rw [List.mem_singleton.mp mb] at e
      exact c (e ▸ ma)
theorem KeysP.len {kvs : List (List L2.Key × V)} {ps : List Pr} (h : KeysP kvs ps) : kvs.length = ps.length := by
  have z := congrArg List.length h.1
  rw [List.length_map, List.length_map] at z
  exact z
theorem KeysP.at {kvs : List (List L2.Key × V)} {ps : List Pr} (h : KeysP kvs ps) {i : Nat} {k : List L2.Key} {v : V} (e : kvs[i]? = some (k, v)) : ∃ x, ps[i]? = some x ∧ k.map kV = [.int x.1, .int x.2] := by
  have z := congrArg (fun l => l[i]?) h.1
  simp only [List.getElem?_map] at z
  rw [e] at z
  cases q : ps[i]? with
  | none => rw [q] at z; cases z
  | some x =>
    rw [q] at z
    refine ⟨x, rfl, ?_⟩
    have : k = keyP x := Option.some.inj z
    rw [this]
    rfl
/-- the keys of such a dict, listed -/
theorem lc_keysP {d : Addr} {od : Obj} {kvs : List (List L2.Key × V)} {ps : List Pr} {vs : List Nat} {σ : L2.St} {H1 : Hp} {D : Addr} {Qd : Hp → Prop} {g : TG} {tt : TT} {te : TE} (hK : KeysP kvs ps) (hD : H1 d = some (.frz od (.dT kvs))) (nD : H1 D = none) (few : ps.length < sizeLine)
    (hs : ∀ (t : Addr) (x : Pr) (H' : Hp) (Po : V → Hp → Prop) (Pn : Hp → Prop), H' t = some (.tup [.int x.1, .int x.2]) → Po (.ref t) H' →
      g (.ref t) (wipe σ vs) H' fun σ2 H2 => wipe σ2 vs = wipe σ vs ∧ tt σ2 H2 fun b H3 => if b = true then te σ2 H3 Po else Pn H3)
    (hd : ∀ H', Same H1 H' → Cells H' D ps → Qd H') :
    ∃ W : Nat → Nat → Hp → Prop, (∃ m, W 0 m (upd H1 D (.lst []))) ∧ ∀ i m H, W i m H →
      ((Itkt d od kvs).stop i H ∧ Qd H) ∨ ((Itkt d od kvs).go i H ∧ ∃ Nx : Hp → Prop, (∀ H', Nx H' → ∃ m', m' < m ∧ W (i + 1) m' H') ∧ ∀ x H', (Itkt d od kvs).yld i H x H' → g x (wipe σ vs) H' fun σ2 H2 => wipe σ2 vs = wipe σ vs ∧ tt σ2 H2 fun b H3 =>
        if b = true then te σ2 H3 fun y H4 => ∃ acc, H4 D = some (.lst acc) ∧ acc.length < sizeLine ∧ Nx (upd H4 D (.lst (acc ++ [y]))) else Nx H3) := by
  have len := hK.len
  refine lc_it walk_keysT (fun i H' => Same H1 H' ∧ ∃ us : List (Addr × Pr), H' D = some (.lst (us.map fun t => V.ref t.1)) ∧ (∀ t ∈ us, H' t.1 = some (.tup [.int t.2.1, .int t.2.2])) ∧ us.map (·.2) = ps.take i)
    ⟨newS nD, [], upd_same, fun _ m => (by cases m), rfl⟩ (fun i H' _ p => p.1 _ _ hD) ?_ ?_
  · rintro i x H' H2 hi ⟨sm, us, h1, h2, h3⟩ ⟨rfl, k, v, q, e, rfl, hq⟩
    obtain ⟨y, hy, ek⟩ := hK.at e
    rw [ek] at hq
    have ul : us.length = i := by
      have z := congrArg List.length h3
      rw [List.length_map, List.length_take] at z
      omega
    refine hs q y _ _ _ hq ⟨_, h1, ?_, mutS sm nD, us ++ [(q, y)], ?_, ?_, ?_⟩
    · rw [List.length_map]
      omega
    · rw [upd_same, List.map_append]
      rfl
    · intro u m
      have off : ∀ z : Addr × Pr, H2 z.1 = some (.tup [.int z.2.1, .int z.2.2]) → upd H2 D (.lst ((us.map fun t => V.ref t.1) ++ [V.ref q])) z.1 = some (.tup [.int z.2.1, .int z.2.2]) := fun z g => by
        rw [upd_ne (fun e => ?_)]
        · exact g
        · rw [e, h1] at g
          cases g
      rcases List.mem_append.mp m with m | m
      · exact off u (h2 u m)
      · rw [List.mem_singleton.mp m]
        exact off (q, y) hq
    · rw [List.map_append, h3, take_next hy]
      rfl
  · rintro H' ⟨sm, us, h1, h2, h3⟩
    refine hd H' sm ⟨us, h1, h2, ?_⟩
    rw [h3, List.take_of_length_le (by omega)]
/-- such a list outlives a change of an object that is no tuple and not the list -/
theorem Cells.mut {H : Hp} {l d : Addr} {ps : List Pr} {o : HO} (h : Cells H l ps) (ne : l ≠ d) (nt : ∀ xs, H d ≠ some (.tup xs)) : Cells (upd H d o) l ps := by
  obtain ⟨ts, h1, h2, h3⟩ := h
  refine ⟨ts, by rw [upd_ne ne]; exact h1, fun t m => ?_, h3⟩
  rw [upd_ne (fun e => nt _ (e ▸ h2 t m))]
  exact h2 t m
theorem cells_mk {H : Hp} {l : Addr} (us : List (Addr × Pr)) (h : H l = some (.lst (us.map fun t => V.ref t.1))) (ht : ∀ u ∈ us, H u.1 = some (.tup [.int u.2.1, .int u.2.2])) : Cells H l (us.map (·.2)) := ⟨us, h, ht, rfl⟩
def cutT {α : Type} (ts : List α) (lo hi : Option Int) : List α := (ts.drop (HT.sIx ts.length 0 lo)).take (HT.sIx ts.length ts.length hi - HT.sIx ts.length 0 lo)
theorem cutV_map {α : Type} (f : α → V) (ts : List α) (lo hi : Option Int) : cutV (ts.map f) lo hi = (cutT ts lo hi).map f := by
  unfold cutV cutT
  rw [List.length_map, List.map_take, List.map_drop]
theorem cutT_mem {α : Type} {ts : List α} {lo hi : Option Int} {x : α} (h : x ∈ cutT ts lo hi) : x ∈ ts := List.mem_of_mem_drop (List.mem_of_mem_take h)
theorem cutT_len {α : Type} (ts : List α) (lo hi : Option Int) : (cutT ts lo hi).length ≤ ts.length := by
  unfold cutT
  rw [List.length_take, List.length_drop]
  omega
theorem eq_cells {l m : List Pr} (h : l = m) : V.bl (PyData.eqv (.list (l.map pd)) (.list (m.map pd))) = V.bl true := by
  rw [eqv_cells, decide_eq_true h]
theorem ne_cells {l m : List Pr} (h : l = m) : V.bl (!PyData.eqv (.list (l.map pd)) (.list (m.map pd))) = V.bl false := by
  rw [eqv_cells, decide_eq_true h] <;> rfl
theorem pw_map {f : Pr → Pr} (hf : ∀ x y, ltP x y → ltP (f x) (f y)) {l : List Pr} (h : l.Pairwise ltP) : (l.map f).Pairwise ltP := List.pairwise_map.mpr (h.imp fun {x y} q => hf x y q)
theorem nodup_map {f : Pr → Pr} (hf : ∀ x y, f x = f y → x = y) {l : List Pr} (h : l.Nodup) : (l.map f).Nodup := List.pairwise_map.mpr (h.imp fun {x y} q e => q (hf x y e))
theorem mem_map2 {f : Pr → Pr} {l m : List Pr} (h : ∀ x, x ∈ l ↔ x ∈ m) (k : Pr) : k ∈ l.map f ↔ k ∈ m.map f := by
  rw [List.mem_map, List.mem_map]
  exact ⟨fun ⟨x, m1, e⟩ => ⟨x, (h x).mp m1, e⟩, fun ⟨x, m1, e⟩ => ⟨x, (h x).mpr m1, e⟩⟩
theorem wipe2 (σ : L2.St) (i j : Nat) (a b : Option V) : wipe (((wipe σ [i, j]).set i a).set j b) [i, j] = wipe σ [i, j] := by
  refine List.ext_getElem? fun k => ?_
  show ((((((σ.set j none).set i none).set i a).set j b).set j none).set i none)[k]? = ((σ.set j none).set i none)[k]?
  simp only [List.getElem?_set, List.length_set]
  by_cases e1 : i = k <;> by_cases e2 : j = k <;> by_cases e3 : k < σ.length <;> simp [e1, e2, e3]
end Vx
namespace Vx
open PySem PySem.Spec PyProof.Rows L2
/-! ### sets of many tuples: i -> 5 i + 1 meets every slot of a table of 2 ^ n slots -/
def S5 : Nat → Nat
  | 0 => 0
  | n + 1 => 5 * S5 n + 1
def T5 (i : Nat) : Nat → Nat
  | 0 => i
  | n + 1 => 5 * T5 i n + 1
theorem T5_S5 (i : Nat) : ∀ d, T5 i d = i + S5 d * (4 * i + 1)
  | 0 => by simp [T5, S5]
  | d + 1 => by
    show 5 * T5 i d + 1 = i + (5 * S5 d + 1) * (4 * i + 1)
    rw [T5_S5 i d, Nat.add_mul, Nat.mul_assoc]
    generalize S5 d * (4 * i + 1) = z
    omega
theorem T5_add (i d : Nat) : ∀ a, T5 i (d + a) = T5 i a + 5 ^ a * (S5 d * (4 * i + 1))
  | 0 => by
    show T5 i d = i + 5 ^ 0 * _
    rw [T5_S5, Nat.pow_zero, Nat.one_mul]
  | a + 1 => by
    show 5 * T5 i (d + a) + 1 = 5 * T5 i a + 1 + 5 ^ (a + 1) * _
    rw [T5_add i d a, Nat.pow_succ, Nat.mul_comm (5 ^ a) 5, Nat.mul_assoc]
    omega
theorem S5_two (e : Nat) : S5 (2 * e) = (5 ^ e + 1) * S5 e := by
  have h := T5_add 0 e e
  have z : ∀ n, T5 0 n = S5 n := fun n => by rw [T5_S5]; simp
  rw [z, z] at h
  rw [show 2 * e = e + e by omega, h, Nat.add_mul]
  simp
  omega
theorem S5_par : ∀ d, S5 d % 2 = d % 2
  | 0 => rfl
  | d + 1 => by
    have := S5_par d
    show (5 * S5 d + 1) % 2 = (d + 1) % 2
    omega
theorem five4 : ∀ e, ∃ q, 5 ^ e = 4 * q + 1
  | 0 => ⟨0, rfl⟩
  | e + 1 => by
    obtain ⟨q, h⟩ := five4 e
    refine ⟨5 * q + 1, ?_⟩
    rw [Nat.pow_succ, h]
    omega
/-- an odd factor is of no help -/
theorem strip_odd {o : Nat} (ho : o % 2 = 1) : ∀ (k x : Nat), 2 ^ k ∣ o * x → 2 ^ k ∣ x
  | 0, x, _ => by simp
  | k + 1, x, h => by
    have h2 : 2 ∣ o * x := Nat.dvd_trans ⟨2 ^ k, by rw [Nat.pow_succ, Nat.mul_comm]⟩ h
    have hx : x % 2 = 0 := by
      have : (o * x) % 2 = 0 := Nat.mod_eq_zero_of_dvd h2
      rw [Nat.mul_mod, ho, Nat.one_mul, Nat.mod_mod] at this
      exact this
    obtain ⟨y, rfl⟩ : ∃ y, x = 2 * y := ⟨x / 2, by omega⟩
    rw [show o * (2 * y) = 2 * (o * y) by rw [Nat.mul_left_comm], Nat.pow_succ, Nat.mul_comm (2 ^ k) 2] at h
    rw [Nat.pow_succ, Nat.mul_comm (2 ^ k) 2]
    exact Nat.mul_dvd_mul_left 2 (strip_odd ho k y (Nat.dvd_of_mul_dvd_mul_left (by decide) h))
theorem S5_dvd : ∀ (k d : Nat), 2 ^ k ∣ S5 d → 2 ^ k ∣ d
  | 0, d, _ => by simp
  | k + 1, d, h => by
    have h2 : 2 ∣ S5 d := Nat.dvd_trans ⟨2 ^ k, by rw [Nat.pow_succ, Nat.mul_comm]⟩ h
    have hd : d % 2 = 0 := by
      rw [← S5_par]
      exact Nat.mod_eq_zero_of_dvd h2
    obtain ⟨e, rfl⟩ : ∃ e, d = 2 * e := ⟨d / 2, by omega⟩
    obtain ⟨q, hq⟩ := five4 e
    rw [S5_two, hq, show 4 * q + 1 + 1 = 2 * (2 * q + 1) by omega, Nat.mul_assoc, Nat.pow_succ, Nat.mul_comm (2 ^ k) 2] at h
    rw [Nat.pow_succ, Nat.mul_comm (2 ^ k) 2]
    exact Nat.mul_dvd_mul_left 2 (S5_dvd k e (strip_odd (by omega) k _ (Nat.dvd_of_mul_dvd_mul_left (by decide) h)))
/-- the masks -/
def Mk (m : Nat) : Prop := ∃ k, m + 1 = 2 ^ k ∧ 3 ≤ k ∧ k ≤ 13
theorem lcgI_T5 {m i : Nat} (hi : i ≤ m) : ∀ n, lcgI m i n = T5 i n % (m + 1)
  | 0 => (Nat.mod_eq_of_lt (Nat.lt_succ_of_le hi)).symm
  | n + 1 => by
    show (lcgI m i n * 5 + 1) % (m + 1) = (5 * T5 i n + 1) % (m + 1)
    rw [lcgI_T5 hi n, Nat.add_mod, Nat.mul_mod, Nat.mod_mod, ← Nat.mul_mod, ← Nat.add_mod, Nat.mul_comm]
theorem lcgI_ne {m i a d : Nat} (hm : Mk m) (hi : i ≤ m) (d0 : 0 < d) (hd : d ≤ m) : lcgI m i (d + a) ≠ lcgI m i a := fun e => by
  obtain ⟨k, ek, _⟩ := hm
  rw [lcgI_T5 hi, lcgI_T5 hi] at e
  have z := Nat.sub_mod_eq_zero_of_mod_eq e
  rw [T5_add, Nat.add_sub_cancel_left, ek] at z
  obtain ⟨q, hq⟩ := five4 a
  have z1 := strip_odd (show 5 ^ a % 2 = 1 by omega) k _ (Nat.dvd_of_mod_eq_zero z)
  rw [Nat.mul_comm] at z1
  have z2 := S5_dvd k d (strip_odd (show (4 * i + 1) % 2 = 1 by omega) k _ z1)
  have := Nat.le_of_dvd d0 z2
  omega
theorem lcgI_lt {m i : Nat} (hi : i ≤ m) : ∀ n, lcgI m i n ≤ m
  | 0 => hi
  | n + 1 => Nat.le_of_lt_succ (Nat.mod_lt _ (Nat.succ_pos _))
theorem lcgI_on {m i j : Nat} (hm : Mk m) (hi : i ≤ m) (hj : j ≤ m) : ∃ n, n ≤ m ∧ lcgI m i n = j := by
  refine Classical.byContradiction fun no => ?_
  have nd : (j :: (List.range (m + 1)).map (lcgI m i)).Nodup := by
    refine List.nodup_cons.mpr ⟨fun mj => ?_, ?_⟩
    · obtain ⟨n, mn, e⟩ := List.mem_map.mp mj
      exact no ⟨n, Nat.le_of_lt_succ (List.mem_range.mp mn), e⟩
    · refine List.pairwise_map.mpr (List.Pairwise.imp_of_mem (fun {a b} ma mb ab e => ?_) List.pairwise_lt_range)
      have := List.mem_range.mp mb
      have ab : a < b := ab
      refine lcgI_ne (a := a) (d := b - a) hm hi (by omega) (by omega) ?_
      rw [show b - a + a = b by omega]
      exact e.symm
  have := nat_nodup_len _ (List.range (m + 1)) nd fun x mx => by
    rcases List.mem_cons.mp mx with e | mx
    · rw [e]
      exact List.mem_range.mpr (Nat.lt_succ_of_le hj)
    · obtain ⟨n, _, rfl⟩ := List.mem_map.mp mx
      exact List.mem_range.mpr (Nat.lt_succ_of_le (lcgI_lt hi n))
  rw [List.length_cons, List.length_map, List.length_range] at this
  omega
theorem runs_on {m j : Nat} (hm : Mk m) (h : Int) (hj : j ≤ m) : ∃ n, n ≤ m + 12 ∧ runI m (SetTable.bits h) n = j := by
  obtain ⟨n, ln, e⟩ := lcgI_on hm (runI_le m (SetTable.bits h) 12) hj
  refine ⟨12 + n, by omega, ?_⟩
  rw [runI_tail (bits_lt h)]
  exact e
theorem way_top {m : Nat} (h : Int) (c : Nat) : way m h c ≤ m := by
  have b := runEnd_bd (m := m) (i := SetTable.bits h % (m + 1)) (Nat.le_of_lt_succ (Nat.mod_lt _ (Nat.succ_pos _)))
  have z := nth_in (m := m) c (runAt m (SetTable.bits h % (m + 1)) (SetTable.bits h)) (by
    show _ % (m + 1) + (SetTable.runEnd m _ - _) ≤ m
    omega)
  have z : way m h c + _ ≤ m := z
  omega
theorem way_on {m j : Nat} (hm : Mk m) (h : Int) (hj : j ≤ m) : ∃ c, c < 10 * SetTable.turns m ∧ way m h c = j := by
  obtain ⟨n, ln, e⟩ := runs_on hm h hj
  obtain ⟨c, lc, e2⟩ := run_nth m (SetTable.bits h) n
  refine ⟨c, ?_, ?_⟩
  · have : SetTable.turns m = m + 15 := rfl
    omega
  · show (nth m _ c).j = j
    rw [e2]
    exact e
/-! ### the table -/
structure Tab (t : SetTable) (hs : List Int) : Prop where
  up : Ris t.place.toList
  nodum : t.dummies = #[]
  size : t.place.size = hs.length
  pow : Mk t.mask
  top : ∀ x ∈ t.place.toList, x ≤ t.mask
  met : ∀ (i : Nat) (g : Int) (j : Nat), hs[i]? = some g → t.place.toList[i]? = some j → ∃ c, way t.mask g c = j ∧ ∀ d < c, way t.mask g d ∈ t.place.toList
theorem Tab.len {t : SetTable} {hs : List Int} (T : Tab t hs) : t.place.toList.length = hs.length := Array.length_toList.trans T.size
theorem Mk.odd {m : Nat} (h : Mk m) : m % 2 = 1 := by
  obtain ⟨k, e, k3, _⟩ := h
  obtain ⟨j, rfl⟩ : ∃ j, k = j + 1 := ⟨k - 1, by omega⟩
  rw [Nat.pow_succ] at e
  omega
theorem Mk.le {m : Nat} (h : Mk m) : m ≤ 8191 := by
  obtain ⟨k, e, _, k13⟩ := h
  have : 2 ^ k ≤ 2 ^ 13 := Nat.pow_le_pow_right (by decide) k13
  omega
/-- where a search ends -/
theorem Tab.gap {t : SetTable} {hs : List Int} (T : Tab t hs) (l : hs.length ≤ t.mask) (g : Int) : ∃ c, c < 10 * SetTable.turns t.mask ∧ way t.mask g c ∉ t.place.toList ∧ ∀ d < c, way t.mask g d ∈ t.place.toList := by
  obtain ⟨j, lj, nj⟩ := st_missing t.place.toList (t.mask + 1) (by rw [T.len]; omega)
  obtain ⟨c0, l0, e0⟩ := way_on T.pow g (Nat.le_of_lt_succ lj)
  obtain ⟨c, lc, hc, low⟩ := st_least (p := fun c => way t.mask g c ∉ t.place.toList) c0 (by rw [e0]; exact nj)
  exact ⟨c, by omega, hc, fun d ld => Classical.not_not.mp (low d ld)⟩
/-- what is in the table is met before that -/
theorem Tab.ahead {t : SetTable} {hs : List Int} (T : Tab t hs) {g : Int} {c i j : Nat} (hc : way t.mask g c ∉ t.place.toList) (hi : hs[i]? = some g) (hj : t.place.toList[i]? = some j) : ∃ d < c, way t.mask g d = j := by
  obtain ⟨d, e, low⟩ := T.met i g j hi hj
  refine ⟨d, Nat.lt_of_not_le fun le => ?_, e⟩
  rcases Nat.eq_or_lt_of_le le with q | q
  · refine hc ?_
    rw [q, e]
    exact List.mem_of_getElem? hj
  · exact hc (low c q)
/-- one more -/
theorem Tab.more {t : SetTable} {hs : List Int} (T : Tab t hs) {g : Int} {c : Nat} (hc : way t.mask g c ∉ t.place.toList) (low : ∀ d < c, way t.mask g d ∈ t.place.toList) :
    ∃ p, (t.put (way t.mask g c)).2 = p ∧ p ≤ hs.length ∧ Tab (t.put (way t.mask g c)).1 (hs.take p ++ g :: hs.drop p) ∧ (t.put (way t.mask g c)).1.fill = hs.length + 1 := by
  obtain ⟨j, hj⟩ : ∃ j, way t.mask g c = j := ⟨_, rfl⟩
  have jt : j ≤ t.mask := hj ▸ way_top g c
  rw [hj] at hc ⊢
  have cut := (below_cut T.up j).1
  refine ⟨SetTable.below t.place j, rfl, T.size ▸ cut, ?_, ?_⟩
  · have lh : SetTable.below t.place j ≤ hs.length := T.size ▸ cut
    have lp : SetTable.below t.place j ≤ t.place.toList.length := T.len ▸ lh
    have pl := put_place t j
    have into : ∀ {x : Nat}, x ∈ t.place.toList → x ∈ (t.put j).1.place.toList := fun h => by
      rw [pl]
      exact L2.mem_ins.mpr (.inr h)
    constructor
    · exact ris_insert T.up fun e => hc (List.mem_of_getElem? ((Array.getElem?_toList).trans e))
    · exact put_dm T.nodum j
    · rw [len_ins hs lh, ← T.len, ← len_ins _ lp j, ← pl, Array.length_toList]
    · exact T.pow
    · intro x mx
      rw [pl] at mx
      exact (L2.mem_ins.mp mx).elim (fun e => e ▸ jt) (T.top x)
    · intro i g' j' hg' hj'
      show ∃ c', way t.mask g' c' = j' ∧ ∀ d < c', way t.mask g' d ∈ (t.put j).1.place.toList
      rw [tins_get hs lh] at hg'
      rw [pl, tins_get _ lp] at hj'
      have old : ∀ n, hs[n]? = some g' → t.place.toList[n]? = some j' → ∃ c', way t.mask g' c' = j' ∧ ∀ d < c', way t.mask g' d ∈ (t.put j).1.place.toList := fun n a b => by
        obtain ⟨c', e, low'⟩ := T.met n g' j' a b
        exact ⟨c', e, fun d ld => into (low' d ld)⟩
      rcases Nat.lt_trichotomy i (SetTable.below t.place j) with z | z | z
      · rw [if_pos z] at hg' hj'
        exact old i hg' hj'
      · have nz : ¬ i < SetTable.below t.place j := by omega
        rw [if_neg nz, if_pos z] at hg' hj'
        cases hg'
        cases hj'
        exact ⟨c, hj, fun d ld => into (low d ld)⟩
      · have nz : ¬ i < SetTable.below t.place j := by omega
        have ne : ¬ i = SetTable.below t.place j := by omega
        rw [if_neg nz, if_neg ne] at hg' hj'
        exact old (i - 1) hg' hj'
  · have lh : SetTable.below t.place j ≤ hs.length := T.size ▸ cut
    have lp : SetTable.below t.place j ≤ t.place.toList.length := T.len ▸ lh
    show (t.put j).1.place.size + (t.put j).1.dummies.size = _
    rw [put_dm T.nodum j, ← Array.length_toList, put_place, len_ins _ lp, T.len]
    rfl
/-! ### laid anew -/
theorem gap_free {m : Nat} (hm : Mk m) (ow : Array (Option Nat)) (g : Int) {j : Nat} (hj : j ≤ m) (fr : oAt ow j = none) :
    ∃ c, SetTable.layClean.free m ow (SetTable.turns m) (SetTable.bits g % (m + 1)) (SetTable.bits g) = some (way m g c) ∧ oAt ow (way m g c) = none ∧ ∀ d < c, oAt ow (way m g d) ≠ none := by
  obtain ⟨n, ln, e⟩ := runs_on hm g hj
  have at_n : way m g (off m (SetTable.bits g % (m + 1)) (SetTable.bits g) n) = j := by
    unfold way
    rw [nth_off, itL_run]
    exact e
  obtain ⟨c, lc, hc, low⟩ := st_least (p := fun c => oAt ow (way m g c) = none) _ (by rw [at_n]; exact fr)
  have t15 : SetTable.turns m = m + 15 := rfl
  refine ⟨c, free_spec m ow _ n _ _ c (by omega) lc (fun d ld => ?_) ?_, hc, low⟩
  · show (oAt ow (way m g d)).isNone = false
    cases z : oAt ow (way m g d) with
    | none => exact (low d ld z).elim
    | some _ => rfl
  · show (oAt ow (way m g c)).isNone = true
    rw [hc]
    rfl
theorem own_next {m : Nat} (hm : Mk m) {hs : List Int} {ow : Array (Option Nat)} (W : Own m hs ow) (l : hs.length ≤ m) (g : Int) :
    ∃ j, SetTable.layClean.free m ow (SetTable.turns m) (SetTable.bits g % (m + 1)) (SetTable.bits g) = some j ∧ Own m (hs ++ [g]) (ow.setIfInBounds j (some hs.length)) := by
  obtain ⟨us, lu, hu⟩ := W.ps
  obtain ⟨j0, l0, n0⟩ := st_missing us (m + 1) (by omega)
  have f0 : oAt ow j0 = none := Classical.byContradiction fun z => n0 (hu j0 (Nat.le_of_lt_succ l0) z)
  obtain ⟨c, e, hc, low⟩ := gap_free hm ow g (Nat.le_of_lt_succ l0) f0
  obtain ⟨j, ej⟩ : ∃ j, way m g c = j := ⟨_, rfl⟩
  have jm : j ≤ m := ej ▸ way_top g c
  rw [ej] at e hc
  have js : j < ow.size := by
    rw [W.sz]
    omega
  refine ⟨j, e, ?_⟩
  have here := oAt_set_self (some hs.length) js
  have there : ∀ {i : Nat}, i ≠ j → oAt (ow.setIfInBounds j (some hs.length)) i = oAt ow i := fun ne => oAt_set_ne _ ne
  have keep : ∀ {i : Nat}, oAt ow i ≠ none → oAt (ow.setIfInBounds j (some hs.length)) i ≠ none := fun {i} h => by
    by_cases z : i = j
    · rw [z, here]
      intro y
      cases y
    · rwa [there z]
  constructor
  · rw [Array.size_setIfInBounds, W.sz]
  · intro i k li hk
    by_cases z : i = j
    · rw [z, here] at hk
      cases hk
      exact ⟨g, c, by simp, ej.trans z.symm, fun d ld => keep (low d ld)⟩
    · rw [there z] at hk
      obtain ⟨g', c', a1, a2, a3⟩ := W.at_ i k li hk
      exact ⟨g', c', by rw [List.getElem?_append_left (List.getElem?_eq_some_iff.mp a1).1, a1], a2, fun d ld => keep (a3 d ld)⟩
  · intro k lk
    by_cases z : k = hs.length
    · subst z
      exact ⟨j, jm, here⟩
    · obtain ⟨i, li, hi⟩ := W.all k (by rw [List.length_append, List.length_singleton] at lk; omega)
      refine ⟨i, li, ?_⟩
      rwa [there fun y => ?_]
      rw [y, hc] at hi
      cases hi
  · refine ⟨j :: us, by simp [lu], fun i li hi => ?_⟩
    by_cases z : i = j
    · rw [z]
      exact List.mem_cons_self
    · rw [there z] at hi
      exact List.mem_cons_of_mem _ (hu i li hi)
theorem own_all {m : Nat} (hm : Mk m) : ∀ (gs hs : List Int) (ow : Array (Option Nat)), Own m hs ow → hs.length + gs.length ≤ m →
    ∃ ow', gs.foldl (stepF m) (some (ow, hs.length)) = some (ow', hs.length + gs.length) ∧ Own m (hs ++ gs) ow'
  | [], hs, ow, W, _ => ⟨ow, rfl, by rwa [List.append_nil]⟩
  | g :: gs, hs, ow, W, l => by
    rw [List.length_cons] at l ⊢
    obtain ⟨j, e, W1⟩ := own_next hm W (by omega) g
    have l1 : (hs ++ [g]).length = hs.length + 1 := by simp
    obtain ⟨ow', f, W2⟩ := own_all hm gs _ _ W1 (by omega)
    rw [l1] at f
    rw [List.append_assoc] at W2
    refine ⟨ow', ?_, W2⟩
    rw [List.foldl_cons, stepF_some e, f]
    congr 2
    omega
theorem lay_all {m : Nat} (hm : Mk m) {hs : Array Int} (l : hs.size ≤ m) : ∃ ow, SetTable.layClean m hs = some ow ∧ Own m hs.toList ow := by
  obtain ⟨ow, f, W⟩ := own_all hm hs.toList [] _ (Own.init m) (by rw [Array.length_toList]; show 0 + hs.size ≤ m; omega)
  rw [List.nil_append] at W
  refine ⟨ow, ?_, W⟩
  rw [layClean_eq]
  have f : hs.toList.foldl (stepF m) (some (Array.replicate (m + 1) none, 0)) = some (ow, _) := f
  rw [f]
  rfl
theorem relaid_tab (t : SetTable) {hs : Array Int} {wt m : Nat} (hw : SetTable.sizeAbove wt = m + 1) (hm : Mk m) (l : hs.size ≤ m) :
    ∃ t' od, t.relaid hs wt = some (t', od) ∧ od.toList.Perm (List.range hs.size) ∧ Tab t' (od.toList.map fun i => hs.getD i 0) ∧ t'.mask = m ∧ t'.led = t.led ∧ t'.plain = t.plain := by
  obtain ⟨ow, e, W⟩ := lay_all hm l
  have hw' : SetTable.sizeAbove wt - 1 = m := by omega
  have live := @mem_live m ow W.sz
  have ris := ris_live (fun j => ow.getD j none) (List.range (m + 1)) (show List.Pairwise (· < ·) _ from List.pairwise_lt_range)
  have nd : ((liveOf m ow).map (·.1)).Nodup := List.Pairwise.imp (fun {a b} (h : a < b) => Nat.ne_of_lt h) (show List.Pairwise (· < ·) ((liveOf m ow).map (·.1)) from ris.1)
  have size : (liveOf m ow).length = hs.size := by
    refine Nat.le_antisymm ?_ ?_
    · obtain ⟨us, lu, hu⟩ := W.ps
      have := nat_nodup_len _ us nd fun x mx => by
        obtain ⟨⟨y, k⟩, my, rfl⟩ := List.mem_map.mp mx
        obtain ⟨z1, z2⟩ := live.mp my
        exact hu y z1 (by rw [z2]; intro q; cases q)
      rwa [List.length_map, lu, Array.length_toList] at this
    · have := nat_nodup_len (List.range hs.size) ((liveOf m ow).map (·.2)) List.nodup_range fun k mk => by
        obtain ⟨j, z1, z2⟩ := W.all k (by rw [Array.length_toList]; exact List.mem_range.mp mk)
        exact List.mem_map.mpr ⟨(j, k), live.mpr ⟨z1, z2⟩, rfl⟩
      rwa [List.length_range, List.length_map] at this
  refine ⟨tabOf t m ow, ((liveOf m ow).map (·.2)).toArray, ?_, ?_, ?_, rfl, rfl, rfl⟩
  · rw [relaid_eq, hw', e]
    rfl
  · refine perm_range _ _ (by simp [size]) fun k lk => ?_
    obtain ⟨j, z1, z2⟩ := W.all k (by rw [Array.length_toList]; exact lk)
    exact List.mem_map.mpr ⟨(j, k), live.mpr ⟨z1, z2⟩, rfl⟩
  · refine ⟨ris.1, rfl, ?_, hm, fun x mx => Nat.le_of_lt_succ (List.mem_range.mp (ris.2 x mx)), fun i g j hg hj => ?_⟩
    · show ((liveOf m ow).map (·.1)).toArray.size = _
      simp
    · have hg : (((liveOf m ow).map (·.2)).map fun i => hs.getD i 0)[i]? = some g := hg
      have hj : ((liveOf m ow).map (·.1))[i]? = some j := hj
      rw [List.getElem?_map] at hj
      obtain ⟨⟨y, k⟩, hq, rfl⟩ := Option.map_eq_some_iff.mp hj
      rw [List.getElem?_map, List.getElem?_map, hq] at hg
      have hg : hs.getD k 0 = g := Option.some.inj hg
      obtain ⟨z1, z2⟩ := live.mp (List.mem_of_getElem? hq)
      obtain ⟨g', c, a1, a2, a3⟩ := W.at_ y k z1 z2
      have eg : g' = g := by
        rw [← hg, Array.getD_eq_getD_getElem?, ← Array.getElem?_toList, a1]
        rfl
      subst eg
      refine ⟨c, a2, fun d ld => ?_⟩
      show way m g' d ∈ (liveOf m ow).map (·.1)
      cases q : oAt ow (way m g' d) with
      | none => exact (a3 d ld q).elim
      | some k' => exact List.mem_map.mpr ⟨(_, k'), live.mpr ⟨way_top g' d, q⟩, rfl⟩
end Vx
namespace Vx
open PySem PySem.Spec PyProof.Rows L2
/-! ### a set of up to some thousand tuples -/
def seat (m : Nat) (g : Int) (c : Nat) : SetTable.Probe := nth m (runAt m (SetTable.bits g % (m + 1)) (SetTable.bits g)) c
theorem seat_j (m : Nat) (g : Int) (c : Nat) : (seat m g c).j = way m g c := rfl
theorem seat_add (m : Nat) (g : Int) (c q : Nat) : nth m (seat m g c) q = seat m g (c + q) := (nth_add m c _ q).symm
theorem nth_dummy (m : Nat) : ∀ (n : Nat) (p : SetTable.Probe), p.dummy = none → (nth m p n).dummy = none
  | 0, _, h => h
  | n + 1, p, h => nth_dummy m n (adv m p) (by unfold adv; split <;> exact h)
theorem seat_dummy (m : Nat) (g : Int) (c : Nat) : (seat m g c).dummy = none := nth_dummy m c _ rfl
abbrev hashes (P : Program) (w : World) (L : List (Addr × List Int)) : List Int := L.map fun p => thash P w p.2
structure MT (P : Program) (w : World) (h : Heap) (a : Addr) (L : List (Addr × List Int)) (es : Array (Int × Value)) (ep : Nat) (t : SetTable) : Prop where
  obj : ∃ o, h.get? a = some o ∧ o.ExactSet ∧ o.data = .set es ep t
  rws : es.toList = rowsOf P w L
  tb : Tab t (hashes P w L)
  ndp : (L.map (·.2)).Nodup
  tps : ∀ p ∈ L, IsT P w h p.2 p.1
  pln : t.plain = true
  ld : w.params.followText "set-order" = true ∨ t.led = true
  roomy : L.length * 5 < t.mask * 3
section
variable {P : Program} {w : World} {A : Around} {E : Value → Shared → Prop} {s : Shared} {a : Addr} {L : List (Addr × List Int)} {es : Array (Int × Value)} {ep : Nat} {t : SetTable}
theorem rows_size (h : es.toList = rowsOf P w L) : es.size = L.length := by
  rw [← Array.length_toList, h]
  exact List.length_map _
theorem MT.sz (R : MT P w s.heap a L es ep t) : es.size = L.length := rows_size R.rws
theorem MT.place (R : MT P w s.heap a L es ep t) : t.place.size = L.length := R.tb.size.trans (List.length_map _)
theorem fits_of {n : Nat} (h1 : t.place.size = n) (h2 : t.dummies = #[]) (h3 : n ≤ t.mask) : t.fits n = true := by
  unfold SetTable.fits SetTable.fill
  rw [h2, h1]
  simp [h3]
theorem MT.fit (R : MT P w s.heap a L es ep t) : t.fits es.size = true := by
  have := R.roomy
  have := R.sz
  exact fits_of (R.place.trans R.sz.symm) R.tb.nodum (by omega)
theorem MT.row (R : MT P w s.heap a L es ep t) {i : Nat} {p : Addr × List Int} (h : L[i]? = some p) : es[i]? = some (thash P w p.2, .ref p.1) := by
  rw [← Array.getElem?_toList, R.rws, rowsOf, List.getElem?_map, h]
  rfl
theorem MT.stays (R : MT P w s.heap a L es ep t) : ¬ t.gaveWay = true := by
  have := R.tb.pow.odd
  unfold SetTable.gaveWay
  simp [this]
/-- the search, from the c-th seat on; C is the first free one -/
theorem MT.seek (R : MT P w s.heap a L es ep t) {x : Addr} {k : List Int} (hx : IsT P w s.heap k x) (hu : A.units < cLine) {C : Nat} (hC : C < 10 * SetTable.turns t.mask)
    (free : way t.mask (thash P w k) C ∉ t.place.toList) (full : ∀ d < C, way t.mask (thash P w k) d ∈ t.place.toList) {Q : SetFound → Shared → Prop}
    (yes : k ∈ L.map (·.2) → Q (.there none) s) (no : k ∉ L.map (·.2) → Q (.free (way t.mask (thash P w k) C) false) s) : ∀ (f c : Nat) (st : Option SetTable.Probe),
      st.getD (t.probeStart (thash P w k)) = seat t.mask (thash P w k) c → c ≤ C → C < c + f →
      (∀ (i : Nat) (p : Addr × List Int), L[i]? = some p → p.2 = k → ∃ d, c ≤ d ∧ d < C ∧ t.place.toList[i]? = some (way t.mask (thash P w k) d)) →
      wpAny (model P w) A (setSearchFrom a (.ref x) (thash P w k) true f st) Q E s := by
  obtain ⟨o, go, xo, dat⟩ := R.obj
  obtain ⟨g, eg⟩ : ∃ g, thash P w k = g := ⟨_, rfl⟩
  rw [eg] at free full no ⊢
  intro f
  induction f with
  | zero => intro c st _ _ lt; omega
  | succ f ih =>
    intro c st hst le lt ahead
    rw [setSearchFrom_succ]
    refine wpAny_bind (wpAny_setState_of go dat R.fit ?_)
    dsimp only
    refine wp_if_neg R.stays ?_
    try refine wpAny_bind (wpAny_pure ?_)
    have lookup := go_spec t R.tb.up R.tb.nodum (fun i => (es[i]?.map (·.1)).getD 0) g (10 * SetTable.turns t.mask) (C - c) (seat t.mask g c) (seat_dummy _ _ _) (by omega)
      (fun d ld => by rw [seat_add]; exact full _ (by omega)) (by rw [seat_add, show c + (C - c) = C by omega]; exact free)
    simp only [seat_add, seat_j] at lookup
    have hash : ∀ (i : Nat) (p : Addr × List Int), L[i]? = some p → p.2 = k → ((es[i]?.map (·.1)).getD 0) = g := fun i p h e => by
      rw [R.row h, e]
      exact eg
    have probe : t.probe (fun i => (es[i]?.map (·.1)).getD 0) g (st.getD (t.probeStart g)) = SetTable.probe.go t (fun i => (es[i]?.map (·.1)).getD 0) g (10 * SetTable.turns t.mask) (seat t.mask g c) := by rw [hst]; rfl
    rw [probe]
    rcases lookup with ⟨q, i, lq, hi, _, before, res⟩ | ⟨none', res⟩
    · rw [res]
      dsimp only
      obtain ⟨p, hp⟩ : ∃ p, L[i]? = some p := by
        have li := (List.getElem?_eq_some_iff.mp hi).1
        rw [Array.length_toList, R.place] at li
        exact ⟨_, List.getElem?_eq_getElem li⟩
      have mp := List.mem_of_getElem? hp
      have hsl := slot_live R.tb.up hi
      have go_on : wpAny (model P w) A (searchRest a (.ref x) g true f es t (way t.mask g (c + q)) i (seat t.mask g (c + (q + 1)))) Q E s := by
        unfold searchRest
        rw [R.row hp]
        dsimp only
        refine wpAny_bind (wpAny_holding (wpAny_eqBool_tuple hu (R.tps p mp) hx ?_))
        refine wpAny_bind (wpAny_setState_of go dat R.fit ?_)
        dsimp only
        by_cases same : p.2 = k
        · exact wp_if_pos (by simp [same]) (wpAny_pure (yes (List.mem_map.mpr ⟨p, mp, same⟩)))
        · refine wp_if_neg (by simp [same]) ?_
          try refine wpAny_bind (wpAny_pure ?_)
          rw [sameMem]
          dsimp only
          simp only [if_true, hsl, R.row hp]
          refine wpAny_bind (wpAny_isSame_ref_self (wpAny_bind (wpAny_pure ?_)))
          simp only [if_true]
          refine wp_if_neg (by simp [same]) (ih (c + (q + 1)) _ rfl (by omega) (by omega) fun i' p' h' e' => ?_)
          obtain ⟨d, b1, b2, b3⟩ := ahead i' p' h' e'
          refine ⟨d, Nat.lt_of_not_le fun le' => ?_, b2, b3⟩
          rcases Nat.eq_or_lt_of_le le' with e | l
          · rw [e] at b3
            have z := (slot_live R.tb.up b3).symm.trans hsl
            injection z with z
            rw [z, hp] at h'
            cases h'
            exact same e'
          · have l : d < c + q := l
            exact before (d - c) i' (by omega) (by rw [show c + (d - c) = d by omega]; exact b3) (hash i' p' h' e')
      by_cases lead : t.led = true
      · refine wp_if_neg (by simp [lead]) ?_
        try refine wpAny_bind (wpAny_pure ?_)
        exact go_on
      · refine wp_if_pos (by simp [lead]) (wpAny_bind (seen_tup hx (fun y my => ?_) (wp_if_neg (by decide) ?_)))
        · obtain ⟨e, me, rfl⟩ := List.mem_map.mp my
          have me : e ∈ es.toList := by
            have : e ∈ es ∧ e.1 = g := by simpa using me
            simpa using this.1
          rw [R.rws] at me
          obtain ⟨p', mp', rfl⟩ := List.mem_map.mp me
          exact ⟨_, _, rfl, R.tps p' mp'⟩
        · try refine wpAny_bind (wpAny_pure ?_)
          exact go_on
    · rw [res, show c + (C - c) = C by omega]
      dsimp only
      refine wpAny_pure (no fun m => ?_)
      obtain ⟨p, mp, e⟩ := List.mem_map.mp m
      obtain ⟨i, li, ei⟩ := List.getElem_of_mem mp
      have h' : L[i]? = some p := by rw [List.getElem?_eq_getElem li, ei]
      obtain ⟨d, b1, b2, b3⟩ := ahead i p h' e
      exact none' (d - c) i (by omega) (by rw [show c + (d - c) = d by omega]; exact b3) (hash i p h' e)
theorem MT.search (R : MT P w s.heap a L es ep t) {x : Addr} {k : List Int} (hx : IsT P w s.heap k x) (hu : A.units < cLine) {Q : SetFound → Shared → Prop} (yes : k ∈ L.map (·.2) → Q (.there none) s)
    (no : ∀ C, k ∉ L.map (·.2) → way t.mask (thash P w k) C ∉ t.place.toList → (∀ d < C, way t.mask (thash P w k) d ∈ t.place.toList) → Q (.free (way t.mask (thash P w k) C) false) s) :
    wpAny (model P w) A (setSearch a (.ref x) (thash P w k) true) Q E s := by
  have rm := R.roomy
  have big := R.tb.pow.le
  obtain ⟨C, hC, free, full⟩ := R.tb.gap (by rw [hashes, List.length_map]; omega) (thash P w k)
  have t15 : SetTable.turns t.mask = t.mask + 15 := rfl
  unfold setSearch
  refine R.seek hx hu hC free full yes (fun n => no C n free full) 100000 0 none rfl (Nat.zero_le _) (by omega) fun i p hp e => ?_
  have li : i < t.place.toList.length := by
    rw [Array.length_toList, R.place]
    exact (List.getElem?_eq_some_iff.mp hp).1
  obtain ⟨d, ld, e2⟩ := R.tb.ahead (i := i) free (by rw [hashes, List.getElem?_map, hp, ← e]; rfl) (List.getElem?_eq_getElem li)
  exact ⟨d, Nat.zero_le _, ld, by rw [e2]; exact List.getElem?_eq_getElem li⟩
theorem MT.relay {o : Obj} (go : s.heap.get? a = some o) (xo : o.ExactSet) (dat : o.data = .set es ep t) (rws : es.toList = rowsOf P w L) (pl : t.place.size = es.size) (dm : t.dummies = #[]) (fl : es.size ≤ t.mask)
    (nd : (L.map (·.2)).Nodup) (tps : ∀ p ∈ L, IsT P w s.heap p.2 p.1) (pn : t.plain = true) (led : w.params.followText "set-order" = true ∨ t.led = true) {wt m : Nat} (hw : SetTable.sizeAbove wt = m + 1) (hm : Mk m) (rm : L.length * 5 < m * 3)
    {Q : Unit → Shared → Prop} (hQ : ∀ h' L' es' ep' t', Heap.SameBut a s.heap h' → MT P w h' a L' es' ep' t' → t'.mask = m → L'.Perm L → Q () { s with heap := h' }) : wpAny (model P w) A (setRelay a wt) Q E s := by
  have sz := rows_size rws
  have big := hm.le
  obtain ⟨t', od, e, pm, T, em, el, ep'⟩ := relaid_tab t (hs := es.map (·.1)) hw hm (by rw [Array.size_map, sz]; omega)
  rw [Array.size_map, sz] at pm
  obtain ⟨L2, r1, r2, r3⟩ := order_rows L es od rws pm
  rw [← r3] at T
  have sz2 : (od.filterMap (es[·]?)).size = es.size := (rows_size r1).trans (r2.length_eq.trans sz.symm)
  have line := sizeLine_eq
  rw [setRelay_eq]
  refine wpAny_bind (wpAny_setState_of go dat (fits_of pl dm fl) ?_)
  dsimp only
  refine wp_if_neg (by omega) ?_
  try refine wpAny_bind (wpAny_pure ?_)
  rw [e]
  dsimp only
  refine wpAny_bind (wp_if_neg (by simp [sz2]) ?_)
  try refine wpAny_bind (wpAny_pure ?_)
  refine wpAny_pure ?_
  dsimp only
  have but : Heap.SameBut a s.heap (s.heap.update a (Obj.putSet (od.filterMap (es[·]?)) t')) := Heap.SameBut.update ..
  refine wpAny_storeSet_of go dat (hQ _ L2 _ (ep + 1) t' but ⟨⟨_, store_at go dat, ⟨xo.1, xo.2.1, xo.2.2⟩, rfl⟩, r1, T, (r2.map (·.2)).nodup_iff.mpr nd, fun p mp => isT_same (tps p (r2.mem_iff.mp mp)) go dat but, ep' ▸ pn, el ▸ led, ?_⟩ em r2) (by omega)
  rw [r2.length_eq, em]
  exact rm
theorem mk7 : Mk 7 := ⟨3, rfl, by decide, by decide⟩
/-- the next size of a table -/
theorem next_size {n m : Nat} (hm : m = 7 ∨ m = 31 ∨ m = 127 ∨ m = 511 ∨ m = 2047) (l : n * 5 < m * 3) (u : (n + 1) * 5 ≥ m * 3) : ∃ m', SetTable.sizeAbove (SetTable.grown (n + 1)) = m' + 1 ∧ Mk m' ∧ (n + 1) * 5 < m' * 3 ∧ (m' = 31 ∨ m' = 127 ∨ m' = 511 ∨ m' = 2047 ∨ m' = 8191) := by
  rcases hm with e | e | e | e | e <;> subst e
  · obtain rfl : n = 4 := by omega
    exact ⟨31, by decide +kernel, ⟨5, rfl, by decide, by decide⟩, by decide, .inl rfl⟩
  · obtain rfl : n = 18 := by omega
    exact ⟨127, by decide +kernel, ⟨7, rfl, by decide, by decide⟩, by decide, .inr (.inl rfl)⟩
  · obtain rfl : n = 76 := by omega
    exact ⟨511, by decide +kernel, ⟨9, rfl, by decide, by decide⟩, by decide, .inr (.inr (.inl rfl))⟩
  · obtain rfl : n = 306 := by omega
    exact ⟨2047, by decide +kernel, ⟨11, rfl, by decide, by decide⟩, by decide, .inr (.inr (.inr (.inl rfl)))⟩
  · obtain rfl : n = 1228 := by omega
    exact ⟨8191, by decide +kernel, ⟨13, rfl, by decide, by decide⟩, by decide, .inr (.inr (.inr (.inr rfl)))⟩
end
end Vx
namespace Vx
open PySem PySem.Spec PyProof.Rows L2
section
variable {P : Program} {w : World} {A : Around} {E : Value → Shared → Prop} {s : Shared} {a : Addr} {L : List (Addr × List Int)} {es : Array (Int × Value)} {ep : Nat} {t : SetTable}
def Size6 (m : Nat) : Prop := m = 7 ∨ m = 31 ∨ m = 127 ∨ m = 511 ∨ m = 2047 ∨ m = 8191
/-- one tuple added -/
theorem MT.add (R : MT P w s.heap a L es ep t) (z6 : Size6 t.mask) {x : Addr} {k : List Int} (hx : IsT P w s.heap k x) (hu : A.units < cLine) (few : L.length < 4500) {Q : Bool → Shared → Prop}
    (hQ : ∀ b h' L' es' ep' t', Heap.SameBut a s.heap h' → MT P w h' a L' es' ep' t' → Size6 t'.mask → ((k ∈ L.map (·.2) ∧ L' = L) ∨ (k ∉ L.map (·.2) ∧ L'.Perm ((x, k) :: L))) → Q b { s with heap := h' }) :
    wpAny (model P w) A (setAddHashed a (.ref x) (thash P w k)) Q E s := by
  obtain ⟨o, go, xo, dat⟩ := R.obj
  have sz := R.sz
  have rm := R.roomy
  have line := sizeLine_eq
  unfold setAddHashed
  rw [show (100000 : Nat) = 99999 + 1 from rfl]
  refine wpAny_holding ?_
  rw [setAddHashedIn_succ]
  refine wpAny_bind (wpAny_setState_of go dat R.fit ?_)
  dsimp only
  refine wp_if_neg (by simp [byScan, Value.scannable]) ?_
  try refine wpAny_bind (wpAny_pure ?_)
  refine wpAny_bind (R.search hx hu (fun m => ?_) fun C m free full => ?_)
  · dsimp only
    exact wpAny_pure (hQ false s.heap L es ep t (Heap.SameBut.refl a s.heap) R z6 (.inl ⟨m, rfl⟩))
  · dsimp only
    refine wpAny_bind (wpAny_setState_of go dat R.fit ?_)
    dsimp only
    obtain ⟨p, ep1, lp, T1, fl⟩ := R.tb.more free full
    have pn1 : (t.put (way t.mask (thash P w k) C)).1.plain = true := R.pln
    have ld1 : w.params.followText "set-order" = true ∨ (t.put (way t.mask (thash P w k) C)).1.led = true := R.ld
    have mk1 : (t.put (way t.mask (thash P w k) C)).1.mask = t.mask := rfl
    generalize hpt : t.put (way t.mask (thash P w k) C) = pt at ep1 T1 fl pn1 ld1 mk1 ⊢
    obtain ⟨t1, p1⟩ := pt
    dsimp only at ep1 T1 fl pn1 ld1 mk1 ⊢
    subst ep1
    first
      | (refine wpAny_bind ?_; refine wp_if_pos pn1 ?_; refine hashBy_tup hx ?_)
      | refine wp_if_pos pn1 (wpAny_bind (hashBy_tup hx ?_))
    simp only [if_true]
    have ins : (SetTable.insertAt es p1 (thash P w k, Value.ref x)).toList = rowsOf P w (L.take p1 ++ (x, k) :: L.drop p1) := by
      rw [SetTable.toList_insertAt, R.rws, rows_put]
    have pm := put_perm L p1 (x, k)
    have hh : (hashes P w L).take p1 ++ thash P w k :: (hashes P w L).drop p1 = hashes P w (L.take p1 ++ (x, k) :: L.drop p1) := by
      unfold hashes
      rw [List.map_append, List.map_cons, List.map_take, List.map_drop]
    rw [hh] at T1
    rw [hashes, List.length_map] at fl
    generalize SetTable.insertAt es p1 (thash P w k, Value.ref x) = es1 at ins ⊢
    generalize L.take p1 ++ (x, k) :: L.drop p1 = L1 at pm T1 ins
    have l1 : L1.length = L.length + 1 := pm.length_eq
    have sz1 : es1.size = L.length + 1 := (rows_size ins).trans l1
    have nd1 : (L1.map (·.2)).Nodup := (pm.map (·.2)).nodup_iff.mpr (List.nodup_cons.mpr ⟨m, R.ndp⟩)
    refine wpAny_bind (wpAny_storeSet_of go dat ?_ (by omega))
    have but : Heap.SameBut a s.heap (s.heap.update a (Obj.putSet es1 t1)) := Heap.SameBut.update ..
    have go1 := store_at (es' := es1) (t' := t1) go dat
    generalize s.heap.update a (Obj.putSet es1 t1) = h1 at but go1 ⊢
    have tps1 : ∀ p ∈ L1, IsT P w h1 p.2 p.1 := fun p mp => (List.mem_cons.mp (pm.mem_iff.mp mp)).elim (fun e => e ▸ isT_same hx go dat but) fun mp => isT_same (R.tps p mp) go dat but
    have pl1 : t1.place.size = L1.length := T1.size.trans (List.length_map _)
    by_cases full1 : t1.tooFull = true
    · first
        | (refine wpAny_bind ?_; refine wp_if_pos (by simp [full1]) ?_)
        | (refine wp_if_pos (by simp [full1]) ?_; refine wpAny_bind ?_)
      have up : (L.length + 1) * 5 ≥ t.mask * 3 := by
        unfold SetTable.tooFull at full1
        rw [decide_eq_true_eq, fl, mk1] at full1
        exact full1
      have z5 : t.mask = 7 ∨ t.mask = 31 ∨ t.mask = 127 ∨ t.mask = 511 ∨ t.mask = 2047 := by
        rcases z6 with z | z | z | z | z | z
        · exact .inl z
        · exact .inr (.inl z)
        · exact .inr (.inr (.inl z))
        · exact .inr (.inr (.inr (.inl z)))
        · exact .inr (.inr (.inr (.inr z)))
        · omega
      obtain ⟨m', e1, e2, e3, e4⟩ := next_size z5 rm up
      rw [sz]
      refine MT.relay (s := { s with heap := h1 }) (L := L1) go1 ⟨xo.1, xo.2.1, xo.2.2⟩ rfl ins (by omega) T1.nodum (by omega) nd1 tps1 pn1 ld1 e1 e2 (by rw [l1]; exact e3) fun h2 L2 es2 ep2 t2 but2 R2 em2 pm2 => ?_
      have l2 : L2.length = L.length + 1 := pm2.length_eq.trans l1
      have z2 : Size6 t2.mask := by
        rw [em2]
        exact .inr e4
      exact wpAny_pure (hQ true h2 L2 es2 ep2 t2 (but.trans but2) R2 z2 (.inr ⟨m, pm2.trans pm⟩))
    · first
        | refine wp_if_neg (by simp [full1]) ?_
        | (refine wpAny_bind ?_; refine wp_if_neg (by simp [full1]) ?_; refine wpAny_pure ?_)
      refine wpAny_pure (hQ true h1 L1 es1 (ep + 1) t1 but ⟨⟨_, go1, ⟨xo.1, xo.2.1, xo.2.2⟩, rfl⟩, ins, T1, nd1, tps1, pn1, ld1, ?_⟩ (mk1 ▸ z6) (.inr ⟨m, pm⟩))
      unfold SetTable.tooFull at full1
      rw [decide_eq_true_eq, fl] at full1
      omega
theorem MT.up {h h' : Heap} (R : MT P w h a L es ep t) (ha : ∀ o, h.get? a = some o → h'.get? a = some o) (ht : ∀ p ∈ L, IsT P w h' p.2 p.1) : MT P w h' a L es ep t := by
  obtain ⟨⟨o, g, r⟩, r1, r2, r3, _, r5, r6, r7⟩ := R
  exact ⟨⟨o, ha o g, r⟩, r1, r2, r3, ht, r5, r6, r7⟩
theorem MT.empty {h : Heap} (ho : h.get? a = some (bareSet w)) : MT P w h a [] #[] 0 (.fresh 0 0 (!w.params.followText "set-order")) := by
  refine ⟨⟨_, ho, ⟨rfl, rfl, rfl⟩, rfl⟩, rfl, ⟨List.Pairwise.nil, rfl, rfl, mk7, fun x m => (by cases m), fun i g j e => (by simp at e)⟩, List.nodup_nil, fun p m => (by cases m), rfl, ?_, (by show 0 * 5 < 7 * 3; decide)⟩
  cases z : w.params.followText "set-order"
  · exact .inr rfl
  · exact .inl rfl
/-- all of them, one after the other -/
theorem add_all {I : Addr} {fp wr : List Addr} {G : Array GenState → Array GenState → Prop} {n : Nat} {Pv : Nat → Value → Prop} {St : Nat → Shared → Prop} {Z : Result → Shared → Prop} (W : WalksS P w A.in1 I fp wr G n Pv St) (S : Addr) (out : S ∉ fp)
    (ks : List (Addr × List Int)) (hn : n = ks.length) (few : ks.length ≤ 4500) (val : ∀ i v, Pv i v → ∃ p, ks[i]? = some p ∧ v = .ref p.1) (h0 : Heap) (hk : ∀ p ∈ ks, IsT P w h0 p.2 p.1) (nS : h0.get? S = none) (nw : ∀ b ∈ wr, h0.get? b = none) (hu : A.in1.units < cLine) :
    ∀ (d i : Nat) (s : Shared), i + d = n → St i s → (∀ b o, h0.get? b = some o → s.heap.get? b = some o) → (∃ L es ep t, MT P w s.heap S L es ep t ∧ Size6 t.mask ∧ Got ks i L) →
      (∀ s' L es ep t, Moved (S :: wr) G s s' → MT P w s'.heap S L es ep t → Size6 t.mask → Got ks n L → Z (.ok (.ret .none)) s') →
      codeAny (model P w) A (.builtin "set.update.loop" ⟨[.ref S, .ref I], []⟩) Z s := by
  have offw : S ∉ wr := fun m => out (W.sub _ m)
  have wider : ∀ b ∈ wr, b ∈ S :: wr := fun b m => List.mem_cons_of_mem _ m
  have still : ∀ {s s' : Shared}, Moved wr G s s' → (∀ b o, h0.get? b = some o → s.heap.get? b = some o) → ∀ b o, h0.get? b = some o → s'.heap.get? b = some o := fun mv kp b o e =>
    mv.heap b o (fun m => by rw [nw b m] at e; cases e) (kp b o e)
  intro d
  induction d with
  | zero =>
    intro i s hi st kp ⟨L, es, ep, t, hS, z6, g⟩ fin
    obtain rfl : i = n := hi
    refine codeAny_builtin F.entry_set_update_loop ?_
    rw [Around.under_plainId F.plain_set_update_loop _]
    show wpAny _ A.in1 (pyNext (.ref I) >>= _) _ _ s
    refine wpAny_bind (W.done s _ _ st fun s' mv => ?_)
    exact wpAny_pure (fin s' L es ep t (mv.mono wider) (hS.up (fun o e => mv.heap S o offw e) fun p mp => isT_keep (hk p (List.mem_of_mem_take (g.sub p mp))) (still mv kp)) z6 g)
  | succ d ih =>
    intro i s hi st kp ⟨L, es, ep, t, hS, z6, g⟩ fin
    refine codeAny_builtin F.entry_set_update_loop ?_
    rw [Around.under_plainId F.plain_set_update_loop _]
    show wpAny _ A.in1 (pyNext (.ref I) >>= _) _ _ s
    refine wpAny_bind (W.item i s _ _ (by omega) st fun v s' pv st' mv => ?_)
    obtain ⟨p, hp, rfl⟩ := val i v pv
    have kp' := still mv kp
    have hS' : MT P w s'.heap S L es ep t := hS.up (fun o e => mv.heap S o offw e) fun q mq => isT_keep (hk q (List.mem_of_mem_take (g.sub q mq))) kp'
    have hx : IsT P w s'.heap p.2 p.1 := isT_keep (hk p (List.mem_of_getElem? hp)) kp'
    show wpAny _ A.in1 (holding [Value.ref p.1] (setAdd S (.ref p.1)) >>= _) _ _ s'
    unfold setAdd
    refine wpAny_bind (wpAny_holding (wpAny_holding (wpAny_bind (wpAny_pyHash_tuple hu hx ?_))))
    have gl := g.len
    have li := (List.getElem?_eq_some_iff.mp hp).1
    refine MT.add (s := { s' with toks := s'.toks + (p.2.length + 1) }) hS' z6 hx hu (by omega) fun b h' L' es' ep' t' but hS2 z6' which => ?_
    have g' : Got ks (i + 1) L' := by
      rcases which with ⟨m, rfl⟩ | ⟨_, pm⟩
      · exact g.same hp m
      · exact g.more hp pm
    have kp2 : ∀ b o, h0.get? b = some o → h'.get? b = some o := fun b o e => by
      rw [but.2 b fun z => by rw [z, nS] at e; cases e]
      exact kp' b o e
    refine wpAny_pure ⟨plainId_quiet F.plain_set_update_loop _, ih (i + 1) _ (by omega) (W.frame _ s' _ _ st' (Nat.le_add_right _ _) fun b mb o e => ?_) kp2 ⟨L', es', ep', t', hS2, z6', g'⟩ fun s2 L2 es2 ep2 t2 mv2 r2 z2 g2 => ?_⟩
    · show h'.get? b = some o
      rw [but.2 b fun z : b = S => out (z ▸ mb)]
      exact e
    · refine fin s2 L2 es2 ep2 t2 (Moved.trans W.gtrans ((mv.mono wider).then_heap (Nat.le_add_right _ _) fun b o mb e => ?_) mv2) r2 z2 g2
      show h'.get? b = some o
      rw [but.2 b fun z : b = S => mb (z ▸ List.mem_cons_self)]
      exact e
theorem set_of_tups {l : Addr} {its : Array Value} (ks : List (Addr × List Int)) {Q : Value → Shared → Prop} (calm : A.handled = none) (hl : s.heap.IsList l its) (hi : its.toList = ks.map fun p => Value.ref p.1) (hk : ∀ p ∈ ks, IsT P w s.heap p.2 p.1) (few : ks.length ≤ 4500) (hu : A.units + 3 < cLine)
    (k : ∀ (g : Heap) (tk : Nat) L es ep t, MT P w g s.heap.objs.size L es ep t → Size6 t.mask → Got ks ks.length L → (∀ b o, s.heap.get? b = some o → g.get? b = some o) → Q (.ref s.heap.objs.size) { s with heap := g, toks := tk }) :
    wpAny (model P w) A (call (.type "set") [.ref l]) Q E s := by
  have len : its.size = ks.length := by rw [← Array.length_toList, hi, List.length_map]
  obtain ⟨c0, tl, hmro⟩ := F.called_set.mro
  have hmade := F.called_set.made
  have hsub := F.called_set.sub
  refine wpAny_call (codeAny_of_tree ?_)
  show wpAny _ _ (callAny (.type "set") _) _ _ _
  refine wpAny_pure ⟨Code.quiet_builtin _ (by decide +kernel), codeAny_builtin F.entry_type_call ?_⟩
  rw [Around.under_plain (weight_type_call_type "set" [.ref l] []) rfl]
  have n1 := F.called_set.notType
  have n2 := F.called_set.canCreate
  have n3 := F.typeCall_set_1 (.ref l)
  repeat (any_goals (first | assumption | wp_step))
  refine codeAny_mono (code_set_led1 (.ref l) (E := E) (Q₁ := fun ob s1 => ob = .ref s.heap.objs.size ∧ s1 = { s with heap := s.heap.push (bareSet w) }) ⟨rfl, rfl⟩) fun r s1 hr => ?_
  rcases r with e | fl
  · exact hr
  cases fl with
  | ret ob =>
    obtain ⟨rfl, rfl⟩ := hr
    have at0 : (s.heap.push (bareSet w)).get? s.heap.objs.size = some (bareSet w) := Heap.get?_push_size _ rfl
    have ty0 : Shared.TypeIs { s with heap := s.heap.push (bareSet w) } (.ref s.heap.objs.size) "set" := ⟨_, at0, rfl⟩
    have i1 := F.called_set.init.lookup
    have i2 := F.called_set.init.bind (.ref s.heap.objs.size)
    repeat (any_goals (first | assumption | wp_step))
    refine codeAny_mono (codeAny_call_builtin (R := wants (fun v s2 => v = .none ∧ ∃ g tk L es ep t, s2 = { s with heap := g, toks := tk } ∧ MT P w g s.heap.objs.size L es ep t ∧ Size6 t.mask ∧ Got ks ks.length L ∧
        (∀ b o, s.heap.get? b = some o → g.get? b = some o)) E) F.called_set.init.plain F.entry_set_init (check_set_init_1 ty0 ?_)) fun r2 s2 hr2 => ?_
    · obtain ⟨⟨oc, od, ob, osl⟩, hol, hcl, nl, hdl⟩ := hl
      simp only at hcl hdl
      subst hcl hdl
      have at1 : (s.heap.push (bareSet w)).get? l = some { cls := .type "list", dict := od, data := .seq its nl, slots := osl } := Heap.get?_push_of_some _ hol
      have q1 := F.sub_list_set
      have q2 := F.sub_list_frozenset
      have q3 : (Value.type "list" == Value.type "dict") = false := by decide
      have isl : (s.heap.push (bareSet w)).IsList l its := ⟨_, at1, rfl, nl, rfl⟩
      unfold Builtin.«set.__init__» noKeywords Builtin.Frozenset.updateFrom
      generalize hPI : pyIter = PI
      wp_walk
      subst hPI
      refine wpAny_pyIter_list isl ?_
      refine wpAny_bind (wpAny_runValue ?_)
      have lS : l < s.heap.objs.size := Heap.lt_size hol
      have calm3 : A.in1.in1.in1.handled = none := by simp [calm]
      have neI : l ≠ (s.heap.push (bareSet w)).objs.size := by
        rw [Heap.size_push]
        exact Nat.ne_of_lt (Nat.lt_succ_of_lt lS)
      have noS : s.heap.objs.size ∉ [(s.heap.push (bareSet w)).objs.size, l] := by
        rw [Heap.size_push]
        simp only [List.mem_cons, List.mem_singleton, List.not_mem_nil, or_false, not_or]
        exact ⟨Nat.ne_of_lt (Nat.lt_succ_self _), Nat.ne_of_gt lS⟩
      have item : ∀ (i : Nat) (v : Value), its[i]? = some v → ∃ p, ks[i]? = some p ∧ v = .ref p.1 := fun i v hv => by
        rw [← Array.getElem?_toList, hi, List.getElem?_map] at hv
        obtain ⟨p, hp, rfl⟩ := Option.map_eq_some_iff.mp hv
        exact ⟨p, hp, rfl⟩
      have bare : ∀ b, s.heap.objs.size ≤ b → s.heap.get? b = none := fun b le => Option.eq_none_iff_forall_ne_some.mpr fun o e => by
        exact Nat.lt_irrefl _ (Nat.lt_of_lt_of_le (Heap.lt_size e) le)
      refine add_all ((Walks.list calm3 _ l neI its).toS) s.heap.objs.size noS ks len few item s.heap hk (bare _ (Nat.le_refl _)) (fun b mb => bare b (by
          rw [List.mem_singleton.mp mb, Heap.size_push]
          exact Nat.le_succ _)) hu its.size 0 _ (Nat.zero_add _) ⟨⟨_, Heap.get?_push_size _ rfl, rfl, rfl⟩, (isl.push _)⟩ (fun b o e => Heap.get?_push_of_some _ (Heap.get?_push_of_some _ e)) ?s0 ?fin
      case s0 => exact ⟨[], #[], 0, _, MT.empty (Heap.get?_push_of_some _ at0), .inl rfl, Got.zero ks⟩
      case fin =>
        intro s3 L es ep t mv hS3 z6 g3
        obtain ⟨g, ge, dr, t3, os3⟩ := s3
        cases (show ge = s.gens from mv.gens)
        cases (show dr = s.drawn from mv.drawn)
        cases (show os3 = s.os from mv.os)
        show wpAny _ _ _ _ _ _
        refine wpAny_pure ?_
        show wpAny _ _ (ret Value.none) _ _ _
        rw [len] at g3
        refine wpAny_pure ⟨rfl, g, t3, L, es, ep, t, rfl, hS3, z6, g3, fun b o e => ?_⟩
        have b0 : b < s.heap.objs.size := Heap.lt_size e
        have b2 : b ≠ (s.heap.push (bareSet w)).objs.size := by
          rw [Heap.size_push]
          exact Nat.ne_of_lt (Nat.lt_succ_of_lt b0)
        exact mv.heap b o (by simp only [List.mem_cons, List.mem_singleton, List.not_mem_nil, or_false, not_or]; exact ⟨Nat.ne_of_lt b0, b2⟩) (Heap.get?_push_of_some _ (Heap.get?_push_of_some _ e))
    · rcases r2 with e | fl2
      · exact hr2
      cases fl2 with
      | ret v =>
        obtain ⟨rfl, g, tk, L, es, ep, t, rfl, hS, z6, hg, hk'⟩ := hr2
        repeat (any_goals (first | assumption | wp_step))
        exact k _ _ _ _ _ _ hS z6 hg hk'
      | _ => exact hr2.elim
  | _ => exact hr.elim
end
/-- such a set, its tuples told apart from it -/
def SetM (P : Program) (w : World) (a : Addr) (L : List (Addr × List Int)) : HO := .ext fun h => ∃ es ep t, (∃ o, h.get? a = some o ∧ o.ExactSet ∧ o.data = .set es ep t) ∧ es.toList = rowsOf P w L ∧ Tab t (hashes P w L) ∧ (L.map (·.2)).Nodup ∧ t.plain = true ∧
  (w.params.followText "set-order" = true ∨ t.led = true) ∧ L.length * 5 < t.mask * 3
theorem setM_new {P : Program} {w : World} {H : Hp} {h : Heap} {a : Addr} {L : List (Addr × List Int)} {es : Array (Int × Value)} {ep : Nat} {t : SetTable} (R : MT P w h a L es ep t) : ObjOk P w H h a (SetM P w a L) := by
  obtain ⟨⟨o, g, r⟩, r1, r2, r3, _, r5, r6, r7⟩ := R
  refine ⟨⟨es, ep, t, ⟨o, g, r⟩, r1, r2, r3, r5, r6, r7⟩, ⟨o, g⟩, fun h1 h2 p k => ?_⟩
  obtain ⟨es', ep', t', ⟨o', g', r'⟩, q⟩ := p
  exact ⟨es', ep', t', ⟨o', k o' g', r'⟩, q⟩
def SetB (P : Program) (w : World) (H : Hp) (a : Addr) (ps : List Pr) : Prop :=
  ∃ L : List (Addr × List Int), H a = some (SetM P w a L) ∧ L.length ≤ 4090 ∧ (∀ q ∈ L, q.2.length = 2 ∧ H q.1 = some (.tup (q.2.map V.int))) ∧ ∀ x, x ∈ L.map (fun q => pr q.2) ↔ x ∈ ps
section
variable {X : Cx}
theorem cr_setB (hc : X.calm = true) (hu : X.A.units + 64 < cLine) : CallR X (.type "set") (fun xs H Q => ∃ l ps, xs = [V.ref l] ∧ Cells H l ps ∧ ps.length ≤ 4090 ∧
    ∀ a H', Same H H' → H a = none → SetB X.prog X.w H' a ps → Q (.ref a) H') := by
  intro pins s σ H xs us Q I r h
  obtain ⟨l, ps, rfl, ⟨ts, hl, ht, rfl⟩, few, q⟩ := h
  rw [List.length_map] at few
  rw [Vals.ref1 r]
  obtain ⟨its, rv, pl, hz⟩ := I.list (lst_of hl)
  have n : H s.heap.objs.size = none := I.hok.fresh (Nat.le_refl _)
  have each : ∀ t ∈ ts, H t.1 = some (.tup (([t.2.1, t.2.2] : List Int).map V.int)) := ht
  have er : its = ts.map fun t => Value.ref t.1 := by
    refine refs_of_vals (ks := ts.map fun t => (t.1, ([t.2.1, t.2.2] : List Int))) ?_ |>.trans ?_
    · rw [List.map_map]
      exact rv
    · rw [List.map_map]
      rfl
  refine set_of_tups (P := X.prog) (w := X.w) (ts.map fun t => (t.1, [t.2.1, t.2.2])) (I.ok.hd hc) pl.isList (by simp [er]) (fun p mp => ?_) (by rw [List.length_map]; omega) (by omega) fun g tk L es ep t R _ got k => ?_
  · obtain ⟨t, mt, rfl⟩ := List.mem_map.mp mp
    exact I.isT (tup_of (each t mt))
  · have sub : ∀ p ∈ L, ∃ t ∈ ts, p = (t.1, [t.2.1, t.2.2]) := fun p mp => by
      obtain ⟨t, mt, e⟩ := List.mem_map.mp (List.mem_of_mem_take (got.sub p mp))
      exact ⟨t, mt, e.symm⟩
    have gl := got.len
    rw [List.length_map] at gl
    refine ⟨.ref s.heap.objs.size, upd H s.heap.objs.size (SetM X.prog X.w s.heap.objs.size L), I.laid (t' := tk) k (Nat.le_refl _) (setM_new R), rfl, q _ _ (newS n) n ⟨L, upd_same, by omega, fun p mp => ?_, fun x => ⟨fun m => ?_, fun m => ?_⟩⟩⟩
    · obtain ⟨t, mt, rfl⟩ := sub p mp
      exact ⟨rfl, newS n _ _ (each t mt)⟩
    · obtain ⟨p, mp, rfl⟩ := List.mem_map.mp m
      obtain ⟨t, mt, rfl⟩ := sub p mp
      exact List.mem_map.mpr ⟨t, mt, rfl⟩
    · obtain ⟨t, mt, rfl⟩ := List.mem_map.mp m
      obtain ⟨p, mp, e⟩ := List.mem_map.mp (got.all (t.1, [t.2.1, t.2.2]) (by rw [List.take_length]; exact List.mem_map.mpr ⟨t, mt, rfl⟩))
      exact List.mem_map.mpr ⟨p, mp, by rw [e]; rfl⟩
end
end Vx
namespace Vx
open PySem PySem.Spec PyProof.Rows L2
section
variable {P : Program} {w : World} {A : Around} {E : Value → Shared → Prop} {s : Shared}
/-- the set's members, sorted -/
theorem sorted_pairsB {a : Addr} {L : List (Addr × List Int)} {es : Array (Int × Value)} {ep : Nat} {t : SetTable} {Q : Value → Shared → Prop} (R : MT P w s.heap a L es ep t) (few : L.length ≤ 4090) (hh : A.handled = none) (h2 : ∀ q ∈ L, q.2.length = 2)
    (hQ : ∀ s' p (ts : List (Addr × Pr)) (c : Nat), (∀ b o, s.heap.get? b = some o → s'.heap.get? b = some o) → s'.gens = s.gens → s'.os = s.os → s.heap.objs.size ≤ p →
      s'.heap.get? p = some (seqObj "list" (ts.map fun q => Value.ref q.1).toArray c) → (∀ q ∈ ts, ∃ r ∈ L, r.1 = q.1 ∧ pr r.2 = q.2) → (∀ x, x ∈ ts.map (·.2) ↔ x ∈ L.map fun q => pr q.2) → (ts.map (·.2)).Pairwise ltP → ts.length = L.length → Q (.ref p) s') :
    wpAny (model P w) A (call (.builtin "sorted") [.ref a]) Q E s := by
  obtain ⟨o, go, xo, dat⟩ := R.obj
  refine Calls.call_function_entry kind_sorted plain_sorted entry_sorted (args_sorted1 _) ?_
  unfold Builtin.«sorted»
  refine wpAny_bind (m := checkCount "sorted" 1 1 _) (wpAny_pure ?_)
  refine wpAny_bind (collect_set (A := A.in1) hh ⟨o, go, xo.1, dat⟩ R.fit (by rw [R.sz]; unfold scanBound; omega) R.tb.up R.ld fun s1 vs keep sz gg oo pm => ?_)
  have em : es.toList.map (·.2) = L.map fun q => Value.ref q.1 := by
    rw [R.rws]
    show (L.map fun q => (thash P w q.2, Value.ref q.1)).map (·.2) = _
    rw [List.map_map] <;> rfl
  rw [em] at pm
  have vl : vs.length = L.length := by rw [pm.length_eq, List.length_map]
  have lim : vs.length ≤ sizeLine := by
    rw [sizeLine_eq]
    omega
  refine wpAny_bind (wpAny_newList ?_ lim)
  have gl : (s1.heap.push (seqObj "list" vs.toArray 0)).get? s1.heap.objs.size = some (seqObj "list" vs.toArray 0) := Heap.get?_push_size _ rfl
  generalize hh1 : s1.heap.push (seqObj "list" vs.toArray 0) = h1 at gl
  have keep1 : ∀ b u, s1.heap.get? b = some u → h1.get? b = some u := fun b u e => by
    rw [← hh1]
    exact Heap.get?_push_of_some _ e
  have tin : ∀ q ∈ L, TS.TupInts h1 (.ref q.1) q.2 := fun q m => tupInts_of (P := P) (w := w) (isT_keep (R.tps q m) fun b u e => keep1 b u (keep b u e))
  have mem : ∀ v ∈ vs, ∃ q ∈ L, v = Value.ref q.1 := fun v m => by
    obtain ⟨q, m1, e⟩ := List.mem_map.mp (pm.mem_iff.mp m)
    exact ⟨q, m1, e.symm⟩
  have key : ∀ q ∈ L, pr (TS.intsOf h1 (.ref q.1)) = pr q.2 := fun q m => by rw [(tin q m).ints]
  have isP : ∀ v ∈ vs, Srt.IsPair h1 v (pr (TS.intsOf h1 v)).1 (pr (TS.intsOf h1 v)).2 := fun v m => by
    obtain ⟨q, m1, rfl⟩ := mem v m
    rw [key q m1]
    have i := tin q m1
    have l2 := len2 (h2 q m1)
    rw [l2] at i
    obtain ⟨b, items, eb, ⟨o1, go1, co1, n1, do1⟩, ia⟩ := i
    cases eb
    obtain ⟨xs⟩ := items
    cases ia with
    | cons _ t1 ia =>
      cases ia with
      | cons _ t2 ia =>
        cases ia
        exact ⟨_, o1, t1, t2, n1, rfl, go1, co1, do1⟩
  refine wpAny_bind (wpAny_holding (wpAny_call_entry (s := { s1 with heap := h1 }) slot_list_sort ⟨_, gl, rfl⟩ entry_list_sort (SrtO.list_sort_ord (s := { s1 with heap := h1 }) (SrtO.swo_lex fun v => pr (TS.intsOf h1 v)) gl lim (fun two => SrtO.pairs_sortableO (by omega) isP fun o1 e => ?_) fun out srt stb => ⟨_, rfl, ?_⟩) (args_list_sort _)))
  · have e' : some o1 = some (seqObj "list" vs.toArray 0) := e.symm.trans gl
    cases e'
    intro c
    exact absurd (Value.type.inj c) (by decide)
  · obtain ⟨c, gc⟩ := sortedHeap_at (vs := vs) (out := out.toArray) gl
    have omem : ∀ v ∈ out, ∃ q ∈ L, v = Value.ref q.1 := fun v m => mem v (stb.perm.mem_iff.mp m)
    refine wpAny_pure ⟨_, rfl, hQ _ s1.heap.objs.size (out.map fun v => (adr v, pr (TS.intsOf h1 v))) c (fun b u e => ?_) gg oo sz ?_ ?_ ?_ ?_ ?_⟩
    · have g1 := keep b u e
      have lt1 := Heap.lt_size g1
      show (sortedHeap h1 s1.heap.objs.size vs out.toArray).get? b = some u
      rw [sortedHeap_old (Nat.ne_of_lt lt1) (Heap.lt_size (keep1 b u g1))]
      exact keep1 b u g1
    · have eo : (out.map fun v => (adr v, pr (TS.intsOf h1 v))).map (fun q => Value.ref q.1) = out := by
        rw [List.map_map]
        refine (List.map_congr_left fun v m => ?_).trans (List.map_id _)
        obtain ⟨q, _, rfl⟩ := omem v m
        rfl
      rw [eo]
      exact gc
    · intro q m
      obtain ⟨v, m1, rfl⟩ := List.mem_map.mp m
      obtain ⟨r, mr, rfl⟩ := omem v m1
      exact ⟨r, mr, rfl, (key r mr).symm⟩
    · intro x
      rw [List.map_map]
      constructor
      · intro m
        obtain ⟨v, m1, rfl⟩ := List.mem_map.mp m
        obtain ⟨r, mr, rfl⟩ := omem v m1
        exact List.mem_map.mpr ⟨r, mr, (key r mr).symm⟩
      · intro m
        obtain ⟨r, mr, rfl⟩ := List.mem_map.mp m
        exact List.mem_map.mpr ⟨.ref r.1, stb.perm.mem_iff.mpr (pm.mem_iff.mpr (List.mem_map.mpr ⟨r, mr, rfl⟩)), key r mr⟩
    · rw [List.map_map]
      have nd : ((L.map fun q => Value.ref q.1).map fun v => pr (TS.intsOf h1 v)).Nodup := by
        rw [List.map_map]
        refine List.pairwise_map.mpr ((List.pairwise_map.mp R.ndp).imp_of_mem fun {q r} mq mr ne e => ne ?_)
        refine pr_inj (h2 q mq) (h2 r mr) ?_
        rw [← key q mq, ← key r mr]
        exact e
      have nd2 : (out.map fun v => pr (TS.intsOf h1 v)).Nodup := ((stb.perm.trans pm).map _).nodup_iff.mpr nd
      refine List.pairwise_map.mpr ((srt.and (List.pairwise_map.mp nd2)).imp fun {u v} h => ?_)
      have a1 := SrtO.lexB_no.mp h.1
      refine SrtO.lexB_iff.mpr ?_
      have a2 : ¬ ((pr (TS.intsOf h1 u)).1 = (pr (TS.intsOf h1 v)).1 ∧ (pr (TS.intsOf h1 u)).2 = (pr (TS.intsOf h1 v)).2) := fun e => h.2 (Prod.ext e.1 e.2)
      show (pr (TS.intsOf h1 u)).1 < (pr (TS.intsOf h1 v)).1 ∨ (pr (TS.intsOf h1 u)).1 = (pr (TS.intsOf h1 v)).1 ∧ (pr (TS.intsOf h1 u)).2 < (pr (TS.intsOf h1 v)).2
      omega
    · rw [List.length_map, stb.perm.length_eq, vl]
end
section
variable {X : Cx}
theorem cr_sortedB (hc : X.calm = true) : CallR X (.builtin "sorted") (fun xs H Q => ∃ a ps, xs = [V.ref a] ∧ SetB X.prog X.w H a ps ∧
    ∀ p H' qs, Same H H' → H p = none → Cells H' p qs → qs.Pairwise ltP → (∀ x, x ∈ qs ↔ x ∈ ps) → qs.length ≤ 4090 → Q (.ref p) H') := by
  intro pins s σ H vs us Q I r h
  obtain ⟨a, ps, rfl, ⟨L, ha, few, hL, mem⟩, q⟩ := h
  obtain ⟨es, ep, t, r1, r2, r3, r4, r5, r6, r7⟩ := (I.hok a _ ha).1
  have R : MT X.prog X.w s.heap a L es ep t := ⟨r1, r2, r3, r4, fun p hp => I.isT (tup_of (hL p hp).2), r5, r6, r7⟩
  rw [Vals.ref1 r]
  refine sorted_pairsB R few (I.ok.hd hc) (fun q m => (hL q m).1) fun s' p ts c k g o hp hg own all pw le => ?_
  have lim : (ts.map fun q => V.ref q.1).length ≤ sizeLine := by
    rw [List.length_map, sizeLine_eq]
    omega
  have n : H p = none := I.hok.fresh hp
  have vals : ∀ ts : List (Addr × Pr), Vals (ts.map fun q => V.ref q.1) (ts.map fun q => Value.ref q.1) := fun ts => by
    induction ts with
    | nil => exact .nil
    | cons t ts ih => exact .cons rfl ih
  have J : Inv X pins σ (upd H p (.lst (ts.map fun q => V.ref q.1))) { s with heap := s'.heap, gens := s'.gens, drawn := s'.drawn, toks := s'.toks } :=
    I.call (ch := []) (Un.laid k hp n) (I.hok.laid k hp ⟨lim, _, c, vals ts, hg⟩) (by rw [g]; exact I.bare) (fun _ z => nomatch z)
  have e : s' = { s with heap := s'.heap, gens := s'.gens, drawn := s'.drawn, toks := s'.toks } := by
    obtain ⟨_, _, _, _, _⟩ := s'
    obtain ⟨_, _, _, _, _⟩ := s
    cases o
    rfl
  rw [e]
  have sm : Same H (upd H p (.lst (ts.map fun q => V.ref q.1))) := newS n
  refine ⟨.ref p, _, J, rfl, q p _ (ts.map (·.2)) sm n ⟨ts, upd_same, fun t m => ?_, rfl⟩ pw (fun x => (all x).trans (mem x)) (by rw [List.length_map, le]; exact few)⟩
  obtain ⟨r, mr, e1, e2⟩ := own t m
  have z := sm _ _ (hL r mr).2
  rw [len2 (hL r mr).1, e1, e2] at z
  exact z
end
end Vx
namespace Vx
open PySem PySem.Spec PyProof.Rows L2
section
variable {X : Cx}
/-- xs[j], read for xs[j] op= v -/
theorem pget_list : PGet X (fun o i H Q => ∃ p xs j v, o = .ref p ∧ i = .int ((j : Nat) : Int) ∧ SqL X.K H p xs ∧ xs[j]? = some v ∧ Q v H) := by
  intro pins s σ H o i ov iv Q I ro ri h
  obtain ⟨p, xs, j, v, rfl, rfl, hs, hv, q⟩ := h
  cases ro
  obtain ⟨t, rfl⟩ := ri
  obtain ⟨its, r, pl, hz⟩ := I.list hs
  obtain ⟨w, ew, rw'⟩ := r.get hv
  exact getItem_listL pl.isList (by omega) (by have := line63; have := (List.getElem?_eq_some_iff.mp hv).1; omega) (by simpa using ew) ⟨v, H, I, rw', q⟩
theorem ip_addS : PIp X .Add (fun x y H Q => ∃ i j, x = .str i ∧ y = .str j ∧ i.length + j.length ≤ sizeLine ∧ Q (.str (i ++ j)) H) := fun pins s σ H x y v u Q I r1 r2 h => iop_add_str pins s σ H x y v u Q I r1 r2 h
end
theorem lc_pairs {lo : Int} {n : Nat} {g : TG} {tt : TT} {te : TE} {vs : List Nat} {σ : L2.St} {H1 : Hp} {D : Addr} {Qd : Hp → Prop} (f : Nat → Pr) (nD : H1 D = none) (few : n < sizeLine)
    (hs : ∀ (i : Nat) (H' : Hp) (Po : V → Hp → Prop) (Pn : Hp → Prop), i < n → Same H1 H' → (∀ t2, H' t2 = none → Po (.ref t2) (upd H' t2 (.tup [.int (f i).1, .int (f i).2]))) →
      g (.int (lo + i)) (wipe σ vs) H' fun σ2 H2 => wipe σ2 vs = wipe σ vs ∧ tt σ2 H2 fun b H3 => if b = true then te σ2 H3 Po else Pn H3)
    (hd : ∀ (H' : Hp) (us : List (Addr × Pr)), Same H1 H' → H' D = some (.lst (us.map fun t => V.ref t.1)) → (∀ t ∈ us, H' t.1 = some (.tup [.int t.2.1, .int t.2.2])) → us.map (·.2) = (List.range n).map f → Qd H') :
    ∃ W : Nat → Nat → Hp → Prop, (∃ m, W 0 m (upd H1 D (.lst []))) ∧ ∀ i m H, W i m H →
      ((Itr lo n).stop i H ∧ Qd H) ∨ ((Itr lo n).go i H ∧ ∃ Nx : Hp → Prop, (∀ H', Nx H' → ∃ m', m' < m ∧ W (i + 1) m' H') ∧ ∀ x H', (Itr lo n).yld i H x H' → g x (wipe σ vs) H' fun σ2 H2 => wipe σ2 vs = wipe σ vs ∧ tt σ2 H2 fun b H3 =>
        if b = true then te σ2 H3 fun y H4 => ∃ acc, H4 D = some (.lst acc) ∧ acc.length < sizeLine ∧ Nx (upd H4 D (.lst (acc ++ [y]))) else Nx H3) := by
  refine lc_range (lo := lo) (n := n) (fun i H' => Same H1 H' ∧ ∃ us : List (Addr × Pr), H' D = some (.lst (us.map fun t => V.ref t.1)) ∧ (∀ t ∈ us, H' t.1 = some (.tup [.int t.2.1, .int t.2.2])) ∧ us.map (·.2) = (List.range i).map f)
    ⟨newS nD, [], upd_same, fun _ m => (by cases m), rfl⟩ ?_ ?_
  · rintro i H' hi ⟨sm, us, h1, h2, h3⟩
    have ul : us.length = i := by
      have z := congrArg List.length h3
      rw [List.length_map, List.length_map, List.length_range] at z
      exact z
    refine hs i H' _ _ hi sm fun t2 n2 => ⟨us.map fun t => V.ref t.1, newS n2 _ _ h1, ?_, mutS (sm.trans (newS n2)) nD, us ++ [(t2, f i)], ?_, ?_, ?_⟩
    · rw [List.length_map, ul]
      omega
    · rw [upd_same, List.map_append]
      rfl
    · have nD2 : t2 ≠ D := fun e => by
        rw [e, h1] at n2
        cases n2
      intro u m
      rcases List.mem_append.mp m with m | m
      · have z := h2 u m
        rw [upd_ne (fun e => ?_)]
        · exact newS n2 _ _ z
        · rw [e, h1] at z
          cases z
      · rw [List.mem_singleton.mp m, upd_ne nD2, upd_same]
    · rw [List.map_append, h3, List.range_succ, List.map_append]
      rfl
  · rintro H' ⟨sm, us, h1, h2, h3⟩
    exact hd H' us sm h1 h2 h3
/-- a pair in a list of pairs -/
theorem any_pd (p : Pr) : ∀ ps : List Pr, (ps.map pd).any (fun z => PyData.eqv z (pd p)) = decide (p ∈ ps)
  | [] => by simp
  | q :: ps => by
    rw [List.map_cons, List.any_cons, any_pd p ps, eqv_pd]
    by_cases e : q = p
    · subst e
      simp
    · have e2 : ¬ p = q := fun z => e z.symm
      simp [e, e2]
theorem shaped_pd (p : Pr) : SeqAt.shaped (pd p) = true := by
  unfold SeqAt.shaped pd
  simp [PyData.canLay0, PyData.canLayAll0, PyData.depth, PyData.depthAll]
theorem op_inP {X : Cx} (hu : X.A.units + 65 < cLine) : OpR X (compareOp .In) (fun x y H Q => ∃ (t a : Addr) (p : Pr) (ps : List Pr), x = .ref t ∧ y = .ref a ∧ H t = some (.tup [.int p.1, .int p.2]) ∧ Cells H a ps ∧ Q (.bl (decide (p ∈ ps))) H) := by
  intro pins s σ H x y v u Q I rx ry h
  obtain ⟨t, a, p, ps, rfl, rfl, ht, hc, q⟩ := h
  refine op_inD hu pins s σ H _ _ v u Q I rx ry ⟨pd p, ps.map pd, .tup (tup_of ht) (.cons (.int _) (.cons (.int _) .nil)), dp_cells hc, shaped_pd p, shaped_cells ps, ?_⟩
  rw [any_pd]
  exact q
/-- sorted, of a list of pairs that may hold one several times -/
theorem cr_sortedN {X : Cx} : CallR X (.builtin "sorted") (fun xs H Q => ∃ l ps, xs = [V.ref l] ∧ Cells H l ps ∧
    ∀ p H' qs, Same H H' → H p = none → Cells H' p qs → qs.Perm ps → qs.Pairwise (fun x y => ¬ ltP y x) → Q (.ref p) H') := by
  intro pins s σ H xs us Q I r h
  obtain ⟨l, ps, rfl, ⟨ts, hl, ht, rfl⟩, q⟩ := h
  refine cr_sortedPO pins s σ H [V.ref l] us Q I r ⟨l, ts.map fun t => V.ref t.1, kH H, rfl, lst_of hl, fun x m => ?_, fun ys p srt stb n => ?_⟩
  · obtain ⟨t, m1, rfl⟩ := List.mem_map.mp m
    have g := ht t m1
    refine ⟨t.1, rfl, ?_⟩
    rw [kH_at g]
    exact g
  · have own : ∀ y ∈ ys, ∃ t ∈ ts, y = V.ref t.1 := fun y m => by
      obtain ⟨t, m1, e⟩ := List.mem_map.mp (stb.perm.mem_iff.mp m)
      exact ⟨t, m1, e.symm⟩
    have key : ∀ t ∈ ts, kH H (.ref t.1) = t.2 := fun t m => kH_at (ht t m)
    have pm : (ys.map (kH H)).Perm (ts.map (·.2)) := by
      have z := stb.perm.map (kH H)
      rw [List.map_map] at z
      rw [show ts.map (·.2) = ts.map (kH H ∘ fun t => V.ref t.1) from List.map_congr_left fun t m => (key t m).symm]
      exact z
    have sm : Same H (upd H p (.lst ys)) := newS n
    have eo : (ys.map fun v => (adV v, kH H v)).map (fun t => V.ref t.1) = ys := by
      rw [List.map_map]
      refine (List.map_congr_left fun v m => ?_).trans (List.map_id _)
      obtain ⟨t, _, rfl⟩ := own v m
      rfl
    refine q p _ (ys.map (kH H)) sm n ⟨ys.map fun v => (adV v, kH H v), ?_, fun u m => ?_, ?_⟩ pm ?_
    · rw [eo, upd_same]
    · obtain ⟨v, m1, rfl⟩ := List.mem_map.mp m
      obtain ⟨t, m2, rfl⟩ := own v m1
      refine sm _ _ ?_
      show H t.1 = _
      rw [key t m2]
      exact ht t m2
    · rw [List.map_map]
      rfl
    · refine List.pairwise_map.mpr (srt.imp fun {u v} h z => ?_)
      have h : SrtO.lexB (kH H v) (kH H u) = false := h
      have z : SrtO.lexB (kH H v) (kH H u) = true := z
      rw [h] at z
      cases z
end Vx
namespace Vx
open PySem PySem.Spec PyProof.Rows L2
/-! ### the items of a dict whose keys are tuples -/
section
variable {X : Cx} {pins : List (Addr × Obj)} {σ : L2.St} {H : Hp} {s : Shared} {d : Addr} {o : Obj}
theorem frzT2 {kvs : List (List L2.Key × V)} (I : Inv X pins σ H s) (h : H d = some (.frz o (.dT kvs))) :
    (d == sysModules) = false ∧ s.heap.get? d = some o ∧ o.ExactDict ∧ ∃ (es : Array DictEntry) (ep : Nat), o.data = .dict es ep ∧ es.size = kvs.length ∧
      ∀ (i : Nat) (k : List L2.Key) (v : V), kvs[i]? = some (k, v) → ∃ (en : DictEntry) (q : Addr), es[i]? = some en ∧ en.key = .ref q ∧ H q = some (.tup (k.map kV)) ∧ RelV v en.val := by
  obtain ⟨hd, z, hs, xs, pr, o', es, ep, ho, hx, hdt, he, _⟩ := I.hok d _ h
  have eo : o = o' := Option.some.inj (hd.symm.trans ho)
  subst eo
  refine ⟨hs, hd, hx, es, ep, hdt, (size_of_entries he).trans (Paired.length pr).symm, fun i k v e => ?_⟩
  obtain ⟨b, hb, _, e2, e3⟩ := paired_get pr e
  refine ⟨entryOfKey (tupleKind (mixKind X.prog X.w)) b, b.2.1, ?_, rfl, e2, e3⟩
  rw [entry_at he i, hb]
  rfl
end
/-- its items, each a new pair of the key's tuple and the value -/
def ItiT (d : Addr) (o : Obj) (kvs : List (List L2.Key × V)) : It where
  go i H := H d = some (.frz o (.dT kvs)) ∧ i < kvs.length
  yld i H x H' := ∃ (T : Addr) (k : List L2.Key) (v : V) (q : Addr), kvs[i]? = some (k, v) ∧ x = .ref T ∧ H q = some (.tup (k.map kV)) ∧ H T = none ∧ H' = upd H T (.tup [.ref q, v])
  stop i H := H d = some (.frz o (.dT kvs)) ∧ kvs.length ≤ i
section
variable {P : Program} {w : World} {K : PySem.W.Frag} {d : Addr} {o : Obj} {es : Array DictEntry} {ep : Nat}
theorem turn_itemsT {kvs : List (List L2.Key × V)} {elts : List Expr} {kk : Nat} {tpos : Pos} (it : Addr) (hod : o.data = .dict es ep) :
    Turn P w K (.Tuple elts kk tpos) (ItiT d o kvs) [it] it (fun i h => ∃ ok ov, IsItemIter h it d i kvs.length ep ok ov) where
  mem := List.mem_singleton.mpr rfl
  obj := fun i h st b hb => by
    obtain ⟨ok, ov, e⟩ := st
    rw [List.mem_singleton.mp hb]
    exact ⟨_, e, fun v z => nomatch z⟩
  keep := fun i h h' st k => by
    obtain ⟨ok, ov, e⟩ := st
    exact ⟨ok, ov, k it (List.mem_singleton.mpr rfl) _ e⟩
  item := by
    intro X hP hw hK hc i pins s σ H E I hf st hg
    subst hP hw hK
    obtain ⟨hd, hi⟩ := hg
    obtain ⟨hs, hgd, hx, es', ep', hdt, hsz, ent⟩ := frzT2 I hd
    obtain ⟨rfl, rfl⟩ := dict_ep hod hdt
    obtain ⟨⟨k, v⟩, hkv⟩ : ∃ p, kvs[i]? = some p := ⟨kvs[i], List.getElem?_eq_getElem hi⟩
    obtain ⟨en, q, hen, hkey, hq, rv⟩ := ent i k v hkv
    obtain ⟨ok, ov, he⟩ := st
    have hlt : it < s.heap.objs.size := Heap.lt_size he
    have hi' : i < es'.size := by
      rw [hsz]
      exact hi
    have een : es'[i] = en := by
      rw [Array.getElem?_eq_getElem hi'] at hen
      exact Option.some.inj hen
    rw [← hsz] at he
    refine DT.nextI he ⟨o, hgd, hx, hdt⟩ hi' fun h' ho hT hz hk => ?_
    rw [een, hkey] at ho hT
    refine ⟨_, rfl, wpAny_letOwnedTupleGo_items (s := { s with heap := h' }) ho fun h'' he' sb => ?_⟩
    have hT2 : h''.get? s.heap.objs.size = some { cls := .type "tuple", data := .seq #[.ref q, en.val] } := (sb.2 _ (Nat.ne_of_gt hlt)).trans hT
    have new : ObjOk X.prog X.w (upd H s.heap.objs.size (.tup [.ref q, v])) h'' s.heap.objs.size (.tup [.ref q, v]) :=
      ⟨by show 2 ≤ sizeLine; decide, [.ref q, en.val], .cons rfl (.cons rv .nil), ⟨_, hT2, rfl, _, rfl⟩⟩
    have I1 : Inv X pins σ (upd H s.heap.objs.size (.tup [.ref q, v])) { s with heap := h'' } :=
      I.turnedNew (t' := s.toks) (ch := [it]) (fun b ob hb e => (sb.2 b (by simpa using hb)).trans (hk b ob (by simpa using hb) e)) hf (Nat.le_refl _) new
    refine ⟨.ref s.heap.objs.size, _, I1, rfl, ⟨_, k, v, q, hkv, rfl, hq, I.hok.fresh (Nat.le_refl _), rfl⟩, ⟨.ref q, en.val, ?_⟩, fun b hb => ?_⟩
    · rw [← hsz]
      exact he'
    · rw [List.mem_singleton.mp hb, upd_ne (Nat.ne_of_lt hlt)]
      exact (hf it (List.mem_singleton.mpr rfl)).1
  done := by
    intro X hP hw hK hc i pins s σ H E I hf st hg
    subst hP hw hK
    obtain ⟨hd, hi⟩ := hg
    obtain ⟨f0, f1, f2, f3, f4, f5⟩ := hf it (List.mem_singleton.mpr rfl)
    obtain ⟨hs, hgd, hx, es', ep', hdt, hsz, ent⟩ := frzT2 I hd
    obtain ⟨rfl, rfl⟩ := dict_ep hod hdt
    obtain ⟨ok, ov, he⟩ := st
    rw [← hsz] at he
    exact DT.endI (I.ok.hd hc) he ⟨o, hgd, hx, hdt⟩ (by omega) fun h' eb => ⟨rfl, I.turned (t' := s.toks) (fun b ob hb e => eb b ob hb e) f0 f1 f3 f4 f5⟩
  self := fun A i s Q E st h => by
    obtain ⟨_, _, e⟩ := st
    exact PySem.W.kcp_self e h
end
def iItemsT (td : TE) : TI := fun σ H R => td σ H fun x H1 => ∃ d o kvs, x = .ref d ∧ H1 d = some (.frz o (.dT kvs)) ∧ R (ItiT d o kvs) H1
theorem pi_itemsT {X : Cx} {e : Expr} {td : TE} {apos cpos tpos : Pos} {elts : List Expr} {kk : Nat} (he : PE X e td) (hbase : attributeBase e "items" X.env (eval e X.env) = eval e X.env := by rfl) (hline : (apos.endLine == cpos.line) = true := by rfl) :
    PI X (.Tuple elts kk tpos) (.Call (.Attribute e "items" apos) [] [] cpos) (iItemsT td) := by
  refine ⟨fun pins s σ H R I h => ?_⟩
  refine wpAny_Call_method (T := "dict") (id := "dict.items") hbase rfl hline F.plainAttrs_dict F.slot_dict_items F.type_dict_items (thn (he.run pins s σ H _ I h) fun u s1 ⟨x, H1, I1, rx, d, o, kvs, ex, hd, q⟩ => ?_)
  subst ex
  obtain rfl : u = Value.ref d := rx
  obtain ⟨hs, hgd, hx, es, ep, hdt, hsz, ent⟩ := frzT2 I1 hd
  have raw : DT.Raw s1.heap d es ep := ⟨o, hgd, hx, hdt⟩
  refine ⟨raw.typeIs, (fun a ea => by cases ea; exact ⟨o, hgd, hx.2.1⟩), ?_⟩
  have I2 : Inv X pins σ H1 { s1 with heap := s1.heap.push { cls := .type "dict_items", data := .fields #[.ref d] } } := I1.kept (t' := s1.toks) fun b ob q => Heap.get?_push_of_some _ q
  have fin : wpAny (model X.prog X.w) X.A (pyIter (.ref s1.heap.objs.size)) (PIE X pins σ (.Tuple elts kk tpos) R) X.xe { s1 with heap := s1.heap.push { cls := .type "dict_items", data := .fields #[.ref d] } } := by
    refine DT.iterI (d := d) (es := es) (ep := ep) ⟨_, Heap.get?_push_size _ rfl, rfl, rfl⟩ (raw.push _) (pi_one (tk := s1.toks) I2 _ (turn_itemsT _ hdt) ⟨.none, .none, ?_⟩ q)
    rw [hsz]
    exact Heap.get?_push_size _ rfl
  show wpAny _ _ (callWith cpos (.builtin "dict.items") [.ref d] [] []) _ X.xe s1
  exact method_meetsIn F.slot_dict_items F.entry_dict_items rfl (PySem.evalArgs_none ⟨rfl, raw.typeIs, F.args_dict_items_1 _, _, DT.meetsItems (es := es) (ep := ep) hs, ⟨raw, fin⟩⟩)
theorem walk_itemsT {d : Addr} {o : Obj} {kvs : List (List L2.Key × V)} : Walk (ItiT d o kvs) kvs.length (fun H => H d = some (.frz o (.dT kvs)))
    (fun i H x H' => ∃ (T : Addr) (k : List L2.Key) (v : V) (q : Addr), kvs[i]? = some (k, v) ∧ x = .ref T ∧ H q = some (.tup (k.map kV)) ∧ H T = none ∧ H' = upd H T (.tup [.ref q, v])) :=
  ⟨fun _ _ hi q => ⟨q, hi⟩, fun _ q => ⟨q, Nat.le_refl _⟩, fun _ _ _ _ _ _ y => y⟩
end Vx
namespace Vx
open PySem PySem.Spec PyProof.Rows L2
/-! ### bits of numbers from 0 on -/
theorem xor_and_add : ∀ a b : Nat, (a ^^^ b) + 2 * (a &&& b) = a + b := by
  intro a
  induction a using Nat.strongRecOn with
  | _ a ih =>
    intro b
    by_cases h : a = 0
    · subst h
      simp
    · have e := ih (a / 2) (by omega) (b / 2)
      have x1 : (a ^^^ b) / 2 = (a / 2) ^^^ (b / 2) := Nat.xor_div_two
      have x2 : (a &&& b) / 2 = (a / 2) &&& (b / 2) := Nat.and_div_two
      have t1 := Nat.testBit_xor a b 0
      have t2 := Nat.testBit_and a b 0
      rw [Nat.testBit_zero, Nat.testBit_zero, Nat.testBit_zero] at t1 t2
      have y1 : (a ^^^ b) % 2 = (a % 2 + b % 2) % 2 := by
        by_cases p : a % 2 = 1 <;> by_cases q : b % 2 = 1
        · rw [decide_eq_true p, decide_eq_true q] at t1
          have := of_decide_eq_false t1
          omega
        · rw [decide_eq_true p, decide_eq_false q] at t1
          have := of_decide_eq_true t1
          omega
        · rw [decide_eq_false p, decide_eq_true q] at t1
          have := of_decide_eq_true t1
          omega
        · rw [decide_eq_false p, decide_eq_false q] at t1
          have := of_decide_eq_false t1
          omega
      have y2 : (a &&& b) % 2 = if a % 2 = 1 ∧ b % 2 = 1 then 1 else 0 := by
        by_cases p : a % 2 = 1 <;> by_cases q : b % 2 = 1
        · rw [decide_eq_true p, decide_eq_true q] at t2
          rw [if_pos ⟨p, q⟩]
          exact of_decide_eq_true t2
        · rw [decide_eq_true p, decide_eq_false q] at t2
          rw [if_neg fun z => q z.2]
          have := of_decide_eq_false t2
          omega
        · rw [decide_eq_false p, decide_eq_true q] at t2
          rw [if_neg fun z => p z.1]
          have := of_decide_eq_false t2
          omega
        · rw [decide_eq_false p, decide_eq_false q] at t2
          rw [if_neg fun z => p z.1]
          have := of_decide_eq_false t2
          omega
      have z1 := Nat.div_add_mod (a ^^^ b) 2
      have z2 := Nat.div_add_mod (a &&& b) 2
      rw [x1, y1] at z1
      rw [x2, y2] at z2
      by_cases p : a % 2 = 1 ∧ b % 2 = 1
      · rw [if_pos p] at z2
        omega
      · rw [if_neg p] at z2
        omega
theorem or_and_xor (a b : Nat) : (a ||| b) = (a ^^^ b) + (a &&& b) := by
  have d : (a ^^^ b) &&& (a &&& b) = 0 := by
    refine Nat.eq_of_testBit_eq fun i => ?_
    simp only [Nat.testBit_and, Nat.testBit_xor, Nat.zero_testBit]
    cases a.testBit i <;> cases b.testBit i <;> rfl
  have e := xor_and_add (a ^^^ b) (a &&& b)
  rw [d] at e
  have f : (a ^^^ b) ^^^ (a &&& b) = a ||| b := by
    refine Nat.eq_of_testBit_eq fun i => ?_
    simp only [Nat.testBit_and, Nat.testBit_xor, Nat.testBit_or]
    cases a.testBit i <;> cases b.testBit i <;> rfl
  omega
theorem bAnd (a b : Nat) : Builtin.bitAnd (a : Int) (b : Int) = ((a &&& b : Nat) : Int) := PySem.W.os_band a b
theorem bOr (a b : Nat) : Builtin.bitOr (a : Int) (b : Int) = ((a ||| b : Nat) : Int) := by
  rw [bitOr_nn (Int.natCast_nonneg a) (Int.natCast_nonneg b), Int.toNat_natCast, Int.toNat_natCast]
theorem bXor (a b : Nat) : Builtin.bitXor (a : Int) (b : Int) = ((a ^^^ b : Nat) : Int) := by
  show Builtin.bitOr (a : Int) (b : Int) - Builtin.bitAnd (a : Int) (b : Int) = _
  rw [bAnd, bOr, or_and_xor]
  omega
section
variable {X : Cx}
theorem op_andNN : OpR X (binaryOp .BitAnd) (fun x y H Q => ∃ a b : Nat, x = .int (a : Int) ∧ y = .int (b : Int) ∧ Q (.int ((a &&& b : Nat) : Int)) H) := by
  intro pins s σ H x y v u Q I r1 r2 h
  obtain ⟨a, b, rfl, rfl, q⟩ := h
  exact op_and pins s σ H _ _ v u Q I r1 r2 ⟨_, _, rfl, rfl, (by show Q (V.int (Builtin.bitAnd (a : Int) (b : Int))) H; rw [bAnd]; exact q)⟩
theorem op_orNN : OpR X (binaryOp .BitOr) (fun x y H Q => ∃ a b : Nat, x = .int (a : Int) ∧ y = .int (b : Int) ∧ Q (.int ((a ||| b : Nat) : Int)) H) := by
  intro pins s σ H x y v u Q I r1 r2 h
  obtain ⟨a, b, rfl, rfl, q⟩ := h
  exact op_or pins s σ H _ _ v u Q I r1 r2 ⟨_, _, rfl, rfl, (by show Q (V.int (Builtin.bitOr (a : Int) (b : Int))) H; rw [bOr]; exact q)⟩
theorem op_xorNN : OpR X (binaryOp .BitXor) (fun x y H Q => ∃ a b : Nat, x = .int (a : Int) ∧ y = .int (b : Int) ∧ Q (.int ((a ^^^ b : Nat) : Int)) H) := by
  intro pins s σ H x y v u Q I r1 r2 h
  obtain ⟨a, b, rfl, rfl, q⟩ := h
  exact op_xor pins s σ H _ _ v u Q I r1 r2 ⟨_, _, rfl, rfl, (by show Q (V.int (Builtin.bitXor (a : Int) (b : Int))) H; rw [bXor]; exact q)⟩
theorem ip_orNN : PIp X .BitOr (fun x y H Q => ∃ a b : Nat, x = .int (a : Int) ∧ y = .int (b : Int) ∧ Q (.int ((a ||| b : Nat) : Int)) H) := by
  intro pins s σ H x y v u Q I r1 r2 h
  obtain ⟨a, b, rfl, rfl, q⟩ := h
  exact iop_or pins s σ H _ _ v u Q I r1 r2 ⟨_, _, rfl, rfl, (by show Q (V.int (Builtin.bitOr (a : Int) (b : Int))) H; rw [bOr]; exact q)⟩
theorem ip_xorNN : PIp X .BitXor (fun x y H Q => ∃ a b : Nat, x = .int (a : Int) ∧ y = .int (b : Int) ∧ Q (.int ((a ^^^ b : Nat) : Int)) H) := by
  intro pins s σ H x y v u Q I r1 r2 h
  obtain ⟨a, b, rfl, rfl, q⟩ := h
  exact iop_xor pins s σ H _ _ v u Q I r1 r2 ⟨_, _, rfl, rfl, (by show Q (V.int (Builtin.bitXor (a : Int) (b : Int))) H; rw [bXor]; exact q)⟩
theorem op_shrNN : OpR X (binaryOp .RShift) (fun x y H Q => ∃ a k : Nat, x = .int (a : Int) ∧ y = .int (k : Int) ∧ Q (.int ((a >>> k : Nat) : Int)) H) := by
  intro pins s σ H x y v u Q I r1 r2 h
  obtain ⟨a, k, rfl, rfl, q⟩ := h
  refine op_shrN pins s σ H _ _ v u Q I r1 r2 ⟨_, k, rfl, rfl, ?_⟩
  rw [show (a : Int) / 2 ^ k = ((a >>> k : Nat) : Int) by rw [Nat.shiftRight_eq_div_pow]; exact (by push_cast; rfl)]
  exact q
theorem op_shlNN : OpR X (binaryOp .LShift) (fun x y H Q => ∃ (a k n : Nat), x = .int (a : Int) ∧ y = .int (k : Int) ∧ a < 2 ^ n ∧ n + k ≤ 134217728 ∧ Q (.int ((a <<< k : Nat) : Int)) H) := by
  intro pins s σ H x y v u Q I r1 r2 h
  obtain ⟨a, k, n, rfl, rfl, la, lk, q⟩ := h
  refine op_shlN pins s σ H _ _ v u Q I r1 r2 ⟨_, k, rfl, rfl, shl_ok (n := n) la lk, ?_⟩
  rw [show (a : Int) * 2 ^ k = ((a <<< k : Nat) : Int) by rw [Nat.shiftLeft_eq]; exact (by push_cast; rfl)]
  exact q
end
/-! ### the bits that are set, ascending -/
def bitsB (N n : Nat) : List Nat := (List.range N).filter fun j => n.testBit j
theorem mem_bitsB {N n j : Nat} : j ∈ bitsB N n ↔ j < N ∧ n.testBit j = true := by
  unfold bitsB
  rw [List.mem_filter, List.mem_range]
theorem low_bit : ∀ n : Nat, n ≠ 0 → ∃ k a, n = 2 ^ k * (2 * a + 1) := by
  intro n
  induction n using Nat.strongRecOn with
  | _ n ih =>
    intro h
    by_cases e : n % 2 = 1
    · exact ⟨0, n / 2, by omega⟩
    · obtain ⟨k, a, q⟩ := ih (n / 2) (by omega) (by omega)
      refine ⟨k + 1, a, ?_⟩
      have : n = 2 * (n / 2) := by omega
      rw [this, q, Nat.pow_succ, Nat.mul_comm (2 ^ k) 2, Nat.mul_assoc]
theorem low_test {k a j : Nat} : (2 ^ k * (2 * a + 1)).testBit j = (decide (j = k) || (decide (k < j) && (2 ^ k * (2 * a)).testBit j)) := by
  rw [Nat.testBit_two_pow_mul, Nat.testBit_two_pow_mul]
  by_cases h : k ≤ j
  · by_cases e : j = k
    · subst e
      simp [Nat.testBit_zero]
    · have e2 : k < j := by omega
      have e3 : j - k = (j - k - 1) + 1 := by omega
      rw [e3, Nat.testBit_succ, Nat.testBit_succ]
      have e4 : (2 * a + 1) / 2 = 2 * a / 2 := by omega
      rw [e4]
      simp [h, e, e2]
  · have e : j ≠ k := by omega
    have e2 : ¬ k < j := by omega
    simp [h, e, e2]
theorem low_xor (k a : Nat) : 2 ^ k * (2 * a + 1) ^^^ 2 ^ k = 2 ^ k * (2 * a) := by
  refine Nat.eq_of_testBit_eq fun j => ?_
  rw [Nat.testBit_xor, low_test, Nat.testBit_two_pow]
  by_cases e : k = j
  · subst e
    simp [Nat.testBit_two_pow_mul, Nat.testBit_zero]
  · have e' : j ≠ k := fun z => e z.symm
    simp only [e, e', decide_false, Bool.false_or, Bool.xor_false]
    by_cases h : k < j
    · simp [h]
    · have : ¬ k ≤ j := by omega
      simp [h, this, Nat.testBit_two_pow_mul]
theorem bits_low {N k a : Nat} (h : 2 ^ k * (2 * a + 1) < 2 ^ N) : bitsB N (2 ^ k * (2 * a + 1)) = k :: bitsB N (2 ^ k * (2 * a)) := by
  have hk : k < N := by
    have : 2 ^ k < 2 ^ N := Nat.lt_of_le_of_lt (Nat.le_mul_of_pos_right _ (by omega)) h
    exact (Nat.pow_lt_pow_iff_right (by decide)).mp this
  have e : List.range N = List.range k ++ k :: (List.range (N - k - 1)).map (fun j => k + 1 + j) := by
    have e1 := List.range_add (n := k) (m := N - k)
    rw [show k + (N - k) = N by omega] at e1
    rw [e1, show N - k = (N - k - 1) + 1 by omega, List.range_succ_eq_map, List.map_cons, List.map_map]
    simp
    intro j _
    omega
  have z : ∀ m, (List.range k).filter (fun j => (2 ^ k * m).testBit j) = [] := fun m => by
    refine List.filter_eq_nil_iff.mpr fun j hj => ?_
    have := List.mem_range.mp hj
    rw [Nat.testBit_two_pow_mul]
    have : ¬ k ≤ j := by omega
    simp [this]
  unfold bitsB
  rw [e, List.filter_append, List.filter_append, z, z, List.nil_append, List.nil_append, List.filter_cons, List.filter_cons]
  rw [if_pos (by rw [low_test]; simp), if_neg (by rw [Nat.testBit_two_pow_mul]; simp [Nat.testBit_zero])]
  refine congrArg _ (List.filter_congr fun j hj => ?_)
  obtain ⟨i, _, rfl⟩ := List.mem_map.mp hj
  rw [low_test]
  have e1 : ¬ k + 1 + i = k := by omega
  have e2 : k < k + 1 + i := by omega
  simp [e1, e2]
theorem bits_zero (N : Nat) : bitsB N 0 = [] := by
  unfold bitsB
  exact List.filter_eq_nil_iff.mpr fun j _ => by simp
theorem low_and (k a : Nat) : Builtin.bitAnd ((2 ^ k * (2 * a + 1) : Nat) : Int) (-((2 ^ k * (2 * a + 1) : Nat) : Int)) = ((2 ^ k : Nat) : Int) := by
  have e := PySem.W.kbt_low k (a : Int)
  push_cast
  exact e
theorem intBits_pow (k : Nat) : Builtin.Int.intBits ((2 ^ k : Nat) : Int) = k + 1 := by
  unfold Builtin.Int.intBits
  have h : ¬ ((((2 ^ k : Nat) : Int)) == 0) = true := by
    have : 0 < 2 ^ k := Nat.two_pow_pos k
    simp only [beq_iff_eq]
    omega
  rw [if_neg h, Int.natAbs_natCast, Nat.log2_two_pow]
end Vx
namespace Vx
open PySem PySem.Spec PyProof.Rows L2
/-! ### dicts whose keys are pairs, told by the list of the keys and a function -/
def MapP (kvs : List (List L2.Key × V)) (ps : List Pr) (g : Pr → V) : Prop := kvs = ps.map (fun x => (keyP x, g x)) ∧ ps.Nodup
def addK (ps : List Pr) (x : Pr) : List Pr := if x ∈ ps then ps else ps ++ [x]
def setG (g : Pr → V) (x : Pr) (v : V) : Pr → V := fun y => if y = x then v else g y
theorem mem_addK {ps : List Pr} {x y : Pr} : y ∈ addK ps x ↔ y ∈ ps ∨ y = x := by
  unfold addK
  by_cases h : x ∈ ps
  · rw [if_pos h]
    exact ⟨.inl, fun q => q.elim id fun e => e ▸ h⟩
  · rw [if_neg h, List.mem_append, List.mem_singleton]
theorem addK_len {ps : List Pr} {x : Pr} : (addK ps x).length ≤ ps.length + 1 := by
  unfold addK
  by_cases h : x ∈ ps
  · rw [if_pos h]
    omega
  · rw [if_neg h, List.length_append]
    exact Nat.le_refl _
theorem addK_new {ps : List Pr} {x : Pr} (h : x ∉ ps) : addK ps x = ps ++ [x] := if_neg h
theorem addK_old {ps : List Pr} {x : Pr} (h : x ∈ ps) : addK ps x = ps := if_pos h
theorem MapP.nil (g : Pr → V) : MapP [] [] g := ⟨rfl, List.nodup_nil⟩
theorem MapP.keys {kvs : List (List L2.Key × V)} {ps : List Pr} {g : Pr → V} (h : MapP kvs ps g) : KeysP kvs ps := by
  refine ⟨?_, h.2⟩
  rw [h.1, List.map_map]
  rfl
theorem MapP.len {kvs : List (List L2.Key × V)} {ps : List Pr} {g : Pr → V} (h : MapP kvs ps g) : kvs.length = ps.length := by rw [h.1, List.length_map]
theorem MapP.congr {kvs : List (List L2.Key × V)} {ps : List Pr} {g g' : Pr → V} (h : MapP kvs ps g) (e : ∀ x ∈ ps, g x = g' x) : MapP kvs ps g' := by
  refine ⟨?_, h.2⟩
  rw [h.1]
  exact List.map_congr_left fun x m => by rw [e x m]
theorem MapP.at {kvs : List (List L2.Key × V)} {ps : List Pr} {g : Pr → V} (h : MapP kvs ps g) {i : Nat} {k : List L2.Key} {v : V} (e : kvs[i]? = some (k, v)) : ∃ x, ps[i]? = some x ∧ k = keyP x ∧ v = g x := by
  rw [h.1, List.getElem?_map] at e
  cases q : ps[i]? with
  | none => rw [q] at e; cases e
  | some x =>
    rw [q] at e
    injection e with e
    injection e with e1 e2
    exact ⟨x, rfl, e1.symm, e2.symm⟩
theorem MapP.get {kvs : List (List L2.Key × V)} {ps : List Pr} {g : Pr → V} (h : MapP kvs ps g) (x : Pr) : valV kvs (keyP x) = if x ∈ ps then some (g x) else none := by
  rw [h.1]
  have go : ∀ qs : List Pr, valV (qs.map fun x => (keyP x, g x)) (keyP x) = if x ∈ qs then some (g x) else none := fun qs => by
    induction qs with
    | nil => rfl
    | cons y qs ih =>
      rw [List.map_cons]
      by_cases e : y = x
      · subst e
        rw [valV_pos rfl, if_pos List.mem_cons_self]
      · rw [valV_neg (fun z => e (keyP_inj z)), ih]
        have e' : ¬ x = y := fun z => e z.symm
        by_cases m : x ∈ qs <;> simp [m, e']
  exact go ps
theorem MapP.put {kvs : List (List L2.Key × V)} {ps : List Pr} {g : Pr → V} (h : MapP kvs ps g) (x : Pr) (v : V) : MapP (putK kvs (keyP x) v) (addK ps x) (setG g x v) := by
  have any : (kvs.any fun kv => decide (kv.1 = keyP x)) = decide (x ∈ ps) := by
    rw [valV_any, h.get]
    by_cases m : x ∈ ps <;> simp [m]
  unfold putK
  rw [any]
  by_cases m : x ∈ ps
  · rw [if_pos (decide_eq_true m), addK_old m]
    refine ⟨?_, h.2⟩
    rw [h.1, List.map_map]
    refine List.map_congr_left fun y _ => ?_
    show (if keyP y = keyP x then (keyP y, v) else (keyP y, g y)) = (keyP y, if y = x then v else g y)
    by_cases e : y = x
    · rw [if_pos (by rw [e]), if_pos e]
    · rw [if_neg fun z => e (keyP_inj z), if_neg e]
  · rw [if_neg (by simp [m]), addK_new m]
    refine ⟨?_, ?_⟩
    · rw [h.1, List.map_append]
      congr 1
      · refine List.map_congr_left fun y my => ?_
        have e : ¬ y = x := fun e => m (e ▸ my)
        show (keyP y, g y) = (keyP y, if y = x then v else g y)
        rw [if_neg e]
      · show [(keyP x, v)] = [(keyP x, if x = x then v else g x)]
        rw [if_pos rfl]
    · refine List.pairwise_append.mpr ⟨h.2, List.pairwise_cons.mpr ⟨fun _ m => (by cases m), List.Pairwise.nil⟩, fun a ma b mb e => ?_⟩
      rw [List.mem_singleton.mp mb] at e
      exact m (e ▸ ma)
theorem MapP.drop {kvs : List (List L2.Key × V)} {ps : List Pr} {g : Pr → V} (h : MapP kvs ps g) (x : Pr) : MapP (dropK kvs (keyP x)) (ps.filter fun y => decide (y ≠ x)) g := by
  refine ⟨?_, h.2.filter _⟩
  unfold dropK
  rw [h.1, List.filter_map]
  congr 1
  refine List.filter_congr fun y _ => ?_
  show decide (keyP y ≠ keyP x) = decide (y ≠ x)
  by_cases e : y = x
  · simp [e]
  · have : keyP y ≠ keyP x := fun z => e (keyP_inj z)
    simp [e, this]
/-- at d: such a dict -/
def Dct (H : Hp) (d : Addr) (ps : List Pr) (g : Pr → V) : Prop := ∃ kvs, H d = some (.dT kvs) ∧ MapP kvs ps g
theorem Dct.up {H H' : Hp} {d : Addr} {ps : List Pr} {g : Pr → V} (e : Same H H') (h : Dct H d ps g) : Dct H' d ps g := by
  obtain ⟨kvs, h1, h2⟩ := h
  exact ⟨kvs, e _ _ h1, h2⟩
theorem Dct.new {H : Hp} {d : Addr} (g : Pr → V) (h : H d = some (.dT [])) : Dct H d [] g := ⟨[], h, .nil g⟩
theorem Dct.ne {H : Hp} {d p : Addr} {ps : List Pr} {g : Pr → V} (h : Dct H d ps g) (n : H p = none) : p ≠ d := fun e => by
  obtain ⟨kvs, h1, _⟩ := h
  rw [e, h1] at n
  cases n
theorem Dct.isD {H : Hp} {d : Addr} {ps : List Pr} {g : Pr → V} (h : Dct H d ps g) : IsD H d := by
  obtain ⟨kvs, h1, _⟩ := h
  exact .inr ⟨kvs, .inl h1⟩
theorem Dct.dget {H : Hp} {d b : Addr} {ps : List Pr} {g : Pr → V} {x : Pr} (h : Dct H d ps g) (e : H b = some (.tup [.int x.1, .int x.2])) : DGet H d (.ref b) (if x ∈ ps then some (g x) else none) := by
  obtain ⟨kvs, h1, h2⟩ := h
  rw [← h2.get x]
  exact .t (k := keyP x) h1 e
/-- the answer of d.get(x, z) -/
def orG (ps : List Pr) (g : Pr → V) (z : V) (x : Pr) : V := if x ∈ ps then g x else z
theorem getD_or {ps : List Pr} {g : Pr → V} {z : V} {x : Pr} : (if x ∈ ps then some (g x) else none : Option V).getD z = orG ps g z x := by
  unfold orG
  by_cases h : x ∈ ps <;> simp [h]
/-- what stands elsewhere stays, d's dict grows -/
def PutAt (H : Hp) (d : Addr) (ps : List Pr) (g : Pr → V) (x : Pr) (v : V) (H' : Hp) : Prop := Dct H' d (addK ps x) (setG g x v) ∧ ∀ b, b ≠ d → H' b = H b
theorem Dct.dput {H : Hp} {d b : Addr} {ps : List Pr} {g : Pr → V} {x : Pr} (h : Dct H d ps g) (few : ps.length < sizeLine) (e : H b = some (.tup [.int x.1, .int x.2])) (v : V) : ∃ H', DPut H d (.ref b) v H' ∧ PutAt H d ps g x v H' := by
  obtain ⟨kvs, h1, h2⟩ := h
  exact ⟨_, .t (k := keyP x) h1 e (by rw [h2.len]; exact few), ⟨_, upd_same, h2.put x v⟩, fun b n => upd_ne n⟩
theorem PutAt.mut {H0 H H' : Hp} {d : Addr} {ps : List Pr} {g : Pr → V} {x : Pr} {v : V} (p : PutAt H d ps g x v H') (sm : Same H0 H) (n : H0 d = none) : Same H0 H' := fun b o e => by
  rw [p.2 b fun z => by rw [z, n] at e; cases e]
  exact sm b o e
theorem Dct.congr {H : Hp} {d : Addr} {ps : List Pr} {g g' : Pr → V} (h : Dct H d ps g) (e : ∀ x ∈ ps, g x = g' x) : Dct H d ps g' := by
  obtain ⟨kvs, h1, h2⟩ := h
  exact ⟨kvs, h1, h2.congr e⟩
theorem updS {H H' : Hp} {d : Addr} {o : HO} (e : Same H H') : Same (upd H d o) (upd H' d o) := fun b u h => by
  by_cases c : b = d
  · rw [c, upd_same] at h
    rw [c, upd_same]
    exact h
  · rw [upd_ne c] at h
    rw [upd_ne c]
    exact e b u h
theorem Dct.off {H : Hp} {d e : Addr} {ps : List Pr} {g : Pr → V} {o : HO} (h : Dct H d ps g) (n : d ≠ e) : Dct (upd H e o) d ps g := by
  obtain ⟨kvs, h1, h2⟩ := h
  exact ⟨kvs, by rw [upd_ne n]; exact h1, h2⟩
theorem nodup_next {α : Type} {ps : List α} {i : Nat} {x : α} (nd : ps.Nodup) (h : ps[i]? = some x) : x ∉ ps.take i := fun m => by
  obtain ⟨j, hj, e⟩ := List.getElem_of_mem m
  rw [List.length_take] at hj
  obtain ⟨li, ei⟩ := List.getElem?_eq_some_iff.mp h
  rw [List.getElem_take] at e
  have := (List.getElem_inj nd (h₀ := by omega) (h₁ := li)).mp (e.trans ei.symm)
  omega
theorem addK_take {ps : List Pr} {i : Nat} {x : Pr} (nd : ps.Nodup) (h : ps[i]? = some x) : addK (ps.take i) x = ps.take (i + 1) := by
  rw [addK_new (nodup_next nd h), take_next h]
theorem unlock {H H' : Hp} {d : Addr} {od : Obj} {u : HO} (hd : H d = some u) (sm : Same (upd H d (.frz od u)) H') : Same H (upd H' d u) := fun b o e => by
  by_cases c : b = d
  · rw [c] at e ⊢
    rw [hd] at e
    rw [upd_same]
    exact e
  · rw [upd_ne c]
    exact sm b o (by rw [upd_ne c]; exact e)
/-! ### the program's lists of such keys -/
theorem isKeys_cells {H : Hp} {p : Addr} : ∀ {kvs : List (List L2.Key × V)} {ps : List Pr} {g : Pr → V} {bs : List Addr}, MapP kvs ps g → IsKeys H kvs bs → H p = some (.lst (bs.map V.ref)) → Cells H p ps := by
  have go : ∀ (ps : List Pr) (g : Pr → V) (bs : List Addr), IsKeys H (ps.map fun x => (keyP x, g x)) bs → ∃ ts : List (Addr × Pr), bs.map V.ref = ts.map (fun t => V.ref t.1) ∧ (∀ t ∈ ts, H t.1 = some (.tup [.int t.2.1, .int t.2.2])) ∧ ts.map (·.2) = ps := by
    intro ps g
    induction ps with
    | nil =>
      intro bs h
      cases h
      exact ⟨[], rfl, fun _ m => (by cases m), rfl⟩
    | cons x ps ih =>
      intro bs h
      cases h with
      | @cons _ b _ bs h1 h2 =>
        obtain ⟨ts, a1, a2, a3⟩ := ih bs h2
        refine ⟨(b, x) :: ts, ?_, ?_, ?_⟩
        · rw [List.map_cons, List.map_cons, a1]
        · intro t m
          rcases List.mem_cons.mp m with e | m
          · rw [e]
            exact h1
          · exact a2 t m
        · rw [List.map_cons, a3]
  intro kvs ps g bs h k e
  rw [h.1] at k
  obtain ⟨ts, a1, a2, a3⟩ := go ps g bs k
  exact ⟨ts, by rw [e, a1], a2, a3⟩
theorem cr_listP {X : Cx} (hc : X.calm = true) : CallR X (.type "list") (fun xs H Q => ∃ d ps g, xs = [V.ref d] ∧ Dct H d ps g ∧ ∀ H' p, Same H H' → H p = none → Cells H' p ps → Q (.ref p) H') := by
  intro pins s σ H xs us Q I r h
  obtain ⟨d, ps, g, rfl, ⟨kvs, h1, h2⟩, q⟩ := h
  refine call_list_dT hc pins s σ H _ us Q I r ⟨d, kvs, rfl, .inl h1, fun p bs n k => q _ p (newS n) n ?_⟩
  refine isKeys_cells (bs := bs) h2 ?_ upd_same
  exact Paired.mapP k fun a b e => newS n _ _ e
theorem truC {K : PySem.W.Frag} {H : Hp} {l : Addr} {ps : List Pr} (h : Cells H l ps) : TruV K (.ref l) H (!ps.isEmpty) := by
  obtain ⟨ts, h1, _, rfl⟩ := h
  exact .inl ⟨_, lst_of h1, by cases ts <;> rfl⟩
/-- sorted(d) -/
theorem cr_sortedDT {X : Cx} (hcalm : X.calm = true) : CallR X (.builtin "sorted") (fun xs H Q => ∃ d ps g, xs = [V.ref d] ∧ Dct H d ps g ∧ ∀ p H' qs, Same H H' → H p = none → Cells H' p qs → CanP ps qs → qs.length = ps.length → Q (.ref p) H') := by
  intro pins s σ H xs us Q I r h
  obtain ⟨d, ps, g, rfl, ⟨kvs, hd, hm⟩, q⟩ := h
  obtain ⟨u, rfl, rx⟩ := r.one
  cases rx
  obtain ⟨z, hs, ks, prd, o, es, ep, ho, hx, hdt, he, hn⟩ := (show ObjOk X.prog X.w H s.heap d (.dT kvs) from (Rd.of hd).ok I.hok)
  have l1 : es.size = ks.length := size_of_entries he
  have l2 : kvs.length = ks.length := Paired.length prd
  have lim : es.size ≤ sizeLine := by omega
  refine Calls.call_function_entry kind_sorted plain_sorted entry_sorted (args_sorted1 _) ?_
  unfold Builtin.«sorted»
  refine wpAny_bind (m := checkCount "sorted" 1 1 _) (wpAny_pure ?_)
  refine wpAny_bind (PySem.W.kdu_collect (A := X.A.in1) (kdl_raw hs hx hdt) (I.ok.hd hcalm) ho lim fun h' tk acc kp it => ?_)
  -- the key tuples
  have keyAt : ∀ (i : Nat) (x : Pr), ps[i]? = some x → ∃ b, acc.toList[i]? = some (.ref b) ∧ H b = some (.tup [.int x.1, .int x.2]) := fun i x e => by
    have e1 : kvs[i]? = some (keyP x, g x) := by rw [hm.1, List.getElem?_map, e]; rfl
    obtain ⟨b, hb, _, e2, _⟩ := paired_get prd e1
    have q1 := entry_at he i
    rw [hb] at q1
    have li : i < acc.toList.length := by
      rw [Array.length_toList, it.1, l1]
      exact (List.getElem?_eq_some_iff.mp hb).1
    obtain ⟨en, q2, q3⟩ := it.2 i acc.toList[i] (by rw [← Array.getElem?_toList]; exact List.getElem?_eq_getElem li)
    rw [q1] at q2
    have q4 : entryOfKey (tupleKind (mixKind X.prog X.w)) b = en := Option.some.inj q2
    refine ⟨b.2.1, ?_, e2⟩
    rw [List.getElem?_eq_getElem li, q3, ← q4]
    rfl
  have al : acc.toList.length = ps.length := by rw [Array.length_toList, it.1, l1, ← l2, hm.len]
  have lacc : acc.toList.length ≤ sizeLine := by rw [Array.length_toList, it.1]; exact lim
  have I1 : Inv X pins σ H { s with heap := h', toks := tk } := I.kept kp
  refine wpAny_bind (wpAny_newList ?_ lacc)
  have gl : (h'.push (seqObj "list" acc.toList.toArray 0)).get? h'.objs.size = some (seqObj "list" acc.toList.toArray 0) := Heap.get?_push_size _ rfl
  show wpAny _ _ _ _ _ { s with heap := h'.push (seqObj "list" acc.toList.toArray 0), toks := tk }
  generalize hh1 : h'.push (seqObj "list" acc.toList.toArray 0) = h1 at gl ⊢
  generalize acc.toList = vs at *
  have keep1 : ∀ b u, h'.get? b = some u → h1.get? b = some u := fun b u e => by
    rw [← hh1]
    exact Heap.get?_push_of_some _ e
  have own : ∀ v ∈ vs, ∃ b x, v = .ref b ∧ H b = some (.tup [.int x.1, .int x.2]) ∧ (x : Pr) ∈ ps := fun v m => by
    obtain ⟨i, li, e⟩ := List.getElem_of_mem m
    have lp : i < ps.length := by omega
    obtain ⟨b, e1, e2⟩ := keyAt i ps[i] (List.getElem?_eq_getElem lp)
    rw [List.getElem?_eq_getElem li] at e1
    exact ⟨b, ps[i], by rw [← e]; exact Option.some.inj e1, e2, List.getElem_mem lp⟩
  have tin : ∀ b (x : Pr), H b = some (.tup [.int x.1, .int x.2]) → TS.TupInts h1 (.ref b) [x.1, x.2] := fun b x e => tupInts_of (P := X.prog) (w := X.w) (isT_keep (Inv.isT (k := [x.1, x.2]) I1 (tup_of e)) keep1)
  have key : ∀ b (x : Pr), H b = some (.tup [.int x.1, .int x.2]) → pr (TS.intsOf h1 (.ref b)) = x := fun b x e => by
    rw [(tin b x e).ints]
    rfl
  have isP : ∀ v ∈ vs, Srt.IsPair h1 v (pr (TS.intsOf h1 v)).1 (pr (TS.intsOf h1 v)).2 := fun v m => by
    obtain ⟨b, x, rfl, e, _⟩ := own v m
    rw [key b x e]
    have i := tin b x e
    obtain ⟨b2, items, eb, ⟨o1, go1, co1, n1, do1⟩, ia⟩ := i
    cases eb
    obtain ⟨xs⟩ := items
    cases ia with
    | cons _ t1 ia =>
      cases ia with
      | cons _ t2 ia =>
        cases ia
        exact ⟨_, o1, t1, t2, n1, rfl, go1, co1, do1⟩
  have mapK : vs.map (fun v => pr (TS.intsOf h1 v)) = ps := by
    refine List.ext_getElem? fun i => ?_
    rw [List.getElem?_map]
    by_cases li : i < ps.length
    · obtain ⟨b, e1, e2⟩ := keyAt i ps[i] (List.getElem?_eq_getElem li)
      rw [e1, List.getElem?_eq_getElem li]
      exact congrArg some (key b _ e2)
    · rw [List.getElem?_eq_none (by omega), List.getElem?_eq_none (by omega)]
      rfl
  refine wpAny_bind (wpAny_holding (wpAny_call_entry (s := { s with heap := h1, toks := tk }) slot_list_sort ⟨_, gl, rfl⟩ entry_list_sort (SrtO.list_sort_ord (s := { s with heap := h1, toks := tk }) (SrtO.swo_lex fun v => pr (TS.intsOf h1 v)) gl lacc (fun two => SrtO.pairs_sortableO (by omega) isP fun o1 e => ?_) fun out srt stb => ⟨_, rfl, ?_⟩) (args_list_sort _)))
  · have e' : some o1 = some (seqObj "list" vs.toArray 0) := e.symm.trans gl
    cases e'
    intro c
    exact absurd (Value.type.inj c) (by decide)
  · obtain ⟨c, gc⟩ := sortedHeap_at (vs := vs) (out := out.toArray) gl
    have oown : ∀ v ∈ out, ∃ b x, v = Value.ref b ∧ H b = some (.tup [.int x.1, .int x.2]) ∧ (x : Pr) ∈ ps := fun v m => own v (stb.perm.mem_iff.mp m)
    have keepAll : ∀ b u, h'.get? b = some u → (sortedHeap h1 h'.objs.size vs out.toArray).get? b = some u := fun b u g1 => by
      have lt1 := Heap.lt_size g1
      rw [sortedHeap_old (Nat.ne_of_lt lt1) (Heap.lt_size (keep1 b u g1))]
      exact keep1 b u g1
    have nF : H h'.objs.size = none := I1.hok.fresh (Nat.le_refl _)
    let ts : List (Addr × Pr) := out.map fun v => (adr v, pr (TS.intsOf h1 v))
    have eo : ts.map (fun t => Value.ref t.1) = out := by
      rw [List.map_map]
      refine (List.map_congr_left fun v m => ?_).trans (List.map_id _)
      obtain ⟨b, x, rfl, _⟩ := oown v m
      rfl
    have vals : ∀ ts : List (Addr × Pr), Vals (ts.map fun q => V.ref q.1) (ts.map fun q => Value.ref q.1) := fun ts => by
      induction ts with
      | nil => exact .nil
      | cons t ts ih => exact .cons rfl ih
    have lo : ts.length ≤ sizeLine := by
      rw [List.length_map, stb.perm.length_eq]
      exact lacc
    have new : ObjOk X.prog X.w (upd H h'.objs.size (.lst (ts.map fun q => V.ref q.1))) (sortedHeap h1 h'.objs.size vs out.toArray) h'.objs.size (.lst (ts.map fun q => V.ref q.1)) := by
      refine ⟨by rw [List.length_map]; exact lo, ts.map fun q => Value.ref q.1, c, vals ts, ?_⟩
      rw [eo]
      exact gc
    have J := I1.laid (t' := tk) keepAll (Nat.le_refl _) new
    have pmk : (ts.map (·.2)).Perm ps := by
      rw [List.map_map, ← mapK]
      exact stb.perm.map fun v => pr (TS.intsOf h1 v)
    refine wpAny_pure ⟨_, rfl, .ref h'.objs.size, _, J, rfl, q _ _ (ts.map (·.2)) (newS nF) nF ⟨ts, upd_same, fun t m => ?_, rfl⟩ ⟨?_, fun x => pmk.mem_iff⟩ pmk.length_eq⟩
    · obtain ⟨v, m1, rfl⟩ := List.mem_map.mp m
      obtain ⟨b, x, rfl, e, _⟩ := oown v m1
      refine newS nF _ _ ?_
      show H b = some (.tup [.int (pr (TS.intsOf h1 (.ref b))).1, .int (pr (TS.intsOf h1 (.ref b))).2])
      rw [key b x e]
      exact e
    · have nd : (ts.map (·.2)).Nodup := pmk.nodup_iff.mpr hm.2
      rw [List.map_map] at nd ⊢
      refine List.pairwise_map.mpr ((srt.and (List.pairwise_map.mp nd)).imp fun {u v} h => ?_)
      have a1 := SrtO.lexB_no.mp h.1
      have a2 : ¬ ((pr (TS.intsOf h1 u)).1 = (pr (TS.intsOf h1 v)).1 ∧ (pr (TS.intsOf h1 u)).2 = (pr (TS.intsOf h1 v)).2) := fun e => h.2 (Prod.ext e.1 e.2)
      refine ltP_iff.mpr ?_
      show (pr (TS.intsOf h1 u)).1 < (pr (TS.intsOf h1 v)).1 ∨ (pr (TS.intsOf h1 u)).1 = (pr (TS.intsOf h1 v)).1 ∧ (pr (TS.intsOf h1 u)).2 < (pr (TS.intsOf h1 v)).2
      omega
end Vx
namespace Vx
open PySem PySem.Spec PyProof.Rows L2
/-! ### a number in binary digits -/
def binL (n : Nat) : List Nat := (Nat.toDigits 2 n).map Char.toNat
def binT (n : Nat) : Str := ⟨(binL n).toArray⟩
section
open PySem.Builtin PySem.Builtin.Int PySem.Builtin.Float
variable {prog : Program} {w : World} {A : Around} {E : Value → Shared → Prop} {s : Shared} {t : Tok}
def fB : FormatSpec := { align := 62, type := some 98 }
theorem parse_b : parseFormatSpec (Str.ofString "b").cps.toList "int" 62 = .ok fB := by rfl
theorem field_b {n : Nat} {Q : Value → Shared → Prop} (hl : (binT n).length ≤ sizeLine) (h : ∀ t' k, Q (.str (binT n) t') { s with toks := k }) : wpAny (model prog w) A (formatField (.int (n : Int) t) (Str.ofString "b")) Q E s := by
  refine PySem.W.KXf.field_int (spec' := Str.ofString "b") (y := binT n) rfl (by decide +kernel) (by decide +kernel) (fun u => ?_) h
  apply PySem.W.KPc.meets_of
  intro prog w A s P E k
  unfold Builtin.«int.__format__»
  have hne : ((Str.ofString "b").length == 0) = false := by decide +kernel
  have hasc : (((Str.ofString "b").cps.toList.drop 1).any (· ≥ 128) || ((Str.ofString "b").cps.getD 0 0 ≥ 128 && !([60, 62, 61, 94] : List Nat).contains ((Str.ofString "b").cps.getD 1 0))) = false := by decide +kernel
  simp only [selfAndOne, noKeywords, Int.intOfSelf, asInt?, asStr?, List.isEmpty_nil, if_true, pure_bind, bind_pure, bind_assoc, hne, hasc, Bool.false_eq_true, if_false,
    show (Value.str (Str.ofString "b") u == Value.none) = false from rfl]
  refine wpAny_bind (wpAny_typeNameOf (T := "str") (typeIs_str _ _ _) (by decide) fun _ => ?_)
  refine wpAny_bind (wpAny_typeNameOfCut_int ?_)
  simp only [parse_b]
  rw [if_pos (by decide +kernel)]
  have ne : Nat.toDigits 2 n ≠ [] := Nat.toDigits_ne_nil
  have main : intField' fB (decide ((n : Int) < 0)) [] ((Nat.toDigits 2 ((n : Int)).natAbs).map Char.toNat) [] 4 = binT n := by
    rw [decide_eq_false (show ¬ (n : Int) < 0 by omega), Int.natAbs_natCast]
    unfold binT binL
    cases hd : Nat.toDigits 2 n with
    | nil => exact absurd hd ne
    | cons c cs =>
      have go : ∀ L : List Nat, L.isEmpty = false → intField' fB false [] L [] 4 = ⟨L.toArray⟩ := fun L hL => by
        unfold intField'
        rw [hL]
        show (⟨(List.replicate (((-1 : Int) - (0 + 0 + 0) - ((List.replicate ((0 : Int).toNat - L.length) 48 ++ L).length : Int)).toNat) 32 ++ [] ++ [] ++ List.replicate 0 32 ++ (List.replicate ((0 : Int).toNat - L.length) 48 ++ L) ++ [] ++ List.replicate 0 32).toArray⟩ : Str) = ⟨L.toArray⟩
        have r0 : (0 : Int).toNat - L.length = 0 := Nat.zero_sub _
        have r1 : ((-1 : Int) - (((0 : Nat) : Int) + ((0 : Nat) : Int) + ((0 : Nat) : Int)) - (L.length : Int)).toNat = 0 := by omega
        rw [r0, List.replicate_zero, List.replicate_zero, List.nil_append, r1]
        simp
      exact go _ rfl
  show wpAny (model prog w) A (retStr _) P E s
  refine PySem.W.KXf.ret_text (T := binT n) ?_ ?_ k
  · exact main
  · refine Nat.le_trans (Nat.le_of_eq ?_) hl
    exact congrArg Str.length main
end
section
variable {X : Cx}
/-- f"{n:b}" -/
theorem pe_fmtB {e spec : Expr} {te : TE} {pos : Pos} (he : PE X e te) (hs : PE X spec (tC (.str (Str.ofString "b")))) : PE X (.FormattedValue e (-1) (some spec) pos) (fun σ H Q => te σ H fun x H1 => ∃ n : Nat, x = .int (n : Int) ∧ (binT n).length ≤ sizeLine ∧ Q (.str (binT n)) H1) := by
  refine ⟨fun pins s σ H Q I h => ?_⟩
  refine wpAny_FormattedValue_spec (thn (he.run pins s σ H _ I h) fun v s1 hv => ?_)
  obtain ⟨x, H1, I1, r1, n, rfl, hl, q⟩ := hv
  obtain ⟨t, rfl⟩ := r1
  refine thn (hs.run pins s1 σ H1 (fun y H2 => y = .str (Str.ofString "b") ∧ Q (.str (binT n)) H2) I1 ⟨rfl, q⟩) fun r s2 hr => ?_
  obtain ⟨y, H2, I2, r2, rfl, q2⟩ := hr
  obtain ⟨t2, rfl⟩ := r2
  exact ⟨_, _, rfl, field_b hl fun t' k => ⟨.str (binT n), H2, I2.tok k, ⟨_, rfl⟩, q2⟩⟩
end
theorem cnt_nat (c : Nat) : ∀ l : List Nat, cnt c l = ((l.count c : Nat) : Int)
  | [] => by rfl
  | x :: l => by
    have ih : countIn (.str ⟨#[c]⟩) (l.map fun n => PyData.str ⟨#[n]⟩) = _ := cnt_nat c l
    show (if same (PyData.str ⟨#[x]⟩) (.str ⟨#[c]⟩) = true then 1 else 0) + countIn (.str ⟨#[c]⟩) (l.map fun n => PyData.str ⟨#[n]⟩) = _
    rw [ih, List.count_cons]
    have e : same (PyData.str ⟨#[x]⟩) (PyData.str ⟨#[c]⟩) = (x == c) := by
      show ((⟨#[x]⟩ : Str) == ⟨#[c]⟩) = _
      by_cases h : x = c
      · subst h
        simp
      · have h2 : ((⟨#[x]⟩ : Str) == ⟨#[c]⟩) = false := beq_eq_false_iff_ne.mpr fun z => h (by injection z with z; injection z with z; injection z with z)
        rw [h2]
        exact (beq_eq_false_iff_ne.mpr h).symm
    rw [e]
    by_cases h : (x == c) = true
    · rw [if_pos h, if_pos h]
      omega
    · rw [if_neg h, if_neg h]
      omega
theorem bitsB_half (N n : Nat) : (bitsB (N + 1) n).length = n % 2 + (bitsB N (n / 2)).length := by
  unfold bitsB
  have e : ((fun j => n.testBit j) ∘ Nat.succ) = fun j => (n / 2).testBit j := funext fun j => Nat.testBit_succ n j
  rw [List.range_succ_eq_map, List.filter_cons, List.filter_map, e, Nat.testBit_zero]
  by_cases h : n % 2 = 1
  · rw [if_pos (decide_eq_true h), List.length_cons, List.length_map]
    omega
  · rw [if_neg (by simpa using h), List.length_map]
    omega
theorem binL_big {n : Nat} (h : 2 ≤ n) : binL n = binL (n / 2) ++ [n % 2 + 48] := by
  unfold binL
  rw [Nat.toDigits_of_base_le (by decide) h, List.map_append]
  congr 1
  have : n % 2 < 2 := Nat.mod_lt _ (by decide)
  rcases (show n % 2 = 0 ∨ n % 2 = 1 by omega) with e | e <;> rw [e] <;> rfl
theorem binL_small {n : Nat} (h : n < 2) : binL n = [n + 48] := by
  unfold binL
  rw [Nat.toDigits_of_lt_base h]
  rcases (show n = 0 ∨ n = 1 by omega) with e | e <;> rw [e] <;> rfl
/-- so many ones as there are bits -/
theorem ones_bits : ∀ (N n : Nat), n < 2 ^ N → (binL n).count 49 = (bitsB N n).length
  | 0, n, h => by
    have : n = 0 := by simpa using h
    subst this
    rw [binL_small (by decide), bits_zero]
    rfl
  | N + 1, n, h => by
    rw [bitsB_half]
    have h2 : n / 2 < 2 ^ N := by
      rw [Nat.pow_succ] at h
      omega
    by_cases b : 2 ≤ n
    · rw [binL_big b, List.count_append, ones_bits N (n / 2) h2, List.count_singleton]
      rcases (show n % 2 = 0 ∨ n % 2 = 1 by omega) with e | e <;> rw [e] <;> simp <;> omega
    · rw [binL_small (by omega), show n / 2 = 0 by omega, bits_zero]
      rcases (show n = 0 ∨ n = 1 by omega) with e | e <;> subst e <;> rfl
theorem bin_len : ∀ (N n : Nat), n < 2 ^ N → (binL n).length ≤ N + 1
  | 0, n, h => by
    have : n = 0 := by simpa using h
    subst this
    rw [binL_small (by decide)]
    exact Nat.le_refl _
  | N + 1, n, h => by
    have h2 : n / 2 < 2 ^ N := by
      rw [Nat.pow_succ] at h
      omega
    by_cases b : 2 ≤ n
    · rw [binL_big b, List.length_append]
      have := bin_len N (n / 2) h2
      simp
      omega
    · rw [binL_small (by omega)]
      simp
theorem count_bin {N n : Nat} (h : n < 2 ^ N) : Txt.count (binT n) (Str.ofString "1") = (((bitsB N n).length : Nat) : Int) := by
  have e : (Str.ofString "1") = ⟨#[49]⟩ := by decide +kernel
  rw [e, count_cnt, cnt_nat]
  show (((binL n).toArray.toList.count 49 : Nat) : Int) = _
  rw [ones_bits N n h]
theorem binT_len {N n : Nat} (h : n < 2 ^ N) (hN : N < 16000000) : (binT n).length ≤ sizeLine := by
  have := bin_len N n h
  show (binL n).toArray.size ≤ _
  rw [List.size_toArray, sizeLine_eq]
  omega
end Vx
namespace Vx
open PySem PySem.Spec PyProof.Rows L2
/-! ### a dict comprehension whose keys are tuples of ints -/
theorem set_compT {X : Cx} {pins : List (Addr × Obj)} {σ : L2.St} {H : Hp} {s : Shared} {E : Value → Shared → Prop} {D b : Addr} {kvs : List (List L2.Key × V)} {k : List L2.Key} {v : V} {r : Value} {Q : Unit → Shared → Prop} (hu : X.A.units < cLine) (I : Inv X pins σ H s)
    (hD : H D = some (.dT kvs)) (few : kvs.length < sizeLine) (eb : H b = some (.tup (k.map kV))) (rv : RelV v r) (h : ∀ s', Inv X pins σ (upd H D (.dT (putK kvs k v))) s' → Q () s') : wpAny (model X.prog X.w) X.A (dictSet D (.ref b) r) Q E s := by
  obtain ⟨lim, notSys, xs, rel, at_⟩ := dt_of I.hok hD
  have lx : xs.length ≤ sizeLine := Paired.length rel ▸ lim
  have lp := length_putK kvs k v
  refine wpAny_dictSet_heap (hsz := lx) (knd := tupleKind (mixKind X.prog X.w)) hu (key_of I.hok eb) at_ fun h' after same => h _ ?_
  obtain ⟨q, es, ep, gq, a1, a2, a3, _, a4⟩ := after
  have other : ∀ c ys, H c = some (.tup ys) → upd H D (.dT (putK kvs k v)) c = some (.tup ys) := fun c ys ec => by
    rw [upd_ne fun e => ?_]
    · exact ec
    · rw [e, hD] at ec
      cases ec
  exact d_write I (by rw [hD]; exact True.intro) same ⟨q, gq⟩ ⟨by omega, notSys, _, (rel.put k eb rv).keeps other, q, es, ep, gq, a1, a2, a3, a4⟩
/-- what one turn of the comprehension asks -/
def AskT (g : TG) (tt : TT) (tk tv : TE) (vs : List Nat) (σ0 : L2.St) (D : Addr) (Nx : Hp → Prop) (x : V) (H' : Hp) : Prop :=
  g x σ0 H' fun σ2 H2 => wipe σ2 vs = σ0 ∧ tt σ2 H2 fun b H3 =>
    if b = true then tk σ2 H3 fun y H4 => tv σ2 H4 fun z H5 => ∃ (kvs : List (List L2.Key × V)) (k : List L2.Key) (b : Addr), y = .ref b ∧ H5 b = some (.tup (k.map kV)) ∧ H5 D = some (.dT kvs) ∧ kvs.length < sizeLine ∧ Nx (upd H5 D (.dT (putK kvs k z))) else Nx H3
/-- one turn, in the comprehension's own block Y -/
theorem turnT {Y : Cx} {tg kx vx : Expr} {ifs : List Expr} {g : TG} {tt : TT} {tk tv : TE} {vs : List Nat} {σ0 : L2.St} {J : It} {fp : List Addr} {it D : Addr} {tn : Nat → Heap → Prop} {Nx : Hp → Prop} {R : Result → Shared → Prop} {Ex : Value → Shared → Prop} {G : Shared → Prop} {i : Nat} {H0 : Hp} {s0 : Shared}
    (hu : Y.A.units < cLine) (calm : Y.calm = true) (quiet : Y.xe = fun _ _ => False) (pg : PG Y tg g) (pt : PTs Y ifs tt) (pk : PE Y kx tk) (pv : PE Y vx tv) (T : Turn Y.prog Y.w Y.K tg J fp it tn)
    (own : ∀ {σ' : L2.St} {H' : Hp} {s' : Shared}, Inv Y [] σ' H' s' → (∀ b ∈ fp, H' b = none) → ∀ b ∈ fp, FpOk Y [] H' b)
    (I0 : Inv Y [] σ0 H0 s0) (st0 : tn i s0.heap) (no0 : ∀ b ∈ fp, H0 b = none) (go : J.go i H0) (ask : ∀ x H', J.yld i H0 x H' → AskT g tt tk tv vs σ0 D Nx x H')
    (fin : ∀ {s' : Shared} {H' : Hp}, Inv Y [] σ0 H' s' → tn (i + 1) s'.heap → (∀ b ∈ fp, H' b = none) → Nx H' → G s') :
    wpAny (model Y.prog Y.w) Y.A (pyNext (.ref it)) (fun r s₁ => match r with
      | none => R (.ok .next) s₁
      | some v => wpAny (model Y.prog Y.w) Y.A (letOwnedTupleGo tg (.ref it) v) (fun _ s₁' => wpAny (model Y.prog Y.w) Y.A (assign tg Y.env v) (fun _ s₂ =>
          wpAny (model Y.prog Y.w) Y.A (forIn ifs true fun c r => if r = true then do let ok ← isTrue c Y.env (eval c Y.env); pure (ForInStep.yield ok) else pure (ForInStep.yield r)) (fun ok s₃ =>
            if ok = true then wpAny (model Y.prog Y.w) Y.A (eval kx Y.env) (fun kv s₄ => wpAny (model Y.prog Y.w) Y.A (eval vx Y.env) (fun vv s₅ =>
              wpAny (model Y.prog Y.w) Y.A (dictSet D kv vv) (fun _ s₆ => G s₆) Ex s₅) Ex s₄) Ex s₃
            else G s₃) Ex s₂) Ex s₁') Ex s₁) Ex s0 := by
  have first := T.item Y rfl rfl rfl calm i [] s0 _ H0 (fun _ _ => False) I0 (own I0 no0) st0 go
  refine thnF first fun r s1 ⟨u, er, took⟩ => ?_
  subst er
  refine thnF took fun _ s2 ⟨x, H1, I1, rx, yx, st1, no1⟩ => ?_
  have J1 := I1.pinned (own I1 no1) (T.obj _ _ st1)
  have rg := pg.run _ s2 _ H1 x u _ J1 rx (ask x H1 yx)
  rw [quiet] at rg
  refine thnF rg fun _ s3 ⟨σ2, H2, I2, back, q2⟩ => ?_
  have rt := pt.run _ s3 σ2 H2 _ I2 q2
  rw [quiet] at rt
  refine thnF rt fun b s4 ⟨H3, I3, q3⟩ => ?_
  -- the end of the turn
  have close : ∀ {s' : Shared} {H' : Hp}, Inv Y ([] ++ pinsAt fp s2.heap) σ2 H' s' → Nx H' → G s' := fun {s' H'} I' nx => by
    have kept : ∀ c ∈ fp, ∀ o, s2.heap.get? c = some o → s'.heap.get? c = some o ∧ H' c = none := fun c hc o e => by
      have z := I'.pin (c, o) (List.mem_append_right _ (List.mem_append_right _ (mem_pinsAt hc e)))
      exact ⟨z.1, z.2.1⟩
    have len : σ0.length = σ2.length := by rw [← back, wipe_length]
    refine fin ((I'.unpinned (pins := [])).weak len fun j v e => ?_) (T.keep _ _ _ st1 fun c hc o e => (kept c hc o e).1) (fun c hc => ?_) nx
    · rw [← back] at e
      exact (wipe_some e).1
    · obtain ⟨o, e, _⟩ := T.obj _ _ st1 c hc
      exact (kept c hc o e).2
  cases b with
  | false => exact close I3 q3
  | true =>
    have rk := pk.run _ s4 σ2 H3 _ I3 q3
    rw [quiet] at rk
    refine thnF rk fun z s5 ⟨yk, H4, I4, ry, q4⟩ => ?_
    have rv := pv.run _ s5 σ2 H4 _ I4 q4
    rw [quiet] at rv
    refine thnF rv fun z2 s6 ⟨yv, H5, I5, rz, kvs, k, c, ek, hc, hD, few, nx⟩ => ?_
    subst ek
    cases ry
    exact set_compT hu I5 hD few hc rz fun s7 I7 => close I7 nx
section
variable {X : Cx}
/-- {k: v for target in iter if ..}: D the new dict -/
def tDcT (wi : TI) (g : TG) (tt : TT) (tk tv : TE) (vs : List Nat) : TE := fun σ H Q => wi σ H fun J H1 => ∀ D, H1 D = none → ∃ W : Nat → Nat → Hp → Prop, (∃ m, W 0 m (upd H1 D (.dT []))) ∧ ∀ i m H, W i m H →
  (J.stop i H ∧ Q (.ref D) H) ∨ (J.go i H ∧ ∃ Nx : Hp → Prop, (∀ H', Nx H' → ∃ m', m' < m ∧ W (i + 1) m' H') ∧ ∀ x H', J.yld i H x H' → AskT g tt tk tv vs (wipe σ vs) D Nx x H')
theorem dc_core {pins : List (Addr × Obj)} {s : Shared} {σ : L2.St} {H : Hp} {Q : VK} {kx vx tg iter : Expr} {ifs : List Expr} {scope : Scope} {own : List (Str × Nat)} {pos pos' : Pos} {wi : TI} {g : TG} {tt : TT} {tk tv : TE} {use : Option (Value → Sem Unit)} {Qf : Value → Shared → Prop} (calm : X.calm = true) (hu : X.A.units < cLine) (hN : X.N.Nodup) (I : Inv X pins σ H s) (hi : PI X tg iter wi) (ok : BlkOk X.N X.env.scope scope own)
    (hg : ∀ (s : Shared) (H : Hp) (C : Addr) (cl : List (Str × Addr)) (fp : List Addr), PG (X.blk s H scope (compEnvC scope cl C X.env) fp) tg g) (ht : ∀ (s : Shared) (H : Hp) (C : Addr) (cl : List (Str × Addr)) (fp : List Addr), PTs (X.blk s H scope (compEnvC scope cl C X.env) fp) ifs tt)
    (hk : ∀ (s : Shared) (H : Hp) (C : Addr) (cl : List (Str × Addr)) (fp : List Addr), PE (X.blk s H scope (compEnvC scope cl C X.env) fp) kx tk)
    (hv : ∀ (s : Shared) (H : Hp) (C : Addr) (cl : List (Str × Addr)) (fp : List Addr), PE (X.blk s H scope (compEnvC scope cl C X.env) fp) vx tv) (hs : ∀ x, foldedSetIterable iter X.env x = pure x) (h : tDcT wi g tt tk tv (own.map (·.2)) σ H Q)
    (hRR : ∀ D C s' m H', Inv X pins σ H' s' → Q (.ref D) H' → s'.heap.Ns C m → FpOk X pins H' C → compPost (model X.prog X.w) X.A X.xe use Qf (.ref D) C (.ok .next) s') :
    wpAny (model X.prog X.w) X.A (comprehension (.DictComp kx vx [⟨tg, iter, ifs, 0⟩] scope pos) scope X.env pos' newDict false (eval iter X.env) use) Qf X.xe s := by
  have hfree : ∀ y ∈ scope.names, y.2 = .free → ∃ c, X.env.cells.lookup y.1 = some c := fun y hy e => (ok.free y hy e).elim (fun k => I.ok.has _ (.inl k)) fun k => I.ok.has _ (.inr k)
  refine wpAny_comprehension_free (use := use) rfl hs (closure_ok hfree) ok.kind (fun y hy e => by rw [ok.uniq y hy, e]) (thn (hi.run pins s σ H _ I h) fun xv s1 hx => thn hx fun itv sI got => ?_)
  obtain ⟨it, fp, tn, J, HI, rfl, II, T, stI, fpI, q⟩ := got
  refine wpAny_newObj_type (newEnv_comp ?_)
  -- the new dict
  obtain ⟨D, eD⟩ : ∃ D, D = sI.heap.objs.size := ⟨_, rfl⟩
  have nD : HI D = none := II.hok.fresh (Nat.le_of_eq eD.symm)
  obtain ⟨W, ⟨m0, w0⟩, turns⟩ := q D nD
  have hE : ∃ sE : Shared, sE = { sI with heap := sI.heap.push { cls := .type "dict", data := .dict #[] } } := ⟨_, rfl⟩
  obtain ⟨sE, eE⟩ := hE
  have pushE : sE.heap = sI.heap.push { cls := .type "dict", data := .dict #[] } := by rw [eE]
  have IE : Inv X pins σ (upd HI D (.dT [])) sE := by
    rw [eE]
    refine II.laid (t' := sI.toks) (fun b o e => Heap.get?_push_of_some _ e) (Nat.le_of_eq eD.symm) ?_
    rw [eD]
    exact dt_empty sI.heap II.big
  have fpE : ∀ b ∈ fp, FpOk X pins (upd HI D (.dT [])) b ∧ b < sE.heap.objs.size := fun b hb => by
    obtain ⟨o, e, _⟩ := T.obj _ _ stI b hb
    have lb := Heap.lt_size e
    obtain ⟨no, more⟩ := fpI b hb
    refine ⟨⟨?_, more⟩, by rw [pushE, Heap.size_push]; exact Nat.lt_succ_of_lt lb⟩
    rw [upd_ne (Nat.ne_of_lt (by rw [eD]; exact lb))]
    exact no
  have stE : tn 0 sE.heap := T.keep _ _ _ stI fun b _ o e => by rw [pushE]; exact Heap.get?_push_of_some _ e
  -- the block
  have IB := block_start IE ok hN fpE
  have pgB := hg sE (upd HI D (.dT [])) sE.heap.objs.size (cellsFrom (sE.heap.objs.size + 1) scope.names (cloFrom X.env.cells scope.names [])) fp
  have ptB := ht sE (upd HI D (.dT [])) sE.heap.objs.size (cellsFrom (sE.heap.objs.size + 1) scope.names (cloFrom X.env.cells scope.names [])) fp
  have pkB := hk sE (upd HI D (.dT [])) sE.heap.objs.size (cellsFrom (sE.heap.objs.size + 1) scope.names (cloFrom X.env.cells scope.names [])) fp
  have pvB := hv sE (upd HI D (.dT [])) sE.heap.objs.size (cellsFrom (sE.heap.objs.size + 1) scope.names (cloFrom X.env.cells scope.names [])) fp
  rw [← eD]
  have eS : ({ sI with heap := sI.heap.push { cls := .type "dict", data := .dict #[] } } : Shared) = sE := eE.symm
  rw [eS]
  show codeAny _ _ (.compStart (.DictComp kx vx [⟨tg, iter, ifs, 0⟩] scope pos) 0 (.ref it) (.ref D) (compEnvC scope (cellsFrom (sE.heap.objs.size + 1) scope.names (cloFrom X.env.cells scope.names [])) sE.heap.objs.size X.env)) _ _
  have noE : ∀ b ∈ fp, upd HI D (.dT []) b = none := fun b hb => (fpE b hb).1.1
  obtain ⟨env, eEnv⟩ : ∃ env, env = compEnvC scope (cellsFrom (sE.heap.objs.size + 1) scope.names (cloFrom X.env.cells scope.names [])) sE.heap.objs.size X.env := ⟨_, rfl⟩
  have locE : env.locals = sE.heap.objs.size := by rw [eEnv]; rfl
  rw [← eEnv] at IB pgB ptB pkB pvB ⊢
  obtain ⟨HE, eHE⟩ : ∃ HE, HE = upd HI D (.dT []) := ⟨_, rfl⟩
  rw [← eHE] at IE IB pgB ptB pkB pvB w0 noE fpE
  obtain ⟨sB, eB⟩ : ∃ sB : Shared, sB = { sE with heap := pushCells (sE.heap.push { cls := .type "dict", data := .dict #[] }) scope.names } := ⟨_, rfl⟩
  rw [← eB] at IB ⊢
  have stB : tn 0 sB.heap := T.keep _ _ _ stE fun b _ o e => by rw [eB]; exact pushCells_keeps _ _ _ _ (Heap.get?_push_of_some _ e)
  have ownB : ∀ {σ' : L2.St} {H' : Hp} {s' : Shared}, Inv (X.blk sE HE scope env fp) [] σ' H' s' → (∀ b ∈ fp, H' b = none) → ∀ b ∈ fp, FpOk (X.blk sE HE scope env fp) [] H' b := fun {σ' H' s'} I' no b hb =>
    ⟨no b hb, (I'.ok.exf b hb).1, I'.ok.exfs b hb, .inl hb, fun x c e => (I'.ok.exf b hb).2 x c e, fun p hp => absurd (show p ∈ ([] : List (Addr × Obj)) ++ [] from hp) (by simp)⟩
  have loop : codeAny (model X.prog X.w) X.A (.compLoop (.DictComp kx vx [⟨tg, iter, ifs, 0⟩] scope pos) 0 (.ref it) (.ref D) env) (compPost (model X.prog X.w) X.A X.xe use Qf (.ref D) sE.heap.objs.size) sB := by
    refine compLoop_anyD (fun n s' => ∃ i H', Inv (X.blk sE HE scope env fp) [] (wipe σ (own.map (·.2))) H' s' ∧ tn i s'.heap ∧ (∀ b ∈ fp, H' b = none) ∧ W i n H') ?_ m0 ⟨0, HE, IB, stB, noE, w0⟩
    rintro n s5 ⟨i, H5, I5, st5, no5, w5⟩
    rcases turns i n H5 w5 with ⟨stop, done⟩ | ⟨go, Nx, less, ask⟩
    · refine thnF (T.done (X.blk sE HE scope env fp) rfl rfl rfl calm i [] s5 _ H5 (fun _ _ => False) I5 (ownB I5 no5) st5 stop) fun r s6 ⟨er, I6⟩ => ?_
      subst er
      have IX : Inv X pins σ H5 s6 := IE.call' (ch := fp) I6.os I6.base I6.hok I6.bare fun b hb => by
        obtain ⟨_, f1, _, f3, f4, f5⟩ := (fpE b hb).1
        exact ⟨f3, f1, f4, f5⟩
      have nC : H5 sE.heap.objs.size = none := by
        rw [← locE]
        exact I6.free
      obtain ⟨m, hn, _⟩ := I6.loc
      have hn : s6.heap.Ns env.locals m := hn
      rw [locE] at hn
      exact hRR D _ s6 m H5 IX done hn (IE.fpOk (Nat.le_refl _) nC)
    · refine turnT (Y := X.blk sE HE scope env fp) (G := fun s' => ∃ m, m < n ∧ ∃ i H', Inv (X.blk sE HE scope env fp) [] (wipe σ (own.map (·.2))) H' s' ∧ tn i s'.heap ∧ (∀ b ∈ fp, H' b = none) ∧ W i m H') hu calm rfl pgB ptB pkB pvB T ownB I5 st5 no5 go ask fun {s' H'} I' st' no' nx => ?_
      obtain ⟨m, lm, w'⟩ := less H' nx
      exact ⟨m, lm, i + 1, H', I', st', no', w'⟩
  exact codeAny_compStart_dict loop (T.self X.A 0 _ _ _ stB loop)
theorem pe_dcT {kx vx tg iter : Expr} {ifs : List Expr} {scope : Scope} {own : List (Str × Nat)} {pos : Pos} {wi : TI} {g : TG} {tt : TT} {tk tv : TE} (calm : X.calm = true) (hu : X.A.units < cLine) (hN : X.N.Nodup) (hi : PI X tg iter wi) (ok : BlkOk X.N X.env.scope scope own)
    (hg : ∀ (s : Shared) (H : Hp) (C : Addr) (cl : List (Str × Addr)) (fp : List Addr), PG (X.blk s H scope (compEnvC scope cl C X.env) fp) tg g) (ht : ∀ (s : Shared) (H : Hp) (C : Addr) (cl : List (Str × Addr)) (fp : List Addr), PTs (X.blk s H scope (compEnvC scope cl C X.env) fp) ifs tt)
    (hk : ∀ (s : Shared) (H : Hp) (C : Addr) (cl : List (Str × Addr)) (fp : List Addr), PE (X.blk s H scope (compEnvC scope cl C X.env) fp) kx tk)
    (hv : ∀ (s : Shared) (H : Hp) (C : Addr) (cl : List (Str × Addr)) (fp : List Addr), PE (X.blk s H scope (compEnvC scope cl C X.env) fp) vx tv) (hs : ∀ x, foldedSetIterable iter X.env x = pure x := by intro _; rfl) :
    PE X (.DictComp kx vx [⟨tg, iter, ifs, 0⟩] scope pos) (tDcT wi g tt tk tv (own.map (·.2))) := by
  refine ⟨fun pins s σ H Q I h => ?_⟩
  rw [arm_eval_DictComp]
  refine dc_core (use := none) calm hu hN I hi ok hg ht hk hv hs h fun D C s' m H' I' q hn f => ?_
  obtain ⟨f0, f1, f2, f3, f4, f5⟩ := f
  exact ⟨m, hn, fun h'' sb => ⟨.ref D, H', I'.turned (t' := s'.toks) (fun b o hb e => (sb.2 b hb).trans e) f0 f1 f3 f4 f5, rfl, q⟩⟩
theorem sw_dict {kx vx : Expr} {gs : List Comprehension} {scope : Scope} {pos py : Pos} {y : Str} {l : Nat} {env : Env} (hk : env.scope.kind = .function) (hy : env.scope.names.lookup y = some .local) (hl : (py.line == pos.line) = true)
    (ha : (scope.names.any fun (n, k) => n == y && (k == .local || k == .cell)) = false) : swapsWith (.DictComp kx vx gs scope pos) (some (.Name y py)) l env = pure true := by
  have ky : env.kindOf y = some .local := hy
  have hb : env.blockKind = .function := by unfold Env.blockKind; rw [hk]; rfl
  unfold swapsWith
  simp only [hb, ky, ha, Expr.pos, hl]
  rfl
theorem ps_setDcT {i : Nat} {y : Str} {py : Pos} {kx vx tg iter : Expr} {ifs : List Expr} {scope : Scope} {own : List (Str × Nat)} {pos spos : Pos} {wi : TI} {g : TG} {tt : TT} {tk tv : TE} (calm : X.calm = true) (hu : X.A.units < cLine) (hN : X.N.Nodup) (hy : X.N[i]? = some y) (hyl : X.env.scope.names.lookup y = some .local)
    (hsw : swapsWith (.DictComp kx vx [⟨tg, iter, ifs, 0⟩] scope pos) (some (.Name y py)) spos.line X.env = pure true) (hi : PI X tg iter wi) (ok : BlkOk X.N X.env.scope scope own)
    (hg : ∀ (s : Shared) (H : Hp) (C : Addr) (cl : List (Str × Addr)) (fp : List Addr), PG (X.blk s H scope (compEnvC scope cl C X.env) fp) tg g) (ht : ∀ (s : Shared) (H : Hp) (C : Addr) (cl : List (Str × Addr)) (fp : List Addr), PTs (X.blk s H scope (compEnvC scope cl C X.env) fp) ifs tt)
    (hk : ∀ (s : Shared) (H : Hp) (C : Addr) (cl : List (Str × Addr)) (fp : List Addr), PE (X.blk s H scope (compEnvC scope cl C X.env) fp) kx tk)
    (hv : ∀ (s : Shared) (H : Hp) (C : Addr) (cl : List (Str × Addr)) (fp : List Addr), PE (X.blk s H scope (compEnvC scope cl C X.env) fp) vx tv) (hs : ∀ x, foldedSetIterable iter X.env x = pure x := by intro _; rfl) :
    PS X (.Assign [.Name y py] (.DictComp kx vx [⟨tg, iter, ifs, 0⟩] scope pos) spos) (tAsg (tDcT wi g tt tk tv (own.map (·.2))) (gName i)) := by
  refine ⟨fun pins s σ H D I h => ?_⟩
  rw [exec_Assign_Name_used _ _ _ _ hsw]
  refine wpAny_bind (wpAny_standAt (wpAny_bind ?_))
  show wpAny _ X.A (do let _ ← comprehension (.DictComp kx vx [⟨tg, iter, ifs, 0⟩] scope pos) scope X.env (firstIterPos [⟨tg, iter, ifs, 0⟩] pos) newDict false (eval iter X.env) (some (assign (.Name y py) X.env))) _ _ s
  have h : tDcT wi g tt tk tv (own.map (·.2)) σ H (fun x H1 => gName i x σ H1 D.nx) := h
  refine wpAny_bind (thn (dc_core (Qf := fun _ s' => SP X pins D .next s') calm hu hN I hi ok hg ht hk hv hs h fun L C s' m H' I' q hn f => ?_) fun _ s' hq => wpAny_pure (wpAny_pure hq))
  show wpAny _ _ (assign (.Name y py) X.env (.ref L)) _ _ _
  refine wpAny_assign_Name (store_ok2 (v := V.ref L) I' hN hy (.inl hyl) rfl (fun s2 I2 ⟨a, sb, ha⟩ => ?_) (.inr hyl))
  obtain ⟨f0, f1, f2, f3, f4, f5⟩ := f
  have haC : C ≠ a := by
    rcases ha with z | z
    · rw [z]; exact f1
    · exact fun e => f4 y a z e.symm
  refine ⟨m, hn.sameBut sb haC, fun h3 sb3 => ?_⟩
  exact ⟨_, H', I2.turned (t' := s2.toks) (fun b o hb e => (sb3.2 b hb).trans e) f0 f1 f3 f4 f5, q⟩
/-- over a walk -/
theorem dcT_it {J : It} {n : Nat} {G : Hp → Prop} {Y : Nat → Hp → V → Hp → Prop} (w : Walk J n G Y) {g : TG} {tt : TT} {tk tv : TE} {vs : List Nat} {σ : L2.St} {H1 : Hp} {D : Addr} {Qd : Hp → Prop} (Pv : Nat → Hp → Prop) (h0 : Pv 0 (upd H1 D (.dT []))) (hG : ∀ i H, i ≤ n → Pv i H → G H)
    (hs : ∀ i x H H', i < n → Pv i H → Y i H x H' → AskT g tt tk tv vs (wipe σ vs) D (Pv (i + 1)) x H') (hd : ∀ H, Pv n H → Qd H) :
    ∃ W : Nat → Nat → Hp → Prop, (∃ m, W 0 m (upd H1 D (.dT []))) ∧ ∀ i m H, W i m H →
      (J.stop i H ∧ Qd H) ∨ (J.go i H ∧ ∃ Nx : Hp → Prop, (∀ H', Nx H' → ∃ m', m' < m ∧ W (i + 1) m' H') ∧ ∀ x H', J.yld i H x H' → AskT g tt tk tv vs (wipe σ vs) D Nx x H') := by
  refine ⟨fun i m H => m + i = n ∧ Pv i H, ⟨n, rfl, h0⟩, ?_⟩
  rintro i m H ⟨e, p⟩
  have st := hG i H (by omega) p
  by_cases lt : i < n
  · exact .inr ⟨w.goes i H lt st, Pv (i + 1), fun H' p' => ⟨m - 1, by omega, by omega, p'⟩, fun x H' y => hs i x H H' lt p (w.yields i H x H' lt st y)⟩
  · have : i = n := by omega
    subst this
    exact .inl ⟨w.stops H st, hd H p⟩
end
end Vx
namespace Vx
open PySem PySem.Spec PyProof.Rows L2
theorem op_notInP {X : Cx} (hu : X.A.units + 65 < cLine) : OpR X (compareOp .NotIn) (fun x y H Q => ∃ (t a : Addr) (p : Pr) (ps : List Pr), x = .ref t ∧ y = .ref a ∧ H t = some (.tup [.int p.1, .int p.2]) ∧ Cells H a ps ∧ Q (.bl (!decide (p ∈ ps))) H) := by
  intro pins s σ H x y v u Q I rx ry h
  obtain ⟨t, a, p, ps, rfl, rfl, ht, hc, q⟩ := h
  refine op_notInD hu pins s σ H _ _ v u Q I rx ry ⟨pd p, ps.map pd, .tup (tup_of ht) (.cons (.int _) (.cons (.int _) .nil)), dp_cells hc, shaped_pd p, shaped_cells ps, ?_⟩
  rw [any_pd]
  exact q
/-! ### lists of lists of pairs -/
def lp (ps : List Pr) : PyData := .list (ps.map pd)
def CellsL (H : Hp) (l : Addr) (pss : List (List Pr)) : Prop :=
  ∃ ts : List (Addr × List Pr), H l = some (.lst (ts.map fun t => V.ref t.1)) ∧ (∀ t ∈ ts, Cells H t.1 t.2) ∧ ts.map (·.2) = pss
theorem CellsL.up {H H' : Hp} {l : Addr} {pss : List (List Pr)} (e : Same H H') (h : CellsL H l pss) : CellsL H' l pss := by
  obtain ⟨ts, h1, h2, h3⟩ := h
  exact ⟨ts, e _ _ h1, fun t m => (h2 t m).up e, h3⟩
theorem CellsL.lst {H : Hp} {l : Addr} {pss : List (List Pr)} (h : CellsL H l pss) : ∃ xs, H l = some (.lst xs) ∧ xs.length = pss.length := by
  obtain ⟨ts, h1, h2, h3⟩ := h
  exact ⟨_, h1, by rw [← h3, List.length_map, List.length_map]⟩
theorem CellsL.at {H : Hp} {l : Addr} {pss : List (List Pr)} {i : Nat} {ps : List Pr} (h : CellsL H l pss) (e : pss[i]? = some ps) : ∃ xs a, H l = some (.lst xs) ∧ xs[i]? = some (.ref a) ∧ Cells H a ps := by
  obtain ⟨ts, h1, h2, rfl⟩ := h
  rw [List.getElem?_map] at e
  cases q : ts[i]? with
  | none => rw [q] at e; cases e
  | some t =>
    rw [q] at e
    refine ⟨_, t.1, h1, by rw [List.getElem?_map, q]; rfl, ?_⟩
    rw [← Option.some.inj e]
    exact h2 t (List.mem_of_getElem? q)
theorem CellsL.mut {H : Hp} {l d : Addr} {pss : List (List Pr)} {o : HO} (h : CellsL H l pss) (ne : l ≠ d) (nl : ∀ xs, H d ≠ some (.lst xs)) (nt : ∀ xs, H d ≠ some (.tup xs)) : CellsL (upd H d o) l pss := by
  obtain ⟨ts, h1, h2, h3⟩ := h
  refine ⟨ts, by rw [upd_ne ne]; exact h1, fun t m => (h2 t m).mut (fun e => ?_) nt, h3⟩
  obtain ⟨us, z, _⟩ := h2 t m
  rw [e] at z
  exact nl _ z
theorem eqv_lp (a b : List Pr) : PyData.eqv (lp a) (lp b) = decide (a = b) := eqv_cells a b
theorem eqvAll_lp : ∀ (l m : List (List Pr)), PyData.eqvAll (l.map lp) (m.map lp) = decide (l = m)
  | [], [] => by simp [PyData.eqvAll]
  | [], y :: m => by simp [PyData.eqvAll]
  | x :: l, [] => by simp [PyData.eqvAll]
  | x :: l, y :: m => by
    show (PyData.eqv (lp x) (lp y) && PyData.eqvAll (l.map lp) (m.map lp)) = _
    rw [eqvAll_lp l m, eqv_lp]
    by_cases e : x = y <;> by_cases e2 : l = m <;> simp [e, e2]
theorem eqv_lps (l m : List (List Pr)) : PyData.eqv (.list (l.map lp)) (.list (m.map lp)) = decide (l = m) := eqvAll_lp l m
theorem canAll_lp : ∀ l : List (List Pr), PyData.canLayAll0 (l.map lp) = true
  | [] => by simp [PyData.canLayAll0]
  | x :: l => by
    rw [List.map_cons]
    simp [PyData.canLayAll0, PyData.canLay0, lp, canAll_pd, canAll_lp l]
theorem depAll_lp : ∀ l : List (List Pr), PyData.depthAll (l.map lp) ≤ 2
  | [] => by simp [PyData.depthAll]
  | x :: l => by
    rw [List.map_cons]
    have := depAll_lp l
    have := depAll_pd x
    simp only [PyData.depthAll, PyData.depth, lp]
    omega
theorem shaped_lp (l : List Pr) : SeqAt.shaped (lp l) = true := shaped_cells l
theorem shaped_lps (l : List (List Pr)) : SeqAt.shaped (.list (l.map lp)) = true := by
  unfold SeqAt.shaped
  have := depAll_lp l
  simp only [PyData.canLay0, PyData.depth, canAll_lp]
  simp
  omega
theorem any_lp (p : List Pr) : ∀ ps : List (List Pr), (ps.map lp).any (fun z => PyData.eqv z (lp p)) = decide (p ∈ ps)
  | [] => by simp
  | q :: ps => by
    rw [List.map_cons, List.any_cons, any_lp p ps, eqv_lp]
    by_cases e : q = p
    · subst e
      simp
    · have e2 : ¬ p = q := fun z => e z.symm
      simp [e, e2]
theorem dp_cellsL {K : PySem.W.Frag} {H : Hp} {a : Addr} {pss : List (List Pr)} (h : CellsL H a pss) : Dp K H (.ref a) (.list (pss.map lp)) := by
  obtain ⟨ts, hl, ht, rfl⟩ := h
  refine .lst (lst_of hl) ?_
  have go : ∀ us : List (Addr × List Pr), (∀ t ∈ us, Cells H t.1 t.2) → DpAll K H (us.map fun t => V.ref t.1) ((us.map (·.2)).map lp) := fun us => by
    induction us with
    | nil => exact fun _ => .nil
    | cons t us ih => exact fun h => .cons (dp_cells (h t List.mem_cons_self)) (ih fun u m => h u (List.mem_cons_of_mem _ m))
  exact go ts ht
theorem op_inL {X : Cx} (hu : X.A.units + 65 < cLine) : OpR X (compareOp .In) (fun x y H Q => ∃ (t a : Addr) (p : List Pr) (ps : List (List Pr)), x = .ref t ∧ y = .ref a ∧ Cells H t p ∧ CellsL H a ps ∧ Q (.bl (decide (p ∈ ps))) H) := by
  intro pins s σ H x y v u Q I rx ry h
  obtain ⟨t, a, p, ps, rfl, rfl, ht, hc, q⟩ := h
  refine op_inD hu pins s σ H _ _ v u Q I rx ry ⟨lp p, ps.map lp, dp_cells ht, dp_cellsL hc, shaped_lp p, shaped_lps ps, ?_⟩
  rw [any_lp]
  exact q
theorem mt_indexL {X : Cx} (hu : X.A.units + 65 < cLine) : MtR X "list.index" (fun x xs H Q => ∃ (a t : Addr) (p : List Pr) (ps : List (List Pr)), x = .ref a ∧ xs = [.ref t] ∧ Cells H t p ∧ CellsL H a ps ∧
    ∃ j, ps[j]? = some p ∧ (∀ m p', m < j → ps[m]? = some p' → p' ≠ p) ∧ Q (.int (j : Nat)) H) := by
  intro pins s σ H x xs v us Q I rx rxs h
  obtain ⟨a, t, p, ps, rfl, rfl, ht, hc, j, hj, hno, q⟩ := h
  refine mt_indexD hu pins s σ H _ _ v us Q I rx rxs ⟨a, .ref t, lp p, ps.map lp, j, lp p, rfl, rfl, dp_cellsL hc, dp_cells ht, shaped_lps ps, shaped_lp p, by rw [List.getElem?_map, hj]; rfl, by rw [eqv_lp]; exact decide_eq_true rfl, fun m z' hm hz => ?_, q⟩
  rw [List.getElem?_map] at hz
  obtain ⟨p', hp, rfl⟩ := Option.map_eq_some_iff.mp hz
  rw [eqv_lp]
  exact decide_eq_false (hno m p' hm hp)
theorem CellsL.add {H : Hp} {l t : Addr} {pss : List (List Pr)} {ps : List Pr} {vs : List V} (h : CellsL H l pss) (hv : H l = some (.lst vs)) (hc : Cells H t ps) (ne : t ≠ l) : CellsL (upd H l (.lst (vs ++ [.ref t]))) l (pss ++ [ps]) := by
  obtain ⟨ts, h1, h2, rfl⟩ := h
  have e : vs = ts.map fun t => V.ref t.1 := by
    rw [h1] at hv
    injection hv with hv
    injection hv with hv
    exact hv.symm
  subst e
  have nt : ∀ xs, H l ≠ some (.tup xs) := fun xs z => by
    rw [h1] at z
    cases z
  have nl : ∀ u ∈ ts, u.1 ≠ l := fun u m e => by
    obtain ⟨us, g1, g2, _⟩ := h2 u m
    rw [e, h1] at g1
    injection g1 with g1
    injection g1 with g1
    have mu : V.ref u.1 ∈ ts.map fun t => V.ref t.1 := List.mem_map.mpr ⟨u, m, rfl⟩
    rw [g1] at mu
    obtain ⟨y, my, ey⟩ := List.mem_map.mp mu
    have ey : y.1 = u.1 := V.ref.inj ey
    have z := g2 y my
    rw [ey, e, h1] at z
    cases z
  refine ⟨ts ++ [(t, ps)], by rw [upd_same, List.map_append]; rfl, fun u m => ?_, by rw [List.map_append]; rfl⟩
  rcases List.mem_append.mp m with m | m
  · exact (h2 u m).mut (nl u m) nt
  · rw [List.mem_singleton.mp m]
    exact hc.mut ne nt
theorem CellsL.one {H : Hp} {l t : Addr} {ps : List Pr} (h : H l = some (.lst [.ref t])) (hc : Cells H t ps) : CellsL H l [ps] := ⟨[(t, ps)], h, fun u m => by rw [List.mem_singleton.mp m]; exact hc, rfl⟩
/-- a statement with a word of one's own behind it -/
def tMid (t : TS) : TS := fun D σ H => ∃ P : L2.St → Hp → Prop, t { D with nx := P } σ H ∧ ∀ σ' H', P σ' H' → D.nx σ' H'
theorem ps_mid {X : Cx} {st : Stmt} {t : TS} (h : PS X st t) : PS X st (tMid t) := by
  refine ⟨fun pins s σ H D I hw => ?_⟩
  obtain ⟨P, h1, h2⟩ := hw
  refine thn (h.run pins s σ H _ I h1) fun f s1 q => ?_
  cases f with
  | next =>
    obtain ⟨σ', H', I2, q⟩ := q
    exact ⟨σ', H', I2, h2 _ _ q⟩
  | brk => exact q
  | cont => exact q
  | ret v => exact q
/-- an expression with a word of one's own behind it -/
def tMidE (t : TE) : TE := fun σ H Q => ∃ P : V → Hp → Prop, t σ H P ∧ ∀ v H', P v H' → Q v H'
theorem pe_mid {X : Cx} {e : Expr} {t : TE} (h : PE X e t) : PE X e (tMidE t) := by
  refine ⟨fun pins s σ H Q I hw => ?_⟩
  obtain ⟨P, h1, h2⟩ := hw
  exact thn (h.run pins s σ H _ I h1) fun v s1 ⟨x, H1, I2, r, q⟩ => ⟨x, H1, I2, r, h2 _ _ q⟩
end Vx
namespace Vx
open PySem PySem.Spec PyProof.Rows L2
/-! ### the least one of some lists of pairs -/
def ltL (a b : List Pr) : Bool := W.dataLt (lp a) (lp b)
theorem toksAll_inj : ∀ (a b : List Pr), W.keyToksAll (a.map pd) = W.keyToksAll (b.map pd) → a = b
  | [], [], _ => rfl
  | [], y :: b, h => by simp [W.keyToksAll] at h
  | x :: a, [], h => by simp [W.keyToksAll] at h
  | x :: a, y :: b, h => by
    obtain ⟨x1, x2⟩ := x
    obtain ⟨y1, y2⟩ := y
    simp [W.keyToksAll, W.keyToks, pd] at h
    obtain ⟨h1, h2, h3⟩ := h
    rw [h1, h2, toksAll_inj a b h3]
theorem lp_inj {a b : List Pr} (h : lp a = lp b) : a = b := by
  have : PyData.eqv (lp a) (lp b) = true := by
    rw [h, eqv_lp]
    exact decide_eq_true rfl
  rw [eqv_lp] at this
  exact of_decide_eq_true this
theorem ltL_irr (a : List Pr) : ltL a a = false := lex_irrefl _
theorem ltL_trans {a b c : List Pr} (h : ltL a b = true) (h2 : ltL b c = true) : ltL a c = true := lex_trans _ _ _ h h2
theorem ltL_neg {a b c : List Pr} (h : ltL a c = true) : ltL a b = true ∨ ltL b c = true := lex_negTrans _ _ _ h
theorem ltL_total {a b : List Pr} (h : ltL a b = false) (h2 : ltL b a = false) : a = b := by
  have e := lex_total _ _ h h2
  exact toksAll_inj a b e
def minL (x : List Pr) (xs : List (List Pr)) : List Pr := xs.foldl (fun a y => if ltL y a then y else a) x
def LeastL (m : List Pr) (xs : List (List Pr)) : Prop := m ∈ xs ∧ ∀ y ∈ xs, ltL y m = false
theorem minL_least : ∀ (xs : List (List Pr)) (x : List Pr), LeastL (minL x xs) (x :: xs)
  | [], x => ⟨List.mem_cons_self, fun y m => by rw [List.mem_singleton.mp m]; exact ltL_irr x⟩
  | y :: xs, x => by
    show LeastL (minL (if ltL y x then y else x) xs) (x :: y :: xs)
    have ih := minL_least xs (if ltL y x then y else x)
    generalize minL (if ltL y x then y else x) xs = m at ih
    obtain ⟨h1, h2⟩ := ih
    by_cases c : ltL y x = true
    · rw [if_pos c] at h1 h2
      refine ⟨List.mem_cons_of_mem _ h1, fun z mz => ?_⟩
      rcases List.mem_cons.mp mz with e | mz
      · rw [e]
        refine Bool.eq_false_iff.mpr fun t => ?_
        have := h2 y List.mem_cons_self
        rw [ltL_trans c t] at this
        cases this
      · exact h2 z mz
    · rw [if_neg c] at h1 h2
      have c := Bool.eq_false_iff.mpr c
      refine ⟨?_, fun z mz => ?_⟩
      · rcases List.mem_cons.mp h1 with e | m1
        · rw [e]
          exact List.mem_cons_self
        · exact List.mem_cons_of_mem _ (List.mem_cons_of_mem _ m1)
      · rcases List.mem_cons.mp mz with e | mz
        · exact h2 z (e ▸ List.mem_cons_self)
        · rcases List.mem_cons.mp mz with e | mz
          · rw [e]
            refine Bool.eq_false_iff.mpr fun t => ?_
            rcases ltL_neg (b := x) t with t | t
            · rw [c] at t
              cases t
            · rw [h2 x List.mem_cons_self] at t
              cases t
          · exact h2 z (List.mem_cons_of_mem _ mz)
theorem LeastL.uniq {a b : List Pr} {xs ys : List (List Pr)} (h : LeastL a xs) (h2 : LeastL b ys) (e : ∀ x, x ∈ xs ↔ x ∈ ys) : a = b :=
  ltL_total (h2.2 a ((e a).mp h.1)) (h.2 b ((e b).mpr h2.1))
theorem minD_lp (x : List Pr) : ∀ xs : List (List Pr), W.minD (lp x) (xs.map lp) = lp (minL x xs) := by
  intro xs
  unfold W.minD minL
  induction xs generalizing x with
  | nil => rfl
  | cons y xs ih =>
    rw [List.map_cons, List.foldl_cons, List.foldl_cons, ← ih]
    congr 1
    show (if ltL y x = true then lp y else lp x) = _
    split <;> rfl
theorem alike_pd (x y : Pr) : W.alike (pd x) (pd y) = true := rfl
theorem alikeAll_pd : ∀ a b : List Pr, W.alikeAll (a.map pd) (b.map pd) = true
  | [], _ => by simp [W.alikeAll]
  | _ :: _, [] => by simp [W.alikeAll]
  | x :: a, y :: b => by
    rw [List.map_cons, List.map_cons, W.alikeAll, alike_pd, alikeAll_pd a b]
    rfl
theorem alike_lp (a b : List Pr) : W.alike (lp a) (lp b) = true := by
  unfold lp
  rw [W.alike]
  exact alikeAll_pd a b
theorem plainAll_pd : ∀ l : List Pr, PyData.plainAll (l.map pd) = true
  | [] => by simp [PyData.plainAll]
  | x :: l => by
    rw [List.map_cons]
    simp [PyData.plainAll, PyData.plain, pd, plainAll_pd l]
theorem plain_lp (l : List Pr) : PyData.plain (lp l) = true := by
  unfold lp
  rw [PyData.plain]
  exact plainAll_pd l
theorem plainAll_lp : ∀ l : List (List Pr), PyData.plainAll (l.map lp) = true
  | [] => by simp [PyData.plainAll]
  | x :: l => by
    rw [List.map_cons, PyData.plainAll, plain_lp, plainAll_lp l]
    rfl
section
variable {X : Cx}
theorem cr_minL (hc : X.calm = true) (hu : X.A.units + 65 < cLine) : CallR X (.builtin "min") (fun xs H Q => ∃ l x xss, xs = [V.ref l] ∧ CellsL H l (x :: xss) ∧ ∀ a, Cells H a (minL x xss) → Q (.ref a) H) := by
  intro pins s σ H xs us Q I r h
  obtain ⟨l, x, xss, rfl, ⟨ts, hl, ht, ets⟩, q⟩ := h
  obtain ⟨its, rv, pl, hz⟩ := I.list (lst_of hl)
  rw [Vals.ref1 r]
  have dpa : DpAll X.K H (ts.map fun t => V.ref t.1) ((x :: xss).map lp) := by
    rw [← ets]
    have go : ∀ us : List (Addr × List Pr), (∀ t ∈ us, Cells H t.1 t.2) → DpAll X.K H (us.map fun t => V.ref t.1) ((us.map (·.2)).map lp) := fun us => by
      induction us with
      | nil => exact fun _ => .nil
      | cons t us ih => exact fun h => .cons (dp_cells (h t List.mem_cons_self)) (ih fun u m => h u (List.mem_cons_of_mem _ m))
    exact go ts ht
  obtain ⟨as, hr⟩ := Dp.readsAll I _ _ its dpa rv
  have dep := depAll_lp (x :: xss)
  have er : its = ts.map fun t => Value.ref t.1 := by
    have go : ∀ (us : List (Addr × List Pr)) (vs : List Value), Vals (us.map fun t => V.ref t.1) vs → vs = us.map fun t => Value.ref t.1 := fun us => by
      induction us with
      | nil => intro vs h; cases h; rfl
      | cons u us ih =>
        intro vs h
        cases h with
        | cons r1 r2 =>
          cases r1
          rw [ih _ r2]
          rfl
    exact go ts its rv
  refine W.min_list_data (x := lp x) (xs := xss.map lp) (I.ok.hd hc) pl.isList hr ⟨fun a ma b mb => ?_, fun a ma => ?_⟩ (by rw [← List.map_cons]; omega) fun i v h' tk bs hv rd k => ?_
  · obtain ⟨a, _, rfl⟩ := List.mem_map.mp (show a ∈ (x :: xss).map lp from ma)
    obtain ⟨b, _, rfl⟩ := List.mem_map.mp (show b ∈ (x :: xss).map lp from mb)
    exact alike_lp a b
  · obtain ⟨a, _, rfl⟩ := List.mem_map.mp (show a ∈ (x :: xss).map lp from ma)
    intro z
    cases z
  · rw [minD_lp] at rd
    have hv' : its[i]? = some v := by simpa using hv
    rw [er, List.getElem?_map] at hv'
    obtain ⟨t, et, rfl⟩ := Option.map_eq_some_iff.mp hv'
    have mt := List.mem_of_getElem? et
    obtain ⟨as2, r2⟩ := Dp.reads I (lp t.2) (.ref t.1) (.ref t.1) (dp_cells (ht t mt)) rfl
    have e := W.alike_unique _ _ _ _ _ (alike_lp _ _) rd (Reads.keeps k r2)
    refine ⟨.ref t.1, H, I.kept k, rfl, q t.1 ?_⟩
    rw [lp_inj e]
    exact ht t mt
theorem count_lp (p : List Pr) : ∀ pss : List (List Pr), (pss.map lp).countP (fun y => PyData.eqv y (lp p)) = pss.count p
  | [] => rfl
  | x :: pss => by
    rw [List.map_cons, List.countP_cons, List.count_cons, count_lp p pss, eqv_lp]
    by_cases e : x = p
    · simp [e]
    · simp [e]
theorem mt_countL (hu : X.A.units + 65 < cLine) : MtR X "list.count" (fun x xs H Q => ∃ (a t : Addr) (p : List Pr) (pss : List (List Pr)), x = .ref a ∧ xs = [.ref t] ∧ Cells H t p ∧ CellsL H a pss ∧ Q (.int (pss.count p : Nat)) H) := by
  intro pins s σ H x xs v us Q I rx rxs h
  obtain ⟨a, t, p, pss, rfl, rfl, hp, hl, q⟩ := h
  cases rx
  obtain ⟨u, rfl, ru⟩ := rxs.one
  obtain ⟨as, r1⟩ := Dp.reads I (lp p) (.ref t) u (dp_cells hp) ru
  have dl := dp_cellsL (K := X.K) hl
  have dep := depAll_lp pss
  cases dl with
  | lst hs ha =>
    obtain ⟨its, rv, pl, hz⟩ := I.list hs
    obtain ⟨bs, hr⟩ := Dp.readsAll I _ _ its ha rv
    refine SeqAt.count_list_data pl.isList hr r1 (plainAll_lp pss) (plain_lp p) (by have := Nat.min_le_left (PyData.depthAll (pss.map lp)) (lp p).depth; omega) ?_
    rw [count_lp]
    exact ⟨.int (pss.count p : Nat), H, I.tok _, ⟨_, rfl⟩, q⟩
end
theorem ix_listK {X : Cx} {K : PySem.W.Frag} (hK : X.K = K) : IxR X (rIxL K) := by
  subst hK
  exact ix_list
theorem op_eqDK {X : Cx} {K : PySem.W.Frag} (hK : X.K = K) (hu : X.A.units + 64 < cLine) : OpR X (compareOp .Eq) (rEqD K) := by
  subst hK
  exact op_eqD hu
/-- a comprehension over such a list, a new list of pairs for each -/
theorem lc_lists {K : PySem.W.Frag} {l : Addr} {pss : List (List Pr)} {g : TG} {tt : TT} {te : TE} {vs : List Nat} {σ : L2.St} {H1 : Hp} {D : Addr} {Qd : Hp → Prop} (f : List Pr → List Pr) (hC : CellsL H1 l pss) (nD : H1 D = none) (few : pss.length < sizeLine)
    (hs : ∀ (t : Addr) (ps : List Pr) (H' : Hp) (Po : V → Hp → Prop) (Pn : Hp → Prop), ps ∈ pss → Same H1 H' → Cells H' t ps → (∀ H2 t2, Same H' H2 → H' t2 = none → Cells H2 t2 (f ps) → Po (.ref t2) H2) →
      g (.ref t) (wipe σ vs) H' fun σ2 H2 => wipe σ2 vs = wipe σ vs ∧ tt σ2 H2 fun b H3 => if b = true then te σ2 H3 Po else Pn H3)
    (hd : ∀ H', Same H1 H' → CellsL H' D (pss.map f) → Qd H') :
    ∃ W : Nat → Nat → Hp → Prop, (∃ m, W 0 m (upd H1 D (.lst []))) ∧ ∀ i m H, W i m H →
      ((Itl K l).stop i H ∧ Qd H) ∨ ((Itl K l).go i H ∧ ∃ Nx : Hp → Prop, (∀ H', Nx H' → ∃ m', m' < m ∧ W (i + 1) m' H') ∧ ∀ x H', (Itl K l).yld i H x H' → g x (wipe σ vs) H' fun σ2 H2 => wipe σ2 vs = wipe σ vs ∧ tt σ2 H2 fun b H3 =>
        if b = true then te σ2 H3 fun y H4 => ∃ acc, H4 D = some (.lst acc) ∧ acc.length < sizeLine ∧ Nx (upd H4 D (.lst (acc ++ [y]))) else Nx H3) := by
  obtain ⟨ts, hl, ht, rfl⟩ := hC
  rw [List.length_map] at few
  refine lc_list (K := K) (a := l) (xs := ts.map fun t => V.ref t.1) (fun i H' => Same H1 H' ∧ ∃ us : List (Addr × List Pr), H' D = some (.lst (us.map fun t => V.ref t.1)) ∧ (∀ t ∈ us, t.1 ≠ D ∧ Cells H' t.1 t.2) ∧ us.map (·.2) = ((ts.map (·.2)).take i).map f)
    ⟨newS nD, [], upd_same, fun _ m => (by cases m), rfl⟩ (fun i H' _ p => lst_of (p.1 _ _ hl)) ?_ ?_
  · rintro i x H' hi ⟨sm, us, h1, h2, h3⟩
    rw [List.getElem?_map] at hi
    obtain ⟨t, et, rfl⟩ := Option.map_eq_some_iff.mp hi
    have mt := List.mem_of_getElem? et
    have ei : (ts.map (·.2))[i]? = some t.2 := by rw [List.getElem?_map, et]; rfl
    have li := (List.getElem?_eq_some_iff.mp et).1
    have ul : us.length = i := by
      have z := congrArg List.length h3
      rw [List.length_map, List.length_map, List.length_take, List.length_map] at z
      omega
    refine hs t.1 t.2 H' _ _ (List.mem_map.mpr ⟨t, mt, rfl⟩) sm ((ht t mt).up sm) fun H2 t2 e2 n2 hc => ⟨us.map fun t => V.ref t.1, e2 _ _ h1, by rw [List.length_map]; omega, mutS (sm.trans e2) nD, us ++ [(t2, f t.2)], ?_, ?_, ?_⟩
    · rw [upd_same, List.map_append]
      rfl
    · have nD2 : t2 ≠ D := fun e => by
        rw [e, h1] at n2
        cases n2
      have nt : ∀ xs, H2 D ≠ some (.tup xs) := fun xs e => by
        rw [e2 _ _ h1] at e
        cases e
      intro u m
      rcases List.mem_append.mp m with m | m
      · exact ⟨(h2 u m).1, ((h2 u m).2.up e2).mut (h2 u m).1 nt⟩
      · rw [List.mem_singleton.mp m]
        exact ⟨nD2, hc.mut nD2 nt⟩
    · rw [List.map_append, h3, take_next ei, List.map_append]
      rfl
  · rintro H' ⟨sm, us, h1, h2, h3⟩
    refine hd H' sm ⟨us, h1, fun t m => (h2 t m).2, ?_⟩
    rw [h3, List.length_map, List.take_of_length_le (by rw [List.length_map]; exact Nat.le_refl _)]
end Vx
namespace Vx
open PySem PySem.Spec PyProof.Rows L2
/-- isinstance of the caught error, its class told by the reading -/
theorem call_isE2 {X : Cx} {a D : Addr} {oe : Obj} {cls : Value} {d : Option Addr} {pn : List (Addr × Obj)} (C : ExcC X.K D) (hz : Zc cls d oe) (hf : ∃ vs, oe.data = .fields vs) :
    CallR (X.suite a ((a, oe) :: pn)) (.builtin "isinstance") (fun xs H Q => cls = .ref D ∧ d = none ∧ rIsE X.K D a xs H Q) := fun pins s σ H xs us Q I r h => by
  obtain ⟨h1, h2, h3⟩ := h
  subst h1 h2
  exact call_isE C hz hf pins s σ H xs us Q I r h3
theorem kit_sub {K : PySem.W.Frag} {D C : Addr} {b : Bool} (hc : PySem.W.isClsIn K C = true) (ht : PySem.W.typeIn K (.ref C) = some (.type "type")) (h1 : PySem.W.subIn K (.ref D) (.ref D) = some true) (h2 : PySem.W.subIn K (.ref D) (.ref C) = some b) :
    PySem.W.kitOne K (.ref D) (.ref C) = some b := by
  unfold PySem.W.kitOne
  by_cases e : D = C
  · subst e
    rw [h1] at h2
    rw [if_pos (beq_self_eq_true _)]
    exact h2
  · rw [if_neg (by intro q; exact e (Value.ref.inj (beq_iff_eq.mp q)))]
    unfold PySem.W.kitCls
    have hc' : (PySem.W.clsIn K C).isSome = true := hc
    have e2 : ((PySem.W.clsIn K C).isSome && PySem.W.typeIn K (.ref C) == some (.type "type")) = true := by rw [hc', ht]; rfl
    show (if ((PySem.W.clsIn K C).isSome && PySem.W.typeIn K (.ref C) == some (.type "type")) = true then PySem.W.subIn K (.ref D) (.ref C) else none) = some b
    rw [if_pos e2]
    exact h2
theorem kit_ve {K : PySem.W.Frag} {D : Addr} {b : Bool} (h2 : PySem.W.subIn K (.ref D) (.type "ValueError") = some b) : PySem.W.kitOne K (.ref D) (.type "ValueError") = some b := by
  unfold PySem.W.kitOne
  rw [if_neg (by intro q; cases (beq_iff_eq.mp q))]
  show (if PySem.W.kitMeta "ValueError" = true then PySem.W.subIn K (.ref D) (.type "ValueError") else none) = some b
  rw [if_pos (by decide +kernel)]
  exact h2
end Vx
namespace Vx
open PySem PySem.Spec PyProof.Rows L2
/-! ### comprehensions with any number of loops: one loop -/
def turnF (p : Pos) (tg : Expr) (ifs : List Expr) (em : (Unit → Sem PySem.Fin) → Sem PySem.Fin) (c : Code) (it : Value) (env : Env) : Sem PySem.Fin := do
  standAt p
  let r ← pyNext it
  match r with
  | none => pure (Fin.done Flow.next)
  | some v => do
    letOwnedTupleGo tg it v
    assign tg env v
    let s ← forIn ifs true fun c r => if r = true then do
        let ok ← PySem.isTrue c env (eval c env)
        pure (ForInStep.yield ok)
      else pure (ForInStep.yield r)
    if s = true then em fun _ => again c else again c
def finP (R : Result → Shared → Prop) (c : Code) (I : Nat → Shared → Prop) (n : Nat) : PySem.Fin → Shared → Prop := fun fin s' => match fin with
  | Fin.done f => R (Except.ok f) s'
  | Fin.again c' => c' = c ∧ ∃ m, m < n ∧ I m s'
theorem loopG {prog : Program} {w : World} {A : Around} {R : Result → Shared → Prop} {s : Shared} {e : Expr} {d : Nat} {it acc : Value} {env : Env} {p : Pos} {tg : Expr} {ifs : List Expr} {em : (Unit → Sem PySem.Fin) → Sem PySem.Fin}
    (hq : (Code.compLoop e d it acc env).quiet = true) (hun : A.under (Code.compLoop e d it acc env) = A) (hden : (model prog w).den (Code.compLoop e d it acc env) = Sem.onRaise (compTurn e d it acc env) fun x => do
      noteFrame x env
      theTreesLotGoes x)
    (ht : compTurn e d it acc env = turnF p tg ifs em (Code.compLoop e d it acc env) it env) (I : Nat → Shared → Prop)
    (turn : ∀ n s, I n s → wpAny (model prog w) A (pyNext it) (fun r s1 => match r with
        | none => R (Except.ok Flow.next) s1
        | some v => wpAny (model prog w) A (letOwnedTupleGo tg it v) (fun _ s2 => wpAny (model prog w) A (assign tg env v) (fun _ s3 =>
            wpAny (model prog w) A (forIn ifs true fun c r => if r = true then do
                let ok ← PySem.isTrue c env (eval c env)
                pure (ForInStep.yield ok)
              else pure (ForInStep.yield r)) (fun ok s4 => if ok = true then wpAny (model prog w) A (em fun _ => again (Code.compLoop e d it acc env)) (finP R (Code.compLoop e d it acc env) I n) (notedBy (model prog w) A env fun e s' => R (Except.error e) s') s4 else ∃ m, m < n ∧ I m s4)
              (notedBy (model prog w) A env fun e s' => R (Except.error e) s') s3)
            (notedBy (model prog w) A env fun e s' => R (Except.error e) s') s2)
          (notedBy (model prog w) A env fun e s' => R (Except.error e) s') s1)
      (notedBy (model prog w) A env fun e s' => R (Except.error e) s') s) (n : Nat) (h : I n s) : codeAny (model prog w) A (Code.compLoop e d it acc env) R s := by
  refine codeAny_loop hq I (fun n s hI => ?_) n h
  rw [hun, hden]
  refine wpAny_noted ?_
  rw [ht]
  unfold turnF
  refine wpAny_bind (wpAny_standAt (wpAny_bind (wpAny_mono (turn n s hI) (fun r s1 h1 => ?_) fun _ _ z => z)))
  cases r with
  | none => exact wpAny_pure h1
  | some v =>
    refine wpAny_bind (wpAny_mono h1 (fun _ s2 h2 => ?_) fun _ _ z => z)
    refine wpAny_bind (wpAny_mono h2 (fun _ s3 h3 => ?_) fun _ _ z => z)
    refine wpAny_bind (wpAny_mono h3 (fun ok s4 h4 => ?_) fun _ _ z => z)
    cases ok with
    | true =>
      rw [if_pos rfl] at h4 ⊢
      exact h4
    | false =>
      rw [if_neg (by decide)] at h4 ⊢
      exact wpAny_pure ⟨rfl, h4⟩
theorem startG {prog : Program} {w : World} {A : Around} {R : Result → Shared → Prop} {s : Shared} {e : Expr} {d : Nat} {it acc : Value} {env : Env} {g : Comprehension}
    (hq : ∀ it', (Code.compLoop e d it' acc env).quiet = true) (hun : A.under (Code.compStart e d it acc env) = A) (hden : (model prog w).den (Code.compStart e d it acc env) = Sem.onRaise (compStart e d it acc env) fun x => do
      noteFrame x env
      standAt theWindowsPlace)
    (hg : (clausesOf e)[d]? = some g) (ha : g.is_async = 0)
    (h0 : codeAny (model prog w) A (Code.compLoop e d it acc env) R s)
    (h : wpAny (model prog w) A (pyIter it) (fun it' s' => codeAny (model prog w) A (Code.compLoop e d it' acc env) R s') (notedBy (model prog w) A env fun x s' => R (Except.error x) s') s) :
    codeAny (model prog w) A (Code.compStart e d it acc env) R s := by
  refine codeAny_of_tree ?_
  rw [hun, hden]
  refine wpAny_notedAt ?_
  unfold compStart
  rw [hg]
  have z : ((some g).elim false fun x : Comprehension => x.is_async != 0) = false := by
    show (g.is_async != 0) = false
    rw [ha]
    rfl
  rw [z, if_neg (by decide)]
  refine wpAny_bind (wpAny_askSetting (wpAny_ite ?_))
  by_cases c : ({ program := (model prog w).prog, params := (model prog w).w.params } : Setting).params.followText "comprehension-iter-twice" = true
  · rw [if_pos c]
    exact wpAny_pure ⟨hq it, h0⟩
  · rw [if_neg c]
    refine wpAny_bind (wpAny_rule (wpAny_bind (wpAny_standAt (wpAny_bind (wpAny_mono h (fun it' s' h' => wpAny_pure ⟨hq it', h'⟩) fun _ _ z => z)))))
theorem lvl {Y : Cx} {pins : List (Addr × Obj)} {tg : Expr} {g : TG} {ifs : List Expr} {tt : TT} {J : It} {fp : List Addr} {it : Addr} {tn : Nat → Heap → Prop} (hc : Y.calm = true) (xe0 : Y.xe = fun _ _ => False) (T : Turn Y.prog Y.w Y.K tg J fp it tn) (pg : PG Y tg g) (pt : PTs Y ifs tt)
    {e : Expr} {d : Nat} {acc : Value} {p : Pos} {em : (Unit → Sem PySem.Fin) → Sem PySem.Fin} {R : Result → Shared → Prop}
    (hq : (Code.compLoop e d (.ref it) acc Y.env).quiet = true) (hun : Y.A.under (Code.compLoop e d (.ref it) acc Y.env) = Y.A) (hden : (model Y.prog Y.w).den (Code.compLoop e d (.ref it) acc Y.env) = Sem.onRaise (compTurn e d (.ref it) acc Y.env) fun x => do
      noteFrame x Y.env
      theTreesLotGoes x)
    (ht : compTurn e d (.ref it) acc Y.env = turnF p tg ifs em (Code.compLoop e d (.ref it) acc Y.env) (.ref it) Y.env)
    {EM : L2.St → Hp → (Hp → Prop) → Prop} {vs : List Nat} {σ0 : L2.St}
    (hem : ∀ (pins : List (Addr × Obj)) (s : Shared) (σ : L2.St) (H : Hp) (Nx : Hp → Prop) (Post : PySem.Fin → Shared → Prop) (E : Value → Shared → Prop), L2.Inv Y pins σ H s → EM σ H Nx → (∀ s' H', L2.Inv Y pins (wipe σ vs) H' s' → Nx H' → Post (Fin.again (Code.compLoop e d (.ref it) acc Y.env)) s') →
      wpAny (model Y.prog Y.w) Y.A (em fun _ => again (Code.compLoop e d (.ref it) acc Y.env)) Post E s)
    {W : Nat → Nat → Hp → Prop} {Qe : Hp → Prop}
    (turn : ∀ i m H, W i m H → (J.stop i H ∧ Qe H) ∨ (J.go i H ∧ ∃ Nx : Hp → Prop, (∀ H', Nx H' → ∃ m', m' < m ∧ W (i + 1) m' H') ∧ ∀ x H', J.yld i H x H' → g x (wipe σ0 vs) H' fun σ2 H2 => wipe σ2 vs = wipe σ0 vs ∧ tt σ2 H2 fun b H3 => if b = true then EM σ2 H3 Nx else Nx H3))
    (hR : ∀ s1 H, L2.Inv Y pins (wipe σ0 vs) H s1 → Qe H → R (Except.ok Flow.next) s1)
    {s : Shared} {H : Hp} {m : Nat} (I : L2.Inv Y pins (wipe σ0 vs) H s) (t0 : tn 0 s.heap) (hfp : ∀ b ∈ fp, FpOk Y pins H b) (w0 : W 0 m H) :
    codeAny (model Y.prog Y.w) Y.A (Code.compLoop e d (.ref it) acc Y.env) R s := by
  refine loopG hq hun hden ht (fun n s => ∃ i H, L2.Inv Y pins (wipe σ0 vs) H s ∧ tn i s.heap ∧ (∀ b ∈ fp, H b = none) ∧ W i n H) ?_ m ⟨0, H, I, t0, fun b hb => (hfp b hb).1, w0⟩
  rintro n s ⟨i, H1, I1, t1, nn, w1⟩
  have fpo : ∀ {H' : Hp}, (∀ b ∈ fp, H' b = none) → ∀ b ∈ fp, FpOk Y pins H' b := fun z b hb => ⟨z b hb, (hfp b hb).2⟩
  have no : ∀ {E : Value → Shared → Prop} (a : Value) (s : Shared), (fun _ _ => False : Value → Shared → Prop) a s → E a s := fun _ _ z => z.elim
  rcases turn i n H1 w1 with ⟨st, qe⟩ | ⟨go, Nx, nx, y⟩
  · refine wpAny_mono (T.done Y rfl rfl rfl hc i pins s _ H1 (fun _ _ => False) I1 (fpo nn) t1 st) (fun r s1 h1 => ?_) no
    obtain ⟨rfl, I2⟩ := h1
    exact hR s1 H1 I2 qe
  · refine wpAny_mono (T.item Y rfl rfl rfl hc i pins s _ H1 (fun _ _ => False) I1 (fpo nn) t1 go) (fun r s1 h1 => ?_) no
    obtain ⟨u, rfl, h1⟩ := h1
    refine wpAny_mono h1 (fun _ s2 h2 => ?_) no
    obtain ⟨x, H2, I2, rx, yl, t2, nn2⟩ := h2
    have P2 := I2.pinned (fpo nn2) (T.obj _ _ t2)
    have r3 := pg.run _ s2 _ H2 x u _ P2 rx (y x H2 yl)
    rw [xe0] at r3
    refine wpAny_mono r3 (fun _ s3 h3 => ?_) no
    obtain ⟨σ3, H3, I3, ew, h3⟩ := h3
    have r4 := pt.run _ s3 σ3 H3 _ I3 h3
    rw [xe0] at r4
    refine wpAny_mono r4 (fun ok s4 h4 => ?_) no
    obtain ⟨H4, I4, h4⟩ := h4
    have back : ∀ {s' : Shared} {H' : Hp}, L2.Inv Y (pins ++ pinsAt fp s2.heap) (wipe σ3 vs) H' s' → Nx H' → ∃ m, m < n ∧ ∃ i H, L2.Inv Y pins (wipe σ0 vs) H s' ∧ tn i s'.heap ∧ (∀ b ∈ fp, H b = none) ∧ W i m H := fun {s' H'} I' nx' => by
      obtain ⟨m', lm, w'⟩ := nx H' nx'
      have pin : ∀ b ∈ fp, ∀ o, s2.heap.get? b = some o → s'.heap.get? b = some o ∧ H' b = none := fun b hb o ho => by
        have := I'.pin (b, o) (List.mem_append.mpr (.inr (List.mem_append.mpr (.inr (mem_pinsAt hb ho)))))
        exact ⟨this.1, this.2.1⟩
      refine ⟨m', lm, i + 1, H', ?_, T.keep _ _ _ t2 fun b hb o ho => (pin b hb o ho).1, fun b hb => ?_, w'⟩
      · rw [← ew]
        exact I'.unpinned
      · obtain ⟨o, ho, _⟩ := T.obj _ _ t2 b hb
        exact (pin b hb o ho).2
    cases ok with
    | true =>
      rw [if_pos rfl] at h4 ⊢
      exact hem _ s4 σ3 H4 Nx _ _ I4 h4 fun s' H' I' n' => ⟨rfl, back I' n'⟩
    | false =>
      rw [if_neg (by decide)] at h4 ⊢
      exact back (I4.weak (wipe_length ..) fun _ _ z => (wipe_some z).1) h4
/-! ### what stands within a loop -/
def emL0 (elt : Expr) (acc : Value) (env : Env) : Sem Unit := do
  let x ← eval elt env
  let _ ← call (Value.builtin "list.append") [acc, x]
  pure ()
def emL (elt : Expr) (acc : Value) (env : Env) (k : Unit → Sem PySem.Fin) : Sem PySem.Fin := emL0 elt acc env >>= k
def emI (e : Expr) (d : Nat) (i1 : Expr) (acc : Value) (env : Env) (k : Unit → Sem PySem.Fin) : Sem PySem.Fin := do
  let x ← eval i1 env
  standAt i1.pos
  let x ← foldedSetIterable i1 env x
  let it ← holding [x] (pyIter x)
  let _ ← runOwn (Code.compStart e d it acc env) env
  k ()
abbrev EMT := L2.St → Hp → (Hp → Prop) → Prop
def tEm (te : TE) (D : Addr) : EMT := fun σ H Nx => te σ H fun y H4 => ∃ acc, H4 D = some (.lst acc) ∧ acc.length < sizeLine ∧ Nx (upd H4 D (.lst (acc ++ [y])))
def tTurns (J : It) (g : TG) (tt : TT) (vs : List Nat) (EM : EMT) (σ : L2.St) (Qe : Hp → Prop) (W : Nat → Nat → Hp → Prop) : Prop :=
  ∀ i m H, W i m H → (J.stop i H ∧ Qe H) ∨ (J.go i H ∧ ∃ Nx : Hp → Prop, (∀ H', Nx H' → ∃ m', m' < m ∧ W (i + 1) m' H') ∧ ∀ x H', J.yld i H x H' → g x (wipe σ vs) H' fun σ2 H2 => wipe σ2 vs = wipe σ vs ∧ tt σ2 H2 fun b H3 => if b = true then EM σ2 H3 Nx else Nx H3)
def tIn (wi : TI) (g : TG) (tt : TT) (vs : List Nat) (EM : EMT) : EMT := fun σ H Nx => wi σ H fun J H4 => ∃ W, (∃ m, W 0 m H4) ∧ tTurns J g tt vs EM σ Nx W
/-- an inner part runs -/
def Runs (Y : Cx) (vs : List Nat) (EM : EMT) (em : (Unit → Sem PySem.Fin) → Sem PySem.Fin) : Prop :=
  ∀ (pins : List (Addr × Obj)) (s : Shared) (σ : L2.St) (H : Hp) (Nx : Hp → Prop) (c : Code) (Post : PySem.Fin → Shared → Prop) (E : Value → Shared → Prop), L2.Inv Y pins σ H s → EM σ H Nx → (∀ s' H', L2.Inv Y pins (wipe σ vs) H' s' → Nx H' → Post (Fin.again c) s') →
    wpAny (model Y.prog Y.w) Y.A (em fun _ => again c) Post E s
theorem wipe_weak {Y : Cx} {pins : List (Addr × Obj)} {σ : L2.St} {H : Hp} {s : Shared} {vs vs1 : List Nat} (h : L2.Inv Y pins (wipe σ vs1) H s) (sub : ∀ i ∈ vs1, i ∈ vs) : L2.Inv Y pins (wipe σ vs) H s :=
  h.weak (by rw [wipe_length, wipe_length]) fun i v z => by
    obtain ⟨a, b⟩ := wipe_some z
    rw [wipe_out fun m => b (sub i m)]
    exact a
theorem runs_app {Y : Cx} (xe0 : Y.xe = fun _ _ => False) {elt : Expr} {te : TE} {D : Addr} (vs : List Nat) (pe : PE Y elt te) : Runs Y vs (tEm te D) (emL elt (.ref D) Y.env) := by
  intro pins s σ H Nx c Post E I h k
  unfold emL emL0
  have r := pe.run pins s σ H _ I h
  rw [xe0] at r
  refine wpAny_bind (wpAny_bind (wpAny_mono r (fun v s1 h1 => ?_) fun _ _ z => z.elim))
  obtain ⟨y, H1, I1, ry, acc, hD, few, nx⟩ := h1
  refine wpAny_bind (app_ok I1 hD few ry fun s2 I2 => ?_)
  refine wpAny_pure (wpAny_pure (k s2 _ (I2.weak (wipe_length ..) fun _ _ z => (wipe_some z).1) nx))
theorem runs_in {Y : Cx} (hc : Y.calm = true) (xe0 : Y.xe = fun _ _ => False) {e : Expr} {d : Nat} {acc : Value} {tg i1 : Expr} {ifs : List Expr} {wi : TI} {g : TG} {tt : TT} {vs vs1 : List Nat} {EM : EMT} {p : Pos} {em : (Unit → Sem PySem.Fin) → Sem PySem.Fin} {gc : Comprehension}
    (sub : ∀ i ∈ vs1, i ∈ vs) (pi : PI Y tg i1 wi) (pg : PG Y tg g) (pt : PTs Y ifs tt) (hem : Runs Y vs1 EM em) (hs : ∀ x, foldedSetIterable i1 Y.env x = pure x)
    (hq : ∀ it, (Code.compLoop e d it acc Y.env).quiet = true) (hun : ∀ it, Y.A.under (Code.compLoop e d it acc Y.env) = Y.A) (hden : ∀ it, (model Y.prog Y.w).den (Code.compLoop e d it acc Y.env) = Sem.onRaise (compTurn e d it acc Y.env) fun x => do
      noteFrame x Y.env
      theTreesLotGoes x)
    (hunS : ∀ it, Y.A.under (Code.compStart e d it acc Y.env) = Y.A) (hdenS : ∀ it, (model Y.prog Y.w).den (Code.compStart e d it acc Y.env) = Sem.onRaise (compStart e d it acc Y.env) fun x => do
      noteFrame x Y.env
      standAt theWindowsPlace)
    (hg : (clausesOf e)[d]? = some gc) (ha : gc.is_async = 0)
    (ht : ∀ it, compTurn e d it acc Y.env = turnF p tg ifs em (Code.compLoop e d it acc Y.env) it Y.env) : Runs Y vs (tIn wi g tt vs1 EM) (emI e d i1 acc Y.env) := by
  intro pins s σ H Nx c Post E I h k
  unfold emI
  have r := pi.run pins s σ H _ I h
  rw [xe0] at r
  refine wpAny_bind (wpAny_mono r (fun v s1 h1 => ?_) fun _ _ z => z.elim)
  refine wpAny_bind (wpAny_standAt ?_)
  rw [hs]
  refine wpAny_bind (wpAny_pure (wpAny_bind (wpAny_holding (wpAny_mono h1 (fun itv s2 h2 => ?_) fun _ _ z => z.elim))))
  obtain ⟨it, fp, tn, J, H2, rfl, I2, T, t0, hfp, W, ⟨m0, w0⟩, turns⟩ := h2
  refine wpAny_bind (wpAny_runOwn ?_)
  have loop := lvl (R := fun r s' => match r with | Except.ok f => wpAny (model Y.prog Y.w) Y.A (again c) Post E s' | Except.error e => False) hc xe0 T pg pt (hq _) (hun _) (hden _) (ht _) (EM := EM) (vs := vs1) (σ0 := σ) (fun pins s σ H Nx Post E I h k => hem pins s σ H Nx _ Post E I h k) turns
    (fun s1 H1 I1 q1 => wpAny_pure (k s1 H1 (wipe_weak I1 sub) q1)) (I2.weak (wipe_length ..) fun _ _ z => (wipe_some z).1) t0 hfp w0
  show codeAny _ Y.A _ _ _
  refine codeAny_mono (startG hq (hunS _) (hdenS _) hg ha loop (T.self Y.A 0 s2 _ _ t0 loop)) fun r s3 h3 => ?_
  cases r with
  | ok f => exact h3
  | error e => exact h3.elim
def tLcG (wi : TI) (g : TG) (tt : TT) (EM : Addr → EMT) (vs : List Nat) : TE := fun σ H Q => wi σ H fun J H1 => ∀ D : Addr, H1 D = none → ∃ W, (∃ m, W 0 m (upd H1 D (.lst []))) ∧ tTurns J g tt vs (EM D) σ (fun H => Q (.ref D) H) W
theorem pe_lcG {X : Cx} {elt tg iter : Expr} {ifs : List Expr} {rest : List Comprehension} {scope : Scope} {own : List (Str × Nat)} {pos p : Pos} {wi : TI} {g : TG} {tt : TT} {EM : Addr → EMT} {em : Value → Env → (Unit → Sem PySem.Fin) → Sem PySem.Fin}
    (hc : X.calm = true) (hN : X.N.Nodup) (hi : PI X tg iter wi) (ok : BlkOk X.N X.env.scope scope own)
    (hg : ∀ (s : Shared) (H : Hp) (C : Addr) (cl : List (Str × Addr)) (fp : List Addr), PG (X.blk s H scope (compEnvC scope cl C X.env) fp) tg g)
    (ht : ∀ (s : Shared) (H : Hp) (C : Addr) (cl : List (Str × Addr)) (fp : List Addr), PTs (X.blk s H scope (compEnvC scope cl C X.env) fp) ifs tt)
    (hem : ∀ (s : Shared) (H : Hp) (C : Addr) (cl : List (Str × Addr)) (fp : List Addr) (D : Addr), Runs (X.blk s H scope (compEnvC scope cl C X.env) fp) (own.map (·.2)) (EM D) (em (.ref D) (compEnvC scope cl C X.env)))
    (turn : ∀ it acc env, compTurn (.ListComp elt (⟨tg, iter, ifs, 0⟩ :: rest) scope pos) 0 it acc env = turnF p tg ifs (em acc env) (Code.compLoop (.ListComp elt (⟨tg, iter, ifs, 0⟩ :: rest) scope pos) 0 it acc env) it env)
    (hs : ∀ x, foldedSetIterable iter X.env x = pure x) : PE X (.ListComp elt (⟨tg, iter, ifs, 0⟩ :: rest) scope pos) (tLcG wi g tt EM (own.map (·.2))) := by
  refine ⟨fun pins s σ H Q I h => ?_⟩
  rw [eval_ListComp]
  have hfree : ∀ y ∈ scope.names, y.2 = NameKind.free → ∃ c, List.lookup y.1 X.env.cells = some c := fun y hy e => (ok.free y hy e).elim (fun k => I.ok.has y.1 (.inl k)) fun k => I.ok.has y.1 (.inr k)
  refine wpAny_comprehension_free rfl hs (closure_ok hfree) ok.kind (fun y hy e => by rw [ok.uniq y hy, e]) ?_
  refine wpAny_mono (hi.run pins s σ H _ I h) (fun xv s1 hx => ?_) fun _ _ z => z
  refine wpAny_mono hx (fun itv s2 h2 => ?_) fun _ _ z => z
  obtain ⟨it, fp, tn, J, H2, rfl, I2, T, t2, f2, q⟩ := h2
  refine wpAny_newObj_type (newEnv_comp ?_)
  have hDn : H2 s2.heap.objs.size = none := I2.hok.fresh (Nat.le_refl _)
  obtain ⟨W, ⟨m0, w0⟩, turns⟩ := q _ hDn
  have I3 : L2.Inv X pins σ (upd H2 s2.heap.objs.size (.lst [])) { s2 with heap := s2.heap.push { cls := .type "list", data := .seq #[] } } :=
    I2.laid (fun b o e => Heap.get?_push_of_some _ e) (Nat.le_refl _) ⟨Nat.zero_le _, [], 0, .nil, Heap.get?_push_size _ rfl⟩
  generalize es3 : ({ s2 with heap := s2.heap.push { cls := .type "list", data := .seq #[] } } : Shared) = s3 at I3 ⊢
  have h3 : s3.heap = s2.heap.push { cls := .type "list", data := .seq #[] } := by rw [← es3]
  have f3 : ∀ b ∈ fp, FpOk X pins (upd H2 s2.heap.objs.size (.lst [])) b ∧ b < s3.heap.objs.size := fun b hb => by
    obtain ⟨o, ho, _⟩ := T.obj 0 _ t2 b hb
    have lt := Heap.lt_size ho
    refine ⟨⟨?_, (f2 b hb).2⟩, ?_⟩
    · rw [upd_ne (Nat.ne_of_lt lt)]
      exact (f2 b hb).1
    · rw [h3, Heap.size_push]
      exact Nat.lt_succ_of_lt lt
  have st3 : tn 0 s3.heap := T.keep 0 _ _ t2 fun b _ o e => by
    rw [h3]
    exact Heap.get?_push_of_some _ e
  have I4 := block_start I3 ok hN f3
  have st4 := T.keep 0 _ (pushCells (s3.heap.push { cls := .type "dict", data := .dict #[] }) scope.names) st3 fun b _ o e => pushCells_keeps scope.names _ b o (Heap.get?_push_of_some _ e)
  clear es3
  generalize s2.heap.objs.size = D at *
  show codeAny (model X.prog X.w) X.A (Code.compStart _ 0 (.ref it) (.ref D) (compEnvC scope (cellsFrom (s3.heap.objs.size + 1) scope.names (cloFrom X.env.cells scope.names [])) s3.heap.objs.size X.env)) _ _
  have loop := lvl (Y := X.blk s3 (upd H2 D (.lst [])) scope (compEnvC scope (cellsFrom (s3.heap.objs.size + 1) scope.names (cloFrom X.env.cells scope.names [])) s3.heap.objs.size X.env) fp) (R := compPost (model X.prog X.w) X.A X.xe none (EP X pins σ Q) (.ref D) s3.heap.objs.size) (e := .ListComp elt (⟨tg, iter, ifs, 0⟩ :: rest) scope pos) (d := 0) (acc := .ref D) hc rfl T (hg _ _ _ _ _) (ht _ _ _ _ _) rfl rfl rfl (turn _ _ _) (EM := EM D) (vs := List.map (fun x : Str × Nat => x.2) own) (σ0 := σ) (W := W) (Qe := fun H => Q (.ref D) H)
    (fun pins s σ H Nx Post E I h k => hem _ _ _ _ _ D pins s σ H Nx _ Post E I h k) turns (fun s6 H5 I6 q6 => ?_) I4 st4 (fun b hb => ⟨(f3 b hb).1.1, (I4.ok.exf b hb).1, I4.ok.exfs b hb, .inl hb, (I4.ok.exf b hb).2, fun p hp => by cases hp⟩) w0
  · exact codeAny_compStart_list loop (T.self X.A 0 _ _ _ st4 loop)
  · have I7 := Inv.call' I3 I6.os I6.base I6.hok I6.bare fun b hb => ⟨(f3 b hb).1.2.2.2.1, (f3 b hb).1.2.1, (f3 b hb).1.2.2.2.2.1, (f3 b hb).1.2.2.2.2.2⟩
    obtain ⟨m, hn, _⟩ := I6.loc
    obtain ⟨a0, a1, a2, a3, a4, a5⟩ := Inv.fpOk I3 (Nat.le_refl _) I6.free
    exact ⟨m, hn, fun h' sb => ⟨.ref D, H5, Inv.turned I7 (fun b o hb e => (sb.2 b hb).trans e) a0 a1 a3 a4 a5, rfl, q6⟩⟩
/-- [e for a in xs for b in ys for c in zs] -/
theorem pe_lc3 {X : Cx} {elt tg iter tg1 iter1 tg2 iter2 : Expr} {ifs ifs1 ifs2 : List Expr} {scope : Scope} {own : List (Str × Nat)} {vs1 vs2 : List Nat} {pos : Pos} {wi wi1 wi2 : TI} {g g1 g2 : TG} {tt tt1 tt2 : TT} {te : TE}
    (hc : X.calm = true) (hN : X.N.Nodup) (hi : PI X tg iter wi) (ok : BlkOk X.N X.env.scope scope own) (hv1 : ∀ i ∈ vs1, i ∈ List.map (fun x : Str × Nat => x.2) own) (hv2 : ∀ i ∈ vs2, i ∈ vs1)
    (hg : ∀ (s : Shared) (H : Hp) (C : Addr) (cl : List (Str × Addr)) (fp : List Addr), PG (X.blk s H scope (compEnvC scope cl C X.env) fp) tg g)
    (ht : ∀ (s : Shared) (H : Hp) (C : Addr) (cl : List (Str × Addr)) (fp : List Addr), PTs (X.blk s H scope (compEnvC scope cl C X.env) fp) ifs tt)
    (hi1 : ∀ (s : Shared) (H : Hp) (C : Addr) (cl : List (Str × Addr)) (fp : List Addr), PI (X.blk s H scope (compEnvC scope cl C X.env) fp) tg1 iter1 wi1)
    (hg1 : ∀ (s : Shared) (H : Hp) (C : Addr) (cl : List (Str × Addr)) (fp : List Addr), PG (X.blk s H scope (compEnvC scope cl C X.env) fp) tg1 g1)
    (ht1 : ∀ (s : Shared) (H : Hp) (C : Addr) (cl : List (Str × Addr)) (fp : List Addr), PTs (X.blk s H scope (compEnvC scope cl C X.env) fp) ifs1 tt1)
    (hi2 : ∀ (s : Shared) (H : Hp) (C : Addr) (cl : List (Str × Addr)) (fp : List Addr), PI (X.blk s H scope (compEnvC scope cl C X.env) fp) tg2 iter2 wi2)
    (hg2 : ∀ (s : Shared) (H : Hp) (C : Addr) (cl : List (Str × Addr)) (fp : List Addr), PG (X.blk s H scope (compEnvC scope cl C X.env) fp) tg2 g2)
    (ht2 : ∀ (s : Shared) (H : Hp) (C : Addr) (cl : List (Str × Addr)) (fp : List Addr), PTs (X.blk s H scope (compEnvC scope cl C X.env) fp) ifs2 tt2)
    (he : ∀ (s : Shared) (H : Hp) (C : Addr) (cl : List (Str × Addr)) (fp : List Addr), PE (X.blk s H scope (compEnvC scope cl C X.env) fp) elt te)
    (hs : ∀ x, foldedSetIterable iter X.env x = pure x := by intro _; rfl) (hs1 : ∀ env x, foldedSetIterable iter1 env x = pure x := by intro _ _; rfl) (hs2 : ∀ env x, foldedSetIterable iter2 env x = pure x := by intro _ _; rfl) :
    PE X (.ListComp elt [⟨tg, iter, ifs, 0⟩, ⟨tg1, iter1, ifs1, 0⟩, ⟨tg2, iter2, ifs2, 0⟩] scope pos) (tLcG wi g tt (fun D => tIn wi1 g1 tt1 vs1 (tIn wi2 g2 tt2 vs2 (tEm te D))) (own.map (·.2))) := by
  refine pe_lcG (em := fun acc env => emI (.ListComp elt [⟨tg, iter, ifs, 0⟩, ⟨tg1, iter1, ifs1, 0⟩, ⟨tg2, iter2, ifs2, 0⟩] scope pos) 1 iter1 acc env) hc hN hi ok hg ht (fun s H C cl fp D => ?_) (fun _ _ _ => rfl) hs
  refine runs_in (Y := X.blk s H scope (compEnvC scope cl C X.env) fp) (gc := ⟨tg1, iter1, ifs1, 0⟩) hc rfl hv1 (hi1 s H C cl fp) (hg1 s H C cl fp) (ht1 s H C cl fp) (em := fun k => emI (.ListComp elt [⟨tg, iter, ifs, 0⟩, ⟨tg1, iter1, ifs1, 0⟩, ⟨tg2, iter2, ifs2, 0⟩] scope pos) 2 iter2 (.ref D) (compEnvC scope cl C X.env) k) ?_ (hs1 _) (fun _ => rfl) (fun _ => rfl) (fun _ => rfl) (fun _ => rfl) (fun _ => rfl) rfl rfl (fun _ => rfl)
  refine runs_in (Y := X.blk s H scope (compEnvC scope cl C X.env) fp) (gc := ⟨tg2, iter2, ifs2, 0⟩) hc rfl hv2 (hi2 s H C cl fp) (hg2 s H C cl fp) (ht2 s H C cl fp) (em := fun k => emL elt (.ref D) (compEnvC scope cl C X.env) k) ?_ (hs2 _) (fun _ => rfl) (fun _ => rfl) (fun _ => rfl) (fun _ => rfl) (fun _ => rfl) rfl rfl (fun _ => rfl)
  exact runs_app rfl vs2 (he s H C cl fp)
/-- [e for a in xs for b in ys] -/
theorem pe_lcD {X : Cx} {elt tg iter tg1 iter1 : Expr} {ifs ifs1 : List Expr} {scope : Scope} {own : List (Str × Nat)} {vs1 : List Nat} {pos : Pos} {wi wi1 : TI} {g g1 : TG} {tt tt1 : TT} {te : TE}
    (hc : X.calm = true) (hN : X.N.Nodup) (hi : PI X tg iter wi) (ok : BlkOk X.N X.env.scope scope own) (hv1 : ∀ i ∈ vs1, i ∈ List.map (fun x : Str × Nat => x.2) own)
    (hg : ∀ (s : Shared) (H : Hp) (C : Addr) (cl : List (Str × Addr)) (fp : List Addr), PG (X.blk s H scope (compEnvC scope cl C X.env) fp) tg g)
    (ht : ∀ (s : Shared) (H : Hp) (C : Addr) (cl : List (Str × Addr)) (fp : List Addr), PTs (X.blk s H scope (compEnvC scope cl C X.env) fp) ifs tt)
    (hi1 : ∀ (s : Shared) (H : Hp) (C : Addr) (cl : List (Str × Addr)) (fp : List Addr), PI (X.blk s H scope (compEnvC scope cl C X.env) fp) tg1 iter1 wi1)
    (hg1 : ∀ (s : Shared) (H : Hp) (C : Addr) (cl : List (Str × Addr)) (fp : List Addr), PG (X.blk s H scope (compEnvC scope cl C X.env) fp) tg1 g1)
    (ht1 : ∀ (s : Shared) (H : Hp) (C : Addr) (cl : List (Str × Addr)) (fp : List Addr), PTs (X.blk s H scope (compEnvC scope cl C X.env) fp) ifs1 tt1)
    (he : ∀ (s : Shared) (H : Hp) (C : Addr) (cl : List (Str × Addr)) (fp : List Addr), PE (X.blk s H scope (compEnvC scope cl C X.env) fp) elt te)
    (hs : ∀ x, foldedSetIterable iter X.env x = pure x := by intro _; rfl) (hs1 : ∀ env x, foldedSetIterable iter1 env x = pure x := by intro _ _; rfl) :
    PE X (.ListComp elt [⟨tg, iter, ifs, 0⟩, ⟨tg1, iter1, ifs1, 0⟩] scope pos) (tLcG wi g tt (fun D => tIn wi1 g1 tt1 vs1 (tEm te D)) (own.map (·.2))) := by
  refine pe_lcG (em := fun acc env => emI (.ListComp elt [⟨tg, iter, ifs, 0⟩, ⟨tg1, iter1, ifs1, 0⟩] scope pos) 1 iter1 acc env) hc hN hi ok hg ht (fun s H C cl fp D => ?_) (fun _ _ _ => rfl) hs
  refine runs_in (Y := X.blk s H scope (compEnvC scope cl C X.env) fp) (gc := ⟨tg1, iter1, ifs1, 0⟩) hc rfl hv1 (hi1 s H C cl fp) (hg1 s H C cl fp) (ht1 s H C cl fp) (em := fun k => emL elt (.ref D) (compEnvC scope cl C X.env) k) ?_ (hs1 _) (fun _ => rfl) (fun _ => rfl) (fun _ => rfl) (fun _ => rfl) (fun _ => rfl) rfl rfl (fun _ => rfl)
  exact runs_app rfl vs1 (he s H C cl fp)
theorem pi_tupK {X : Cx} {tg l : Expr} {tl : TE} {K : PySem.W.Frag} (hk : X.K = K) (h : PE X l tl) : PI X tg l (iTup K tl) := by
  subst hk
  exact pi_tup h
/-! ### readings -/
theorem turns_range {lo : Int} {n : Nat} {g : TG} {tt : TT} {vs : List Nat} {EM : EMT} {σ : L2.St} {H0 : Hp} {Qe : Hp → Prop} (Z : Nat → Hp → Prop) (z0 : Z 0 H0)
    (step : ∀ (i : Nat) (H : Hp), i < n → Z i H → g (.int (lo + (i : Int))) (wipe σ vs) H fun σ2 H2 => wipe σ2 vs = wipe σ vs ∧ tt σ2 H2 fun b H3 => if b = true then EM σ2 H3 (Z (i + 1)) else Z (i + 1) H3)
    (done : ∀ H, Z n H → Qe H) : ∃ W, (∃ m, W 0 m H0) ∧ tTurns (Itr lo n) g tt vs EM σ Qe W := by
  refine ⟨fun i m H => i ≤ n ∧ m = n - i ∧ Z i H, ⟨n, Nat.zero_le _, rfl, z0⟩, ?_⟩
  rintro i m H ⟨le, rfl, z⟩
  by_cases e : i = n
  · exact .inl ⟨Nat.le_of_eq e.symm, done H (e ▸ z)⟩
  · have lt : i < n := by omega
    refine .inr ⟨lt, Z (i + 1), fun H' z' => ⟨n - (i + 1), by omega, by omega, rfl, z'⟩, ?_⟩
    rintro x H' ⟨rfl, rfl⟩
    exact step i H' lt z
theorem turns_list {K : PySem.W.Frag} {a : Addr} {xs : List V} {g : TG} {tt : TT} {vs : List Nat} {EM : EMT} {σ : L2.St} {H0 : Hp} {Qe : Hp → Prop} (Z : Nat → Hp → Prop) (z0 : Z 0 H0) (keep : ∀ (i : Nat) (H : Hp), i ≤ xs.length → Z i H → SqL K H a xs)
    (step : ∀ (i : Nat) (x : V) (H : Hp), xs[i]? = some x → Z i H → g x (wipe σ vs) H fun σ2 H2 => wipe σ2 vs = wipe σ vs ∧ tt σ2 H2 fun b H3 => if b = true then EM σ2 H3 (Z (i + 1)) else Z (i + 1) H3)
    (done : ∀ H, Z xs.length H → Qe H) : ∃ W, (∃ m, W 0 m H0) ∧ tTurns (Itl K a) g tt vs EM σ Qe W := by
  refine ⟨fun i m H => i ≤ xs.length ∧ m = xs.length - i ∧ Z i H, ⟨_, Nat.zero_le _, rfl, z0⟩, ?_⟩
  rintro i m H ⟨le, rfl, z⟩
  by_cases e : i = xs.length
  · exact .inl ⟨⟨xs, keep i H le z, Nat.le_of_eq e.symm⟩, done H (e ▸ z)⟩
  · have lt : i < xs.length := by omega
    refine .inr ⟨⟨xs, xs[i], keep i H le z, List.getElem?_eq_getElem lt⟩, Z (i + 1), fun H' z' => ⟨xs.length - (i + 1), by omega, by omega, rfl, z'⟩, ?_⟩
    rintro x H' ⟨rfl, hx⟩
    exact step i x H' (hx xs (keep i H' le z)) z
theorem turns_tup {K : PySem.W.Frag} {a : Addr} {xs : List V} {g : TG} {tt : TT} {vs : List Nat} {EM : EMT} {σ : L2.St} {H0 : Hp} {Qe : Hp → Prop} (Z : Nat → Hp → Prop) (z0 : Z 0 H0) (keep : ∀ (i : Nat) (H : Hp), i ≤ xs.length → Z i H → SqT K H a xs)
    (step : ∀ (i : Nat) (x : V) (H : Hp), xs[i]? = some x → Z i H → g x (wipe σ vs) H fun σ2 H2 => wipe σ2 vs = wipe σ vs ∧ tt σ2 H2 fun b H3 => if b = true then EM σ2 H3 (Z (i + 1)) else Z (i + 1) H3)
    (done : ∀ H, Z xs.length H → Qe H) : ∃ W, (∃ m, W 0 m H0) ∧ tTurns (Itt K a) g tt vs EM σ Qe W := by
  refine ⟨fun i m H => i ≤ xs.length ∧ m = xs.length - i ∧ Z i H, ⟨_, Nat.zero_le _, rfl, z0⟩, ?_⟩
  rintro i m H ⟨le, rfl, z⟩
  by_cases e : i = xs.length
  · exact .inl ⟨⟨xs, keep i H le z, Nat.le_of_eq e.symm⟩, done H (e ▸ z)⟩
  · have lt : i < xs.length := by omega
    refine .inr ⟨⟨xs, xs[i], keep i H le z, List.getElem?_eq_getElem lt⟩, Z (i + 1), fun H' z' => ⟨xs.length - (i + 1), by omega, by omega, rfl, z'⟩, ?_⟩
    rintro x H' ⟨rfl, hx⟩
    exact step i x H' (hx xs (keep i H' le z)) z
end Vx
namespace Vx
open PySem PySem.Spec PyProof.Rows L2
/-! ### enumerate(v), v a tuple -/
set_option maxHeartbeats 1000000 in
theorem meets_enumerate_new1 {v : Value} {o : Obj} {H : Heap → Prop} (B : Begins v o H) :
    Meets (Builtin.«enumerate.__new__» ⟨[.type "enumerate", v], []⟩) (fun _ R s => H s.heap ∧
      R (.ok (.ret (.ref (s.heap.push o).objs.size))) { s with heap := (s.heap.push o).push { cls := .type "enumerate", data := .fields #[.none, .bool false, .ref s.heap.objs.size, rawInt 0, .none, .none] } }) :=
  .of_wp fun prog w A R s h => by
    obtain ⟨hp, g, d, tk, os⟩ := s; obtain ⟨h1, h⟩ := h
    have hsub := sub_enumerate
    have q1 : ∀ {A' : Around} {E : Value → Shared → Prop} {Q : Value → Shared → Prop}, Q (.ref hp.objs.size) ⟨hp.push o, g, d, tk, os⟩ → wpAny (model prog w) A' (pyIter v) Q E ⟨hp, g, d, tk, os⟩ :=
      fun q => B.iter prog w _ _ ⟨hp, g, d, tk, os⟩ _ h1 q
    wp_walk using q1
    refine wpAny_stack_any fun st => wpAny_pure ?_
    split
    · rename_i c _ _ _ _ _
      cases (c == Value.type "enumerate")
      · wp_walk using q1
        exact ⟨_, rfl, h⟩
      · wp_walk using q1
        exact ⟨_, rfl, h⟩
    · wp_walk using q1
      exact ⟨_, rfl, h⟩
theorem call_enumerate1 {prog : Program} {w : World} {A : Around} {E : Value → Shared → Prop} {s : Shared} {v : Value} {o : Obj} {H : Heap → Prop} {Q : Value → Shared → Prop} (B : Begins v o H) (h1 : H s.heap)
    (h : ∀ h', IsEnum h' (s.heap.objs.size + 1) s.heap.objs.size 0 .none → h'.get? s.heap.objs.size = some o → h'.objs.size = s.heap.objs.size + 2 →
      (∀ b o, s.heap.get? b = some o → h'.get? b = some o) → Q (.ref (s.heap.objs.size + 1)) { s with heap := h' }) :
    wpAny (model prog w) A (call (.type "enumerate") [v]) Q E s := by
  refine callType_new F.called_enumerate (by decide) (F.typeCall_enumerate_1 _) (F.newCall_enumerate_1 _) (fun obj => F.args_object_init_2 obj _) F.entry_enumerate_new
    (meets_enumerate_new1 B) ⟨h1, ?_⟩
  have hz : (s.heap.push o).objs.size = s.heap.objs.size + 1 := Heap.size_push ..
  show _ ∧ _
  rw [hz]
  have he : IsEnum ((s.heap.push o).push { cls := .type "enumerate", data := .fields #[.none, .bool false, .ref s.heap.objs.size, rawInt 0, .none, .none] }) (s.heap.objs.size + 1) s.heap.objs.size 0 .none := by
    have := Heap.get?_push_size (s.heap.push o) (o := { cls := .type "enumerate", data := .fields #[.none, .bool false, .ref s.heap.objs.size, rawInt 0, .none, .none] }) rfl
    rw [hz] at this; exact this
  refine ⟨⟨_, he, rfl⟩, h _ he (Heap.get?_push_of_some _ (Heap.get?_push_size _ B.free)) (by rw [Heap.size_push, hz]) fun b o x => Heap.get?_push_of_some _ (Heap.get?_push_of_some _ x)⟩
def IteT (K : PySem.W.Frag) (a : Addr) : It :=
  ⟨fun i H => ∃ (xs : List V) (x : V), SqT K H a xs ∧ xs[i]? = some x, fun i H v H' => ∃ T x, v = .ref T ∧ H T = none ∧ H' = upd H T (.tup [.int (i : Nat), x]) ∧ ∀ xs, SqT K H a xs → xs[i]? = some x, fun i H => ∃ xs : List V, SqT K H a xs ∧ xs.length = i⟩
theorem turn_enumT {P : Program} {w : World} {K : PySem.W.Frag} {elts : List Expr} {kk : Nat} {tpos : Pos} (a e it : Addr) (nae : a ≠ e) (nai : a ≠ it) :
    Turn P w K (.Tuple elts kk tpos) (IteT K a) [e, it] e (fun i h => (∃ old, IsEnum h e it ((i : Nat) : Int) old) ∧ h.IsTupleIter it a i ∧ e ≠ it) where
  mem := by simp
  obj := fun i h st b hb => by
    obtain ⟨⟨old, he⟩, ⟨o, ho, hc, hd⟩, _⟩ := st
    have e' : b = e ∨ b = it := by simpa using hb
    rcases e' with z | z
    · rw [z]; exact ⟨_, he, fun v q => nomatch q⟩
    · rw [z]; exact ⟨o, ho, fun v q => by rw [hd] at q; cases q⟩
  keep := fun i h h' st k => let ⟨⟨old, he⟩, hi, hne⟩ := st; ⟨⟨old, k e (by simp) _ he⟩, hi.at fun o q => k it (by simp) o q, hne⟩
  item := by
    intro X hP hw hK hc i pins s σ H E I hf st hg
    subst hP hw hK
    obtain ⟨⟨old, he⟩, hit, hne⟩ := st
    obtain ⟨xs, x, hq, hx⟩ := hg
    obtain ⟨its, rv, p, hz⟩ := I.tuple hq
    obtain ⟨u, hu, ru⟩ := rv.get hx
    have hel : e < s.heap.objs.size := Heap.lt_size he
    have hil : it < s.heap.objs.size := by obtain ⟨_, q, _⟩ := hit; exact Heap.lt_size q
    have D := Draws.tuple (prog := X.prog) (w := X.w) (A := X.A.in1) (I.ok.hd hc) it a nai its.toArray
    have li : i < its.toArray.size := by
      have := List.getElem?_eq_some_iff.mp hu
      obtain ⟨q, _⟩ := this
      simpa using q
    refine wpAny_pyNext_enum_itemC D he ⟨hit, p⟩ li hne (by simp; exact ⟨hne, fun z => nae z.symm⟩) fun x' h' tk hx' ho hit' hT hsz hk => ?_
    have ex : x' = u := by
      have z : its.toArray[i]? = some x' := hx'
      rw [List.getElem?_toArray, hu] at z
      exact (Option.some.inj z).symm
    subst ex
    refine ⟨_, rfl, wpAny_letOwnedTupleGo_enum (s := { s with heap := h', toks := tk + 1 }) ho fun h'' he' sb => ?_⟩
    have hT2 : h''.get? s.heap.objs.size = some { cls := .type "tuple", data := .seq #[.int i tk, x'] } := (sb.2 _ (Nat.ne_of_gt hel)).trans hT
    have new : ObjOk X.prog X.w (upd H s.heap.objs.size (.tup [.int (i : Nat), x])) h'' s.heap.objs.size (.tup [.int (i : Nat), x]) :=
      ⟨by show 2 ≤ sizeLine; decide, [.int i tk, x'], .cons ⟨_, rfl⟩ (.cons ru .nil), ⟨_, hT2, rfl, _, rfl⟩⟩
    have I1 : Inv X pins σ (upd H s.heap.objs.size (.tup [.int (i : Nat), x])) { s with heap := h'', toks := tk + 1 } :=
      I.turnedNew (ch := [e, it]) (fun b ob hb q => (sb.2 b (fun z => hb (by simp [z]))).trans (hk b ob (fun z => hb (by simp [z])) (fun z => hb (by simp [z])) q)) hf (Nat.le_refl _) new
    refine ⟨.ref s.heap.objs.size, _, I1, rfl, ⟨_, x, rfl, I.hok.fresh (Nat.le_refl _), rfl, fun ys hy => by rw [I.tuple_inj hy hq]; exact hx⟩, ⟨⟨x', ?_⟩, hit'.1.at fun o q => (sb.2 it (Ne.symm hne)).trans q, hne⟩, fun b hb => ?_⟩
    · have e1 : ((i + 1 : Nat) : Int) = (i : Int) + 1 := by omega
      rw [e1]; exact he'
    · have hb' : b < s.heap.objs.size := by
        have e' : b = e ∨ b = it := by simpa using hb
        rcases e' with z | z
        · rw [z]; exact hel
        · rw [z]; exact hil
      rw [upd_ne (Nat.ne_of_lt hb')]
      exact (hf b hb).1
  done := by
    intro X hP hw hK hc i pins s σ H E I hf st hg
    subst hP hw hK
    obtain ⟨⟨old, he⟩, hit, hne⟩ := st
    obtain ⟨xs, hq, hx⟩ := hg
    obtain ⟨its, rv, p, hz⟩ := I.tuple hq
    obtain ⟨f0, f1, f2, f3, f4, f5⟩ := hf it (by simp)
    have hl := rv.length
    have D := Draws.tuple (prog := X.prog) (w := X.w) (A := X.A.in1) (I.ok.hd hc) it a nai its.toArray
    have en : i = its.toArray.size := by simp; omega
    refine wpAny_pyNext_enum_endD D he ?_ fun h' eb => ⟨rfl, I.turned (t' := s.toks) (fun b o hb q => eb b o hb q) f0 f1 f3 f4 f5⟩
    rw [← en]
    exact ⟨hit, p⟩
  self := fun A i s Q E st h => let ⟨⟨_, he⟩, _⟩ := st; wpAny_pyIter_enum he h
def iEnumT (K : PySem.W.Frag) (ta : TA) : TI := fun σ H R => ta σ H fun vs H1 => ∃ a xs, vs = [.ref a] ∧ SqT K H1 a xs ∧ R (IteT K a) H1
theorem pi_enumT {X : Cx} {e : Expr} {ta : TA} {p pos tpos : Pos} {elts : List Expr} {kk : Nat} (hg : Gl X "enumerate") (hm : X.mg "enumerate" = none) (ha : PA X [e] ta) (hs : starEach [e] X.env = [(false, eval e X.env)] := by rfl) :
    PI X (.Tuple elts kk tpos) (.Call (.Name "enumerate" p) [e] [] pos) (iEnumT X.K ta) := by
  refine ⟨fun pins s σ H R I h => ?_⟩
  refine Call_ (ld_blt I hg hm boot_enumerate (PyProof.Rows.callWith_type1 (thn (ha.run pos pins s σ H _ I h) fun us s1 ⟨vs, H1, I1, r1, q1⟩ => ?_) hs rfl))
  obtain ⟨a, xs, ex, hq, q⟩ := q1
  subst ex
  cases r1 with
  | cons r rr =>
    cases rr
    cases r
    obtain ⟨its, rv, p', hz⟩ := I1.tuple hq
    have la : a < s1.heap.objs.size := by obtain ⟨o, e, _⟩ := p'; exact Heap.lt_size e
    refine call_enumerate1 (begins_tuple a its.toArray) (show s1.heap.IsTuple a its.toArray from p') fun h' he hit hsz hk => wpAny_pyIter_enum he ?_
    have I2 : Inv X pins σ H1 { s1 with heap := h' } := I1.kept (t' := s1.toks) hk
    refine ⟨s1.heap.objs.size + 1, [s1.heap.objs.size + 1, s1.heap.objs.size], _, _, H1, rfl, I2, turn_enumT a (s1.heap.objs.size + 1) s1.heap.objs.size (Nat.ne_of_lt (Nat.lt_succ_of_lt la)) (Nat.ne_of_lt la), ⟨⟨.none, he⟩, ⟨_, hit, rfl, rfl⟩, Nat.succ_ne_self _⟩, fun b hb => ?_, q⟩
    have e' : b = s1.heap.objs.size + 1 ∨ b = s1.heap.objs.size := by simpa using hb
    have hle : s1.heap.objs.size ≤ b := by
      rcases e' with z | z
      · rw [z]; exact Nat.le_add_right _ _
      · rw [z]; exact Nat.le_refl _
    exact I1.fpOk hle (I1.hok.fresh hle)
theorem walk_enumT {K : PySem.W.Frag} {a : Addr} {xs : List V} : Walk (IteT K a) xs.length (fun H => SqT K H a xs) (YPair (fun i => some (.int (i : Nat))) (fun i => xs[i]?)) := by
  refine ⟨fun i _ hi q => ⟨xs, xs[i], q, by simp [hi]⟩, fun _ q => ⟨xs, q, rfl⟩, fun i H v H' _ q y => ?_⟩
  obtain ⟨T, x, h1, h2, h3, h4⟩ := y
  exact ⟨T, .int (i : Nat), x, h1, h2, h3, rfl, h4 xs q⟩
end Vx
namespace PySem
open Sem (wp)
section
variable {prog : Program} {w : World} {K : Type} [DecidableEq K] {knd : HeapKind prog w K} {A : Around} {E : Value → Shared → Prop} {s : Shared}
theorem wpAny_truthy_dictH {d : Addr} {xs : List (K × Addr × Value)} {Q : Bool → Shared → Prop} (hd : (d == sysModules) = false) (hm : s.heap.DictOfH knd d xs) (hfit : (xs.length : Int) < 2 ^ 63)
    (h : Q (!xs.isEmpty) { s with toks := s.toks + 1 + 1 }) : wpAny (model prog w) A (truthy (.ref d)) Q E s := by
  have hne : ((xs.length : Int) != 0) = !xs.isEmpty := by cases xs <;> simp <;> omega
  have key : wpAny (model prog w) A (runValue (.builtin "len" ⟨[.ref d], []⟩)) (fun r s' => r = .int xs.length (s.toks + 1) ∧ Q (!xs.isEmpty) s') E s := by
    refine wpAny_runValue (codeAny_builtin entry_len ?_)
    rw [Around.under_plainId plain_len _]
    exact wpAny_mono (wpAny_len_body_dictH (Q := fun r s' => r = .int xs.length (s.toks + 1) ∧ Q (!xs.isEmpty) s') hd hm hfit ⟨rfl, h⟩)
      (fun fin s' h' => by obtain ⟨r, rfl, hq⟩ := h'; exact hq) fun _ _ e => e
  unfold truthy
  first
    | refine wpAny_bind (wpAny_callSpecial?_none (name := Str.ofString "__bool__") hm.typeIs noBool_dict ?_)
    | refine wpAny_bind (wpAny_pure (wpAny_bind (wpAny_callSpecial?_none (name := Str.ofString "__bool__") hm.typeIs noBool_dict ?_)))
  first
    | refine wpAny_bind (wpAny_specialOf (name := Str.ofString "__len__") hm.typeIs F.slot_dict_len.lookup ?_)
    | refine wpAny_bind (wpAny_pure (wpAny_bind (wpAny_specialOf (name := Str.ofString "__len__") hm.typeIs F.slot_dict_len.lookup ?_)))
  first
    | exact wpAny_bind (wpAny_mono key (fun r s' h' => by obtain ⟨rfl, hq⟩ := h'; exact wpAny_pure (hne ▸ hq)) fun _ _ e => e)
    | exact wpAny_bind (wpAny_pure (wpAny_bind (wpAny_mono key (fun r s' h' => by obtain ⟨rfl, hq⟩ := h'; exact wpAny_pure (hne ▸ hq)) fun _ _ e => e)))
end
end PySem
namespace Vx
open PySem PySem.Spec PyProof.Rows L2
theorem gName_go {i : Nat} {v : V} {σ : L2.St} {H : Hp} {Q : L2.St → Hp → Prop} (h : Q (σ.set i (some v)) H) : gName i v σ H Q := h
/-! ### min, max with a default, of ints -/
theorem foldl_min_mem : ∀ (ns : List Int) (n : Int), ns.foldl min n ∈ n :: ns ∧ ∀ y ∈ n :: ns, ns.foldl min n ≤ y
  | [], n => ⟨List.mem_cons_self, fun y m => by rw [List.mem_singleton.mp m]; exact Int.le_refl n⟩
  | k :: ns, n => by
    obtain ⟨h1, h2⟩ := foldl_min_mem ns (min n k)
    show ns.foldl min (min n k) ∈ _ ∧ ∀ y ∈ _, ns.foldl min (min n k) ≤ y
    have h0 := h2 _ List.mem_cons_self
    refine ⟨?_, fun y m => ?_⟩
    · rcases List.mem_cons.mp h1 with e | m
      · rw [e]
        rcases Int.le_total n k with c | c
        · rw [Int.min_eq_left c]; exact List.mem_cons_self
        · rw [Int.min_eq_right c]; exact List.mem_cons_of_mem _ List.mem_cons_self
      · exact List.mem_cons_of_mem _ (List.mem_cons_of_mem _ m)
    · rcases List.mem_cons.mp m with e | m
      · rw [e]; exact Int.le_trans h0 (Int.min_le_left _ _)
      · rcases List.mem_cons.mp m with e | m
        · rw [e]; exact Int.le_trans h0 (Int.min_le_right _ _)
        · exact h2 y (List.mem_cons_of_mem _ m)
theorem foldl_max_mem : ∀ (ns : List Int) (n : Int), ns.foldl max n ∈ n :: ns ∧ ∀ y ∈ n :: ns, y ≤ ns.foldl max n
  | [], n => ⟨List.mem_cons_self, fun y m => by rw [List.mem_singleton.mp m]; exact Int.le_refl n⟩
  | k :: ns, n => by
    obtain ⟨h1, h2⟩ := foldl_max_mem ns (max n k)
    show ns.foldl max (max n k) ∈ _ ∧ ∀ y ∈ _, y ≤ ns.foldl max (max n k)
    have h0 := h2 _ List.mem_cons_self
    refine ⟨?_, fun y m => ?_⟩
    · rcases List.mem_cons.mp h1 with e | m
      · rw [e]
        rcases Int.le_total n k with c | c
        · rw [Int.max_eq_right c]; exact List.mem_cons_of_mem _ List.mem_cons_self
        · rw [Int.max_eq_left c]; exact List.mem_cons_self
      · exact List.mem_cons_of_mem _ (List.mem_cons_of_mem _ m)
    · rcases List.mem_cons.mp m with e | m
      · rw [e]; exact Int.le_trans (Int.le_max_left _ _) h0
      · rcases List.mem_cons.mp m with e | m
        · rw [e]; exact Int.le_trans (Int.le_max_right _ _) h0
        · exact h2 y (List.mem_cons_of_mem _ m)
theorem alike_ints (ns : List Int) : W.AlikeAll (ns.map PyData.int) := ⟨fun a ma b mb => by
    obtain ⟨x, _, rfl⟩ := List.mem_map.mp ma
    obtain ⟨y, _, rfl⟩ := List.mem_map.mp mb
    simp [W.alike], fun a ma => by
    obtain ⟨x, _, rfl⟩ := List.mem_map.mp ma
    intro z
    cases z⟩
section
variable {X : Cx}
def rDflt (K : PySem.W.Frag) (le : Int → Int → Prop) : List V → List V → Hp → VK → Prop := fun vs zs H Q => ∃ (a : Addr) (ns : List Int) (d : V), vs = [V.ref a] ∧ zs = [d] ∧ SqL K H a (ns.map V.int) ∧ (ns = [] → Q d H) ∧ ∀ m, m ∈ ns → (∀ y ∈ ns, le m y) → Q (.int m) H
theorem cr_minD (hc : X.calm = true) (hu : X.A.units + 2 < cLine) : CallRK X (.builtin "min") [Str.ofString "default"] (rDflt X.K (fun m y => m ≤ y)) := by
  intro pins s σ H vs zs us ws Q I r rz h
  obtain ⟨a, ns, d, rfl, rfl, hs, q0, q⟩ := h
  obtain rfl := Vals.ref1 r
  obtain ⟨w1, rfl, e1⟩ := vals1 rz
  obtain ⟨its, rv, pl, hz⟩ := I.list hs
  obtain ⟨as, hr⟩ := Dp.readsAll I _ _ its (dpAll_ints ns) rv
  refine W.min_list_default (I.ok.hd hc) pl.isList hr (alike_ints ns) (by rw [depAll_ints]; omega) (fun z h' tk k => ?_) fun y ys i v h' tk bs e hv rd k => ?_
  · exact ⟨d, H, I.kept k, e1, q0 (List.map_eq_nil_iff.mp z)⟩
  · cases ns with
    | nil => cases e
    | cons n ns =>
      injection e with e1 e2
      subst e1 e2
      rw [W.minD_ints] at rd
      obtain ⟨h1, h2⟩ := foldl_min_mem ns n
      cases rd
      exact ⟨.int _, H, I.kept k, ⟨_, rfl⟩, q _ h1 h2⟩
theorem cr_maxD (hc : X.calm = true) (hu : X.A.units + 2 < cLine) : CallRK X (.builtin "max") [Str.ofString "default"] (rDflt X.K (fun m y => y ≤ m)) := by
  intro pins s σ H vs zs us ws Q I r rz h
  obtain ⟨a, ns, d, rfl, rfl, hs, q0, q⟩ := h
  obtain rfl := Vals.ref1 r
  obtain ⟨w1, rfl, e1⟩ := vals1 rz
  obtain ⟨its, rv, pl, hz⟩ := I.list hs
  obtain ⟨as, hr⟩ := Dp.readsAll I _ _ its (dpAll_ints ns) rv
  refine W.max_list_default (I.ok.hd hc) pl.isList hr (alike_ints ns) (by rw [depAll_ints]; omega) (fun z h' tk k => ?_) fun y ys i v h' tk bs e hv rd k => ?_
  · exact ⟨d, H, I.kept k, e1, q0 (List.map_eq_nil_iff.mp z)⟩
  · cases ns with
    | nil => cases e
    | cons n ns =>
      injection e with e1 e2
      subst e1 e2
      rw [W.maxD_ints] at rd
      obtain ⟨h1, h2⟩ := foldl_max_mem ns n
      cases rd
      exact ⟨.int _, H, I.kept k, ⟨_, rfl⟩, q _ h1 h2⟩
/-- if d: of a dict with tuple keys -/
theorem pt_truT {a : Expr} {ta : TE} (ha : PE X a ta) (he : ∀ whole, isTrue a X.env whole = (do let v ← whole; standAt a.pos; holding [v] (truthy v))) :
    PT X a (fun σ H Q => ta σ H fun x H' => ∃ (p : Addr) (kvs : List (List L2.Key × V)), x = .ref p ∧ H' p = some (.dT kvs) ∧ Q (!kvs.isEmpty) H') := by
  refine ⟨fun pins s σ H Q I h => ?_⟩
  refine isTrue_plain (thn (ha.run pins s σ H _ I h) fun v s1 ⟨x, H1, I1, r1, q1⟩ => ?_) (he _)
  obtain ⟨p, kvs, rfl, hp, q⟩ := q1
  obtain rfl : v = .ref p := r1
  obtain ⟨z, hd, ys, rel, dd⟩ := dt_of I1.hok hp
  have hl : kvs.length = ys.length := Paired.length rel
  have hi : (!ys.isEmpty) = !kvs.isEmpty := by
    cases ys <;> cases kvs <;> first | rfl | (simp at hl)
  refine PySem.wpAny_truthy_dictH hd dd (by rw [← hl]; rw [sizeLine_eq] at z; omega) ?_
  rw [hi]
  exact ⟨H1, I1.tok _, q⟩
end
/-- the keys of such a dict, a number of each -/
theorem lc_keysN {d : Addr} {od : Obj} {kvs : List (List L2.Key × V)} {ps : List Pr} {vs : List Nat} {σ : L2.St} {H1 : Hp} {D : Addr} {Qd : Hp → Prop} {g : TG} {tt : TT} {te : TE} (f : Pr → Int) (hK : KeysP kvs ps) (hD : H1 d = some (.frz od (.dT kvs))) (nD : H1 D = none) (few : ps.length < sizeLine)
    (hs : ∀ (t : Addr) (x : Pr) (H' : Hp) (Po : V → Hp → Prop) (Pn : Hp → Prop), x ∈ ps → H' t = some (.tup [.int x.1, .int x.2]) → Po (.int (f x)) H' →
      g (.ref t) (wipe σ vs) H' fun σ2 H2 => wipe σ2 vs = wipe σ vs ∧ tt σ2 H2 fun b H3 => if b = true then te σ2 H3 Po else Pn H3)
    (hd : ∀ H', Same H1 H' → H' D = some (.lst ((ps.map f).map V.int)) → Qd H') :
    ∃ W : Nat → Nat → Hp → Prop, (∃ m, W 0 m (upd H1 D (.lst []))) ∧ ∀ i m H, W i m H →
      ((Itkt d od kvs).stop i H ∧ Qd H) ∨ ((Itkt d od kvs).go i H ∧ ∃ Nx : Hp → Prop, (∀ H', Nx H' → ∃ m', m' < m ∧ W (i + 1) m' H') ∧ ∀ x H', (Itkt d od kvs).yld i H x H' → g x (wipe σ vs) H' fun σ2 H2 => wipe σ2 vs = wipe σ vs ∧ tt σ2 H2 fun b H3 =>
        if b = true then te σ2 H3 fun y H4 => ∃ acc, H4 D = some (.lst acc) ∧ acc.length < sizeLine ∧ Nx (upd H4 D (.lst (acc ++ [y]))) else Nx H3) := by
  have len := hK.len
  refine lc_it walk_keysT (fun i H' => Same H1 H' ∧ H' D = some (.lst (((ps.take i).map f).map V.int)))
    ⟨newS nD, upd_same⟩ (fun i H' _ p => p.1 _ _ hD) ?_ ?_
  · rintro i x H' H2 hi ⟨sm, h1⟩ ⟨rfl, k, v, q, e, rfl, hq⟩
    obtain ⟨y, hy, ek⟩ := hK.at e
    rw [ek] at hq
    refine hs q y _ _ _ (List.mem_of_getElem? hy) hq ⟨_, h1, ?_, mutS sm nD, ?_⟩
    · rw [List.length_map, List.length_map, List.length_take]
      omega
    · rw [upd_same, take_next hy, List.map_append, List.map_append]
      rfl
  · rintro H' ⟨sm, h1⟩
    rw [List.take_of_length_le (by omega)] at h1
    exact hd H' sm h1
end Vx
namespace Vx
open PySem PySem.Spec PyProof.Rows L2
/-! ### dict comprehensions with two loops -/
def emD0 (kx vx : Expr) (acc : Value) (env : Env) : Sem Unit := do
  let kv ← eval kx env
  let vv ← holding [kv] (eval vx env)
  match acc with
  | .ref d => do
    standAt { kx.pos with endLine := vx.pos.endLine, endCol := vx.pos.endCol }
    holding [kv, vv] (dictSet d kv vv)
  | _ => unsupported "internal:dictcomp"
def emD (kx vx : Expr) (acc : Value) (env : Env) (k : Unit → Sem PySem.Fin) : Sem PySem.Fin := emD0 kx vx acc env >>= k
def tEmD (tk tv : TE) (D : Addr) : EMT := fun σ H Nx => tk σ H fun y H4 => tv σ H4 fun z H5 => ∃ (kvs : List (List L2.Key × V)) (k : List L2.Key) (b : Addr), y = .ref b ∧ H5 b = some (.tup (k.map kV)) ∧ H5 D = some (.dT kvs) ∧ kvs.length < sizeLine ∧ Nx (upd H5 D (.dT (putK kvs k z)))
theorem runs_put {Y : Cx} (hu : Y.A.units < cLine) (xe0 : Y.xe = fun _ _ => False) {kx vx : Expr} {tk tv : TE} {D : Addr} (vs : List Nat) (pk : PE Y kx tk) (pv : PE Y vx tv) : Runs Y vs (tEmD tk tv D) (emD kx vx (.ref D) Y.env) := by
  intro pins s σ H Nx c Post E I h k
  unfold emD emD0
  have r := pk.run pins s σ H _ I h
  rw [xe0] at r
  refine wpAny_bind (wpAny_bind (wpAny_mono r (fun v s1 h1 => ?_) fun _ _ z => z.elim))
  obtain ⟨y, H1, I1, ry, h1⟩ := h1
  have r2 := pv.run pins s1 σ H1 _ I1 h1
  rw [xe0] at r2
  refine wpAny_bind (wpAny_holding (wpAny_mono r2 (fun v2 s2 h2 => ?_) fun _ _ z => z.elim))
  obtain ⟨z, H2, I2, rz, kvs, kk, b, rfl, hb, hD, few, nx⟩ := h2
  cases ry
  refine wpAny_bind (wpAny_standAt (wpAny_holding ?_))
  exact set_compT hu I2 hD few hb rz fun s3 I3 => wpAny_pure (k s3 _ (I3.weak (wipe_length ..) fun _ _ z => (wipe_some z).1) nx)
def tDcG (wi : TI) (g : TG) (tt : TT) (EM : Addr → EMT) (vs : List Nat) : TE := fun σ H Q => wi σ H fun J H1 => ∀ D : Addr, H1 D = none → ∃ W, (∃ m, W 0 m (upd H1 D (.dT []))) ∧ tTurns J g tt vs (EM D) σ (fun H => Q (.ref D) H) W
theorem pe_dcG {X : Cx} {kx vx tg iter : Expr} {ifs : List Expr} {rest : List Comprehension} {scope : Scope} {own : List (Str × Nat)} {pos p : Pos} {wi : TI} {g : TG} {tt : TT} {EM : Addr → EMT} {em : Value → Env → (Unit → Sem PySem.Fin) → Sem PySem.Fin}
    (hc : X.calm = true) (hN : X.N.Nodup) (hi : PI X tg iter wi) (ok : BlkOk X.N X.env.scope scope own)
    (hg : ∀ (s : Shared) (H : Hp) (C : Addr) (cl : List (Str × Addr)) (fp : List Addr), PG (X.blk s H scope (compEnvC scope cl C X.env) fp) tg g)
    (ht : ∀ (s : Shared) (H : Hp) (C : Addr) (cl : List (Str × Addr)) (fp : List Addr), PTs (X.blk s H scope (compEnvC scope cl C X.env) fp) ifs tt)
    (hem : ∀ (s : Shared) (H : Hp) (C : Addr) (cl : List (Str × Addr)) (fp : List Addr) (D : Addr), Runs (X.blk s H scope (compEnvC scope cl C X.env) fp) (own.map (·.2)) (EM D) (em (.ref D) (compEnvC scope cl C X.env)))
    (turn : ∀ it acc env, compTurn (.DictComp kx vx (⟨tg, iter, ifs, 0⟩ :: rest) scope pos) 0 it acc env = turnF p tg ifs (em acc env) (Code.compLoop (.DictComp kx vx (⟨tg, iter, ifs, 0⟩ :: rest) scope pos) 0 it acc env) it env)
    (hs : ∀ x, foldedSetIterable iter X.env x = pure x) : PE X (.DictComp kx vx (⟨tg, iter, ifs, 0⟩ :: rest) scope pos) (tDcG wi g tt EM (own.map (·.2))) := by
  refine ⟨fun pins s σ H Q I h => ?_⟩
  rw [arm_eval_DictComp]
  have hfree : ∀ y ∈ scope.names, y.2 = NameKind.free → ∃ c, List.lookup y.1 X.env.cells = some c := fun y hy e => (ok.free y hy e).elim (fun k => I.ok.has y.1 (.inl k)) fun k => I.ok.has y.1 (.inr k)
  refine wpAny_comprehension_free (use := none) rfl hs (closure_ok hfree) ok.kind (fun y hy e => by rw [ok.uniq y hy, e]) ?_
  refine wpAny_mono (hi.run pins s σ H _ I h) (fun xv s1 hx => ?_) fun _ _ z => z
  refine wpAny_mono hx (fun itv s2 h2 => ?_) fun _ _ z => z
  obtain ⟨it, fp, tn, J, H2, rfl, I2, T, t2, f2, q⟩ := h2
  refine wpAny_newObj_type (newEnv_comp ?_)
  have hDn : H2 s2.heap.objs.size = none := I2.hok.fresh (Nat.le_refl _)
  obtain ⟨W, ⟨m0, w0⟩, turns⟩ := q _ hDn
  have I3 : L2.Inv X pins σ (upd H2 s2.heap.objs.size (.dT [])) { s2 with heap := s2.heap.push { cls := .type "dict", data := .dict #[] } } :=
    I2.laid (t' := s2.toks) (fun b o e => Heap.get?_push_of_some _ e) (Nat.le_refl _) (dt_empty s2.heap I2.big)
  generalize es3 : ({ s2 with heap := s2.heap.push { cls := .type "dict", data := .dict #[] } } : Shared) = s3 at I3 ⊢
  have h3 : s3.heap = s2.heap.push { cls := .type "dict", data := .dict #[] } := by rw [← es3]
  have f3 : ∀ b ∈ fp, FpOk X pins (upd H2 s2.heap.objs.size (.dT [])) b ∧ b < s3.heap.objs.size := fun b hb => by
    obtain ⟨o, ho, _⟩ := T.obj 0 _ t2 b hb
    have lt := Heap.lt_size ho
    refine ⟨⟨?_, (f2 b hb).2⟩, ?_⟩
    · rw [upd_ne (Nat.ne_of_lt lt)]
      exact (f2 b hb).1
    · rw [h3, Heap.size_push]
      exact Nat.lt_succ_of_lt lt
  have st3 : tn 0 s3.heap := T.keep 0 _ _ t2 fun b _ o e => by
    rw [h3]
    exact Heap.get?_push_of_some _ e
  have I4 := block_start I3 ok hN f3
  have st4 := T.keep 0 _ (pushCells (s3.heap.push { cls := .type "dict", data := .dict #[] }) scope.names) st3 fun b _ o e => pushCells_keeps scope.names _ b o (Heap.get?_push_of_some _ e)
  clear es3
  generalize s2.heap.objs.size = D at *
  show codeAny (model X.prog X.w) X.A (Code.compStart _ 0 (.ref it) (.ref D) (compEnvC scope (cellsFrom (s3.heap.objs.size + 1) scope.names (cloFrom X.env.cells scope.names [])) s3.heap.objs.size X.env)) _ _
  have loop := lvl (Y := X.blk s3 (upd H2 D (.dT [])) scope (compEnvC scope (cellsFrom (s3.heap.objs.size + 1) scope.names (cloFrom X.env.cells scope.names [])) s3.heap.objs.size X.env) fp) (R := compPost (model X.prog X.w) X.A X.xe none (EP X pins σ Q) (.ref D) s3.heap.objs.size) (e := .DictComp kx vx (⟨tg, iter, ifs, 0⟩ :: rest) scope pos) (d := 0) (acc := .ref D) hc rfl T (hg _ _ _ _ _) (ht _ _ _ _ _) rfl rfl rfl (turn _ _ _) (EM := EM D) (vs := List.map (fun x : Str × Nat => x.2) own) (σ0 := σ) (W := W) (Qe := fun H => Q (.ref D) H)
    (fun pins s σ H Nx Post E I h k => hem _ _ _ _ _ D pins s σ H Nx _ Post E I h k) turns (fun s6 H5 I6 q6 => ?_) I4 st4 (fun b hb => ⟨(f3 b hb).1.1, (I4.ok.exf b hb).1, I4.ok.exfs b hb, .inl hb, (I4.ok.exf b hb).2, fun p hp => by cases hp⟩) w0
  · exact codeAny_compStart_dict loop (T.self X.A 0 _ _ _ st4 loop)
  · have I7 := Inv.call' I3 I6.os I6.base I6.hok I6.bare fun b hb => ⟨(f3 b hb).1.2.2.2.1, (f3 b hb).1.2.1, (f3 b hb).1.2.2.2.2.1, (f3 b hb).1.2.2.2.2.2⟩
    obtain ⟨m, hn, _⟩ := I6.loc
    obtain ⟨a0, a1, a2, a3, a4, a5⟩ := Inv.fpOk I3 (Nat.le_refl _) I6.free
    exact ⟨m, hn, fun h' sb => ⟨.ref D, H5, Inv.turned I7 (fun b o hb e => (sb.2 b hb).trans e) a0 a1 a3 a4 a5, rfl, q6⟩⟩
/-- {k: v for a in xs for b in ys} -/
theorem pe_dcD {X : Cx} {kx vx tg iter tg1 iter1 : Expr} {ifs ifs1 : List Expr} {scope : Scope} {own : List (Str × Nat)} {vs1 : List Nat} {pos : Pos} {wi wi1 : TI} {g g1 : TG} {tt tt1 : TT} {tk tv : TE}
    (hc : X.calm = true) (hu : X.A.units < cLine) (hN : X.N.Nodup) (hi : PI X tg iter wi) (ok : BlkOk X.N X.env.scope scope own) (hv1 : ∀ i ∈ vs1, i ∈ List.map (fun x : Str × Nat => x.2) own)
    (hg : ∀ (s : Shared) (H : Hp) (C : Addr) (cl : List (Str × Addr)) (fp : List Addr), PG (X.blk s H scope (compEnvC scope cl C X.env) fp) tg g)
    (ht : ∀ (s : Shared) (H : Hp) (C : Addr) (cl : List (Str × Addr)) (fp : List Addr), PTs (X.blk s H scope (compEnvC scope cl C X.env) fp) ifs tt)
    (hi1 : ∀ (s : Shared) (H : Hp) (C : Addr) (cl : List (Str × Addr)) (fp : List Addr), PI (X.blk s H scope (compEnvC scope cl C X.env) fp) tg1 iter1 wi1)
    (hg1 : ∀ (s : Shared) (H : Hp) (C : Addr) (cl : List (Str × Addr)) (fp : List Addr), PG (X.blk s H scope (compEnvC scope cl C X.env) fp) tg1 g1)
    (ht1 : ∀ (s : Shared) (H : Hp) (C : Addr) (cl : List (Str × Addr)) (fp : List Addr), PTs (X.blk s H scope (compEnvC scope cl C X.env) fp) ifs1 tt1)
    (hk : ∀ (s : Shared) (H : Hp) (C : Addr) (cl : List (Str × Addr)) (fp : List Addr), PE (X.blk s H scope (compEnvC scope cl C X.env) fp) kx tk)
    (hv : ∀ (s : Shared) (H : Hp) (C : Addr) (cl : List (Str × Addr)) (fp : List Addr), PE (X.blk s H scope (compEnvC scope cl C X.env) fp) vx tv)
    (hs : ∀ x, foldedSetIterable iter X.env x = pure x := by intro _; rfl) (hs1 : ∀ env x, foldedSetIterable iter1 env x = pure x := by intro _ _; rfl) :
    PE X (.DictComp kx vx [⟨tg, iter, ifs, 0⟩, ⟨tg1, iter1, ifs1, 0⟩] scope pos) (tDcG wi g tt (fun D => tIn wi1 g1 tt1 vs1 (tEmD tk tv D)) (own.map (·.2))) := by
  refine pe_dcG (em := fun acc env => emI (.DictComp kx vx [⟨tg, iter, ifs, 0⟩, ⟨tg1, iter1, ifs1, 0⟩] scope pos) 1 iter1 acc env) hc hN hi ok hg ht (fun s H C cl fp D => ?_) (fun _ _ _ => rfl) hs
  refine runs_in (Y := X.blk s H scope (compEnvC scope cl C X.env) fp) (gc := ⟨tg1, iter1, ifs1, 0⟩) hc rfl hv1 (hi1 s H C cl fp) (hg1 s H C cl fp) (ht1 s H C cl fp) (em := fun k => emD kx vx (.ref D) (compEnvC scope cl C X.env) k) ?_ (hs1 _) (fun _ => rfl) (fun _ => rfl) (fun _ => rfl) (fun _ => rfl) (fun _ => rfl) rfl rfl (fun _ => rfl)
  exact runs_put (Y := X.blk s H scope (compEnvC scope cl C X.env) fp) hu rfl vs1 (hk s H C cl fp) (hv s H C cl fp)
/-! ### sorted of any alike data -/
theorem each_zip {R : Value → V × PyData → Prop} : ∀ {xs : List V} {us : List Value} {ds : List PyData}, Vals xs us → xs.length = ds.length → (∀ x u d, (x, d) ∈ xs.zip ds → RelV x u → R u (x, d)) → W.EachIs R us (xs.zip ds)
  | [], _, [], .nil, _, _ => .nil
  | x :: xs, _, d :: ds, .cons r rs, h, g => .cons (g x _ d List.mem_cons_self r) (each_zip rs (by simpa using h) fun y u e m => g y u e (List.mem_cons_of_mem _ m))
theorem vals_each : ∀ {us : List Value} {bs : List (V × PyData)}, W.EachIs (fun u (b : V × PyData) => RelV b.1 u) us bs → Vals (bs.map (·.1)) us
  | [], [], .nil => .nil
  | _ :: _, _ :: _, .cons r rs => .cons r (vals_each rs)
def srtD (xs : List V) (ds : List PyData) : List (V × PyData) := (xs.zip ds).mergeSort (W.dataLe false fun b => b.2)
theorem dpAll_len {K : PySem.W.Frag} {H : Hp} : ∀ {xs : List V} {ds : List PyData}, DpAll K H xs ds → xs.length = ds.length
  | [], [], _ => rfl
  | x :: xs, [], h => by cases h
  | [], d :: ds, h => by cases h
  | x :: xs, d :: ds, h => by
    cases h with
    | cons a b => rw [List.length_cons, List.length_cons, dpAll_len b]
theorem dpAll_zip {K : PySem.W.Frag} {H : Hp} : ∀ {xs : List V} {ds : List PyData}, DpAll K H xs ds → ∀ x d, (x, d) ∈ xs.zip ds → Dp K H x d
  | [], _, _, x, d, m => by cases m
  | x :: xs, [], h, y, e, m => by cases m
  | x :: xs, d :: ds, h, y, e, m => by
    cases h with
    | cons a b =>
      rcases List.mem_cons.mp m with m | m
      · injection m with m1 m2
        rw [m1, m2]
        exact a
      · exact dpAll_zip b y e m
theorem dpAll_of {K : PySem.W.Frag} {H : Hp} : ∀ {bs : List (V × PyData)}, (∀ b ∈ bs, Dp K H b.1 b.2) → DpAll K H (bs.map (·.1)) (bs.map (·.2))
  | [], _ => .nil
  | b :: bs, h => .cons (h b List.mem_cons_self) (dpAll_of fun c m => h c (List.mem_cons_of_mem _ m))
theorem srtD_dp {K : PySem.W.Frag} {H : Hp} {xs : List V} {ds : List PyData} (h : DpAll K H xs ds) : DpAll K H ((srtD xs ds).map (·.1)) ((srtD xs ds).map (·.2)) :=
  dpAll_of fun b m => dpAll_zip h b.1 b.2 ((List.mergeSort_perm _ _).mem_iff.mp m)
theorem srtD_data {xs : List V} {ds : List PyData} (h : xs.length = ds.length) : (srtD xs ds).map (·.2) = ds.mergeSort (W.dataLe false id) := by
  unfold srtD
  have e := List.map_mergeSort (r := W.dataLe false fun b : V × PyData => b.2) (s := W.dataLe false id) (f := fun b : V × PyData => b.2) (l := xs.zip ds) (fun a _ b _ => rfl)
  have z : (xs.zip ds).map (fun b : V × PyData => b.2) = ds := by
    show (xs.zip ds).map Prod.snd = ds
    rw [List.map_snd_zip]
    omega
  rw [z] at e
  exact e
section
variable {X : Cx}
theorem cr_sortedD (hu : X.A.units + 64 < cLine) : CallR X (.builtin "sorted") (fun us H Q => ∃ (a : Addr) (xs : List V) (ds : List PyData), us = [.ref a] ∧ SqL X.K H a xs ∧ DpAll X.K H xs ds ∧ W.AllAlike ds ∧ W.Sortable ds ∧ (∀ d ∈ ds, d.depth ≤ 60) ∧
    ∀ p, H p = none → Q (.ref p) (upd H p (.lst ((srtD xs ds).map (·.1))))) := by
  intro pins s σ H vs us Q I r h
  obtain ⟨a, xs, ds, rfl, hs, dp, al, so, dep, q⟩ := h
  obtain ⟨its, rv, hl, hz⟩ := I.list hs
  rw [Vals.ref1 r]
  have len := dpAll_len dp
  have lz : (xs.zip ds).map (·.2) = ds := by
    rw [List.map_snd_zip]
    omega
  have lb : (xs.zip ds).length = xs.length := by rw [List.length_zip, len, Nat.min_self]
  refine W.sorted_data (R := fun u (b : V × PyData) => RelV b.1 u) (enc := fun b : V × PyData => b.2) (bs := xs.zip ds) hl.isList (each_zip rv len fun _ _ _ _ r => r) (each_zip rv len fun x u d m r => Dp.reads I d x u (dpAll_zip dp x d m) r) (by rw [lz]; exact al) (by rw [lz]; exact so) (by rw [lb]; exact hz) (fun b m => ?_) fun out ho eo => ?_
  · have := dep b.2 (by rw [← lz]; exact List.mem_map.mpr ⟨b, m, rfl⟩)
    omega
  · obtain ⟨ep, he'⟩ := PyProof.Rows.sortedAll_at s.heap its (List.toArray out)
    have vo := vals_each eo
    exact ⟨.ref _, upd H (s.heap.objs.size + 1) (.lst ((srtD xs ds).map (·.1))), I.laid (t' := s.toks) (fun _ _ => PyProof.Rows.sortedAll_old) (Nat.le_succ _) ⟨by
      have hl2 : (srtD xs ds).length = xs.length := by unfold srtD; rw [List.length_mergeSort, lb]
      rw [List.length_map, hl2]
      exact hz, out, ep, vo, he'⟩, rfl, q _ (I.hok.fresh (Nat.le_succ _))⟩
/-! ### math.comb -/
theorem cr_comb : CallR X (.builtin "math.comb") (fun vs H Q => ∃ a b : Nat, vs = [.int (a : Int), .int (b : Int)] ∧ a ≤ 1000 ∧ b ≤ a ∧ ∀ c : Nat, 0 < c → Q (.int (c : Int)) H) := by
  intro pins s σ H vs us Q I r h
  obtain ⟨a, b, rfl, ha, hb, q⟩ := h
  obtain ⟨t, u, rfl⟩ := Vals.int2 r
  refine PySem.W.mc_comb (by omega) (by omega) (by omega) (.inl (by omega)) fun m => ?_
  obtain ⟨m1, m2, _⟩ := m
  have m2 := m2 (by omega)
  obtain ⟨c, ec⟩ := Int.eq_ofNat_of_zero_le m1
  have c0 : 0 < c := by omega
  refine ⟨.int _, H, I.tok _, ⟨_, rfl⟩, ?_⟩
  rw [ec]
  exact q c c0
end
end Vx
namespace Vx
open PySem PySem.Spec PyProof.Rows L2
/-! ### enumerate(s), s a text -/
def IteS (x : Str) : It :=
  ⟨fun i _ => i < x.cps.size, fun i H v H' => ∃ T c, v = .ref T ∧ H T = none ∧ x.cps[i]? = some c ∧ H' = upd H T (.tup [.int (i : Nat), .str ⟨#[c]⟩]), fun i _ => x.cps.size = i⟩
theorem turn_enumS {P : Program} {w : World} {K : PySem.W.Frag} {elts : List Expr} {kk : Nat} {tpos : Pos} (x : Str) (t : Tok) (e it : Addr) :
    Turn P w K (.Tuple elts kk tpos) (IteS x) [e, it] e (fun i h => (∃ old, IsEnum h e it ((i : Nat) : Int) old) ∧ h.IsStrIter it (strIterType x) x t i ∧ e ≠ it) where
  mem := by simp
  obj := fun i h st b hb => by
    obtain ⟨⟨old, he⟩, ⟨o, ho, hc, hd⟩, _⟩ := st
    have e' : b = e ∨ b = it := by simpa using hb
    rcases e' with z | z
    · rw [z]; exact ⟨_, he, fun v q => nomatch q⟩
    · rw [z]; exact ⟨o, ho, fun v q => by rw [hd] at q; cases q⟩
  keep := fun i h h' st k => let ⟨⟨old, he⟩, ⟨o, ho, r⟩, hne⟩ := st; ⟨⟨old, k e (by simp) _ he⟩, ⟨o, k it (by simp) o ho, r⟩, hne⟩
  item := by
    intro X hP hw hK hc i pins s σ H E I hf st hg
    subst hP hw hK
    obtain ⟨⟨old, he⟩, hit, hne⟩ := st
    have hel : e < s.heap.objs.size := Heap.lt_size he
    have hil : it < s.heap.objs.size := by obtain ⟨_, q, _⟩ := hit; exact Heap.lt_size q
    have D := Draws.text (prog := X.prog) (w := X.w) (A := X.A.in1) (I.ok.hd hc) it x t
    refine wpAny_pyNext_enum_itemC D he hit hg hne (by simp; exact hne) fun x' h' tk hx' ho hit' hT hsz hk => ?_
    obtain ⟨c, u, hcx, rfl⟩ := hx'
    have ru : RelV (.str ⟨#[c]⟩) (Value.str ⟨#[c]⟩ u) := ⟨u, rfl⟩
    refine ⟨_, rfl, wpAny_letOwnedTupleGo_enum (s := { s with heap := h', toks := tk + 1 }) ho fun h'' he' sb => ?_⟩
    have hT2 := (sb.2 _ (Nat.ne_of_gt hel)).trans hT
    have new : ObjOk X.prog X.w (upd H s.heap.objs.size (.tup [.int (i : Nat), .str ⟨#[c]⟩])) h'' s.heap.objs.size (.tup [.int (i : Nat), .str ⟨#[c]⟩]) :=
      ⟨by show 2 ≤ sizeLine; decide, [.int i tk, .str ⟨#[c]⟩ u], .cons ⟨_, rfl⟩ (.cons ru .nil), ⟨_, hT2, rfl, _, rfl⟩⟩
    have I1 : Inv X pins σ (upd H s.heap.objs.size (.tup [.int (i : Nat), .str ⟨#[c]⟩])) { s with heap := h'', toks := tk + 1 } :=
      I.turnedNew (ch := [e, it]) (fun b ob hb q => (sb.2 b (fun z => hb (by simp [z]))).trans (hk b ob (fun z => hb (by simp [z])) (fun z => hb (by simp [z])) q)) hf (Nat.le_refl _) new
    refine ⟨.ref s.heap.objs.size, _, I1, rfl, ⟨_, c, rfl, I.hok.fresh (Nat.le_refl _), hcx, rfl⟩, ⟨⟨.str ⟨#[c]⟩ u, ?_⟩, ?_, hne⟩, fun b hb => ?_⟩
    · have e1 : ((i + 1 : Nat) : Int) = (i : Int) + 1 := by omega
      rw [e1]; exact he'
    · obtain ⟨o, ho2, r⟩ := hit'
      exact ⟨o, (sb.2 it (Ne.symm hne)).trans ho2, r⟩
    · have hb' : b < s.heap.objs.size := by
        have e' : b = e ∨ b = it := by simpa using hb
        rcases e' with z | z
        · rw [z]; exact hel
        · rw [z]; exact hil
      rw [upd_ne (Nat.ne_of_lt hb')]
      exact (hf b hb).1
  done := by
    intro X hP hw hK hc i pins s σ H E I hf st hg
    subst hP hw hK
    obtain ⟨⟨old, he⟩, hit, hne⟩ := st
    obtain ⟨f0, f1, f2, f3, f4, f5⟩ := hf it (by simp)
    have D := Draws.text (prog := X.prog) (w := X.w) (A := X.A.in1) (I.ok.hd hc) it x t
    subst hg
    refine wpAny_pyNext_enum_endD D he hit fun h' eb => ⟨rfl, I.turned (t' := s.toks) (fun b o hb q => eb b o hb q) f0 f1 f3 f4 f5⟩
  self := fun A i s Q E st h => let ⟨⟨_, he⟩, _⟩ := st; wpAny_pyIter_enum he h
def iEnumS (ta : TA) : TI := fun σ H R => ta σ H fun vs H1 => ∃ x, vs = [.str x] ∧ R (IteS x) H1
theorem pi_enumS {X : Cx} {e : Expr} {ta : TA} {p pos tpos : Pos} {elts : List Expr} {kk : Nat} (hg : Gl X "enumerate") (hm : X.mg "enumerate" = none) (ha : PA X [e] ta) (hs : starEach [e] X.env = [(false, eval e X.env)] := by rfl) :
    PI X (.Tuple elts kk tpos) (.Call (.Name "enumerate" p) [e] [] pos) (iEnumS ta) := by
  refine ⟨fun pins s σ H R I h => ?_⟩
  refine Call_ (ld_blt I hg hm boot_enumerate (PyProof.Rows.callWith_type1 (thn (ha.run pos pins s σ H _ I h) fun us s1 ⟨vs, H1, I1, r1, q1⟩ => ?_) hs rfl))
  obtain ⟨x, ex, q⟩ := q1
  subst ex
  cases r1 with
  | cons r rr =>
    cases rr
    obtain ⟨t, rfl⟩ := r
    refine call_enumerate1 (begins_text x t) trivial fun h' he hit hsz hk => wpAny_pyIter_enum he ?_
    have I2 : Inv X pins σ H1 { s1 with heap := h' } := I1.kept (t' := s1.toks) hk
    refine ⟨s1.heap.objs.size + 1, [s1.heap.objs.size + 1, s1.heap.objs.size], _, _, H1, rfl, I2, turn_enumS x t (s1.heap.objs.size + 1) s1.heap.objs.size, ⟨⟨.none, he⟩, ⟨_, hit, rfl, rfl⟩, Nat.succ_ne_self _⟩, fun b hb => ?_, q⟩
    have e' : b = s1.heap.objs.size + 1 ∨ b = s1.heap.objs.size := by simpa using hb
    have hle : s1.heap.objs.size ≤ b := by
      rcases e' with z | z
      · rw [z]; exact Nat.le_add_right _ _
      · rw [z]; exact Nat.le_refl _
    exact I1.fpOk hle (I1.hok.fresh hle)
theorem turns_enumS {x : Str} {g : TG} {tt : TT} {vs : List Nat} {EM : EMT} {σ : L2.St} {H0 : Hp} {Qe : Hp → Prop} (Z : Nat → Hp → Prop) (z0 : Z 0 H0)
    (step : ∀ (i : Nat) (c : Nat) (H : Hp) (T : Addr), x.cps[i]? = some c → Z i H → H T = none → g (.ref T) (wipe σ vs) (upd H T (.tup [.int (i : Nat), .str ⟨#[c]⟩])) fun σ2 H2 => wipe σ2 vs = wipe σ vs ∧ tt σ2 H2 fun b H3 => if b = true then EM σ2 H3 (Z (i + 1)) else Z (i + 1) H3)
    (done : ∀ H, Z x.cps.size H → Qe H) : ∃ W, (∃ m, W 0 m H0) ∧ tTurns (IteS x) g tt vs EM σ Qe W := by
  refine ⟨fun i m H => i ≤ x.cps.size ∧ m = x.cps.size - i ∧ Z i H, ⟨_, Nat.zero_le _, rfl, z0⟩, ?_⟩
  rintro i m H ⟨le, rfl, z⟩
  by_cases e : i = x.cps.size
  · exact .inl ⟨e.symm, done H (e ▸ z)⟩
  · have lt : i < x.cps.size := by omega
    refine .inr ⟨lt, Z (i + 1), fun H' z' => ⟨x.cps.size - (i + 1), by omega, by omega, rfl, z'⟩, ?_⟩
    rintro v H' ⟨T, c, rfl, hT, hc, rfl⟩
    exact step i c H T hc z hT
theorem turns_enum {K : PySem.W.Frag} {a : Addr} {xs : List V} {g : TG} {tt : TT} {vs : List Nat} {EM : EMT} {σ : L2.St} {H0 : Hp} {Qe : Hp → Prop} (Z : Nat → Hp → Prop) (z0 : Z 0 H0) (keep : ∀ (i : Nat) (H : Hp), i ≤ xs.length → Z i H → SqL K H a xs)
    (step : ∀ (i : Nat) (x : V) (H : Hp) (T : Addr), xs[i]? = some x → Z i H → H T = none → g (.ref T) (wipe σ vs) (upd H T (.tup [.int (i : Nat), x])) fun σ2 H2 => wipe σ2 vs = wipe σ vs ∧ tt σ2 H2 fun b H3 => if b = true then EM σ2 H3 (Z (i + 1)) else Z (i + 1) H3)
    (done : ∀ H, Z xs.length H → Qe H) : ∃ W, (∃ m, W 0 m H0) ∧ tTurns (Ite K a) g tt vs EM σ Qe W := by
  refine ⟨fun i m H => i ≤ xs.length ∧ m = xs.length - i ∧ Z i H, ⟨_, Nat.zero_le _, rfl, z0⟩, ?_⟩
  rintro i m H ⟨le, rfl, z⟩
  by_cases e : i = xs.length
  · subst e
    exact .inl ⟨walk_enum.stops H (keep _ H le z), done H z⟩
  · have lt : i < xs.length := by omega
    refine .inr ⟨walk_enum.goes i H lt (keep i H le z), Z (i + 1), fun H' z' => ⟨xs.length - (i + 1), by omega, by omega, rfl, z'⟩, ?_⟩
    intro v H' y
    obtain ⟨T, u, x, rfl, hT, rfl, hu, hx⟩ := walk_enum.yields i H v H' lt (keep i H le z) y
    obtain rfl := Option.some.inj hu
    exact step i x H T hx z hT
/-- a dict that an expression gives, kept as it is from then on -/
theorem pe_frz {X : Cx} {e : Expr} {t : TE} (h : PE X e t) : PE X e (fun σ H Q => t σ H fun x H1 => ∃ (d : Addr) (kvs : List (List L2.Key × V)), x = .ref d ∧ H1 d = some (.dT kvs) ∧ ∀ od, Q x (upd H1 d (.frz od (.dT kvs)))) := by
  refine ⟨fun pins s σ H Q I hw => ?_⟩
  refine thn (h.run pins s σ H _ I hw) fun v s1 ⟨x, H1, I1, r, d, kvs, ex, hd, q⟩ => ?_
  obtain ⟨od, I2⟩ := I1.lock hd trivial
  exact ⟨x, _, I2, r, q od⟩
/-! ### lists of True, False and None -/
def nv : Option Bool → V
  | none => .non
  | some b => .bl b
def nd : Option Bool → PyData
  | none => .none
  | some b => .bool b
theorem dpAll_nv {K : PySem.W.Frag} {H : Hp} : ∀ os : List (Option Bool), DpAll K H (os.map nv) (os.map nd)
  | [] => .nil
  | none :: os => .cons .non (dpAll_nv os)
  | some b :: os => .cons (.bl b) (dpAll_nv os)
theorem eqv_nd (a b : Option Bool) : PyData.eqv (nd a) (nd b) = decide (a = b) := by
  cases a <;> cases b <;> simp [nd, PyData.eqv]
  rename_i x y
  cases x <;> cases y <;> rfl
theorem count_nd (o : Option Bool) : ∀ os : List (Option Bool), (os.map nd).countP (fun y => PyData.eqv y (nd o)) = os.count o
  | [] => rfl
  | x :: os => by
    rw [List.map_cons, List.countP_cons, List.count_cons, count_nd o os, eqv_nd]
    by_cases e : x = o
    · simp [e]
    · simp [e]
theorem plainAll_nd : ∀ os : List (Option Bool), PyData.plainAll (os.map nd) = true
  | [] => by simp [PyData.plainAll]
  | x :: os => by
    rw [List.map_cons]
    cases x <;> simp [PyData.plainAll, PyData.plain, nd, plainAll_nd os]
theorem depAll_nd : ∀ os : List (Option Bool), PyData.depthAll (os.map nd) = 0
  | [] => by simp [PyData.depthAll]
  | x :: os => by
    rw [List.map_cons]
    cases x <;> simp [PyData.depthAll, PyData.depth, nd, depAll_nd os]
theorem mt_countO {X : Cx} (hu : X.A.units + 65 < cLine) : MtR X "list.count" (fun x xs H Q => ∃ (a : Addr) (o : Option Bool) (os : List (Option Bool)), x = .ref a ∧ xs = [nv o] ∧ SqL X.K H a (os.map nv) ∧ Q (.int (os.count o : Nat)) H) := by
  intro pins s σ H x xs v us Q I rx rxs h
  obtain ⟨a, o, os, rfl, rfl, hl, q⟩ := h
  cases rx
  obtain ⟨u, rfl, ru⟩ := rxs.one
  have dpo : Dp X.K H (nv o) (nd o) := by
    cases o with
    | none => exact .non
    | some b => exact .bl b
  obtain ⟨as, r1⟩ := Dp.reads I (nd o) (nv o) u dpo ru
  obtain ⟨its, rv, pl, hz⟩ := I.list hl
  obtain ⟨bs, hr⟩ := Dp.readsAll I _ _ its (dpAll_nv os) rv
  refine SeqAt.count_list_data pl.isList hr r1 (plainAll_nd os) (by cases o <;> simp [nd, PyData.plain]) (by rw [depAll_nd]; omega) ?_
  rw [count_nd]
  exact ⟨.int (os.count o : Nat), H, I.tok _, ⟨_, rfl⟩, q⟩
end Vx
/-! sorted(d.items()), the keys texts, the values ints -/
namespace Vx
open PySem PySem.Spec PyProof.Rows L2 LiI
/-- what such a pair reads as -/
def itD (p : L2.Key × V) : PyData :=
  match kV p.1, p.2 with
  | .str s, .int n => .tuple [.str s, .int n]
  | _, _ => .none
theorem each_refs : ∀ {as : List Addr} {kvs : List (L2.Key × V)}, as.length = kvs.length → W.EachIs (fun v (b : Addr × L2.Key × V) => v = Value.ref b.1) (as.map Value.ref) (as.zip kvs)
  | [], [], _ => .nil
  | a :: as, p :: kvs, h => .cons rfl (each_refs (by simpa using h))
theorem each_reads {h : Heap} : ∀ {as : List Addr} {kvs : List (L2.Key × V)}, as.length = kvs.length → (∀ a p, (a, p) ∈ as.zip kvs → ∃ xs, Reads h (.ref a) (itD p) xs) → W.EachIs (fun v (b : Addr × L2.Key × V) => ∃ xs, Reads h v (itD b.2) xs) (as.map Value.ref) (as.zip kvs)
  | [], [], _, _ => .nil
  | a :: as, p :: kvs, h, g => .cons (g a p List.mem_cons_self) (each_reads (by simpa using h) fun b q m => g b q (List.mem_cons_of_mem _ m))
theorem each_vals : ∀ {us : List Value} {bs : List (Addr × L2.Key × V)}, W.EachIs (fun v (b : Addr × L2.Key × V) => v = Value.ref b.1) us bs → Vals (bs.map fun b => V.ref b.1) us
  | [], [], .nil => .nil
  | _ :: _, _ :: _, .cons r rs => .cons r (each_vals rs)
theorem paired_zip {F : Addr → L2.Key × V → Prop} : ∀ {as : List Addr} {kvs : List (L2.Key × V)}, Paired F as kvs → ∀ b ∈ as.zip kvs, F b.1 b.2
  | _, _, .nil, b, m => by cases m
  | _, _, .cons h t, b, m => by
    rcases List.mem_cons.mp m with m | m
    · rw [m]
      exact h
    · exact paired_zip t b m
theorem itD_of {p : L2.Key × V} (h : ∃ s n, kV p.1 = .str s ∧ p.2 = .int n) : ∃ s n, kV p.1 = .str s ∧ p.2 = .int n ∧ itD p = .tuple [.str s, .int n] := by
  obtain ⟨s, n, e1, e2⟩ := h
  refine ⟨s, n, e1, e2, ?_⟩
  unfold itD
  rw [e1, e2]
section
variable {X : Cx}
/-- the pairs laid, each at its address -/
theorem pairs_laid {pins : List (Addr × Obj)} {σ : L2.St} {H : Hp} {s : Shared} {h' : Heap} {tk : Nat} {kvs : List (L2.Key × V)} {vs : List (L2.Key × Value)} {as : List Addr} (I : L2.Inv X pins σ H s) (kv : KV kvs vs)
    (hk : ∀ b o, s.heap.get? b = some o → h'.get? b = some o) (hl : as.length = vs.length) (hG : PySem.W.KdxG (mixKind X.prog X.w) vs s.heap.objs.size h' as) :
    Same H (putT H as kvs) ∧ (∀ t ∈ as, H t = none) ∧ Paired (fun (t : Addr) (q : L2.Key × V) => putT H as kvs t = some (.tup [kV q.1, q.2])) as kvs ∧ L2.Inv X pins σ (putT H as kvs) { s with heap := h', toks := tk } := by
  have lk : kvs.length = vs.length := Paired.length kv
  have nd : as.Nodup := List.Pairwise.imp (fun {a b} (h : a < b) => Nat.ne_of_lt h) hG.rise
  have new : ∀ t ∈ as, H t = none := fun t ht => I.hok.fresh (Nat.le_of_lt (hG.above t ht))
  have atP := putT_at as kvs H (by omega) nd
  have low : ∀ b o, s.heap.get? b = some o → b ∉ as := fun b o e z => absurd (Heap.lt_size e) (Nat.not_lt.mpr (Nat.le_of_lt (hG.above b z)))
  have kp : Same H (putT H as kvs) := fun b u e => by
    rw [putT_off as kvs _ fun z => by rw [new b z] at e; cases e]
    exact e
  refine ⟨kp, new, atP, ?_⟩
  refine I.call' (ch := []) rfl ⟨fun b o q _ _ _ => hk b o q, fun b o q _ _ _ => ⟨o.slots, hk b o q⟩, fun b o q n _ => ?_, fun b o q _ => ⟨o, hk b o q⟩, fun b xs q => kp b _ q, fun b o u q => kp b _ q, fun b ps q => ⟨#[], by rw [kp b _ q]; simp⟩⟩ (fun b u q => ?_) I.bare fun b z => by simp at z
  · rw [putT_off as kvs _ (low b o q)]
    exact n
  · by_cases hb : b ∈ as
    · obtain ⟨j, pk, e1, e2, e3⟩ := paired_ix atP hb
      rw [e3] at q
      cases q
      obtain ⟨key, k, x, f1, f2, f3⟩ := hG.pairs j b e1
      obtain ⟨qv, g1, g2, g3⟩ := LiI.paired_get kv e2
      rw [f1] at g1
      cases g1
      have rk : RelV (kV pk.1) key := by
        rw [g2]
        exact relV_key (show keyIs k key = true from f2)
      exact ⟨by show 2 ≤ sizeLine; decide, [key, x], .cons rk (.cons g3 .nil), ⟨_, f3, rfl, _, rfl⟩⟩
    · rw [putT_off as kvs _ hb] at q
      exact (I.hok b u q).stay (fun d v _ y => hk d v y) (fun d y => kp d _ y) fun d xs y => kp d _ y
def rItemsS : V → Hp → VK → Prop := fun x H Q => ∃ (d : Addr) (kvs : List (L2.Key × V)), x = .ref d ∧ H d = some (.dK kvs) ∧ (∀ p ∈ kvs, ∃ s n, kV p.1 = .str s ∧ p.2 = .int n) ∧
  ∀ (H' : Hp) (B : Addr) (bs : List (Addr × L2.Key × V)), Same H H' → H B = none → H' B = some (.lst (bs.map fun b => V.ref b.1)) → (∀ b ∈ bs, H' b.1 = some (.tup [kV b.2.1, b.2.2])) → bs.map (·.2) = kvs.mergeSort (W.dataLe false itD) → Q (.ref B) H'
def tSortedItems (te : TE) : TE := fun σ H Q => te σ H fun x H1 => rItemsS x H1 Q
theorem pe_sortedItems {e : Expr} {te : TE} {p apos cpos pos : Pos} (hc : X.calm = true) (hu : X.A.units + 8 < cLine) (he : PE X e te) (hg : Gl X "sorted") (hm : X.mg "sorted" = none) (hv : bootBuiltins "sorted" = some (.builtin "sorted")) (hbase : attributeBase e "items" X.env (eval e X.env) = eval e X.env := by rfl) (hline : (apos.endLine == cpos.line) = true := by rfl)
    (hs : starEach [.Call (.Attribute e "items" apos) [] [] cpos] X.env = (false, eval (.Call (.Attribute e "items" apos) [] [] cpos) X.env) :: starEach [] X.env := by rfl) :
    PE X (.Call (.Name "sorted" p) [.Call (.Attribute e "items" apos) [] [] cpos] [] pos) (tSortedItems te) := by
  refine ⟨fun pins s σ H Q I hq => ?_⟩
  refine wpAny_Call_Name_kw (ld_blt I hg hm hv ?_)
  refine PyProof.Rows.callWith_builtin1 ?_ hs rfl
  rw [hs]
  show wpAny _ _ (spliced ((false, eval (.Call (.Attribute e "items" apos) [] [] cpos) X.env) :: backTo pos (starEach [] X.env))) _ _ s
  refine Calls.spliced_cons ?_
  refine wpAny_Call_method (T := "dict") (id := "dict.items") hbase rfl hline F.plainAttrs_dict F.slot_dict_items F.type_dict_items (thn (he.run pins s σ H _ I hq) fun u s1 ⟨x, H1, I1, rx, d, kvs, ex, hd, hkv, q⟩ => ?_)
  subst ex
  obtain rfl : u = Value.ref d := rx
  obtain ⟨hz, hs0, vs, kv, hdo⟩ := I1.hok d _ hd
  obtain ⟨ep, hat⟩ := hdo.dictAt
  have lk : kvs.length = vs.length := Paired.length kv
  have I2 : L2.Inv X pins σ H1 { s1 with heap := s1.heap.push { cls := .type "dict_items", data := .fields #[.ref d] } } := I1.kept (t' := s1.toks) fun b ob q => Heap.get?_push_of_some _ q
  refine ⟨hdo.typeIs, hdo.mapOf.noDict, ?_⟩
  show wpAny _ _ (callWith cpos (.builtin "dict.items") [.ref d] [] []) _ X.xe s1
  refine method_meetsIn F.slot_dict_items F.entry_dict_items rfl (PySem.evalArgs_none ⟨rfl, hdo.typeIs, F.args_dict_items_1 _, _, meets_dict_items (mixKind X.prog X.w) d hs0, ⟨vs, hdo⟩, ?_⟩)
  refine Calls.spliced_nil ?_
  refine Calls.call_function_entry kind_sorted plain_sorted entry_sorted (args_sorted1 _) ?_
  unfold Builtin.«sorted»
  refine wpAny_bind (m := checkCount "sorted" 1 1 _) (wpAny_pure ?_)
  refine wpAny_bind (W.kdx_collect (A := X.A.in1) (knd := mixKind X.prog X.w) (kvs := vs) (ep := ep) (I1.ok.hd hc) ⟨_, Heap.get?_push_size _ rfl, rfl, rfl⟩ (hat.push _) (by omega) fun h' tk as hk hl hG => ?_)
  obtain ⟨kp, new, atP, I3⟩ := pairs_laid (tk := tk) I2 kv hk hl hG
  refine wpAny_bind (wpAny_newList ?_ (by rw [List.length_map, hl]; omega))
  refine wpAny_bind (wpAny_holding ?_)
  have lak : as.length = kvs.length := by omega
  obtain ⟨hh, ehh⟩ : ∃ hh, hh = h'.push { cls := .type "list", data := .seq (as.map Value.ref).toArray } := ⟨_, rfl⟩
  obtain ⟨hx, ehx⟩ : ∃ hx, hx = W.sortingHeap hh h'.objs.size (as.map Value.ref) := ⟨_, rfl⟩
  have old : ∀ b o, h'.get? b = some o → hx.get? b = some o := fun b o e => by
    rw [ehx]
    refine W.sortingHeap_old (Nat.ne_of_lt (Heap.lt_size e)) ?_
    rw [ehh]
    exact Heap.get?_push_of_some _ e
  have ho : hh.get? h'.objs.size = some (seqObj "list" (as.map Value.ref).toArray 0) := by
    rw [ehh]
    exact Heap.get?_push_size _ rfl
  have zkv : ∀ b ∈ as.zip kvs, ∃ s n, kV b.2.1 = .str s ∧ b.2.2 = .int n ∧ itD b.2 = .tuple [.str s, .int n] := fun b m => itD_of (hkv _ (List.of_mem_zip m).2)
  have er : W.EachIs (fun v (b : Addr × L2.Key × V) => ∃ xs, Reads hx v (itD b.2) xs) (as.map Value.ref) (as.zip kvs) := each_reads lak fun a p m => by
    obtain ⟨z, n, e1, e2, e3⟩ := zkv _ m
    have g := paired_zip atP _ m
    rw [e1, e2] at g
    obtain ⟨xs, r⟩ := Dp.reads I3 (.tuple [.str z, .int n]) (.ref a) (.ref a) (.tup (tup_of g) (.cons (.str z) (.cons (.int n) .nil))) rfl
    exact ⟨xs, by rw [e3]; exact PyProof.Rows.Reads.keeps old r⟩
  have e := each_refs lak
  have hal : W.AllAlike ((as.zip kvs).map fun b => itD b.2) := fun d m d' m' => by
    obtain ⟨b, mb, rfl⟩ := List.mem_map.mp m
    obtain ⟨b', mb', rfl⟩ := List.mem_map.mp m'
    obtain ⟨_, _, _, _, e3⟩ := zkv b mb
    obtain ⟨_, _, _, _, e3'⟩ := zkv b' mb'
    rw [e3, e3']
    rfl
  have hso : W.Sortable ((as.zip kvs).map fun b => itD b.2) := .inl fun d m => by
    obtain ⟨b, mb, rfl⟩ := List.mem_map.mp m
    obtain ⟨_, _, _, _, e3⟩ := zkv b mb
    exact ⟨_, _, e3⟩
  have lz : (as.zip kvs).length = kvs.length := by rw [List.length_zip, lak, Nat.min_self]
  have hdep : ∀ b ∈ as.zip kvs, X.A.in1.units + 1 + (itD b.2).depth < cLine := fun b m => by
    obtain ⟨_, _, _, _, e3⟩ := zkv b m
    rw [e3]
    show X.A.units + 1 + 1 + 1 < cLine
    omega
  rw [← ehh]
  refine wpAny_call_entry slot_list_sort ⟨_, ho, rfl⟩ entry_list_sort (W.list_sort_vals (κ := W.dataKind hx ((as.zip kvs).map fun b => itD b.2)) ho ?_ ?_ ⟨.none, rfl, ?_⟩) (args_list_sort _)
  · show W.SortsAt _ _ _ { s1 with heap := W.sortingHeap hh h'.objs.size (as.map Value.ref), toks := tk } _ _
    rw [← ehx]
    exact W.SortsAt.data (W.each_map (R := fun v d => ∃ xs, Reads hx v d xs) (fun b : Addr × L2.Key × V => itD b.2) er) hal hso (W.bound_map hdep)
  · rw [List.length_map, lak]
    exact hz
  · have eo := W.sortVals_data false e er hal
    have lo := W.sortVals_length (κ := W.dataKind hx ((as.zip kvs).map fun b => itD b.2)) false (rfl : (as.map Value.ref).length = (as.map Value.ref).length)
    obtain ⟨out, eout⟩ : ∃ out, out = W.sortVals (W.dataKind hx ((as.zip kvs).map fun b => itD b.2)) false (as.map Value.ref) (as.map Value.ref) := ⟨_, rfl⟩
    rw [← eout] at eo lo ⊢
    obtain ⟨bs, ebs⟩ : ∃ bs, bs = (as.zip kvs).mergeSort (W.dataLe false fun b : Addr × L2.Key × V => itD b.2) := ⟨_, rfl⟩
    rw [← ebs] at eo
    obtain ⟨ep2, hat2⟩ := sortedHeap_at (vs := as.map Value.ref) (out := out.toArray) ho
    have nB : putT H1 as kvs h'.objs.size = none := I3.hok.fresh (Nat.le_refl _)
    have lbs : bs.length = kvs.length := by rw [ebs, List.length_mergeSort, lz]
    have keep : ∀ b o, h'.get? b = some o → (sortedHeap hh h'.objs.size (as.map Value.ref) out.toArray).get? b = some o := fun b o e => by
      have lt := Heap.lt_size e
      rw [sortedHeap_old (Nat.ne_of_lt lt) (by rw [ehh, Heap.size_push]; exact Nat.lt_succ_of_lt lt), ehh]
      exact Heap.get?_push_of_some _ e
    have vo := each_vals eo
    have J := I3.laid (t' := tk) (h' := sortedHeap hh h'.objs.size (as.map Value.ref) out.toArray) (a := h'.objs.size) (o := .lst (bs.map fun b => V.ref b.1)) keep (Nat.le_refl _) ⟨by rw [List.length_map, lbs]; exact hz, out, ep2, vo, hat2⟩
    have mem : ∀ b ∈ bs, b ∈ as.zip kvs := fun b m => by
      rw [ebs] at m
      exact (List.mergeSort_perm _ _).mem_iff.mp m
    refine wpAny_pure ⟨_, rfl, .ref h'.objs.size, upd (putT H1 as kvs) h'.objs.size (.lst (bs.map fun b => V.ref b.1)), J, rfl, q _ _ bs (kp.trans (newS nB)) (Same.free kp nB) upd_same (fun b m => ?_) ?_⟩
    · have g := paired_zip atP b (mem b m)
      rw [upd_ne fun z => ?_]
      · exact g
      · rw [z, nB] at g
        cases g
    · rw [ebs]
      have em := List.map_mergeSort (r := W.dataLe false fun b : Addr × L2.Key × V => itD b.2) (s := W.dataLe false itD) (f := fun b : Addr × L2.Key × V => b.2) (l := as.zip kvs) (fun a _ b _ => rfl)
      rw [em]
      congr 1
      show (as.zip kvs).map Prod.snd = kvs
      rw [List.map_snd_zip]
      omega
/-- a < b, both lists of cells -/
theorem op_ltLP (hu : X.A.units + 65 < cLine) : OpR X (compareOp .Lt) (fun x y H Q => ∃ (a b : Addr) (ps qs : List Pr), x = .ref a ∧ y = .ref b ∧ Cells H a ps ∧ Cells H b qs ∧ Q (.bl (ltL ps qs)) H) := by
  intro pins s σ H x y v u Q I rx ry h
  obtain ⟨a, b, ps, qs, rfl, rfl, ha, hb, q⟩ := h
  obtain ⟨as, r1⟩ := Dp.reads I (lp ps) (.ref a) v (dp_cells ha) rx
  obtain ⟨bs, r2⟩ := Dp.reads I (lp qs) (.ref b) u (dp_cells hb) ry
  have d1 := depAll_pd ps
  refine W.lt_data r1 r2 (alike_lp ps qs) (by intro z; cases z) ?_ ⟨.bl (ltL ps qs), H, I, rfl, q⟩
  show X.A.units + min (lp ps).depth (lp qs).depth < cLine
  have : (lp ps).depth ≤ 2 := by
    show PyData.depthAll (ps.map pd) + 1 ≤ 2
    omega
  have := Nat.min_le_left (lp ps).depth (lp qs).depth
  omega
end
end Vx
/-! where a token must be out before: list comprehensions, names set, texts replaced -/
namespace Vx
open PySem PySem.Spec PyProof.Rows L2
/-- what comes behind, a token being out -/
theorem thT {α : Type} {t : Sem α} {Q Q' : α → Shared → Prop} {M : Model} {A : Around} {E : Value → Shared → Prop} {s : Shared} (h0 : 1 ≤ s.toks) (h : wpAny M A t Q E s) (hQ : ∀ a s', 1 ≤ s'.toks → Q a s' → Q' a s') : wpAny M A t Q' E s :=
  wpAny_mono (PySem.wpAny_toks_of h0 h) (fun a s' q => hQ a s' q.1 q.2) fun _ _ q => q.2
theorem thTF {α : Type} {t : Sem α} {Q Q' : α → Shared → Prop} {M : Model} {A : Around} {E : Value → Shared → Prop} {s : Shared} (h0 : 1 ≤ s.toks) (h : wpAny M A t Q (fun _ _ => False) s) (hQ : ∀ a s', 1 ≤ s'.toks → Q a s' → Q' a s') : wpAny M A t Q' E s :=
  wpAny_mono (PySem.wpAny_toks_of h0 h) (fun a s' q => hQ a s' q.1 q.2) fun _ _ q => q.2.elim
section
variable {X : Cx}
/-- a list comprehension of one loop whose element wants a token out; what becomes of the list is told behind -/
theorem lcT_core {pins : List (Addr × Obj)} {s : Shared} {σ : L2.St} {H : Hp} {Q : VK} {elt tg iter : Expr} {ifs : List Expr} {scope : Scope} {own : List (Str × Nat)} {pos pos' : Pos} {wi : TI} {g : TG} {tt : TT} {te : TE} {use : Option (Value → Sem Unit)} {Qf : Value → Shared → Prop}
    (h0 : 1 ≤ s.toks) (hc : X.calm = true) (hN : X.N.Nodup) (I : L2.Inv X pins σ H s) (hi : PI X tg iter wi) (ok : BlkOk X.N X.env.scope scope own)
    (hg : ∀ (s : Shared) (H : Hp) (C : Addr) (cl : List (Str × Addr)) (fp : List Addr), PG (X.blk s H scope (compEnvC scope cl C X.env) fp) tg g) (ht : ∀ (s : Shared) (H : Hp) (C : Addr) (cl : List (Str × Addr)) (fp : List Addr), PTs (X.blk s H scope (compEnvC scope cl C X.env) fp) ifs tt)
    (he : ∀ (s : Shared) (H : Hp) (C : Addr) (cl : List (Str × Addr)) (fp : List Addr), PET (X.blk s H scope (compEnvC scope cl C X.env) fp) elt te) (hs : ∀ x, foldedSetIterable iter X.env x = pure x)
    (h : tLc wi g tt te (own.map (·.2)) σ H Q)
    (hRR : ∀ D C s' m H', 1 ≤ s'.toks → L2.Inv X pins σ H' s' → Q (.ref D) H' → s'.heap.Ns C m → FpOk X pins H' C → compPost (model X.prog X.w) X.A X.xe use Qf (.ref D) C (.ok .next) s') :
    wpAny (model X.prog X.w) X.A (comprehension (.ListComp elt [⟨tg, iter, ifs, 0⟩] scope pos) scope X.env pos' (newList []) false (eval iter X.env) use) Qf X.xe s := by
  have cells : ∀ y ∈ scope.names, y.2 = .free → ∃ c, X.env.cells.lookup y.1 = some c := fun y hy e => (ok.free y hy e).elim (fun k => I.ok.has _ (.inl k)) fun k => I.ok.has _ (.inr k)
  refine wpAny_comprehension_free (use := use) rfl hs (closure_ok cells) ok.kind (fun y hy e => by rw [ok.uniq y hy, e]) (thT h0 (hi.run pins s σ H _ I h) fun xv s1 k1 hx => thT k1 hx fun itv s2 k2 h2 => ?_)
  obtain ⟨it, fp, tn, J, H2, rfl, I2, T, st2, f2, q⟩ := h2
  refine wpAny_newObj_type (newEnv_comp ?_) (Nat.zero_le _)
  obtain ⟨D, hD⟩ : ∃ D, D = s2.heap.objs.size := ⟨_, rfl⟩
  rw [← hD]
  have nD : H2 D = none := I2.hok.fresh (Nat.le_of_eq hD.symm)
  obtain ⟨W, ⟨m0, w0⟩, turn⟩ := q D nD
  obtain ⟨s3, e3⟩ : ∃ s3 : Shared, s3 = { s2 with heap := s2.heap.push { cls := .type "list", data := .seq ([] : List Value).toArray } } := ⟨_, rfl⟩
  have k3 : 1 ≤ s3.toks := by rw [e3]; exact k2
  have p3 : s3.heap = s2.heap.push { cls := .type "list", data := .seq ([] : List Value).toArray } := by rw [e3]
  have I3 : Inv X pins σ (upd H2 D (.lst [])) s3 := by
    rw [e3]
    refine I2.laid (t' := s2.toks) (fun b o e => Heap.get?_push_of_some _ e) (Nat.le_of_eq hD.symm) ⟨Nat.zero_le _, [], 0, .nil, ?_⟩
    rw [hD]
    exact Heap.get?_push_size _ rfl
  have f3 : ∀ b ∈ fp, FpOk X pins (upd H2 D (.lst [])) b ∧ b < s3.heap.objs.size := fun b hb => by
    obtain ⟨o, e, _⟩ := T.obj _ _ st2 b hb
    have lt := Heap.lt_size e
    refine ⟨⟨?_, (f2 b hb).2⟩, by rw [p3, Heap.size_push]; exact Nat.lt_succ_of_lt lt⟩
    rw [upd_ne (by rw [hD]; exact Nat.ne_of_lt lt)]
    exact (f2 b hb).1
  have st3 : tn 0 s3.heap := T.keep _ _ _ st2 fun b _ o e => by rw [p3]; exact Heap.get?_push_of_some _ e
  rw [← e3]
  obtain ⟨H3, e4⟩ : ∃ H3, H3 = upd H2 D (.lst []) := ⟨_, rfl⟩
  rw [← e4] at I3 f3 w0
  have I4 := block_start I3 ok hN f3
  obtain ⟨C, eC⟩ : ∃ C, C = s3.heap.objs.size := ⟨_, rfl⟩
  obtain ⟨ce, ece⟩ : ∃ ce, ce = compEnvC scope (cellsFrom (s3.heap.objs.size + 1) scope.names (cloFrom X.env.cells scope.names [])) s3.heap.objs.size X.env := ⟨_, rfl⟩
  have pg := hg s3 H3 s3.heap.objs.size (cellsFrom (s3.heap.objs.size + 1) scope.names (cloFrom X.env.cells scope.names [])) fp
  have pt := ht s3 H3 s3.heap.objs.size (cellsFrom (s3.heap.objs.size + 1) scope.names (cloFrom X.env.cells scope.names [])) fp
  have pe := he s3 H3 s3.heap.objs.size (cellsFrom (s3.heap.objs.size + 1) scope.names (cloFrom X.env.cells scope.names [])) fp
  show codeAny _ _ (.compStart (.ListComp elt [⟨tg, iter, ifs, 0⟩] scope pos) 0 (.ref it) (.ref D) (compEnvC scope (cellsFrom (s3.heap.objs.size + 1) scope.names (cloFrom X.env.cells scope.names [])) s3.heap.objs.size X.env)) (compPost (model X.prog X.w) X.A X.xe use Qf (.ref D) s3.heap.objs.size) { s3 with heap := pushCells (s3.heap.push { cls := .type "dict", data := .dict #[] }) scope.names }
  rw [← ece] at I4 pg pt pe ⊢
  have cC : ce.locals = C := by rw [ece, eC]; rfl
  rw [← eC]
  obtain ⟨s4, e5⟩ : ∃ s4 : Shared, s4 = { s3 with heap := pushCells (s3.heap.push { cls := .type "dict", data := .dict #[] }) scope.names } := ⟨_, rfl⟩
  have k4 : 1 ≤ s4.toks := by rw [e5]; exact k3
  have st4 : tn 0 s4.heap := T.keep _ _ _ st3 fun b _ o e => by rw [e5]; exact pushCells_keeps _ _ _ _ (Heap.get?_push_of_some _ e)
  rw [← e5] at I4 ⊢
  have still : ∀ {σ' : L2.St} {H' : Hp} {s' : Shared}, L2.Inv (X.blk s3 H3 scope ce fp) [] σ' H' s' → (∀ b ∈ fp, H' b = none) → ∀ b ∈ fp, FpOk (X.blk s3 H3 scope ce fp) [] H' b := fun I' hn b hb =>
    ⟨hn b hb, (I'.ok.exf b hb).1, I'.ok.exfs b hb, .inl hb, fun x c e => (I'.ok.exf b hb).2 x c e, fun p hp => absurd (show p ∈ ([] : List (Addr × Obj)) ++ [] from hp) (by simp)⟩
  have loop : codeAny (model X.prog X.w) X.A (.compLoop (.ListComp elt [⟨tg, iter, ifs, 0⟩] scope pos) 0 (.ref it) (.ref D) ce) (compPost (model X.prog X.w) X.A X.xe use Qf (.ref D) C) s4 := by
    refine compLoop_any (fun n s' => 1 ≤ s'.toks ∧ ∃ i H', L2.Inv (X.blk s3 H3 scope ce fp) [] (wipe σ (own.map (·.2))) H' s' ∧ tn i s'.heap ∧ (∀ b ∈ fp, H' b = none) ∧ W i n H') ?_ m0 ⟨k4, 0, H3, I4, st4, fun b hb => (f3 b hb).1.1, w0⟩
    rintro n s5 ⟨k5, i, H5, I5, st5, n5, w5⟩
    rcases turn i n H5 w5 with ⟨stop, qq⟩ | ⟨go, Nx, hNx, step⟩
    · refine thTF k5 (T.done (X.blk s3 H3 scope ce fp) rfl rfl rfl hc i [] s5 _ H5 (fun _ _ => False) I5 (still I5 n5) st5 stop) fun r s6 k6 ⟨hr, I6⟩ => ?_
      subst hr
      have I7 : L2.Inv X pins σ H5 s6 := I3.call' (ch := fp) I6.os I6.base I6.hok I6.bare fun b hb => ⟨(f3 b hb).1.2.2.2.1, (f3 b hb).1.2.1, (f3 b hb).1.2.2.2.2.1, (f3 b hb).1.2.2.2.2.2⟩
      have nC : H5 C = none := by
        have z : H5 ce.locals = none := I6.free
        rw [cC] at z
        exact z
      obtain ⟨m, hn, _⟩ := I6.loc
      have hn : s6.heap.Ns ce.locals m := hn
      rw [cC] at hn
      exact hRR D C s6 m H5 k6 I7 qq hn (I3.fpOk (Nat.le_of_eq eC.symm) nC)
    · refine thTF k5 (T.item (X.blk s3 H3 scope ce fp) rfl rfl rfl hc i [] s5 _ H5 (fun _ _ => False) I5 (still I5 n5) st5 go) fun r s6 k6 ⟨u, hr, h6⟩ => ?_
      subst hr
      refine thTF k6 h6 fun _ s7 k7 ⟨x, H7, I7, r7, y7, st7, n7⟩ => ?_
      have I7' := I7.pinned (still I7 n7) (T.obj _ _ st7)
      refine thTF k7 (pg.run _ s7 _ H7 x u _ I7' r7 (step x H7 y7)) fun _ s8 k8 ⟨σ8, H8, I8, hw8, q8⟩ => ?_
      refine thTF k8 (pt.run _ s8 σ8 H8 _ I8 q8) fun b s9 k9 ⟨H9, I9, q9⟩ => ?_
      have fin : ∀ {s' : Shared} {H' : Hp}, 1 ≤ s'.toks → L2.Inv (X.blk s3 H3 scope ce fp) ([] ++ pinsAt fp s7.heap) σ8 H' s' → Nx H' → ∃ m, m < n ∧ 1 ≤ s'.toks ∧ ∃ i H', L2.Inv (X.blk s3 H3 scope ce fp) [] (wipe σ (own.map (·.2))) H' s' ∧ tn i s'.heap ∧ (∀ b ∈ fp, H' b = none) ∧ W i m H' := fun {s' H'} k' I' nx => by
        obtain ⟨m', hm, w'⟩ := hNx H' nx
        have pinned : ∀ b ∈ fp, ∀ o, s7.heap.get? b = some o → s'.heap.get? b = some o ∧ H' b = none := fun b hb o e =>
          have z := I'.pin (b, o) (List.mem_append_right _ (List.mem_append_right _ (mem_pinsAt hb e)))
          ⟨z.1, z.2.1⟩
        refine ⟨m', hm, k', i + 1, H', (I'.unpinned (pins := [])).weak (by rw [← hw8, wipe_length]) (fun j v e => ?_), T.keep _ _ _ st7 fun b hb o e => (pinned b hb o e).1, fun b hb => ?_, w'⟩
        · rw [← hw8] at e
          exact (wipe_some e).1
        · obtain ⟨o, e, _⟩ := T.obj _ _ st7 b hb
          exact (pinned b hb o e).2
      cases b with
      | false => exact fin k9 I9 q9
      | true =>
        refine thTF k9 (pe _ s9 σ8 H9 _ k9 I9 q9) fun z s10 k10 ⟨yv, H10, I10, r10, acc, hD10, hz10, nx⟩ => ?_
        exact thT k10 (app_ok (X := X.blk s3 H3 scope ce fp) (Q := fun _ s' => L2.Inv (X.blk s3 H3 scope ce fp) ([] ++ pinsAt fp s7.heap) σ8 (upd H10 D (.lst (acc ++ [yv]))) s') I10 hD10 hz10 r10 fun s11 I11 => I11) fun _ s11 k11 I11 => fin k11 I11 nx
  exact codeAny_compStart_list loop (T.self X.A 0 _ _ _ st4 loop)
/-- name = [..] on one line, its element wanting a token -/
theorem pst_setLc {i : Nat} {y : Str} {py : Pos} {elt tg iter : Expr} {ifs : List Expr} {scope : Scope} {own : List (Str × Nat)} {pos spos : Pos} {wi : TI} {g : TG} {tt : TT} {te : TE} (hc : X.calm = true) (hN : X.N.Nodup) (hy : X.N[i]? = some y) (hyl : X.env.scope.names.lookup y = some .local)
    (hsw : swapsWith (.ListComp elt [⟨tg, iter, ifs, 0⟩] scope pos) (some (.Name y py)) spos.line X.env = pure true) (hi : PI X tg iter wi) (ok : BlkOk X.N X.env.scope scope own)
    (hg : ∀ (s : Shared) (H : Hp) (C : Addr) (cl : List (Str × Addr)) (fp : List Addr), PG (X.blk s H scope (compEnvC scope cl C X.env) fp) tg g) (ht : ∀ (s : Shared) (H : Hp) (C : Addr) (cl : List (Str × Addr)) (fp : List Addr), PTs (X.blk s H scope (compEnvC scope cl C X.env) fp) ifs tt)
    (he : ∀ (s : Shared) (H : Hp) (C : Addr) (cl : List (Str × Addr)) (fp : List Addr), PET (X.blk s H scope (compEnvC scope cl C X.env) fp) elt te) (hs : ∀ x, foldedSetIterable iter X.env x = pure x := by intro _; rfl) :
    PST X (.Assign [.Name y py] (.ListComp elt [⟨tg, iter, ifs, 0⟩] scope pos) spos) (tAsg (tLc wi g tt te (own.map (·.2))) (gName i)) := by
  intro pins s σ H D h0 I h
  rw [exec_Assign_Name_used _ _ _ _ hsw]
  refine wpAny_bind (wpAny_standAt (wpAny_bind ?_))
  have h : tLc wi g tt te (own.map (·.2)) σ H (fun x H1 => gName i x σ H1 D.nx) := h
  refine wpAny_bind (thn (lcT_core (use := some (assign (.Name y py) X.env)) (Qf := fun _ s' => SP X pins D .next s') h0 hc hN I hi ok hg ht he hs h fun L C s' m H' k' I' q hn f => ?_) fun _ s' hq => wpAny_pure (wpAny_pure hq))
  obtain ⟨f0, f1, f2, f3, f4, f5⟩ := f
  refine wpAny_assign_Name (store_ok2 (v := V.ref L) I' hN hy (.inl hyl) rfl (fun s2 I2 ⟨a, sb, ha⟩ => ?_) (.inr hyl))
  have off : C ≠ a := ha.elim (fun z => z ▸ f1) fun z e => f4 y a z e.symm
  exact ⟨m, hn.sameBut sb off, fun h3 sb3 => ⟨_, H', I2.turned (t' := s2.toks) (fun b o hb e => (sb3.2 b hb).trans e) f0 f1 f3 f4 f5, q⟩⟩
/-- behind such an expression, such a statement, a token is out -/
def PE1 (X : Cx) (e : Expr) (t : TE) : Prop :=
  ∀ (pins : List (Addr × Obj)) (s : Shared) (σ : L2.St) (H : Hp) (Q : VK), L2.Inv X pins σ H s → t σ H Q → wpAny (model X.prog X.w) X.A (eval e X.env) (fun v s' => 1 ≤ s'.toks ∧ EP X pins σ Q v s') X.xe s
def PS1 (X : Cx) (st : Stmt) (t : TS) : Prop :=
  ∀ (pins : List (Addr × Obj)) (s : Shared) (σ : L2.St) (H : Hp) (D : Ends), L2.Inv X pins σ H s → t D σ H → wpAny (model X.prog X.w) X.A (exec st X.env) (fun f s' => 1 ≤ s'.toks ∧ SP X pins D f s') X.xe s
theorem wp1 {α : Type} {t : Sem α} {Q : α → Shared → Prop} {M : Model} {A : Around} {E : Value → Shared → Prop} {s : Shared} (h0 : 1 ≤ s.toks) (h : wpAny M A t Q E s) : wpAny M A t (fun a s' => 1 ≤ s'.toks ∧ Q a s') E s := thT h0 h fun _ _ k q => ⟨k, q⟩
theorem pe1_op {op : Operator} {r : R2} {c : Int} {j : Nat} {cp pos : Pos} {b : Expr} {tb : TE} (ho : OpR X (binaryOp op) r) (hb : PE X b tb) : PE1 X (.BinOp (.Constant (.int c) j cp) op b pos) (tOp r (tC (.int c)) tb) := by
  intro pins s σ H Q I h
  refine wpAny_BinOp (wpAny_Constant_int ?_)
  refine thT (by show 1 ≤ s.toks + 1; omega) (hb.run pins { s with toks := s.toks + 1 } σ H _ (I.tok _) h) fun u s2 k2 ⟨y, H2, I2, r2, q2⟩ => ?_
  exact wp1 k2 (ho pins s2 σ H2 (.int c) y _ u Q I2 ⟨_, rfl⟩ r2 q2)
theorem ps1_set {i : Nat} {x : Str} {e : Expr} {te : TE} {pos pos' : Pos} (hN : X.N.Nodup) (hi : X.N[i]? = some x) (hx : Loc X.env.scope x) (he : PE1 X e te) (hs : swapsWith e (some (.Name x pos')) pos.line X.env = pure false := by rfl) (hf : X.fn x = true ∨ X.env.scope.names.lookup x = some .local := by first | exact .inl rfl | exact .inr rfl | assumption) :
    PS1 X (.Assign [.Name x pos'] e pos) (tAsg te (gName i)) := by
  intro pins s σ H D I h
  refine wpAny_Assign_Name (thn (he pins s σ H _ I h) fun v s1 ⟨k, y, H1, I1, r1, q1⟩ => ?_) hs
  exact thT k (store_ok (Q := fun _ s2 => L2.Inv X pins (σ.set i (some y)) H1 s2) I1 hN hi hx r1 (fun s2 I2 => I2) hf) fun _ s2 k2 I2 => ⟨k2, _, H1, I2, q1⟩
theorem pss_consT {st : Stmt} {rest : List Stmt} {t u : TS} (h1 : PS1 X st t) (h2 : PSsT X rest u) : PSs X (st :: rest) (tSeq t u) := by
  refine ⟨fun pins s σ H D I h => ?_⟩
  refine wpAny_execs_cons (thn (h1 pins s σ H { D with nx := u D } I h) fun f s1 ⟨k, q⟩ => ?_)
  cases f with
  | next =>
    obtain ⟨σ', H', I', q⟩ := q
    exact h2 pins s1 σ' H' D k I' q
  | brk => exact q
  | cont => exact q
  | ret v => exact q
/-- text.replace(y, c), c a sign of a text -/
def tReplS (to : TE) (y : Str) (w : Str) (ti : TE) : TE := fun σ H Q => to σ H fun v H1 => ∃ x, v = .str x ∧ ti σ H1 fun n H2 => ∃ (i : Int) (c : Nat), n = .int i ∧ w.length ≤ sizeLine ∧ atI w.cps.toList i = some c ∧ (y == ⟨#[c]⟩) = false ∧ x.length + (x.length + 1) * 1 ≤ 16777216 ∧ Q (.str (Txt.replace x y ⟨#[c]⟩)) H2
theorem pet_replS {o ix : Expr} {to ti : TE} {y w : Str} {j k : Nat} {c0 c1 sp apos pos : Pos} (ho : PE X o to) (hi : PE X ix ti) (hx : PlainIx ix)
    (hst : starEach [.Constant (.str y) j c0, .Subscript (.Constant (.str w) k c1) ix sp] X.env = [(false, eval (.Constant (.str y) j c0) X.env), (false, eval (.Subscript (.Constant (.str w) k c1) ix sp) X.env)] := by rfl)
    (hbase : attributeBase o "replace" X.env (eval o X.env) = eval o X.env := by rfl) (hline : (apos.endLine == pos.line) = true := by rfl) :
    PET X (.Call (.Attribute o "replace" apos) [.Constant (.str y) j c0, .Subscript (.Constant (.str w) k c1) ix sp] [] pos) (tReplS to y w ti) := by
  intro pins s σ H Q h0 I h
  refine PySem.Call_method2 hbase hst hline (thT h0 (ho.run pins s σ H _ I h) fun v s1 k1 ⟨v', H1, I1, r1, x, e1, q⟩ => ?_)
  subst e1
  obtain ⟨tx, e2⟩ := r1
  subst e2
  refine ⟨"str", _, PySem.F.plainAttrs_str, PySem.F.slot_str_replace, PySem.F.type_str_replace, typeIs_str _ _ _, (fun _ e => nomatch e), Calls.callWith_builtin rfl (Calls.evalArgs_plain (Calls.spliced_cons ?_))⟩
  refine Calls.Constant_str (Calls.spliced_cons (Subscript_ (Calls.Constant_str ?_)))
  have k3 : s1.toks + 2 ≤ ({ s1 with toks := s1.toks + 1 + 1 } : Shared).toks := Nat.le_refl _
  refine wpAny_mono (PySem.wpAny_toks_of k3 (hi.run pins { s1 with toks := s1.toks + 1 + 1 } σ H1 _ (I1.tok _) q)) (fun u s2 z => ?_) fun _ _ z => z.2
  obtain ⟨k2, n, H2, I2, r2, i, c, e3, hz, ha, hy, hb, q⟩ := z
  subst e3
  obtain ⟨ti', e4⟩ := r2
  subst e4
  obtain ⟨jj, h1, h2, h3, h4, h5⟩ := atI_get ha
  have hl : w.cps.toList.length = w.length := by simp [Str.length]
  rw [hl] at h1 h4 h5
  have hn := line63
  refine tail_any (typeIs_str s2 w _) slot_str_getitem.lookup (getItem_str (c := c) (by
    have e1 : decide (i < -(2 ^ 63 : Int)) = false := decide_eq_false (by omega)
    have e2 : decide (i ≥ 2 ^ 63) = false := decide_eq_false (by omega)
    rw [e1, e2, Bool.or_false]) (by rw [h1]; simpa using h2) (Calls.spliced_nil ?_)) (hx _ _)
  exact PySem.SC.replace (by show s1.toks ≠ 0; omega) (by show s2.toks ≠ 0; omega) (by show s1.toks ≠ s2.toks; omega) hy hb fun t' k => ⟨.str (Txt.replace x y ⟨#[c]⟩), H2, I2.tok k, ⟨t', rfl⟩, q⟩
end
end Vx
namespace My
open PySem PySem.Spec PyProof.Rows L2 Vx
def topS (i : Nat) : Stmt := PySem.Challenge.pw_longlife_k07_strings_that_are_no_run_tex.main.body.getD i (.Pass ⟨0, 0, 0, 0⟩)
abbrev s_pattern : Stmt := topS 11
abbrev N_pattern : List Str := ["cells"]
theorem sc_pattern : FnScope N_pattern ["cells"] (defScope s_pattern) := ⟨rfl, rfl, rfl, by decide +kernel, rfl, by decide +kernel, by decide +kernel⟩
abbrev s_moved : Stmt := topS 12
abbrev N_moved : List Str := ["cells", "rows", "columns", "row", "column"]
theorem sc_moved : FnScope N_moved ["cells", "rows", "columns"] (defScope s_moved) := ⟨rfl, rfl, rfl, by decide +kernel, rfl, by decide +kernel, by decide +kernel⟩
abbrev s_home : Stmt := topS 13
abbrev N_home : List Str := ["cells", "least_row", "least_column", "row", "_", "column"]
theorem sc_home : FnScope N_home ["cells"] (defScope s_home) := ⟨rfl, rfl, rfl, by decide +kernel, rfl, by decide +kernel, by decide +kernel⟩
abbrev s_read_text : Stmt := topS 14
abbrev N_read_text : List Str := ["string", "cells"]
theorem sc_read_text : FnScope N_read_text ["string"] (defScope s_read_text) := ⟨rfl, rfl, rfl, by decide +kernel, rfl, by decide +kernel, by decide +kernel⟩
abbrev s_cells_of_text : Stmt := topS 15
abbrev N_cells_of_text : List Str := ["string", "cells", "row", "column", "digits", "sign", "number", "step"]
theorem sc_cells_of_text : FnScope N_cells_of_text ["string"] (defScope s_cells_of_text) := ⟨rfl, rfl, rfl, by decide +kernel, rfl, by decide +kernel, by decide +kernel⟩
abbrev s_write_text : Stmt := topS 16
abbrev N_write_text : List Str := ["cells", "parts", "last_row", "end", "row", "column", "length"]
theorem sc_write_text : FnScope N_write_text ["cells"] (defScope s_write_text) := ⟨rfl, rfl, rfl, by decide +kernel, rfl, by decide +kernel, by decide +kernel⟩
abbrev s_runs : Stmt := topS 17
abbrev N_runs : List Str := ["living", "runs", "row", "column"]
theorem sc_runs : FnScope N_runs ["living"] (defScope s_runs) := ⟨rfl, rfl, rfl, by decide +kernel, rfl, by decide +kernel, by decide +kernel⟩
abbrev s_counted : Stmt := topS 18
abbrev N_counted : List Str := ["number", "sign"]
theorem sc_counted : FnScope N_counted ["number", "sign"] (defScope s_counted) := ⟨rfl, rfl, rfl, by decide +kernel, rfl, by decide +kernel, by decide +kernel⟩
abbrev s_law_cell : Stmt := topS 20
abbrev N_law_cell : List Str := ["script", "k"]
theorem sc_law_cell : FnScope N_law_cell ["script", "k"] (defScope s_law_cell) := ⟨rfl, rfl, rfl, by decide +kernel, rfl, by decide +kernel, by decide +kernel⟩
abbrev s_law_row : Stmt := topS 21
abbrev N_law_row : List Str := ["cell", "count", "bound", "rest", "mixed", "row", "k"]
theorem sc_law_row : FnScope N_law_row ["cell", "count", "bound"] (defScope s_law_row) := ⟨rfl, rfl, rfl, by decide +kernel, rfl, by decide +kernel, by decide +kernel⟩
abbrev s_law_integer : Stmt := topS 22
abbrev N_law_integer : List Str := ["value"]
theorem sc_law_integer : FnScope N_law_integer ["value"] (defScope s_law_integer) := ⟨rfl, rfl, rfl, by decide +kernel, rfl, by decide +kernel, by decide +kernel⟩
abbrev s_law_cells : Stmt := topS 23
abbrev N_law_cells : List Str := ["value", "cell"]
theorem sc_law_cells : FnScope N_law_cells ["value"] (defScope s_law_cells) := ⟨rfl, rfl, rfl, by decide +kernel, rfl, by decide +kernel, by decide +kernel⟩
abbrev s_law_some : Stmt := topS 24
abbrev N_law_some : List Str := ["cell", "count", "height", "width", "x", "found", "y", "place"]
theorem sc_law_some : FnScope N_law_some ["cell", "count", "height", "width"] (defScope s_law_some) := ⟨rfl, rfl, rfl, by decide +kernel, rfl, by decide +kernel, by decide +kernel⟩
abbrev s_law_string : Stmt := topS 25
abbrev N_law_string : List Str := ["script", "signs", "text", "k", "x", "at", "news", "digits", "kept", "sign"]
theorem sc_law_string : FnScope N_law_string ["script"] (defScope s_law_string) := ⟨rfl, rfl, rfl, by decide +kernel, rfl, by decide +kernel, by decide +kernel⟩
abbrev s_law_tokens : Stmt := topS 26
abbrev N_law_tokens : List Str := ["text", "tokens", "number", "sign", "count"]
theorem sc_law_tokens : FnScope N_law_tokens ["text"] (defScope s_law_tokens) := ⟨rfl, rfl, rfl, by decide +kernel, rfl, by decide +kernel, by decide +kernel⟩
abbrev s_law_due : Stmt := topS 27
abbrev N_law_due : List Str := ["text", "tokens", "cells", "r", "c", "before", "sign", "count", "k"]
theorem sc_law_due : FnScope N_law_due ["text"] (defScope s_law_due) := ⟨rfl, rfl, rfl, by decide +kernel, rfl, by decide +kernel, by decide +kernel⟩
abbrev s_law : Stmt := topS 28
abbrev N_law : List Str := ["script", "text", "due", "told", "error", "others"]
theorem sc_law : FnScope N_law ["script"] (defScope s_law) := ⟨rfl, rfl, rfl, by decide +kernel, rfl, by decide +kernel, by decide +kernel⟩
structure Txt (K : PySem.W.Frag) (mg : Str → Option Value) where
  f_pattern : Addr
  d_pattern : FuncData
  F_pattern : Fun K "pattern" "pattern" s_pattern f_pattern d_pattern
  b_pattern : Binds K d_pattern ["cells"] []
  g_pattern : mg "pattern" = some (.ref f_pattern)
  f_moved : Addr
  d_moved : FuncData
  F_moved : Fun K "moved" "moved" s_moved f_moved d_moved
  b_moved : Binds K d_moved ["cells", "rows", "columns"] []
  g_moved : mg "moved" = some (.ref f_moved)
  f_home : Addr
  d_home : FuncData
  F_home : Fun K "home" "home" s_home f_home d_home
  b_home : Binds K d_home ["cells"] []
  g_home : mg "home" = some (.ref f_home)
  f_read_text : Addr
  d_read_text : FuncData
  F_read_text : Fun K "read_text" "read_text" s_read_text f_read_text d_read_text
  b_read_text : Binds K d_read_text ["string"] []
  g_read_text : mg "read_text" = some (.ref f_read_text)
  f_cells_of_text : Addr
  d_cells_of_text : FuncData
  F_cells_of_text : Fun K "_cells_of_text" "_cells_of_text" s_cells_of_text f_cells_of_text d_cells_of_text
  b_cells_of_text : Binds K d_cells_of_text ["string"] []
  g_cells_of_text : mg "_cells_of_text" = some (.ref f_cells_of_text)
  f_write_text : Addr
  d_write_text : FuncData
  F_write_text : Fun K "write_text" "write_text" s_write_text f_write_text d_write_text
  b_write_text : Binds K d_write_text ["cells"] []
  g_write_text : mg "write_text" = some (.ref f_write_text)
  f_runs : Addr
  d_runs : FuncData
  F_runs : Fun K "_runs" "_runs" s_runs f_runs d_runs
  b_runs : Binds K d_runs ["living"] []
  g_runs : mg "_runs" = some (.ref f_runs)
  f_counted : Addr
  d_counted : FuncData
  F_counted : Fun K "_counted" "_counted" s_counted f_counted d_counted
  b_counted : Binds K d_counted ["number", "sign"] []
  g_counted : mg "_counted" = some (.ref f_counted)
  f_law_cell : Addr
  d_law_cell : FuncData
  F_law_cell : Fun K "_law_cell" "_law_cell" s_law_cell f_law_cell d_law_cell
  b_law_cell : Binds K d_law_cell ["script", "k"] []
  g_law_cell : mg "_law_cell" = some (.ref f_law_cell)
  f_law_row : Addr
  d_law_row : FuncData
  F_law_row : Fun K "_law_row" "_law_row" s_law_row f_law_row d_law_row
  b_law_row : Binds K d_law_row ["cell", "count", "bound"] []
  g_law_row : mg "_law_row" = some (.ref f_law_row)
  f_law_integer : Addr
  d_law_integer : FuncData
  F_law_integer : Fun K "_law_integer" "_law_integer" s_law_integer f_law_integer d_law_integer
  b_law_integer : Binds K d_law_integer ["value"] []
  g_law_integer : mg "_law_integer" = some (.ref f_law_integer)
  f_law_cells : Addr
  d_law_cells : FuncData
  F_law_cells : Fun K "_law_cells" "_law_cells" s_law_cells f_law_cells d_law_cells
  b_law_cells : Binds K d_law_cells ["value"] []
  g_law_cells : mg "_law_cells" = some (.ref f_law_cells)
  f_law_some : Addr
  d_law_some : FuncData
  F_law_some : Fun K "_law_some" "_law_some" s_law_some f_law_some d_law_some
  b_law_some : Binds K d_law_some ["cell", "count", "height", "width"] []
  g_law_some : mg "_law_some" = some (.ref f_law_some)
  f_law_string : Addr
  d_law_string : FuncData
  F_law_string : Fun K "_law_string" "_law_string" s_law_string f_law_string d_law_string
  b_law_string : Binds K d_law_string ["script"] []
  g_law_string : mg "_law_string" = some (.ref f_law_string)
  f_law_tokens : Addr
  d_law_tokens : FuncData
  F_law_tokens : Fun K "_law_tokens" "_law_tokens" s_law_tokens f_law_tokens d_law_tokens
  b_law_tokens : Binds K d_law_tokens ["text"] []
  g_law_tokens : mg "_law_tokens" = some (.ref f_law_tokens)
  f_law_due : Addr
  d_law_due : FuncData
  F_law_due : Fun K "_law_due" "_law_due" s_law_due f_law_due d_law_due
  b_law_due : Binds K d_law_due ["text"] []
  g_law_due : mg "_law_due" = some (.ref f_law_due)
  f_law : Addr
  d_law : FuncData
  F_law : Fun K "law" "law" s_law f_law d_law
  b_law : Binds K d_law ["script"] []
  g_law : mg "law" = some (.ref f_law)
  z_sorted : mg "sorted" = none
  z_set : mg "set" = none
  z_min : mg "min" = none
  z_int : mg "int" = none
  z_range : mg "range" = none
  z_str : mg "str" = none
  z_len : mg "len" = none
  z_abs : mg "abs" = none
  z_isinstance : mg "isinstance" = none
  z_bool : mg "bool" = none
  z_list : mg "list" = none
  z_tuple : mg "tuple" = none
  z_ValueError : mg "ValueError" = none
  c_DIGITS : ∃ u, mg "DIGITS" = some u ∧ RelV (.str (Str.ofString "0123456789")) u
  c_ROW_END : ∃ u, mg "ROW_END" = some u ∧ RelV (.str (Str.ofString "/")) u
  c_ALIVE : ∃ u, mg "ALIVE" = some u ∧ RelV (.str (Str.ofString "O")) u
  c_DEAD : ∃ u, mg "DEAD" = some u ∧ RelV (.str (Str.ofString ".")) u
  c_MARK : ∃ u, mg "MARK" = some u ∧ RelV (.str (Str.ofString "!")) u
  C_InvalidRule : Addr
  C_LifeError : Addr
  C_InvalidText : Addr
  C_InvalidPicture : Addr
  g_InvalidRule : mg "InvalidRule" = some (.ref C_InvalidRule)
  g_LifeError : mg "LifeError" = some (.ref C_LifeError)
  g_InvalidText : mg "InvalidText" = some (.ref C_InvalidText)
  g_InvalidPicture : mg "InvalidPicture" = some (.ref C_InvalidPicture)
  xIR : PySem.W.excIn K C_InvalidText [.type "ValueError", .type "Exception", .type "BaseException", .type "object"] "ValueError.__new__" = true
  kIR : PySem.W.keepIn K (.ref C_InvalidText) = true
  bIR : PySem.W.subIn K (.ref C_InvalidText) (.type "BaseException") = some true
  tIR : PySem.W.typeIn K (.ref C_InvalidText) = some (.type "type")
  exm : PySem.W.exmOne K (.ref C_InvalidText) (.ref C_LifeError) = some true
  kitT : PySem.W.kitOne K (.ref C_InvalidText) (.ref C_InvalidRule) = some false
  kitP : PySem.W.kitOne K (.ref C_InvalidText) (.ref C_InvalidPicture) = some false
  kitR : PySem.W.kitOne K (.ref C_InvalidText) (.ref C_InvalidText) = some true
  kitV : PySem.W.kitOne K (.ref C_InvalidText) (.type "ValueError") = some true
  excC : ExcC K C_InvalidText
end My
namespace My
open PySem PySem.Spec PyProof.Rows L2 Vx
open TL
local macro_rules | `(tactic| k_invariant "new" ($n, $H:ident, $e:ident, $h:ident)) => `(tactic| (generalize hE : upd _ _ _ = $H; obtain ⟨$e:ident, $h:ident⟩ := gen_e hE $n; clear hE))
local macro_rules | `(tactic| k_places) => `(tactic| first
  | assumption
  | exact lst_of (by assumption)
  | exact tup_of (by assumption)
  | (refine getS (by assumption) ?_; k_places)
  | (refine Same.seq (by assumption) ?_; k_places)
  | (refine tupS (by assumption) ?_; k_places)
  | (refine lst_of ?_; k_places)
  | (refine tup_of ?_; k_places))
local macro_rules | `(tactic| k_subL) => `(tactic| first
  | k_places
  | solve_by_elim (maxDepth := 10) [getS, lst_of, tup_of, Same.seq, tupS])
local macro_rules | `(tactic| k_offL) => `(tactic| first
  | (show (0 : Int) < _; first | omega | decide)
  | (refine ⟨?_, ?_⟩ <;> first | omega | decide)
  | exact .inr ⟨by decide, by decide⟩
  | exact .inl ⟨by decide, by decide⟩
  | exact .inl ⟨by omega, by omega⟩
  | omega)
local macro_rules | `(tactic| k_clsL) => `(tactic| exact Nat.le_of_ble_eq_true rfl)
local macro_rules | `(tactic| k_upd) => `(tactic| simp only [L2.start, List.map_cons, List.map_nil, List.length_cons, List.length_nil, List.replicate_succ, List.replicate_zero, List.cons_append, List.nil_append, List.set_cons_zero, List.set_cons_succ])
section
variable {P : Program} {w : World} {K : PySem.W.Frag} {mg : Str → Option Value} {base : Heap}
/-! ### patterns -/
def addP (dr dc : Int) (x : Pr) : Pr := (x.1 + dr, x.2 + dc)
def turnP (x : Pr) : Pr := (x.2, -x.1)
def mirP (x : Pr) : Pr := (x.1, -x.2)
def sp_pattern : Sp := fun vs H Q _ => ∃ (l : Addr) (ps : List Pr), vs = [.ref l] ∧ Cells H l ps ∧ ps.length ≤ 4090 ∧
  ∀ (H' : Hp) (p : Addr) (qs : List Pr), H p = none → Same H H' → Cells H' p qs → CanP ps qs → qs.length ≤ 4090 → Q (.ref p) H'
theorem ok_pattern (T : Txt K mg) : FnOk P w K mg base CX0 1 T.f_pattern T.d_pattern ["cells"] sp_pattern := by
  refine T.F_pattern.ok sc_pattern (fun vs H Q E h => ?_) (fun cdv A outer s H vs Q E hr h => ?_)
  · obtain ⟨_, _, rfl, _⟩ := h
    rfl
  · obtain ⟨l, ps, rfl, hC, few, q⟩ := h
    refine ⟨_, (pss_one (ps_ret (pe_callB (cr_sortedB rfl) (by rfl) T.z_sorted (by decide +kernel) (pa_cons (pe_callTy (cr_setB rfl hr.units) (by rfl) T.z_set (by decide +kernel) (pa_cons (pv 0) pa_nil)) pa_nil)))), ?_⟩
    exact ⟨_, rfl, _, _, rfl, hC, few, fun a H1 e1 n1 h1 => ⟨_, _, rfl, h1, fun p H2 qs e2 n2 h2 pw mem l2 => q H2 p qs (backS e1 n2) (e1.trans e2) h2 ⟨pw, mem⟩ l2⟩⟩
def sp_moved : Sp := fun vs H Q _ => ∃ (l : Addr) (ps : List Pr) (dr dc : Int), vs = [.ref l, .int dr, .int dc] ∧ Cells H l ps ∧ ps.length ≤ 4090 ∧
  ∀ (H' : Hp) (p : Addr) (qs : List Pr), H p = none → Same H H' → Cells H' p qs → CanP (ps.map (addP dr dc)) qs → qs.length ≤ 4090 → Q (.ref p) H'
theorem lt_line {n : Nat} (h : n ≤ 4090) : n < sizeLine := by
  rw [sizeLine_eq]
  omega
theorem ok_moved (T : Txt K mg) : FnOk P w K mg base CX0 2 T.f_moved T.d_moved ["cells", "rows", "columns"] sp_moved := by
  refine T.F_moved.ok sc_moved (fun vs H Q E h => ?_) (fun cdv A outer s H vs Q E hr h => ?_)
  · obtain ⟨_, _, _, _, rfl, _⟩ := h
    rfl
  · obtain ⟨l, ps, dr, dc, rfl, hC, few, q⟩ := h
    refine ⟨_, (pss_one (ps_ret (pe_call (ok_pattern T) (hr.mono (by decide)) (by rfl) T.g_pattern T.F_pattern.kp T.b_pattern .nil pass0 (pa_cons (pe_lc (own := [("row", 3), ("column", 4)]) (tt := tYes) rfl sc_moved.nd (pi_list (pv 0)) (blkOk_by (own := [("row", 3), ("column", 4)]) (N := N_moved) (sc := defScope s_moved) (by decide +kernel)) (fun _ _ _ _ _ => (pg_tupK (K := K) (n := 2) rfl rfl (pgs_cons (pg_name (i := 3) sc_moved.nd rfl (.inl rfl)) (pgs_cons (pg_name (i := 4) sc_moved.nd rfl (.inl rfl)) pgs_nil)))) (fun _ _ _ _ _ => pts_nil) (fun _ _ _ _ _ => (pe_tup (pa_cons (pe_op op_add (pv 3) (pv 1)) (pa_cons (pe_op op_add (pv 4) (pv 2)) pa_nil))))) pa_nil)))), ?_⟩
    refine ⟨_, rfl, _, rfl, ⟨_, lst_of hC.choose_spec.1⟩, fun D nD => lc_cells (addP dr dc) hC nD (lt_line few) ?_ fun H1 e1 h1 => ?_⟩
    · intro t x H' Po Pn _ ht hq
      exact ⟨t, _, rfl, tup_of ht, rfl, _, _, rfl, _, _, rfl, rfl, rfl, tyesT ⟨_, rfl, _, rfl, _, _, rfl, rfl, _, rfl, _, rfl, _, _, rfl, rfl, (by k_clsL), fun t2 n2 => hq t2 n2⟩⟩
    · exact ⟨_, _, rfl, h1, by rw [List.length_map]; exact few, fun H2 p qs n2 e2 h2 c2 l2 => q H2 p qs (backS e1 n2) (e1.trans e2) h2 c2 l2⟩
/-- a is the least of them -/
def Least (a : Int) (l : List Int) : Prop := a ∈ l ∧ ∀ y, y ∈ l → a ≤ y
theorem Least.uniq {a b : Int} {l : List Int} (h : Least a l) (h2 : Least b l) : a = b := by
  have := h.2 _ h2.1
  have := h2.2 _ h.1
  omega
def rowsP (ps : List Pr) : List Int := ps.map (·.1)
def colsP (ps : List Pr) : List Int := ps.map (·.2)
def sp_home : Sp := fun vs H Q _ => ∃ (l : Addr) (ps : List Pr), vs = [.ref l] ∧ Cells H l ps ∧ ps.length ≤ 4090 ∧
  ∀ (H' : Hp) (p : Addr) (qs : List Pr), H p = none → Same H H' → Cells H' p qs → (ps = [] → qs = []) → (∀ a b, Least a (rowsP ps) → Least b (colsP ps) → CanP (ps.map (addP (-a) (-b))) qs) → qs.length ≤ 4090 → Q (.ref p) H'
theorem tru_cells {K : PySem.W.Frag} {H : Hp} {l : Addr} {ps : List Pr} (h : Cells H l ps) : TruV K (.ref l) H (!ps.isEmpty) := by
  obtain ⟨ts, h1, _, rfl⟩ := h
  exact .inl ⟨_, lst_of h1, by cases ts <;> rfl⟩
theorem ok_home (T : Txt K mg) : FnOk P w K mg base CX0 3 T.f_home T.d_home ["cells"] sp_home := by
  refine T.F_home.ok sc_home (fun vs H Q E h => ?_) (fun cdv A outer s H vs Q E hr h => ?_)
  · obtain ⟨_, _, rfl, _⟩ := h
    rfl
  · obtain ⟨l, ps, rfl, hC, few, q⟩ := h
    refine ⟨_, (pss_cons (ps_if (pt_not (pt_truth (pv 0) (by intro _; rfl)))
      (pss_one (ps_ret (pe_lst pa_nil)))
      pss_nil)
      (pss_cons (ps_set (i := 1) sc_home.nd rfl (.inl rfl) (pe_callB (cr_min rfl) (by rfl) T.z_min (by decide +kernel) (pa_cons (pe_lc (own := [("row", 3), ("_", 4)]) (tt := tYes) rfl sc_home.nd (pi_list (pv 0)) (blkOk_by (own := [("row", 3), ("_", 4)]) (N := N_home) (sc := defScope s_home) (by decide +kernel)) (fun _ _ _ _ _ => (pg_tupK (K := K) (n := 2) rfl rfl (pgs_cons (pg_name (i := 3) sc_home.nd rfl (.inl rfl)) (pgs_cons (pg_name (i := 4) sc_home.nd rfl (.inl rfl)) pgs_nil)))) (fun _ _ _ _ _ => pts_nil) (fun _ _ _ _ _ => (pv 3))) pa_nil)))
      (pss_cons (ps_set (i := 2) sc_home.nd rfl (.inl rfl) (pe_callB (cr_min rfl) (by rfl) T.z_min (by decide +kernel) (pa_cons (pe_lc (own := [("_", 4), ("column", 5)]) (tt := tYes) rfl sc_home.nd (pi_list (pv 0)) (blkOk_by (own := [("_", 4), ("column", 5)]) (N := N_home) (sc := defScope s_home) (by decide +kernel)) (fun _ _ _ _ _ => (pg_tupK (K := K) (n := 2) rfl rfl (pgs_cons (pg_name (i := 4) sc_home.nd rfl (.inl rfl)) (pgs_cons (pg_name (i := 5) sc_home.nd rfl (.inl rfl)) pgs_nil)))) (fun _ _ _ _ _ => pts_nil) (fun _ _ _ _ _ => (pv 5))) pa_nil)))
      (pss_one (ps_ret (pe_call (ok_moved T) (hr.mono (by decide)) (by rfl) T.g_moved T.F_moved.kp T.b_moved .nil pass0 (pa_cons (pv 0) (pa_cons (pe_un un_neg (pv 1)) (pa_cons (pe_un un_neg (pv 2)) pa_nil))))))))), ?_⟩
    refine ⟨_, rfl, _, tru_cells hC, ?_⟩
    cases ps with
    | nil =>
      refine ⟨by k_clsL, fun p n => q _ p [] n (newS n) ⟨[], upd_same, fun _ m => (by cases m), rfl⟩ (fun _ => rfl) (fun a b ha _ => ?_) (by decide)⟩
      cases ha.1
    | cons x0 ps =>
      refine ⟨_, rfl, _, rfl, ⟨_, lst_of hC.choose_spec.1⟩, fun D nD => lc_nums (·.1) hC nD (lt_line few) ?_ fun H1 e1 h1 => ?_⟩
      · intro t x H' Po Pn _ ht hq
        exact ⟨t, _, rfl, tup_of ht, rfl, _, _, rfl, _, _, rfl, rfl, rfl, tyesT ⟨_, rfl, hq⟩⟩
      refine ⟨_, _, rfl, lst_of h1, by simp, fun a ma la => ?_⟩
      have hC1 := hC.up e1
      refine ⟨_, rfl, _, rfl, ⟨_, lst_of hC1.choose_spec.1⟩, fun D nD => lc_nums (·.2) hC1 nD (lt_line few) ?_ fun H2 e2 h2 => ?_⟩
      · intro t x H' Po Pn _ ht hq
        exact ⟨t, _, rfl, tup_of ht, rfl, _, _, rfl, _, _, rfl, rfl, rfl, tyesT ⟨_, rfl, hq⟩⟩
      refine ⟨_, _, rfl, lst_of h2, by simp, fun b mb lb => ?_⟩
      refine ⟨_, rfl, _, rfl, _, rfl, _, rfl, _, rfl, _, _, _, _, rfl, hC1.up e2, few, fun H3 p qs n3 e3 h3 c3 l3 => q H3 p qs (backS (e1.trans e2) n3) (e1.trans (e2.trans e3)) h3 (fun z => by cases z) (fun a' b' ha hb => ?_) l3⟩
      rw [ha.uniq ⟨ma, la⟩, hb.uniq ⟨mb, lb⟩]
      exact c3
end
end My
namespace My
open PySem PySem.Spec PyProof.Rows L2 Vx
open TL
local macro_rules | `(tactic| k_invariant "new" ($n, $H:ident, $e:ident, $h:ident)) => `(tactic| (generalize hE : upd _ _ _ = $H; obtain ⟨$e:ident, $h:ident⟩ := gen_e hE $n; clear hE))
local macro_rules | `(tactic| k_places) => `(tactic| first
  | assumption
  | exact lst_of (by assumption)
  | exact tup_of (by assumption)
  | (refine getS (by assumption) ?_; k_places)
  | (refine Same.seq (by assumption) ?_; k_places)
  | (refine tupS (by assumption) ?_; k_places)
  | (refine lst_of ?_; k_places)
  | (refine tup_of ?_; k_places))
local macro_rules | `(tactic| k_subL) => `(tactic| first
  | k_places
  | solve_by_elim (maxDepth := 10) [getS, lst_of, tup_of, Same.seq, tupS])
local macro_rules | `(tactic| k_offL) => `(tactic| first
  | (show (0 : Int) < _; first | omega | decide)
  | (refine ⟨?_, ?_⟩ <;> first | omega | decide)
  | exact .inr ⟨by decide, by decide⟩
  | exact .inl ⟨by decide, by decide⟩
  | exact .inl ⟨by omega, by omega⟩
  | omega)
local macro_rules | `(tactic| k_clsL) => `(tactic| exact Nat.le_of_ble_eq_true rfl)
local macro_rules | `(tactic| k_upd) => `(tactic| simp only [L2.start, List.map_cons, List.map_nil, List.length_cons, List.length_nil, List.replicate_succ, List.replicate_zero, List.cons_append, List.nil_append, List.set_cons_zero, List.set_cons_succ])
section
variable {P : Program} {w : World} {K : PySem.W.Frag} {mg : Str → Option Value} {base : Heap}
/-! ### run texts, the program's own -/
def cntS (n : Int) (sg : Str) : Str := if n = 1 then sg else (toString n : Str) ++ sg
def sp_counted : Sp := fun vs H Q _ => ∃ (n : Int) (sg : Str), vs = [.int n, .str sg] ∧ n.natAbs < 2 ^ 60 ∧ sg.length ≤ 100 ∧ Q (.str (cntS n sg)) H
theorem ok_counted (T : Txt K mg) : FnOk P w K mg base CX0 1 T.f_counted T.d_counted ["number", "sign"] sp_counted := by
  refine T.F_counted.ok sc_counted (fun vs H Q E h => ?_) (fun cdv A outer s H vs Q E hr h => ?_)
  · obtain ⟨_, _, rfl, _⟩ := h
    rfl
  · obtain ⟨n, sg, rfl, b, ls, q⟩ := h
    refine ⟨_, (pss_one (ps_ret (pe_ifExp (pt_cmpR op_eq (pv 0) pe_int (nomark _)) (pv 1) (pe_op op_add_str (pe_callTy call_str_int (by rfl) T.z_str (by decide +kernel) (pa_cons (pv 0) pa_nil)) (pv 1))))), ?_⟩
    have lg : n.natAbs.log2 < 1920 := by
      rcases Nat.eq_zero_or_pos n.natAbs with z | z
      · rw [z]
        decide
      · exact Nat.lt_trans ((Nat.log2_lt (by omega)).mpr b) (by decide)
    have ln := int_text_len_1921 lg
    refine ⟨_, rfl, rfl, _, rfl, ite2 (fun c => ?_) (fun c => ?_)⟩
    · have c : n = 1 := by simpa using c
      refine ⟨_, rfl, ?_⟩
      unfold cntS at q
      rw [if_pos c] at q
      exact q
    · have c : ¬ n = 1 := by simpa using c
      refine ⟨_, rfl, _, rfl, ?_, _, rfl, _, _, rfl, rfl, ?_, ?_⟩
      · exact lg
      · rw [sizeLine_eq]
        omega
      · unfold cntS at q
        rw [if_neg c] at q
        exact q
abbrev Run := Int × Int × Int
def runV (t : Run) : List V := [.int t.1, .int t.2.1, .int t.2.2]
/-- the runs so far, and one more cell -/
def runStep (rs : List Run) (x : Pr) : List Run := match rs.getLast? with
  | some t => if t.1 = x.1 ∧ t.2.1 + t.2.2 = x.2 then rs.dropLast ++ [(t.1, t.2.1, t.2.2 + 1)] else rs ++ [(x.1, x.2, 1)]
  | none => [(x.1, x.2, 1)]
def runsP (ps : List Pr) : List Run := ps.foldl runStep []
def RunsAt (H : Hp) (l : Addr) (rs : List Run) : Prop :=
  ∃ ts : List (Addr × Run), H l = some (.lst (ts.map fun t => V.ref t.1)) ∧ (∀ t ∈ ts, H t.1 = some (.lst (runV t.2))) ∧ ts.map (·.2) = rs
theorem runStep_len (rs : List Run) (x : Pr) : (runStep rs x).length ≤ rs.length + 1 := by
  unfold runStep
  cases rs.getLast? with
  | none => show 1 ≤ _; omega
  | some t =>
    show (if t.1 = x.1 ∧ t.2.1 + t.2.2 = x.2 then rs.dropLast ++ [(t.1, t.2.1, t.2.2 + 1)] else rs ++ [(x.1, x.2, 1)]).length ≤ _
    by_cases c : t.1 = x.1 ∧ t.2.1 + t.2.2 = x.2
    · rw [if_pos c, List.length_append, List.length_dropLast]
      show rs.length - 1 + 1 ≤ _
      omega
    · rw [if_neg c, List.length_append]
      exact Nat.le_refl _
theorem runStep_last (rs : List Run) (t : Run) (x : Pr) : runStep (rs ++ [t]) x = if t.1 = x.1 ∧ t.2.1 + t.2.2 = x.2 then rs ++ [(t.1, t.2.1, t.2.2 + 1)] else rs ++ [t] ++ [(x.1, x.2, 1)] := by
  unfold runStep
  rw [List.getLast?_concat, List.dropLast_concat]
theorem atI_last (xs : List V) (v : V) : atI (xs ++ [v]) (-1) = some v := by
  unfold atI ixN
  rw [if_neg (by decide), List.length_append, List.length_singleton, if_pos (by omega)]
  show (xs ++ [v])[(-1 + ((xs.length + 1 : Nat) : Int)).toNat]? = some v
  rw [show (-1 + ((xs.length + 1 : Nat) : Int)).toNat = xs.length by omega]
  simp
theorem runs_app {H H' : Hp} {p q : Addr} {ts : List (Addr × Run)} {r : Run} (sm : Same H H') (np : H p = none) (hp : H' p = some (.lst (ts.map fun t => V.ref t.1))) (htt : ∀ t ∈ ts, H' t.1 = some (.lst (runV t.2)) ∧ H t.1 = none ∧ t.1 ≠ p)
    (nd : (ts.map (·.1)).Nodup) (nq : H' q = none) :
    Same H (upd (upd H' q (.lst (runV r))) p (.lst (ts.map (fun t => V.ref t.1) ++ [.ref q]))) ∧ upd H' q (.lst (runV r)) p = some (.lst (ts.map fun t => V.ref t.1)) ∧
    upd (upd H' q (.lst (runV r))) p (.lst (ts.map (fun t => V.ref t.1) ++ [.ref q])) p = some (.lst ((ts ++ [(q, r)]).map fun t => V.ref t.1)) ∧
    (∀ t ∈ ts ++ [(q, r)], upd (upd H' q (.lst (runV r))) p (.lst (ts.map (fun t => V.ref t.1) ++ [.ref q])) t.1 = some (.lst (runV t.2)) ∧ H t.1 = none ∧ t.1 ≠ p) ∧ ((ts ++ [(q, r)]).map (·.1)).Nodup := by
  have qp : q ≠ p := fun e => by
    rw [e, hp] at nq
    cases nq
  refine ⟨mutS (sm.trans (newS nq)) np, newS nq _ _ hp, by rw [upd_same, List.map_append]; rfl, fun t m => ?_, ?_⟩
  · rcases List.mem_append.mp m with m | m
    · obtain ⟨h1, h2, h3⟩ := htt t m
      exact ⟨by rw [upd_ne h3]; exact newS nq _ _ h1, h2, h3⟩
    · rw [List.mem_singleton.mp m]
      exact ⟨by rw [upd_ne qp, upd_same], backS sm nq, qp⟩
  · rw [List.map_append]
    refine List.pairwise_append.mpr ⟨nd, List.pairwise_cons.mpr ⟨fun _ m => (by cases m), List.Pairwise.nil⟩, fun a ma b mb e => ?_⟩
    obtain ⟨t, mt, rfl⟩ := List.mem_map.mp ma
    rw [List.mem_singleton.mp mb] at e
    have h1 := (htt t mt).1
    have e : t.1 = q := e
    rw [e, nq] at h1
    cases h1
theorem runs_mut {H H' : Hp} {p : Addr} {us : List (Addr × Run)} {u : Addr × Run} {r : Run} (sm : Same H H') (hp : H' p = some (.lst ((us ++ [u]).map fun t => V.ref t.1))) (htt : ∀ t ∈ us ++ [u], H' t.1 = some (.lst (runV t.2)) ∧ H t.1 = none ∧ t.1 ≠ p)
    (nd : ((us ++ [u]).map (·.1)).Nodup) : Same H (upd H' u.1 (.lst (runV r))) ∧ upd H' u.1 (.lst (runV r)) p = some (.lst ((us ++ [(u.1, r)]).map fun t => V.ref t.1)) ∧
    (∀ t ∈ us ++ [(u.1, r)], upd H' u.1 (.lst (runV r)) t.1 = some (.lst (runV t.2)) ∧ H t.1 = none ∧ t.1 ≠ p) ∧ ((us ++ [(u.1, r)]).map (·.1)).Nodup := by
  obtain ⟨h1, h2, h3⟩ := htt u (List.mem_append.mpr (.inr (List.mem_singleton.mpr rfl)))
  have em : (us ++ [(u.1, r)]).map (fun t => V.ref t.1) = (us ++ [u]).map (fun t => V.ref t.1) := by
    rw [List.map_append, List.map_append]
    rfl
  have ea : (us ++ [(u.1, r)]).map (·.1) = (us ++ [u]).map (·.1) := by
    rw [List.map_append, List.map_append]
    rfl
  refine ⟨mutS sm h2, by rw [upd_ne (Ne.symm h3), em]; exact hp, fun t m => ?_, by rw [ea]; exact nd⟩
  rcases List.mem_append.mp m with m | m
  · obtain ⟨k1, k2, k3⟩ := htt t (List.mem_append.mpr (.inl m))
    rw [List.map_append] at nd
    have ne := (List.pairwise_append.mp nd).2.2 t.1 (List.mem_map.mpr ⟨t, m, rfl⟩) u.1 (List.mem_singleton.mpr rfl)
    exact ⟨by rw [upd_ne ne]; exact k1, k2, k3⟩
  · rw [List.mem_singleton.mp m]
    exact ⟨upd_same, h2, h3⟩
def sp_runs (K : PySem.W.Frag) : Sp := fun vs H Q _ => ∃ (l : Addr) (ps : List Pr), vs = [.ref l] ∧ Cells H l ps ∧ ps.length < 1000000 ∧
  ∀ (H' : Hp) (p : Addr), H p = none → Same H H' → RunsAt H' p (runsP ps) → Q (.ref p) H'
theorem ok_runs (T : Txt K mg) : FnOk P w K mg base CX0 1 T.f_runs T.d_runs ["living"] (sp_runs K) := by
  refine T.F_runs.ok sc_runs (fun vs H Q E h => ?_) (fun cdv A outer s H vs Q E hr h => ?_)
  · obtain ⟨_, _, rfl, _⟩ := h
    rfl
  · obtain ⟨l, ps, rfl, hC, lim, q⟩ := h
    refine ⟨_, (pss_cons (ps_set (i := 1) sc_runs.nd rfl (.inl rfl) (pe_lst pa_nil))
      (pss_cons (ps_for PassesOwn.never rfl (pi_list (pv 0)) (pg_tupK (K := K) (n := 2) rfl rfl (pgs_cons (pg_name (i := 2) sc_runs.nd rfl (.inl rfl)) (pgs_cons (pg_name (i := 3) sc_runs.nd rfl (.inl rfl)) pgs_nil)))
      (pss_one (ps_if (PW.pt (pw_and (pt_truth (pv 1) (by intro _; rfl)) (pw_and (pt_cmpR op_eq (pe_ix ix_list (pe_ix ix_list (pv 1) (pe_un un_neg pe_int) (fun _ _ => rfl)) pe_int (fun _ _ => rfl)) (pv 2) (nomark _)) (pw_and1 (pt_cmpR op_eq (pe_op op_add (pe_ix ix_list (pe_ix ix_list (pv 1) (pe_un un_neg pe_int) (fun _ _ => rfl)) pe_int (fun _ _ => rfl)) (pe_ix ix_list (pe_ix ix_list (pv 1) (pe_un un_neg pe_int) (fun _ _ => rfl)) pe_int (fun _ _ => rfl))) (pv 3) (nomark _))))))
      (pss_one (ps_augS (pe_ix ix_list (pv 1) (pe_un un_neg pe_int) (fun _ _ => rfl)) pe_int pget_list pe_int ip_add set_list))
      (pss_one (ps_expr (pe_bm PySem.F.plainAttrs_list PySem.F.slot_list_append PySem.F.type_list_append mt_append (pv 1) (pa_cons (pe_lst (pa_cons (pv 2) (pa_cons (pv 3) (pa_cons pe_int pa_nil)))) pa_nil)))))))
      (pss_one (ps_ret (pv 1))))), ?_⟩
    obtain ⟨cs, hl, ht, rfl⟩ := id hC
    rw [List.length_map] at lim
    refine ⟨by k_clsL, fun p np => ?_⟩
    k_invariant "new" (np, H1, e1, g1)
    have nlp : p ≠ l := fun e => by
      rw [e, hl] at np
      cases np
    refine ⟨_, rfl, l, rfl, ⟨_, lst_of (e1 _ _ hl)⟩, for_list (K := K) (a := l) (xs := cs.map fun t => V.ref t.1) (fun i σ H' => Same H H' ∧ (∃ (x y : Option V), σ = [some (.ref l), some (.ref p), x, y]) ∧
      ∃ ts : List (Addr × Run), H' p = some (.lst (ts.map fun t => V.ref t.1)) ∧ (∀ t ∈ ts, H' t.1 = some (.lst (runV t.2)) ∧ H t.1 = none ∧ t.1 ≠ p) ∧ (ts.map (·.1)).Nodup ∧ ts.map (·.2) = runsP ((cs.map (·.2)).take i) ∧ ts.length ≤ i)
      ⟨e1, ⟨_, _, rfl⟩, [], g1, fun _ m => (by cases m), List.nodup_nil, rfl, Nat.le_refl _⟩ (fun i σ H' _ h => lst_of (h.1 _ _ hl)) ?_ ?_⟩
    · rintro i z σ H' hi ⟨sm, ⟨x0, y0, rfl⟩, ts, hp, htt, nd, et, lt⟩
      obtain ⟨t, mt, rfl, hx⟩ := item_cells (H := H') hi rfl
      have li : i < cs.length := by
        have := (List.getElem?_eq_some_iff.mp hi).1
        rwa [List.length_map] at this
      have gt := sm _ _ (ht t mt)
      have step : runsP ((cs.map (·.2)).take (i + 1)) = runStep (ts.map (·.2)) t.2 := by
        rw [take_next hx]
        unfold runsP
        rw [List.foldl_append, et]
        rfl
      refine ⟨t.1, _, rfl, tup_of gt, rfl, _, _, rfl, _, _, rfl, rfl, ?_⟩
      have app : ∀ q, H' q = none → upd H' q (.lst (runV (t.2.1, t.2.2, 1))) p = some (.lst (ts.map fun t => V.ref t.1)) ∧ (runStep (ts.map (·.2)) t.2 = ts.map (·.2) ++ [(t.2.1, t.2.2, 1)] →
          Same H (upd (upd H' q (.lst (runV (t.2.1, t.2.2, 1)))) p (.lst (ts.map (fun t => V.ref t.1) ++ [.ref q]))) ∧ ∃ ts' : List (Addr × Run), upd (upd H' q (.lst (runV (t.2.1, t.2.2, 1)))) p (.lst (ts.map (fun t => V.ref t.1) ++ [.ref q])) p = some (.lst (ts'.map fun t => V.ref t.1)) ∧
          (∀ t' ∈ ts', upd (upd H' q (.lst (runV (t.2.1, t.2.2, 1)))) p (.lst (ts.map (fun t => V.ref t.1) ++ [.ref q])) t'.1 = some (.lst (runV t'.2)) ∧ H t'.1 = none ∧ t'.1 ≠ p) ∧ (ts'.map (·.1)).Nodup ∧ ts'.map (·.2) = runsP ((cs.map (·.2)).take (i + 1)) ∧ ts'.length ≤ i + 1) := fun q nq => by
        obtain ⟨a1, a2, a3, a4, a5⟩ := runs_app (r := (t.2.1, t.2.2, 1)) sm np hp htt nd nq
        refine ⟨a2, fun e => ⟨a1, _, a3, a4, a5, ?_, ?_⟩⟩
        · rw [step, e, List.map_append]
          rfl
        · rw [List.length_append]
          show ts.length + 1 ≤ i + 1
          omega
      have lz : ts.length < sizeLine := by
        rw [sizeLine_eq]
        omega
      rcases List.eq_nil_or_concat ts with e0 | ⟨us, u, e0⟩
      · refine ⟨_, rfl, false, .inl ⟨_, lst_of hp, by rw [e0]; rfl⟩, iteF ?_⟩
        refine ⟨_, rfl, .inl ⟨rfl, _, lst_of hp⟩, _, rfl, _, rfl, by k_clsL, fun q nq => ?_⟩
        obtain ⟨b1, b2⟩ := app q nq
        obtain ⟨c1, c2⟩ := b2 (by rw [e0]; rfl)
        exact ⟨_, _, _, rfl, rfl, b1, by rw [List.length_map]; exact lz, c1, ⟨_, _, rfl⟩, c2⟩
      · rw [List.concat_eq_append] at e0
        have hu := (htt u (by rw [e0]; exact List.mem_append.mpr (.inr (List.mem_singleton.mpr rfl)))).1
        have at1 : atI (ts.map fun t => V.ref t.1) (-1) = some (.ref u.1) := by
          rw [e0, List.map_append]
          exact atI_last _ _
        have rl := runStep_last (us.map (·.2)) u.2 t.2
        rw [show us.map (·.2) ++ [u.2] = ts.map (·.2) by rw [e0, List.map_append]; rfl] at rl
        have fail : ¬ (u.2.1 = t.2.1 ∧ u.2.2.1 + u.2.2.2 = t.2.2) → runStep (ts.map (·.2)) t.2 = ts.map (·.2) ++ [(t.2.1, t.2.2, 1)] := fun c => by rw [rl, if_neg c]
        refine ⟨_, rfl, true, .inl ⟨_, lst_of hp, by rw [e0, List.map_append]; simp⟩, iteT ?_⟩
        refine ⟨_, rfl, _, rfl, _, _, _, _, rfl, rfl, lst_of hp, at1, _, _, _, _, rfl, rfl, lst_of hu, rfl, _, rfl, rfl, _, rfl, ite2 (fun c => ?_) (fun c => ?_)⟩
        · refine ⟨_, rfl, _, rfl, _, _, _, _, rfl, rfl, lst_of hp, at1, _, _, _, _, rfl, rfl, lst_of hu, rfl, _, rfl, _, rfl, _, _, _, _, rfl, rfl, lst_of hp, at1, _, _, _, _, rfl, rfl, lst_of hu, rfl, _, _, rfl, rfl, _, rfl, rfl, _, rfl, ite2 (fun c2 => ?_) (fun c2 => ?_)⟩
          · have c : u.2.1 = t.2.1 := V.int.inj (of_decide_eq_true c)
            have c2 : u.2.2.1 + u.2.2.2 = t.2.2 := V.int.inj (of_decide_eq_true c2)
            obtain ⟨a1, a2, a3, a4⟩ := runs_mut (r := (u.2.1, u.2.2.1, u.2.2.2 + 1)) sm (by rw [← e0]; exact hp) (by rw [← e0]; exact htt) (by rw [← e0]; exact nd)
            refine ⟨_, rfl, _, rfl, _, _, _, _, rfl, rfl, lst_of hp, at1, _, _, 2, _, rfl, rfl, lst_of hu, rfl, _, _, rfl, rfl, _, _, _, _, rfl, rfl, hu, rfl, a1, ⟨_, _, rfl⟩, _, a2, a3, a4, ?_, ?_⟩
            · rw [step, rl, if_pos ⟨c, c2⟩, List.map_append]
              rfl
            · rw [e0, List.length_append] at lt
              rw [List.length_append]
              show us.length + 1 ≤ i + 1
              have : us.length + 1 ≤ i := lt
              omega
          · have c2 : ¬ u.2.2.1 + u.2.2.2 = t.2.2 := fun e => c2 (decide_eq_true (congrArg V.int e))
            refine ⟨_, rfl, .inl ⟨rfl, _, lst_of hp⟩, _, rfl, _, rfl, by k_clsL, fun q nq => ?_⟩
            obtain ⟨b1, b2⟩ := app q nq
            obtain ⟨c1, c2⟩ := b2 (fail fun z => c2 z.2)
            exact ⟨_, _, _, rfl, rfl, b1, by rw [List.length_map]; exact lz, c1, ⟨_, _, rfl⟩, c2⟩
        · have c : ¬ u.2.1 = t.2.1 := fun e => c (decide_eq_true (congrArg V.int e))
          refine ⟨_, rfl, .inl ⟨rfl, _, lst_of hp⟩, _, rfl, _, rfl, by k_clsL, fun q nq => ?_⟩
          obtain ⟨b1, b2⟩ := app q nq
          obtain ⟨c1, c2⟩ := b2 (fail fun z => c z.1)
          exact ⟨_, _, _, rfl, rfl, b1, by rw [List.length_map]; exact lz, c1, ⟨_, _, rfl⟩, c2⟩
    · rintro σ H' ⟨sm, ⟨x0, y0, rfl⟩, ts, hp, htt, nd, et, lt⟩
      rw [List.length_map, List.take_of_length_le (by rw [List.length_map]; exact Nat.le_refl _)] at et
      exact ⟨_, rfl, q H' p np sm ⟨ts, hp, fun t m => (htt t m).1, et⟩⟩
end
end My
namespace My
open PySem PySem.Spec PyProof.Rows L2 Vx
open TL
local macro_rules | `(tactic| k_invariant "new" ($n, $H:ident, $e:ident, $h:ident)) => `(tactic| (generalize hE : upd _ _ _ = $H; obtain ⟨$e:ident, $h:ident⟩ := gen_e hE $n; clear hE))
local macro_rules | `(tactic| k_places) => `(tactic| first
  | assumption
  | exact lst_of (by assumption)
  | exact tup_of (by assumption)
  | (refine getS (by assumption) ?_; k_places)
  | (refine Same.seq (by assumption) ?_; k_places)
  | (refine tupS (by assumption) ?_; k_places)
  | (refine lst_of ?_; k_places)
  | (refine tup_of ?_; k_places))
local macro_rules | `(tactic| k_subL) => `(tactic| first
  | k_places
  | solve_by_elim (maxDepth := 10) [getS, lst_of, tup_of, Same.seq, tupS])
local macro_rules | `(tactic| k_offL) => `(tactic| first
  | (show (0 : Int) < _; first | omega | decide)
  | (refine ⟨?_, ?_⟩ <;> first | omega | decide)
  | exact .inr ⟨by decide, by decide⟩
  | exact .inl ⟨by decide, by decide⟩
  | exact .inl ⟨by omega, by omega⟩
  | omega)
local macro_rules | `(tactic| k_clsL) => `(tactic| exact Nat.le_of_ble_eq_true rfl)
local macro_rules | `(tactic| k_upd) => `(tactic| simp only [L2.start, List.map_cons, List.map_nil, List.length_cons, List.length_nil, List.replicate_succ, List.replicate_zero, List.cons_append, List.nil_append, List.set_cons_zero, List.set_cons_succ])
section
variable {P : Program} {w : World} {K : PySem.W.Frag} {mg : Str → Option Value} {base : Heap}
theorem joinL_e : ∀ ps : List (List Nat), joinL [] ps = ps.flatten
  | [] => rfl
  | [p] => by simp [joinL]
  | p :: q :: r => by
    show p ++ ([] ++ joinL [] (q :: r)) = _
    rw [joinL_e (q :: r)]
    rfl
theorem tl_e : tl (Str.ofString "") = [] := by decide +kernel
theorem tl_slash : tl (Str.ofString "/") = [47] := by decide +kernel
theorem tl_dot : tl (Str.ofString ".") = [46] := by decide +kernel
theorem tl_O : tl (Str.ofString "O") = [79] := by decide +kernel
theorem tl_mark : tl (Str.ofString "!") = [33] := by decide +kernel
def cntL (n : Int) (c : Nat) : List Nat := if n = 1 then [c] else tl (Str.ofString (toString n)) ++ [c]
theorem tl_cntS {n : Int} {sg : Str} {c : Nat} (h : tl sg = [c]) : tl (cntS n sg) = cntL n c := by
  unfold cntS cntL
  by_cases e : n = 1
  · rw [if_pos e, if_pos e, h]
  · rw [if_neg e, if_neg e, tl_append, h]
theorem len_cntS {n : Int} {sg : Str} (b : n.natAbs < 2 ^ 60) (h : sg.length ≤ 1) : (cntS n sg).length ≤ 1000 := by
  have lg : n.natAbs.log2 < 60 := by
    rcases Nat.eq_zero_or_pos n.natAbs with z | z
    · rw [z]
      decide
    · exact (Nat.log2_lt (by omega)).mpr b
  have ln : (Str.ofString (toString n)).length ≤ 61 := by
    rw [PySem.ofString_length]
    exact PySem.int_text_length_le (by decide) lg
  unfold cntS
  by_cases e : n = 1
  · rw [if_pos e]
    omega
  · rw [if_neg e]
    have : ((toString n : Str) ++ sg).length = (toString n : Str).length + sg.length := by
      rw [TL.len_tl, TL.len_tl, TL.len_tl, tl_append, List.length_append]
    rw [this]
    have : (toString n : Str).length ≤ 61 := ln
    omega
/-- one run written: the text so far, the row, the place behind the last run -/
def wStep (st : List Nat × Int × Int) (t : Run) : List Nat × Int × Int :=
  let s1 := if st.2.1 < t.1 then (st.1 ++ cntL (t.1 - st.2.1) 47, t.1, 0) else st
  let s2 := if s1.2.2 < t.2.1 then s1.1 ++ cntL (t.2.1 - s1.2.2) 46 else s1.1
  (s2 ++ cntL t.2.2 79, s1.2.1, t.2.1 + t.2.2)
theorem wStep_eq {a a1 a2 : List Nat} {last en last1 en1 : Int} {t : Run} (h1 : (if last < t.1 then (a ++ cntL (t.1 - last) 47, t.1, 0) else (a, last, en)) = (a1, last1, en1)) (h2 : (if en1 < t.2.1 then a1 ++ cntL (t.2.1 - en1) 46 else a1) = a2) :
    wStep (a, last, en) t = (a2 ++ cntL t.2.2 79, last1, t.2.1 + t.2.2) := by
  have e : wStep (a, last, en) t = ((if (if last < t.1 then (a ++ cntL (t.1 - last) 47, t.1, 0) else (a, last, en)).2.2 < t.2.1 then (if last < t.1 then (a ++ cntL (t.1 - last) 47, t.1, 0) else (a, last, en)).1 ++ cntL (t.2.1 - (if last < t.1 then (a ++ cntL (t.1 - last) 47, t.1, 0) else (a, last, en)).2.2) 46 else (if last < t.1 then (a ++ cntL (t.1 - last) 47, t.1, 0) else (a, last, en)).1) ++ cntL t.2.2 79, (if last < t.1 then (a ++ cntL (t.1 - last) 47, t.1, 0) else (a, last, en)).2.1, t.2.1 + t.2.2) := rfl
  rw [e, h1]
  show ((if en1 < t.2.1 then a1 ++ cntL (t.2.1 - en1) 46 else a1) ++ _, _, _) = _
  rw [h2]
def writeP (rs : List Run) : List Nat := (rs.foldl wStep ([], 0, 0)).1 ++ [33]
/-- numbers that fit -/
def Fit (n : Int) : Prop := n.natAbs < 2 ^ 58
theorem runs_fit : ∀ (l : List Pr) (rs : List Run) (k : Nat), (∀ x ∈ l, Fit x.1 ∧ Fit x.2) → (∀ t ∈ rs, Fit t.1 ∧ Fit t.2.1 ∧ 1 ≤ t.2.2 ∧ t.2.2 ≤ (k : Int)) → 1 ≤ k → ∀ t ∈ l.foldl runStep rs, Fit t.1 ∧ Fit t.2.1 ∧ 1 ≤ t.2.2 ∧ t.2.2 ≤ ((k + l.length : Nat) : Int)
  | [], rs, k, _, h2, _ => h2
  | x :: l, rs, k, h1, h2, hk => by
    rw [List.foldl_cons, List.length_cons, show k + (l.length + 1) = (k + 1) + l.length by omega]
    refine runs_fit l (runStep rs x) (k + 1) (fun y m => h1 y (List.mem_cons_of_mem _ m)) (fun t m => ?_) (by omega)
    have hx := h1 x List.mem_cons_self
    have up : ∀ t ∈ rs, Fit t.1 ∧ Fit t.2.1 ∧ 1 ≤ t.2.2 ∧ t.2.2 ≤ ((k + 1 : Nat) : Int) := fun t m => by
      obtain ⟨a, b, c, d⟩ := h2 t m
      exact ⟨a, b, c, by omega⟩
    rcases List.eq_nil_or_concat rs with rfl | ⟨us, u, e⟩
    · have m : t ∈ [(x.1, x.2, (1 : Int))] := m
      rw [List.mem_singleton.mp m]
      exact ⟨hx.1, hx.2, by show (1 : Int) ≤ 1; omega, by show (1 : Int) ≤ _; omega⟩
    · rw [List.concat_eq_append] at e
      subst e
      rw [runStep_last] at m
      by_cases c : u.1 = x.1 ∧ u.2.1 + u.2.2 = x.2
      · rw [if_pos c] at m
        rcases List.mem_append.mp m with m | m
        · exact up t (List.mem_append.mpr (.inl m))
        · obtain ⟨a, b, c, d⟩ := h2 u (List.mem_append.mpr (.inr (List.mem_singleton.mpr rfl)))
          rw [List.mem_singleton.mp m]
          exact ⟨a, b, by show (1 : Int) ≤ u.2.2 + 1; omega, by show u.2.2 + 1 ≤ _; omega⟩
      · rw [if_neg c] at m
        rcases List.mem_append.mp m with m | m
        · exact up t m
        · rw [List.mem_singleton.mp m]
          exact ⟨hx.1, hx.2, by show (1 : Int) ≤ 1; omega, by show (1 : Int) ≤ _; omega⟩
theorem runs_len : ∀ (l : List Pr) (rs : List Run), (l.foldl runStep rs).length ≤ rs.length + l.length
  | [], rs => Nat.le_refl _
  | x :: l, rs => by
    rw [List.foldl_cons, List.length_cons]
    have := runs_len l (runStep rs x)
    have := runStep_len rs x
    omega
def HomeOf (ps qs : List Pr) : Prop := (ps = [] → qs = []) ∧ ∀ a b, Least a (rowsP ps) → Least b (colsP ps) → CanP (ps.map (addP (-a) (-b))) qs
theorem least_ex : ∀ l : List Int, l ≠ [] → ∃ a, Least a l
  | [], h => absurd rfl h
  | [x], _ => ⟨x, List.mem_singleton.mpr rfl, fun y m => by rw [List.mem_singleton.mp m]; omega⟩
  | x :: y :: l, _ => by
    obtain ⟨a, m, h⟩ := least_ex (y :: l) (by simp)
    by_cases c : x ≤ a
    · refine ⟨x, List.mem_cons_self, fun z mz => ?_⟩
      rcases List.mem_cons.mp mz with e | mz
      · omega
      · have := h z mz
        omega
    · refine ⟨a, List.mem_cons_of_mem _ m, fun z mz => ?_⟩
      rcases List.mem_cons.mp mz with e | mz
      · omega
      · exact h z mz
theorem HomeOf.fit {ps qs : List Pr} (h : HomeOf ps qs) (b : ∀ x ∈ ps, x.1.natAbs < 2 ^ 56 ∧ x.2.natAbs < 2 ^ 56) : ∀ x ∈ qs, Fit x.1 ∧ Fit x.2 := fun x m => by
  by_cases e : ps = []
  · rw [h.1 e] at m
    cases m
  · obtain ⟨a, ha⟩ := least_ex (rowsP ps) (fun z => e (List.map_eq_nil_iff.mp z))
    obtain ⟨c, hc⟩ := least_ex (colsP ps) (fun z => e (List.map_eq_nil_iff.mp z))
    obtain ⟨y, my, rfl⟩ := List.mem_map.mp (((h.2 a c ha hc).2 x).mp m)
    obtain ⟨u, mu, eu⟩ := List.mem_map.mp ha.1
    obtain ⟨v, mv, ev⟩ := List.mem_map.mp hc.1
    have b1 := b y my
    have b2 := b u mu
    have b3 := b v mv
    have eu : u.1 = a := eu
    have ev : v.2 = c := ev
    unfold Fit addP
    constructor
    · show (y.1 + -a).natAbs < _
      omega
    · show (y.2 + -c).natAbs < _
      omega
theorem sum_len : ∀ {l : List Str}, (∀ y ∈ l, y.length ≤ 1000) → (l.map (·.length)).sum ≤ 1000 * l.length
  | [], _ => Nat.le_refl _
  | y :: l, h => by
    have h1 := h y List.mem_cons_self
    have h2 := sum_len (l := l) fun z m => h z (List.mem_cons_of_mem _ m)
    rw [List.map_cons, List.sum_cons, List.length_cons]
    omega
def sp_write_text : Sp := fun vs H Q _ => ∃ (l : Addr) (ps : List Pr), vs = [.ref l] ∧ Cells H l ps ∧ ps.length ≤ 4090 ∧ (∀ x ∈ ps, x.1.natAbs < 2 ^ 56 ∧ x.2.natAbs < 2 ^ 56) ∧
  ∀ (H' : Hp) (s : Str) (qs : List Pr), Same H H' → HomeOf ps qs → tl s = writeP (runsP qs) → s.length ≤ 16777216 → Q (.str s) H'
theorem ok_write_text (T : Txt K mg) : FnOk P w K mg base CX0 4 T.f_write_text T.d_write_text ["cells"] sp_write_text := by
  refine T.F_write_text.ok sc_write_text (fun vs H Q E h => ?_) (fun cdv A outer s H vs Q E hr h => ?_)
  · obtain ⟨_, _, rfl, _⟩ := h
    rfl
  · obtain ⟨l, ps, rfl, hC, few, fit, q⟩ := h
    refine ⟨_, (pss_cons (ps_set (i := 1) sc_write_text.nd rfl (.inl rfl) (pe_lst pa_nil))
      (pss_cons (ps_set (i := 2) sc_write_text.nd rfl (.inl rfl) pe_int)
      (pss_cons (ps_set (i := 3) sc_write_text.nd rfl (.inl rfl) pe_int)
      (pss_cons (ps_for PassesOwn.never rfl (pi_list (pe_call (ok_runs T) (hr.mono (by decide)) (by rfl) T.g_runs T.F_runs.kp T.b_runs .nil pass0 (pa_cons (pe_call (ok_home T) (hr.mono (by decide)) (by rfl) T.g_home T.F_home.kp T.b_home .nil pass0 (pa_cons (pv 0) pa_nil)) pa_nil))) (pg_unl rfl (pgs_cons (pg_name (i := 4) sc_write_text.nd rfl (.inl rfl)) (pgs_cons (pg_name (i := 5) sc_write_text.nd rfl (.inl rfl)) (pgs_cons (pg_name (i := 6) sc_write_text.nd rfl (.inl rfl)) pgs_nil))))
      (pss_cons (ps_if (pt_cmpR op_gt (pv 4) (pv 2) (nomark _))
      (pss_cons (ps_expr (pe_bm PySem.F.plainAttrs_list PySem.F.slot_list_append PySem.F.type_list_append mt_append (pv 1) (pa_cons (pe_call (ok_counted T) (hr.mono (by decide)) (by rfl) T.g_counted T.F_counted.kp T.b_counted .nil pass0 (pa_cons (pe_op op_sub (pv 4) (pv 2)) (pa_cons (pe_gcx (by rfl) T.c_ROW_END) pa_nil))) pa_nil)))
      (pss_cons (ps_set (i := 2) sc_write_text.nd rfl (.inl rfl) (pv 4))
      (pss_one (ps_set (i := 3) sc_write_text.nd rfl (.inl rfl) pe_int))))
      pss_nil)
      (pss_cons (ps_if (pt_cmpR op_gt (pv 5) (pv 3) (nomark _))
      (pss_one (ps_expr (pe_bm PySem.F.plainAttrs_list PySem.F.slot_list_append PySem.F.type_list_append mt_append (pv 1) (pa_cons (pe_call (ok_counted T) (hr.mono (by decide)) (by rfl) T.g_counted T.F_counted.kp T.b_counted .nil pass0 (pa_cons (pe_op op_sub (pv 5) (pv 3)) (pa_cons (pe_gcx (by rfl) T.c_DEAD) pa_nil))) pa_nil))))
      pss_nil)
      (pss_cons (ps_expr (pe_bm PySem.F.plainAttrs_list PySem.F.slot_list_append PySem.F.type_list_append mt_append (pv 1) (pa_cons (pe_call (ok_counted T) (hr.mono (by decide)) (by rfl) T.g_counted T.F_counted.kp T.b_counted .nil pass0 (pa_cons (pv 6) (pa_cons (pe_gcx (by rfl) T.c_ALIVE) pa_nil))) pa_nil)))
      (pss_one (ps_set (i := 3) sc_write_text.nd rfl (.inl rfl) (pe_op op_add (pv 5) (pv 6))))))))
      (pss_cons (ps_expr (pe_bm PySem.F.plainAttrs_list PySem.F.slot_list_append PySem.F.type_list_append mt_append (pv 1) (pa_cons (pe_gcx (by rfl) T.c_MARK) pa_nil)))
      (pss_one (ps_ret (pe_join pe_str (pv 1))))))))), ?_⟩
    refine ⟨by k_clsL, fun p np => ?_⟩
    k_invariant "new" (np, H1, e1, g1)
    refine ⟨_, rfl, l, ps, rfl, hC.up e1, by omega, fun H2 p2 qs n2 e2 h2 z2 c2 l2' => ?_⟩
    have l2 := l2'
    have hm : HomeOf ps qs := ⟨z2, c2⟩
    have fq := hm.fit fit
    refine ⟨p2, qs, rfl, h2, by omega, fun H3 p3 n3 e3 h3 => ?_⟩
    have lr := runs_len qs []
    have fr := runs_fit qs [] 1 fq (fun _ m => (by cases m)) (Nat.le_refl _)
    obtain ⟨ts, g3, ht3, et⟩ := h3
    have lt3 : ts.length ≤ 4090 := by
      have := congrArg List.length et
      rw [List.length_map] at this
      have lr : (runsP qs).length ≤ 0 + qs.length := lr
      omega
    have np3 : p ≠ p3 := neS g1 e2 n3
    refine ⟨p3, rfl, ⟨_, lst_of g3⟩, for_list (K := K) (a := p3) (xs := ts.map fun t => V.ref t.1) (fun i σ H' => (∀ b o, b ≠ p → H3 b = some o → H' b = some o) ∧ ∃ (ys : List Str) (last en : Int) (x y z : Option V), σ = [some (.ref l), some (.ref p), some (.int last), some (.int en), x, y, z] ∧
      H' p = some (.lst (ys.map V.str)) ∧ ((ys.map tl).flatten, last, en) = ((runsP qs).take i).foldl wStep ([], 0, 0) ∧ ys.length ≤ 3 * i ∧ (∀ y ∈ ys, y.length ≤ 1000) ∧ Fit last ∧ en.natAbs < 2 ^ 59)
      ⟨fun _ _ _ e => e, [], 0, 0, _, _, _, rfl, e3 _ _ (e2 _ _ g1), rfl, by decide, fun _ m => (by cases m), by unfold Fit; decide, by decide⟩ (fun i σ H' _ h => lst_of (h.1 _ _ np3.symm g3)) ?_ ?_⟩
    · rintro i v σ H' hi ⟨sb, ys, last, en, x0, y0, z0, rfl, hp, hw, ly, yl, fl, fe⟩
      obtain ⟨t, mt, rfl, ht2⟩ : ∃ t ∈ ts, v = .ref t.1 ∧ (runsP qs)[i]? = some t.2 := by
        rw [List.getElem?_map] at hi
        cases e : ts[i]? with
        | none => rw [e] at hi; cases hi
        | some t =>
          rw [e] at hi
          refine ⟨t, List.mem_of_getElem? e, (Option.some.inj hi).symm, ?_⟩
          rw [← et, List.getElem?_map, e]
          rfl
      have li : i < ts.length := by
        have := (List.getElem?_eq_some_iff.mp hi).1
        rwa [List.length_map] at this
      have ft := fr t.2 (List.mem_of_getElem? ht2)
      have ft1 := ft.1
      have ft2 := ft.2.1
      unfold Fit at ft1 ft2 fl
      have ft3 := ft.2.2
      have tp : t.1 ≠ p := fun e => by
        have := ht3 t mt
        have g := e3 _ _ (e2 _ _ g1)
        rw [e, g] at this
        have z := HO.lst.inj (Option.some.inj this)
        cases z
      have gt := sb _ _ tp (ht3 t mt)
      have step : ((runsP qs).take (i + 1)).foldl wStep ([], 0, 0) = wStep ((ys.map tl).flatten, last, en) t.2 := by
        rw [take_next ht2, List.foldl_append, ← hw]
        rfl
      refine ⟨t.1, _, rfl, lst_of gt, rfl, _, _, rfl, _, _, rfl, _, _, rfl, rfl, ?_⟩
      refine ⟨_, rfl, _, rfl, _, _, rfl, rfl, _, rfl, ite2 (fun c => ?_) (fun c => ?_)⟩
      · -- row >
        have c := of_decide_eq_true c
        have c : last < t.2.1 := c
        refine ⟨_, rfl, .inl ⟨rfl, _, lst_of hp⟩, _, rfl, _, rfl, _, _, rfl, rfl, _, _, rfl, by show (t.2.1 - last).natAbs < _; omega, by decide, _, _, _, rfl, rfl, hp, by rw [List.length_map, sizeLine_eq]; omega, _, rfl, ?_⟩
        have sb1 : ∀ b o, b ≠ p → H3 b = some o → upd H' p (.lst (ys.map V.str ++ [.str (cntS (t.2.1 - last) (Str.ofString "/"))])) b = some o := fun b o nb e => by
          rw [upd_ne nb]
          exact sb b o nb e
        have hp1 : upd H' p (.lst (ys.map V.str ++ [.str (cntS (t.2.1 - last) (Str.ofString "/"))])) p = some (.lst ((ys ++ [cntS (t.2.1 - last) (Str.ofString "/")]).map V.str)) := by
          rw [upd_same, List.map_append]
          rfl
        have yl1 : ∀ y ∈ ys ++ [cntS (t.2.1 - last) (Str.ofString "/")], y.length ≤ 1000 := fun y m => by
          rcases List.mem_append.mp m with m | m
          · exact yl y m
          · rw [List.mem_singleton.mp m]
            exact len_cntS (by omega) (by decide)
        have tl1 : ((ys ++ [cntS (t.2.1 - last) (Str.ofString "/")]).map tl).flatten = (ys.map tl).flatten ++ cntL (t.2.1 - last) 47 := by
          rw [List.map_append, List.flatten_append]
          show _ ++ [tl (cntS (t.2.1 - last) (Str.ofString "/"))].flatten = _
          rw [tl_cntS tl_slash]
          simp
        have w1 : (if last < t.2.1 then ((ys.map tl).flatten ++ cntL (t.2.1 - last) 47, t.2.1, 0) else ((ys.map tl).flatten, last, en)) = (((ys ++ [cntS (t.2.1 - last) (Str.ofString "/")]).map tl).flatten, t.2.1, (0 : Int)) := by
          rw [if_pos c, tl1]
        have ly1 : (ys ++ [cntS (t.2.1 - last) (Str.ofString "/")]).length ≤ 3 * i + 1 := by
          rw [List.length_append, List.length_singleton]
          omega
        have fl1 : Fit t.2.1 := ft.1
        have fe1 : (0 : Int).natAbs < 2 ^ 59 := by decide
        generalize ys ++ [cntS (t.2.1 - last) (Str.ofString "/")] = ys1 at hp1 yl1 tl1 w1 ly1
        generalize upd H' p (.lst (ys.map V.str ++ [.str (cntS (t.2.1 - last) (Str.ofString "/"))])) = Ha at sb1 hp1
        refine ⟨_, rfl, _, rfl, _, _, rfl, rfl, _, rfl, ite2 (fun d => ?_) (fun d => ?_)⟩
        · have d : 0 < t.2.2.1 := of_decide_eq_true d
          refine ⟨_, rfl, .inl ⟨rfl, _, lst_of hp1⟩, _, rfl, _, rfl, _, _, rfl, rfl, _, _, rfl, by show (t.2.2.1 - 0).natAbs < _; omega, by decide, _, _, _, rfl, rfl, hp1, by rw [List.length_map, sizeLine_eq]; omega, ?_⟩
          have hp2 : upd Ha p (.lst (ys1.map V.str ++ [.str (cntS (t.2.2.1 - 0) (Str.ofString "."))])) p = some (.lst ((ys1 ++ [cntS (t.2.2.1 - 0) (Str.ofString ".")]).map V.str)) := by
            rw [upd_same, List.map_append]
            rfl
          have sb2 : ∀ b o, b ≠ p → H3 b = some o → upd Ha p (.lst (ys1.map V.str ++ [.str (cntS (t.2.2.1 - 0) (Str.ofString "."))])) b = some o := fun b o nb e => by
            rw [upd_ne nb]
            exact sb1 b o nb e
          have yl2 : ∀ y ∈ ys1 ++ [cntS (t.2.2.1 - 0) (Str.ofString ".")], y.length ≤ 1000 := fun y m => by
            rcases List.mem_append.mp m with m | m
            · exact yl1 y m
            · rw [List.mem_singleton.mp m]
              exact len_cntS (by omega) (by decide)
          have w2 : (if 0 < t.2.2.1 then (ys1.map tl).flatten ++ cntL (t.2.2.1 - 0) 46 else (ys1.map tl).flatten) = ((ys1 ++ [cntS (t.2.2.1 - 0) (Str.ofString ".")]).map tl).flatten := by
            rw [if_pos d, List.map_append, List.flatten_append]
            show _ = _ ++ [tl (cntS (t.2.2.1 - 0) (Str.ofString "."))].flatten
            rw [tl_cntS tl_dot]
            simp
          have ly2 : (ys1 ++ [cntS (t.2.2.1 - 0) (Str.ofString ".")]).length ≤ 3 * i + 2 := by
            rw [List.length_append, List.length_singleton]
            omega
          generalize ys1 ++ [cntS (t.2.2.1 - 0) (Str.ofString ".")] = ys2 at hp2 yl2 w2 ly2
          generalize upd Ha p (.lst (ys1.map V.str ++ [.str (cntS (t.2.2.1 - 0) (Str.ofString "."))])) = Hb at sb2 hp2
          refine ⟨_, rfl, .inl ⟨rfl, _, lst_of hp2⟩, _, rfl, _, _, rfl, by show (t.2.2.2).natAbs < _; omega, by decide, _, _, _, rfl, rfl, hp2, by rw [List.length_map, sizeLine_eq]; omega, ?_⟩
          refine ⟨_, rfl, _, rfl, _, _, rfl, rfl, fun b o nb e => ?_, ys2 ++ [cntS t.2.2.2 (Str.ofString "O")], t.2.1, t.2.2.1 + t.2.2.2, _, _, _, rfl, ?_, ?_, ?_, fun y m => ?_, fl1, by omega⟩
          · rw [upd_ne nb]
            exact sb2 b o nb e
          · rw [upd_same, List.map_append]
            rfl
          · rw [step]
            rw [wStep_eq w1 w2, List.map_append, List.flatten_append]
            show (_ ++ [tl (cntS t.2.2.2 (Str.ofString "O"))].flatten, _, _) = _
            rw [tl_cntS tl_O]
            simp
          · rw [List.length_append, List.length_singleton]
            omega
          · rcases List.mem_append.mp m with m | m
            · exact yl2 y m
            · rw [List.mem_singleton.mp m]
              exact len_cntS (by omega) (by decide)
        · have d : ¬ 0 < t.2.2.1 := fun z => d (decide_eq_true z)
          have hp2 := hp1
          have sb2 := sb1
          have yl2 := yl1
          have ly2 : ys1.length ≤ 3 * i + 2 := by omega
          have w2 : (if 0 < t.2.2.1 then (ys1.map tl).flatten ++ cntL (t.2.2.1 - 0) 46 else (ys1.map tl).flatten) = (ys1.map tl).flatten := if_neg d
          refine ⟨_, rfl, .inl ⟨rfl, _, lst_of hp2⟩, _, rfl, _, _, rfl, by show (t.2.2.2).natAbs < _; omega, by decide, _, _, _, rfl, rfl, hp2, by rw [List.length_map, sizeLine_eq]; omega, ?_⟩
          refine ⟨_, rfl, _, rfl, _, _, rfl, rfl, fun b o nb e => ?_, ys1 ++ [cntS t.2.2.2 (Str.ofString "O")], t.2.1, t.2.2.1 + t.2.2.2, _, _, _, rfl, ?_, ?_, ?_, fun y m => ?_, fl1, by omega⟩
          · rw [upd_ne nb]
            exact sb2 b o nb e
          · rw [upd_same, List.map_append]
            rfl
          · rw [step]
            rw [wStep_eq w1 w2, List.map_append, List.flatten_append]
            show (_ ++ [tl (cntS t.2.2.2 (Str.ofString "O"))].flatten, _, _) = _
            rw [tl_cntS tl_O]
            simp
          · rw [List.length_append, List.length_singleton]
            omega
          · rcases List.mem_append.mp m with m | m
            · exact yl2 y m
            · rw [List.mem_singleton.mp m]
              exact len_cntS (by omega) (by decide)
      · -- row =
        have c : ¬ last < t.2.1 := fun z => c (decide_eq_true z)
        have sb1 := sb
        have hp1 := hp
        have yl1 := yl
        have w1 : (if last < t.2.1 then ((ys.map tl).flatten ++ cntL (t.2.1 - last) 47, t.2.1, 0) else ((ys.map tl).flatten, last, en)) = ((ys.map tl).flatten, last, en) := if_neg c
        have ly1 : ys.length ≤ 3 * i + 1 := by omega
        have fl1 := fl
        have fe1 := fe
        refine ⟨_, rfl, _, rfl, _, _, rfl, rfl, _, rfl, ite2 (fun d => ?_) (fun d => ?_)⟩
        · have d : en < t.2.2.1 := of_decide_eq_true d
          refine ⟨_, rfl, .inl ⟨rfl, _, lst_of hp1⟩, _, rfl, _, rfl, _, _, rfl, rfl, _, _, rfl, by show (t.2.2.1 - en).natAbs < _; omega, by decide, _, _, _, rfl, rfl, hp1, by rw [List.length_map, sizeLine_eq]; omega, ?_⟩
          have hp2 : upd H' p (.lst (ys.map V.str ++ [.str (cntS (t.2.2.1 - en) (Str.ofString "."))])) p = some (.lst ((ys ++ [cntS (t.2.2.1 - en) (Str.ofString ".")]).map V.str)) := by
            rw [upd_same, List.map_append]
            rfl
          have sb2 : ∀ b o, b ≠ p → H3 b = some o → upd H' p (.lst (ys.map V.str ++ [.str (cntS (t.2.2.1 - en) (Str.ofString "."))])) b = some o := fun b o nb e => by
            rw [upd_ne nb]
            exact sb1 b o nb e
          have yl2 : ∀ y ∈ ys ++ [cntS (t.2.2.1 - en) (Str.ofString ".")], y.length ≤ 1000 := fun y m => by
            rcases List.mem_append.mp m with m | m
            · exact yl1 y m
            · rw [List.mem_singleton.mp m]
              exact len_cntS (by omega) (by decide)
          have w2 : (if en < t.2.2.1 then (ys.map tl).flatten ++ cntL (t.2.2.1 - en) 46 else (ys.map tl).flatten) = ((ys ++ [cntS (t.2.2.1 - en) (Str.ofString ".")]).map tl).flatten := by
            rw [if_pos d, List.map_append, List.flatten_append]
            show _ = _ ++ [tl (cntS (t.2.2.1 - en) (Str.ofString "."))].flatten
            rw [tl_cntS tl_dot]
            simp
          have ly2 : (ys ++ [cntS (t.2.2.1 - en) (Str.ofString ".")]).length ≤ 3 * i + 2 := by
            rw [List.length_append, List.length_singleton]
            omega
          generalize ys ++ [cntS (t.2.2.1 - en) (Str.ofString ".")] = ys2 at hp2 yl2 w2 ly2
          generalize upd H' p (.lst (ys.map V.str ++ [.str (cntS (t.2.2.1 - en) (Str.ofString "."))])) = Hb at sb2 hp2
          refine ⟨_, rfl, .inl ⟨rfl, _, lst_of hp2⟩, _, rfl, _, _, rfl, by show (t.2.2.2).natAbs < _; omega, by decide, _, _, _, rfl, rfl, hp2, by rw [List.length_map, sizeLine_eq]; omega, ?_⟩
          refine ⟨_, rfl, _, rfl, _, _, rfl, rfl, fun b o nb e => ?_, ys2 ++ [cntS t.2.2.2 (Str.ofString "O")], last, t.2.2.1 + t.2.2.2, _, _, _, rfl, ?_, ?_, ?_, fun y m => ?_, fl1, by omega⟩
          · rw [upd_ne nb]
            exact sb2 b o nb e
          · rw [upd_same, List.map_append]
            rfl
          · rw [step]
            rw [wStep_eq w1 w2, List.map_append, List.flatten_append]
            show (_ ++ [tl (cntS t.2.2.2 (Str.ofString "O"))].flatten, _, _) = _
            rw [tl_cntS tl_O]
            simp
          · rw [List.length_append, List.length_singleton]
            omega
          · rcases List.mem_append.mp m with m | m
            · exact yl2 y m
            · rw [List.mem_singleton.mp m]
              exact len_cntS (by omega) (by decide)
        · have d : ¬ en < t.2.2.1 := fun z => d (decide_eq_true z)
          have hp2 := hp1
          have sb2 := sb1
          have yl2 := yl1
          have ly2 : ys.length ≤ 3 * i + 2 := by omega
          have w2 : (if en < t.2.2.1 then (ys.map tl).flatten ++ cntL (t.2.2.1 - en) 46 else (ys.map tl).flatten) = (ys.map tl).flatten := if_neg d
          refine ⟨_, rfl, .inl ⟨rfl, _, lst_of hp2⟩, _, rfl, _, _, rfl, by show (t.2.2.2).natAbs < _; omega, by decide, _, _, _, rfl, rfl, hp2, by rw [List.length_map, sizeLine_eq]; omega, ?_⟩
          refine ⟨_, rfl, _, rfl, _, _, rfl, rfl, fun b o nb e => ?_, ys ++ [cntS t.2.2.2 (Str.ofString "O")], last, t.2.2.1 + t.2.2.2, _, _, _, rfl, ?_, ?_, ?_, fun y m => ?_, fl1, by omega⟩
          · rw [upd_ne nb]
            exact sb2 b o nb e
          · rw [upd_same, List.map_append]
            rfl
          · rw [step]
            rw [wStep_eq w1 w2, List.map_append, List.flatten_append]
            show (_ ++ [tl (cntS t.2.2.2 (Str.ofString "O"))].flatten, _, _) = _
            rw [tl_cntS tl_O]
            simp
          · rw [List.length_append, List.length_singleton]
            omega
          · rcases List.mem_append.mp m with m | m
            · exact yl2 y m
            · rw [List.mem_singleton.mp m]
              exact len_cntS (by omega) (by decide)
    · rintro σ H' ⟨sb, ys, last, en, x0, y0, z0, rfl, hp, hw, ly, yl, fl, fe⟩
      rw [List.take_of_length_le (by rw [← et, List.length_map, List.length_map]; exact Nat.le_refl _)] at hw
      have sH : Same H (upd H' p (.lst (ys.map V.str ++ [.str (Str.ofString "!")]))) := fun b o e => by
        have nb : b ≠ p := fun z => by
          rw [z, np] at e
          cases e
        rw [upd_ne nb]
        exact sb b o nb (e3 _ _ (e2 _ _ (e1 _ _ e)))
      have hp1 : upd H' p (.lst (ys.map V.str ++ [.str (Str.ofString "!")])) p = some (.lst ((ys ++ [Str.ofString "!"]).map V.str)) := by
        rw [upd_same, List.map_append]
        rfl
      rw [List.length_map] at ly
      refine ⟨_, rfl, .inl ⟨rfl, _, lst_of hp⟩, _, _, _, rfl, rfl, hp, by rw [List.length_map, sizeLine_eq]; omega, ?_⟩
      have all1 : ∀ y ∈ ys ++ [Str.ofString "!"], y.length ≤ 1000 := fun y m => by
        rcases List.mem_append.mp m with m | m
        · exact yl y m
        · rw [List.mem_singleton.mp m]
          decide
      have sum1 := sum_len all1
      have ll1 : (ys ++ [Str.ofString "!"]).length ≤ 13201 := by
        rw [List.length_append, List.length_singleton]
        omega
      have tj : tl (Txt.join (Str.ofString "") (ys ++ [Str.ofString "!"])) = ((ys ++ [Str.ofString "!"]).map tl).flatten := by
        rw [join_eq, tl_join, tl_e, joinL_e]
      refine ⟨⟨_, rfl⟩, _, rfl, _, p, ys ++ [Str.ofString "!"], rfl, rfl, .inl (lst_of hp1), ?_, ?_⟩
      · rw [show (Str.ofString "").length = 0 by decide +kernel]
        omega
      · refine q _ _ qs sH hm ?_ ?_
        · rw [tj, List.map_append, List.flatten_append]
          show _ ++ [tl (Str.ofString "!")].flatten = _
          rw [tl_mark]
          unfold writeP
          rw [← hw]
          simp
        · rw [TL.len_tl, tj, List.length_flatten, List.map_map]
          have : ((ys ++ [Str.ofString "!"]).map (List.length ∘ tl)) = (ys ++ [Str.ofString "!"]).map (·.length) := List.map_congr_left fun y _ => (TL.len_tl y).symm
          rw [this]
          omega
end
end My
namespace My
open PySem PySem.Spec PyProof.Rows L2 Vx
open TL
local macro_rules | `(tactic| k_invariant "new" ($n, $H:ident, $e:ident, $h:ident)) => `(tactic| (generalize hE : upd _ _ _ = $H; obtain ⟨$e:ident, $h:ident⟩ := gen_e hE $n; clear hE))
local macro_rules | `(tactic| k_places) => `(tactic| first
  | assumption
  | exact lst_of (by assumption)
  | exact tup_of (by assumption)
  | (refine getS (by assumption) ?_; k_places)
  | (refine Same.seq (by assumption) ?_; k_places)
  | (refine tupS (by assumption) ?_; k_places)
  | (refine lst_of ?_; k_places)
  | (refine tup_of ?_; k_places))
local macro_rules | `(tactic| k_subL) => `(tactic| first
  | k_places
  | solve_by_elim (maxDepth := 10) [getS, lst_of, tup_of, Same.seq, tupS])
local macro_rules | `(tactic| k_offL) => `(tactic| first
  | (show (0 : Int) < _; first | omega | decide)
  | (refine ⟨?_, ?_⟩ <;> first | omega | decide)
  | exact .inr ⟨by decide, by decide⟩
  | exact .inl ⟨by decide, by decide⟩
  | exact .inl ⟨by omega, by omega⟩
  | omega)
local macro_rules | `(tactic| k_clsL) => `(tactic| exact Nat.le_of_ble_eq_true rfl)
local macro_rules | `(tactic| k_upd) => `(tactic| simp only [L2.start, List.map_cons, List.map_nil, List.length_cons, List.length_nil, List.replicate_succ, List.replicate_zero, List.cons_append, List.nil_append, List.set_cons_zero, List.set_cons_succ])
section
variable {P : Program} {w : World} {K : PySem.W.Frag} {mg : Str → Option Value} {base : Heap}
/-! ### reading a run text, as the program does -/
abbrev TSt := List Pr × Int × Int × List Nat
def numT (d : List Nat) : Nat := if d = [] then 1 else NumText.digitsVal d
def tStep (st : TSt) (c : Nat) : TSt :=
  if 48 ≤ c ∧ c ≤ 57 then (st.1, st.2.1, st.2.2.1, st.2.2.2 ++ [c])
  else if c = 47 then (st.1, st.2.1 + numT st.2.2.2, 0, [])
  else if c = 79 then (st.1 ++ (List.range (numT st.2.2.2)).map (fun (k : Nat) => (st.2.1, st.2.2.1 + (k : Int))), st.2.1, st.2.2.1 + numT st.2.2.2, [])
  else if c = 46 then (st.1, st.2.1, st.2.2.1 + numT st.2.2.2, [])
  else (st.1, st.2.1, st.2.2.1, [])
def cellsT (l : List Nat) : TSt := l.foldl tStep ([], 0, 0, [])
theorem val_lt : ∀ (l : List Nat) (acc : Nat), NumText.AllDigits l → l.foldl (fun acc c => acc * 10 + (c - 48)) acc < (acc + 1) * 10 ^ l.length
  | [], acc, _ => by simp
  | c :: l, acc, h => by
    have hc := h.head
    rw [List.foldl_cons, List.length_cons]
    refine Nat.lt_of_lt_of_le (val_lt l _ h.tail) ?_
    rw [Nat.pow_succ, Nat.mul_comm (10 ^ l.length) 10, ← Nat.mul_assoc]
    exact Nat.mul_le_mul_right _ (by omega)
theorem numT_lt {d : List Nat} (h : NumText.AllDigits d) (l : d.length ≤ 3) : numT d < 1000 := by
  unfold numT
  by_cases e : d = []
  · rw [if_pos e]
    decide
  · rw [if_neg e]
    have := val_lt d 0 h
    have h2 : 10 ^ d.length ≤ 10 ^ 3 := Nat.pow_le_pow_right (by decide) l
    show d.foldl _ 0 < 1000
    omega
theorem tl_digits : tl (Str.ofString "0123456789") = [48, 49, 50, 51, 52, 53, 54, 55, 56, 57] := by decide +kernel
theorem mem_digits {c : Nat} : c ∈ (Str.ofString "0123456789").cps.toList ↔ 48 ≤ c ∧ c ≤ 57 := by
  show c ∈ tl (Str.ofString "0123456789") ↔ _
  rw [tl_digits]
  simp only [List.mem_cons, List.not_mem_nil, or_false]
  omega
theorem sgE (c k : Nat) (s : Str) (h : s = ⟨#[k]⟩) [i1 : Decidable (V.str ⟨#[c]⟩ = V.str s)] : V.bl (decide (V.str ⟨#[c]⟩ = V.str s)) = V.bl (decide (c = k)) := by
  subst h
  refine congrArg V.bl (decide_eq_decide.mpr ⟨fun e => ?_, fun e => by rw [e]⟩)
  have e := V.str.inj e
  injection e with e
  injection e with e
  injection e
theorem o47 : Str.ofString "/" = ⟨#[47]⟩ := by decide +kernel
theorem o79 : Str.ofString "O" = ⟨#[79]⟩ := by decide +kernel
theorem o46 : Str.ofString "." = ⟨#[46]⟩ := by decide +kernel
theorem sg47 (c : Nat) [i1 : Decidable (V.str ⟨#[c]⟩ = V.str (Str.ofString "/"))] : V.bl (decide (V.str ⟨#[c]⟩ = V.str (Str.ofString "/"))) = V.bl (decide (c = 47)) := sgE c 47 _ o47
theorem sg79 (c : Nat) [i1 : Decidable (V.str ⟨#[c]⟩ = V.str (Str.ofString "O"))] : V.bl (decide (V.str ⟨#[c]⟩ = V.str (Str.ofString "O"))) = V.bl (decide (c = 79)) := sgE c 79 _ o79
theorem sgIn (c : Nat) : V.bl (if false = true then !inV (V.str ⟨#[c]⟩) [V.str (Str.ofString "O"), V.str (Str.ofString ".")] else inV (V.str ⟨#[c]⟩) [V.str (Str.ofString "O"), V.str (Str.ofString ".")]) = V.bl (decide (c = 79 ∨ c = 46)) := by
  rw [o79, o46]
  refine congrArg V.bl ?_
  show (eqV (.str ⟨#[79]⟩) (.str ⟨#[c]⟩) || (eqV (.str ⟨#[46]⟩) (.str ⟨#[c]⟩) || false)) = _
  show (((⟨#[79]⟩ : Str) == ⟨#[c]⟩) || (((⟨#[46]⟩ : Str) == ⟨#[c]⟩) || false)) = _
  have q : ∀ k, ((⟨#[k]⟩ : Str) == ⟨#[c]⟩) = decide (c = k) := fun k => by
    by_cases e : c = k
    · rw [e, decide_eq_true rfl]
      exact beq_self_eq_true _
    · rw [decide_eq_false e]
      refine beq_eq_false_iff_ne.mpr fun z => e ?_
      injection z with z
      injection z with z
      injection z with z _
      exact z.symm
  rw [q, q]
  by_cases e1 : c = 79 <;> by_cases e2 : c = 46 <;> simp [e1, e2]
def sp_cells_of_text : Sp := fun vs H Q _ => ∃ z : Str, vs = [.str z] ∧ z.length ≤ 1000 ∧ (∀ i, (cellsT ((tl z).take i)).2.2.2.length ≤ 3) ∧
  ∀ (H' : Hp) (p : Addr), H p = none → Same H H' → Cells H' p (cellsT (tl z)).1 → Q (.ref p) H'
theorem ok_cells_of_text (T : Txt K mg) : FnOk P w K mg base CX0 1 T.f_cells_of_text T.d_cells_of_text ["string"] sp_cells_of_text := by
  refine T.F_cells_of_text.ok sc_cells_of_text (fun vs H Q E h => ?_) (fun cdv A outer s H vs Q E hr h => ?_)
  · obtain ⟨_, rfl, _⟩ := h
    rfl
  · obtain ⟨z, rfl, lz, small, q⟩ := h
    refine ⟨_, (pss_cons (ps_set (i := 1) sc_cells_of_text.nd rfl (.inl rfl) (pe_lst pa_nil))
      (pss_cons (ps_set (i := 2) sc_cells_of_text.nd rfl (.inr rfl) pe_int)
      (pss_cons (ps_set (i := 3) sc_cells_of_text.nd rfl (.inr rfl) pe_int)
      (pss_cons (ps_set (i := 4) sc_cells_of_text.nd rfl (.inl rfl) pe_str)
      (pss_cons (ps_for PassesOwn.never rfl (pi_str (pv 0)) (pg_name (i := 5) sc_cells_of_text.nd rfl (.inl rfl))
      (pss_cons (ps_if (pt_cmpR op_in_sign (pv 5) (pe_gcx (by rfl) T.c_DIGITS) rfl)
      (pss_cons (ps_aug (i := 4) sc_cells_of_text.nd rfl (.inl rfl) (pv 5) ip_addS)
      (pss_one ps_continue))
      pss_nil)
      (pss_cons (ps_set (i := 6) sc_cells_of_text.nd rfl (.inl rfl) (pe_ifExp (pt_truth (pv 4) (by intro _; rfl)) (pe_callTy call_int_str (by rfl) T.z_int (by decide +kernel) (pa_cons (pv 4) pa_nil)) pe_int))
      (pss_cons (ps_set (i := 4) sc_cells_of_text.nd rfl (.inl rfl) pe_str)
      (pss_cons (ps_if (pt_cmpR op_eq (pv 5) (pe_gcx (by rfl) T.c_ROW_END) (nomark _))
      (pss_cons (ps_aug (i := 2) sc_cells_of_text.nd rfl (.inr rfl) (pv 6) ip_add)
      (pss_one (ps_set (i := 3) sc_cells_of_text.nd rfl (.inr rfl) pe_int)))
      pss_nil)
      (pss_cons (ps_if (pt_cmpR op_eq (pv 5) (pe_gcx (by rfl) T.c_ALIVE) (nomark _))
      (pss_one (ps_expr (pe_bm PySem.F.plainAttrs_list PySem.F.slot_list_extend PySem.F.type_list_extend mt_extend (pv 1) (pa_cons (pe_lc (own := [("step", 7)]) (g := gName 7) (tt := tYes) rfl sc_cells_of_text.nd (pi_range1 (by rfl) T.z_range (pa_cons (pv 6) pa_nil)) (blkOk_by (own := [("step", 7)]) (N := N_cells_of_text) (sc := defScope s_cells_of_text) (by decide +kernel)) (fun _ _ _ _ _ => pg_name (i := 7) sc_cells_of_text.nd rfl (Or.inl rfl)) (fun _ _ _ _ _ => pts_nil) (fun _ _ _ _ _ => (pe_tup (pa_cons (pv 2) (pa_cons (pe_op op_add (pv 3) (pv 7)) pa_nil))))) pa_nil))))
      pss_nil)
      (pss_one (ps_if (pt_cmpR op_in_seq (pv 5) (pe_tup (pa_cons (pe_gcx (by rfl) T.c_ALIVE) (pa_cons (pe_gcx (by rfl) T.c_DEAD) pa_nil))) rfl)
      (pss_one (ps_aug (i := 3) sc_cells_of_text.nd rfl (.inr rfl) (pv 6) ip_add))
      pss_nil))))))))
      (pss_one (ps_ret (pv 1)))))))), ?_⟩
    refine ⟨by k_clsL, fun p np => ?_⟩
    k_invariant "new" (np, H1, e1, g1)
    refine ⟨_, rfl, z, rfl, for_it walk_str (fun i σ H' => ∃ (us : List (Addr × Pr)) (row col : Int) (d : Str) (x y v : Option V), σ = [some (.str z), some (.ref p), some (.int row), some (.int col), some (.str d), x, y, v] ∧ Same H H' ∧
      H' p = some (.lst (us.map fun t => V.ref t.1)) ∧ (∀ u ∈ us, H' u.1 = some (.tup [.int u.2.1, .int u.2.2])) ∧ (us.map (·.2), row, col, tl d) = cellsT ((tl z).take i) ∧ us.length ≤ 1000 * i ∧ NumText.AllDigits (tl d))
      ⟨[], 0, 0, _, _, _, _, rfl, e1, g1, fun _ m => (by cases m), ?_, by decide, ?_⟩ (fun _ _ _ _ _ => trivial) ?_ ?_⟩
    · rw [tl_e]
      rfl
    · rw [tl_e]
      intro c m
      cases m
    · rintro i v σ H2 H' hi ⟨us, row, col, d, x0, y0, v0, rfl, sm, hp, hu, hw, lu, ad⟩ ⟨rfl, c, hc, rfl⟩
      have hc' : (tl z)[i]? = some c := by
        show z.cps.toList[i]? = some c
        rw [Array.getElem?_toList]
        exact hc
      have step : cellsT ((tl z).take (i + 1)) = tStep (us.map (·.2), row, col, tl d) c := by
        unfold cellsT at hw ⊢
        rw [take_next hc', List.foldl_append, ← hw]
        rfl
      have sd : (tl d).length ≤ 3 := by
        have := small i
        rw [← hw] at this
        exact this
      have dl : d.length ≤ 3 := by
        rw [TL.len_tl]
        exact sd
      have nl := numT_lt ad sd
      refine ⟨_, rfl, c, _, rfl, rfl, _, rfl, ite2 (fun cd => ?_) (fun cd => ?_)⟩
      · have cd := mem_digits.mp (of_decide_eq_true cd)
        have tld : tl (d ++ (⟨#[c]⟩ : Str)) = tl d ++ [c] := tl_append _ _
        refine ⟨_, rfl, _, rfl, _, _, rfl, rfl, ?_, us, row, col, d ++ (⟨#[c]⟩ : Str), _, _, _, rfl, sm, hp, hu, ?_, by omega, ?_⟩
        · rw [sizeLine_eq]
          show d.length + 1 ≤ _
          omega
        · rw [step, tld]
          unfold tStep
          rw [if_pos cd]
        · rw [tld]
          intro k m
          rcases List.mem_append.mp m with m | m
          · exact ad k m
          · rw [List.mem_singleton.mp m]
            exact cd
      · have cd : ¬ (48 ≤ c ∧ c ≤ 57) := fun e => cd (decide_eq_true (mem_digits.mpr e))
        refine ⟨_, rfl, decide (tl d ≠ []), ⟨by rw [sizeLine_eq]; omega, ?_⟩, ite2 (fun e => ?_) (fun e => ?_)⟩
        · rw [TL.len_tl]
          cases tl d with
          | nil => rfl
          | cons x l =>
            rw [decide_eq_true (by simp)]
            refine (bne_iff_ne.mpr ?_).symm
            rw [List.length_cons]
            omega
        · have e := of_decide_eq_true e
          have hn : numT (tl d) = NumText.digitsVal (tl d) := if_neg e
          rw [hn] at nl
          refine ⟨_, rfl, d, ((NumText.digitsVal (tl d) : Nat) : Int), rfl, PySem.intText_digits ad e (by omega), by omega, ?_⟩
          have fin : ∀ (ws : List (Addr × Pr)) (r k : Int), (tStep (us.map (·.2), row, col, tl d) c = (ws.map (·.2), r, k, [])) → (ws.map (·.2), r, k, tl (Str.ofString "")) = cellsT ((tl z).take (i + 1)) := fun ws r k e => by rw [step, e, tl_e]
          refine ⟨_, rfl, rfl, _, sg47 c, ite2 (fun a => ?_) (fun a => ?_)⟩
          · have a : c = 47 := of_decide_eq_true a
            refine ⟨_, rfl, _, rfl, _, _, rfl, rfl, ?_⟩
            refine ⟨_, rfl, rfl, _, sg79 c, ite2 (fun b => absurd (of_decide_eq_true b) (by omega)) (fun b => ?_)⟩
            refine ⟨_, rfl, by k_clsL, fun t nt => ?_⟩
            refine ⟨_, _, rfl, .inr (tup_of upd_same), rfl, rfl, _, sgIn c, ite2 (fun b2 => absurd (of_decide_eq_true b2) (by omega)) (fun b2 => ?_)⟩
            have tp : ∀ b o, H' b = some o → upd H' t (.tup [.str (Str.ofString "O"), .str (Str.ofString ".")]) b = some o := newS nt
            refine ⟨us, row + ((NumText.digitsVal (tl d) : Nat) : Int), 0, Str.ofString "", _, _, _, rfl, sm.trans (newS nt), tp _ _ hp, fun u m => tp _ _ (hu u m), fin _ _ _ ?_, by omega, by rw [tl_e]; intro c m; cases m⟩
            unfold tStep
            rw [if_neg cd, if_pos a, hn]
          · have a : ¬ c = 47 := fun e => a (decide_eq_true e)
            refine ⟨_, rfl, rfl, _, sg79 c, ite2 (fun b => ?_) (fun b => ?_)⟩
            · have b : c = 79 := of_decide_eq_true b
              refine ⟨_, rfl, .inl ⟨rfl, _, lst_of hp⟩, _, rfl, ((NumText.digitsVal (tl d) : Nat) : Int), rfl, ?_, ?_, fun D nD => lc_pairs (fun (k : Nat) => (row, col + (0 + (k : Int)))) nD (by rw [sizeLine_eq]; omega) ?_ fun H3 ws e3 gD hws ew => ?_⟩
              · omega
              · omega
              · intro j H4 Po Pn hj sm4 hq
                exact ⟨rfl, tyesT ⟨_, rfl, _, rfl, _, rfl, _, _, rfl, rfl, by k_clsL, fun t2 n2 => hq t2 n2⟩⟩
              · have f1 : (fun (k : Nat) => ((row, col + (0 + (k : Int))) : Pr)) = fun (k : Nat) => (row, col + (k : Int)) := funext fun k => by rw [Int.zero_add]
                have lw : ws.length < 1000 := by
                  have z := congrArg List.length ew
                  rw [List.length_map, List.length_map, List.length_range] at z
                  omega
                have hp3 := e3 _ _ hp
                refine ⟨_, _, _, _, rfl, rfl, hp3, gD, by rw [List.length_map, List.length_map, sizeLine_eq]; have := Array.length_toList (xs := z.cps); have : z.length = z.cps.size := rfl; omega, ?_⟩
                have s5 : Same H (upd H3 p (.lst ((us.map fun t => V.ref t.1) ++ ws.map fun t => V.ref t.1))) := mutS (sm.trans e3) np
                have g5 : upd H3 p (.lst ((us.map fun t => V.ref t.1) ++ ws.map fun t => V.ref t.1)) p = some (.lst ((us ++ ws).map fun t => V.ref t.1)) := by rw [upd_same, List.map_append]
                have u5 : ∀ u ∈ us ++ ws, upd H3 p (.lst ((us.map fun t => V.ref t.1) ++ ws.map fun t => V.ref t.1)) u.1 = some (.tup [.int u.2.1, .int u.2.2]) := fun u m => by
                  have g : H3 u.1 = some (.tup [.int u.2.1, .int u.2.2]) := by
                    rcases List.mem_append.mp m with m | m
                    · exact e3 _ _ (hu u m)
                    · exact hws u m
                  rw [upd_ne (fun e => by rw [e, hp3] at g; cases g)]
                  exact g
                generalize upd H3 p (.lst ((us.map fun t => V.ref t.1) ++ ws.map fun t => V.ref t.1)) = H5 at s5 g5 u5
                refine ⟨_, rfl, by k_clsL, fun t nt => ?_⟩
                have tp : ∀ b o, H5 b = some o → upd H5 t (.tup [.str (Str.ofString "O"), .str (Str.ofString ".")]) b = some o := newS nt
                refine ⟨_, _, rfl, .inr (tup_of upd_same), rfl, rfl, _, sgIn c, ite2 (fun b2 => ?_) (fun b2 => absurd (decide_eq_true (.inl b)) b2)⟩
                refine ⟨_, rfl, _, rfl, _, _, rfl, rfl, us ++ ws, row, col + ((NumText.digitsVal (tl d) : Nat) : Int), Str.ofString "", _, _, _, rfl, s5.trans (newS nt), tp _ _ g5, fun u m => tp _ _ (u5 u m), fin _ _ _ ?_, by rw [List.length_append]; omega, by rw [tl_e]; intro c m; cases m⟩
                rw [List.map_append, ew, f1]
                unfold tStep
                rw [if_neg cd, if_neg a, if_pos b, hn, Int.toNat_natCast]
            · have b : ¬ c = 79 := fun e => b (decide_eq_true e)
              refine ⟨_, rfl, by k_clsL, fun t nt => ?_⟩
              have tp : ∀ b o, H' b = some o → upd H' t (.tup [.str (Str.ofString "O"), .str (Str.ofString ".")]) b = some o := newS nt
              refine ⟨_, _, rfl, .inr (tup_of upd_same), rfl, rfl, _, sgIn c, ite2 (fun b2 => ?_) (fun b2 => ?_)⟩
              · have b2 : c = 46 := by have := of_decide_eq_true b2; omega
                refine ⟨_, rfl, _, rfl, _, _, rfl, rfl, us, row, col + ((NumText.digitsVal (tl d) : Nat) : Int), Str.ofString "", _, _, _, rfl, sm.trans (newS nt), tp _ _ hp, fun u m => tp _ _ (hu u m), fin _ _ _ ?_, by omega, by rw [tl_e]; intro c m; cases m⟩
                unfold tStep
                rw [if_neg cd, if_neg a, if_neg b, if_pos b2, hn]
              · have b2 : ¬ c = 46 := fun e => b2 (decide_eq_true (.inr e))
                refine ⟨us, row, col, Str.ofString "", _, _, _, rfl, sm.trans (newS nt), tp _ _ hp, fun u m => tp _ _ (hu u m), fin _ _ _ ?_, by omega, by rw [tl_e]; intro c m; cases m⟩
                unfold tStep
                rw [if_neg cd, if_neg a, if_neg b, if_neg b2]
        · have e : tl d = [] := by
            by_cases z : tl d = []
            · exact z
            · exact absurd (decide_eq_true z) e
          have hn : numT (tl d) = 1 := if_pos e
          have fin : ∀ (ws : List (Addr × Pr)) (r k : Int), (tStep (us.map (·.2), row, col, tl d) c = (ws.map (·.2), r, k, [])) → (ws.map (·.2), r, k, tl (Str.ofString "")) = cellsT ((tl z).take (i + 1)) := fun ws r k e => by rw [step, e, tl_e]
          refine ⟨_, rfl, rfl, _, sg47 c, ite2 (fun a => ?_) (fun a => ?_)⟩
          · have a : c = 47 := of_decide_eq_true a
            refine ⟨_, rfl, _, rfl, _, _, rfl, rfl, ?_⟩
            refine ⟨_, rfl, rfl, _, sg79 c, ite2 (fun b => absurd (of_decide_eq_true b) (by omega)) (fun b => ?_)⟩
            refine ⟨_, rfl, by k_clsL, fun t nt => ?_⟩
            refine ⟨_, _, rfl, .inr (tup_of upd_same), rfl, rfl, _, sgIn c, ite2 (fun b2 => absurd (of_decide_eq_true b2) (by omega)) (fun b2 => ?_)⟩
            have tp : ∀ b o, H' b = some o → upd H' t (.tup [.str (Str.ofString "O"), .str (Str.ofString ".")]) b = some o := newS nt
            refine ⟨us, row + ((1 : Nat) : Int), 0, Str.ofString "", _, _, _, rfl, sm.trans (newS nt), tp _ _ hp, fun u m => tp _ _ (hu u m), fin _ _ _ ?_, by omega, by rw [tl_e]; intro c m; cases m⟩
            unfold tStep
            rw [if_neg cd, if_pos a, hn]
          · have a : ¬ c = 47 := fun e => a (decide_eq_true e)
            refine ⟨_, rfl, rfl, _, sg79 c, ite2 (fun b => ?_) (fun b => ?_)⟩
            · have b : c = 79 := of_decide_eq_true b
              refine ⟨_, rfl, .inl ⟨rfl, _, lst_of hp⟩, _, rfl, ((1 : Nat) : Int), rfl, ?_, ?_, fun D nD => lc_pairs (fun (k : Nat) => (row, col + (0 + (k : Int)))) nD (by rw [sizeLine_eq]; omega) ?_ fun H3 ws e3 gD hws ew => ?_⟩
              · omega
              · omega
              · intro j H4 Po Pn hj sm4 hq
                exact ⟨rfl, tyesT ⟨_, rfl, _, rfl, _, rfl, _, _, rfl, rfl, by k_clsL, fun t2 n2 => hq t2 n2⟩⟩
              · have f1 : (fun (k : Nat) => ((row, col + (0 + (k : Int))) : Pr)) = fun (k : Nat) => (row, col + (k : Int)) := funext fun k => by rw [Int.zero_add]
                have lw : ws.length < 1000 := by
                  have z := congrArg List.length ew
                  rw [List.length_map, List.length_map, List.length_range] at z
                  omega
                have hp3 := e3 _ _ hp
                refine ⟨_, _, _, _, rfl, rfl, hp3, gD, by rw [List.length_map, List.length_map, sizeLine_eq]; have := Array.length_toList (xs := z.cps); have : z.length = z.cps.size := rfl; omega, ?_⟩
                have s5 : Same H (upd H3 p (.lst ((us.map fun t => V.ref t.1) ++ ws.map fun t => V.ref t.1))) := mutS (sm.trans e3) np
                have g5 : upd H3 p (.lst ((us.map fun t => V.ref t.1) ++ ws.map fun t => V.ref t.1)) p = some (.lst ((us ++ ws).map fun t => V.ref t.1)) := by rw [upd_same, List.map_append]
                have u5 : ∀ u ∈ us ++ ws, upd H3 p (.lst ((us.map fun t => V.ref t.1) ++ ws.map fun t => V.ref t.1)) u.1 = some (.tup [.int u.2.1, .int u.2.2]) := fun u m => by
                  have g : H3 u.1 = some (.tup [.int u.2.1, .int u.2.2]) := by
                    rcases List.mem_append.mp m with m | m
                    · exact e3 _ _ (hu u m)
                    · exact hws u m
                  rw [upd_ne (fun e => by rw [e, hp3] at g; cases g)]
                  exact g
                generalize upd H3 p (.lst ((us.map fun t => V.ref t.1) ++ ws.map fun t => V.ref t.1)) = H5 at s5 g5 u5
                refine ⟨_, rfl, by k_clsL, fun t nt => ?_⟩
                have tp : ∀ b o, H5 b = some o → upd H5 t (.tup [.str (Str.ofString "O"), .str (Str.ofString ".")]) b = some o := newS nt
                refine ⟨_, _, rfl, .inr (tup_of upd_same), rfl, rfl, _, sgIn c, ite2 (fun b2 => ?_) (fun b2 => absurd (decide_eq_true (.inl b)) b2)⟩
                refine ⟨_, rfl, _, rfl, _, _, rfl, rfl, us ++ ws, row, col + ((1 : Nat) : Int), Str.ofString "", _, _, _, rfl, s5.trans (newS nt), tp _ _ g5, fun u m => tp _ _ (u5 u m), fin _ _ _ ?_, by rw [List.length_append]; omega, by rw [tl_e]; intro c m; cases m⟩
                rw [List.map_append, ew, f1]
                unfold tStep
                rw [if_neg cd, if_neg a, if_pos b, hn, Int.toNat_natCast]
            · have b : ¬ c = 79 := fun e => b (decide_eq_true e)
              refine ⟨_, rfl, by k_clsL, fun t nt => ?_⟩
              have tp : ∀ b o, H' b = some o → upd H' t (.tup [.str (Str.ofString "O"), .str (Str.ofString ".")]) b = some o := newS nt
              refine ⟨_, _, rfl, .inr (tup_of upd_same), rfl, rfl, _, sgIn c, ite2 (fun b2 => ?_) (fun b2 => ?_)⟩
              · have b2 : c = 46 := by have := of_decide_eq_true b2; omega
                refine ⟨_, rfl, _, rfl, _, _, rfl, rfl, us, row, col + ((1 : Nat) : Int), Str.ofString "", _, _, _, rfl, sm.trans (newS nt), tp _ _ hp, fun u m => tp _ _ (hu u m), fin _ _ _ ?_, by omega, by rw [tl_e]; intro c m; cases m⟩
                unfold tStep
                rw [if_neg cd, if_neg a, if_neg b, if_pos b2, hn]
              · have b2 : ¬ c = 46 := fun e => b2 (decide_eq_true (.inr e))
                refine ⟨us, row, col, Str.ofString "", _, _, _, rfl, sm.trans (newS nt), tp _ _ hp, fun u m => tp _ _ (hu u m), fin _ _ _ ?_, by omega, by rw [tl_e]; intro c m; cases m⟩
                unfold tStep
                rw [if_neg cd, if_neg a, if_neg b, if_neg b2]
    · rintro σ H' ⟨us, row, col, d, x0, y0, v0, rfl, sm, hp, hu, hw, lu, ad⟩
      have tk : (tl z).take z.cps.size = tl z := List.take_of_length_le (by show z.cps.toList.length ≤ _; rw [Array.length_toList]; exact Nat.le_refl _)
      rw [tk] at hw
      exact ⟨_, rfl, q H' p np sm ⟨us, hp, hu, congrArg Prod.fst hw⟩⟩
end
end My
namespace My
open PySem PySem.Spec PyProof.Rows L2 Vx
open TL
local macro_rules | `(tactic| k_invariant "new" ($n, $H:ident, $e:ident, $h:ident)) => `(tactic| (generalize hE : upd _ _ _ = $H; obtain ⟨$e:ident, $h:ident⟩ := gen_e hE $n; clear hE))
local macro_rules | `(tactic| k_places) => `(tactic| first
  | assumption
  | exact lst_of (by assumption)
  | exact tup_of (by assumption)
  | (refine getS (by assumption) ?_; k_places)
  | (refine Same.seq (by assumption) ?_; k_places)
  | (refine tupS (by assumption) ?_; k_places)
  | (refine lst_of ?_; k_places)
  | (refine tup_of ?_; k_places))
local macro_rules | `(tactic| k_subL) => `(tactic| first
  | k_places
  | solve_by_elim (maxDepth := 10) [getS, lst_of, tup_of, Same.seq, tupS])
local macro_rules | `(tactic| k_offL) => `(tactic| first
  | (show (0 : Int) < _; first | omega | decide)
  | (refine ⟨?_, ?_⟩ <;> first | omega | decide)
  | exact .inr ⟨by decide, by decide⟩
  | exact .inl ⟨by decide, by decide⟩
  | exact .inl ⟨by omega, by omega⟩
  | omega)
local macro_rules | `(tactic| k_clsL) => `(tactic| exact Nat.le_of_ble_eq_true rfl)
local macro_rules | `(tactic| k_upd) => `(tactic| simp only [L2.start, List.map_cons, List.map_nil, List.length_cons, List.length_nil, List.replicate_succ, List.replicate_zero, List.cons_append, List.nil_append, List.set_cons_zero, List.set_cons_succ])
section
variable {P : Program} {w : World} {K : PySem.W.Frag} {mg : Str → Option Value} {base : Heap}
/-! ### what is written is read back -/
def runCells (t : Run) : List Pr := (List.range t.2.2.toNat).map fun (k : Nat) => (t.1, t.2.1 + (k : Int))
theorem runCells_one (r c : Int) : runCells (r, c, 1) = [(r, c)] := by
  show [(r, c + ((0 : Nat) : Int))] = _
  rw [show c + ((0 : Nat) : Int) = c by omega]
theorem runCells_more {r c n : Int} (h : 0 ≤ n) : runCells (r, c, n + 1) = runCells (r, c, n) ++ [(r, c + n)] := by
  unfold runCells
  show (List.range (n + 1).toNat).map _ = _
  rw [show (n + 1).toNat = n.toNat + 1 by omega, List.range_succ, List.map_append]
  show _ ++ [(r, c + ((n.toNat : Nat) : Int))] = _
  rw [show ((n.toNat : Nat) : Int) = n by omega]
/-- runs in order, from a row and a place on: each behind the one before -/
def Ordered : Int → Int → List Run → Prop
  | _, _, [] => True
  | row, en, t :: rs => (row < t.1 ∧ 0 ≤ t.2.1 ∨ row = t.1 ∧ en ≤ t.2.1) ∧ 1 ≤ t.2.2 ∧ Ordered t.1 (t.2.1 + t.2.2) rs
theorem runs_back : ∀ (l : List Pr) (rs : List Run), (∀ t ∈ rs, 1 ≤ t.2.2) → ((l.foldl runStep rs).map runCells).flatten = (rs.map runCells).flatten ++ l ∧ ∀ t ∈ l.foldl runStep rs, 1 ≤ t.2.2
  | [], rs, h => ⟨by simp, h⟩
  | x :: l, rs, h => by
    rw [List.foldl_cons]
    have key : ((runStep rs x).map runCells).flatten = (rs.map runCells).flatten ++ [x] ∧ ∀ t ∈ runStep rs x, 1 ≤ t.2.2 := by
      rcases List.eq_nil_or_concat rs with rfl | ⟨us, u, e⟩
      · refine ⟨?_, fun t m => ?_⟩
        · show (([(x.1, x.2, (1 : Int))]).map runCells).flatten = _
          simp [runCells_one]
        · have m : t ∈ [(x.1, x.2, (1 : Int))] := m
          rw [List.mem_singleton.mp m]
          exact Int.le_refl 1
      · rw [List.concat_eq_append] at e
        subst e
        have hu := h u (List.mem_append.mpr (.inr (List.mem_singleton.mpr rfl)))
        rw [runStep_last]
        by_cases c : u.1 = x.1 ∧ u.2.1 + u.2.2 = x.2
        · rw [if_pos c]
          refine ⟨?_, fun t m => ?_⟩
          · rw [List.map_append, List.map_append, List.flatten_append, List.flatten_append]
            show _ ++ [runCells (u.1, u.2.1, u.2.2 + 1)].flatten = _ ++ [runCells u].flatten ++ _
            rw [runCells_more (by omega), c.2, c.1]
            have : runCells (x.1, u.2.1, u.2.2) = runCells u := by rw [← c.1]
            rw [this]
            simp
          · rcases List.mem_append.mp m with m | m
            · exact h t (List.mem_append.mpr (.inl m))
            · rw [List.mem_singleton.mp m]
              show 1 ≤ u.2.2 + 1
              omega
        · rw [if_neg c]
          refine ⟨?_, fun t m => ?_⟩
          · rw [List.map_append (l₁ := us ++ [u]), List.flatten_append]
            show _ ++ [runCells (x.1, x.2, 1)].flatten = _
            rw [runCells_one]
            simp
          · rcases List.mem_append.mp m with m | m
            · exact h t m
            · rw [List.mem_singleton.mp m]
              exact Int.le_refl 1
    obtain ⟨h1, h2⟩ := runs_back l (runStep rs x) key.2
    refine ⟨?_, h2⟩
    rw [h1, key.1]
    simp
theorem runs_cells (l : List Pr) : ((runsP l).map runCells).flatten = l := by
  have h := (runs_back l [] fun _ m => (by cases m)).1
  unfold runsP
  rw [h]
  rfl
theorem ord_snoc : ∀ (rs : List Run) (u t : Run) (row en : Int), Ordered row en (rs ++ [u]) → (u.1 < t.1 ∧ 0 ≤ t.2.1 ∨ u.1 = t.1 ∧ u.2.1 + u.2.2 ≤ t.2.1) → 1 ≤ t.2.2 → Ordered row en (rs ++ [u] ++ [t])
  | [], u, t, row, en, h, h1, h2 => ⟨h.1, h.2.1, h1, h2, trivial⟩
  | x :: rs, u, t, row, en, h, h1, h2 => ⟨h.1, h.2.1, ord_snoc rs u t _ _ h.2.2 h1 h2⟩
theorem ord_grow : ∀ (rs : List Run) (u : Run) (row en : Int), Ordered row en (rs ++ [u]) → Ordered row en (rs ++ [(u.1, u.2.1, u.2.2 + 1)])
  | [], u, row, en, h => ⟨h.1, by show 1 ≤ u.2.2 + 1; have := h.2.1; omega, trivial⟩
  | x :: rs, u, row, en, h => ⟨h.1, h.2.1, ord_grow rs u _ _ h.2.2⟩
theorem ord_runs : ∀ (l : List Pr) (rs : List Run), Ordered 0 0 rs → (∀ x ∈ l, 0 ≤ x.1 ∧ 0 ≤ x.2) → l.Pairwise ltP → (∀ us u, rs = us ++ [u] → ∀ x ∈ l, u.1 < x.1 ∨ u.1 = x.1 ∧ u.2.1 + u.2.2 ≤ x.2) → Ordered 0 0 (l.foldl runStep rs)
  | [], rs, h, _, _, _ => h
  | x :: l, rs, h, h1, h2, h3 => by
    rw [List.foldl_cons]
    have hx := h1 x List.mem_cons_self
    obtain ⟨p1, p2⟩ := List.pairwise_cons.mp h2
    have nx : ∀ y ∈ l, x.1 < y.1 ∨ x.1 = y.1 ∧ x.2 + 1 ≤ y.2 := fun y m => by
      have := ltP_iff.mp (p1 y m)
      omega
    rcases List.eq_nil_or_concat rs with rfl | ⟨us, u, e⟩
    · refine ord_runs l _ ?_ (fun y m => h1 y (List.mem_cons_of_mem _ m)) p2 ?_
      · show Ordered 0 0 [(x.1, x.2, (1 : Int))]
        refine ⟨?_, Int.le_refl 1, trivial⟩
        show (0 : Int) < x.1 ∧ 0 ≤ x.2 ∨ 0 = x.1 ∧ 0 ≤ x.2
        omega
      · intro us u e y m
        have e : [(x.1, x.2, (1 : Int))] = us ++ [u] := e
        have e2 : us ++ [u] = [] ++ [(x.1, x.2, (1 : Int))] := e.symm
        have := (List.append_inj' e2 rfl).2
        rw [List.cons.inj this |>.1]
        exact nx y m
    · rw [List.concat_eq_append] at e
      subst e
      have link := h3 us u rfl x List.mem_cons_self
      rw [runStep_last]
      by_cases c : u.1 = x.1 ∧ u.2.1 + u.2.2 = x.2
      · rw [if_pos c]
        refine ord_runs l _ (ord_grow us u _ _ h) (fun y m => h1 y (List.mem_cons_of_mem _ m)) p2 ?_
        intro vs v e y m
        have := (List.append_inj' e rfl).2
        rw [← List.cons.inj this |>.1]
        have := nx y m
        show u.1 < y.1 ∨ u.1 = y.1 ∧ u.2.1 + (u.2.2 + 1) ≤ y.2
        omega
      · rw [if_neg c]
        refine ord_runs l _ (ord_snoc us u _ _ _ h ?_ (Int.le_refl 1)) (fun y m => h1 y (List.mem_cons_of_mem _ m)) p2 ?_
        · show u.1 < x.1 ∧ 0 ≤ x.2 ∨ u.1 = x.1 ∧ u.2.1 + u.2.2 ≤ x.2
          omega
        · intro vs v e y m
          have := (List.append_inj' e rfl).2
          rw [← List.cons.inj this |>.1]
          exact nx y m
/-! ### parsing one count -/
theorem fold_digits (cs : List Pr) (row col : Int) : ∀ (ds acc : List Nat), NumText.AllDigits ds → ds.foldl tStep (cs, row, col, acc) = (cs, row, col, acc ++ ds)
  | [], acc, _ => by simp
  | d :: ds, acc, h => by
    have hd : tStep (cs, row, col, acc) d = (cs, row, col, acc ++ [d]) := by
      unfold tStep
      rw [if_pos h.head]
    rw [List.foldl_cons, hd, fold_digits cs row col ds _ h.tail, List.append_assoc]
    rfl
def tNum (cs : List Pr) (row col : Int) (n : Nat) (c : Nat) : TSt :=
  if c = 47 then (cs, row + n, 0, [])
  else if c = 79 then (cs ++ (List.range n).map (fun (k : Nat) => (row, col + (k : Int))), row, col + n, [])
  else if c = 46 then (cs, row, col + n, [])
  else (cs, row, col, [])
theorem tStep_num (cs : List Pr) (row col : Int) (d : List Nat) {c : Nat} (hc : ¬ (48 ≤ c ∧ c ≤ 57)) : tStep (cs, row, col, d) c = tNum cs row col (numT d) c := by
  unfold tStep tNum
  rw [if_neg hc]
theorem parse_cnt (cs : List Pr) (row col : Int) {m : Int} (h0 : 1 ≤ m) (h1 : m < 1000) {c : Nat} (hc : ¬ (48 ≤ c ∧ c ≤ 57)) :
    (cntL m c).foldl tStep (cs, row, col, []) = tNum cs row col m.toNat c ∧ ∀ i, (((cntL m c).take i).foldl tStep (cs, row, col, [])).2.2.2.length ≤ 3 := by
  have nod : ∀ n, (tNum cs row col n c).2.2.2 = [] := fun n => by
    unfold tNum
    by_cases e1 : c = 47
    · rw [if_pos e1]
    · by_cases e2 : c = 79
      · rw [if_neg e1, if_pos e2]
      · by_cases e3 : c = 46
        · rw [if_neg e1, if_neg e2, if_pos e3]
        · rw [if_neg e1, if_neg e2, if_neg e3]
  by_cases e : m = 1
  · have ec : cntL m c = [c] := if_pos e
    have s1 : tStep (cs, row, col, []) c = tNum cs row col m.toNat c := by
      rw [tStep_num _ _ _ _ hc, e]
      rfl
    rw [ec]
    refine ⟨s1, fun i => ?_⟩
    cases i with
    | zero => exact Nat.zero_le 3
    | succ i =>
      show (List.foldl tStep (tStep (cs, row, col, []) c) (List.take i [])).2.2.2.length ≤ 3
      rw [List.take_nil, s1]
      show (tNum cs row col m.toNat c).2.2.2.length ≤ 3
      rw [nod]
      exact Nat.zero_le 3
  · have em : m = ((m.toNat : Nat) : Int) := by omega
    have ec : cntL m c = numL m.toNat ++ [c] := by
      unfold cntL
      rw [if_neg e]
      conv => lhs; rw [em]
      rw [tl_num]
    have len := numL_len (n := m.toNat) (k := 3) (by decide) (by omega)
    have fd := fold_digits cs row col (numL m.toNat) [] (numL_digits _)
    have s1 : tStep (cs, row, col, numL m.toNat) c = tNum cs row col m.toNat c := by
      rw [tStep_num _ _ _ _ hc]
      unfold numT
      rw [if_neg (numL_ne _), numL_val]
    rw [ec]
    refine ⟨?_, fun i => ?_⟩
    · rw [List.foldl_append, fd]
      exact s1
    · by_cases c1 : i ≤ (numL m.toNat).length
      · rw [List.take_append_of_le_length c1, fold_digits cs row col _ [] fun d md => numL_digits _ d (List.mem_of_mem_take md)]
        show ([] ++ (numL m.toNat).take i).length ≤ 3
        rw [List.nil_append, List.length_take]
        omega
      · rw [List.take_of_length_le (by rw [List.length_append, List.length_singleton]; omega), List.foldl_append, fd]
        show (tStep (cs, row, col, [] ++ numL m.toNat) c).2.2.2.length ≤ 3
        rw [List.nil_append, s1, nod]
        exact Nat.zero_le 3
def Sm (l : List Nat) : Prop := ∀ i, (cellsT (l.take i)).2.2.2.length ≤ 3
theorem Sm.app {acc l : List Nat} {st : TSt} (h : Sm acc) (e : cellsT acc = st) (q : ∀ i, ((l.take i).foldl tStep st).2.2.2.length ≤ 3) : Sm (acc ++ l) := fun i => by
  by_cases c : i ≤ acc.length
  · rw [List.take_append_of_le_length c]
    exact h i
  · rw [show i = acc.length + (i - acc.length) by omega, List.take_length_add_append]
    unfold cellsT at e ⊢
    rw [List.foldl_append, e]
    exact q _
theorem cellsT_app {acc l : List Nat} {st : TSt} (e : cellsT acc = st) : cellsT (acc ++ l) = l.foldl tStep st := by
  unfold cellsT at e ⊢
  rw [List.foldl_append, e]
theorem parse_add {cs : List Pr} {row col : Int} {acc : List Nat} (h : cellsT acc = (cs, row, col, [])) (s : Sm acc) {m : Int} (h0 : 1 ≤ m) (h1 : m < 1000) {c : Nat} (hc : ¬ (48 ≤ c ∧ c ≤ 57)) :
    cellsT (acc ++ cntL m c) = tNum cs row col m.toNat c ∧ Sm (acc ++ cntL m c) := by
  obtain ⟨a, b⟩ := parse_cnt cs row col h0 h1 hc
  exact ⟨(cellsT_app h).trans a, s.app h b⟩
theorem parse_runs : ∀ (rs : List Run) (row en : Int) (cs : List Pr) (acc : List Nat), 0 ≤ row → 0 ≤ en → Ordered row en rs → (∀ t ∈ rs, t.1 < 1000 ∧ t.2.1 < 1000 ∧ t.2.2 < 1000) → cellsT acc = (cs, row, en, []) → Sm acc →
    (∃ r e, cellsT (rs.foldl wStep (acc, row, en)).1 = (cs ++ (rs.map runCells).flatten, r, e, [])) ∧ Sm (rs.foldl wStep (acc, row, en)).1
  | [], row, en, cs, acc, _, _, _, _, h, s => by
    refine ⟨⟨row, en, ?_⟩, s⟩
    show cellsT acc = _
    rw [h]
    simp
  | t :: rs, row, en, cs, acc, r0, e0, o, b, h, s => by
    obtain ⟨o1, o2, o3⟩ := o
    obtain ⟨b1, b2, b3⟩ := b t List.mem_cons_self
    rw [List.foldl_cons]
    -- the row
    have A : ∃ acc1 en1, (if row < t.1 then (acc ++ cntL (t.1 - row) 47, t.1, 0) else (acc, row, en)) = (acc1, t.1, en1) ∧ 0 ≤ en1 ∧ en1 ≤ t.2.1 ∧ cellsT acc1 = (cs, t.1, en1, []) ∧ Sm acc1 := by
      by_cases c : row < t.1
      · obtain ⟨x, y⟩ := parse_add h s (m := t.1 - row) (by omega) (by omega) (c := 47) (by decide)
        refine ⟨acc ++ cntL (t.1 - row) 47, 0, if_pos c, Int.le_refl 0, by omega, ?_, y⟩
        rw [x]
        unfold tNum
        rw [if_pos rfl, show row + (((t.1 - row).toNat : Nat) : Int) = t.1 by omega]
      · have e : row = t.1 := by omega
        exact ⟨acc, en, by rw [if_neg c, e], e0, by omega, by rw [h, e], s⟩
    obtain ⟨acc1, en1, w1, e1, le1, h1, s1⟩ := A
    have B : ∃ acc2, (if en1 < t.2.1 then acc1 ++ cntL (t.2.1 - en1) 46 else acc1) = acc2 ∧ cellsT acc2 = (cs, t.1, t.2.1, []) ∧ Sm acc2 := by
      by_cases c : en1 < t.2.1
      · obtain ⟨x, y⟩ := parse_add h1 s1 (m := t.2.1 - en1) (by omega) (by omega) (c := 46) (by decide)
        refine ⟨acc1 ++ cntL (t.2.1 - en1) 46, if_pos c, ?_, y⟩
        rw [x]
        unfold tNum
        rw [if_neg (by decide), if_neg (by decide), if_pos rfl, show en1 + (((t.2.1 - en1).toNat : Nat) : Int) = t.2.1 by omega]
      · exact ⟨acc1, if_neg c, by rw [h1, show en1 = t.2.1 by omega], s1⟩
    obtain ⟨acc2, w2, h2, s2⟩ := B
    obtain ⟨x, y⟩ := parse_add h2 s2 (m := t.2.2) o2 b3 (c := 79) (by decide)
    rw [wStep_eq w1 w2]
    have hx : cellsT (acc2 ++ cntL t.2.2 79) = (cs ++ runCells t, t.1, t.2.1 + t.2.2, []) := by
      rw [x]
      unfold tNum
      rw [if_neg (by decide), if_pos rfl, show t.2.1 + ((t.2.2.toNat : Nat) : Int) = t.2.1 + t.2.2 by omega]
      rfl
    obtain ⟨⟨r, e, z⟩, w⟩ := parse_runs rs t.1 (t.2.1 + t.2.2) (cs ++ runCells t) _ (by omega) (by omega) o3 (fun u m => b u (List.mem_cons_of_mem _ m)) hx y
    refine ⟨⟨r, e, ?_⟩, w⟩
    rw [z]
    simp
/-- a home form, written and read back -/
theorem parse_home {qs : List Pr} (pw : qs.Pairwise ltP) (nn : ∀ x ∈ qs, 0 ≤ x.1 ∧ 0 ≤ x.2) (b : ∀ t ∈ runsP qs, t.1 < 1000 ∧ t.2.1 < 1000 ∧ t.2.2 < 1000) : (cellsT (writeP (runsP qs))).1 = qs ∧ Sm (writeP (runsP qs)) := by
  have o := ord_runs qs [] trivial nn pw (fun us u e => by
    have := congrArg List.length e
    rw [List.length_append] at this
    simp at this)
  obtain ⟨⟨r, e, h⟩, s⟩ := parse_runs (runsP qs) 0 0 [] [] (Int.le_refl 0) (Int.le_refl 0) o b rfl (fun i => by rw [List.take_nil]; exact Nat.zero_le 3)
  rw [runs_cells] at h
  have last : tStep (qs, r, e, []) 33 = (qs, r, e, []) := by
    unfold tStep
    rw [if_neg (by decide), if_neg (by decide), if_neg (by decide), if_neg (by decide)]
  unfold writeP
  refine ⟨?_, ?_⟩
  · rw [cellsT_app h]
    show (tStep ([] ++ qs, r, e, []) 33).1 = qs
    rw [List.nil_append, last]
  · refine Sm.app s h fun i => ?_
    cases i with
    | zero => exact Nat.zero_le 3
    | succ i =>
      show (List.foldl tStep (tStep ([] ++ qs, r, e, []) 33) (List.take i [])).2.2.2.length ≤ 3
      rw [List.take_nil, List.nil_append, last]
      exact Nat.zero_le 3
/-! ### a run's beginning -/
/-- a run's beginning, behind a row and a place -/
def wPre (a : List Nat) (row en : Int) (r c : Int) : List Nat × Int :=
  let p := if row < r then (a ++ cntL (r - row) 47, r, 0) else (a, row, en)
  (if p.2.2 < c then p.1 ++ cntL (c - p.2.2) 46 else p.1, p.2.1)
theorem wStep_pre (a : List Nat) (row en : Int) (t : Run) : wStep (a, row, en) t = ((wPre a row en t.1 t.2.1).1 ++ cntL t.2.2 79, (wPre a row en t.1 t.2.1).2, t.2.1 + t.2.2) := rfl
theorem wPre_row {a : List Nat} {row en r c : Int} (h : row ≤ r) : (wPre a row en r c).2 = r := by
  unfold wPre
  by_cases e : row < r
  · rw [if_pos e]
  · rw [if_neg e]
    show row = r
    omega
/-! ### the law's tokens -/
theorem head_app {l : List Nat} {c : Nat} (h : l ≠ []) : (l ++ [c]).head? = l.head? := by
  cases l with
  | nil => exact absurd rfl h
  | cons a l => rfl
theorem numL_back : ∀ (n : Nat) (d : List Nat), d.length = n → NumText.AllDigits d → d ≠ [] → d.head? ≠ some 48 → numL (NumText.digitsVal d) = d ∧ 1 ≤ NumText.digitsVal d
  | 0, d, e, _, h, _ => absurd (List.length_eq_zero_iff.mp e) h
  | n + 1, d, e, ad, h, h0 => by
    rcases List.eq_nil_or_concat d with rfl | ⟨b, c, eb⟩
    · exact absurd rfl h
    rw [List.concat_eq_append] at eb
    subst eb
    have hc := ad c (List.mem_append.mpr (.inr (List.mem_singleton.mpr rfl)))
    have v : NumText.digitsVal (b ++ [c]) = NumText.digitsVal b * 10 + (c - 48) := by
      unfold NumText.digitsVal
      rw [List.foldl_append]
      rfl
    rw [v]
    by_cases eb : b = []
    · subst eb
      have c0 : c ≠ 48 := fun z => h0 (by rw [z]; rfl)
      have z : NumText.digitsVal [] = 0 := rfl
      rw [z, Nat.zero_mul, Nat.zero_add, numL_lt (by omega), show 48 + (c - 48) = c by omega]
      exact ⟨rfl, by omega⟩
    · rw [head_app eb] at h0
      rw [List.length_append, List.length_singleton] at e
      obtain ⟨i1, i2⟩ := numL_back n b (by omega) (fun x m => ad x (List.mem_append.mpr (.inl m))) eb h0
      rw [numL_step (by omega), show (NumText.digitsVal b * 10 + (c - 48)) / 10 = NumText.digitsVal b by omega, i1, show 48 + (NumText.digitsVal b * 10 + (c - 48)) % 10 = c by omega]
      exact ⟨rfl, by omega⟩
theorem numL_head : ∀ n : Nat, 1 ≤ n → (numL n).head? ≠ some 48 := by
  intro n
  induction n using Nat.strongRecOn with
  | _ n ih =>
    intro h
    by_cases c : n < 10
    · rw [numL_lt c]
      intro e
      have e : some (48 + n) = some 48 := e
      have := Option.some.inj e
      omega
    · rw [numL_step (by omega), head_app (numL_ne _)]
      exact ih (n / 10) (by omega) (by omega)
abbrev TokP := Nat × Nat
abbrev KSt := Option (List TokP × List Nat)
abbrev badN (d : List Nat) : Prop := d ≠ [] ∧ (d.head? = some 48 ∨ d = [49])
def kStep (st : KSt) (c : Nat) : KSt := match st with
  | none => none
  | some (ts, d) => if 48 ≤ c ∧ c ≤ 57 then some (ts, d ++ [c]) else if badN d then none else some (ts ++ [(c, numT d)], [])
theorem kNone : ∀ l : List Nat, l.foldl kStep none = none
  | [] => rfl
  | _ :: l => kNone l
def toksT (l : List Nat) : Option (List TokP) := match l.foldl kStep (some ([], [])) with
  | some (ts, []) => some ts
  | _ => none
def tkL (t : TokP) : List Nat := cntL ((t.2 : Nat) : Int) t.1
def textL (ts : List TokP) : List Nat := (ts.map tkL).flatten
theorem textL_app (a b : List TokP) : textL (a ++ b) = textL a ++ textL b := by
  unfold textL
  rw [List.map_append, List.flatten_append]
theorem textL_one (t : TokP) : textL [t] = tkL t := by
  show tkL t ++ [] = _
  rw [List.append_nil]
def GoodT (t : TokP) : Prop := 1 ≤ t.2 ∧ ¬ (48 ≤ t.1 ∧ t.1 ≤ 57)
theorem cnt_back {d : List Nat} (ad : NumText.AllDigits d) (nb : ¬ badN d) (c : Nat) : cntL ((numT d : Nat) : Int) c = d ++ [c] ∧ 1 ≤ numT d := by
  unfold numT
  by_cases e : d = []
  · rw [if_pos e, e]
    exact ⟨rfl, Nat.le_refl 1⟩
  · rw [if_neg e]
    obtain ⟨a, b⟩ := numL_back _ d rfl ad e (fun z => nb ⟨e, .inl z⟩)
    refine ⟨?_, b⟩
    unfold cntL
    rw [if_neg (fun z => nb ⟨e, .inr ?_⟩), tl_num, a]
    have z : NumText.digitsVal d = 1 := by omega
    rw [← a, z]
    exact numL_lt (n := 1) (by decide)
theorem k_sound : ∀ (l l0 : List Nat) (ts0 : List TokP) (d0 : List Nat) (ts : List TokP) (d : List Nat), NumText.AllDigits d0 → (∀ t ∈ ts0, GoodT t) → l0 = textL ts0 ++ d0 → l.foldl kStep (some (ts0, d0)) = some (ts, d) →
    l0 ++ l = textL ts ++ d ∧ NumText.AllDigits d ∧ ∀ t ∈ ts, GoodT t
  | [], l0, ts0, d0, ts, d, ad, g, e, h => by
    have h : some (ts0, d0) = some (ts, d) := h
    obtain ⟨rfl, rfl⟩ := Prod.mk.inj (Option.some.inj h)
    rw [List.append_nil]
    exact ⟨e, ad, g⟩
  | c :: l, l0, ts0, d0, ts, d, ad, g, e, h => by
    rw [List.foldl_cons] at h
    rw [show l0 ++ c :: l = (l0 ++ [c]) ++ l by rw [List.append_assoc]; rfl]
    by_cases hc : 48 ≤ c ∧ c ≤ 57
    · rw [show kStep (some (ts0, d0)) c = some (ts0, d0 ++ [c]) from if_pos hc] at h
      refine k_sound l (l0 ++ [c]) ts0 (d0 ++ [c]) ts d (fun x m => ?_) g (by rw [e, List.append_assoc]) h
      rcases List.mem_append.mp m with m | m
      · exact ad x m
      · rw [List.mem_singleton.mp m]
        exact hc
    · by_cases hb : badN d0
      · rw [show kStep (some (ts0, d0)) c = none from (if_neg hc).trans (if_pos hb), kNone] at h
        cases h
      · rw [show kStep (some (ts0, d0)) c = some (ts0 ++ [(c, numT d0)], []) from (if_neg hc).trans (if_neg hb)] at h
        obtain ⟨a, b⟩ := cnt_back ad hb c
        refine k_sound l (l0 ++ [c]) _ [] ts d (fun _ m => (by cases m)) (fun t m => ?_) ?_ h
        · rcases List.mem_append.mp m with m | m
          · exact g t m
          · rw [List.mem_singleton.mp m]
            exact ⟨b, hc⟩
        · rw [textL_app, textL_one, List.append_nil, e, List.append_assoc]
          show _ = textL ts0 ++ cntL ((numT d0 : Nat) : Int) c
          rw [a]
theorem toks_sound {l : List Nat} {ts : List TokP} (h : toksT l = some ts) : l = textL ts ∧ ∀ t ∈ ts, GoodT t := by
  unfold toksT at h
  match hk : l.foldl kStep (some ([], [])) with
  | none => rw [hk] at h; cases h
  | some (us, []) =>
    rw [hk] at h
    have h : some us = some ts := h
    obtain rfl := Option.some.inj h
    obtain ⟨a, _, c⟩ := k_sound l [] [] [] us [] (fun _ m => (by cases m)) (fun _ m => (by cases m)) rfl hk
    rw [List.nil_append, List.append_nil] at a
    exact ⟨a, c⟩
  | some (us, x :: d) => rw [hk] at h; cases h
theorem k_digits (ts : List TokP) : ∀ (ds acc : List Nat), NumText.AllDigits ds → ds.foldl kStep (some (ts, acc)) = some (ts, acc ++ ds)
  | [], acc, _ => by simp
  | d :: ds, acc, h => by
    rw [List.foldl_cons, show kStep (some (ts, acc)) d = some (ts, acc ++ [d]) from if_pos h.head, k_digits ts ds _ h.tail, List.append_assoc]
    rfl
theorem k_cnt {t : TokP} (g : GoodT t) (ts : List TokP) : (tkL t).foldl kStep (some (ts, [])) = some (ts ++ [t], []) := by
  obtain ⟨c, m⟩ := t
  obtain ⟨hm, hc⟩ := g
  have hm : 1 ≤ m := hm
  have hc : ¬ (48 ≤ c ∧ c ≤ 57) := hc
  show (cntL ((m : Nat) : Int) c).foldl kStep _ = _
  unfold cntL
  by_cases e : ((m : Nat) : Int) = 1
  · rw [if_pos e]
    have e : m = 1 := by omega
    show kStep (some (ts, [])) c = _
    rw [show kStep (some (ts, [])) c = some (ts ++ [(c, numT [])], []) from (if_neg hc).trans (if_neg fun z => z.1 rfl), e]
    rfl
  · rw [if_neg e, tl_num, List.foldl_append, k_digits ts _ _ (numL_digits m), List.nil_append]
    have nb : ¬ badN (numL m) := fun z => by
      rcases z.2 with z | z
      · exact numL_head m hm z
      · rw [show ([49] : List Nat) = numL 1 from (numL_lt (n := 1) (by decide)).symm] at z
        have := numL_inj z
        omega
    have nt : numT (numL m) = m := (if_neg (numL_ne m)).trans (numL_val m)
    show kStep (some (ts, numL m)) c = _
    rw [show kStep (some (ts, numL m)) c = some (ts ++ [(c, numT (numL m))], []) from (if_neg hc).trans (if_neg nb), nt]
theorem k_toks : ∀ (us ts : List TokP), (∀ t ∈ us, GoodT t) → (textL us).foldl kStep (some (ts, [])) = some (ts ++ us, [])
  | [], ts, _ => by rw [List.append_nil]; rfl
  | u :: us, ts, g => by
    show (tkL u ++ textL us).foldl kStep _ = _
    rw [List.foldl_append, k_cnt (g u List.mem_cons_self), k_toks us _ (fun t m => g t (List.mem_cons_of_mem _ m)), List.append_assoc]
    rfl
theorem toks_text {ts : List TokP} (g : ∀ t ∈ ts, GoodT t) : toksT (textL ts) = some ts := by
  unfold toksT
  rw [k_toks ts [] g]
  rfl
/-! ### cells by tokens -/
abbrev CT := List Pr × Int × Int
def tTok (st : CT) (t : TokP) : CT :=
  if t.1 = 47 then (st.1, st.2.1 + (t.2 : Int), 0)
  else if t.1 = 79 then (st.1 ++ (List.range t.2).map (fun (k : Nat) => (st.2.1, st.2.2 + (k : Int))), st.2.1, st.2.2 + (t.2 : Int))
  else if t.1 = 46 then (st.1, st.2.1, st.2.2 + (t.2 : Int))
  else st
theorem t_cnt {t : TokP} (g : GoodT t) (st : CT) : (tkL t).foldl tStep (st.1, st.2.1, st.2.2, []) = ((tTok st t).1, (tTok st t).2.1, (tTok st t).2.2, []) := by
  obtain ⟨c, m⟩ := t
  obtain ⟨cs, row, col⟩ := st
  obtain ⟨hm, hc⟩ := g
  have hm : 1 ≤ m := hm
  have hc : ¬ (48 ≤ c ∧ c ≤ 57) := hc
  have fin : tNum cs row col m c = ((tTok (cs, row, col) (c, m)).1, (tTok (cs, row, col) (c, m)).2.1, (tTok (cs, row, col) (c, m)).2.2, []) := by
    unfold tNum tTok
    by_cases e1 : c = 47
    · rw [if_pos e1, if_pos e1]
    · by_cases e2 : c = 79
      · rw [if_neg e1, if_neg e1, if_pos e2, if_pos e2]
      · by_cases e3 : c = 46
        · rw [if_neg e1, if_neg e1, if_neg e2, if_neg e2, if_pos e3, if_pos e3]
        · rw [if_neg e1, if_neg e1, if_neg e2, if_neg e2, if_neg e3, if_neg e3]
  rw [← fin]
  show (cntL ((m : Nat) : Int) c).foldl tStep (cs, row, col, []) = _
  unfold cntL
  by_cases e : ((m : Nat) : Int) = 1
  · rw [if_pos e]
    have e : m = 1 := by omega
    show tStep (cs, row, col, []) c = _
    rw [tStep_num _ _ _ _ hc, e]
    rfl
  · have nt : numT (numL m) = m := (if_neg (numL_ne m)).trans (numL_val m)
    rw [if_neg e, tl_num, List.foldl_append, fold_digits cs row col (numL m) [] (numL_digits m), List.nil_append]
    show tStep (cs, row, col, numL m) c = _
    rw [tStep_num _ _ _ _ hc, nt]
theorem t_toks : ∀ (us : List TokP) (st : CT), (∀ t ∈ us, GoodT t) → (textL us).foldl tStep (st.1, st.2.1, st.2.2, []) = ((us.foldl tTok st).1, (us.foldl tTok st).2.1, (us.foldl tTok st).2.2, [])
  | [], st, _ => rfl
  | u :: us, st, g => by
    show (tkL u ++ textL us).foldl tStep _ = _
    rw [List.foldl_append, t_cnt (g u List.mem_cons_self), t_toks us (tTok st u) (fun t m => g t (List.mem_cons_of_mem _ m))]
    rfl
end
end My
namespace My
open PySem PySem.Spec PyProof.Rows L2 Vx
open TL
local macro_rules | `(tactic| k_invariant "new" ($n, $H:ident, $e:ident, $h:ident)) => `(tactic| (generalize hE : upd _ _ _ = $H; obtain ⟨$e:ident, $h:ident⟩ := gen_e hE $n; clear hE))
local macro_rules | `(tactic| k_places) => `(tactic| first
  | assumption
  | exact lst_of (by assumption)
  | exact tup_of (by assumption)
  | (refine getS (by assumption) ?_; k_places)
  | (refine Same.seq (by assumption) ?_; k_places)
  | (refine tupS (by assumption) ?_; k_places)
  | (refine lst_of ?_; k_places)
  | (refine tup_of ?_; k_places))
local macro_rules | `(tactic| k_subL) => `(tactic| first
  | k_places
  | solve_by_elim (maxDepth := 10) [getS, lst_of, tup_of, Same.seq, tupS])
local macro_rules | `(tactic| k_offL) => `(tactic| first
  | (show (0 : Int) < _; first | omega | decide)
  | (refine ⟨?_, ?_⟩ <;> first | omega | decide)
  | exact .inr ⟨by decide, by decide⟩
  | exact .inl ⟨by decide, by decide⟩
  | exact .inl ⟨by omega, by omega⟩
  | omega)
local macro_rules | `(tactic| k_clsL) => `(tactic| exact Nat.le_of_ble_eq_true rfl)
local macro_rules | `(tactic| k_upd) => `(tactic| simp only [L2.start, List.map_cons, List.map_nil, List.length_cons, List.length_nil, List.replicate_succ, List.replicate_zero, List.cons_append, List.nil_append, List.set_cons_zero, List.set_cons_succ])
section
variable {P : Program} {w : World} {K : PySem.W.Frag} {mg : Str → Option Value} {base : Heap}
theorem tlInj {s z : Str} (h : tl s = tl z) : s = z := by
  obtain ⟨a⟩ := s
  obtain ⟨b⟩ := z
  have h : a.toList = b.toList := h
  rw [show a = b from Array.toList_inj.mp h]
def IsHome (qs : List Pr) : Prop := qs.Pairwise ltP ∧ (qs ≠ [] → Least 0 (rowsP qs) ∧ Least 0 (colsP qs))
theorem IsHome.nn {qs : List Pr} (h : IsHome qs) : ∀ x ∈ qs, 0 ≤ x.1 ∧ 0 ≤ x.2 := fun x m => by
  obtain ⟨a, b⟩ := h.2 (fun e => by rw [e] at m; cases m)
  exact ⟨a.2 _ (List.mem_map.mpr ⟨x, m, rfl⟩), b.2 _ (List.mem_map.mpr ⟨x, m, rfl⟩)⟩
theorem IsHome.same {qs rs : List Pr} (h : IsHome qs) (hm : HomeOf qs rs) : rs = qs := by
  by_cases e : qs = []
  · rw [hm.1 e, e]
  · obtain ⟨a, b⟩ := h.2 e
    refine canP_eq (hm.2 0 0 a b) h.1 fun k => ?_
    rw [show addP (-0) (-0) = id from funext fun x => ?_, List.map_id]
    show (x.1 + -0, x.2 + -0) = x
    rw [Int.neg_zero, Int.add_zero, Int.add_zero]
/-! ### what the law says is due -/
abbrev DSt := List Pr × Int × Int × Nat
abbrev dBad (t : TokP) (b : Nat) : Prop := ¬ (t.1 = 79 ∨ t.1 = 46 ∨ t.1 = 47) ∨ t.1 = b ∨ (t.1 = 47 ∧ b = 46)
def blockOf (r c : Int) (n : Nat) : List Pr := (List.range n).map fun (k : Nat) => (r, c + (k : Int))
def dStep (st : Option DSt) (t : TokP) : Option DSt := match st with
  | none => none
  | some (cs, r, c, b) => if dBad t b then none
      else if t.1 = 47 then some (cs, r + (t.2 : Int), 0, t.1)
      else some (if t.1 = 79 then cs ++ blockOf r c t.2 else cs, r, c + (t.2 : Int), t.1)
theorem dNone : ∀ l : List TokP, l.foldl dStep none = none
  | [] => rfl
  | _ :: l => dNone l
def dueK (ts : List TokP) : Option (List Pr) := match ts.foldl dStep (some ([], 0, 0, 47)) with
  | none => none
  | some (cs, _, _, b) => if (ts ≠ [] ∧ b ≠ 79) ∨ (cs ≠ [] ∧ ∀ x ∈ cs, 0 < x.2) then none else some cs
def dueT (l : List Nat) : Option (List Pr) := match toksT l with
  | none => none
  | some ts => if ts = [] ∨ ts.getLast? ≠ some (33, 1) then none else dueK ts.dropLast
theorem run_block (rs : List Run) (r c : Int) (far : ∀ us u, rs = us ++ [u] → ¬ (u.1 = r ∧ u.2.1 + u.2.2 = c)) : ∀ n : Nat, 1 ≤ n → (blockOf r c n).foldl runStep rs = rs ++ [(r, c, (n : Int))]
  | 0, h => by omega
  | 1, _ => by
    show runStep rs (r, c + ((0 : Nat) : Int)) = _
    rw [show c + ((0 : Nat) : Int) = c by omega]
    rcases List.eq_nil_or_concat rs with rfl | ⟨us, u, e⟩
    · rfl
    · rw [List.concat_eq_append] at e
      subst e
      rw [runStep_last, if_neg (far us u rfl)]
      rfl
  | n + 2, _ => by
    have ih := run_block rs r c far (n + 1) (by omega)
    unfold blockOf at ih ⊢
    rw [List.range_succ, List.map_append, List.foldl_append, ih]
    show runStep (rs ++ [(r, c, ((n + 1 : Nat) : Int))]) (r, c + ((n + 1 : Nat) : Int)) = _
    rw [runStep_last, if_pos ⟨rfl, rfl⟩]
    rfl
theorem wPre_same (w : List Nat) (r c : Int) : (wPre w r c r c).1 = w := by
  unfold wPre
  rw [if_neg (Int.lt_irrefl r)]
  exact if_neg (Int.lt_irrefl c)
theorem wPre_lt {w : List Nat} {row en r c : Int} (h : row < r) : (wPre w row en r c).1 = if 0 < c then (w ++ cntL (r - row) 47) ++ cntL (c - 0) 46 else w ++ cntL (r - row) 47 := by
  unfold wPre
  rw [if_pos h]
theorem wPre_nl {w : List Nat} {row en r c : Int} (h : ¬ row < r) : (wPre w row en r c).1 = if en < c then w ++ cntL (c - en) 46 else w := by
  unfold wPre
  rw [if_neg h]
theorem mem_blockOf {r c : Int} {n : Nat} {x : Pr} : x ∈ blockOf r c n ↔ x.1 = r ∧ c ≤ x.2 ∧ x.2 < c + (n : Int) := by
  unfold blockOf
  rw [List.mem_map]
  constructor
  · rintro ⟨k, mk, rfl⟩
    have := List.mem_range.mp mk
    refine ⟨rfl, ?_, ?_⟩
    · show c ≤ c + (k : Int)
      omega
    · show c + (k : Int) < _
      omega
  · rintro ⟨h1, h2, h3⟩
    refine ⟨(x.2 - c).toNat, List.mem_range.mpr (by omega), ?_⟩
    rw [show c + (((x.2 - c).toNat : Nat) : Int) = x.2 by omega, ← h1]
theorem blockOf_pw (r c : Int) (n : Nat) : (blockOf r c n).Pairwise ltP := by
  unfold blockOf
  refine List.pairwise_map.mpr (List.Pairwise.imp (fun {a b} h => ?_) List.pairwise_lt_range)
  refine ltP_iff.mpr (.inr ⟨rfl, ?_⟩)
  show c + (a : Int) < c + (b : Int)
  omega
structure DI (pre : List Nat) (cs : List Pr) (r c : Int) (b : Nat) : Prop where
  pw : cs.Pairwise ltP
  nn : ∀ x ∈ cs, 0 ≤ x.1 ∧ 0 ≤ x.2
  first : cs ≠ [] → ∃ x ∈ cs, x.1 = 0
  b3 : b = 79 ∨ b = 46 ∨ b = 47
  r0 : 0 ≤ r
  c0 : 0 ≤ c
  st : ∃ (w : List Nat) (row en : Int), (runsP cs).foldl wStep ([], 0, 0) = (w, row, en) ∧ pre = (wPre w row en r c).1 ∧ 0 ≤ row ∧ 0 ≤ en ∧ row ≤ r ∧
    (∀ x ∈ cs, x.1 < row ∨ x.1 = row ∧ x.2 < en) ∧ (cs = [] → r = 0 ∧ row = 0 ∧ en = 0) ∧ (∀ us u, runsP cs = us ++ [u] → cs ≠ [] ∧ u.1 = row ∧ u.2.1 + u.2.2 = en) ∧
    (b = 79 → row = r ∧ en = c ∧ cs ≠ []) ∧ (b = 47 → c = 0 ∧ (cs ≠ [] → row < r)) ∧ (b = 46 → cs ≠ [] → row = r → en < c)
theorem DI.step {pre : List Nat} {cs : List Pr} {r c : Int} {b : Nat} (h : DI pre cs r c b) {t : TokP} (g : GoodT t) (nb : ¬ dBad t b) :
    ∃ cs' r' c', dStep (some (cs, r, c, b)) t = some (cs', r', c', t.1) ∧ DI (pre ++ tkL t) cs' r' c' t.1 ∧ tTok (cs, r, c) t = (cs', r', c') := by
  obtain ⟨k, n⟩ := t
  obtain ⟨hn, hk⟩ := g
  have hn : 1 ≤ n := hn
  have nb1 : k = 79 ∨ k = 46 ∨ k = 47 := Classical.not_not.mp fun z => nb (.inl z)
  have nb2 : ¬ k = b := fun z => nb (.inr (.inl z))
  have nb3 : ¬ (k = 47 ∧ b = 46) := fun z => nb (.inr (.inr z))
  have st0 : dStep (some (cs, r, c, b)) (k, n) = if k = 47 then some (cs, r + (n : Int), 0, k) else some (if k = 79 then cs ++ blockOf r c n else cs, r, c + (n : Int), k) := if_neg nb
  obtain ⟨w, row, en, ws, ep, row0, en0, rle, top, emp, last, c79, c47, c46⟩ := h.st
  have b3 := h.b3
  have r0 := h.r0
  have c0 := h.c0
  rw [st0]
  rcases nb1 with e | e | e
  · subst e
    have bb : b = 46 ∨ b = 47 := by omega
    have gap : cs ≠ [] → row < r ∨ row = r ∧ en < c := fun z => by
      rcases bb with e | e
      · by_cases q : row = r
        · exact .inr ⟨q, c46 e z q⟩
        · exact .inl (by omega)
      · exact .inl ((c47 e).2 z)
    have far : ∀ us u, runsP cs = us ++ [u] → ¬ (u.1 = r ∧ u.2.1 + u.2.2 = c) := fun us u e => by
      obtain ⟨z, e1, e2⟩ := last us u e
      have := gap z
      omega
    have rb : runsP (cs ++ blockOf r c n) = runsP cs ++ [(r, c, (n : Int))] := by
      have := run_block (runsP cs) r c far n hn
      unfold runsP at this ⊢
      rw [List.foldl_append, this]
    have ne : cs ++ blockOf r c n ≠ [] := fun z => by
      have z := (List.append_eq_nil_iff.mp z).2
      have m : (r, c) ∈ blockOf r c n := mem_blockOf.mpr ⟨rfl, Int.le_refl c, by show c < _; omega⟩
      rw [z] at m
      cases m
    refine ⟨cs ++ blockOf r c n, r, c + (n : Int), rfl, ⟨?_, ?_, ?_, .inl rfl, r0, by omega, ?_⟩, rfl⟩
    · refine List.pairwise_append.mpr ⟨h.pw, blockOf_pw r c n, fun x mx y my => ?_⟩
      have hx := top x mx
      have hy := mem_blockOf.mp my
      have z := gap (fun z => by rw [z] at mx; cases mx)
      refine ltP_iff.mpr ?_
      omega
    · intro x m
      rcases List.mem_append.mp m with m | m
      · exact h.nn x m
      · have hx := mem_blockOf.mp m
        omega
    · intro _
      by_cases z : cs = []
      · refine ⟨(r, c), List.mem_append.mpr (.inr (mem_blockOf.mpr ⟨rfl, Int.le_refl c, by show c < _; omega⟩)), (emp z).1⟩
      · obtain ⟨x, mx, ex⟩ := h.first z
        exact ⟨x, List.mem_append.mpr (.inl mx), ex⟩
    · refine ⟨pre ++ cntL (n : Int) 79, r, c + (n : Int), ?_, ?_, r0, by omega, Int.le_refl r, ?_, fun z => absurd z ne, ?_, fun _ => ⟨rfl, rfl, ne⟩, fun z => (by cases z), fun z => (by cases z)⟩
      · rw [rb, List.foldl_append, ws]
        show wStep (w, row, en) (r, c, (n : Int)) = _
        rw [wStep_pre, ← ep]
        show (_, (wPre w row en r c).2, _) = _
        rw [wPre_row rle]
      · rw [wPre_same]
        rfl
      · intro x m
        rcases List.mem_append.mp m with m | m
        · have hx := top x m
          have z := gap (fun z => by rw [z] at m; cases m)
          omega
        · have hx := mem_blockOf.mp m
          omega
      · intro us u e
        rw [rb] at e
        have := (List.append_inj' e rfl).2
        rw [← List.cons.inj this |>.1]
        exact ⟨ne, rfl, rfl⟩
  · subst e
    refine ⟨cs, r, c + (n : Int), rfl, ⟨h.pw, h.nn, h.first, .inr (.inl rfl), r0, by omega, w, row, en, ws, ?_, row0, en0, rle, top, emp, last, fun z => (by cases z), fun z => (by cases z), fun _ z e => ?_⟩, rfl⟩
    · rcases b3 with e | e | e
      · obtain ⟨e1, e2, _⟩ := c79 e
        subst e1 e2
        rw [ep, wPre_same, wPre_nl (Int.lt_irrefl row), if_pos (by omega), show en + (n : Int) - en = (n : Int) by omega]
        rfl
      · exact absurd e.symm nb2
      · obtain ⟨e1, e2⟩ := c47 e
        subst e1
        rw [ep]
        by_cases q : row < r
        · rw [wPre_lt q, wPre_lt q, if_neg (by decide), if_pos (by omega), show 0 + (n : Int) - 0 = (n : Int) by omega]
          rfl
        · have z : cs = [] := Classical.not_not.mp fun z => q (e2 z)
          obtain ⟨_, _, e3⟩ := emp z
          rw [wPre_nl q, wPre_nl q, e3, if_neg (by decide), if_pos (by omega), show 0 + (n : Int) - 0 = (n : Int) by omega]
          rfl
    · rcases b3 with e4 | e4 | e4
      · have := (c79 e4).2.1
        omega
      · exact absurd e4.symm nb2
      · have := (c47 e4).2 z
        omega
  · subst e
    have b79 : b = 79 := by omega
    obtain ⟨e1, e2, ne⟩ := c79 b79
    subst e1 e2
    refine ⟨cs, row + (n : Int), 0, rfl, ⟨h.pw, h.nn, h.first, .inr (.inr rfl), by omega, Int.le_refl 0, w, row, en, ws, ?_, row0, en0, by omega, top, fun z => absurd z ne, last, fun z => (by cases z), fun _ => ⟨rfl, fun _ => by omega⟩, fun z => (by cases z)⟩, rfl⟩
    rw [ep, wPre_same, wPre_lt (by omega), if_neg (by decide), show row + (n : Int) - row = (n : Int) by omega]
    rfl
theorem DI.fold : ∀ (ts : List TokP) (pre : List Nat) (cs : List Pr) (r c : Int) (b : Nat), DI pre cs r c b → (∀ t ∈ ts, GoodT t) → ∀ cs' r' c' b', ts.foldl dStep (some (cs, r, c, b)) = some (cs', r', c', b') →
    DI (pre ++ textL ts) cs' r' c' b' ∧ ts.foldl tTok (cs, r, c) = (cs', r', c')
  | [], pre, cs, r, c, b, h, _, cs', r', c', b', e => by
    have e : some (cs, r, c, b) = some (cs', r', c', b') := e
    have e := Option.some.inj e
    injection e with e1 e
    injection e with e2 e
    injection e with e3 e4
    subst e1 e2 e3 e4
    rw [show textL [] = [] from rfl, List.append_nil]
    exact ⟨h, rfl⟩
  | t :: ts, pre, cs, r, c, b, h, g, cs', r', c', b', e => by
    rw [List.foldl_cons] at e
    by_cases q : dBad t b
    · rw [show dStep (some (cs, r, c, b)) t = none from if_pos q, dNone] at e
      cases e
    · obtain ⟨c1, r1, k1, e1, h1, e2⟩ := h.step (g t List.mem_cons_self) q
      rw [e1] at e
      obtain ⟨a, b⟩ := DI.fold ts _ _ _ _ _ h1 (fun t m => g t (List.mem_cons_of_mem _ m)) _ _ _ _ e
      rw [List.foldl_cons, e2]
      refine ⟨?_, b⟩
      rw [List.append_assoc] at a
      exact a
theorem due_some {l : List Nat} {cs : List Pr} (h : dueT l = some cs) : IsHome cs ∧ l = writeP (runsP cs) ∧ (cellsT l).1 = cs := by
  unfold dueT at h
  match hk : toksT l with
  | none => rw [hk] at h; cases h
  | some ts =>
    rw [hk] at h
    have h : (if ts = [] ∨ ts.getLast? ≠ some (33, 1) then none else dueK ts.dropLast) = some cs := h
    by_cases c : ts = [] ∨ ts.getLast? ≠ some (33, 1)
    · rw [if_pos c] at h
      cases h
    rw [if_neg c] at h
    obtain ⟨el, g⟩ := toks_sound hk
    rcases List.eq_nil_or_concat ts with e | ⟨us, u, e⟩
    · exact absurd (.inl e) c
    rw [List.concat_eq_append] at e
    subst e
    have eu : u = (33, 1) := Option.some.inj (by
      have : (us ++ [u]).getLast? = some (33, 1) := Classical.not_not.mp fun z => c (.inr z)
      rwa [List.getLast?_concat] at this)
    subst eu
    rw [List.dropLast_concat] at h
    have gu : ∀ t ∈ us, GoodT t := fun t m => g t (List.mem_append.mpr (.inl m))
    unfold dueK at h
    match hd : us.foldl dStep (some ([], 0, 0, 47)) with
    | none => rw [hd] at h; cases h
    | some (cs', r, c', b) =>
      rw [hd] at h
      have h : (if (us ≠ [] ∧ b ≠ 79) ∨ (cs' ≠ [] ∧ ∀ x ∈ cs', 0 < x.2) then none else some cs') = some cs := h
      by_cases q : (us ≠ [] ∧ b ≠ 79) ∨ (cs' ≠ [] ∧ ∀ x ∈ cs', 0 < x.2)
      · rw [if_pos q] at h
        cases h
      rw [if_neg q] at h
      obtain rfl := Option.some.inj h
      have d0 : DI [] [] 0 0 47 := ⟨List.Pairwise.nil, fun _ m => (by cases m), fun z => absurd rfl z, .inr (.inr rfl), Int.le_refl 0, Int.le_refl 0, [], 0, 0, rfl, rfl, Int.le_refl 0, Int.le_refl 0, Int.le_refl 0, fun _ m => (by cases m), fun _ => ⟨rfl, rfl, rfl⟩,
        fun us u e => by
          have e : ([] : List Run) = us ++ [u] := e
          have := congrArg List.length e
          rw [List.length_append] at this
          simp at this, fun z => (by cases z), fun _ => ⟨rfl, fun z => absurd rfl z⟩, fun z => (by cases z)⟩
      obtain ⟨D, et⟩ := DI.fold us [] [] 0 0 47 d0 gu _ _ _ _ hd
      rw [List.nil_append] at D
      have home : IsHome cs' := ⟨D.pw, fun ne => by
        obtain ⟨x, mx, ex⟩ := D.first ne
        refine ⟨⟨List.mem_map.mpr ⟨x, mx, ex⟩, fun y my => ?_⟩, ?_⟩
        · obtain ⟨z, mz, rfl⟩ := List.mem_map.mp my
          exact (D.nn z mz).1
        · have : ∃ y ∈ cs', ¬ 0 < y.2 := Classical.byContradiction fun no => q (.inr ⟨ne, fun y my => Classical.not_not.mp fun z => no ⟨y, my, z⟩⟩)
          obtain ⟨y, my, hy⟩ := this
          have y0 : y.2 = 0 := by
            have := (D.nn y my).2
            omega
          refine ⟨List.mem_map.mpr ⟨y, my, y0⟩, fun v mv => ?_⟩
          obtain ⟨z, mz, rfl⟩ := List.mem_map.mp mv
          exact (D.nn z mz).2⟩
      obtain ⟨w, row, en, ws, ep, row0, en0, rle, top, emp, last, c79, c47, c46⟩ := D.st
      have ew : textL us = w := by
        by_cases eu : us = []
        · subst eu
          have hd : some (([] : List Pr), (0 : Int), (0 : Int), 47) = some (cs', r, c', b) := hd
          have e := Option.some.inj hd
          injection e with e1 e
          subst e1
          have ws : (([] : List Nat), (0 : Int), (0 : Int)) = (w, row, en) := ws
          injection ws with e2 e
        · have b79 : b = 79 := Classical.not_not.mp fun z => q (.inl ⟨eu, z⟩)
          obtain ⟨e1, e2, _⟩ := c79 b79
          rw [ep, e1, e2, wPre_same]
      have el : l = textL us ++ [33] := by
        rw [el, textL_app, textL_one]
        rfl
      refine ⟨home, ?_, ?_⟩
      · rw [el]
        unfold writeP
        rw [ws, ew]
      · have tt := t_toks us ([], 0, 0) gu
        rw [et] at tt
        have tt : (textL us).foldl tStep ([], 0, 0, []) = (cs', r, c', []) := tt
        rw [el]
        unfold cellsT
        rw [List.foldl_append, tt]
        rfl
/-! ### the other way -/
def OrdS : Bool → Int → Int → List Run → Prop
  | _, _, _, [] => True
  | f, row, en, t :: rs => ((f = false ∧ row < t.1 ∧ 0 ≤ t.2.1) ∨ (row = t.1 ∧ en ≤ t.2.1 ∧ (f = false → en < t.2.1))) ∧ 1 ≤ t.2.2 ∧ OrdS false t.1 (t.2.1 + t.2.2) rs
theorem ordS_snoc : ∀ (rs : List Run) (u t : Run) (f : Bool) (row en : Int), OrdS f row en (rs ++ [u]) → (u.1 < t.1 ∧ 0 ≤ t.2.1 ∨ u.1 = t.1 ∧ u.2.1 + u.2.2 < t.2.1) → 1 ≤ t.2.2 → OrdS f row en (rs ++ [u] ++ [t])
  | [], u, t, f, row, en, h, h1, h2 => by
    refine ⟨h.1, h.2.1, ?_, h2, trivial⟩
    rcases h1 with h1 | h1
    · exact .inl ⟨rfl, h1⟩
    · exact .inr ⟨h1.1, Int.le_of_lt h1.2, fun _ => h1.2⟩
  | x :: rs, u, t, f, row, en, h, h1, h2 => ⟨h.1, h.2.1, ordS_snoc rs u t _ _ _ h.2.2 h1 h2⟩
theorem ordS_grow : ∀ (rs : List Run) (u : Run) (f : Bool) (row en : Int), OrdS f row en (rs ++ [u]) → OrdS f row en (rs ++ [(u.1, u.2.1, u.2.2 + 1)])
  | [], u, f, row, en, h => ⟨h.1, by show 1 ≤ u.2.2 + 1; have := h.2.1; omega, trivial⟩
  | x :: rs, u, f, row, en, h => ⟨h.1, h.2.1, ordS_grow rs u _ _ _ h.2.2⟩
theorem ordS_runs : ∀ (l : List Pr) (us : List Run) (u : Run), OrdS true 0 0 (us ++ [u]) → (∀ x ∈ l, 0 ≤ x.1 ∧ 0 ≤ x.2) → l.Pairwise ltP → (∀ x ∈ l, u.1 < x.1 ∨ u.1 = x.1 ∧ u.2.1 + u.2.2 ≤ x.2) → OrdS true 0 0 (l.foldl runStep (us ++ [u]))
  | [], us, u, h, _, _, _ => h
  | x :: l, us, u, h, h1, h2, h3 => by
    rw [List.foldl_cons, runStep_last]
    have hx := h1 x List.mem_cons_self
    obtain ⟨p1, p2⟩ := List.pairwise_cons.mp h2
    have link := h3 x List.mem_cons_self
    have nx : ∀ y ∈ l, x.1 < y.1 ∨ x.1 = y.1 ∧ x.2 + 1 ≤ y.2 := fun y m => by
      have := ltP_iff.mp (p1 y m)
      omega
    by_cases c : u.1 = x.1 ∧ u.2.1 + u.2.2 = x.2
    · rw [if_pos c]
      refine ordS_runs l us _ (ordS_grow us u _ _ _ h) (fun y m => h1 y (List.mem_cons_of_mem _ m)) p2 fun y m => ?_
      have := nx y m
      show u.1 < y.1 ∨ u.1 = y.1 ∧ u.2.1 + (u.2.2 + 1) ≤ y.2
      omega
    · rw [if_neg c]
      refine ordS_runs l (us ++ [u]) (x.1, x.2, 1) (ordS_snoc us u _ _ _ _ h ?_ (Int.le_refl 1)) (fun y m => h1 y (List.mem_cons_of_mem _ m)) p2 nx
      show u.1 < x.1 ∧ 0 ≤ x.2 ∨ u.1 = x.1 ∧ u.2.1 + u.2.2 < x.2
      omega
theorem ordS_home {x : Pr} {l : List Pr} (h : IsHome (x :: l)) : OrdS true 0 0 (runsP (x :: l)) := by
  obtain ⟨p1, p2⟩ := List.pairwise_cons.mp h.1
  have nn := h.nn
  have hx := nn x List.mem_cons_self
  have x0 : x.1 = 0 := by
    obtain ⟨⟨m, _⟩, _⟩ := h.2 (by simp)
    obtain ⟨y, my, ey⟩ := List.mem_map.mp m
    rcases List.mem_cons.mp my with e | e
    · rw [← e]
      exact ey
    · have := ltP_iff.mp (p1 y e)
      omega
  refine ordS_runs l [] (x.1, x.2, 1) ⟨.inr ⟨x0.symm, hx.2, fun z => (by cases z)⟩, Int.le_refl 1, trivial⟩ (fun y m => nn y (List.mem_cons_of_mem _ m)) p2 fun y m => ?_
  have := ltP_iff.mp (p1 y m)
  show x.1 < y.1 ∨ x.1 = y.1 ∧ x.2 + 1 ≤ y.2
  omega
theorem d47 {cs : List Pr} {r c : Int} {n : Nat} : dStep (some (cs, r, c, 79)) (47, n) = some (cs, r + (n : Int), 0, 47) := by
  unfold dStep
  show (if dBad (47, n) 79 then none else _) = _
  rw [if_neg (by show ¬ (¬ (47 = 79 ∨ 47 = 46 ∨ 47 = 47) ∨ 47 = 79 ∨ (47 = 47 ∧ 79 = 46)); decide)]
  rfl
theorem d46 {cs : List Pr} {r c : Int} {n b : Nat} (hb : b = 79 ∨ b = 47) : dStep (some (cs, r, c, b)) (46, n) = some (cs, r, c + (n : Int), 46) := by
  unfold dStep
  show (if dBad (46, n) b then none else _) = _
  rw [if_neg (by show ¬ (¬ (46 = 79 ∨ 46 = 46 ∨ 46 = 47) ∨ 46 = b ∨ (46 = 47 ∧ b = 46)); omega)]
  rfl
theorem d79 {cs : List Pr} {r c : Int} {n b : Nat} (hb : b = 46 ∨ b = 47) : dStep (some (cs, r, c, b)) (79, n) = some (cs ++ blockOf r c n, r, c + (n : Int), 79) := by
  unfold dStep
  show (if dBad (79, n) b then none else _) = _
  rw [if_neg (by show ¬ (¬ (79 = 79 ∨ 79 = 46 ∨ 79 = 47) ∨ 79 = b ∨ (79 = 47 ∧ b = 46)); omega)]
  rfl
theorem due_runs : ∀ (rs : List Run) (f : Bool) (row en : Int) (w : List Nat) (ts0 : List TokP) (cs : List Pr) (b : Nat), OrdS f row en rs → 0 ≤ en → (f = true → en = 0 ∧ b = 47) → (f = false → b = 79) →
    w = textL ts0 → (∀ t ∈ ts0, GoodT t) → ts0.foldl dStep (some ([], 0, 0, 47)) = some (cs, row, en, b) →
    ∃ ts r e b', (rs.foldl wStep (w, row, en)).1 = textL ts ∧ (∀ t ∈ ts, GoodT t) ∧ ts.foldl dStep (some ([], 0, 0, 47)) = some (cs ++ (rs.map runCells).flatten, r, e, b') ∧ (rs ≠ [] ∨ f = false → b' = 79)
  | [], f, row, en, w, ts0, cs, b, _, _, _, fb, ew, g, e => by
    refine ⟨ts0, row, en, b, ew, g, ?_, fun z => fb (z.resolve_left fun z => z rfl)⟩
    rw [e]
    simp
  | t :: rs, f, row, en, w, ts0, cs, b, o, e0, f1, f2, ew, g, e => by
    obtain ⟨o1, o2, o3⟩ := o
    rw [List.foldl_cons]
    have A : ∃ w1 en1 ts1 b1, (if row < t.1 then (w ++ cntL (t.1 - row) 47, t.1, 0) else (w, row, en)) = (w1, t.1, en1) ∧ 0 ≤ en1 ∧ (en1 < t.2.1 ∨ en1 = t.2.1 ∧ b1 = 47) ∧ (b1 = 79 ∨ b1 = 47) ∧ w1 = textL ts1 ∧ (∀ t ∈ ts1, GoodT t) ∧ ts1.foldl dStep (some ([], 0, 0, 47)) = some (cs, t.1, en1, b1) := by
      by_cases c : row < t.1
      · obtain ⟨ff, _, h0⟩ : f = false ∧ row < t.1 ∧ 0 ≤ t.2.1 := o1.resolve_right fun z => by omega
        refine ⟨w ++ cntL (t.1 - row) 47, 0, ts0 ++ [(47, (t.1 - row).toNat)], 47, if_pos c, Int.le_refl 0, by omega, .inr rfl, ?_, fun u m => ?_, ?_⟩
        · rw [textL_app, textL_one, ← ew]
          show _ = w ++ cntL (((t.1 - row).toNat : Nat) : Int) 47
          rw [show (((t.1 - row).toNat : Nat) : Int) = t.1 - row by omega]
        · rcases List.mem_append.mp m with m | m
          · exact g u m
          · rw [List.mem_singleton.mp m]
            exact ⟨by show 1 ≤ (t.1 - row).toNat; omega, by show ¬ (48 ≤ 47 ∧ 47 ≤ 57); decide⟩
        · rw [List.foldl_append, e, f2 ff]
          show dStep (some (cs, row, en, 79)) (47, _) = _
          rw [d47, show row + (((t.1 - row).toNat : Nat) : Int) = t.1 by omega]
      · obtain ⟨e1, e2, e3⟩ : row = t.1 ∧ en ≤ t.2.1 ∧ (f = false → en < t.2.1) := o1.resolve_left fun z => c z.2.1
        refine ⟨w, en, ts0, b, by rw [if_neg c, e1], e0, ?_, ?_, ew, g, by rw [e, e1]⟩
        · cases f with
          | false => exact .inl (e3 rfl)
          | true =>
            have := (f1 rfl).2
            omega
        · cases f with
          | false => exact .inl (f2 rfl)
          | true => exact .inr (f1 rfl).2
    obtain ⟨w1, en1, ts1, b1, w1e, en10, en1l, b1e, ew1, g1, d1⟩ := A
    have B : ∃ w2 ts2 b2, (if en1 < t.2.1 then w1 ++ cntL (t.2.1 - en1) 46 else w1) = w2 ∧ (b2 = 46 ∨ b2 = 47) ∧ w2 = textL ts2 ∧ (∀ t ∈ ts2, GoodT t) ∧ ts2.foldl dStep (some ([], 0, 0, 47)) = some (cs, t.1, t.2.1, b2) := by
      by_cases c : en1 < t.2.1
      · refine ⟨w1 ++ cntL (t.2.1 - en1) 46, ts1 ++ [(46, (t.2.1 - en1).toNat)], 46, if_pos c, .inl rfl, ?_, fun u m => ?_, ?_⟩
        · rw [textL_app, textL_one, ← ew1]
          show _ = w1 ++ cntL (((t.2.1 - en1).toNat : Nat) : Int) 46
          rw [show (((t.2.1 - en1).toNat : Nat) : Int) = t.2.1 - en1 by omega]
        · rcases List.mem_append.mp m with m | m
          · exact g1 u m
          · rw [List.mem_singleton.mp m]
            exact ⟨by show 1 ≤ (t.2.1 - en1).toNat; omega, by show ¬ (48 ≤ 46 ∧ 46 ≤ 57); decide⟩
        · rw [List.foldl_append, d1]
          show dStep (some (cs, t.1, en1, b1)) (46, _) = _
          rw [d46 b1e, show en1 + (((t.2.1 - en1).toNat : Nat) : Int) = t.2.1 by omega]
      · have e1 : en1 = t.2.1 ∧ b1 = 47 := en1l.resolve_left c
        exact ⟨w1, ts1, b1, if_neg c, .inr e1.2, ew1, g1, by rw [d1, e1.1]⟩
    obtain ⟨w2, ts2, b2, w2e, b2e, ew2, g2, d2⟩ := B
    rw [wStep_eq w1e w2e]
    have nat : ((t.2.2.toNat : Nat) : Int) = t.2.2 := by omega
    obtain ⟨ts, r, e', b', h1, h2, h3, h4⟩ := due_runs rs false t.1 (t.2.1 + t.2.2) (w2 ++ cntL t.2.2 79) (ts2 ++ [(79, t.2.2.toNat)]) (cs ++ runCells t) 79 o3 (by omega) (fun z => (by cases z)) (fun _ => rfl) (by
        rw [textL_app, textL_one, ← ew2]
        show _ = w2 ++ cntL ((t.2.2.toNat : Nat) : Int) 79
        rw [nat]) (fun u m => by
        rcases List.mem_append.mp m with m | m
        · exact g2 u m
        · rw [List.mem_singleton.mp m]
          exact ⟨by show 1 ≤ t.2.2.toNat; omega, by show ¬ (48 ≤ 79 ∧ 79 ≤ 57); decide⟩) (by
        rw [List.foldl_append, d2]
        show dStep (some (cs, t.1, t.2.1, b2)) (79, _) = _
        rw [d79 b2e, nat]
        rfl)
    refine ⟨ts, r, e', b', h1, h2, ?_, fun _ => h4 (.inr rfl)⟩
    rw [h3]
    simp
theorem due_write {qs : List Pr} (h : IsHome qs) : dueT (writeP (runsP qs)) = some qs := by
  cases qs with
  | nil => rfl
  | cons x l =>
    obtain ⟨ts, r, e, b, h1, h2, h3, h4⟩ := due_runs (runsP (x :: l)) true 0 0 [] [] [] 47 (ordS_home h) (Int.le_refl 0) (fun _ => ⟨rfl, rfl⟩) (fun z => (by cases z)) rfl (fun _ m => (by cases m)) rfl
    rw [runs_cells, List.nil_append] at h3
    have rne : runsP (x :: l) ≠ [] := fun z => by
      have := runs_cells (x :: l)
      rw [z] at this
      cases this
    have b79 := h4 (.inl rne)
    have ez : writeP (runsP (x :: l)) = textL (ts ++ [(33, 1)]) := by
      rw [textL_app, textL_one, ← h1]
      rfl
    have gg : ∀ t ∈ ts ++ [(33, 1)], GoodT t := fun t m => by
      rcases List.mem_append.mp m with m | m
      · exact h2 t m
      · rw [List.mem_singleton.mp m]
        exact ⟨Nat.le_refl 1, by decide⟩
    unfold dueT
    rw [ez, toks_text gg]
    show (if ts ++ [(33, 1)] = [] ∨ (ts ++ [(33, 1)]).getLast? ≠ some (33, 1) then none else dueK (ts ++ [(33, 1)]).dropLast) = _
    rw [if_neg (by rw [List.getLast?_concat]; simp), List.dropLast_concat]
    unfold dueK
    rw [h3]
    show (if (ts ≠ [] ∧ b ≠ 79) ∨ (x :: l ≠ [] ∧ ∀ y ∈ x :: l, 0 < y.2) then none else some (x :: l)) = _
    rw [if_neg]
    rintro (z | z)
    · exact z.2 b79
    · obtain ⟨_, ⟨m, _⟩⟩ := h.2 (by simp)
      obtain ⟨y, my, ey⟩ := List.mem_map.mp m
      have := z.2 y my
      omega
end
end My
namespace My
open PySem PySem.Spec PyProof.Rows L2 Vx
open TL
local macro_rules | `(tactic| k_invariant "new" ($n, $H:ident, $e:ident, $h:ident)) => `(tactic| (generalize hE : upd _ _ _ = $H; obtain ⟨$e:ident, $h:ident⟩ := gen_e hE $n; clear hE))
local macro_rules | `(tactic| k_places) => `(tactic| first
  | assumption
  | exact lst_of (by assumption)
  | exact tup_of (by assumption)
  | (refine getS (by assumption) ?_; k_places)
  | (refine Same.seq (by assumption) ?_; k_places)
  | (refine tupS (by assumption) ?_; k_places)
  | (refine lst_of ?_; k_places)
  | (refine tup_of ?_; k_places))
local macro_rules | `(tactic| k_subL) => `(tactic| first
  | k_places
  | solve_by_elim (maxDepth := 10) [getS, lst_of, tup_of, Same.seq, tupS])
local macro_rules | `(tactic| k_offL) => `(tactic| first
  | (show (0 : Int) < _; first | omega | decide)
  | (refine ⟨?_, ?_⟩ <;> first | omega | decide)
  | exact .inr ⟨by decide, by decide⟩
  | exact .inl ⟨by decide, by decide⟩
  | exact .inl ⟨by omega, by omega⟩
  | omega)
local macro_rules | `(tactic| k_clsL) => `(tactic| exact Nat.le_of_ble_eq_true rfl)
local macro_rules | `(tactic| k_upd) => `(tactic| simp only [L2.start, List.map_cons, List.map_nil, List.length_cons, List.length_nil, List.replicate_succ, List.replicate_zero, List.cons_append, List.nil_append, List.set_cons_zero, List.set_cons_succ])
section
variable {P : Program} {w : World} {K : PySem.W.Frag} {mg : Str → Option Value} {base : Heap}
/-! ### how many cells a text can have -/
def oW : List Nat → List Nat → Nat
  | [], _ => 0
  | c :: l, d => if 48 ≤ c ∧ c ≤ 57 then oW l (d ++ [c]) else (if c = 79 then numT (d.take 3) else 0) + oW l []
def dgS : List Nat → List Nat → List Nat
  | [], d => d
  | c :: l, d => if 48 ≤ c ∧ c ≤ 57 then dgS l (d ++ [c]) else dgS l []
theorem oW_dig {c : Nat} (h : 48 ≤ c ∧ c ≤ 57) (l d : List Nat) : oW (c :: l) d = oW l (d ++ [c]) := if_pos h
theorem oW_sgn {c : Nat} (h : ¬ (48 ≤ c ∧ c ≤ 57)) (l d : List Nat) : oW (c :: l) d = (if c = 79 then numT (d.take 3) else 0) + oW l [] := if_neg h
theorem dgS_dig {c : Nat} (h : 48 ≤ c ∧ c ≤ 57) (l d : List Nat) : dgS (c :: l) d = dgS l (d ++ [c]) := if_pos h
theorem dgS_sgn {c : Nat} (h : ¬ (48 ≤ c ∧ c ≤ 57)) (l d : List Nat) : dgS (c :: l) d = dgS l [] := if_neg h
theorem all_snoc {d : List Nat} (h : NumText.AllDigits d) {c : Nat} (hc : 48 ≤ c ∧ c ≤ 57) : NumText.AllDigits (d ++ [c]) := fun x m => by
  rcases List.mem_append.mp m with m | m
  · exact h x m
  · rw [List.mem_singleton.mp m]
    exact hc
theorem all_nil : NumText.AllDigits [] := fun _ m => (by cases m)
theorem numT_le {d : List Nat} (h : NumText.AllDigits d) : numT (d.take 3) ≤ 999 := by
  have := numT_lt (d := d.take 3) (fun x m => h x (List.mem_of_mem_take m)) (by rw [List.length_take]; omega)
  omega
theorem o79_le {d : List Nat} (h : NumText.AllDigits d) (c : Nat) : (if c = 79 then numT (d.take 3) else 0) ≤ 999 := by
  have := numT_le h
  split <;> omega
theorem oW_any : ∀ (l d e : List Nat), NumText.AllDigits d → NumText.AllDigits e → oW l d ≤ oW l e + 999
  | [], d, e, _, _ => Nat.zero_le _
  | c :: l, d, e, hd, he => by
    by_cases hc : 48 ≤ c ∧ c ≤ 57
    · rw [oW_dig hc, oW_dig hc]
      exact oW_any l _ _ (all_snoc hd hc) (all_snoc he hc)
    · rw [oW_sgn hc, oW_sgn hc]
      have := o79_le hd c
      omega
theorem oW_app : ∀ (a b d : List Nat), oW (a ++ b) d = oW a d + oW b (dgS a d)
  | [], b, d => (Nat.zero_add _).symm
  | c :: a, b, d => by
    show oW (c :: (a ++ b)) d = _
    by_cases hc : 48 ≤ c ∧ c ≤ 57
    · rw [oW_dig hc, oW_dig hc, dgS_dig hc]
      exact oW_app a b _
    · rw [oW_sgn hc, oW_sgn hc, dgS_sgn hc, oW_app a b []]
      omega
theorem dgS_app : ∀ (a b d : List Nat), dgS (a ++ b) d = dgS b (dgS a d)
  | [], b, d => rfl
  | c :: a, b, d => by
    show dgS (c :: (a ++ b)) d = _
    by_cases hc : 48 ≤ c ∧ c ≤ 57
    · rw [dgS_dig hc, dgS_dig hc]
      exact dgS_app a b _
    · rw [dgS_sgn hc, dgS_sgn hc]
      exact dgS_app a b _
theorem dgS_all : ∀ (a d : List Nat), NumText.AllDigits d → NumText.AllDigits (dgS a d)
  | [], d, h => h
  | c :: a, d, h => by
    by_cases hc : 48 ≤ c ∧ c ≤ 57
    · rw [dgS_dig hc]
      exact dgS_all a _ (all_snoc h hc)
    · rw [dgS_sgn hc]
      exact dgS_all a _ all_nil
theorem oW_drop {b d : List Nat} (h : NumText.AllDigits d) (k : Nat) (hk : k ≤ 1) : ∃ e, NumText.AllDigits e ∧ oW (b.drop k) e ≤ oW b d := by
  rcases Nat.eq_zero_or_pos k with e | e
  · subst e
    exact ⟨d, h, Nat.le_refl _⟩
  · obtain rfl : k = 1 := by omega
    cases b with
    | nil => exact ⟨d, h, Nat.zero_le _⟩
    | cons c b =>
      show ∃ e, NumText.AllDigits e ∧ oW b e ≤ _
      by_cases hc : 48 ≤ c ∧ c ≤ 57
      · exact ⟨d ++ [c], all_snoc h hc, by rw [oW_dig hc]; exact Nat.le_refl _⟩
      · exact ⟨[], all_nil, by rw [oW_sgn hc]; omega⟩
theorem oW_change (a b n : List Nat) (k : Nat) (hn : n.length ≤ 1) (hk : k ≤ 1) : oW (a ++ n ++ b.drop k) [] ≤ oW (a ++ b) [] + 1998 := by
  rw [List.append_assoc, oW_app a (n ++ b.drop k), oW_app a b]
  have hd := dgS_all a [] all_nil
  obtain ⟨e, he, le⟩ := oW_drop (b := b) hd k hk
  generalize dgS a [] = d at hd le ⊢
  cases n with
  | nil =>
    have := oW_any (b.drop k) d e hd he
    show _ + oW (b.drop k) d ≤ _
    omega
  | cons c n =>
    cases n with
    | nil =>
      show _ + oW (c :: b.drop k) d ≤ _
      by_cases hc : 48 ≤ c ∧ c ≤ 57
      · rw [oW_dig hc]
        have := oW_any (b.drop k) _ e (all_snoc hd hc) he
        omega
      · rw [oW_sgn hc]
        have := oW_any (b.drop k) [] e all_nil he
        have := o79_le hd c
        omega
    | cons c2 n =>
      rw [List.length_cons, List.length_cons] at hn
      omega
theorem numT_250 {d : List Nat} (h : NumText.AllDigits d) : numT (d.take 3) ≤ 250 * (d.length + 1) := by
  unfold numT
  by_cases e : d.take 3 = []
  · rw [if_pos e]
    omega
  · rw [if_neg e]
    have ad : NumText.AllDigits (d.take 3) := fun x m => h x (List.mem_of_mem_take m)
    have v := val_lt (d.take 3) 0 ad
    have v : NumText.digitsVal (d.take 3) < (0 + 1) * 10 ^ (d.take 3).length := v
    have l3 : (d.take 3).length ≤ 3 ∧ (d.take 3).length ≤ d.length := by
      rw [List.length_take]
      omega
    generalize (d.take 3).length = k at v l3
    have : k = 0 ∨ k = 1 ∨ k = 2 ∨ k = 3 := by omega
    rcases this with e | e | e | e <;> subst e <;> simp at v <;> omega
theorem oW_250 : ∀ (l d : List Nat), NumText.AllDigits d → oW l d ≤ 250 * (l.length + d.length)
  | [], d, _ => Nat.zero_le _
  | c :: l, d, h => by
    by_cases hc : 48 ≤ c ∧ c ≤ 57
    · rw [oW_dig hc]
      have := oW_250 l (d ++ [c]) (all_snoc h hc)
      rw [List.length_append, List.length_singleton] at this
      rw [List.length_cons]
      omega
    · rw [oW_sgn hc]
      have := oW_250 l [] all_nil
      have n := numT_250 h
      rw [List.length_nil] at this
      rw [List.length_cons]
      split <;> omega
theorem Sm.init {l : List Nat} {c : Nat} (h : Sm (l ++ [c])) : Sm l := fun i => by
  by_cases q : i ≤ l.length
  · have := h i
    rwa [List.take_append_of_le_length q] at this
  · have := h l.length
    rw [List.take_left'] at this
    · rw [List.take_of_length_le (by omega)]
      exact this
    · rfl
theorem cellsT_snoc (l : List Nat) (c : Nat) : cellsT (l ++ [c]) = tStep (cellsT l) c := by
  unfold cellsT
  rw [List.foldl_append]
  rfl
structure CtOk (l : List Nat) : Prop where
  ad : NumText.AllDigits (cellsT l).2.2.2
  dg : (cellsT l).2.2.2 = dgS l []
  few : (cellsT l).1.length = oW l []
  row : 0 ≤ (cellsT l).2.1 ∧ (cellsT l).2.1 ≤ 1000 * (l.length : Int)
  col : 0 ≤ (cellsT l).2.2.1 ∧ (cellsT l).2.2.1 ≤ 1000 * (l.length : Int)
  box : ∀ x ∈ (cellsT l).1, 0 ≤ x.1 ∧ x.1 ≤ 1000 * (l.length : Int) ∧ 0 ≤ x.2 ∧ x.2 ≤ 1000 * (l.length : Int)
theorem ct_ok : ∀ (n : Nat) (l : List Nat), l.length = n → Sm l → CtOk l
  | 0, l, e, _ => by
    rw [List.length_eq_zero_iff.mp e]
    exact ⟨all_nil, rfl, rfl, ⟨Int.le_refl 0, Int.le_refl 0⟩, ⟨Int.le_refl 0, Int.le_refl 0⟩, fun _ m => (by cases m)⟩
  | n + 1, l, e, sm => by
    rcases List.eq_nil_or_concat l with rfl | ⟨b, c, eb⟩
    · cases e
    rw [List.concat_eq_append] at eb
    subst eb
    rw [List.length_append, List.length_singleton] at e
    have ih := ct_ok n b (by omega) sm.init
    obtain ⟨h1, h2, h3, h4, h5, h6⟩ := ih
    have l3 := sm.init b.length
    rw [List.take_length] at l3
    have s3 := cellsT_snoc b c
    have ll : ((b ++ [c]).length : Int) = (b.length : Int) + 1 := by
      rw [List.length_append, List.length_singleton]
      omega
    generalize cellsT b = st at h1 h2 h3 h4 h5 h6 l3 s3
    obtain ⟨cs, row, col, d⟩ := st
    have h1 : NumText.AllDigits d := h1
    have h2 : d = dgS b [] := h2
    have h3 : cs.length = oW b [] := h3
    have h4 : 0 ≤ row ∧ row ≤ 1000 * (b.length : Int) := h4
    have h5 : 0 ≤ col ∧ col ≤ 1000 * (b.length : Int) := h5
    have h6 : ∀ x ∈ cs, 0 ≤ x.1 ∧ x.1 ≤ 1000 * (b.length : Int) ∧ 0 ≤ x.2 ∧ x.2 ≤ 1000 * (b.length : Int) := h6
    have l3 : d.length ≤ 3 := l3
    have up : ∀ x ∈ cs, 0 ≤ x.1 ∧ x.1 ≤ 1000 * ((b ++ [c]).length : Int) ∧ 0 ≤ x.2 ∧ x.2 ≤ 1000 * ((b ++ [c]).length : Int) := fun x m => by
      have := h6 x m
      omega
    have nl := numT_lt h1 l3
    by_cases hc : 48 ≤ c ∧ c ≤ 57
    · have s : cellsT (b ++ [c]) = (cs, row, col, d ++ [c]) := s3.trans (if_pos hc)
      have e1 : dgS (b ++ [c]) [] = d ++ [c] := by rw [dgS_app, ← h2, dgS_dig hc]; rfl
      have e2 : oW (b ++ [c]) [] = oW b [] := by rw [oW_app, ← h2, oW_dig hc]; rfl
      constructor <;> rw [s]
      · exact all_snoc h1 hc
      · exact e1.symm
      · rw [e2]
        exact h3
      · show 0 ≤ row ∧ row ≤ _
        omega
      · show 0 ≤ col ∧ col ≤ _
        omega
      · exact up
    · have s : cellsT (b ++ [c]) = tNum cs row col (numT d) c := s3.trans (tStep_num cs row col d hc)
      have e1 : dgS (b ++ [c]) [] = [] := by rw [dgS_app, ← h2, dgS_sgn hc]; rfl
      have e2 : oW (b ++ [c]) [] = oW b [] + if c = 79 then numT d else 0 := by
        rw [oW_app, ← h2, oW_sgn hc, List.take_of_length_le l3]
        rfl
      unfold tNum at s
      by_cases k1 : c = 47
      · rw [if_pos k1] at s
        rw [if_neg (by omega)] at e2
        constructor <;> rw [s]
        · exact all_nil
        · exact e1.symm
        · rw [e2]
          exact h3
        · show 0 ≤ row + _ ∧ row + _ ≤ _
          omega
        · show (0 : Int) ≤ 0 ∧ (0 : Int) ≤ _
          omega
        · exact up
      · rw [if_neg k1] at s
        by_cases k2 : c = 79
        · rw [if_pos k2] at s
          rw [if_pos k2] at e2
          constructor <;> rw [s]
          · exact all_nil
          · exact e1.symm
          · rw [e2, List.length_append, List.length_map, List.length_range, h3]
          · show 0 ≤ row ∧ row ≤ _
            omega
          · show 0 ≤ col + _ ∧ col + _ ≤ _
            omega
          · intro x m
            rcases List.mem_append.mp m with m | m
            · exact up x m
            · obtain ⟨k, mk, rfl⟩ := List.mem_map.mp m
              have := List.mem_range.mp mk
              show 0 ≤ row ∧ row ≤ _ ∧ 0 ≤ col + _ ∧ col + _ ≤ _
              omega
        · rw [if_neg k2] at s
          rw [if_neg k2] at e2
          by_cases k3 : c = 46
          · rw [if_pos k3] at s
            constructor <;> rw [s]
            · exact all_nil
            · exact e1.symm
            · rw [e2]
              exact h3
            · show 0 ≤ row ∧ row ≤ _
              omega
            · show 0 ≤ col + _ ∧ col + _ ≤ _
              omega
            · exact up
          · rw [if_neg k3] at s
            constructor <;> rw [s]
            · exact all_nil
            · exact e1.symm
            · rw [e2]
              exact h3
            · show 0 ≤ row ∧ row ≤ _
              omega
            · show 0 ≤ col ∧ col ≤ _
              omega
            · exact up
/-- what is kept of a text: of a number, three digits at most -/
structure Kept (l k : List Nat) : Prop where
  sm : Sm k
  dg : dgS k [] = (dgS l []).take 3
  w : oW k [] = oW l []
theorem kept_nil : Kept [] [] := ⟨fun i => by rw [List.take_nil]; exact Nat.zero_le 3, rfl, rfl⟩
theorem Kept.step {l k : List Nat} (h : Kept l k) (c : Nat) : Kept (l ++ [c]) (if (dgS (l ++ [c]) []).length < 4 then k ++ [c] else k) := by
  obtain ⟨sm, dg, w⟩ := h
  have ok := ct_ok _ k rfl sm
  have grow : (dgS (k ++ [c]) []).length ≤ 3 → Sm (k ++ [c]) := fun q => sm.app rfl fun i => by
    cases i with
    | zero =>
      have := sm k.length
      rwa [List.take_length] at this
    | succ i =>
      show (List.foldl tStep (tStep (cellsT k) c) (List.take i [])).2.2.2.length ≤ 3
      rw [List.take_nil]
      show (tStep (cellsT k) c).2.2.2.length ≤ 3
      have e : (tStep (cellsT k) c).2.2.2 = dgS (k ++ [c]) [] := by
        rw [dgS_app, ← ok.dg]
        unfold tStep
        by_cases hc : 48 ≤ c ∧ c ≤ 57
        · rw [if_pos hc, dgS_dig hc]
          rfl
        · rw [if_neg hc, dgS_sgn hc]
          split
          · rfl
          · split
            · rfl
            · split <;> rfl
      rw [e]
      exact q
  by_cases hc : 48 ≤ c ∧ c ≤ 57
  · have el : dgS (l ++ [c]) [] = dgS l [] ++ [c] := by rw [dgS_app, dgS_dig hc]; rfl
    have ek : dgS (k ++ [c]) [] = dgS k [] ++ [c] := by rw [dgS_app, dgS_dig hc]; rfl
    have wl : oW (l ++ [c]) [] = oW l [] := by rw [oW_app, oW_dig hc]; rfl
    have wk : oW (k ++ [c]) [] = oW k [] := by rw [oW_app, oW_dig hc]; rfl
    rw [el, List.length_append, List.length_singleton]
    by_cases q : (dgS l []).length + 1 < 4
    · rw [if_pos q]
      have tk : (dgS l []).take 3 = dgS l [] := List.take_of_length_le (by omega)
      refine ⟨grow ?_, ?_, by rw [wl, wk, w]⟩
      · rw [ek, dg, tk, List.length_append, List.length_singleton]
        omega
      · rw [ek, el, dg, tk, List.take_of_length_le (by rw [List.length_append, List.length_singleton]; omega)]
    · rw [if_neg q]
      refine ⟨sm, ?_, by rw [wl, w]⟩
      rw [el, dg, List.take_append_of_le_length (by omega)]
  · have el : dgS (l ++ [c]) [] = [] := by rw [dgS_app, dgS_sgn hc]; rfl
    have ek : dgS (k ++ [c]) [] = [] := by rw [dgS_app, dgS_sgn hc]; rfl
    rw [el]
    show Kept _ (k ++ [c])
    refine ⟨grow (by rw [ek]; exact Nat.zero_le 3), by rw [ek, el]; rfl, ?_⟩
    rw [oW_app, oW_app, oW_sgn hc, oW_sgn hc, w, dg, List.take_take]
    rfl
end
end My
namespace My
open PySem PySem.Spec PyProof.Rows L2 Vx
open TL
local macro_rules | `(tactic| k_invariant "new" ($n, $H:ident, $e:ident, $h:ident)) => `(tactic| (generalize hE : upd _ _ _ = $H; obtain ⟨$e:ident, $h:ident⟩ := gen_e hE $n; clear hE))
local macro_rules | `(tactic| k_places) => `(tactic| first
  | assumption
  | exact lst_of (by assumption)
  | exact tup_of (by assumption)
  | (refine getS (by assumption) ?_; k_places)
  | (refine Same.seq (by assumption) ?_; k_places)
  | (refine tupS (by assumption) ?_; k_places)
  | (refine lst_of ?_; k_places)
  | (refine tup_of ?_; k_places))
local macro_rules | `(tactic| k_subL) => `(tactic| first
  | k_places
  | solve_by_elim (maxDepth := 10) [getS, lst_of, tup_of, Same.seq, tupS])
local macro_rules | `(tactic| k_offL) => `(tactic| first
  | (show (0 : Int) < _; first | omega | decide)
  | (refine ⟨?_, ?_⟩ <;> first | omega | decide)
  | exact .inr ⟨by decide, by decide⟩
  | exact .inl ⟨by decide, by decide⟩
  | exact .inl ⟨by omega, by omega⟩
  | omega)
local macro_rules | `(tactic| k_clsL) => `(tactic| exact Nat.le_of_ble_eq_true rfl)
local macro_rules | `(tactic| k_upd) => `(tactic| simp only [L2.start, List.map_cons, List.map_nil, List.length_cons, List.length_nil, List.replicate_succ, List.replicate_zero, List.cons_append, List.nil_append, List.set_cons_zero, List.set_cons_succ])
section
variable {P : Program} {w : World} {K : PySem.W.Frag} {mg : Str → Option Value} {base : Heap}
theorem len_app (a b : Str) : (a ++ b).length = a.length + b.length := by
  rw [TL.len_tl, tl_append, List.length_append, ← TL.len_tl, ← TL.len_tl]
theorem HomeOf.isHome {ps qs : List Pr} (h : HomeOf ps qs) : IsHome qs := by
  by_cases e : ps = []
  · rw [h.1 e]
    exact ⟨List.Pairwise.nil, fun z => absurd rfl z⟩
  · obtain ⟨a, la⟩ := least_ex (rowsP ps) (fun z => e (List.map_eq_nil_iff.mp z))
    obtain ⟨b, lb⟩ := least_ex (colsP ps) (fun z => e (List.map_eq_nil_iff.mp z))
    obtain ⟨pw, mem⟩ := h.2 a b la lb
    refine ⟨pw, fun _ => ⟨⟨?_, fun y my => ?_⟩, ⟨?_, fun y my => ?_⟩⟩⟩
    · obtain ⟨x, mx, ex⟩ := List.mem_map.mp la.1
      have ex : x.1 = a := ex
      refine List.mem_map.mpr ⟨addP (-a) (-b) x, (mem _).mpr (List.mem_map.mpr ⟨x, mx, rfl⟩), ?_⟩
      show x.1 + -a = 0
      omega
    · obtain ⟨x, mx, rfl⟩ := List.mem_map.mp my
      obtain ⟨z, mz, rfl⟩ := List.mem_map.mp ((mem _).mp mx)
      have := la.2 z.1 (List.mem_map.mpr ⟨z, mz, rfl⟩)
      show 0 ≤ z.1 + -a
      omega
    · obtain ⟨x, mx, ex⟩ := List.mem_map.mp lb.1
      have ex : x.2 = b := ex
      refine List.mem_map.mpr ⟨addP (-a) (-b) x, (mem _).mpr (List.mem_map.mpr ⟨x, mx, rfl⟩), ?_⟩
      show x.2 + -b = 0
      omega
    · obtain ⟨x, mx, rfl⟩ := List.mem_map.mp my
      obtain ⟨z, mz, rfl⟩ := List.mem_map.mp ((mem _).mp mx)
      have := lb.2 z.2 (List.mem_map.mpr ⟨z, mz, rfl⟩)
      show 0 ≤ z.2 + -b
      omega
def sp_read_text (IT : Addr) : Sp := fun vs H Q E => ∃ z : Str, vs = [.str z] ∧ z.length ≤ 1000 ∧ Sm (tl z) ∧ oW (tl z) [] ≤ 4090 ∧ (∀ H', Same H H' → dueT (tl z) = none → E (.ref IT) none H') ∧
  ∀ (H' : Hp) (p : Addr) (cs : List Pr), Same H H' → dueT (tl z) = some cs → Cells H' p cs → Q (.ref p) H'
theorem ok_read_text (T : Txt K mg) : FnOk P w K mg base (L2.CX P w) 5 T.f_read_text T.d_read_text ["string"] (sp_read_text T.C_InvalidText) := by
  refine T.F_read_text.okX sc_read_text (fun vs H Q E h => ?_) (fun cdv A outer s H vs Q E hr h => ?_)
  · obtain ⟨_, rfl, _⟩ := h
    rfl
  · obtain ⟨z, rfl, lz, sm, few, qe, q⟩ := h
    refine ⟨_, (pss_cons (ps_set (i := 1) sc_read_text.nd rfl (.inl rfl) (pe_call (ok_cells_of_text T) (hr.mono (by decide)) (by rfl) T.g_cells_of_text T.F_cells_of_text.kp T.b_cells_of_text .nil pass0 (pa_cons (pv 0) pa_nil)))
      (pss_cons (ps_if (pt_cmpR op_ne (pe_call (ok_write_text T) (hr.mono (by decide)) (by rfl) T.g_write_text T.F_write_text.kp T.b_write_text .nil pass0 (pa_cons (pv 1) pa_nil)) (pv 0) (nomark _))
      (pss_one (ps_raise rfl (takes_of rfl rfl rfl rfl) (SkE.pmk_own1 PySem.F.excBase_ValueError T.xIR T.g_InvalidText T.kIR (raises_own T.bIR T.tIR) (by rfl) (pe_joined (.cons pe_str (.cons (pe_fmt (pv 0)) .nil))))))
      pss_nil)
      (pss_one (ps_ret (pv 1))))), ?_⟩
    have ok := ct_ok _ (tl z) rfl sm
    refine ⟨_, rfl, z, rfl, lz, sm, fun H1 p n1 e1 h1 => ?_⟩
    have lt : (tl z).length ≤ 1000 := by
      rw [← TL.len_tl]
      exact lz
    refine ⟨_, rfl, p, (cellsT (tl z)).1, rfl, h1, by rw [ok.few]; exact few, fun x m => ?_, fun H2 s rs e2 hm ht hl => ?_⟩
    · have := ok.box x m
      omega
    · refine ⟨_, rfl, rfl, _, rfl, ite2 (fun c => ?_) (fun c => ?_)⟩
      · have c : ¬ s = z := fun e => by
          rw [e] at c
          simp at c
        have el : (Str.empty ++ Str.ofString "not the run text of a home form: ").length = 33 := by decide +kernel
        refine ⟨_, rfl, ?_, _, rfl, .inl ⟨z, rfl, Nat.le_trans lz (by decide), _, rfl, ?_, qe H2 (e1.trans e2) ?_⟩⟩
        · rw [el]; decide
        · rw [len_app, el]
          exact Nat.le_trans (show 33 + z.length ≤ 1033 by omega) (by decide)
        · cases hd : dueT (tl z) with
          | none => rfl
          | some cs =>
            obtain ⟨h1, h2, h3⟩ := due_some hd
            rw [h3] at hm
            refine absurd (tlInj ?_) c
            rw [ht, h1.same hm, ← h2]
      · have c : s = z := by
          have c' : ¬ (!decide (V.str s = V.str z)) = true := c
          simp at c'
          exact c'
        have hd : dueT (tl z) = some rs := by
          rw [← c, ht]
          exact due_write hm.isHome
        obtain ⟨_, _, h3⟩ := due_some hd
        rw [h3] at h1
        exact ⟨_, rfl, q H2 p rs (e1.trans e2) hd (h1.up e2)⟩
end
end My
namespace My
open PySem PySem.Spec PyProof.Rows L2 Vx
open TL
local macro_rules | `(tactic| k_invariant "new" ($n, $H:ident, $e:ident, $h:ident)) => `(tactic| (generalize hE : upd _ _ _ = $H; obtain ⟨$e:ident, $h:ident⟩ := gen_e hE $n; clear hE))
local macro_rules | `(tactic| k_places) => `(tactic| first
  | assumption
  | exact lst_of (by assumption)
  | exact tup_of (by assumption)
  | (refine getS (by assumption) ?_; k_places)
  | (refine Same.seq (by assumption) ?_; k_places)
  | (refine tupS (by assumption) ?_; k_places)
  | (refine lst_of ?_; k_places)
  | (refine tup_of ?_; k_places))
local macro_rules | `(tactic| k_subL) => `(tactic| first
  | k_places
  | solve_by_elim (maxDepth := 10) [getS, lst_of, tup_of, Same.seq, tupS])
local macro_rules | `(tactic| k_offL) => `(tactic| first
  | (show (0 : Int) < _; first | omega | decide)
  | (refine ⟨?_, ?_⟩ <;> first | omega | decide)
  | exact .inr ⟨by decide, by decide⟩
  | exact .inl ⟨by decide, by decide⟩
  | exact .inl ⟨by omega, by omega⟩
  | omega)
local macro_rules | `(tactic| k_clsL) => `(tactic| exact Nat.le_of_ble_eq_true rfl)
local macro_rules | `(tactic| k_upd) => `(tactic| simp only [L2.start, List.map_cons, List.map_nil, List.length_cons, List.length_nil, List.replicate_succ, List.replicate_zero, List.cons_append, List.nil_append, List.set_cons_zero, List.set_cons_succ])
section
variable {P : Program} {w : World} {K : PySem.W.Frag} {mg : Str → Option Value} {base : Heap}
theorem ok_law_cell (T : Txt K mg) : FnOk P w K mg base CX0 1 T.f_law_cell T.d_law_cell ["script", "k"] (spCell K) := by
  refine T.F_law_cell.ok sc_law_cell (fun vs H Q E h => ?_) (fun cdv A outer s H vs Q E hr h => ?_)
  · obtain ⟨l, ns, j, rfl, _⟩ := h
    rfl
  · obtain ⟨l, ns, j, rfl, hs, q⟩ := h
    refine ⟨_, (pss_cons (ps_if (pt_cmpR op_lt (pv 1) (pe_callB call_lenL (by rfl) T.z_len (by decide +kernel) (pa_cons (pv 0) pa_nil)) (nomark _))
      (pss_one (ps_ret (pe_callTy call_intI (by rfl) T.z_int (by decide +kernel) (pa_cons (pe_ix ix_list (pv 0) (pv 1) (fun _ _ => rfl)) pa_nil))))
      pss_nil)
      (pss_one (ps_ret pe_int))), ?_⟩
    refine ⟨_, rfl, _, rfl, _, _, rfl, hs, _, _, rfl, rfl, _, rfl, ite2 (fun c => ?_) (fun c => ?_)⟩
    · have hj : j < ns.length := by
        have z := of_decide_eq_true c
        rw [List.length_map] at z
        omega
      exact ⟨_, rfl, _, rfl, _, _, _, _, rfl, rfl, hs, atI_cell hj, _, rfl, q⟩
    · have hj : ¬ j < ns.length := fun z => c (decide_eq_true (by rw [List.length_map]; omega))
      rw [cell_out hj] at q
      exact q
/-! ### law_row: so many numbers from 0 to below the bound -/
def sp_law_row : Sp := fun vs H Q _ => ∃ (cell count bound : Int), vs = [.int cell, .int count, .int bound] ∧ 0 ≤ count ∧ count ≤ 100000 ∧ 0 < bound ∧ bound < 1000000000 ∧
  ∀ (H' : Hp) (p : Addr) (xs : List Int), H p = none → Same H H' → H' p = some (.lst (xs.map V.int)) → (xs.length : Int) = count → (∀ x ∈ xs, 0 ≤ x ∧ x < bound) → Q (.ref p) H'
theorem ok_law_row (T : Txt K mg) : FnOk P w K mg base CX0 1 T.f_law_row T.d_law_row ["cell", "count", "bound"] sp_law_row := by
  refine T.F_law_row.ok sc_law_row (fun vs H Q E h => ?_) (fun cdv A outer s H vs Q E hr h => ?_)
  · obtain ⟨_, _, _, rfl, _⟩ := h
    rfl
  · obtain ⟨cell, count, bound, rfl, c0, c1, b0, b1, q⟩ := h
    refine ⟨_, (pss_cons (ps_set (i := 3) sc_law_row.nd rfl (.inl rfl) (pe_callB call_abs (by rfl) T.z_abs (by decide +kernel) (pa_cons (pe_callTy call_intI (by rfl) T.z_int (by decide +kernel) (pa_cons (pv 0) pa_nil)) pa_nil)))
      (pss_cons (ps_set (i := 4) sc_law_row.nd rfl (.inl rfl) (pe_op op_add (pe_op op_mod (pe_callTy call_intI (by rfl) T.z_int (by decide +kernel) (pa_cons (pv 0) pa_nil)) pe_int) pe_int))
      (pss_cons (ps_set (i := 5) sc_law_row.nd rfl (.inl rfl) (pe_lst pa_nil))
      (pss_cons (ps_for PassesOwn.never rfl (pi_range1 (by rfl) T.z_range (pa_cons (pv 1) pa_nil)) (pg_name (i := 6) sc_law_row.nd rfl (.inl rfl))
      (pss_one (ps_if (pt_cmpR op_ge (pv 3) (pv 2) (nomark _))
      (pss_cons (ps_expr (pe_bm PySem.F.plainAttrs_list PySem.F.slot_list_append PySem.F.type_list_append mt_append (pv 5) (pa_cons (pe_op op_mod (pe_callTy call_intI (by rfl) T.z_int (by decide +kernel) (pa_cons (pv 3) pa_nil)) (pv 2)) pa_nil)))
      (pss_one (ps_set (i := 3) sc_law_row.nd rfl (.inl rfl) (pe_op op_fdiv (pv 3) (pv 2)))))
      (pss_cons (ps_set (i := 4) sc_law_row.nd rfl (.inl rfl) (pe_op op_mod (pe_callTy call_intI (by rfl) T.z_int (by decide +kernel) (pa_cons (pe_op op_add (pe_op op_add (pe_op op_mul (pv 4) pe_int) (pe_op op_mul pe_int (pv 6))) pe_int) pa_nil)) pe_int))
      (pss_one (ps_expr (pe_bm PySem.F.plainAttrs_list PySem.F.slot_list_append PySem.F.type_list_append mt_append (pv 5) (pa_cons (pe_op op_mod (pe_callTy call_intI (by rfl) T.z_int (by decide +kernel) (pa_cons (pe_op op_fdiv (pe_op op_mul (pv 4) pe_int) pe_int) pa_nil)) (pv 2)) pa_nil))))))))
      (pss_one (ps_ret (pv 5))))))), ?_⟩
    refine ⟨_, rfl, _, rfl, _, rfl, _, rfl, _, rfl, _, _, rfl, rfl, (by k_offL), _, _, rfl, rfl, Nat.zero_le _, fun p1 n1 => ?_⟩
    k_invariant "new" (n1, H1, e1, h1)
    refine ⟨_, rfl, _, rfl, by omega, by omega, for_range (lo := 0) (n := count.toNat) (fun i σ H' => ∃ (rest mixed : Int) (xs : List Int) (v : Option V), σ = [some (.int cell), some (.int count), some (.int bound), some (.int rest), some (.int mixed), some (.ref p1), v] ∧
      Same H H' ∧ H' p1 = some (.lst (xs.map V.int)) ∧ xs.length = i ∧ (∀ x ∈ xs, 0 ≤ x ∧ x < bound) ∧ 0 ≤ mixed ∧ mixed < 4294967296) ?_ ?_ ?_⟩
    · refine ⟨_, _, [], none, rfl, e1, h1, rfl, by simp, ?_, ?_⟩
      · have := Int.emod_nonneg cell (show (1000003 : Int) ≠ 0 by decide)
        omega
      · have := Int.emod_lt_of_pos cell (show (0 : Int) < 1000003 by decide)
        omega
    · rintro i σ H' hi ⟨rest, mixed, xs, v, rfl, sm, hp, hl, hx, m0, m1⟩
      refine ⟨_, rfl, _, rfl, _, _, rfl, rfl, _, rfl, ite2 (fun c => ?_) (fun c => ?_)⟩
      · refine ⟨_, rfl, .inl ⟨rfl, _, lst_of hp⟩, _, rfl, _, rfl, _, rfl, _, _, rfl, rfl, b0, _, _, _, rfl, rfl, hp, ?_, ?_⟩
        · rw [List.length_map]
          exact Nat.lt_of_lt_of_le (show xs.length < 100001 by omega) (by decide)
        · refine ⟨_, rfl, _, rfl, _, _, rfl, rfl, ⟨b0, by omega⟩, _, _, xs ++ [rest % bound], _, rfl, mutS sm n1, ?_, by simp [hl], fun x h => ?_, m0, m1⟩
          · rw [upd_same]
            simp
          · rcases List.mem_append.mp h with h | h
            · exact hx x h
            · rw [List.mem_singleton.mp h]
              exact ⟨Int.emod_nonneg _ (by omega), Int.emod_lt_of_pos _ b0⟩
      · refine ⟨_, rfl, _, _, rfl, rfl, .inr ⟨by decide, by decide⟩, _, rfl, _, _, rfl, rfl, .inl ⟨by decide, by decide⟩, _, _, rfl, rfl, _, _, rfl, rfl, _, rfl, _, _, rfl, rfl, (by k_offL), ?_⟩
        refine ⟨_, rfl, .inl ⟨rfl, _, lst_of hp⟩, _, rfl, _, _, rfl, rfl, .inr ⟨by decide, by decide⟩, _, _, rfl, rfl, ⟨by decide, by decide⟩, _, rfl, _, rfl, _, _, rfl, rfl, b0, _, _, _, rfl, rfl, hp, ?_, ?_⟩
        · rw [List.length_map]
          exact Nat.lt_of_lt_of_le (show xs.length < 100001 by omega) (by decide)
        · refine ⟨_, _, xs ++ [(mixed * 48271 + 11 * (0 + (i : Int)) + 7) % 2147483647 * 2862933555777941757 / 1024 % bound], _, rfl, mutS sm n1, ?_, by simp [hl], fun x h => ?_, Int.emod_nonneg _ (by decide), ?_⟩
          · rw [upd_same, List.map_append]
            rfl
          · rcases List.mem_append.mp h with h | h
            · exact hx x h
            · rw [List.mem_singleton.mp h]
              exact ⟨Int.emod_nonneg _ (by omega), Int.emod_lt_of_pos _ b0⟩
          · exact Int.lt_trans (Int.emod_lt_of_pos _ (by decide)) (by decide)
    · rintro σ H' ⟨rest, mixed, xs, v, rfl, sm, hp, hl, hx, _, _⟩
      exact ⟨_, rfl, q H' p1 xs n1 sm hp (by omega) hx⟩
/-! ### law_some: some cells of a box, ascending -/
def sp_law_some : Sp := fun vs H Q _ => ∃ (cell count h v : Int), vs = [.int cell, .int count, .int h, .int v] ∧ 0 ≤ count ∧ count ≤ 1000 ∧ 0 < h ∧ h ≤ 1000 ∧ 0 < v ∧ v ≤ 1000 ∧
  ∀ (H' : Hp) (p : Addr) (ps : List Pr), H p = none → Same H H' → Cells H' p ps → ps.Pairwise ltP → (ps.length : Int) ≤ count → (∀ x ∈ ps, 0 ≤ x.1 ∧ x.1 < h ∧ 0 ≤ x.2 ∧ x.2 < v) → Q (.ref p) H'
theorem ok_law_some (T : Txt K mg) : FnOk P w K mg base CX0 2 T.f_law_some T.d_law_some ["cell", "count", "height", "width"] sp_law_some := by
  refine T.F_law_some.ok sc_law_some (fun vs H Q E h => ?_) (fun cdv A outer s H vs Q E hr h => ?_)
  · obtain ⟨_, _, _, _, rfl, _⟩ := h
    rfl
  · obtain ⟨cell, count, h, v, rfl, c0, c1, h0, h1, v0, v1, q⟩ := h
    have hu : (A.deeper (envOfC (Str.ofString "_law_some") (defScope s_law_some) s.heap.objs.size T.f_law_some cdv)).units + 1 < cLine := by
      have := hr.units
      omega
    refine ⟨_, (pss_cons (ps_set (i := 4) sc_law_some.nd rfl (.inl rfl) (pe_callB call_abs (by rfl) T.z_abs (by decide +kernel) (pa_cons (pe_callTy call_intI (by rfl) T.z_int (by decide +kernel) (pa_cons (pv 0) pa_nil)) pa_nil)))
      (pss_cons (ps_set (i := 5) sc_law_some.nd rfl (.inl rfl) pe_dnewT)
      (pss_cons (ps_for PassesOwn.never rfl (pi_list (pe_call (ok_law_row T) (hr.mono (by decide)) (by rfl) T.g_law_row T.F_law_row.kp T.b_law_row .nil pass0 (pa_cons (pv 0) (pa_cons (pv 1) (pa_cons (pe_op op_mul (pv 2) (pv 3)) pa_nil))))) (pg_name (i := 6) sc_law_some.nd rfl (.inl rfl))
      (pss_one (ps_dput hu (pv 5) (pe_tup (pa_cons (pe_op op_fdiv (pv 6) (pv 3)) (pa_cons (pe_op op_mod (pv 6) (pv 3)) pa_nil))) pe_bl rfl)))
      (pss_one (ps_ret (pe_callB cr_sortedC (by rfl) T.z_sorted (by decide +kernel) (pa_cons (pe_lock (pe_lc (own := [("place", 7)]) (g := gName 7) (tt := tYes) rfl sc_law_some.nd (pi_keys (pv 5)) (blkOk_by (own := [("place", 7)]) (N := N_law_some) (sc := defScope s_law_some) (by decide +kernel)) (fun _ _ _ _ _ => pg_name (i := 7) sc_law_some.nd rfl (Or.inl rfl)) (fun _ _ _ _ _ => pts_nil) (fun _ _ _ _ _ => (pv 7)))) pa_nil))))))), ?_⟩
    have b0 : 0 < h * v := Int.mul_pos h0 v0
    have b1 : h * v < 1000000000 := by
      have := Int.mul_le_mul h1 v1 (by omega) (by decide)
      omega
    refine ⟨_, rfl, _, rfl, _, rfl, fun d nd => ?_⟩
    k_invariant "new" (nd, H1, e1, g1)
    refine ⟨_, rfl, _, rfl, _, rfl, _, rfl, _, _, rfl, rfl, (by k_offL), _, _, _, rfl, c0, by omega, b0, b1, fun H2 p2 xs n2 e2 g2 l2 m2 => ?_⟩
    have nd2 : d ≠ p2 := neS g1 (fun _ _ z => z) n2
    refine ⟨p2, rfl, ⟨_, lst_of g2⟩, for_list (K := K) (a := p2) (xs := xs.map V.int) (fun i σ H' => Same H H' ∧ H' p2 = some (.lst (xs.map V.int)) ∧ (∃ (x y z : Option V), σ = [some (.int cell), some (.int count), some (.int h), some (.int v), x, some (.ref d), y, z]) ∧ ∃ kvs ps, H' d = some (.dT kvs) ∧ KeysP kvs ps ∧ ps.length ≤ i ∧ ∀ x ∈ ps, 0 ≤ x.1 ∧ x.1 < h ∧ 0 ≤ x.2 ∧ x.2 < v)
      ⟨e1.trans e2, g2, ⟨_, _, _, rfl⟩, [], [], e2 _ _ g1, ⟨rfl, List.nodup_nil⟩, Nat.le_refl _, fun _ m => (by cases m)⟩ (fun i σ H' _ p => lst_of p.2.1) ?_ ?_⟩
    · rintro i z σ H' hi ⟨sm, gp, ⟨x, y, z1, rfl⟩, kvs, ps, gd, hK, lp, bd⟩
      obtain ⟨n, rfl, _, mn⟩ := item_ints hi
      have bn := m2 n mn
      have li := (List.getElem?_eq_some_iff.mp hi).1
      rw [List.length_map] at li
      refine ⟨_, rfl, _, rfl, _, rfl, _, _, rfl, rfl, ⟨v0, by omega⟩, _, rfl, _, rfl, _, _, rfl, rfl, v0, (by k_clsL), fun t nt => ?_⟩
      have ntd : t ≠ d := fun e => by
        rw [e, gd] at nt
        cases nt
      have ntp : p2 ≠ d := fun e => by
        rw [e, gd] at gp
        cases gp
      obtain ⟨qs, hQ, lq, mq⟩ := hK.put (n / v, n % v) (.bl true)
      refine ⟨d, _, rfl, DPut.t (k := keyP (n / v, n % v)) (newS nt _ _ gd) upd_same (by rw [hK.len, sizeLine_eq]; omega), mutS (sm.trans (newS nt)) nd, ?_, ⟨_, _, _, rfl⟩, _, qs, upd_same, hQ, by omega, fun x m => ?_⟩
      · rw [upd_ne ntp]
        exact newS nt _ _ gp
      · rcases (mq x).mp m with m | e
        · exact bd x m
        · rw [e]
          exact ⟨Int.ediv_nonneg bn.1 (by omega), Int.ediv_lt_of_lt_mul v0 bn.2, Int.emod_nonneg _ (by omega), Int.emod_lt_of_pos _ v0⟩
    · rintro σ H' ⟨sm, gp, ⟨x, y, z1, rfl⟩, kvs, ps, gd, hK, lp, bd⟩
      rw [List.length_map] at lp
      refine ⟨d, _, gd, trivial, fun od => ⟨_, rfl, d, od, rfl, .inr ⟨kvs, upd_same, fun D nD => lc_keysP hK upd_same nD (by rw [sizeLine_eq]; omega) ?_ fun H3 e3 g3 => ?_⟩⟩⟩
      · intro t x H' Po Pn ht hq
        exact ⟨rfl, tyesT ⟨_, rfl, hq⟩⟩
      · have gd3 : H3 d = some (.frz od (.dT kvs)) := e3 _ _ upd_same
        have s3 : Same H (upd H3 d (.dT kvs)) := mutS ((mutS sm nd).trans e3) nd
        have neD : D ≠ d := fun e => by
          rw [e, upd_same] at nD
          cases nD
        refine ⟨gd3, D, ps, rfl, g3.mut neD (fun xs e => ?_), hK.2, fun p H4 qs e4 n4 h4 c4 l4 => q H4 p qs (backS s3 n4) (s3.trans e4) h4 c4.1 (by omega) fun x m => bd x ((c4.2 x).mp m)⟩
        rw [gd3] at e
        cases e
end
end My
namespace My
open PySem PySem.Spec PyProof.Rows L2 Vx
open TL
local macro_rules | `(tactic| k_invariant "new" ($n, $H:ident, $e:ident, $h:ident)) => `(tactic| (generalize hE : upd _ _ _ = $H; obtain ⟨$e:ident, $h:ident⟩ := gen_e hE $n; clear hE))
local macro_rules | `(tactic| k_places) => `(tactic| first
  | assumption
  | exact lst_of (by assumption)
  | exact tup_of (by assumption)
  | (refine getS (by assumption) ?_; k_places)
  | (refine Same.seq (by assumption) ?_; k_places)
  | (refine tupS (by assumption) ?_; k_places)
  | (refine lst_of ?_; k_places)
  | (refine tup_of ?_; k_places))
local macro_rules | `(tactic| k_subL) => `(tactic| first
  | k_places
  | solve_by_elim (maxDepth := 10) [getS, lst_of, tup_of, Same.seq, tupS])
local macro_rules | `(tactic| k_offL) => `(tactic| first
  | (show (0 : Int) < _; first | omega | decide)
  | (refine ⟨?_, ?_⟩ <;> first | omega | decide)
  | exact .inr ⟨by decide, by decide⟩
  | exact .inl ⟨by decide, by decide⟩
  | exact .inl ⟨by omega, by omega⟩
  | omega)
local macro_rules | `(tactic| k_clsL) => `(tactic| exact Nat.le_of_ble_eq_true rfl)
local macro_rules | `(tactic| k_upd) => `(tactic| simp only [L2.start, List.map_cons, List.map_nil, List.length_cons, List.length_nil, List.replicate_succ, List.replicate_zero, List.cons_append, List.nil_append, List.set_cons_zero, List.set_cons_succ])
section
variable {P : Program} {w : World} {K : PySem.W.Frag} {mg : Str → Option Value} {base : Heap}
theorem le_sum : ∀ (l : List Nat) (x : Nat), x ∈ l → x ≤ l.sum
  | y :: l, x, m => by
    rw [List.sum_cons]
    rcases List.mem_cons.mp m with e | m
    · omega
    · have := le_sum l x m
      omega
theorem runs_small {qs : List Pr} (b : ∀ x ∈ qs, x.1 < 1000 ∧ x.2 < 1000) (l : qs.length < 64) : ∀ t ∈ runsP qs, t.1 < 1000 ∧ t.2.1 < 1000 ∧ t.2.2 < 1000 := fun t m => by
  have hc := runs_cells qs
  have h1 := (runs_back qs [] fun _ m => (by cases m)).2 t m
  have sub : ∀ y ∈ runCells t, y ∈ qs := fun y my => by
    rw [← hc]
    exact List.mem_flatten.mpr ⟨runCells t, List.mem_map.mpr ⟨t, m, rfl⟩, my⟩
  have first : (t.1, t.2.1) ∈ runCells t := by
    refine List.mem_map.mpr ⟨0, List.mem_range.mpr (by omega), ?_⟩
    rw [show t.2.1 + ((0 : Nat) : Int) = t.2.1 by omega]
  have f := b _ (sub _ first)
  refine ⟨f.1, f.2, ?_⟩
  have len : (runCells t).length ≤ qs.length := by
    rw [← hc, List.length_flatten, List.map_map]
    refine le_sum _ _ (List.mem_map.mpr ⟨t, m, rfl⟩)
  have : (runCells t).length = t.2.2.toNat := by
    unfold runCells
    rw [List.length_map, List.length_range]
  omega
theorem cntL_len {n : Int} {c : Nat} (h0 : 0 ≤ n) (h1 : n < 1000) : (cntL n c).length ≤ 4 := by
  unfold cntL
  by_cases e : n = 1
  · rw [if_pos e]
    exact (show (1 : Nat) ≤ 4 by decide)
  · rw [if_neg e, show n = ((n.toNat : Nat) : Int) by omega, tl_num, List.length_append, List.length_singleton]
    have := numL_len (n := n.toNat) (k := 3) (by decide) (by omega)
    omega
theorem write_len : ∀ (rs : List Run) (row en : Int) (acc : List Nat), 0 ≤ row → 0 ≤ en → Ordered row en rs → (∀ t ∈ rs, t.1 < 1000 ∧ t.2.1 < 1000 ∧ t.2.2 < 1000) → (rs.foldl wStep (acc, row, en)).1.length ≤ acc.length + 12 * rs.length
  | [], row, en, acc, _, _, _, _ => Nat.le_refl _
  | t :: rs, row, en, acc, r0, e0, o, b => by
    obtain ⟨o1, o2, o3⟩ := o
    obtain ⟨b1, b2, b3⟩ := b t List.mem_cons_self
    rw [List.foldl_cons, List.length_cons]
    have A : ∃ acc1 en1, (if row < t.1 then (acc ++ cntL (t.1 - row) 47, t.1, 0) else (acc, row, en)) = (acc1, t.1, en1) ∧ 0 ≤ en1 ∧ en1 ≤ t.2.1 ∧ acc1.length ≤ acc.length + 4 := by
      by_cases c : row < t.1
      · refine ⟨acc ++ cntL (t.1 - row) 47, 0, if_pos c, Int.le_refl 0, by omega, ?_⟩
        have := cntL_len (n := t.1 - row) (c := 47) (by omega) (by omega)
        rw [List.length_append]
        omega
      · have e : row = t.1 := by omega
        exact ⟨acc, en, by rw [if_neg c, e], e0, by omega, by omega⟩
    obtain ⟨acc1, en1, w1, e1, le1, l1⟩ := A
    have B : ∃ acc2, (if en1 < t.2.1 then acc1 ++ cntL (t.2.1 - en1) 46 else acc1) = acc2 ∧ acc2.length ≤ acc1.length + 4 := by
      by_cases c : en1 < t.2.1
      · refine ⟨acc1 ++ cntL (t.2.1 - en1) 46, if_pos c, ?_⟩
        have := cntL_len (n := t.2.1 - en1) (c := 46) (by omega) (by omega)
        rw [List.length_append]
        omega
      · exact ⟨acc1, if_neg c, by omega⟩
    obtain ⟨acc2, w2, l2⟩ := B
    rw [wStep_eq w1 w2]
    have := cntL_len (n := t.2.2) (c := 79) (by omega) (by omega)
    have z := write_len rs t.1 (t.2.1 + t.2.2) (acc2 ++ cntL t.2.2 79) (by omega) (by omega) o3 (fun u m => b u (List.mem_cons_of_mem _ m))
    rw [List.length_append] at z
    omega
/-! ### some text -/
theorem len_e0 : (Str.ofString "").length = 0 := by decide +kernel
theorem join_len : ∀ ys : List Str, (Txt.join (Str.ofString "") ys).length = (ys.map (·.length)).sum := by
  intro ys
  rw [TL.len_tl, join_eq, tl_join, tl_e, joinL_e]
  induction ys with
  | nil => rfl
  | cons y r ih =>
    rw [List.map_cons, List.flatten_cons, List.length_append, ih, List.map_cons, List.sum_cons, TL.len_tl]
theorem ones_sum : ∀ {ys : List Str}, (∀ y ∈ ys, y.length = 1) → (ys.map (·.length)).sum = ys.length
  | [], _ => rfl
  | y :: r, h => by
    rw [List.map_cons, List.sum_cons, h y List.mem_cons_self, ones_sum fun z hz => h z (List.mem_cons_of_mem _ hz), List.length_cons]
    omega
theorem len_signs : (Str.ofString "O.O/!2031 45o").length = 13 := by decide +kernel
def Asc7 (l : List Nat) : Prop := ∀ c ∈ l, c < 128
theorem asc_app {a b : List Nat} (ha : Asc7 a) (hb : Asc7 b) : Asc7 (a ++ b) := fun c m => (List.mem_append.mp m).elim (ha c) (hb c)
theorem asc_signs : Asc7 (tl (Str.ofString "O.O/!2031 45o")) := by
  unfold Asc7
  decide +kernel
theorem asc_cnt {n : Int} {c : Nat} (hn : 0 ≤ n) (hc : c < 128) : Asc7 (cntL n c) := by
  unfold cntL
  by_cases e : n = 1
  · rw [if_pos e]
    intro x m
    rw [List.mem_singleton.mp m]
    exact hc
  · rw [if_neg e, show n = ((n.toNat : Nat) : Int) by omega, tl_num]
    refine asc_app (fun x m => ?_) fun x m => ?_
    · have := numL_digits _ x m
      omega
    · rw [List.mem_singleton.mp m]
      exact hc
theorem asc_write : ∀ (rs : List Run) (st : List Nat × Int × Int), Asc7 st.1 → (∀ t ∈ rs, 0 ≤ t.2.2) → Asc7 (rs.foldl wStep st).1
  | [], st, h, _ => h
  | t :: rs, st, h, hr => by
    rw [List.foldl_cons]
    refine asc_write rs _ ?_ fun u m => hr u (List.mem_cons_of_mem _ m)
    show Asc7 ((if (if st.2.1 < t.1 then (st.1 ++ cntL (t.1 - st.2.1) 47, t.1, (0 : Int)) else st).2.2 < t.2.1 then (if st.2.1 < t.1 then (st.1 ++ cntL (t.1 - st.2.1) 47, t.1, (0 : Int)) else st).1 ++ cntL (t.2.1 - (if st.2.1 < t.1 then (st.1 ++ cntL (t.1 - st.2.1) 47, t.1, (0 : Int)) else st).2.2) 46 else (if st.2.1 < t.1 then (st.1 ++ cntL (t.1 - st.2.1) 47, t.1, (0 : Int)) else st).1) ++ cntL t.2.2 79)
    have h1 : Asc7 (if st.2.1 < t.1 then (st.1 ++ cntL (t.1 - st.2.1) 47, t.1, (0 : Int)) else st).1 := by
      by_cases c : st.2.1 < t.1
      · rw [if_pos c]
        exact asc_app h (asc_cnt (by omega) (by decide))
      · rw [if_neg c]
        exact h
    generalize (if st.2.1 < t.1 then (st.1 ++ cntL (t.1 - st.2.1) 47, t.1, (0 : Int)) else st) = s1 at h1
    refine asc_app ?_ (asc_cnt (hr t List.mem_cons_self) (by decide))
    by_cases c : s1.2.2 < t.2.1
    · rw [if_pos c]
      exact asc_app h1 (asc_cnt (by omega) (by decide))
    · rw [if_neg c]
      exact h1
theorem asc_home (qs : List Pr) : Asc7 (writeP (runsP qs)) := by
  unfold writeP
  refine asc_app (asc_write _ _ (fun _ m => (by cases m)) fun t m => ?_) fun x m => ?_
  · have := (runs_back qs [] fun _ m => (by cases m)).2 t m
    omega
  · rw [List.mem_singleton.mp m]
    decide
theorem at_sign {z : Str} {k : Int} (ha : Asc7 (tl z)) (h0 : 0 ≤ k) (h1 : k < (z.length : Int)) : ∃ c, atI z.cps.toList k = some c ∧ c < 128 := by
  have e : z.cps.toList.length = z.length := Array.length_toList
  have hj : k.toNat < z.cps.toList.length := by omega
  refine ⟨z.cps.toList[k.toNat], ?_, ha _ (List.getElem_mem hj)⟩
  have e2 : k = ((k.toNat : Nat) : Int) := by omega
  have q := atI_nat (List.getElem?_eq_getElem hj)
  rw [← e2] at q
  exact q
theorem tl_cutS (z : Str) (lo hi : Option Int) : tl (cutS z lo hi) = ((tl z).drop (HT.sIx z.length 0 lo)).take (HT.sIx z.length z.length hi - HT.sIx z.length 0 lo) := rfl
theorem sIx_k {n d : Nat} {k : Int} (h : 0 ≤ k) : HT.sIx n d (some k) = min k.toNat n := by
  show (if k < 0 then (k + (n : Int)).toNat else min k.toNat n) = _
  rw [if_neg (by omega)]
theorem tl_lo (z : Str) {k : Int} (h : 0 ≤ k) : tl (cutS z none (some k)) = (tl z).take k.toNat := by
  rw [tl_cutS, sIx_k h]
  show ((tl z).drop 0).take (min k.toNat z.length - 0) = _
  rw [List.drop_zero, Nat.sub_zero, TL.len_tl]
  by_cases c : k.toNat ≤ (tl z).length
  · rw [Nat.min_eq_left c]
  · rw [Nat.min_eq_right (by omega), List.take_of_length_le (Nat.le_refl _), List.take_of_length_le (by omega)]
theorem tl_hi (z : Str) {k : Int} (h : 0 ≤ k) : tl (cutS z (some k) none) = (tl z).drop k.toNat := by
  rw [tl_cutS, sIx_k h]
  show ((tl z).drop (min k.toNat z.length)).take (z.length - min k.toNat z.length) = _
  rw [TL.len_tl, List.take_of_length_le (by rw [List.length_drop]; omega)]
  by_cases c : k.toNat ≤ (tl z).length
  · rw [Nat.min_eq_left c]
  · rw [Nat.min_eq_right (by omega), List.drop_of_length_le (Nat.le_refl _), List.drop_of_length_le (by omega)]
theorem home_len {qs : List Pr} (h : IsHome qs) (b : ∀ x ∈ qs, x.1 < 1000 ∧ x.2 < 1000) (l : qs.length < 64) : (writeP (runsP qs)).length ≤ 800 := by
  have o := ord_runs qs [] trivial h.nn h.1 (fun us u e => by
    have := congrArg List.length e
    rw [List.length_append] at this
    simp at this)
  have z := write_len (runsP qs) 0 0 [] (Int.le_refl 0) (Int.le_refl 0) o (runs_small b l)
  have lr := runs_len qs []
  have lr : (runsP qs).length ≤ 0 + qs.length := lr
  unfold writeP
  rw [List.length_append, List.length_singleton]
  have : ([] : List Nat).length = 0 := rfl
  omega
theorem home_of_box {ps qs : List Pr} (h : HomeOf ps qs) (pw : ps.Pairwise ltP) (b : ∀ x ∈ ps, 0 ≤ x.1 ∧ x.1 < 6 ∧ 0 ≤ x.2 ∧ x.2 < 12) : (∀ x ∈ qs, x.1 < 1000 ∧ x.2 < 1000) ∧ qs.length = ps.length := by
  by_cases e : ps = []
  · rw [h.1 e, e]
    exact ⟨fun _ m => (by cases m), rfl⟩
  · obtain ⟨u, lu⟩ := least_ex (rowsP ps) (fun z => e (List.map_eq_nil_iff.mp z))
    obtain ⟨v, lv⟩ := least_ex (colsP ps) (fun z => e (List.map_eq_nil_iff.mp z))
    have pw2 : (ps.map (addP (-u) (-v))).Pairwise ltP := List.pairwise_map.mpr (pw.imp fun {x y} h => ltP_iff.mpr (by
      have := ltP_iff.mp h
      show x.1 + -u < y.1 + -u ∨ x.1 + -u = y.1 + -u ∧ x.2 + -v < y.2 + -v
      omega))
    have eq := canP_eq (h.2 u v lu lv) pw2 fun _ => Iff.rfl
    rw [eq]
    refine ⟨fun x m => ?_, List.length_map _⟩
    obtain ⟨z, mz, rfl⟩ := List.mem_map.mp m
    have := b z mz
    obtain ⟨x1, m1, e1⟩ := List.mem_map.mp lu.1
    obtain ⟨x2, m2, e2⟩ := List.mem_map.mp lv.1
    have h1 := b x1 m1
    have h2 := b x2 m2
    have e1 : x1.1 = u := e1
    have e2 : x2.2 = v := e2
    show z.1 + -u < 1000 ∧ z.2 + -v < 1000
    omega
def sp_law_string (K : PySem.W.Frag) : Sp := fun vs H Q _ => ∃ (a : Addr) (ns : List Int), vs = [.ref a] ∧ SqL K H a (ns.map V.int) ∧ ∀ (H' : Hp) (z : Str), Same H H' → z.length ≤ 1000 → Sm (tl z) → oW (tl z) [] ≤ 4090 → Asc7 (tl z) → Q (.str z) H'
theorem ok_law_string (T : Txt K mg) : FnOk P w K mg base CX0 5 T.f_law_string T.d_law_string ["script"] (sp_law_string K) := by
  refine T.F_law_string.ok sc_law_string (fun vs H Q E h => ?_) (fun cdv A outer s H vs Q E hr h => ?_)
  · obtain ⟨a, ns, rfl, _⟩ := h
    rfl
  · obtain ⟨a, ns, rfl, hS, q⟩ := h
    refine ⟨_, (pss_cons (ps_set (i := 1) sc_law_string.nd rfl (.inr rfl) pe_str)
      (pss_cons (ps_mid (ps_if (pt_cmpR op_eq (pe_op op_mod (pe_call (ok_law_cell T) (hr.mono (by decide)) (by rfl) T.g_law_cell T.F_law_cell.kp T.b_law_cell .nil pass0 (pa_cons (pv 0) (pa_cons pe_int pa_nil))) pe_int) pe_int (nomark _))
      (pss_one (ps_set (i := 2) sc_law_string.nd rfl (.inl rfl) (pe_join pe_str (pe_lc (own := [("x", 4)]) (g := gName 4) (tt := tYes) rfl sc_law_string.nd (pi_list (pe_call (ok_law_row T) (hr.mono (by decide)) (by rfl) T.g_law_row T.F_law_row.kp T.b_law_row .nil pass0 (pa_cons (pe_call (ok_law_cell T) (hr.mono (by decide)) (by rfl) T.g_law_cell T.F_law_cell.kp T.b_law_cell .nil pass0 (pa_cons (pv 0) (pa_cons pe_int pa_nil))) (pa_cons (pe_op op_mod (pe_op op_fdiv (pe_call (ok_law_cell T) (hr.mono (by decide)) (by rfl) T.g_law_cell T.F_law_cell.kp T.b_law_cell .nil pass0 (pa_cons (pv 0) (pa_cons pe_int pa_nil))) pe_int) pe_int) (pa_cons pe_int pa_nil))))) (blkOk_by (own := [("x", 4)]) (N := N_law_string) (sc := defScope s_law_string) (by decide +kernel)) (fun _ _ _ _ _ => pg_name (i := 4) sc_law_string.nd rfl (Or.inl rfl)) (fun _ _ _ _ _ => pts_nil) (fun _ _ _ _ _ => (pe_ix ix_str (pv 1) (pv 4) (fun _ _ => rfl)))))))
      (pss_cons (ps_set (i := 2) sc_law_string.nd rfl (.inl rfl) (pe_call (ok_write_text T) (hr.mono (by decide)) (by rfl) T.g_write_text T.F_write_text.kp T.b_write_text .nil pass0 (pa_cons (pe_call (ok_law_some T) (hr.mono (by decide)) (by rfl) T.g_law_some T.F_law_some.kp T.b_law_some .nil pass0 (pa_cons (pe_call (ok_law_cell T) (hr.mono (by decide)) (by rfl) T.g_law_cell T.F_law_cell.kp T.b_law_cell .nil pass0 (pa_cons (pv 0) (pa_cons pe_int pa_nil))) (pa_cons (pe_op op_mod (pe_op op_fdiv (pe_call (ok_law_cell T) (hr.mono (by decide)) (by rfl) T.g_law_cell T.F_law_cell.kp T.b_law_cell .nil pass0 (pa_cons (pv 0) (pa_cons pe_int pa_nil))) pe_int) pe_int) (pa_cons pe_int (pa_cons pe_int pa_nil))))) pa_nil)))
      (pss_one (ps_for PassesOwn.never rfl (pi_range1 (by rfl) T.z_range (pa_cons (pe_op op_mod (pe_op op_fdiv (pe_call (ok_law_cell T) (hr.mono (by decide)) (by rfl) T.g_law_cell T.F_law_cell.kp T.b_law_cell .nil pass0 (pa_cons (pv 0) (pa_cons pe_int pa_nil))) pe_int) pe_int) pa_nil)) (pg_name (i := 3) sc_law_string.nd rfl (.inl rfl))
      (pss_cons (ps_set (i := 4) sc_law_string.nd rfl (.inl rfl) (pe_callB call_abs (by rfl) T.z_abs (by decide +kernel) (pa_cons (pe_call (ok_law_cell T) (hr.mono (by decide)) (by rfl) T.g_law_cell T.F_law_cell.kp T.b_law_cell .nil pass0 (pa_cons (pv 0) (pa_cons (pe_op op_add pe_int (pv 3)) pa_nil))) pa_nil)))
      (pss_cons (ps_set (i := 5) sc_law_string.nd rfl (.inl rfl) (pe_op op_mod (pv 4) (pe_op op_add (pe_callB call_len_str (by rfl) T.z_len (by decide +kernel) (pa_cons (pv 2) pa_nil)) pe_int)))
      (pss_cons (ps_set (i := 6) sc_law_string.nd rfl (.inl rfl) (pe_ix ix_list (pe_lst (pa_cons (pe_ix ix_str (pv 1) (pe_op op_mod (pe_op op_fdiv (pv 4) pe_int) pe_int) (fun _ _ => rfl)) (pa_cons pe_str (pa_cons (pe_ix ix_str (pv 1) (pe_op op_mod (pe_op op_fdiv (pv 4) pe_int) pe_int) (fun _ _ => rfl)) pa_nil)))) (pe_op op_mod (pe_op op_fdiv (pv 4) pe_int) pe_int) (fun _ _ => rfl)))
      (pss_one (ps_set (i := 2) sc_law_string.nd rfl (.inl rfl) (pe_op op_add_str (pe_op op_add_str (pe_slice sl_str (pv 2) po_none (po_some (pv 5))) (pv 6)) (pe_slice sl_str (pv 2) (po_some (pe_op op_add (pv 5) (pe_callTy call_intB (by rfl) T.z_int (by decide +kernel) (pa_cons (pe_cmpR op_gt (pe_op op_mod (pe_op op_fdiv (pv 4) pe_int) pe_int) pe_int (nomark _)) pa_nil)))) po_none))))))))))))
      (pss_cons (ps_set (i := 7) sc_law_string.nd rfl (.inl rfl) pe_int)
      (pss_cons (ps_set (i := 8) sc_law_string.nd rfl (.inl rfl) pe_str)
      (pss_cons (ps_for PassesOwn.never rfl (pi_str (pv 2)) (pg_name (i := 9) sc_law_string.nd rfl (.inl rfl))
      (pss_cons (ps_set (i := 7) sc_law_string.nd rfl (.inl rfl) (pe_op op_mul (pe_op op_add (pv 7) pe_int) (pe_callTy call_intB (by rfl) T.z_int (by decide +kernel) (pa_cons (pe_cmpR op_in_sign (pv 9) pe_str rfl) pa_nil))))
      (pss_one (ps_if (pt_cmpR op_lt (pv 7) pe_int (nomark _))
      (pss_one (ps_set (i := 8) sc_law_string.nd rfl (.inl rfl) (pe_op op_add_str (pv 8) (pv 9))))
      pss_nil))))
      (pss_one (ps_ret (pv 8)))))))), ?_⟩
    k_upd
    refine ⟨fun σ H' => ∃ (t : Str) (v3 v4 v5 v6 : Option V), σ = [some (.ref a), some (.str (Str.ofString "O.O/!2031 45o")), some (.str t), v3, v4, v5, v6, none, none, none] ∧ Same H H' ∧ t.length ≤ 900 ∧ oW (tl t) [] ≤ 4090 ∧ Asc7 (tl t), ?_, ?_⟩
    · refine ⟨_, rfl, a, ns, 1, rfl, hS, _, _, rfl, rfl, (by k_offL), rfl, _, rfl, ite2 (fun c => ?_) (fun c => ?_)⟩
      · refine ⟨⟨_, rfl⟩, _, rfl, a, ns, 0, rfl, hS, _, rfl, a, ns, 1, rfl, hS, _, _, rfl, rfl, ⟨by decide, by decide⟩, _, _, rfl, rfl, (by k_offL), _, _, _, rfl, ?_, ?_, by decide, by decide, fun H11 p11 xs n11 e11 h11 l11 b11 => ?_⟩
        · exact Int.emod_nonneg _ (by decide)
        · exact Int.le_trans (Int.le_of_lt (Int.emod_lt_of_pos _ (by decide))) (by decide)
        have l9 : xs.length ≤ 10 := by
          have := Int.emod_lt_of_pos (cellOf ns 1 / 4) (show (0 : Int) < 11 by decide)
          omega
        refine ⟨p11, rfl, ⟨_, lst_of h11⟩, fun D3 nD3 => lc_list (K := K) (a := p11) (xs := xs.map V.int) (fun i H' => Same H11 H' ∧ ∃ ys : List Str, H' D3 = some (.lst (ys.map V.str)) ∧ ys.length = i ∧ ∀ y ∈ ys, y.length = 1 ∧ Asc7 (tl y))
          ⟨newS nD3, [], by rw [upd_same]; rfl, rfl, by simp⟩ (fun i H' _ h => h.1.seq (lst_of h11)) ?_ ?_⟩
        · rintro i x H' hi ⟨sm, ys, hp, hl, hy⟩
          obtain ⟨n, rfl, hn, hm⟩ := item_ints hi
          have bn := b11 n hm
          obtain ⟨c, hc, c128⟩ := at_sign asc_signs (z := Str.ofString "O.O/!2031 45o") (k := n) bn.1 (by rw [len_signs]; omega)
          have i9 : i < 10 := by
            have := (List.getElem?_eq_some_iff.mp hi).1
            rw [List.length_map] at this
            omega
          refine ⟨rfl, tyesT ⟨_, rfl, _, rfl, _, n, c, rfl, rfl, by rw [len_signs]; decide, hc, _, hp, ?_, mutS sm nD3, ys ++ [⟨#[c]⟩], ?_, by simp [hl], ?_⟩⟩
          · rw [List.length_map]
            exact Nat.lt_of_lt_of_le (show ys.length < 100 by omega) (by decide)
          · rw [upd_same, List.map_append]
            rfl
          · intro y hy'
            rcases List.mem_append.mp hy' with h | h
            · exact hy y h
            · rw [List.mem_singleton.mp h]
              exact ⟨rfl, fun x m => by rw [List.mem_singleton.mp m]; exact c128⟩
        · rintro H12 ⟨e12, ys, hp, hl, hy⟩
          rw [List.length_map] at hl
          have hsum := ones_sum fun y m => (hy y m).1
          have jl : (Txt.join (Str.ofString "") ys).length ≤ 10 := by
            rw [join_len, hsum]
            omega
          refine ⟨_, D3, ys, rfl, rfl, .inl (lst_of hp), ?_, _, _, _, _, _, rfl, e11.trans e12, by omega, ?_, ?_⟩
          · rw [hsum, len_e0]
            omega
          rotate_left
          · rw [join_eq, tl_join, tl_e, joinL_e]
            intro x m
            obtain ⟨l, ml, mx⟩ := List.mem_flatten.mp m
            obtain ⟨y, my, rfl⟩ := List.mem_map.mp ml
            exact (hy y my).2 x mx
          · have := oW_250 (tl (Txt.join (Str.ofString "") ys)) [] all_nil
            rw [← TL.len_tl, List.length_nil] at this
            omega
      · have m3 := Int.emod_lt_of_pos (cellOf ns 1 / 4) (show (0 : Int) < 15 by decide)
        have m30 := Int.emod_nonneg (cellOf ns 1 / 4) (show (15 : Int) ≠ 0 by decide)
        refine ⟨_, rfl, a, ns, 0, rfl, hS, _, rfl, a, ns, 1, rfl, hS, _, _, rfl, rfl, (by k_offL), _, _, rfl, rfl, (by k_offL), _, _, _, _, rfl, m30, by omega, by decide, by decide, by decide, by decide, fun H1 p1 ps n1 e1 h1 pw1 l1 b1 => ?_⟩
        have few : ps.length ≤ 14 := by omega
        refine ⟨p1, ps, rfl, h1, by omega, fun x m => ?_, fun H2 t0 qs e2 hm ht hl => ?_⟩
        · have := b1 x m
          omega
        obtain ⟨bq, lq⟩ := home_of_box hm pw1 b1
        have ish := hm.isHome
        have lt0 : t0.length ≤ 800 := by
          rw [TL.len_tl, ht]
          exact home_len ish bq (by omega)
        have w0 : oW (tl t0) [] ≤ 14 := by
          obtain ⟨ph, sm⟩ := parse_home ish.1 ish.nn (runs_small bq (by omega))
          rw [ht, ← (ct_ok _ _ rfl sm).few, ph]
          omega
        have s2 := e1.trans e2
        have r3 := Int.emod_lt_of_pos (cellOf ns 1 / 60) (show (0 : Int) < 3 by decide)
        refine ⟨_, rfl, a, ns, 1, rfl, s2.seq hS, _, _, rfl, rfl, (by k_offL), _, _, rfl, rfl, (by k_offL), _, rfl, ?_, ?_, for_range (lo := 0) (n := (cellOf ns 1 / 60 % 3).toNat) (fun i σ H' => ∃ (t : Str) (v3 v4 v5 v6 : Option V), σ = [some (.ref a), some (.str (Str.ofString "O.O/!2031 45o")), some (.str t), v3, v4, v5, v6, none, none, none] ∧ Same H H' ∧ t.length ≤ 800 + i ∧ oW (tl t) [] ≤ 14 + 1998 * i ∧ Asc7 (tl t))
          ⟨t0, _, _, _, _, rfl, s2, lt0, w0, by rw [ht]; exact asc_home qs⟩ ?_ ?_⟩
        · have := Int.emod_nonneg (cellOf ns 1 / 60) (show (3 : Int) ≠ 0 by decide)
          omega
        · omega
        · rintro i σ H' hi ⟨t, v3, v4, v5, v6, rfl, sm, hl, hw, as7⟩
          have i3 : i < 3 := by omega
          refine ⟨_, rfl, _, rfl, _, _, rfl, rfl, a, ns, 2 + i, ?_, sm.seq hS, _, rfl, ?_⟩
          · show [V.ref a, V.int (2 + (0 + (i : Int)))] = [V.ref a, V.int ((2 + i : Nat) : Int)]
            rw [show (2 + (0 + (i : Int))) = ((2 + i : Nat) : Int) by omega]
          generalize (if cellOf ns (2 + i) < 0 then -cellOf ns (2 + i) else cellOf ns (2 + i)) = x
          have tz : t.length ≤ sizeLine := Nat.le_trans (show t.length ≤ 900 by omega) (by decide)
          have a0 := Int.emod_nonneg x (show ((t.length : Int) + 1) ≠ 0 by omega)
          have a1 := Int.emod_lt_of_pos x (show (0 : Int) < (t.length : Int) + 1 by omega)
          have b0 := Int.emod_nonneg (x / 50) (show (13 : Int) ≠ 0 by decide)
          have b1 := Int.emod_lt_of_pos (x / 50) (show (0 : Int) < 13 by decide)
          obtain ⟨c, hc, c128⟩ := at_sign asc_signs (z := Str.ofString "O.O/!2031 45o") (k := x / 50 % 13) b0 (by rw [len_signs]; omega)
          refine ⟨_, rfl, _, rfl, _, rfl, tz, _, _, rfl, rfl, _, _, rfl, rfl, (by k_offL), ?_⟩
          refine ⟨_, rfl, _, rfl, _, _, rfl, rfl, ⟨by decide, by decide⟩, _, _, rfl, rfl, (by k_offL), _, _, c, rfl, rfl, by rw [len_signs]; decide, hc, _, rfl, _, rfl, _, _, rfl, rfl, ⟨by decide, by decide⟩, _, _, rfl, rfl, (by k_offL), _, _, c, rfl, rfl, by rw [len_signs]; decide, hc, by k_clsL, fun p13 n13 => ?_⟩
          k_invariant "new" (n13, H13, e13, h13)
          have pick : ∃ nv : Str, atI [V.str ⟨#[c]⟩, V.str (Str.ofString ""), V.str ⟨#[c]⟩] (x / 17 % 3) = some (.str nv) ∧ nv.length ≤ 1 ∧ Asc7 (tl nv) := by
            have z0 := Int.emod_nonneg (x / 17) (show (3 : Int) ≠ 0 by decide)
            have z1 := Int.emod_lt_of_pos (x / 17) (show (0 : Int) < 3 by decide)
            generalize x / 17 % 3 = j at z0 z1
            have : j = 0 ∨ j = 1 ∨ j = 2 := by omega
            rcases this with rfl | rfl | rfl
            · exact ⟨_, rfl, Nat.le_refl _, fun x m => by rw [List.mem_singleton.mp m]; exact c128⟩
            · exact ⟨_, rfl, by rw [len_e0]; decide, by rw [tl_e]; exact fun _ m => (by cases m)⟩
            · exact ⟨_, rfl, Nat.le_refl _, fun x m => by rw [List.mem_singleton.mp m]; exact c128⟩
          obtain ⟨nv, hnv, lnv, asnv⟩ := pick
          refine ⟨_, rfl, _, _, rfl, rfl, ⟨by decide, by decide⟩, _, _, rfl, rfl, (by k_offL), _, _, _, .str nv, rfl, rfl, lst_of h13, hnv, ?_⟩
          obtain ⟨k, hk1, hk⟩ : ∃ k : Nat, k ≤ 1 ∧ (if decide (0 < x / 17 % 3) = true then (1 : Int) else 0) = (k : Int) := by
            by_cases z : decide (0 < x / 17 % 3) = true
            · exact ⟨1, Nat.le_refl 1, if_pos z⟩
            · exact ⟨0, Nat.zero_le 1, if_neg z⟩
          have cl := tl_lo t a0
          have ch := tl_hi t (k := x % ((t.length : Int) + 1) + (if decide (0 < x / 17 % 3) = true then 1 else 0)) (by rw [hk]; omega)
          rw [hk] at ch
          have cl2 := congrArg List.length cl
          have ch2 := congrArg List.length ch
          rw [← TL.len_tl, List.length_take, ← TL.len_tl] at cl2
          rw [← TL.len_tl, List.length_drop, ← TL.len_tl] at ch2
          refine ⟨_, rfl, _, rfl, _, rfl, t, rfl, tz, _, rfl, _, _, rfl, rfl, ?_, _, rfl, _, rfl, _, rfl, _, _, rfl, rfl, ⟨by decide, by decide⟩, _, _, rfl, rfl, (by k_offL), _, _, rfl, rfl, _, rfl, _, _, rfl, rfl, _, rfl, t, rfl, tz, _, _, rfl, rfl, ?_, ?_⟩
          · exact Nat.le_trans (show (cutS t none (some (x % ((t.length : Int) + 1)))).length + nv.length ≤ 1000 by omega) (by decide)
          · rw [len_app, hk]
            exact Nat.le_trans (show (cutS t none (some (x % ((t.length : Int) + 1)))).length + nv.length + (cutS t (some (x % ((t.length : Int) + 1) + (k : Int))) none).length ≤ 2000 by omega) (by decide)
          · rw [hk]
            refine ⟨_, _, _, _, _, rfl, sm.trans e13, ?_, ?_, ?_⟩
            · rw [len_app, len_app]
              omega
            · rw [tl_append, tl_append, cl, ch, show (x % ((t.length : Int) + 1) + (k : Int)).toNat = (x % ((t.length : Int) + 1)).toNat + k by omega, ← List.drop_drop]
              have := oW_change ((tl t).take (x % ((t.length : Int) + 1)).toNat) ((tl t).drop (x % ((t.length : Int) + 1)).toNat) (tl nv) k (by rw [← TL.len_tl]; exact lnv) hk1
              rw [List.take_append_drop] at this
              omega
            · rw [tl_append, tl_append, cl, ch]
              exact asc_app (asc_app (fun x m => as7 x (List.mem_of_mem_take m)) asnv) fun x m => as7 x (List.mem_of_mem_drop m)
        · rintro σ H' ⟨t, v3, v4, v5, v6, rfl, sm, hl, hw, as7⟩
          exact ⟨t, _, _, _, _, rfl, sm, by omega, by omega, as7⟩
    · rintro σ H1 ⟨t, v3, v4, v5, v6, rfl, sm, lt, wt, as7⟩
      k_upd
      refine ⟨_, rfl, t, rfl, for_it walk_str (fun i σ H' => ∃ (kp : Str) (n : Nat) (v9 : Option V), σ = [some (.ref a), some (.str (Str.ofString "O.O/!2031 45o")), some (.str t), v3, v4, v5, v6, some (.int (n : Int)), some (.str kp), v9] ∧ H' = H1 ∧ Kept ((tl t).take i) (tl kp) ∧ n = (dgS ((tl t).take i) []).length ∧ kp.length ≤ i ∧ n ≤ i ∧ Asc7 (tl kp))
        ⟨Str.ofString "", 0, _, rfl, rfl, by rw [tl_e]; exact kept_nil, rfl, by rw [len_e0]; exact Nat.le_refl 0, Nat.le_refl 0, by rw [tl_e]; exact fun _ m => (by cases m)⟩ (fun _ _ _ _ _ => trivial) ?_ ?_⟩
      · rintro i v σ H2 H' hi ⟨kp, n, v9, rfl, rfl, hk, hn, lk, ni, ask⟩ ⟨rfl, c, hc, rfl⟩
        have hc' : (tl t)[i]? = some c := by
          show t.cps.toList[i]? = some c
          rw [Array.getElem?_toList]
          exact hc
        have li : i < t.length := by
          have := (List.getElem?_eq_some_iff.mp hc').1
          rwa [← TL.len_tl] at this
        have st := hk.step c
        rw [← take_next hc'] at st
        have ed : ((n : Int) + 1) * (if decide (c ∈ (Str.ofString "0123456789").cps.toList) = true then 1 else 0) = (((dgS ((tl t).take (i + 1)) []).length : Nat) : Int) := by
          rw [take_next hc', dgS_app, hn]
          by_cases hd : 48 ≤ c ∧ c ≤ 57
          · rw [dgS_dig hd, decide_eq_true (mem_digits.mpr hd), if_pos rfl]
            show _ = (((dgS ((tl t).take i) [] ++ [c]).length : Nat) : Int)
            rw [List.length_append, List.length_singleton]
            omega
          · rw [dgS_sgn hd, decide_eq_false (fun z => hd (mem_digits.mp z)), if_neg (by decide)]
            show _ = (0 : Int)
            omega
        have en : (dgS ((tl t).take (i + 1)) []).length ≤ i + 1 := by
          rw [take_next hc', dgS_app]
          by_cases hd : 48 ≤ c ∧ c ≤ 57
          · rw [dgS_dig hd]
            show (dgS ((tl t).take i) [] ++ [c]).length ≤ i + 1
            rw [List.length_append, List.length_singleton]
            omega
          · rw [dgS_sgn hd]
            exact Nat.zero_le _
        refine ⟨_, rfl, _, _, rfl, rfl, _, rfl, c, _, rfl, rfl, _, rfl, _, _, rfl, rfl, .inr ⟨?_, ?_⟩, ?_⟩
        · omega
        · split <;> decide
        show gName 7 (V.int (((n : Int) + 1) * (if decide (c ∈ (Str.ofString "0123456789").cps.toList) = true then 1 else 0))) _ _ _
        rw [ed]
        k_upd
        refine ⟨_, rfl, _, _, rfl, rfl, _, rfl, ite2 (fun q4 => ?_) (fun q4 => ?_)⟩
        · have q4 : (dgS ((tl t).take (i + 1)) []).length < 4 := by
            have := of_decide_eq_true q4
            omega
          rw [if_pos q4] at st
          refine ⟨_, rfl, _, rfl, _, _, rfl, rfl, ?_, kp ++ (⟨#[c]⟩ : Str), _, _, rfl, rfl, ?_, rfl, ?_, en, ?_⟩
          · rw [sizeLine_eq]
            show kp.length + 1 ≤ _
            omega
          · rw [tl_append]
            exact st
          · rw [len_app]
            show kp.length + 1 ≤ _
            omega
          · rw [tl_append]
            exact asc_app ask fun x m => by rw [List.mem_singleton.mp m]; exact as7 c (List.mem_of_getElem? hc')
        · have q4 : ¬ (dgS ((tl t).take (i + 1)) []).length < 4 := fun z => q4 (decide_eq_true (by omega))
          rw [if_neg q4] at st
          exact ⟨kp, _, _, rfl, rfl, st, rfl, by omega, en, ask⟩
      · rintro σ H' ⟨kp, n, v9, rfl, rfl, hk, hn, lk, ni, ask⟩
        have tk : (tl t).take t.cps.size = tl t := List.take_of_length_le (by show t.cps.toList.length ≤ _; rw [Array.length_toList]; exact Nat.le_refl _)
        rw [tk] at hk
        have : t.cps.size = t.length := rfl
        exact ⟨_, rfl, q _ kp sm (by omega) hk.sm (by rw [hk.w]; exact wt) ask⟩
end
end My
namespace My
open PySem PySem.Spec PyProof.Rows L2 Vx
open TL
local macro_rules | `(tactic| k_invariant "new" ($n, $H:ident, $e:ident, $h:ident)) => `(tactic| (generalize hE : upd _ _ _ = $H; obtain ⟨$e:ident, $h:ident⟩ := gen_e hE $n; clear hE))
local macro_rules | `(tactic| k_places) => `(tactic| first
  | assumption
  | exact lst_of (by assumption)
  | exact tup_of (by assumption)
  | (refine getS (by assumption) ?_; k_places)
  | (refine Same.seq (by assumption) ?_; k_places)
  | (refine tupS (by assumption) ?_; k_places)
  | (refine lst_of ?_; k_places)
  | (refine tup_of ?_; k_places))
local macro_rules | `(tactic| k_subL) => `(tactic| first
  | k_places
  | solve_by_elim (maxDepth := 10) [getS, lst_of, tup_of, Same.seq, tupS])
local macro_rules | `(tactic| k_offL) => `(tactic| first
  | (show (0 : Int) < _; first | omega | decide)
  | (refine ⟨?_, ?_⟩ <;> first | omega | decide)
  | exact .inr ⟨by decide, by decide⟩
  | exact .inl ⟨by decide, by decide⟩
  | exact .inl ⟨by omega, by omega⟩
  | omega)
local macro_rules | `(tactic| k_clsL) => `(tactic| exact Nat.le_of_ble_eq_true rfl)
local macro_rules | `(tactic| k_upd) => `(tactic| simp only [L2.start, List.map_cons, List.map_nil, List.length_cons, List.length_nil, List.replicate_succ, List.replicate_zero, List.cons_append, List.nil_append, List.set_cons_zero, List.set_cons_succ])
section
variable {P : Program} {w : World} {K : PySem.W.Frag} {mg : Str → Option Value} {base : Heap}
/-! ### the law's tokens, in the program -/
theorem strEq {s z : Str} : (V.str s = V.str z) ↔ tl s = tl z := ⟨fun e => by rw [V.str.inj e], fun e => by rw [tlInj e]⟩
def ToksAt (H : Hp) (l : Addr) (ts : List TokP) : Prop :=
  ∃ us : List (Addr × TokP), H l = some (.lst (us.map fun t => V.ref t.1)) ∧ (∀ t ∈ us, H t.1 = some (.tup [.str ⟨#[t.2.1]⟩, .int (t.2.2 : Int)])) ∧ us.map (·.2) = ts
theorem Sm.take {l : List Nat} (h : Sm l) (n : Nat) : Sm (l.take n) := fun i => by
  rw [List.take_take]
  exact h _
theorem kNone2 {l : List Nat} {i : Nat} (h : (l.take i).foldl kStep (some ([], [])) = none) : toksT l = none := by
  unfold toksT
  have : l.foldl kStep (some ([], [])) = none := by
    conv => lhs; rw [← List.take_append_drop i l, List.foldl_append, h]
    exact kNone _
  rw [this]
def sp_law_tokens : Sp := fun vs H Q _ => ∃ z : Str, vs = [.str z] ∧ z.length ≤ 1000 ∧ Sm (tl z) ∧ (∀ H', Same H H' → toksT (tl z) = none → Q .non H') ∧
  ∀ (H' : Hp) (p : Addr) (ts : List TokP), Same H H' → H p = none → toksT (tl z) = some ts → ToksAt H' p ts → ts.length ≤ 1000 → (∀ t ∈ ts, t.2 < 1000) → Q (.ref p) H'
theorem ok_law_tokens (T : Txt K mg) : FnOk P w K mg base CX0 1 T.f_law_tokens T.d_law_tokens ["text"] sp_law_tokens := by
  refine T.F_law_tokens.ok sc_law_tokens (fun vs H Q E h => ?_) (fun cdv A outer s H vs Q E hr h => ?_)
  · obtain ⟨_, rfl, _⟩ := h
    rfl
  · obtain ⟨z, rfl, lz, smz, qn, q⟩ := h
    refine ⟨_, (pss_cons (ps_set (i := 1) sc_law_tokens.nd rfl (.inl rfl) (pe_lst pa_nil))
      (pss_cons (ps_set (i := 2) sc_law_tokens.nd rfl (.inl rfl) pe_str)
      (pss_cons (ps_for PassesOwn.never rfl (pi_str (pv 0)) (pg_name (i := 3) sc_law_tokens.nd rfl (.inl rfl))
      (pss_one (ps_if (pt_cmpR op_in_sign (pv 3) pe_str rfl)
      (pss_one (ps_set (i := 2) sc_law_tokens.nd rfl (.inl rfl) (pe_op op_add_str (pv 2) (pv 3))))
      (pss_cons (ps_if (PW.pt (pw_and (pt_cmpR op_ne (pv 2) pe_str (nomark _)) (pw_and1 (PW.pt (pw_or (pt_cmpR op_eq (pe_ix ix_str (pv 2) pe_int (fun _ _ => rfl)) pe_str (nomark _)) (pw_or1 (pt_cmpR op_eq (pv 2) pe_str (nomark _))))))))
      (pss_one (ps_ret pe_non))
      pss_nil)
      (pss_cons (ps_set (i := 4) sc_law_tokens.nd rfl (.inl rfl) pe_int)
      (pss_cons (ps_if (pt_cmpR op_ne (pv 2) pe_str (nomark _))
      (pss_one (ps_set (i := 4) sc_law_tokens.nd rfl (.inl rfl) (pe_callTy call_int_str (by rfl) T.z_int (by decide +kernel) (pa_cons (pv 2) pa_nil))))
      pss_nil)
      (pss_cons (ps_expr (pe_bm PySem.F.plainAttrs_list PySem.F.slot_list_append PySem.F.type_list_append mt_append (pv 1) (pa_cons (pe_tup (pa_cons (pv 3) (pa_cons (pv 4) pa_nil))) pa_nil)))
      (pss_one (ps_set (i := 2) sc_law_tokens.nd rfl (.inl rfl) pe_str)))))))))
      (pss_cons (ps_if (pt_cmpR op_ne (pv 2) pe_str (nomark _))
      (pss_one (ps_ret pe_non))
      pss_nil)
      (pss_one (ps_ret (pv 1))))))), ?_⟩
    refine ⟨by k_clsL, fun p np => ?_⟩
    k_invariant "new" (np, H1, e1, g1)
    refine ⟨_, rfl, z, rfl, for_it walk_str (fun i σ H' => ∃ (us : List (Addr × TokP)) (d : Str) (v3 v4 : Option V), σ = [some (.str z), some (.ref p), some (.str d), v3, v4] ∧ Same H H' ∧
      H' p = some (.lst (us.map fun t => V.ref t.1)) ∧ (∀ t ∈ us, H' t.1 = some (.tup [.str ⟨#[t.2.1]⟩, .int (t.2.2 : Int)])) ∧ ((tl z).take i).foldl kStep (some ([], [])) = some (us.map (·.2), tl d) ∧ NumText.AllDigits (tl d) ∧ us.length ≤ i ∧ tl d = dgS ((tl z).take i) [] ∧ ∀ t ∈ us, t.2.2 < 1000)
      ⟨[], _, _, _, rfl, e1, g1, fun _ m => (by cases m), by rw [tl_e]; rfl, by rw [tl_e]; exact all_nil, Nat.le_refl 0, by rw [tl_e]; rfl, fun _ m => (by cases m)⟩ (fun _ _ _ _ _ => trivial) ?_ ?_⟩
    · rintro i v σ H2 H' hi ⟨us, d, v3, v4, rfl, sm, hp, hu, hw, ad, lu, ld, bu⟩ ⟨rfl, c, hc, rfl⟩
      have hc' : (tl z)[i]? = some c := by
        show z.cps.toList[i]? = some c
        rw [Array.getElem?_toList]
        exact hc
      have li : i < z.length := by
        have := (List.getElem?_eq_some_iff.mp hc').1
        rwa [← TL.len_tl] at this
      have st : ((tl z).take (i + 1)).foldl kStep (some ([], [])) = kStep (some (us.map (·.2), tl d)) c := by
        rw [take_next hc', List.foldl_append, hw]
        rfl
      have d3 : d.length ≤ 3 := by
        rw [TL.len_tl, ld, ← (ct_ok _ _ rfl (smz.take i)).dg]
        exact smz i
      refine ⟨_, rfl, c, _, rfl, rfl, _, rfl, ite2 (fun cd => ?_) (fun cd => ?_)⟩
      · have cd := mem_digits.mp (of_decide_eq_true cd)
        refine ⟨_, rfl, _, rfl, _, _, rfl, rfl, ?_, us, d ++ (⟨#[c]⟩ : Str), _, _, rfl, sm, hp, hu, ?_, ?_, by omega, ?_, bu⟩
        · rw [sizeLine_eq]
          show d.length + 1 ≤ _
          omega
        · rw [st, tl_append]
          exact if_pos cd
        · rw [tl_append]
          exact all_snoc ad cd
        · rw [tl_append, take_next hc', dgS_app, dgS_dig cd, ld]
          rfl
      · have cd : ¬ (48 ≤ c ∧ c ≤ 57) := fun e => cd (decide_eq_true (mem_digits.mpr e))
        have bad : badN (tl d) → ∀ H', Same H H' → Q .non H' := fun b H' e => qn H' e (kNone2 (i := i + 1) (by rw [st]; exact (if_neg cd).trans (if_pos b)))
        have app : ¬ badN (tl d) → ∀ (n : Nat), numT (tl d) = n → ∀ q, H' q = none → ∃ us' : List (Addr × TokP), Same H (upd (upd H' q (.tup [.str ⟨#[c]⟩, .int (n : Int)])) p (.lst ((us.map fun t => V.ref t.1) ++ [.ref q]))) ∧
            upd H' q (.tup [.str ⟨#[c]⟩, .int (n : Int)]) p = some (.lst (us.map fun t => V.ref t.1)) ∧
            upd (upd H' q (.tup [.str ⟨#[c]⟩, .int (n : Int)])) p (.lst ((us.map fun t => V.ref t.1) ++ [.ref q])) p = some (.lst (us'.map fun t => V.ref t.1)) ∧
            (∀ t ∈ us', upd (upd H' q (.tup [.str ⟨#[c]⟩, .int (n : Int)])) p (.lst ((us.map fun t => V.ref t.1) ++ [.ref q])) t.1 = some (.tup [.str ⟨#[t.2.1]⟩, .int (t.2.2 : Int)])) ∧
            ((tl z).take (i + 1)).foldl kStep (some ([], [])) = some (us'.map (·.2), []) ∧ us'.length ≤ i + 1 ∧ ∀ t ∈ us', t.2.2 < 1000 := fun nb n hn q nq => by
          have hp1 := newS (o := .tup [.str ⟨#[c]⟩, .int (n : Int)]) nq _ _ hp
          refine ⟨us ++ [(q, (c, n))], mutS (sm.trans (newS nq)) np, hp1, by rw [upd_same, List.map_append]; rfl, fun t m => ?_, ?_, by rw [List.length_append, List.length_singleton]; omega, fun t m => ?_⟩
          · rcases List.mem_append.mp m with m | m
            · have g := newS (o := .tup [.str ⟨#[c]⟩, .int (n : Int)]) nq _ _ (hu t m)
              rw [upd_ne (fun e => by rw [e, hp1] at g; cases g)]
              exact g
            · rw [List.mem_singleton.mp m]
              have g : upd H' q (.tup [.str ⟨#[c]⟩, .int (n : Int)]) q = some (.tup [.str ⟨#[c]⟩, .int (n : Int)]) := upd_same
              rw [upd_ne (fun e => by
                have e : q = p := e
                rw [e, hp] at nq
                cases nq)]
              exact g
          · rw [st, List.map_append, ← hn]
            exact (if_neg cd).trans (if_neg nb)
          · rcases List.mem_append.mp m with m | m
            · exact bu t m
            · rw [List.mem_singleton.mp m]
              show n < 1000
              rw [← hn]
              exact numT_lt ad (by rw [← TL.len_tl]; exact d3)
        have fin : ∀ (us' : List (Addr × TokP)) (v3 v4 : Option V) (Hn : Hp), Same H Hn → Hn p = some (.lst (us'.map fun t => V.ref t.1)) → (∀ t ∈ us', Hn t.1 = some (.tup [.str ⟨#[t.2.1]⟩, .int (t.2.2 : Int)])) →
            ((tl z).take (i + 1)).foldl kStep (some ([], [])) = some (us'.map (·.2), []) → us'.length ≤ i + 1 → (∀ t ∈ us', t.2.2 < 1000) → ∃ (us : List (Addr × TokP)) (d : Str) (w3 w4 : Option V), [some (.str z), some (.ref p), some (.str (Str.ofString "")), v3, v4] = [some (.str z), some (.ref p), some (.str d), w3, w4] ∧ Same H Hn ∧
            Hn p = some (.lst (us.map fun t => V.ref t.1)) ∧ (∀ t ∈ us, Hn t.1 = some (.tup [.str ⟨#[t.2.1]⟩, .int (t.2.2 : Int)])) ∧ ((tl z).take (i + 1)).foldl kStep (some ([], [])) = some (us.map (·.2), tl d) ∧ NumText.AllDigits (tl d) ∧ us.length ≤ i + 1 ∧ tl d = dgS ((tl z).take (i + 1)) [] ∧ ∀ t ∈ us, t.2.2 < 1000 := fun us' v3 v4 Hn a b c d e f =>
          ⟨us', _, _, _, rfl, a, b, c, by rw [tl_e]; exact d, by rw [tl_e]; exact all_nil, e, by rw [tl_e, take_next hc', dgS_app, dgS_sgn cd]; rfl, f⟩
        by_cases e : tl d = []
        · have ed : d = Str.ofString "" := tlInj (e.trans tl_e.symm)
          have nb : ¬ badN (tl d) := fun z => z.1 e
          refine ⟨_, rfl, rfl, _, rfl, ?_⟩
          rw [ed, decide_eq_true rfl]
          refine iteF ?_
          refine ⟨_, rfl, rfl, _, rfl, ?_⟩
          rw [decide_eq_true rfl]
          refine iteF ?_
          refine ⟨_, rfl, .inl ⟨rfl, _, lst_of hp⟩, _, rfl, _, rfl, by k_clsL, fun q nq => ?_⟩
          obtain ⟨us', a1, a2, a3, a4, a5, a6, a7⟩ := app nb 1 (if_pos e) q nq
          exact ⟨_, _, _, rfl, rfl, a2, by rw [List.length_map, sizeLine_eq]; omega, fin us' _ _ _ a1 a3 a4 a5 a6 a7⟩
        · have ne : ¬ (V.str d = V.str (Str.ofString "")) := fun y => e ((strEq.mp y).trans tl_e)
          obtain ⟨x, l, ex⟩ : ∃ x l, tl d = x :: l := by
            cases h : tl d with
            | nil => exact absurd h e
            | cons x l => exact ⟨x, l, rfl⟩
          have hx0 : atI d.cps.toList 0 = some x := atI_nat (j := 0) (show (tl d)[0]? = some x by rw [ex]; rfl)
          have dz : d.length ≤ sizeLine := by
            rw [sizeLine_eq]
            omega
          have t48 : tl (Str.ofString "0") = [48] := by decide +kernel
          have t49 : tl (Str.ofString "1") = [49] := by decide +kernel
          have tx : tl (⟨#[x]⟩ : Str) = [x] := rfl
          refine ⟨_, rfl, rfl, _, rfl, ?_⟩
          rw [decide_eq_false ne]
          refine iteT ?_
          refine ⟨_, rfl, _, _, _, rfl, rfl, dz, hx0, rfl, _, rfl, ite2 (fun c1 => ?_) (fun c1 => ?_)⟩
          · have c1 : x = 48 := by
              have := strEq.mp (of_decide_eq_true c1)
              rw [t48] at this
              exact (List.cons.inj this).1
            exact bad ⟨e, .inl (by rw [ex, c1]; rfl)⟩ H' sm
          have c1 : ¬ x = 48 := fun y => c1 (decide_eq_true (strEq.mpr (by rw [tx, t48, y])))
          refine ⟨_, rfl, rfl, _, rfl, ite2 (fun c2 => ?_) (fun c2 => ?_)⟩
          · have c2 : tl d = [49] := by
              have := strEq.mp (of_decide_eq_true c2)
              rw [t49] at this
              exact this
            exact bad ⟨e, .inr c2⟩ H' sm
          have c2 : ¬ tl d = [49] := fun y => c2 (decide_eq_true (strEq.mpr (by rw [t49, y])))
          have nb : ¬ badN (tl d) := fun y => by
            rcases y.2 with y | y
            · rw [ex] at y
              exact c1 (Option.some.inj y)
            · exact c2 y
          refine ⟨_, rfl, rfl, _, rfl, ?_⟩
          rw [decide_eq_false ne]
          refine iteT ?_
          refine ⟨_, rfl, d, ((NumText.digitsVal (tl d) : Nat) : Int), rfl, PySem.intText_digits ad e (by omega), by omega, ?_⟩
          refine ⟨_, rfl, .inl ⟨rfl, _, lst_of hp⟩, _, rfl, _, rfl, by k_clsL, fun q nq => ?_⟩
          obtain ⟨us', a1, a2, a3, a4, a5, a6, a7⟩ := app nb (NumText.digitsVal (tl d)) (if_neg e) q nq
          exact ⟨_, _, _, rfl, rfl, a2, by rw [List.length_map, sizeLine_eq]; omega, fin us' _ _ _ a1 a3 a4 a5 a6 a7⟩
    · rintro σ H' ⟨us, d, v3, v4, rfl, sm, hp, hu, hw, ad, lu, ld, bu⟩
      have tk : (tl z).take z.cps.size = tl z := List.take_of_length_le (by show z.cps.toList.length ≤ _; rw [Array.length_toList]; exact Nat.le_refl _)
      rw [tk] at hw
      refine ⟨_, rfl, rfl, _, rfl, ite2 (fun e => ?_) (fun e => ?_)⟩
      · refine qn H' sm ?_
        have e : tl d ≠ [] := fun z => by
          rw [decide_eq_true (strEq.mpr (z.trans tl_e.symm))] at e
          cases e
        unfold toksT
        rw [hw]
        cases h : tl d with
        | nil => exact absurd h e
        | cons x l => rfl
      · have e : tl d = [] := by
          refine Classical.byContradiction fun z => e ?_
          rw [decide_eq_false (fun y => z ((strEq.mp y).trans tl_e))]
          rfl
        refine ⟨_, rfl, q H' p (us.map (·.2)) sm np ?_ ⟨us, hp, hu, rfl⟩ (by rw [List.length_map]; have : z.cps.size = z.length := rfl; omega) fun t m => by
          obtain ⟨u, mu, rfl⟩ := List.mem_map.mp m
          exact bu u mu⟩
        unfold toksT
        rw [hw, e]
end
end My
namespace My
open PySem PySem.Spec PyProof.Rows L2 Vx
open TL
local macro_rules | `(tactic| k_invariant "new" ($n, $H:ident, $e:ident, $h:ident)) => `(tactic| (generalize hE : upd _ _ _ = $H; obtain ⟨$e:ident, $h:ident⟩ := gen_e hE $n; clear hE))
local macro_rules | `(tactic| k_places) => `(tactic| first
  | assumption
  | exact lst_of (by assumption)
  | exact tup_of (by assumption)
  | (refine getS (by assumption) ?_; k_places)
  | (refine Same.seq (by assumption) ?_; k_places)
  | (refine tupS (by assumption) ?_; k_places)
  | (refine lst_of ?_; k_places)
  | (refine tup_of ?_; k_places))
local macro_rules | `(tactic| k_subL) => `(tactic| first
  | k_places
  | solve_by_elim (maxDepth := 10) [getS, lst_of, tup_of, Same.seq, tupS])
local macro_rules | `(tactic| k_offL) => `(tactic| first
  | (show (0 : Int) < _; first | omega | decide)
  | (refine ⟨?_, ?_⟩ <;> first | omega | decide)
  | exact .inr ⟨by decide, by decide⟩
  | exact .inl ⟨by decide, by decide⟩
  | exact .inl ⟨by omega, by omega⟩
  | omega)
local macro_rules | `(tactic| k_clsL) => `(tactic| exact Nat.le_of_ble_eq_true rfl)
local macro_rules | `(tactic| k_upd) => `(tactic| simp only [L2.start, List.map_cons, List.map_nil, List.length_cons, List.length_nil, List.replicate_succ, List.replicate_zero, List.cons_append, List.nil_append, List.set_cons_zero, List.set_cons_succ])
section
variable {P : Program} {w : World} {K : PySem.W.Frag} {mg : Str → Option Value} {base : Heap}
/-! ### what is due -/
theorem cntL_mem (n : Int) (c : Nat) : c ∈ cntL n c := by
  unfold cntL
  by_cases e : n = 1
  · rw [if_pos e]
    exact List.mem_singleton.mpr rfl
  · rw [if_neg e]
    exact List.mem_append.mpr (.inr (List.mem_singleton.mpr rfl))
theorem toks_asc {l : List Nat} {ts : List TokP} (h : toksT l = some ts) (a : Asc7 l) : ∀ t ∈ ts, t.1 < 128 := fun t m => by
  refine a _ ?_
  rw [(toks_sound h).1]
  exact List.mem_flatten.mpr ⟨tkL t, List.mem_map.mpr ⟨t, m, rfl⟩, cntL_mem _ _⟩
theorem shaped_tok {c : Nat} {n : Int} (h : c < 128) : SeqAt.shaped (.tuple [.str ⟨#[c]⟩, .int n]) = true := by
  have ok : PyData.strOk ⟨#[c]⟩ = true := by
    unfold PyData.strOk
    simp
    omega
  unfold SeqAt.shaped
  simp [PyData.canLay0, PyData.depth, PyData.canLayAll0, PyData.depthAll, ok]
theorem eqv_tok {c n : Nat} : PyData.eqv (.tuple [.str ⟨#[c]⟩, .int (n : Int)]) (.tuple [.str (Str.ofString "!"), .int 1]) = decide ((c, n) = (33, 1)) := by
  have e : Str.ofString "!" = ⟨#[33]⟩ := by decide +kernel
  rw [e]
  show (((⟨#[c]⟩ : Str) == ⟨#[33]⟩) && (decide ((n : Int) = 1) && true)) = _
  have q : ((⟨#[c]⟩ : Str) == ⟨#[33]⟩) = decide (c = 33) := by
    by_cases e : c = 33
    · rw [e, decide_eq_true rfl]
      exact beq_self_eq_true _
    · rw [decide_eq_false e]
      refine beq_eq_false_iff_ne.mpr fun z => e ?_
      injection z with z
      injection z with z
      injection z
  rw [q]
  by_cases e1 : c = 33
  · by_cases e2 : n = 1
    · simp [e1, e2]
    · have : ¬ (n : Int) = 1 := by omega
      simp [e1, e2, this]
  · simp [e1]
theorem mem_OD {c : Nat} : c ∈ (Str.ofString "O./").cps.toList ↔ c = 79 ∨ c = 46 ∨ c = 47 := by
  have e : (Str.ofString "O./").cps.toList = [79, 46, 47] := by decide +kernel
  rw [e]
  simp only [List.mem_cons, List.not_mem_nil, or_false]
theorem isC {c k : Nat} {s : Str} (h : tl s = [k]) : (V.str ⟨#[c]⟩ = V.str s) ↔ c = k := by
  refine strEq.trans ?_
  rw [h]
  exact ⟨fun e => (List.cons.inj e).1, fun e => by rw [e]⟩
def sp_law_due : Sp := fun vs H Q _ => ∃ z : Str, vs = [.str z] ∧ z.length ≤ 1000 ∧ Sm (tl z) ∧ Asc7 (tl z) ∧ (∀ H', Same H H' → dueT (tl z) = none → Q .non H') ∧
  ∀ (H' : Hp) (p : Addr) (cs : List Pr), Same H H' → dueT (tl z) = some cs → Cells H' p cs → Q (.ref p) H'
theorem ok_law_due (T : Txt K mg) : FnOk P w K mg base CX0 2 T.f_law_due T.d_law_due ["text"] sp_law_due := by
  refine T.F_law_due.ok sc_law_due (fun vs H Q E h => ?_) (fun cdv A outer s H vs Q E hr h => ?_)
  · obtain ⟨_, rfl, _⟩ := h
    rfl
  · obtain ⟨z, rfl, lz, smz, az, qn, q⟩ := h
    refine ⟨_, (pss_cons (ps_set (i := 1) sc_law_due.nd rfl (.inl rfl) (pe_call (ok_law_tokens T) (hr.mono (by decide)) (by rfl) T.g_law_tokens T.F_law_tokens.kp T.b_law_tokens .nil pass0 (pa_cons (pv 0) pa_nil)))
      (pss_cons (ps_if (PW.pt (pw_or (pt_cmpR op_isN (pv 1) pe_non (nomark _)) (pw_or (pt_cmpR op_eq (pe_callB call_lenL (by rfl) T.z_len (by decide +kernel) (pa_cons (pv 1) pa_nil)) pe_int (nomark _)) (pw_or1 (pt_cmpR (op_neD hr.units) (pe_ix ix_list (pv 1) (pe_op op_sub (pe_callB call_lenL (by rfl) T.z_len (by decide +kernel) (pa_cons (pv 1) pa_nil)) pe_int) (fun _ _ => rfl)) (pe_tup (pa_cons pe_str (pa_cons pe_int pa_nil))) (nomark _))))))
      (pss_one (ps_ret pe_non))
      pss_nil)
      (pss_cons (ps_set (i := 2) sc_law_due.nd rfl (.inl rfl) (pe_lst pa_nil))
      (pss_cons (ps_set (i := 3) sc_law_due.nd rfl (.inr rfl) pe_int)
      (pss_cons (ps_set (i := 4) sc_law_due.nd rfl (.inr rfl) pe_int)
      (pss_cons (ps_set (i := 5) sc_law_due.nd rfl (.inl rfl) pe_str)
      (pss_cons (ps_for PassesOwn.never rfl (pi_list (pe_slice sl_list (pv 1) po_none (po_some (pe_op op_sub (pe_callB call_lenL (by rfl) T.z_len (by decide +kernel) (pa_cons (pv 1) pa_nil)) pe_int)))) (pg_tupK (K := K) (n := 2) rfl rfl (pgs_cons (pg_name (i := 6) sc_law_due.nd rfl (.inl rfl)) (pgs_cons (pg_name (i := 7) sc_law_due.nd rfl (.inl rfl)) pgs_nil)))
      (pss_cons (ps_if (PW.pt (pw_or (pt_cmpR op_notIn_sign (pv 6) pe_str rfl) (pw_or (pt_cmpR op_eq (pv 6) (pv 5) (nomark _)) (pw_or1 (PW.pt (pw_and (pt_cmpR op_eq (pv 6) pe_str (nomark _)) (pw_and1 (pt_cmpR op_eq (pv 5) pe_str (nomark _)))))))))
      (pss_one (ps_ret pe_non))
      pss_nil)
      (pss_cons (ps_if (pt_cmpR op_eq (pv 6) pe_str (nomark _))
      (pss_cons (ps_set (i := 3) sc_law_due.nd rfl (.inr rfl) (pe_op op_add (pv 3) (pv 7)))
      (pss_one (ps_set (i := 4) sc_law_due.nd rfl (.inr rfl) pe_int)))
      (pss_cons (ps_if (pt_cmpR op_eq (pv 6) pe_str (nomark _))
      (pss_one (ps_set (i := 2) sc_law_due.nd rfl (.inl rfl) (pe_op op_cat (pv 2) (pe_lc (own := [("k", 8)]) (g := gName 8) (tt := tYes) rfl sc_law_due.nd (pi_range1 (by rfl) T.z_range (pa_cons (pv 7) pa_nil)) (blkOk_by (own := [("k", 8)]) (N := N_law_due) (sc := defScope s_law_due) (by decide +kernel)) (fun _ _ _ _ _ => pg_name (i := 8) sc_law_due.nd rfl (Or.inl rfl)) (fun _ _ _ _ _ => pts_nil) (fun _ _ _ _ _ => (pe_tup (pa_cons (pv 3) (pa_cons (pe_op op_add (pv 4) (pv 8)) pa_nil))))))))
      pss_nil)
      (pss_one (ps_set (i := 4) sc_law_due.nd rfl (.inr rfl) (pe_op op_add (pv 4) (pv 7))))))
      (pss_one (ps_set (i := 5) sc_law_due.nd rfl (.inl rfl) (pv 6))))))
      (pss_cons (ps_mid (ps_if (PW.pt (pw_and (pt_cmpR op_gt (pe_callB call_lenL (by rfl) T.z_len (by decide +kernel) (pa_cons (pv 1) pa_nil)) pe_int (nomark _)) (pw_and1 (pt_cmpR op_ne (pv 5) pe_str (nomark _)))))
      (pss_one (ps_ret pe_non))
      pss_nil))
      (pss_cons (ps_if (PW.pt (pw_and (pt_cmpR op_gt (pe_callB call_lenL (by rfl) T.z_len (by decide +kernel) (pa_cons (pv 2) pa_nil)) pe_int (nomark _)) (pw_and1 (pt_cmpR op_gt (pe_callB (cr_min rfl) (by rfl) T.z_min (by decide +kernel) (pa_cons (pe_lc (own := [("r", 3), ("c", 4)]) (tt := tYes) rfl sc_law_due.nd (pi_list (pv 2)) (blkOk_by (own := [("r", 3), ("c", 4)]) (N := N_law_due) (sc := defScope s_law_due) (by decide +kernel)) (fun _ _ _ _ _ => (pg_tupK (K := K) (n := 2) rfl rfl (pgs_cons (pg_name (i := 3) sc_law_due.nd rfl (.inl rfl)) (pgs_cons (pg_name (i := 4) sc_law_due.nd rfl (.inl rfl)) pgs_nil)))) (fun _ _ _ _ _ => pts_nil) (fun _ _ _ _ _ => (pv 4))) pa_nil)) pe_int (nomark _)))))
      (pss_one (ps_ret pe_non))
      pss_nil)
      (pss_one (ps_ret (pv 2)))))))))))), ?_⟩
    refine ⟨_, rfl, z, rfl, lz, smz, fun H1 e1 hn => ?_, fun H1 p ts e1 np ht hT lt small => ?_⟩
    · have dn : dueT (tl z) = none := by
        unfold dueT
        rw [hn]
      refine ⟨_, rfl, rfl, _, rfl, iteT ?_⟩
      exact qn H1 e1 dn
    · have asc := toks_asc ht az
      obtain ⟨us, hp, hu, rfl⟩ := hT
      have dn : us = [] ∨ (us.map (·.2)).getLast? ≠ some (33, 1) → dueT (tl z) = none := fun c => by
        unfold dueT
        rw [ht]
        exact if_pos (c.imp_left fun e => by rw [e]; rfl)
      refine ⟨_, rfl, rfl, _, rfl, iteF ?_⟩
      rcases List.eq_nil_or_concat us with e | ⟨vs, u, e⟩
      · subst e
        refine ⟨_, rfl, _, _, rfl, lst_of hp, rfl, _, rfl, iteT ?_⟩
        exact qn H1 e1 (dn (.inl rfl))
      rw [List.concat_eq_append] at e
      have ne : ¬ (((us.map fun t => V.ref t.1).length : Int) = 0) := by
        rw [e, List.length_map, List.length_append, List.length_singleton]
        omega
      have hlast : atI (us.map fun t => V.ref t.1) (((us.map fun t => V.ref t.1).length : Int) - 1) = some (.ref u.1) := by
        rw [e, List.map_append, List.length_append]
        show atI _ (((_ + 1 : Nat) : Int) - 1) = _
        rw [show ((((vs.map fun t => V.ref t.1).length + 1 : Nat) : Int) - 1) = (((vs.map fun t => V.ref t.1).length : Nat) : Int) by omega]
        refine atI_nat ?_
        simp
      refine ⟨_, rfl, _, _, rfl, lst_of hp, rfl, _, rfl, ?_⟩
      rw [decide_eq_false (fun z => ne (V.int.inj z))]
      refine iteF ?_
      refine ⟨_, rfl, _, rfl, _, _, rfl, lst_of hp, _, _, rfl, rfl, _, _, _, _, rfl, rfl, lst_of hp, hlast, by k_clsL, fun q0 nq0 => ?_⟩
      have hu1 := hu u (by rw [e]; exact List.mem_append.mpr (.inr (List.mem_singleton.mpr rfl)))
      have u128 : u.2.1 < 128 := asc u.2 (List.mem_map.mpr ⟨u, by rw [e]; exact List.mem_append.mpr (.inr (List.mem_singleton.mpr rfl)), rfl⟩)
      k_invariant "new" (nq0, H2, e2, g2)
      refine ⟨_, _, .tup (tup_of (e2 _ _ hu1)) (.cons (.str _) (.cons (.int _) .nil)), .tup (tup_of g2) (.cons (.str _) (.cons (.int _) .nil)), shaped_tok u128, shaped_tok (c := 33) (n := 1) (by decide), _, rfl, ?_⟩
      have us0 : (us.map (·.2)) ≠ [] := by
        rw [e, List.map_append]
        simp
      by_cases eu : u.2 = (33, 1)
      rotate_left
      · have ev : PyData.eqv (.tuple [.str ⟨#[u.2.1]⟩, .int (u.2.2 : Int)]) (.tuple [.str (Str.ofString "!"), .int 1]) = false := eqv_tok.trans (decide_eq_false eu)
        rw [ev]
        refine iteT (qn H2 (e1.trans e2) (dn (.inr fun z => eu ?_)))
        rw [e, List.map_append] at z
        show u.2 = _
        have z : (vs.map (·.2) ++ [u.2]).getLast? = some (33, 1) := z
        rw [List.getLast?_concat] at z
        exact Option.some.inj z
      have ev : PyData.eqv (.tuple [.str ⟨#[u.2.1]⟩, .int (u.2.2 : Int)]) (.tuple [.str (Str.ofString "!"), .int 1]) = true := eqv_tok.trans (decide_eq_true eu)
      rw [ev]
      refine iteF ?_
      have due : dueT (tl z) = dueK (vs.map (·.2)) := by
        unfold dueT
        rw [ht]
        show (if us.map (·.2) = [] ∨ (us.map (·.2)).getLast? ≠ some (33, 1) then none else dueK (us.map (·.2)).dropLast) = _
        have e3 : us.map (·.2) = vs.map (·.2) ++ [(33, 1)] := by
          rw [e, List.map_append, ← eu]
          rfl
        rw [e3, List.getLast?_concat, List.dropLast_concat, if_neg (by simp)]
      refine ⟨by k_clsL, fun pc npc => ?_⟩
      k_invariant "new" (npc, H3, e3, g3)
      have hp3 := e3 _ _ (e2 _ _ hp)
      refine ⟨_, rfl, _, rfl, _, _, rfl, lst_of hp3, _, _, rfl, rfl, _, rfl, _, _, rfl, lst_of hp3, fun ps nps => ?_⟩
      have ecut : cutV (us.map fun t => V.ref t.1) none (some (((us.map fun t => V.ref t.1).length : Int) - 1)) = vs.map fun t => V.ref t.1 := by
        unfold cutV
        rw [sIx_k (by rw [e, List.length_map, List.length_append, List.length_singleton]; omega)]
        show ((us.map fun t => V.ref t.1).drop 0).take (min _ _ - 0) = _
        rw [List.drop_zero, e, List.map_append, List.length_append]
        show List.take (min ((((vs.map fun t => V.ref t.1).length + 1 : Nat) : Int) - 1).toNat ((vs.map fun t => V.ref t.1).length + 1) - 0) _ = _
        rw [show min ((((vs.map fun t => V.ref t.1).length + 1 : Nat) : Int) - 1).toNat ((vs.map fun t => V.ref t.1).length + 1) - 0 = (vs.map fun t => V.ref t.1).length by omega]
        exact List.take_left
      rw [ecut]
      k_invariant "new" (nps, H4, e4, g4)
      have s4 : Same H H4 := e1.trans (e2.trans (e3.trans e4))
      have hv : ∀ t ∈ vs, H4 t.1 = some (.tup [.str ⟨#[t.2.1]⟩, .int (t.2.2 : Int)]) := fun t m => e4 _ _ (e3 _ _ (e2 _ _ (hu t (by rw [e]; exact List.mem_append.mpr (.inl m)))))
      have sv : ∀ t ∈ vs, t.2.2 < 1000 := fun t m => small t.2 (List.mem_map.mpr ⟨t, by rw [e]; exact List.mem_append.mpr (.inl m), rfl⟩)
      have lv : vs.length ≤ 1000 := by
        rw [e, List.map_append, List.length_append, List.length_map] at lt
        omega
      have dnone : ∀ i, ((vs.map (·.2)).take i).foldl dStep (some ([], 0, 0, 47)) = none → dueT (tl z) = none := fun i h => by
        rw [due]
        unfold dueK
        have : (vs.map (·.2)).foldl dStep (some ([], 0, 0, 47)) = none := by
          conv => lhs; rw [← List.take_append_drop i (vs.map (·.2)), List.foldl_append, h]
          exact dNone _
        rw [this]
      refine ⟨ps, rfl, ⟨_, lst_of g4⟩, for_list (K := K) (a := ps) (xs := vs.map fun t => V.ref t.1) (fun i σ H' => Same H4 H' ∧ ∃ (pcl : Addr) (cs : List Pr) (r c : Int) (b : Nat) (v6 v7 v8 : Option V), σ = [some (.str z), some (.ref p), some (.ref pcl), some (.int r), some (.int c), some (.str ⟨#[b]⟩), v6, v7, v8] ∧
        Cells H' pcl cs ∧ ((vs.map (·.2)).take i).foldl dStep (some ([], 0, 0, 47)) = some (cs, r, c, b) ∧ cs.length ≤ 1000 * i)
        ⟨Same.refl _, pc, [], 0, 0, 47, _, _, _, rfl, ⟨[], e4 _ _ g3, fun _ m => (by cases m), rfl⟩, rfl, Nat.le_refl 0⟩ (fun i σ H' _ h => lst_of (h.1 _ _ g4)) ?_ ?_⟩
      · rintro i v σ H' hi ⟨sm, pcl, cs, r, c, b, v6, v7, v8, rfl, hC, hw, lc⟩
        obtain ⟨t, mt, rfl, hti⟩ : ∃ t ∈ vs, v = .ref t.1 ∧ (vs.map (·.2))[i]? = some t.2 := by
          rw [List.getElem?_map] at hi
          cases ei : vs[i]? with
          | none => rw [ei] at hi; cases hi
          | some t =>
            rw [ei] at hi
            exact ⟨t, List.mem_of_getElem? ei, (Option.some.inj hi).symm, by rw [List.getElem?_map, ei]; rfl⟩
        have li : i < vs.length := by
          have := (List.getElem?_eq_some_iff.mp hi).1
          rwa [List.length_map] at this
        have gt := sm _ _ (hv t mt)
        have st : ((vs.map (·.2)).take (i + 1)).foldl dStep (some ([], 0, 0, 47)) = dStep (some (cs, r, c, b)) t.2 := by
          rw [take_next hti, List.foldl_append, hw]
          rfl
        have bad : dBad t.2 b → Q .non H' := fun h => qn H' (s4.trans sm) (dnone (i + 1) (by rw [st]; exact if_pos h))
        have bt := sv t mt
        refine ⟨t.1, _, rfl, tup_of gt, rfl, _, _, rfl, _, _, rfl, rfl, ?_⟩
        refine ⟨_, rfl, t.2.1, _, rfl, rfl, _, rfl, ite2 (fun c1 => ?_) (fun c1 => ?_)⟩
        · refine bad (.inl fun q => ?_)
          have c1 : (!decide (t.2.1 ∈ (Str.ofString "O./").cps.toList)) = true := c1
          rw [decide_eq_true (mem_OD.mpr q)] at c1
          cases c1
        have hs : t.2.1 = 79 ∨ t.2.1 = 46 ∨ t.2.1 = 47 := Classical.byContradiction fun q => c1 (by
          rw [decide_eq_false (fun z => q (mem_OD.mp z))]
          rfl)
        refine ⟨_, rfl, _, rfl, rfl, _, rfl, ite2 (fun c2 => ?_) (fun c2 => ?_)⟩
        · exact bad (.inr (.inl ((isC rfl).mp (of_decide_eq_true c2))))
        have nb : ¬ t.2.1 = b := fun q => c2 (decide_eq_true ((isC rfl).mpr q))
        by_cases k47 : t.2.1 = 47
        · refine ⟨_, rfl, rfl, _, rfl, ?_⟩
          rw [decide_eq_true ((isC tl_slash).mpr k47)]
          refine iteT ?_
          refine ⟨_, rfl, rfl, _, rfl, ite2 (fun c3 => ?_) (fun c3 => ?_)⟩
          · exact bad (.inr (.inr ⟨k47, (isC tl_dot).mp (of_decide_eq_true c3)⟩))
          have ok : ¬ dBad t.2 b := by
            rintro (q | q | q)
            · exact q hs
            · exact nb q
            · exact c3 (decide_eq_true ((isC tl_dot).mpr q.2))
          have st2 : dStep (some (cs, r, c, b)) t.2 = some (cs, r + (t.2.2 : Int), 0, t.2.1) := (if_neg ok).trans (if_pos k47)
          refine ⟨_, rfl, rfl, _, rfl, ?_⟩
          rw [decide_eq_true ((isC tl_slash).mpr k47)]
          refine iteT ?_
          refine ⟨_, rfl, _, rfl, _, _, rfl, rfl, ?_⟩
          refine ⟨_, rfl, sm, pcl, cs, _, _, _, _, _, _, rfl, hC, by rw [st, st2], by omega⟩
        · have ok : ¬ dBad t.2 b := by
            rintro (q | q | q)
            · exact q hs
            · exact nb q
            · exact k47 q.1
          have st2 : dStep (some (cs, r, c, b)) t.2 = some (if t.2.1 = 79 then cs ++ blockOf r c t.2.2 else cs, r, c + (t.2.2 : Int), t.2.1) := (if_neg ok).trans (if_neg k47)
          have n47 : ¬ (V.str ⟨#[t.2.1]⟩ = V.str (Str.ofString "/")) := fun q => k47 ((isC tl_slash).mp q)
          refine ⟨_, rfl, rfl, _, rfl, ?_⟩
          rw [decide_eq_false n47]
          refine iteF ?_
          refine ⟨_, rfl, rfl, _, rfl, ?_⟩
          rw [decide_eq_false n47]
          refine iteF ?_
          by_cases k79 : t.2.1 = 79
          · rw [if_pos k79] at st2
            refine ⟨_, rfl, rfl, _, rfl, ?_⟩
            rw [decide_eq_true ((isC tl_O).mpr k79)]
            refine iteT ?_
            refine ⟨_, rfl, _, rfl, _, rfl, by omega, by omega, fun D nD => lc_pairs (fun (k : Nat) => (r, c + (0 + (k : Int)))) nD (by rw [sizeLine_eq]; omega) ?_ fun H5 ws e5 gD hws ew => ?_⟩
            · intro j H6 Po Pn hj sm4 hq
              exact ⟨rfl, tyesT ⟨_, rfl, _, rfl, _, rfl, _, _, rfl, rfl, by k_clsL, fun t2 n2 => hq t2 n2⟩⟩
            · obtain ⟨ts, hts, htt, ets⟩ := hC.up e5
              have f1 : (fun (k : Nat) => ((r, c + (0 + (k : Int))) : Pr)) = fun (k : Nat) => (r, c + (k : Int)) := funext fun k => by rw [Int.zero_add]
              rw [f1] at ew
              have lw : ws.length = t.2.2 := by
                have z := congrArg List.length ew
                rw [List.length_map, List.length_map, List.length_range] at z
                omega
              have lts : ts.length = cs.length := by rw [← ets, List.length_map]
              refine ⟨pcl, D, _, _, rfl, rfl, hts, gD, by rw [List.length_map, List.length_map, sizeLine_eq]; omega, fun p5 n5 => ?_⟩
              k_invariant "new" (n5, H7, e7, g7)
              have hN : Cells H7 p5 (cs ++ ws.map (·.2)) := by
                have := cells_mk (H := H7) (l := p5) (ts ++ ws) (by rw [g7, List.map_append]) (fun u m => by
                  rcases List.mem_append.mp m with m | m
                  · exact e7 _ _ (htt u m)
                  · exact e7 _ _ (hws u m))
                rw [List.map_append, ets] at this
                exact this
              refine ⟨_, rfl, _, rfl, _, _, rfl, rfl, ?_⟩
              refine ⟨_, rfl, sm.trans (e5.trans e7), p5, _, _, _, _, _, _, _, rfl, hN, ?_, by rw [List.length_append, List.length_map]; omega⟩
              rw [st, st2, ew, Int.toNat_natCast]
              rfl
          · rw [if_neg k79] at st2
            refine ⟨_, rfl, rfl, _, rfl, ?_⟩
            rw [decide_eq_false (fun q => k79 ((isC tl_O).mp q))]
            refine iteF ?_
            refine ⟨_, rfl, _, rfl, _, _, rfl, rfl, ?_⟩
            exact ⟨_, rfl, sm, pcl, cs, _, _, _, _, _, _, rfl, hC, by rw [st, st2], by omega⟩
      · rintro σ H' ⟨sm, pcl, cs, r, c, b, v6, v7, v8, rfl, hC, hw, lc⟩
        have lxs : (vs.map fun t => V.ref t.1).length = (vs.map (·.2)).length := by rw [List.length_map, List.length_map]
        rw [lxs, List.take_length] at hw
        rw [List.length_map] at lc
        have ek : dueT (tl z) = if (vs.map (·.2) ≠ [] ∧ b ≠ 79) ∨ (cs ≠ [] ∧ ∀ x ∈ cs, 0 < x.2) then none else some cs := by
          rw [due]
          unfold dueK
          rw [hw]
        have s5 := s4.trans sm
        have lus : (us.map fun t => V.ref t.1).length = vs.length + 1 := by
          rw [e, List.length_map, List.length_append, List.length_singleton]
        refine ⟨fun σ' H'' => σ' = [some (.str z), some (.ref p), some (.ref pcl), some (.int r), some (.int c), some (.str ⟨#[b]⟩), v6, v7, v8] ∧ H'' = H' ∧ ¬ (vs.map (·.2) ≠ [] ∧ b ≠ 79), ?_, ?_⟩
        · have nn := dueT (tl z)
          refine ⟨_, rfl, _, _, rfl, lst_of (sm _ _ (e4 _ _ hp3)), _, _, rfl, rfl, _, rfl, ite2 (fun c1 => ?_) (fun c1 => ?_)⟩
          · have c1 := of_decide_eq_true c1
            have v0 : vs.map (·.2) ≠ [] := fun q => by
              have := congrArg List.length q
              rw [List.length_map] at this
              have : vs.length = 0 := this
              omega
            refine ⟨_, rfl, rfl, _, rfl, ite2 (fun c2 => ?_) (fun c2 => ?_)⟩
            · refine qn _ s5 ?_
              have b79 : b ≠ 79 := fun q => by
                rw [decide_eq_true ((isC tl_O).mpr q)] at c2
                cases c2
              rw [ek, if_pos (.inl ⟨v0, b79⟩)]
            · refine ⟨rfl, rfl, fun q => c2 ?_⟩
              rw [decide_eq_false (fun y => q.2 ((isC tl_O).mp y))]
              rfl
          · refine ⟨rfl, rfl, fun q => c1 (decide_eq_true ?_)⟩
            have : vs.length ≠ 0 := fun y => q.1 (by rw [List.length_eq_zero_iff.mp y]; rfl)
            omega
        · rintro σ2 H9 ⟨rfl, rfl, no⟩
          obtain ⟨ts, hts, htt, ets⟩ := id hC
          have lts : ts.length = cs.length := by rw [← ets, List.length_map]
          refine ⟨_, rfl, _, _, rfl, lst_of hts, _, _, rfl, rfl, _, rfl, ite2 (fun c1 => ?_) (fun c1 => ?_)⟩
          · have c1 := of_decide_eq_true c1
            rw [List.length_map, lts] at c1
            have c0 : cs ≠ [] := fun q => by
              rw [q] at c1
              exact absurd c1 (by decide)
            refine ⟨_, rfl, _, rfl, ⟨_, lst_of hC.choose_spec.1⟩, fun D nD => lc_nums (·.2) hC nD (by rw [sizeLine_eq]; omega) (fun t x H' Po Pn _ ht hq => ⟨t, _, rfl, tup_of ht, rfl, _, _, rfl, _, _, rfl, rfl, rfl, tyesT ⟨_, rfl, hq⟩⟩) fun H6 e6 h6 => ?_⟩
            refine ⟨_, _, rfl, lst_of h6, by simpa [List.length_pos_iff] using c0, fun a ma la => ?_⟩
            refine ⟨_, _, rfl, rfl, _, rfl, ite2 (fun c2 => ?_) (fun c2 => ?_)⟩
            · have c2 := of_decide_eq_true c2
              refine qn _ (s5.trans e6) ?_
              have all : ∀ x ∈ cs, 0 < x.2 := fun x m => by
                have := la x.2 (List.mem_map.mpr ⟨x, m, rfl⟩)
                omega
              rw [ek, if_pos (.inr ⟨c0, all⟩)]
            · refine ⟨_, rfl, q _ pcl cs (s5.trans e6) ?_ (hC.up e6)⟩
              rw [ek, if_neg]
              rintro (y | y)
              · exact no y
              · obtain ⟨x, mx, ex⟩ := List.mem_map.mp ma
                have := y.2 x mx
                exact c2 (decide_eq_true (by omega))
          · refine ⟨_, rfl, q _ pcl cs s5 ?_ hC⟩
            rw [ek, if_neg]
            rintro (y | y)
            · exact no y
            · refine c1 (decide_eq_true ?_)
              rw [List.length_map, lts]
              have : cs.length ≠ 0 := fun q => y.1 (List.length_eq_zero_iff.mp q)
              omega
end
end My
namespace My
open PySem PySem.Spec PyProof.Rows L2 Vx
open TL
local macro_rules | `(tactic| k_invariant "new" ($n, $H:ident, $e:ident, $h:ident)) => `(tactic| (generalize hE : upd _ _ _ = $H; obtain ⟨$e:ident, $h:ident⟩ := gen_e hE $n; clear hE))
local macro_rules | `(tactic| k_places) => `(tactic| first
  | assumption
  | exact lst_of (by assumption)
  | exact tup_of (by assumption)
  | (refine getS (by assumption) ?_; k_places)
  | (refine Same.seq (by assumption) ?_; k_places)
  | (refine tupS (by assumption) ?_; k_places)
  | (refine lst_of ?_; k_places)
  | (refine tup_of ?_; k_places))
local macro_rules | `(tactic| k_subL) => `(tactic| first
  | k_places
  | solve_by_elim (maxDepth := 10) [getS, lst_of, tup_of, Same.seq, tupS])
local macro_rules | `(tactic| k_offL) => `(tactic| first
  | (show (0 : Int) < _; first | omega | decide)
  | (refine ⟨?_, ?_⟩ <;> first | omega | decide)
  | exact .inr ⟨by decide, by decide⟩
  | exact .inl ⟨by decide, by decide⟩
  | exact .inl ⟨by omega, by omega⟩
  | omega)
local macro_rules | `(tactic| k_clsL) => `(tactic| exact Nat.le_of_ble_eq_true rfl)
local macro_rules | `(tactic| k_upd) => `(tactic| simp only [L2.start, List.map_cons, List.map_nil, List.length_cons, List.length_nil, List.replicate_succ, List.replicate_zero, List.cons_append, List.nil_append, List.set_cons_zero, List.set_cons_succ])
section
variable {P : Program} {w : World} {K : PySem.W.Frag} {mg : Str → Option Value} {base : Heap}
/-! ### what the law says of an answer -/
def sp_law_integer : Sp := fun vs H Q _ => ∃ i : Int, vs = [.int i] ∧ Q (.bl true) H
theorem ok_law_integer (T : Txt K mg) : FnOk P w K mg base CX0 1 T.f_law_integer T.d_law_integer ["value"] sp_law_integer := by
  refine T.F_law_integer.ok sc_law_integer (fun vs H Q E h => ?_) (fun cdv A outer s H vs Q E hr h => ?_)
  · obtain ⟨_, rfl, _⟩ := h
    rfl
  · obtain ⟨i, rfl, q⟩ := h
    refine ⟨_, (pss_one (ps_ret (pe_and (pe_callB call_isi (by rfl) T.z_isinstance (by decide +kernel) (pa_cons (pv 0) (pa_cons (pe_bltn (v := .ty "int") (by rfl) T.z_int (by decide +kernel) rfl) pa_nil))) (pe_one (pe_not (pe_callB call_isi (by rfl) T.z_isinstance (by decide +kernel) (pa_cons (pv 0) (pa_cons (pe_bltn (v := .ty "bool") (by rfl) T.z_bool (by decide +kernel) rfl) pa_nil)))))))), ?_⟩
    exact ⟨_, rfl, _, _, _, _, _, rfl, .ty _, .base (.int _), rfl, _, rfl, _, rfl, _, _, _, _, _, rfl, .ty _, .base (.int _), rfl, _, rfl, q⟩
def sp_law_cells : Sp := fun vs H Q _ => ∃ (l : Addr) (ps : List Pr), vs = [.ref l] ∧ Cells H l ps ∧ ps.Pairwise ltP ∧ ∀ H', Same H H' → Q (.bl true) H'
theorem ok_law_cells (T : Txt K mg) : FnOk P w K mg base CX0 2 T.f_law_cells T.d_law_cells ["value"] sp_law_cells := by
  refine T.F_law_cells.ok sc_law_cells (fun vs H Q E h => ?_) (fun cdv A outer s H vs Q E hr h => ?_)
  · obtain ⟨_, _, rfl, _⟩ := h
    rfl
  · obtain ⟨l, ps, rfl, hC, pw, q⟩ := h
    refine ⟨_, (pss_cons (ps_if (pt_not (pt_val (pe_callB call_isi (by rfl) T.z_isinstance (by decide +kernel) (pa_cons (pv 0) (pa_cons (pe_bltn (v := .ty "list") (by rfl) T.z_list (by decide +kernel) rfl) pa_nil)))))
      (pss_one (ps_ret pe_bl))
      pss_nil)
      (pss_cons (ps_for PassesOwn.never rfl (pi_list (pv 0)) (pg_name (i := 1) sc_law_cells.nd rfl (.inl rfl))
      (pss_one (ps_if (PW.pt (pw_or (pt_not (pt_val (pe_callB call_isi (by rfl) T.z_isinstance (by decide +kernel) (pa_cons (pv 1) (pa_cons (pe_bltn (v := .ty "tuple") (by rfl) T.z_tuple (by decide +kernel) rfl) pa_nil))))) (pw_or (pt_cmpR op_ne (pe_callB call_lenU (by rfl) T.z_len (by decide +kernel) (pa_cons (pv 1) pa_nil)) pe_int (nomark _)) (pw_or (pt_not (pt_val (pe_call (ok_law_integer T) (hr.mono (by decide)) (by rfl) T.g_law_integer T.F_law_integer.kp T.b_law_integer .nil pass0 (pa_cons (pe_ix (ix_tupK (K := K) rfl) (pv 1) pe_int (fun _ _ => rfl)) pa_nil)))) (pw_or1 (pt_not (pt_val (pe_call (ok_law_integer T) (hr.mono (by decide)) (by rfl) T.g_law_integer T.F_law_integer.kp T.b_law_integer .nil pass0 (pa_cons (pe_ix (ix_tupK (K := K) rfl) (pv 1) pe_int (fun _ _ => rfl)) pa_nil)))))))))
      (pss_one (ps_ret pe_bl))
      pss_nil)))
      (pss_one (ps_ret (pe_cmpR (op_eqD hr.units) (pv 0) (pe_callB cr_sortedC (by rfl) T.z_sorted (by decide +kernel) (pa_cons (pv 0) pa_nil)) (nomark _)))))), ?_⟩
    obtain ⟨ts, hl, ht, rfl⟩ := id hC
    refine ⟨_, rfl, _, _, _, _, _, rfl, .ty _, .base (.lst hl), rfl, ?_⟩
    refine ⟨_, rfl, _, rfl, l, rfl, ⟨_, lst_of hl⟩, for_list (K := K) (a := l) (xs := ts.map fun t => V.ref t.1) (fun i σ H' => H' = H ∧ ∃ v : Option V, σ = [some (.ref l), v]) ⟨rfl, _, rfl⟩ (fun i σ H' _ p => by rw [p.1]; exact lst_of hl) ?_ ?_⟩
    · rintro i x σ H' hi ⟨rfl, v, rfl⟩
      obtain ⟨t, mt, rfl, _⟩ := item_cells (H := H') hi rfl
      have g := ht t mt
      refine ⟨_, rfl, _, _, _, _, _, rfl, .ty _, .base (.tup g), rfl, ?_⟩
      refine ⟨_, rfl, _, rfl, _, _, rfl, tup_of g, rfl, _, rfl, iteF ?_⟩
      refine ⟨_, rfl, _, _, _, _, rfl, rfl, tup_of g, rfl, _, rfl, _, rfl, iteF ?_⟩
      refine ⟨_, rfl, _, _, _, _, rfl, rfl, tup_of g, rfl, _, rfl, _, rfl, iteF ?_⟩
      exact ⟨rfl, _, rfl⟩
    · rintro σ H' ⟨rfl, v, rfl⟩
      refine ⟨_, rfl, _, rfl, _, _, rfl, hC, nodup_lt pw, fun p H1 qs e1 n1 h1 c1 l1 => ⟨_, _, dp_cells (hC.up e1), dp_cells h1, shaped_cells _, shaped_cells _, ?_⟩⟩
      rw [eqv_cells, canP_eq c1 pw fun _ => Iff.rfl, decide_eq_true rfl]
      exact q H1 e1
/-! ### the law -/
def sp_law (K : PySem.W.Frag) : Sp := fun vs H Q _ => ∃ (a : Addr) (ns : List Int), vs = [.ref a] ∧ SqL K H a (ns.map V.int) ∧ ns.length ≤ 63 ∧ ∀ H', Q (.bl true) H'
theorem ok_law (T : Txt K mg) : FnOk P w K mg base CX0 6 T.f_law T.d_law ["script"] (sp_law K) := by
  refine T.F_law.ok sc_law (fun vs H Q E h => ?_) (fun cdv A outer s H vs Q E hr h => ?_)
  · obtain ⟨a, ns, rfl, _⟩ := h
    rfl
  · obtain ⟨a, ns, rfl, hS, hlen, q⟩ := h
    refine ⟨_, (pss_cons (ps_set (i := 1) sc_law.nd rfl (.inl rfl) (pe_call (ok_law_string T) (hr.mono (by decide)) (by rfl) T.g_law_string T.F_law_string.kp T.b_law_string .nil pass0 (pa_cons (pv 0) pa_nil)))
      (pss_cons (ps_set (i := 2) sc_law.nd rfl (.inl rfl) (pe_call (ok_law_due T) (hr.mono (by decide)) (by rfl) T.g_law_due T.F_law_due.kp T.b_law_due .nil pass0 (pa_cons (pv 1) pa_nil)))
      (pss_cons (ps_try_as (i := 4) rfl rfl sc_law.nd rfl rfl ⟨rfl, by decide, .inl T.g_LifeError⟩ takes0 (fun W pn xe tk _ =>
      (pss_one (ps_set (i := 3) sc_law.nd rfl (.inl rfl) (pe_callS (ok_read_text T) (hr.mono (by decide)) (by rfl) T.g_read_text T.F_read_text.kp T.b_read_text (fun σ => passAt tk σ) (pa_cons (pv 1) pa_nil)))))
      (fun a oe cls d pn hz hf => (pss_cons (ps_set (i := 5) sc_law.nd rfl (.inl rfl) (pe_or (pe_callB (call_isE2 T.excC hz hf) (by rfl) T.z_isinstance (by decide +kernel) (pa_cons (pv 4) (pa_cons (pe_glob (v := .ref T.C_InvalidPicture) (by rfl) T.g_InvalidPicture rfl) pa_nil))) (pe_or (pe_callB (call_isE2 T.excC hz hf) (by rfl) T.z_isinstance (by decide +kernel) (pa_cons (pv 4) (pa_cons (pe_glob (v := .ref T.C_InvalidRule) (by rfl) T.g_InvalidRule rfl) pa_nil))) (pe_one (pe_not (pe_callB (call_isE2 T.excC hz hf) (by rfl) T.z_isinstance (by decide +kernel) (pa_cons (pv 4) (pa_cons (pe_bltn (v := .ty "ValueError") (by rfl) T.z_ValueError (by decide +kernel) rfl) pa_nil))))))))
      (pss_one (ps_ret (pe_and (pe_cmpR op_isN (pv 2) pe_non (nomark _)) (pe_and (pe_callB (call_isE2 T.excC hz hf) (by rfl) T.z_isinstance (by decide +kernel) (pa_cons (pv 4) (pa_cons (pe_glob (v := .ref T.C_InvalidText) (by rfl) T.g_InvalidText rfl) pa_nil))) (pe_one (pe_not (pv 5))))))))))
      (pss_one (ps_ret (pe_and (pe_cmpR op_notN (pv 2) pe_non (nomark _)) (pe_and (pe_call (ok_law_cells T) (hr.mono (by decide)) (by rfl) T.g_law_cells T.F_law_cells.kp T.b_law_cells .nil pass0 (pa_cons (pv 3) pa_nil)) (pe_one (pe_cmpR (op_eqD hr.units) (pv 3) (pv 2) (nomark _)))))))))), ?_⟩
    refine ⟨_, rfl, a, ns, rfl, hS, fun H1 z e1 lz smz fw az => ?_⟩
    refine ⟨_, rfl, z, rfl, lz, smz, az, fun H2 e2 hno => ?_, fun H2 p cs e2 hd hC => ?_⟩
    · refine ⟨_, rfl, z, rfl, lz, smz, fw, fun H3 e3 _ => ?_, fun H3 p cs e3 hd _ => (by rw [hno] at hd; cases hd)⟩
      refine ⟨true, T.exm, fun _ x hx => ?_, fun q => Bool.noConfusion q⟩
      refine ⟨_, rfl, rfl, rfl, _, _, false, rfl, fun u e => e, T.kitP, _, rfl, iteF ?_⟩
      refine ⟨_, rfl, rfl, rfl, _, _, false, rfl, fun u e => e, T.kitT, _, rfl, iteF ?_⟩
      refine ⟨_, rfl, rfl, rfl, _, _, true, rfl, fun u e => e, T.kitV, _, rfl, ?_⟩
      refine ⟨_, rfl, rfl, _, rfl, iteT ?_⟩
      refine ⟨_, rfl, rfl, rfl, _, _, true, rfl, fun u e => e, T.kitR, _, rfl, iteT ?_⟩
      exact ⟨_, rfl, _, rfl, q _⟩
    · refine ⟨_, rfl, z, rfl, lz, smz, fw, fun H3 e3 hn => (by rw [hn] at hd; cases hd), fun H3 p3 cs3 e3 hd3 hC3 => ?_⟩
      obtain rfl : cs = cs3 := Option.some.inj (hd.symm.trans hd3)
      refine ⟨_, rfl, rfl, _, rfl, iteT ?_⟩
      refine ⟨_, rfl, p3, cs, rfl, hC3, (due_some hd).1.1, fun H4 e4 => ⟨_, rfl, iteT ?_⟩⟩
      refine ⟨_, rfl, _, rfl, _, _, dp_cells (hC3.up e4), dp_cells ((hC.up e3).up e4), shaped_cells _, shaped_cells _, ?_⟩
      rw [eqv_cells, decide_eq_true rfl]
      exact q _
end
end My
namespace My
open PySem PySem.Spec PyProof.Rows L2 Vx
theorem all_mk {l : PySem.W.OpenLaw} {w : World} {K : PySem.W.Frag} {h : Heap} {mg : Str → Option Value} {fa : Addr} (X : K.In h) (G : h.Ns mainGlobals mg) (hfa : mg "law" = some (.ref fa))
    {f_pattern : Addr} {odpattern anpattern : Option Addr} {slpattern : Array (Option Value)} {ocpattern kVpattern dcpattern pmpattern cdpattern ctpattern : Value}
    {f_moved : Addr} {odmoved anmoved : Option Addr} {slmoved : Array (Option Value)} {ocmoved kVmoved dcmoved pmmoved cdmoved ctmoved : Value}
    {f_home : Addr} {odhome anhome : Option Addr} {slhome : Array (Option Value)} {ochome kVhome dchome pmhome cdhome cthome : Value}
    {f_read_text : Addr} {odread_text anread_text : Option Addr} {slread_text : Array (Option Value)} {ocread_text kVread_text dcread_text pmread_text cdread_text ctread_text : Value}
    {f_cells_of_text : Addr} {odcells_of_text ancells_of_text : Option Addr} {slcells_of_text : Array (Option Value)} {occells_of_text kVcells_of_text dccells_of_text pmcells_of_text cdcells_of_text ctcells_of_text : Value}
    {f_write_text : Addr} {odwrite_text anwrite_text : Option Addr} {slwrite_text : Array (Option Value)} {ocwrite_text kVwrite_text dcwrite_text pmwrite_text cdwrite_text ctwrite_text : Value}
    {f_runs : Addr} {odruns anruns : Option Addr} {slruns : Array (Option Value)} {ocruns kVruns dcruns pmruns cdruns ctruns : Value}
    {f_counted : Addr} {odcounted ancounted : Option Addr} {slcounted : Array (Option Value)} {occounted kVcounted dccounted pmcounted cdcounted ctcounted : Value}
    {f_law_cell : Addr} {odlaw_cell anlaw_cell : Option Addr} {sllaw_cell : Array (Option Value)} {oclaw_cell kVlaw_cell dclaw_cell pmlaw_cell cdlaw_cell ctlaw_cell : Value}
    {f_law_row : Addr} {odlaw_row anlaw_row : Option Addr} {sllaw_row : Array (Option Value)} {oclaw_row kVlaw_row dclaw_row pmlaw_row cdlaw_row ctlaw_row : Value}
    {f_law_integer : Addr} {odlaw_integer anlaw_integer : Option Addr} {sllaw_integer : Array (Option Value)} {oclaw_integer kVlaw_integer dclaw_integer pmlaw_integer cdlaw_integer ctlaw_integer : Value}
    {f_law_cells : Addr} {odlaw_cells anlaw_cells : Option Addr} {sllaw_cells : Array (Option Value)} {oclaw_cells kVlaw_cells dclaw_cells pmlaw_cells cdlaw_cells ctlaw_cells : Value}
    {f_law_some : Addr} {odlaw_some anlaw_some : Option Addr} {sllaw_some : Array (Option Value)} {oclaw_some kVlaw_some dclaw_some pmlaw_some cdlaw_some ctlaw_some : Value}
    {f_law_string : Addr} {odlaw_string anlaw_string : Option Addr} {sllaw_string : Array (Option Value)} {oclaw_string kVlaw_string dclaw_string pmlaw_string cdlaw_string ctlaw_string : Value}
    {f_law_tokens : Addr} {odlaw_tokens anlaw_tokens : Option Addr} {sllaw_tokens : Array (Option Value)} {oclaw_tokens kVlaw_tokens dclaw_tokens pmlaw_tokens cdlaw_tokens ctlaw_tokens : Value}
    {f_law_due : Addr} {odlaw_due anlaw_due : Option Addr} {sllaw_due : Array (Option Value)} {oclaw_due kVlaw_due dclaw_due pmlaw_due cdlaw_due ctlaw_due : Value}
    {f_law : Addr} {odlaw anlaw : Option Addr} {sllaw : Array (Option Value)} {oclaw kVlaw dclaw pmlaw cdlaw ctlaw : Value}
    {uDIGITS : Tok}
    {uROW_END : Tok}
    {uALIVE : Tok}
    {uDEAD : Tok}
    {uMARK : Tok}
    {C_InvalidRule : Addr}
    {C_LifeError : Addr}
    {C_InvalidText : Addr}
    {C_InvalidPicture : Addr}
    (apattern : PySem.W.nsIn K mainGlobals "pattern" = some (some (.ref f_pattern)))
    (lpattern : K.lookup f_pattern = some ⟨ocpattern, odpattern, .func (PySem.W.fnOf "pattern" "pattern" (defArgs s_pattern) (defBody s_pattern) (defScope s_pattern) .none kVpattern dcpattern pmpattern anpattern cdpattern ctpattern), slpattern⟩)
    (cpattern : PySem.W.codeIn K cdpattern "pattern" = true)
    (kpattern : PySem.W.keepIn K (.ref f_pattern) = true)
    (amoved : PySem.W.nsIn K mainGlobals "moved" = some (some (.ref f_moved)))
    (lmoved : K.lookup f_moved = some ⟨ocmoved, odmoved, .func (PySem.W.fnOf "moved" "moved" (defArgs s_moved) (defBody s_moved) (defScope s_moved) .none kVmoved dcmoved pmmoved anmoved cdmoved ctmoved), slmoved⟩)
    (cmoved : PySem.W.codeIn K cdmoved "moved" = true)
    (kmoved : PySem.W.keepIn K (.ref f_moved) = true)
    (ahome : PySem.W.nsIn K mainGlobals "home" = some (some (.ref f_home)))
    (lhome : K.lookup f_home = some ⟨ochome, odhome, .func (PySem.W.fnOf "home" "home" (defArgs s_home) (defBody s_home) (defScope s_home) .none kVhome dchome pmhome anhome cdhome cthome), slhome⟩)
    (chome : PySem.W.codeIn K cdhome "home" = true)
    (khome : PySem.W.keepIn K (.ref f_home) = true)
    (aread_text : PySem.W.nsIn K mainGlobals "read_text" = some (some (.ref f_read_text)))
    (lread_text : K.lookup f_read_text = some ⟨ocread_text, odread_text, .func (PySem.W.fnOf "read_text" "read_text" (defArgs s_read_text) (defBody s_read_text) (defScope s_read_text) .none kVread_text dcread_text pmread_text anread_text cdread_text ctread_text), slread_text⟩)
    (cread_text : PySem.W.codeIn K cdread_text "read_text" = true)
    (kread_text : PySem.W.keepIn K (.ref f_read_text) = true)
    (acells_of_text : PySem.W.nsIn K mainGlobals "_cells_of_text" = some (some (.ref f_cells_of_text)))
    (lcells_of_text : K.lookup f_cells_of_text = some ⟨occells_of_text, odcells_of_text, .func (PySem.W.fnOf "_cells_of_text" "_cells_of_text" (defArgs s_cells_of_text) (defBody s_cells_of_text) (defScope s_cells_of_text) .none kVcells_of_text dccells_of_text pmcells_of_text ancells_of_text cdcells_of_text ctcells_of_text), slcells_of_text⟩)
    (ccells_of_text : PySem.W.codeIn K cdcells_of_text "_cells_of_text" = true)
    (kcells_of_text : PySem.W.keepIn K (.ref f_cells_of_text) = true)
    (awrite_text : PySem.W.nsIn K mainGlobals "write_text" = some (some (.ref f_write_text)))
    (lwrite_text : K.lookup f_write_text = some ⟨ocwrite_text, odwrite_text, .func (PySem.W.fnOf "write_text" "write_text" (defArgs s_write_text) (defBody s_write_text) (defScope s_write_text) .none kVwrite_text dcwrite_text pmwrite_text anwrite_text cdwrite_text ctwrite_text), slwrite_text⟩)
    (cwrite_text : PySem.W.codeIn K cdwrite_text "write_text" = true)
    (kwrite_text : PySem.W.keepIn K (.ref f_write_text) = true)
    (aruns : PySem.W.nsIn K mainGlobals "_runs" = some (some (.ref f_runs)))
    (lruns : K.lookup f_runs = some ⟨ocruns, odruns, .func (PySem.W.fnOf "_runs" "_runs" (defArgs s_runs) (defBody s_runs) (defScope s_runs) .none kVruns dcruns pmruns anruns cdruns ctruns), slruns⟩)
    (cruns : PySem.W.codeIn K cdruns "_runs" = true)
    (kruns : PySem.W.keepIn K (.ref f_runs) = true)
    (acounted : PySem.W.nsIn K mainGlobals "_counted" = some (some (.ref f_counted)))
    (lcounted : K.lookup f_counted = some ⟨occounted, odcounted, .func (PySem.W.fnOf "_counted" "_counted" (defArgs s_counted) (defBody s_counted) (defScope s_counted) .none kVcounted dccounted pmcounted ancounted cdcounted ctcounted), slcounted⟩)
    (ccounted : PySem.W.codeIn K cdcounted "_counted" = true)
    (kcounted : PySem.W.keepIn K (.ref f_counted) = true)
    (alaw_cell : PySem.W.nsIn K mainGlobals "_law_cell" = some (some (.ref f_law_cell)))
    (llaw_cell : K.lookup f_law_cell = some ⟨oclaw_cell, odlaw_cell, .func (PySem.W.fnOf "_law_cell" "_law_cell" (defArgs s_law_cell) (defBody s_law_cell) (defScope s_law_cell) .none kVlaw_cell dclaw_cell pmlaw_cell anlaw_cell cdlaw_cell ctlaw_cell), sllaw_cell⟩)
    (claw_cell : PySem.W.codeIn K cdlaw_cell "_law_cell" = true)
    (klaw_cell : PySem.W.keepIn K (.ref f_law_cell) = true)
    (alaw_row : PySem.W.nsIn K mainGlobals "_law_row" = some (some (.ref f_law_row)))
    (llaw_row : K.lookup f_law_row = some ⟨oclaw_row, odlaw_row, .func (PySem.W.fnOf "_law_row" "_law_row" (defArgs s_law_row) (defBody s_law_row) (defScope s_law_row) .none kVlaw_row dclaw_row pmlaw_row anlaw_row cdlaw_row ctlaw_row), sllaw_row⟩)
    (claw_row : PySem.W.codeIn K cdlaw_row "_law_row" = true)
    (klaw_row : PySem.W.keepIn K (.ref f_law_row) = true)
    (alaw_integer : PySem.W.nsIn K mainGlobals "_law_integer" = some (some (.ref f_law_integer)))
    (llaw_integer : K.lookup f_law_integer = some ⟨oclaw_integer, odlaw_integer, .func (PySem.W.fnOf "_law_integer" "_law_integer" (defArgs s_law_integer) (defBody s_law_integer) (defScope s_law_integer) .none kVlaw_integer dclaw_integer pmlaw_integer anlaw_integer cdlaw_integer ctlaw_integer), sllaw_integer⟩)
    (claw_integer : PySem.W.codeIn K cdlaw_integer "_law_integer" = true)
    (klaw_integer : PySem.W.keepIn K (.ref f_law_integer) = true)
    (alaw_cells : PySem.W.nsIn K mainGlobals "_law_cells" = some (some (.ref f_law_cells)))
    (llaw_cells : K.lookup f_law_cells = some ⟨oclaw_cells, odlaw_cells, .func (PySem.W.fnOf "_law_cells" "_law_cells" (defArgs s_law_cells) (defBody s_law_cells) (defScope s_law_cells) .none kVlaw_cells dclaw_cells pmlaw_cells anlaw_cells cdlaw_cells ctlaw_cells), sllaw_cells⟩)
    (claw_cells : PySem.W.codeIn K cdlaw_cells "_law_cells" = true)
    (klaw_cells : PySem.W.keepIn K (.ref f_law_cells) = true)
    (alaw_some : PySem.W.nsIn K mainGlobals "_law_some" = some (some (.ref f_law_some)))
    (llaw_some : K.lookup f_law_some = some ⟨oclaw_some, odlaw_some, .func (PySem.W.fnOf "_law_some" "_law_some" (defArgs s_law_some) (defBody s_law_some) (defScope s_law_some) .none kVlaw_some dclaw_some pmlaw_some anlaw_some cdlaw_some ctlaw_some), sllaw_some⟩)
    (claw_some : PySem.W.codeIn K cdlaw_some "_law_some" = true)
    (klaw_some : PySem.W.keepIn K (.ref f_law_some) = true)
    (alaw_string : PySem.W.nsIn K mainGlobals "_law_string" = some (some (.ref f_law_string)))
    (llaw_string : K.lookup f_law_string = some ⟨oclaw_string, odlaw_string, .func (PySem.W.fnOf "_law_string" "_law_string" (defArgs s_law_string) (defBody s_law_string) (defScope s_law_string) .none kVlaw_string dclaw_string pmlaw_string anlaw_string cdlaw_string ctlaw_string), sllaw_string⟩)
    (claw_string : PySem.W.codeIn K cdlaw_string "_law_string" = true)
    (klaw_string : PySem.W.keepIn K (.ref f_law_string) = true)
    (alaw_tokens : PySem.W.nsIn K mainGlobals "_law_tokens" = some (some (.ref f_law_tokens)))
    (llaw_tokens : K.lookup f_law_tokens = some ⟨oclaw_tokens, odlaw_tokens, .func (PySem.W.fnOf "_law_tokens" "_law_tokens" (defArgs s_law_tokens) (defBody s_law_tokens) (defScope s_law_tokens) .none kVlaw_tokens dclaw_tokens pmlaw_tokens anlaw_tokens cdlaw_tokens ctlaw_tokens), sllaw_tokens⟩)
    (claw_tokens : PySem.W.codeIn K cdlaw_tokens "_law_tokens" = true)
    (klaw_tokens : PySem.W.keepIn K (.ref f_law_tokens) = true)
    (alaw_due : PySem.W.nsIn K mainGlobals "_law_due" = some (some (.ref f_law_due)))
    (llaw_due : K.lookup f_law_due = some ⟨oclaw_due, odlaw_due, .func (PySem.W.fnOf "_law_due" "_law_due" (defArgs s_law_due) (defBody s_law_due) (defScope s_law_due) .none kVlaw_due dclaw_due pmlaw_due anlaw_due cdlaw_due ctlaw_due), sllaw_due⟩)
    (claw_due : PySem.W.codeIn K cdlaw_due "_law_due" = true)
    (klaw_due : PySem.W.keepIn K (.ref f_law_due) = true)
    (alaw : PySem.W.nsIn K mainGlobals "law" = some (some (.ref f_law)))
    (llaw : K.lookup f_law = some ⟨oclaw, odlaw, .func (PySem.W.fnOf "law" "law" (defArgs s_law) (defBody s_law) (defScope s_law) .none kVlaw dclaw pmlaw anlaw cdlaw ctlaw), sllaw⟩)
    (claw : PySem.W.codeIn K cdlaw "law" = true)
    (klaw : PySem.W.keepIn K (.ref f_law) = true)
    (zsorted : PySem.W.nsIn K mainGlobals "sorted" = some none)
    (zset : PySem.W.nsIn K mainGlobals "set" = some none)
    (zmin : PySem.W.nsIn K mainGlobals "min" = some none)
    (zint : PySem.W.nsIn K mainGlobals "int" = some none)
    (zrange : PySem.W.nsIn K mainGlobals "range" = some none)
    (zstr : PySem.W.nsIn K mainGlobals "str" = some none)
    (zlen : PySem.W.nsIn K mainGlobals "len" = some none)
    (zabs : PySem.W.nsIn K mainGlobals "abs" = some none)
    (zisinstance : PySem.W.nsIn K mainGlobals "isinstance" = some none)
    (zbool : PySem.W.nsIn K mainGlobals "bool" = some none)
    (zlist : PySem.W.nsIn K mainGlobals "list" = some none)
    (ztuple : PySem.W.nsIn K mainGlobals "tuple" = some none)
    (zValueError : PySem.W.nsIn K mainGlobals "ValueError" = some none)
    (xDIGITS : PySem.W.nsIn K mainGlobals "DIGITS" = some (some (.str (Str.ofString "0123456789") uDIGITS)))
    (xROW_END : PySem.W.nsIn K mainGlobals "ROW_END" = some (some (.str (Str.ofString "/") uROW_END)))
    (xALIVE : PySem.W.nsIn K mainGlobals "ALIVE" = some (some (.str (Str.ofString "O") uALIVE)))
    (xDEAD : PySem.W.nsIn K mainGlobals "DEAD" = some (some (.str (Str.ofString ".") uDEAD)))
    (xMARK : PySem.W.nsIn K mainGlobals "MARK" = some (some (.str (Str.ofString "!") uMARK)))
    (aIR : PySem.W.nsIn K mainGlobals "InvalidRule" = some (some (.ref C_InvalidRule)))
    (aLE : PySem.W.nsIn K mainGlobals "LifeError" = some (some (.ref C_LifeError)))
    (aIT : PySem.W.nsIn K mainGlobals "InvalidText" = some (some (.ref C_InvalidText)))
    (aIP : PySem.W.nsIn K mainGlobals "InvalidPicture" = some (some (.ref C_InvalidPicture)))
    (xIR : PySem.W.excIn K C_InvalidText [.type "ValueError", .type "Exception", .type "BaseException", .type "object"] "ValueError.__new__" = true)
    (kIR : PySem.W.keepIn K (.ref C_InvalidText) = true)
    (bIR : PySem.W.subIn K (.ref C_InvalidText) (.type "BaseException") = some true)
    (tIR : PySem.W.typeIn K (.ref C_InvalidText) = some (.type "type"))
    (sII : PySem.W.subIn K (.ref C_InvalidText) (.ref C_InvalidText) = some true)
    (sIT : PySem.W.subIn K (.ref C_InvalidText) (.ref C_InvalidRule) = some false)
    (sIP : PySem.W.subIn K (.ref C_InvalidText) (.ref C_InvalidPicture) = some false)
    (sIL : PySem.W.subIn K (.ref C_InvalidText) (.ref C_LifeError) = some true)
    (sIV : PySem.W.subIn K (.ref C_InvalidText) (.type "ValueError") = some true)
    (oInvalidRule : PySem.W.isClsIn K C_InvalidRule = true)
    (yInvalidRule : PySem.W.typeIn K (.ref C_InvalidRule) = some (.type "type"))
    (oInvalidText : PySem.W.isClsIn K C_InvalidText = true)
    (yInvalidText : PySem.W.typeIn K (.ref C_InvalidText) = some (.type "type"))
    (oInvalidPicture : PySem.W.isClsIn K C_InvalidPicture = true)
    (yInvalidPicture : PySem.W.typeIn K (.ref C_InvalidPicture) = some (.type "type"))
    (bLE : PySem.W.subIn K (.ref C_LifeError) (.type "BaseException") = some true)
    (dLE : PySem.W.hasDictIn K C_LifeError = true)
    (tLE : PySem.W.typeIn K (.ref C_LifeError) = some (.type "type"))
    (eHg : PySem.W.findIn K (.ref C_InvalidText) "__getattribute__" = some (some (.builtin "BaseException.__getattribute__")))
    (eHk : PySem.W.findIn K (.ref C_InvalidText) "__getattr__" = some none)
    (eHd : PySem.W.hasDictIn K C_InvalidText = true)
    (eHa : PySem.W.findIn K (.ref C_InvalidText) "__class__" = some (some (.builtin "object.__class__")))
    (eHn : PySem.W.specialIn K (.builtin "object.__class__") "__get__" = some (some (.builtin "getset_descriptor.__get__")))
    (eHt : PySem.W.takesIn K (.builtin "object.__class__") = some true)
    (eHm : PySem.W.mroIn K C_InvalidText (.type "object") = some true) :
    ∃ fd : FuncData, (∀ (s : Shared) (v : Value), BindsTo s fd ⟨[v], []⟩ [("script", v)]) ∧ ∀ base : Heap, K.In base → base.Ns mainGlobals mg → FnOk l.prog w K mg base CX0 6 fa fd ["script"] (sp_law K) := by
  have e := hfa.symm.trans (PySem.W.mg_of X G alaw)
  cases e
  have F_pattern := fun_mk (st := s_pattern) lpattern cpattern kpattern
  have b_pattern := F_pattern.binds (ps := ["cells"]) fun _ _ _ _ _ _ us hl => match us, hl with | [_], _ => rfl
  have F_moved := fun_mk (st := s_moved) lmoved cmoved kmoved
  have b_moved := F_moved.binds (ps := ["cells", "rows", "columns"]) fun _ _ _ _ _ _ us hl => match us, hl with | [_, _, _], _ => rfl
  have F_home := fun_mk (st := s_home) lhome chome khome
  have b_home := F_home.binds (ps := ["cells"]) fun _ _ _ _ _ _ us hl => match us, hl with | [_], _ => rfl
  have F_read_text := fun_mk (st := s_read_text) lread_text cread_text kread_text
  have b_read_text := F_read_text.binds (ps := ["string"]) fun _ _ _ _ _ _ us hl => match us, hl with | [_], _ => rfl
  have F_cells_of_text := fun_mk (st := s_cells_of_text) lcells_of_text ccells_of_text kcells_of_text
  have b_cells_of_text := F_cells_of_text.binds (ps := ["string"]) fun _ _ _ _ _ _ us hl => match us, hl with | [_], _ => rfl
  have F_write_text := fun_mk (st := s_write_text) lwrite_text cwrite_text kwrite_text
  have b_write_text := F_write_text.binds (ps := ["cells"]) fun _ _ _ _ _ _ us hl => match us, hl with | [_], _ => rfl
  have F_runs := fun_mk (st := s_runs) lruns cruns kruns
  have b_runs := F_runs.binds (ps := ["living"]) fun _ _ _ _ _ _ us hl => match us, hl with | [_], _ => rfl
  have F_counted := fun_mk (st := s_counted) lcounted ccounted kcounted
  have b_counted := F_counted.binds (ps := ["number", "sign"]) fun _ _ _ _ _ _ us hl => match us, hl with | [_, _], _ => rfl
  have F_law_cell := fun_mk (st := s_law_cell) llaw_cell claw_cell klaw_cell
  have b_law_cell := F_law_cell.binds (ps := ["script", "k"]) fun _ _ _ _ _ _ us hl => match us, hl with | [_, _], _ => rfl
  have F_law_row := fun_mk (st := s_law_row) llaw_row claw_row klaw_row
  have b_law_row := F_law_row.binds (ps := ["cell", "count", "bound"]) fun _ _ _ _ _ _ us hl => match us, hl with | [_, _, _], _ => rfl
  have F_law_integer := fun_mk (st := s_law_integer) llaw_integer claw_integer klaw_integer
  have b_law_integer := F_law_integer.binds (ps := ["value"]) fun _ _ _ _ _ _ us hl => match us, hl with | [_], _ => rfl
  have F_law_cells := fun_mk (st := s_law_cells) llaw_cells claw_cells klaw_cells
  have b_law_cells := F_law_cells.binds (ps := ["value"]) fun _ _ _ _ _ _ us hl => match us, hl with | [_], _ => rfl
  have F_law_some := fun_mk (st := s_law_some) llaw_some claw_some klaw_some
  have b_law_some := F_law_some.binds (ps := ["cell", "count", "height", "width"]) fun _ _ _ _ _ _ us hl => match us, hl with | [_, _, _, _], _ => rfl
  have F_law_string := fun_mk (st := s_law_string) llaw_string claw_string klaw_string
  have b_law_string := F_law_string.binds (ps := ["script"]) fun _ _ _ _ _ _ us hl => match us, hl with | [_], _ => rfl
  have F_law_tokens := fun_mk (st := s_law_tokens) llaw_tokens claw_tokens klaw_tokens
  have b_law_tokens := F_law_tokens.binds (ps := ["text"]) fun _ _ _ _ _ _ us hl => match us, hl with | [_], _ => rfl
  have F_law_due := fun_mk (st := s_law_due) llaw_due claw_due klaw_due
  have b_law_due := F_law_due.binds (ps := ["text"]) fun _ _ _ _ _ _ us hl => match us, hl with | [_], _ => rfl
  have F_law := fun_mk (st := s_law) llaw claw klaw
  have b_law := F_law.binds (ps := ["script"]) fun _ _ _ _ _ _ us hl => match us, hl with | [_], _ => rfl
  let T : Txt K mg := {
    f_pattern := f_pattern,
    d_pattern := _,
    F_pattern := F_pattern,
    b_pattern := b_pattern,
    g_pattern := PySem.W.mg_of X G apattern,
    f_moved := f_moved,
    d_moved := _,
    F_moved := F_moved,
    b_moved := b_moved,
    g_moved := PySem.W.mg_of X G amoved,
    f_home := f_home,
    d_home := _,
    F_home := F_home,
    b_home := b_home,
    g_home := PySem.W.mg_of X G ahome,
    f_read_text := f_read_text,
    d_read_text := _,
    F_read_text := F_read_text,
    b_read_text := b_read_text,
    g_read_text := PySem.W.mg_of X G aread_text,
    f_cells_of_text := f_cells_of_text,
    d_cells_of_text := _,
    F_cells_of_text := F_cells_of_text,
    b_cells_of_text := b_cells_of_text,
    g_cells_of_text := PySem.W.mg_of X G acells_of_text,
    f_write_text := f_write_text,
    d_write_text := _,
    F_write_text := F_write_text,
    b_write_text := b_write_text,
    g_write_text := PySem.W.mg_of X G awrite_text,
    f_runs := f_runs,
    d_runs := _,
    F_runs := F_runs,
    b_runs := b_runs,
    g_runs := PySem.W.mg_of X G aruns,
    f_counted := f_counted,
    d_counted := _,
    F_counted := F_counted,
    b_counted := b_counted,
    g_counted := PySem.W.mg_of X G acounted,
    f_law_cell := f_law_cell,
    d_law_cell := _,
    F_law_cell := F_law_cell,
    b_law_cell := b_law_cell,
    g_law_cell := PySem.W.mg_of X G alaw_cell,
    f_law_row := f_law_row,
    d_law_row := _,
    F_law_row := F_law_row,
    b_law_row := b_law_row,
    g_law_row := PySem.W.mg_of X G alaw_row,
    f_law_integer := f_law_integer,
    d_law_integer := _,
    F_law_integer := F_law_integer,
    b_law_integer := b_law_integer,
    g_law_integer := PySem.W.mg_of X G alaw_integer,
    f_law_cells := f_law_cells,
    d_law_cells := _,
    F_law_cells := F_law_cells,
    b_law_cells := b_law_cells,
    g_law_cells := PySem.W.mg_of X G alaw_cells,
    f_law_some := f_law_some,
    d_law_some := _,
    F_law_some := F_law_some,
    b_law_some := b_law_some,
    g_law_some := PySem.W.mg_of X G alaw_some,
    f_law_string := f_law_string,
    d_law_string := _,
    F_law_string := F_law_string,
    b_law_string := b_law_string,
    g_law_string := PySem.W.mg_of X G alaw_string,
    f_law_tokens := f_law_tokens,
    d_law_tokens := _,
    F_law_tokens := F_law_tokens,
    b_law_tokens := b_law_tokens,
    g_law_tokens := PySem.W.mg_of X G alaw_tokens,
    f_law_due := f_law_due,
    d_law_due := _,
    F_law_due := F_law_due,
    b_law_due := b_law_due,
    g_law_due := PySem.W.mg_of X G alaw_due,
    f_law := fa,
    d_law := _,
    F_law := F_law,
    b_law := b_law,
    g_law := PySem.W.mg_of X G alaw,
    z_sorted := PySem.W.mg_none_of X G zsorted,
    z_set := PySem.W.mg_none_of X G zset,
    z_min := PySem.W.mg_none_of X G zmin,
    z_int := PySem.W.mg_none_of X G zint,
    z_range := PySem.W.mg_none_of X G zrange,
    z_str := PySem.W.mg_none_of X G zstr,
    z_len := PySem.W.mg_none_of X G zlen,
    z_abs := PySem.W.mg_none_of X G zabs,
    z_isinstance := PySem.W.mg_none_of X G zisinstance,
    z_bool := PySem.W.mg_none_of X G zbool,
    z_list := PySem.W.mg_none_of X G zlist,
    z_tuple := PySem.W.mg_none_of X G ztuple,
    z_ValueError := PySem.W.mg_none_of X G zValueError,
    c_DIGITS := ⟨_, PySem.W.mg_of X G xDIGITS, ⟨_, rfl⟩⟩,
    c_ROW_END := ⟨_, PySem.W.mg_of X G xROW_END, ⟨_, rfl⟩⟩,
    c_ALIVE := ⟨_, PySem.W.mg_of X G xALIVE, ⟨_, rfl⟩⟩,
    c_DEAD := ⟨_, PySem.W.mg_of X G xDEAD, ⟨_, rfl⟩⟩,
    c_MARK := ⟨_, PySem.W.mg_of X G xMARK, ⟨_, rfl⟩⟩,
    C_InvalidRule := C_InvalidRule,
    C_LifeError := C_LifeError,
    C_InvalidText := C_InvalidText,
    C_InvalidPicture := C_InvalidPicture,
    g_InvalidRule := PySem.W.mg_of X G aIR,
    g_LifeError := PySem.W.mg_of X G aLE,
    g_InvalidText := PySem.W.mg_of X G aIT,
    g_InvalidPicture := PySem.W.mg_of X G aIP,
    xIR := xIR,
    kIR := kIR,
    bIR := bIR,
    tIR := tIR,
    exm := PySem.W.exm_ref bLE dLE tLE sIL,
    kitT := kit_sub oInvalidRule yInvalidRule sII sIT,
    kitP := kit_sub oInvalidPicture yInvalidPicture sII sIP,
    kitR := kit_sub oInvalidText yInvalidText sII sII,
    kitV := kit_ve sIV,
    excC := ⟨eHg, eHk, bIR, eHd, eHa, eHn, eHt, eHm⟩ }
  exact ⟨_, fun s v => .of_eq rfl, fun base _ _ => ok_law T⟩
end My
open PySem PySem.W PyProof.Rows
set_option maxHeartbeats 0 in
theorem PySem.Challenge.cw_longlife_k07_strings_that_are_no_run_tex_holds : PySem.Challenge.rw_longlife_k07_strings_that_are_no_run_tex.Holds := by
  w_on; o_law; k_head; (case hw => w_witness2)
  k_fill
  refine L2.walk_of (l := PySem.Challenge.rw_longlife_k07_strings_that_are_no_run_tex) (n := 63) (k := 6) (x := "script") (CX := fun _ => L2.CX0) (sp := fun w => My.sp_law _) rfl (by decide) rfl ⟨rfl, by decide, by decide⟩ (fun w h Y => PySem.W.kIn_of Y) ?F (fun _ _ a ns hl _ hS => ⟨a, ns, rfl, hS, hl, fun _ => rfl⟩) (fun _ _ _ _ _ h => h)
  case F =>
    intro w mg fa h KX G hmg
    refine' My.all_mk KX G hmg ?apattern ?lpattern ?cpattern ?kpattern ?amoved ?lmoved ?cmoved ?kmoved ?ahome ?lhome ?chome ?khome ?aread_text ?lread_text ?cread_text ?kread_text ?acells_of_text ?lcells_of_text ?ccells_of_text ?kcells_of_text ?awrite_text ?lwrite_text ?cwrite_text ?kwrite_text ?aruns ?lruns ?cruns ?kruns ?acounted ?lcounted ?ccounted ?kcounted ?alaw_cell ?llaw_cell ?claw_cell ?klaw_cell ?alaw_row ?llaw_row ?claw_row ?klaw_row ?alaw_integer ?llaw_integer ?claw_integer ?klaw_integer ?alaw_cells ?llaw_cells ?claw_cells ?klaw_cells ?alaw_some ?llaw_some ?claw_some ?klaw_some ?alaw_string ?llaw_string ?claw_string ?klaw_string ?alaw_tokens ?llaw_tokens ?claw_tokens ?klaw_tokens ?alaw_due ?llaw_due ?claw_due ?klaw_due ?alaw ?llaw ?claw ?klaw ?zsorted ?zset ?zmin ?zint ?zrange ?zstr ?zlen ?zabs ?zisinstance ?zbool ?zlist ?ztuple ?zValueError ?xDIGITS ?xROW_END ?xALIVE ?xDEAD ?xMARK ?aIR ?aLE ?aIT ?aIP ?xIR ?kIR ?bIR ?tIR ?sII ?sIT ?sIP ?sIL ?sIV ?oInvalidRule ?yInvalidRule ?oInvalidText ?yInvalidText ?oInvalidPicture ?yInvalidPicture ?bLE ?dLE ?tLE ?eHg ?eHk ?eHd ?eHa ?eHn ?eHt ?eHm
    (case apattern => k_is)
    (case lpattern => k_is)
    (case cpattern => k_is)
    (case kpattern => k_is)
    (case amoved => k_is)
    (case lmoved => k_is)
    (case cmoved => k_is)
    (case kmoved => k_is)
    (case ahome => k_is)
    (case lhome => k_is)
    (case chome => k_is)
    (case khome => k_is)
    (case aread_text => k_is)
    (case lread_text => k_is)
    (case cread_text => k_is)
    (case kread_text => k_is)
    (case acells_of_text => k_is)
    (case lcells_of_text => k_is)
    (case ccells_of_text => k_is)
    (case kcells_of_text => k_is)
    (case awrite_text => k_is)
    (case lwrite_text => k_is)
    (case cwrite_text => k_is)
    (case kwrite_text => k_is)
    (case aruns => k_is)
    (case lruns => k_is)
    (case cruns => k_is)
    (case kruns => k_is)
    (case acounted => k_is)
    (case lcounted => k_is)
    (case ccounted => k_is)
    (case kcounted => k_is)
    (case alaw_cell => k_is)
    (case llaw_cell => k_is)
    (case claw_cell => k_is)
    (case klaw_cell => k_is)
    (case alaw_row => k_is)
    (case llaw_row => k_is)
    (case claw_row => k_is)
    (case klaw_row => k_is)
    (case alaw_integer => k_is)
    (case llaw_integer => k_is)
    (case claw_integer => k_is)
    (case klaw_integer => k_is)
    (case alaw_cells => k_is)
    (case llaw_cells => k_is)
    (case claw_cells => k_is)
    (case klaw_cells => k_is)
    (case alaw_some => k_is)
    (case llaw_some => k_is)
    (case claw_some => k_is)
    (case klaw_some => k_is)
    (case alaw_string => k_is)
    (case llaw_string => k_is)
    (case claw_string => k_is)
    (case klaw_string => k_is)
    (case alaw_tokens => k_is)
    (case llaw_tokens => k_is)
    (case claw_tokens => k_is)
    (case klaw_tokens => k_is)
    (case alaw_due => k_is)
    (case llaw_due => k_is)
    (case claw_due => k_is)
    (case klaw_due => k_is)
    (case alaw => k_is)
    (case llaw => k_is)
    (case claw => k_is)
    (case klaw => k_is)
    (case zsorted => k_is)
    (case zset => k_is)
    (case zmin => k_is)
    (case zint => k_is)
    (case zrange => k_is)
    (case zstr => k_is)
    (case zlen => k_is)
    (case zabs => k_is)
    (case zisinstance => k_is)
    (case zbool => k_is)
    (case zlist => k_is)
    (case ztuple => k_is)
    (case zValueError => k_is)
    (case xDIGITS => k_is)
    (case xROW_END => k_is)
    (case xALIVE => k_is)
    (case xDEAD => k_is)
    (case xMARK => k_is)
    (case aIR => k_is)
    (case aLE => k_is)
    (case aIT => k_is)
    (case aIP => k_is)
    (case xIR => k_exc)
    (case kIR => k_is)
    (case bIR => k_is)
    (case tIR => k_is)
    (case sII => k_is)
    (case sIT => k_is)
    (case sIP => k_is)
    (case sIL => k_is)
    (case sIV => k_is)
    (case oInvalidRule => k_is)
    (case yInvalidRule => k_is)
    (case oInvalidText => k_is)
    (case yInvalidText => k_is)
    (case oInvalidPicture => k_is)
    (case yInvalidPicture => k_is)
    (case bLE => k_is)
    (case dLE => k_is)
    (case tLE => k_is)
    (case eHg => k_is)
    (case eHk => k_is)
    (case eHd => k_is)
    (case eHa => k_is)
    (case eHn => k_is)
    (case eHt => k_is)
    (case eHm => k_is)
