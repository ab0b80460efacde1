import PyProof.Rows.All
import Wide.All
import OpenK.AllK
import Wide.FinOn
import HandS.ForMost
import HandS.Strs
import HandS.SetFor
import HandS.OwnEq
import HandS.SlotsOwn
import HandS.IsInst
import HandS.Wide
import HandS.Style
import HandS.Steps
import HandS.Walk
import HandS.TupSets
import HandS.SortRule
import PyProof.Rows.AssignMoreSeq
import HandS.NoneIn
import HandS.Deep
import PyProof.Rows.RegStrFacts
import HandS.DictTup
import HandS.Conv
import HandS.WideBits
import KE.OsArith
import PyProof.Rows.StrIntSpec
import KE.KxField
import HandS.FStr
import PyProof.Rows.RegReprOcc
import HandS.DictComp
import KE.DataMinMax
import KE.DataFind
import HandS.Exc
import HandS.TryOnly
import HandS.ExcOwn
import HandS.WordsExc
import HandS.RaiseMore
import HandS.ExcIs
import HandS.Comp
import KE.GoesEnum
import KE.GoesMore
import HandS.TupLen
import HandS.SortKw
import HandS.Gcd
import KE.KMathGC
import KE.SortData
import HandS.ListItems
import PySem.Challenge.RW_longlife_k23_censuses
set_option Elab.async false
set_option linter.all false
set_option maxRecDepth 100000
set_option maxHeartbeats 4000000
namespace Vx
open PySem PySem.Spec PyProof.Rows L2
/-! ### heaps that grow -/
theorem newS {H : Hp} {p : Addr} {o : HO} (n : H p = none) : Same H (upd H p o) := fun b x e => by
  rw [upd_ne (ne_of_none e n)]
  exact e
theorem mutS {H H' : Hp} {p : Addr} {o : HO} (e : Same H H') (n : H p = none) : Same H (upd H' p o) := fun b x hb => by
  rw [upd_ne (ne_of_none hb n)]
  exact e b x hb
theorem getS {H H' : Hp} {a : Addr} {o : HO} (e : Same H H') (h : H a = some o) : H' a = some o := e a o h
theorem tupS {K : PySem.W.Frag} {H H' : Hp} {a : Addr} {xs : List V} (e : Same H H') (h : SqT K H a xs) : SqT K H' a xs := by
  rcases h with (h | ⟨o, h⟩) | h
  · exact .inl (.inl (e _ _ h))
  · exact .inl (.inr ⟨o, e _ _ h⟩)
  · exact .inr h
theorem lst_of {K : PySem.W.Frag} {H : Hp} {a : Addr} {xs : List V} (h : H a = some (.lst xs)) : SqL K H a xs := .inl (.inl h)
theorem tup_of {K : PySem.W.Frag} {H : Hp} {a : Addr} {xs : List V} (h : H a = some (.tup xs)) : SqT K H a xs := .inl (.inl h)
theorem neS {H H' : Hp} {a p : Addr} {o : HO} (h : H a = some o) (e : Same H H') (n : H' p = none) : a ≠ p := ne_of_none (e a o h) n
theorem backS {H H' : Hp} {p : Addr} (e : Same H H') (n : H' p = none) : H p = none := Same.free e n
theorem gen_e {H H1 : Hp} {p : Addr} {o : HO} (q : upd H p o = H1) (n : H p = none) : Same H H1 ∧ H1 p = some o := by
  subst q
  exact ⟨newS n, upd_same⟩
/-! ### calls of built-ins, one way each -/
section
variable {X : Cx}
theorem call_intI : CallR X (.type "int") (fun xs H Q => ∃ i, xs = [.int i] ∧ Q (.int i) H) := fun pins s σ H xs us Q I r h => call_int1 pins s σ H xs us Q I r (.inl h)
theorem call_tupL : CallR X (.type "tuple") (fun xs H Q => ∃ p ys, xs = [.ref p] ∧ SqL X.K H p ys ∧ ∀ l, H l = none → Q (.ref l) (upd H l (.tup ys))) := fun pins s σ H xs us Q I r h => by
  obtain ⟨p, ys, e, hs, q⟩ := h
  exact call_tuple_of pins s σ H xs us Q I r ⟨p, ys, e, .inl ⟨hs, q⟩⟩
theorem call_lenL : CallR X (.builtin "len") (fun xs H Q => ∃ p ys, xs = [.ref p] ∧ SqL X.K H p ys ∧ Q (.int ys.length) H) := fun pins s σ H xs us Q I r h => by
  obtain ⟨p, ys, e, hs, q⟩ := h
  exact call_len_seq pins s σ H xs us Q I r ⟨p, ys, e, .inl hs, q⟩
theorem call_lenU : CallR X (.builtin "len") (fun xs H Q => ∃ p ys, xs = [.ref p] ∧ SqT X.K H p ys ∧ Q (.int ys.length) H) := fun pins s σ H xs us Q I r h => by
  obtain ⟨p, ys, e, hs, q⟩ := h
  exact call_len_seq pins s σ H xs us Q I r ⟨p, ys, e, .inr hs, q⟩
theorem call_listL : CallR X (.type "list") (fun xs H Q => ∃ p ys, xs = [.ref p] ∧ SqL X.K H p ys ∧ ∀ l, H l = none → Q (.ref l) (upd H l (.lst ys))) := fun pins s σ H xs us Q I r h => by
  obtain ⟨p, ys, e, hs, q⟩ := h
  exact call_list_of pins s σ H xs us Q I r ⟨p, ys, e, .inl hs, q⟩
/-- a class of the text is no built-in type -/
theorem op_isCT : OpR X (compareOp .Is) (fun x y H Q => ∃ a n, x = V.ref a ∧ y = V.ty n ∧ Q (.bl false) H) := by
  intro pins s σ H x y v u Q I rx ry h
  obtain ⟨a, n, rfl, rfl, q⟩ := h
  cases (show v = Value.ref a from rx)
  cases (show u = Value.type n from ry)
  exact wpAny_is_other rfl (fun z => by cases z) ⟨.bl false, H, I, rfl, q⟩
theorem looks_ty {M : Model} {s : Shared} {u : Value} {T : String} (h : s.TypeIs u T) : PySem.W.Looks M s.heap (typeOf u) (.type T) := by
  unfold Shared.TypeIs at h
  split at h
  · obtain ⟨o, ho, hc⟩ := h
    exact fun A Q E s' k q => wpAny_typeOf_ref (k _ _ ho) (by rw [hc]; exact q)
  · exact PySem.W.Looks.of_pure h
/-- x == y by the text's own __eq__; y an instance of that class, or of a built-in type -/
def rEqOwn (K : PySem.W.Frag) (C : Addr) (sp : Sp) (E : XK) : R2 := fun x y H Q => ∃ a dx fs, x = .ref a ∧ H a = some (.ins C dx fs) ∧
  ((∃ b dy gs, y = .ref b ∧ H b = some (.ins C dy gs)) ∨ ∃ T, TyB K H y T ∧ PySem.W.notFirst K C (.type T) = true) ∧ sp [x, y] H Q E
theorem op_eqOwn {CX : CXT} {C g : Addr} {n : Nat} {sp : Sp} {E : XK} (hs : PySem.W.findIn X.K (.ref C) "__eq__" = some (some (.ref g))) (hf : PySem.W.isFn X.K (.ref g) = true)
    (F : FnR X.prog X.w X.K X.mg X.base CX n g sp) (hr : Room n X.A) (hx : Passes CX X E) : OpR X (compareOp .Eq) (rEqOwn X.K C sp E) := by
  intro pins s σ H x y v u Q I rx ry h
  obtain ⟨a, dx, fs, rfl, ha, hy, q⟩ := h
  cases (show v = Value.ref a from rx)
  obtain ⟨mA, O, _⟩ := ins_get I.hok ha
  obtain ⟨od, J, _⟩ := O.look
  obtain ⟨m, hF⟩ := I.fr
  show wpAny (model X.prog X.w) X.A (richCompare .Eq (.ref a) u) (EP X pins σ Q) X.xe s
  have fin : wpAny (model X.prog X.w) X.A (call (.ref g) [.ref a, u]) (PySem.W.CmpBack (EP X pins σ Q)) X.xe s := by
    refine wpAny_mono (wpAny_call (run_fnR (us := [.ref a, u]) (vs := [.ref a, y]) F hr hx I (.cons rfl (.cons ry .nil)) q)) (fun w s' z => ?_) fun _ _ x => x
    obtain ⟨z', H', I', rz, qz⟩ := z
    exact SlX.cmpback rz ⟨z', H', I', rz, qz⟩
  rcases hy with ⟨b, dy, gs, rfl, hb⟩ | ⟨T, ty, nf⟩
  · cases (show u = Value.ref b from ry)
    obtain ⟨mB, O2, _⟩ := ins_get I.hok hb
    obtain ⟨od2, J2, _⟩ := O2.look
    exact PySem.W.cmp_K (op := .Eq) (tb := .ref C) hr.units0 hF I.ok.mod.kin J J2.type (by simp [PySem.W.notFirst]) hs hf fin
  · exact PySem.W.cmp_K (op := .Eq) (tb := .type T) hr.units0 hF I.ok.mod.kin J (looks_ty (ty.is I ry)) nf hs hf fin
theorem nf_str {K : PySem.W.Frag} {C : Addr} : PySem.W.notFirst K C (.type "str") = true := by rfl
theorem nf_tup {K : PySem.W.Frag} {C : Addr} : PySem.W.notFirst K C (.type "tuple") = true := by rfl
end
end Vx
namespace Vx
open PySem PySem.Spec PyProof.Rows L2
/-! ### set(xs) of a list of ints -/
abbrev bareSet (w : World) : Obj := { cls := .type "set", dict := none, data := .set #[] 0 (.fresh 0 0 (!w.params.followText "set-order")) }
section
variable {P : Program} {w : World} {A : Around} {E : Value → Shared → Prop} {s : Shared}
theorem set_of_list {l : Addr} {its : Array Value} (ns : List Int) {Q : Value → Shared → Prop} (calm : A.handled = none) (hl : s.heap.IsList l its) (hi : IntsAre its.toList ns) (room : ns.length + 1 < scanBound)
    (k : ∀ (g : Heap) (t c : Nat), SetR w g s.heap.objs.size (fun j => decide (j ∈ ns)) c → c ≤ ns.length → (∀ b o, s.heap.get? b = some o → g.get? b = some o) → Q (.ref s.heap.objs.size) { s with heap := g, toks := t }) :
    wpAny (model P w) A (call (.type "set") [.ref l]) Q E s := by
  have len : its.size = ns.length := by
    have z := IntsAre.length hi
    rwa [Array.length_toList] at z
  obtain ⟨c0, tl, hmro⟩ := F.called_set.mro
  have hmade := F.called_set.made
  have hsub := F.called_set.sub
  refine wpAny_call (codeAny_of_tree ?_)
  show wpAny _ _ (callAny (.type "set") _) _ _ _
  refine wpAny_pure ⟨Code.quiet_builtin _ (by decide +kernel), codeAny_builtin F.entry_type_call ?_⟩
  rw [Around.under_plain (weight_type_call_type "set" [.ref l] []) rfl]
  have n1 := F.called_set.notType
  have n2 := F.called_set.canCreate
  have n3 := F.typeCall_set_1 (.ref l)
  repeat (any_goals (first | assumption | wp_step))
  refine codeAny_mono (code_set_led1 (.ref l) (E := E) (Q₁ := fun ob s1 => ob = .ref s.heap.objs.size ∧ s1 = { s with heap := s.heap.push (bareSet w) }) ⟨rfl, rfl⟩) fun r s1 hr => ?_
  rcases r with e | fl
  · exact hr
  cases fl with
  | ret ob =>
    obtain ⟨rfl, rfl⟩ := hr
    have at0 : (s.heap.push (bareSet w)).get? s.heap.objs.size = some (bareSet w) := Heap.get?_push_size _ rfl
    have ty0 : Shared.TypeIs { s with heap := s.heap.push (bareSet w) } (.ref s.heap.objs.size) "set" := ⟨_, at0, rfl⟩
    have i1 := F.called_set.init.lookup
    have i2 := F.called_set.init.bind (.ref s.heap.objs.size)
    repeat (any_goals (first | assumption | wp_step))
    refine codeAny_mono (codeAny_call_builtin (R := wants (fun v s2 => v = .none ∧ ∃ g t c, s2 = { s with heap := g, toks := t } ∧ SetR w g s.heap.objs.size (fun j => decide (j ∈ ns)) c ∧ c ≤ ns.length ∧
        (∀ b o, s.heap.get? b = some o → g.get? b = some o)) E) F.called_set.init.plain F.entry_set_init (check_set_init_1 ty0 ?_)) fun r2 s2 hr2 => ?_
    · obtain ⟨⟨oc, od, ob, osl⟩, hol, hcl, nl, hdl⟩ := hl
      simp only at hcl hdl
      subst hcl hdl
      have at1 : (s.heap.push (bareSet w)).get? l = some { cls := .type "list", dict := od, data := .seq its nl, slots := osl } := Heap.get?_push_of_some _ hol
      have q1 := F.sub_list_set
      have q2 := F.sub_list_frozenset
      have q3 : (Value.type "list" == Value.type "dict") = false := by decide
      have isl : (s.heap.push (bareSet w)).IsList l its := ⟨_, at1, rfl, nl, rfl⟩
      unfold Builtin.«set.__init__» noKeywords Builtin.Frozenset.updateFrom
      generalize hPI : pyIter = PI
      wp_walk
      subst hPI
      refine wpAny_pyIter_list isl ?_
      refine wpAny_bind (wpAny_runValue ?_)
      have lS : l < s.heap.objs.size := Heap.lt_size hol
      have calm3 : A.in1.in1.in1.handled = none := by simp [calm]
      have neI : l ≠ (s.heap.push (bareSet w)).objs.size := by
        rw [Heap.size_push]
        exact Nat.ne_of_lt (Nat.lt_succ_of_lt lS)
      have noS : s.heap.objs.size ∉ [(s.heap.push (bareSet w)).objs.size, l] := by
        rw [Heap.size_push]
        simp only [List.mem_cons, List.mem_singleton, List.not_mem_nil, or_false, not_or]
        exact ⟨Nat.ne_of_lt (Nat.lt_succ_self _), Nat.ne_of_gt lS⟩
      have item : ∀ (i : Nat) (v : Value), its[i]? = some v → ∃ m t, ns[i]? = some m ∧ v = .int m t := fun i v hv => by
        have li : i < ns.length := by rw [← len]; exact (Array.getElem?_eq_some_iff.mp hv).1
        obtain ⟨t, e⟩ := PyProof.Rows.IntsAre.int_at hi i v (by rw [Array.getElem?_toList]; exact hv)
        refine ⟨ns[i], t, List.getElem?_eq_getElem li, ?_⟩
        rw [e, List.getD_eq_getElem?_getD, List.getElem?_eq_getElem li]
        rfl
      refine set_update_ints ((Walks.list calm3 _ l neI its).toS) s.heap.objs.size noS ns len room item (its.size - 0) 0 _ (by omega) (Nat.zero_le _) ⟨⟨_, Heap.get?_push_size _ rfl, rfl, rfl⟩, (isl.push _)⟩ ?s0 ?fin
      case s0 => exact ⟨0, Nat.le_refl 0, setR_new_at (Heap.get?_push_of_some _ at0)⟩
      case fin =>
        intro s3 c3 mv hc3 hS3
        obtain ⟨g3, ge, dr, t3, os3⟩ := s3
        cases (show ge = s.gens from mv.gens)
        cases (show dr = s.drawn from mv.drawn)
        cases (show os3 = s.os from mv.os)
        show wpAny _ _ _ _ _ _
        refine wpAny_pure ?_
        show wpAny _ _ (ret Value.none) _ _ _
        rw [len] at hc3
        refine wpAny_pure ⟨rfl, g3, t3, c3, rfl, hS3, hc3, fun b o e => ?_⟩
        have b0 : b < s.heap.objs.size := Heap.lt_size e
        have b2 : b ≠ (s.heap.push (bareSet w)).objs.size := by
          rw [Heap.size_push]
          exact Nat.ne_of_lt (Nat.lt_succ_of_lt b0)
        exact mv.heap b o (by simp only [List.mem_cons, List.mem_singleton, List.not_mem_nil, or_false, not_or]; exact ⟨Nat.ne_of_lt b0, b2⟩) (Heap.get?_push_of_some _ (Heap.get?_push_of_some _ e))
    · rcases r2 with e | fl2
      · exact hr2
      cases fl2 with
      | ret v =>
        obtain ⟨rfl, g, t, c, rfl, hS, hc, hk⟩ := hr2
        repeat (any_goals (first | assumption | wp_step))
        exact k _ _ _ hS hc hk
      | _ => exact hr2.elim
  | _ => exact hr.elim
end
section
variable {X : Cx}
theorem cr_setL (hc : X.calm = true) : CallR X (.type "set") (fun vs H Q => ∃ (l : Addr) (ns : List Int), vs = [V.ref l] ∧ SqL X.K H l (ns.map V.int) ∧ ns.length + 1 < scanBound ∧
    ∀ p c, H p = none → c ≤ ns.length → Q (.ref p) (upd H p (SetO X.w p (fun j => decide (j ∈ ns)) c))) := by
  intro pins s σ H xs us Q I r h
  obtain ⟨l, ns, rfl, hl, room, q⟩ := h
  rw [Vals.ref1 r]
  obtain ⟨its, rv, pl, hz⟩ := I.list hl
  refine set_of_list ns (I.ok.hd hc) pl.isList (by simpa using ints_of_vals rv) room fun g t c R hc' k => ?_
  have hn : H s.heap.objs.size = none := I.hok.fresh (Nat.le_refl _)
  exact ⟨.ref _, _, I.laid (a := s.heap.objs.size) (t' := t) k (Nat.le_refl _) (setO_new R), rfl, q _ c hn hc'⟩
end
end Vx
namespace Vx
open PySem PySem.Spec PyProof.Rows L2
/-! ### ascending lists -/
theorem asc_eq : ∀ {l m : List Int}, l.Pairwise (· < ·) → m.Pairwise (· < ·) → (∀ k, k ∈ l ↔ k ∈ m) → l = m
  | [], [], _, _, _ => rfl
  | [], y :: m, _, _, h => absurd ((h y).mpr List.mem_cons_self) (by simp)
  | x :: l, [], _, _, h => absurd ((h x).mp List.mem_cons_self) (by simp)
  | x :: l, y :: m, hl, hm, h => by
    obtain ⟨h1, h2⟩ := List.pairwise_cons.mp hl
    obtain ⟨h3, h4⟩ := List.pairwise_cons.mp hm
    have e : x = y := by
      rcases List.mem_cons.mp ((h x).mp List.mem_cons_self) with e | e
      · exact e
      · rcases List.mem_cons.mp ((h y).mpr List.mem_cons_self) with e2 | e2
        · exact e2.symm
        · have a := h3 _ e
          have b := h1 _ e2
          omega
    subst e
    rw [asc_eq h2 h4 fun k => ?_]
    have q := h k
    constructor
    · intro hk
      rcases List.mem_cons.mp (q.mp (List.mem_cons_of_mem _ hk)) with e | e
      · exact absurd (h1 _ hk) (by omega)
      · exact e
    · intro hk
      rcases List.mem_cons.mp (q.mpr (List.mem_cons_of_mem _ hk)) with e | e
      · exact absurd (h3 _ hk) (by omega)
      · exact e
/-! ### data -/
theorem eqvAll_ints : ∀ (l m : List Int), PyData.eqvAll (l.map PyData.int) (m.map PyData.int) = decide (l = m)
  | [], [] => by simp [PyData.eqvAll]
  | [], y :: m => by simp [PyData.eqvAll]
  | x :: l, [] => by simp [PyData.eqvAll]
  | x :: l, y :: m => by
    show (PyData.eqv (.int x) (.int y) && PyData.eqvAll (l.map PyData.int) (m.map PyData.int)) = _
    rw [eqvAll_ints l m]
    show ((x == y) && decide (l = m)) = _
    by_cases e : x = y <;> by_cases e2 : l = m <;> simp [e, e2]
theorem eqv_tupI (l m : List Int) : PyData.eqv (.tuple (l.map PyData.int)) (.tuple (m.map PyData.int)) = decide (l = m) := eqvAll_ints l m
theorem eqv_lstI (l m : List Int) : PyData.eqv (.list (l.map PyData.int)) (.list (m.map PyData.int)) = decide (l = m) := eqvAll_ints l m
theorem dpAll_ints {K : PySem.W.Frag} {H : Hp} : ∀ l : List Int, DpAll K H (l.map V.int) (l.map PyData.int)
  | [] => .nil
  | x :: l => .cons (.int x) (dpAll_ints l)
theorem dp_tupI {K : PySem.W.Frag} {H : Hp} {a : Addr} {l : List Int} (h : SqT K H a (l.map V.int)) : Dp K H (.ref a) (.tuple (l.map PyData.int)) := .tup h (dpAll_ints l)
theorem dp_lstI {K : PySem.W.Frag} {H : Hp} {a : Addr} {l : List Int} (h : SqL K H a (l.map V.int)) : Dp K H (.ref a) (.list (l.map PyData.int)) := .lst h (dpAll_ints l)
theorem inV_ints (x : Int) : ∀ l : List Int, inV (.int x) (l.map V.int) = decide (x ∈ l)
  | [] => by simp [inV]
  | y :: l => by
    have ih := inV_ints x l
    unfold inV at ih ⊢
    rw [List.map_cons, List.any_cons, ih]
    show ((y == x) || decide (x ∈ l)) = _
    by_cases e : y = x
    · simp [e]
    · have e' : ¬ x = y := fun z => e z.symm
      simp [e, e']
theorem flat_ints (l : List Int) : (l.map V.int).all flatV = true := by
  rw [List.all_map]
  exact List.all_eq_true.mpr fun _ _ => rfl
end Vx
namespace Vx
open PySem PySem.Spec PyProof.Rows L2
theorem canAll_ints : ∀ l : List Int, PyData.canLayAll0 (l.map PyData.int) = true
  | [] => by simp [PyData.canLayAll0]
  | x :: l => by
    rw [List.map_cons]
    simp [PyData.canLayAll0, PyData.canLay0, canAll_ints l]
theorem depAll_ints : ∀ l : List Int, PyData.depthAll (l.map PyData.int) = 0
  | [] => by simp [PyData.depthAll]
  | x :: l => by
    rw [List.map_cons]
    simp [PyData.depthAll, PyData.depth, depAll_ints l]
theorem shaped_tupI (l : List Int) : SeqAt.shaped (.tuple (l.map PyData.int)) = true := by
  unfold SeqAt.shaped
  simp [PyData.canLay0, PyData.depth, canAll_ints, depAll_ints]
theorem shaped_lstI (l : List Int) : SeqAt.shaped (.list (l.map PyData.int)) = true := by
  unfold SeqAt.shaped
  simp [PyData.canLay0, PyData.depth, canAll_ints, depAll_ints]
theorem tyesT {σ : L2.St} {H : Hp} {A B : Hp → Prop} (h : A H) : tYes σ H (fun b H3 => if b = true then A H3 else B H3) := h
theorem item_ints {xs : List Int} {i : Nat} {x : V} (h : (xs.map V.int)[i]? = some x) : ∃ z, x = .int z ∧ xs[i]? = some z ∧ z ∈ xs := by
  rw [List.getElem?_map] at h
  cases e : xs[i]? with
  | none => rw [e] at h; cases h
  | some z =>
    rw [e] at h
    exact ⟨z, (Option.some.inj h).symm, rfl, List.mem_of_getElem? e⟩
theorem at_ints {xs : List Int} {k : Int} (h0 : 0 ≤ k) (h1 : k < (xs.length : Int)) : ∃ z, z ∈ xs ∧ atI (xs.map V.int) k = some (.int z) := by
  have hj : k.toNat < xs.length := by omega
  refine ⟨xs[k.toNat], List.getElem_mem hj, ?_⟩
  refine at_of (j := k.toNat) (by omega) ?_
  rw [List.getElem?_map, List.getElem?_eq_getElem hj]
  rfl
theorem mem_ins {ys : List Int} {j : Nat} {y k : Int} (hy : y ∈ ys) : k ∈ ys.take j ++ [y] ++ ys.drop j ↔ k ∈ ys := by
  have e : k ∈ ys ↔ k ∈ ys.take j ∨ k ∈ ys.drop j := by rw [← List.mem_append, List.take_append_drop]
  rw [List.mem_append, List.mem_append, List.mem_singleton, e]
  constructor
  · rintro ((h | h) | h)
    · exact .inl h
    · subst h
      exact e.mp hy
    · exact .inr h
  · rintro (h | h)
    · exact .inl (.inl h)
    · exact .inr h
theorem madeS {C : Addr} {H : Hp} {x dx : Addr} (nx : H x = none) (nd : H dx = none) : Same H (upd (upd H dx (.own x)) x (.ins C dx [])) := fun b o e => by
  rw [upd_ne (ne_of_none e nx), upd_ne (ne_of_none e nd)]
  exact e
theorem pe_gcx {X : Cx} {x : Str} {pos : Pos} {v : V} (hg : Gl X x) (h : ∃ u, X.mg x = some u ∧ RelV v u) (hd : (x == ("__debug__" : Str)) = false := by decide +kernel) : PE X (.Name x pos) (tC v) := by
  obtain ⟨u, h, r⟩ := h
  exact pe_glob hg h r hd
theorem call_intB {X : Cx} : CallR X (.type "int") (fun xs H Q => ∃ k, xs = [.bl k] ∧ Q (.int (if k = true then 1 else 0)) H) := fun pins s σ H xs us Q I r h => call_int1 pins s σ H xs us Q I r (.inr h)
theorem cut_lo_len (z : Str) {k : Int} (h : 0 ≤ k) : (cutS z none (some k)).length ≤ k.toNat := by
  show (List.toArray _).size ≤ _
  rw [List.size_toArray, List.length_take]
  show min (HT.sIx z.length z.length (some k) - 0) _ ≤ _
  have e : HT.sIx z.length z.length (some k) = min k.toNat z.length := by
    show (if k < 0 then (k + (z.length : Int)).toNat else min k.toNat z.length) = _
    rw [if_neg (by omega)]
  omega
theorem cut_hi_len (z : Str) {k : Int} (h : 0 ≤ k) : (cutS z (some k) none).length ≤ z.length - k.toNat := by
  show (List.toArray _).size ≤ _
  have e : HT.sIx z.length 0 (some k) = min k.toNat z.length := by
    show (if k < 0 then (k + (z.length : Int)).toNat else min k.toNat z.length) = _
    rw [if_neg (by omega)]
  rw [List.size_toArray, List.length_take, List.length_drop, e]
  show min (z.length - min k.toNat z.length) (z.cps.toList.length - min k.toNat z.length) ≤ _
  have : z.cps.toList.length = z.length := Array.length_toList
  omega
end Vx
namespace Vx
open PySem PySem.Spec PyProof.Rows L2
/-! ### pairs and lists of them -/
abbrev Pr := Int × Int
def pr (l : List Int) : Pr := (l.getD 0 0, l.getD 1 0)
def Cells (H : Hp) (l : Addr) (ps : List Pr) : Prop :=
  ∃ ts : List (Addr × Pr), H l = some (.lst (ts.map fun t => V.ref t.1)) ∧ (∀ t ∈ ts, H t.1 = some (.tup [.int t.2.1, .int t.2.2])) ∧ ts.map (·.2) = ps
theorem Cells.up {H H' : Hp} {l : Addr} {ps : List Pr} (e : Same H H') (h : Cells H l ps) : Cells H' l ps := by
  obtain ⟨ts, h1, h2, h3⟩ := h
  exact ⟨ts, e _ _ h1, fun t m => e _ _ (h2 t m), h3⟩
def SetP (P : Program) (w : World) (H : Hp) (a : Addr) (ps : List Pr) : Prop :=
  ∃ L : List (Addr × List Int), H a = some (SetTO P w a L) ∧ (∀ q ∈ L, q.2.length = 2 ∧ H q.1 = some (.tup (q.2.map V.int))) ∧ ∀ x, x ∈ L.map (fun q => pr q.2) ↔ x ∈ ps
abbrev ltP (p q : Pr) : Prop := SrtO.lexB p q = true
theorem pr_inj : ∀ {l m : List Int}, l.length = 2 → m.length = 2 → pr l = pr m → l = m
  | [a, b], [c, d], _, _, h => by
    have h1 : a = c := congrArg Prod.fst h
    have h2 : b = d := congrArg Prod.snd h
    rw [h1, h2]
theorem len2 : ∀ {l : List Int}, l.length = 2 → l = [(pr l).1, (pr l).2]
  | [a, b], _ => rfl
section
variable {P : Program} {w : World} {A : Around} {E : Value → Shared → Prop} {s : Shared}
def adr : Value → Addr
  | .ref a => a
  | _ => 0
/-- the set's members, sorted -/
theorem sorted_pairs {a : Addr} {L : List (Addr × List Int)} {es : Array (Int × Value)} {ep : Nat} {t : SetTable} {Q : Value → Shared → Prop} (R : SetTR P w s.heap a L es ep t) (hh : A.handled = none) (h2 : ∀ q ∈ L, q.2.length = 2)
    (hQ : ∀ s' p (ts : List (Addr × Pr)) (c : Nat), (∀ b o, s.heap.get? b = some o → s'.heap.get? b = some o) → s'.gens = s.gens → s'.os = s.os → s.heap.objs.size ≤ p →
      s'.heap.get? p = some (seqObj "list" (ts.map fun q => Value.ref q.1).toArray c) → (∀ q ∈ ts, ∃ r ∈ L, r.1 = q.1 ∧ pr r.2 = q.2) → (∀ x, x ∈ ts.map (·.2) ↔ x ∈ L.map fun q => pr q.2) → (ts.map (·.2)).Pairwise ltP → ts.length = L.length → Q (.ref p) s') :
    wpAny (model P w) A (call (.builtin "sorted") [.ref a]) Q E s := by
  have few := R.few
  obtain ⟨o, go, xo, dat⟩ := R.ob
  refine Calls.call_function_entry kind_sorted plain_sorted entry_sorted (args_sorted1 _) ?_
  unfold Builtin.«sorted»
  refine wpAny_bind (m := checkCount "sorted" 1 1 _) (wpAny_pure ?_)
  refine wpAny_bind (collect_set (A := A.in1) hh ⟨o, go, xo.1, dat⟩ R.fits (by rw [R.size]; unfold scanBound; omega) R.tab.ris R.led fun s1 vs keep sz gg oo pm => ?_)
  have em : es.toList.map (·.2) = L.map fun q => Value.ref q.1 := by
    rw [R.rows]
    show (L.map fun q => (thash P w q.2, Value.ref q.1)).map (·.2) = _
    rw [List.map_map] <;> rfl
  rw [em] at pm
  have vl : vs.length = L.length := by rw [pm.length_eq, List.length_map]
  have lim : vs.length ≤ sizeLine := by
    rw [sizeLine_eq]
    omega
  refine wpAny_bind (wpAny_newList ?_ lim)
  have gl : (s1.heap.push (seqObj "list" vs.toArray 0)).get? s1.heap.objs.size = some (seqObj "list" vs.toArray 0) := Heap.get?_push_size _ rfl
  generalize hh1 : s1.heap.push (seqObj "list" vs.toArray 0) = h1 at gl
  have keep1 : ∀ b u, s1.heap.get? b = some u → h1.get? b = some u := fun b u e => by
    rw [← hh1]
    exact Heap.get?_push_of_some _ e
  have tin : ∀ q ∈ L, TS.TupInts h1 (.ref q.1) q.2 := fun q m => tupInts_of (P := P) (w := w) (isT_keep (R.tup q m) fun b u e => keep1 b u (keep b u e))
  have mem : ∀ v ∈ vs, ∃ q ∈ L, v = Value.ref q.1 := fun v m => by
    obtain ⟨q, m1, e⟩ := List.mem_map.mp (pm.mem_iff.mp m)
    exact ⟨q, m1, e.symm⟩
  have key : ∀ q ∈ L, pr (TS.intsOf h1 (.ref q.1)) = pr q.2 := fun q m => by rw [(tin q m).ints]
  have isP : ∀ v ∈ vs, Srt.IsPair h1 v (pr (TS.intsOf h1 v)).1 (pr (TS.intsOf h1 v)).2 := fun v m => by
    obtain ⟨q, m1, rfl⟩ := mem v m
    rw [key q m1]
    have i := tin q m1
    have l2 := len2 (h2 q m1)
    rw [l2] at i
    obtain ⟨b, items, eb, ⟨o1, go1, co1, n1, do1⟩, ia⟩ := i
    cases eb
    obtain ⟨xs⟩ := items
    cases ia with
    | cons _ t1 ia =>
      cases ia with
      | cons _ t2 ia =>
        cases ia
        exact ⟨_, o1, t1, t2, n1, rfl, go1, co1, do1⟩
  refine wpAny_bind (wpAny_holding (wpAny_call_entry (s := { s1 with heap := h1 }) slot_list_sort ⟨_, gl, rfl⟩ entry_list_sort (SrtO.list_sort_ord (s := { s1 with heap := h1 }) (SrtO.swo_lex fun v => pr (TS.intsOf h1 v)) gl lim (fun two => SrtO.pairs_sortableO (by omega) isP fun o1 e => ?_) fun out srt stb => ⟨_, rfl, ?_⟩) (args_list_sort _)))
  · have e' : some o1 = some (seqObj "list" vs.toArray 0) := e.symm.trans gl
    cases e'
    intro c
    exact absurd (Value.type.inj c) (by decide)
  · obtain ⟨c, gc⟩ := sortedHeap_at (vs := vs) (out := out.toArray) gl
    have omem : ∀ v ∈ out, ∃ q ∈ L, v = Value.ref q.1 := fun v m => mem v (stb.perm.mem_iff.mp m)
    refine wpAny_pure ⟨_, rfl, hQ _ s1.heap.objs.size (out.map fun v => (adr v, pr (TS.intsOf h1 v))) c (fun b u e => ?_) gg oo sz ?_ ?_ ?_ ?_ ?_⟩
    · have g1 := keep b u e
      have lt1 := Heap.lt_size g1
      show (sortedHeap h1 s1.heap.objs.size vs out.toArray).get? b = some u
      rw [sortedHeap_old (Nat.ne_of_lt lt1) (Heap.lt_size (keep1 b u g1))]
      exact keep1 b u g1
    · have eo : (out.map fun v => (adr v, pr (TS.intsOf h1 v))).map (fun q => Value.ref q.1) = out := by
        rw [List.map_map]
        refine (List.map_congr_left fun v m => ?_).trans (List.map_id _)
        obtain ⟨q, _, rfl⟩ := omem v m
        rfl
      rw [eo]
      exact gc
    · intro q m
      obtain ⟨v, m1, rfl⟩ := List.mem_map.mp m
      obtain ⟨r, mr, rfl⟩ := omem v m1
      exact ⟨r, mr, rfl, (key r mr).symm⟩
    · intro x
      rw [List.map_map]
      constructor
      · intro m
        obtain ⟨v, m1, rfl⟩ := List.mem_map.mp m
        obtain ⟨r, mr, rfl⟩ := omem v m1
        exact List.mem_map.mpr ⟨r, mr, (key r mr).symm⟩
      · intro m
        obtain ⟨r, mr, rfl⟩ := List.mem_map.mp m
        exact List.mem_map.mpr ⟨.ref r.1, stb.perm.mem_iff.mpr (pm.mem_iff.mpr (List.mem_map.mpr ⟨r, mr, rfl⟩)), key r mr⟩
    · rw [List.map_map]
      have nd : ((L.map fun q => Value.ref q.1).map fun v => pr (TS.intsOf h1 v)).Nodup := by
        rw [List.map_map]
        refine List.pairwise_map.mpr ((List.pairwise_map.mp R.nd).imp_of_mem fun {q r} mq mr ne e => ne ?_)
        refine pr_inj (h2 q mq) (h2 r mr) ?_
        rw [← key q mq, ← key r mr]
        exact e
      have nd2 : (out.map fun v => pr (TS.intsOf h1 v)).Nodup := ((stb.perm.trans pm).map _).nodup_iff.mpr nd
      refine List.pairwise_map.mpr ((srt.and (List.pairwise_map.mp nd2)).imp fun {u v} h => ?_)
      have a1 := SrtO.lexB_no.mp h.1
      refine SrtO.lexB_iff.mpr ?_
      have a2 : ¬ ((pr (TS.intsOf h1 u)).1 = (pr (TS.intsOf h1 v)).1 ∧ (pr (TS.intsOf h1 u)).2 = (pr (TS.intsOf h1 v)).2) := fun e => h.2 (Prod.ext e.1 e.2)
      show (pr (TS.intsOf h1 u)).1 < (pr (TS.intsOf h1 v)).1 ∨ (pr (TS.intsOf h1 u)).1 = (pr (TS.intsOf h1 v)).1 ∧ (pr (TS.intsOf h1 u)).2 < (pr (TS.intsOf h1 v)).2
      omega
    · rw [List.length_map, stb.perm.length_eq, vl]
end
section
variable {X : Cx}
theorem cr_setP (hc : X.calm = true) (hu : X.A.units + 64 < cLine) : CallR X (.type "set") (fun xs H Q => ∃ l ps, xs = [V.ref l] ∧ Cells H l ps ∧ ps.length < 64 ∧
    ∀ a H', Same H H' → H a = none → SetP X.prog X.w H' a ps → Q (.ref a) H') := by
  intro pins s σ H xs us Q I r h
  obtain ⟨l, ps, rfl, ⟨ts, hl, ht, rfl⟩, few, q⟩ := h
  rw [List.length_map] at few
  refine cr_setOfT hc hu pins s σ H [V.ref l] us Q I r ⟨l, ts.map fun t => (t.1, [t.2.1, t.2.2]), rfl, ?_, ?_, by rw [List.length_map]; exact few, fun a L n sub all => ?_⟩
  · rw [List.map_map]
    exact lst_of hl
  · intro p m
    obtain ⟨t, m1, rfl⟩ := List.mem_map.mp m
    exact tup_of (ht t m1)
  · refine q a _ (newS n) n ⟨L, upd_same, fun p m => ?_, fun x => ⟨fun m => ?_, fun m => ?_⟩⟩
    · obtain ⟨t, m1, rfl⟩ := List.mem_map.mp (sub p m)
      exact ⟨rfl, newS n _ _ (ht t m1)⟩
    · obtain ⟨p, m1, rfl⟩ := List.mem_map.mp m
      obtain ⟨t, m2, rfl⟩ := List.mem_map.mp (sub p m1)
      exact List.mem_map.mpr ⟨t, m2, rfl⟩
    · obtain ⟨t, m1, rfl⟩ := List.mem_map.mp m
      obtain ⟨p, m2, e⟩ := List.mem_map.mp (all _ (List.mem_map.mpr ⟨t, m1, rfl⟩))
      refine List.mem_map.mpr ⟨p, m2, ?_⟩
      rw [e]
      rfl
theorem cr_sortedP (hc : X.calm = true) : CallR X (.builtin "sorted") (fun xs H Q => ∃ a ps, xs = [V.ref a] ∧ SetP X.prog X.w H a ps ∧
    ∀ p H' qs, Same H H' → H p = none → Cells H' p qs → qs.Pairwise ltP → (∀ x, x ∈ qs ↔ x ∈ ps) → qs.length < 64 → Q (.ref p) H') := by
  intro pins s σ H vs us Q I r h
  obtain ⟨a, ps, rfl, ⟨L, ha, hL, mem⟩, q⟩ := h
  have R0 : SetT0 X.prog X.w s.heap a L := (I.hok a _ ha).1
  obtain ⟨es, ep, t, R⟩ := R0.full fun p hp => I.isT (tup_of (hL p hp).2)
  rw [Vals.ref1 r]
  refine sorted_pairs R (I.ok.hd hc) (fun q m => (hL q m).1) fun s' p ts c k g o hp hg own all pw le => ?_
  have few := R.few
  have lim : (ts.map fun q => V.ref q.1).length ≤ sizeLine := by
    rw [List.length_map, sizeLine_eq]
    omega
  have n : H p = none := I.hok.fresh hp
  have vals : ∀ ts : List (Addr × Pr), Vals (ts.map fun q => V.ref q.1) (ts.map fun q => Value.ref q.1) := fun ts => by
    induction ts with
    | nil => exact .nil
    | cons t ts ih => exact .cons rfl ih
  have J : Inv X pins σ (upd H p (.lst (ts.map fun q => V.ref q.1))) { s with heap := s'.heap, gens := s'.gens, drawn := s'.drawn, toks := s'.toks } :=
    I.call (ch := []) (Un.laid k hp n) (I.hok.laid k hp ⟨lim, _, c, vals ts, hg⟩) (by rw [g]; exact I.bare) (fun _ z => nomatch z)
  have e : s' = { s with heap := s'.heap, gens := s'.gens, drawn := s'.drawn, toks := s'.toks } := by
    obtain ⟨_, _, _, _, _⟩ := s'
    obtain ⟨_, _, _, _, _⟩ := s
    cases o
    rfl
  rw [e]
  have sm : Same H (upd H p (.lst (ts.map fun q => V.ref q.1))) := newS n
  refine ⟨.ref p, _, J, rfl, q p _ (ts.map (·.2)) sm n ⟨ts, upd_same, fun t m => ?_, rfl⟩ pw (fun x => (all x).trans (mem x)) (by rw [List.length_map, le]; exact few)⟩
  obtain ⟨r, mr, e1, e2⟩ := own t m
  have z := sm _ _ (hL r mr).2
  rw [len2 (hL r mr).1, e1, e2] at z
  exact z
end
section
variable {X : Cx}
theorem pg_tupK {K : PySem.W.Frag} {es : List Expr} {k : Nat} {t : TGs} {n : Nat} {pos : Pos} (hK : X.K = K) (hc : X.calm = true) (h : PGs X es t)
    (hn : (assignEach es X.env).length = n := by rfl) (hst : (assignEach es X.env).findIdx? (·.1) = none := by rfl) : PG X (.Tuple es k pos) (gTup K n t) := by
  subst hK
  exact pg_tup hc h hn hst
theorem ix_tupK {K : PySem.W.Frag} (hK : X.K = K) : IxR X (rIxT K) := by
  subst hK
  exact ix_tup
end
/-! ### comprehensions over such a list -/
theorem item_cells {H : Hp} {ts : List (Addr × Pr)} {ps : List Pr} {i : Nat} {x : V} (h : (ts.map fun t => V.ref t.1)[i]? = some x) (e : ts.map (·.2) = ps) :
    ∃ t ∈ ts, x = .ref t.1 ∧ ps[i]? = some t.2 := by
  rw [List.getElem?_map] at h
  cases q : ts[i]? with
  | none => rw [q] at h; cases h
  | some t =>
    rw [q] at h
    refine ⟨t, List.mem_of_getElem? q, (Option.some.inj h).symm, ?_⟩
    rw [← e, List.getElem?_map, q]
    rfl
theorem lc_cells {K : PySem.W.Frag} {l : Addr} {ps : List Pr} {g : TG} {tt : TT} {te : TE} {vs : List Nat} {σ : L2.St} {H1 : Hp} {D : Addr} {Qd : Hp → Prop} (f : Pr → Pr) (hC : Cells H1 l ps) (nD : H1 D = none) (few : ps.length < sizeLine)
    (hs : ∀ (t : Addr) (x : Pr) (H' : Hp) (Po : V → Hp → Prop) (Pn : Hp → Prop), Same H1 H' → H' t = some (.tup [.int x.1, .int x.2]) → (∀ t2, H' t2 = none → Po (.ref t2) (upd H' t2 (.tup [.int (f x).1, .int (f x).2]))) →
      g (.ref t) (wipe σ vs) H' fun σ2 H2 => wipe σ2 vs = wipe σ vs ∧ tt σ2 H2 fun b H3 => if b = true then te σ2 H3 Po else Pn H3)
    (hd : ∀ H', Same H1 H' → Cells H' D (ps.map f) → Qd H') :
    ∃ W : Nat → Nat → Hp → Prop, (∃ m, W 0 m (upd H1 D (.lst []))) ∧ ∀ i m H, W i m H →
      ((Itl K l).stop i H ∧ Qd H) ∨ ((Itl K l).go i H ∧ ∃ Nx : Hp → Prop, (∀ H', Nx H' → ∃ m', m' < m ∧ W (i + 1) m' H') ∧ ∀ x H', (Itl K l).yld i H x H' → g x (wipe σ vs) H' fun σ2 H2 => wipe σ2 vs = wipe σ vs ∧ tt σ2 H2 fun b H3 =>
        if b = true then te σ2 H3 fun y H4 => ∃ acc, H4 D = some (.lst acc) ∧ acc.length < sizeLine ∧ Nx (upd H4 D (.lst (acc ++ [y]))) else Nx H3) := by
  obtain ⟨ts, hl, ht, rfl⟩ := hC
  rw [List.length_map] at few
  refine lc_list (K := K) (a := l) (xs := ts.map fun t => V.ref t.1) (fun i H' => Same H1 H' ∧ ∃ us : List (Addr × Pr), H' D = some (.lst (us.map fun t => V.ref t.1)) ∧ (∀ t ∈ us, H' t.1 = some (.tup [.int t.2.1, .int t.2.2])) ∧ us.map (·.2) = ((ts.map (·.2)).take i).map f)
    ⟨newS nD, [], upd_same, fun _ m => (by cases m), rfl⟩ (fun i H' _ p => lst_of (p.1 _ _ hl)) ?_ ?_
  · rintro i x H' hi ⟨sm, us, h1, h2, h3⟩
    obtain ⟨t, mt, rfl, hp⟩ := item_cells (H := H') hi rfl
    have ul : us.length = i := by
      have z := congrArg List.length h3
      rw [List.length_map, List.length_map, List.length_take, List.length_map] at z
      have := (List.getElem?_eq_some_iff.mp hi).1
      rw [List.length_map] at this
      omega
    refine hs t.1 t.2 H' _ _ sm (sm _ _ (ht t mt)) fun t2 n2 => ⟨us.map fun t => V.ref t.1, ?_, ?_, ?_, us ++ [(t2, f t.2)], ?_, ?_, ?_⟩
    · exact newS n2 _ _ h1
    · rw [List.length_map, ul]
      have := (List.getElem?_eq_some_iff.mp hi).1
      rw [List.length_map] at this
      omega
    · exact mutS (sm.trans (newS n2)) nD
    · rw [upd_same, List.map_append]
      rfl
    · have nD2 : t2 ≠ D := fun e => by
        rw [e, h1] at n2
        cases n2
      intro u m
      rcases List.mem_append.mp m with m | m
      · have z := h2 u m
        rw [upd_ne (fun e => ?_)]
        · exact newS n2 _ _ z
        · rw [e, h1] at z
          cases z
      · rw [List.mem_singleton.mp m, upd_ne nD2, upd_same]
    · rw [List.map_append, h3, take_next hp, List.map_append]
      rfl
  · rintro H' ⟨sm, us, h1, h2, h3⟩
    refine hd H' sm ⟨us, h1, h2, ?_⟩
    rw [h3, List.length_map, List.take_of_length_le (by rw [List.length_map]; exact Nat.le_refl _)]
theorem lc_nums {K : PySem.W.Frag} {l : Addr} {ps : List Pr} {g : TG} {tt : TT} {te : TE} {vs : List Nat} {σ : L2.St} {H1 : Hp} {D : Addr} {Qd : Hp → Prop} (f : Pr → Int) (hC : Cells H1 l ps) (nD : H1 D = none) (few : ps.length < sizeLine)
    (hs : ∀ (t : Addr) (x : Pr) (H' : Hp) (Po : V → Hp → Prop) (Pn : Hp → Prop), Same H1 H' → H' t = some (.tup [.int x.1, .int x.2]) → Po (.int (f x)) H' →
      g (.ref t) (wipe σ vs) H' fun σ2 H2 => wipe σ2 vs = wipe σ vs ∧ tt σ2 H2 fun b H3 => if b = true then te σ2 H3 Po else Pn H3)
    (hd : ∀ H', Same H1 H' → H' D = some (.lst ((ps.map f).map V.int)) → Qd H') :
    ∃ W : Nat → Nat → Hp → Prop, (∃ m, W 0 m (upd H1 D (.lst []))) ∧ ∀ i m H, W i m H →
      ((Itl K l).stop i H ∧ Qd H) ∨ ((Itl K l).go i H ∧ ∃ Nx : Hp → Prop, (∀ H', Nx H' → ∃ m', m' < m ∧ W (i + 1) m' H') ∧ ∀ x H', (Itl K l).yld i H x H' → g x (wipe σ vs) H' fun σ2 H2 => wipe σ2 vs = wipe σ vs ∧ tt σ2 H2 fun b H3 =>
        if b = true then te σ2 H3 fun y H4 => ∃ acc, H4 D = some (.lst acc) ∧ acc.length < sizeLine ∧ Nx (upd H4 D (.lst (acc ++ [y]))) else Nx H3) := by
  obtain ⟨ts, hl, ht, rfl⟩ := hC
  rw [List.length_map] at few
  refine lc_list (K := K) (a := l) (xs := ts.map fun t => V.ref t.1) (fun i H' => Same H1 H' ∧ H' D = some (.lst ((((ts.map (·.2)).take i).map f).map V.int)))
    ⟨newS nD, upd_same⟩ (fun i H' _ p => lst_of (p.1 _ _ hl)) ?_ ?_
  · rintro i x H' hi ⟨sm, h1⟩
    obtain ⟨t, mt, rfl, hp⟩ := item_cells (H := H') hi rfl
    refine hs t.1 t.2 H' _ _ sm (sm _ _ (ht t mt)) ⟨_, h1, ?_, mutS sm nD, ?_⟩
    · rw [List.length_map, List.length_map, List.length_take, List.length_map]
      omega
    · rw [upd_same, take_next hp, List.map_append, List.map_append]
      rfl
  · rintro H' ⟨sm, h1⟩
    rw [List.length_map, List.take_of_length_le (by rw [List.length_map]; exact Nat.le_refl _)] at h1
    exact hd H' sm h1
/-! ### one such list -/
def CanP (ps qs : List Pr) : Prop := qs.Pairwise ltP ∧ ∀ x, x ∈ qs ↔ x ∈ ps
theorem ltP_iff {p q : Pr} : ltP p q ↔ p.1 < q.1 ∨ (p.1 = q.1 ∧ p.2 < q.2) := SrtO.lexB_iff
theorem ascP_eq : ∀ {l m : List Pr}, l.Pairwise ltP → m.Pairwise ltP → (∀ k, k ∈ l ↔ k ∈ m) → l = m
  | [], [], _, _, _ => rfl
  | [], y :: m, _, _, h => absurd ((h y).mpr List.mem_cons_self) (by simp)
  | x :: l, [], _, _, h => absurd ((h x).mp List.mem_cons_self) (by simp)
  | x :: l, y :: m, hl, hm, h => by
    obtain ⟨h1, h2⟩ := List.pairwise_cons.mp hl
    obtain ⟨h3, h4⟩ := List.pairwise_cons.mp hm
    have irr : ∀ a b : Pr, ltP a b → ltP b a → False := fun a b p q => by
      have p := ltP_iff.mp p
      have q := ltP_iff.mp q
      omega
    have e : x = y := by
      rcases List.mem_cons.mp ((h x).mp List.mem_cons_self) with e | e
      · exact e
      · rcases List.mem_cons.mp ((h y).mpr List.mem_cons_self) with e2 | e2
        · exact e2.symm
        · exact (irr _ _ (h3 _ e) (h1 _ e2)).elim
    subst e
    rw [ascP_eq h2 h4 fun k => ?_]
    have q := h k
    constructor
    · intro hk
      rcases List.mem_cons.mp (q.mp (List.mem_cons_of_mem _ hk)) with e | e
      · have z := h1 _ hk
        rw [e] at z
        exact (irr _ _ z z).elim
      · exact e
    · intro hk
      rcases List.mem_cons.mp (q.mpr (List.mem_cons_of_mem _ hk)) with e | e
      · have z := h3 _ hk
        rw [e] at z
        exact (irr _ _ z z).elim
      · exact e
theorem canP_eq {ps qs m : List Pr} (h : CanP ps qs) (h2 : m.Pairwise ltP) (h3 : ∀ k, k ∈ ps ↔ k ∈ m) : qs = m := ascP_eq h.1 h2 fun k => (h.2 k).trans (h3 k)
/-! ### as data -/
def pd (p : Pr) : PyData := .tuple [.int p.1, .int p.2]
theorem eqv_pd (p q : Pr) : PyData.eqv (pd p) (pd q) = decide (p = q) := by
  show ((p.1 == q.1) && ((p.2 == q.2) && true)) = _
  obtain ⟨a, b⟩ := p
  obtain ⟨c, d⟩ := q
  by_cases e1 : a = c <;> by_cases e2 : b = d <;> simp [e1, e2]
theorem eqvAll_pd : ∀ (l m : List Pr), PyData.eqvAll (l.map pd) (m.map pd) = decide (l = m)
  | [], [] => by simp [PyData.eqvAll]
  | [], y :: m => by simp [PyData.eqvAll]
  | x :: l, [] => by simp [PyData.eqvAll]
  | x :: l, y :: m => by
    show (PyData.eqv (pd x) (pd y) && PyData.eqvAll (l.map pd) (m.map pd)) = _
    rw [eqvAll_pd l m, eqv_pd]
    by_cases e : x = y <;> by_cases e2 : l = m <;> simp [e, e2]
theorem eqv_cells (l m : List Pr) : PyData.eqv (.list (l.map pd)) (.list (m.map pd)) = decide (l = m) := eqvAll_pd l m
theorem canAll_pd : ∀ l : List Pr, PyData.canLayAll0 (l.map pd) = true
  | [] => by simp [PyData.canLayAll0]
  | x :: l => by
    rw [List.map_cons]
    simp [PyData.canLayAll0, PyData.canLay0, pd, canAll_pd l]
theorem depAll_pd : ∀ l : List Pr, PyData.depthAll (l.map pd) ≤ 1
  | [] => by simp [PyData.depthAll]
  | x :: l => by
    rw [List.map_cons]
    have := depAll_pd l
    simp only [PyData.depthAll, PyData.depth, pd]
    omega
theorem shaped_cells (l : List Pr) : SeqAt.shaped (.list (l.map pd)) = true := by
  unfold SeqAt.shaped
  have := depAll_pd l
  simp only [PyData.canLay0, PyData.depth, canAll_pd]
  simp
  omega
theorem dp_cells {K : PySem.W.Frag} {H : Hp} {a : Addr} {ps : List Pr} (h : Cells H a ps) : Dp K H (.ref a) (.list (ps.map pd)) := by
  obtain ⟨ts, hl, ht, rfl⟩ := h
  refine .lst (lst_of hl) ?_
  have go : ∀ us : List (Addr × Pr), (∀ t ∈ us, H t.1 = some (.tup [.int t.2.1, .int t.2.2])) → DpAll K H (us.map fun t => V.ref t.1) ((us.map (·.2)).map pd) := fun us => by
    induction us with
    | nil => exact fun _ => .nil
    | cons t us ih => exact fun h => .cons (.tup (tup_of (h t List.mem_cons_self)) (.cons (.int _) (.cons (.int _) .nil))) (ih fun u m => h u (List.mem_cons_of_mem _ m))
  exact go ts ht
/-! ### sorted, of such a list -/
def kH (H : Hp) : V → Pr
  | .ref a => match H a with
    | some (.tup [.int x, .int y]) => (x, y)
    | _ => (0, 0)
  | _ => (0, 0)
def adV : V → Addr
  | .ref a => a
  | _ => 0
theorem kH_at {H : Hp} {a : Addr} {x : Pr} (h : H a = some (.tup [.int x.1, .int x.2])) : kH H (.ref a) = x := by
  show (match H a with
    | some (.tup [.int x, .int y]) => (x, y)
    | _ => (0, 0)) = x
  rw [h]
theorem ltP_irr {a b : Pr} (p : ltP a b) (q : ltP b a) : False := by
  have p := ltP_iff.mp p
  have q := ltP_iff.mp q
  omega
theorem nodup_lt {l : List Pr} (h : l.Pairwise ltP) : l.Nodup := h.imp fun {a b} q e => by
  subst e
  exact ltP_irr q q
theorem cr_sortedC {X : Cx} : CallR X (.builtin "sorted") (fun xs H Q => ∃ l ps, xs = [V.ref l] ∧ Cells H l ps ∧ ps.Nodup ∧
    ∀ p H' qs, Same H H' → H p = none → Cells H' p qs → CanP ps qs → qs.length = ps.length → Q (.ref p) H') := by
  intro pins s σ H xs us Q I r h
  obtain ⟨l, ps, rfl, ⟨ts, hl, ht, rfl⟩, nd, q⟩ := h
  refine cr_sortedPO pins s σ H [V.ref l] us Q I r ⟨l, ts.map fun t => V.ref t.1, kH H, rfl, lst_of hl, fun x m => ?_, fun ys p srt stb n => ?_⟩
  · obtain ⟨t, m1, rfl⟩ := List.mem_map.mp m
    have g := ht t m1
    refine ⟨t.1, rfl, ?_⟩
    rw [kH_at g]
    exact g
  · have own : ∀ y ∈ ys, ∃ t ∈ ts, y = V.ref t.1 := fun y m => by
      obtain ⟨t, m1, e⟩ := List.mem_map.mp (stb.perm.mem_iff.mp m)
      exact ⟨t, m1, e.symm⟩
    have key : ∀ t ∈ ts, kH H (.ref t.1) = t.2 := fun t m => kH_at (ht t m)
    have pm : (ys.map (kH H)).Perm (ts.map (·.2)) := by
      have z := stb.perm.map (kH H)
      rw [List.map_map] at z
      rw [show ts.map (·.2) = ts.map (kH H ∘ fun t => V.ref t.1) from List.map_congr_left fun t m => (key t m).symm]
      exact z
    have sm : Same H (upd H p (.lst ys)) := newS n
    have eo : (ys.map fun v => (adV v, kH H v)).map (fun t => V.ref t.1) = ys := by
      rw [List.map_map]
      refine (List.map_congr_left fun v m => ?_).trans (List.map_id _)
      obtain ⟨t, _, rfl⟩ := own v m
      rfl
    refine q p _ (ys.map (kH H)) sm n ⟨ys.map fun v => (adV v, kH H v), ?_, fun u m => ?_, ?_⟩ ⟨?_, fun x => pm.mem_iff⟩ pm.length_eq
    · rw [eo, upd_same]
    · obtain ⟨v, m1, rfl⟩ := List.mem_map.mp m
      obtain ⟨t, m2, rfl⟩ := own v m1
      refine sm _ _ ?_
      show H t.1 = _
      rw [key t m2]
      exact ht t m2
    · rw [List.map_map]
      rfl
    · have nd2 : (ys.map (kH H)).Nodup := pm.nodup_iff.mpr nd
      refine List.pairwise_map.mpr ((srt.and (List.pairwise_map.mp nd2)).imp fun {u v} h => ?_)
      have a1 := SrtO.lexB_no.mp h.1
      have a2 : ¬ ((kH H u).1 = (kH H v).1 ∧ (kH H u).2 = (kH H v).2) := fun e => h.2 (Prod.ext e.1 e.2)
      refine ltP_iff.mpr ?_
      omega
/-! ### dicts whose keys are such pairs -/
def keyP (x : Pr) : List L2.Key := [Sum.inl x.1, Sum.inl x.2]
theorem keyP_inj {x y : Pr} (h : keyP x = keyP y) : x = y := by
  injection h with h1 h2
  injection h2 with h2 _
  exact Prod.ext (Sum.inl.inj h1) (Sum.inl.inj h2)
def KeysP (kvs : List (List L2.Key × V)) (ps : List Pr) : Prop := kvs.map (·.1) = ps.map keyP ∧ ps.Nodup
theorem KeysP.put {kvs : List (List L2.Key × V)} {ps : List Pr} (h : KeysP kvs ps) (x : Pr) (v : V) :
    ∃ qs, KeysP (putK kvs (keyP x) v) qs ∧ qs.length ≤ ps.length + 1 ∧ ∀ y, y ∈ qs ↔ y ∈ ps ∨ y = x := by
  have mem : (kvs.any fun kv => decide (kv.1 = keyP x)) = true ↔ x ∈ ps := by
    rw [List.any_eq_true]
    constructor
    · rintro ⟨kv, m, e⟩
      have m2 : kv.1 ∈ ps.map keyP := by
        rw [← h.1]
        exact List.mem_map.mpr ⟨kv, m, rfl⟩
      obtain ⟨y, my, ey⟩ := List.mem_map.mp m2
      rw [← keyP_inj (ey.trans (of_decide_eq_true e))]
      exact my
    · intro m
      have m2 : keyP x ∈ kvs.map (·.1) := by
        rw [h.1]
        exact List.mem_map.mpr ⟨x, m, rfl⟩
      obtain ⟨kv, mk, e⟩ := List.mem_map.mp m2
      exact ⟨kv, mk, decide_eq_true e⟩
  by_cases c : x ∈ ps
  · refine ⟨ps, ⟨?_, h.2⟩, by omega, fun y => ⟨.inl, fun z => z.elim id fun e => e ▸ c⟩⟩
    unfold putK
    rw [if_pos (mem.mpr c), List.map_map, ← h.1]
    refine List.map_congr_left fun kv _ => ?_
    show (if kv.1 = keyP x then (kv.1, v) else kv).1 = kv.1
    by_cases e : kv.1 = keyP x
    · rw [if_pos e]
    · rw [if_neg e]
  · refine ⟨ps ++ [x], ⟨?_, ?_⟩, by rw [List.length_append]; exact Nat.le_refl _, fun y => by rw [List.mem_append, List.mem_singleton]⟩
    · unfold putK
      rw [if_neg (fun z => c (mem.mp z)), List.map_append, List.map_append, h.1]
      rfl
    · refine List.pairwise_append.mpr ⟨h.2, List.pairwise_cons.mpr ⟨fun _ m => (by cases m), List.Pairwise.nil⟩, fun a ma b mb e => ?_⟩
      rw [List.mem_singleton.mp mb] at e
      exact c (e ▸ ma)
theorem KeysP.len {kvs : List (List L2.Key × V)} {ps : List Pr} (h : KeysP kvs ps) : kvs.length = ps.length := by
  have z := congrArg List.length h.1
  rw [List.length_map, List.length_map] at z
  exact z
theorem KeysP.at {kvs : List (List L2.Key × V)} {ps : List Pr} (h : KeysP kvs ps) {i : Nat} {k : List L2.Key} {v : V} (e : kvs[i]? = some (k, v)) : ∃ x, ps[i]? = some x ∧ k.map kV = [.int x.1, .int x.2] := by
  have z := congrArg (fun l => l[i]?) h.1
  simp only [List.getElem?_map] at z
  rw [e] at z
  cases q : ps[i]? with
  | none => rw [q] at z; cases z
  | some x =>
    rw [q] at z
    refine ⟨x, rfl, ?_⟩
    have : k = keyP x := Option.some.inj z
    rw [this]
    rfl
/-- the keys of such a dict, listed -/
theorem lc_keysP {d : Addr} {od : Obj} {kvs : List (List L2.Key × V)} {ps : List Pr} {vs : List Nat} {σ : L2.St} {H1 : Hp} {D : Addr} {Qd : Hp → Prop} {g : TG} {tt : TT} {te : TE} (hK : KeysP kvs ps) (hD : H1 d = some (.frz od (.dT kvs))) (nD : H1 D = none) (few : ps.length < sizeLine)
    (hs : ∀ (t : Addr) (x : Pr) (H' : Hp) (Po : V → Hp → Prop) (Pn : Hp → Prop), H' t = some (.tup [.int x.1, .int x.2]) → Po (.ref t) H' →
      g (.ref t) (wipe σ vs) H' fun σ2 H2 => wipe σ2 vs = wipe σ vs ∧ tt σ2 H2 fun b H3 => if b = true then te σ2 H3 Po else Pn H3)
    (hd : ∀ H', Same H1 H' → Cells H' D ps → Qd H') :
    ∃ W : Nat → Nat → Hp → Prop, (∃ m, W 0 m (upd H1 D (.lst []))) ∧ ∀ i m H, W i m H →
      ((Itkt d od kvs).stop i H ∧ Qd H) ∨ ((Itkt d od kvs).go i H ∧ ∃ Nx : Hp → Prop, (∀ H', Nx H' → ∃ m', m' < m ∧ W (i + 1) m' H') ∧ ∀ x H', (Itkt d od kvs).yld i H x H' → g x (wipe σ vs) H' fun σ2 H2 => wipe σ2 vs = wipe σ vs ∧ tt σ2 H2 fun b H3 =>
        if b = true then te σ2 H3 fun y H4 => ∃ acc, H4 D = some (.lst acc) ∧ acc.length < sizeLine ∧ Nx (upd H4 D (.lst (acc ++ [y]))) else Nx H3) := by
  have len := hK.len
  refine lc_it walk_keysT (fun i H' => Same H1 H' ∧ ∃ us : List (Addr × Pr), H' D = some (.lst (us.map fun t => V.ref t.1)) ∧ (∀ t ∈ us, H' t.1 = some (.tup [.int t.2.1, .int t.2.2])) ∧ us.map (·.2) = ps.take i)
    ⟨newS nD, [], upd_same, fun _ m => (by cases m), rfl⟩ (fun i H' _ p => p.1 _ _ hD) ?_ ?_
  · rintro i x H' H2 hi ⟨sm, us, h1, h2, h3⟩ ⟨rfl, k, v, q, e, rfl, hq⟩
    obtain ⟨y, hy, ek⟩ := hK.at e
    rw [ek] at hq
    have ul : us.length = i := by
      have z := congrArg List.length h3
      rw [List.length_map, List.length_take] at z
      omega
    refine hs q y _ _ _ hq ⟨_, h1, ?_, mutS sm nD, us ++ [(q, y)], ?_, ?_, ?_⟩
    · rw [List.length_map]
      omega
    · rw [upd_same, List.map_append]
      rfl
    · intro u m
      have off : ∀ z : Addr × Pr, H2 z.1 = some (.tup [.int z.2.1, .int z.2.2]) → upd H2 D (.lst ((us.map fun t => V.ref t.1) ++ [V.ref q])) z.1 = some (.tup [.int z.2.1, .int z.2.2]) := fun z g => by
        rw [upd_ne (fun e => ?_)]
        · exact g
        · rw [e, h1] at g
          cases g
      rcases List.mem_append.mp m with m | m
      · exact off u (h2 u m)
      · rw [List.mem_singleton.mp m]
        exact off (q, y) hq
    · rw [List.map_append, h3, take_next hy]
      rfl
  · rintro H' ⟨sm, us, h1, h2, h3⟩
    refine hd H' sm ⟨us, h1, h2, ?_⟩
    rw [h3, List.take_of_length_le (by omega)]
/-- such a list outlives a change of an object that is no tuple and not the list -/
theorem Cells.mut {H : Hp} {l d : Addr} {ps : List Pr} {o : HO} (h : Cells H l ps) (ne : l ≠ d) (nt : ∀ xs, H d ≠ some (.tup xs)) : Cells (upd H d o) l ps := by
  obtain ⟨ts, h1, h2, h3⟩ := h
  refine ⟨ts, by rw [upd_ne ne]; exact h1, fun t m => ?_, h3⟩
  rw [upd_ne (fun e => nt _ (e ▸ h2 t m))]
  exact h2 t m
theorem cells_mk {H : Hp} {l : Addr} (us : List (Addr × Pr)) (h : H l = some (.lst (us.map fun t => V.ref t.1))) (ht : ∀ u ∈ us, H u.1 = some (.tup [.int u.2.1, .int u.2.2])) : Cells H l (us.map (·.2)) := ⟨us, h, ht, rfl⟩
def cutT {α : Type} (ts : List α) (lo hi : Option Int) : List α := (ts.drop (HT.sIx ts.length 0 lo)).take (HT.sIx ts.length ts.length hi - HT.sIx ts.length 0 lo)
theorem cutV_map {α : Type} (f : α → V) (ts : List α) (lo hi : Option Int) : cutV (ts.map f) lo hi = (cutT ts lo hi).map f := by
  unfold cutV cutT
  rw [List.length_map, List.map_take, List.map_drop]
theorem cutT_mem {α : Type} {ts : List α} {lo hi : Option Int} {x : α} (h : x ∈ cutT ts lo hi) : x ∈ ts := List.mem_of_mem_drop (List.mem_of_mem_take h)
theorem cutT_len {α : Type} (ts : List α) (lo hi : Option Int) : (cutT ts lo hi).length ≤ ts.length := by
  unfold cutT
  rw [List.length_take, List.length_drop]
  omega
theorem eq_cells {l m : List Pr} (h : l = m) : V.bl (PyData.eqv (.list (l.map pd)) (.list (m.map pd))) = V.bl true := by
  rw [eqv_cells, decide_eq_true h]
theorem ne_cells {l m : List Pr} (h : l = m) : V.bl (!PyData.eqv (.list (l.map pd)) (.list (m.map pd))) = V.bl false := by
  rw [eqv_cells, decide_eq_true h] <;> rfl
theorem pw_map {f : Pr → Pr} (hf : ∀ x y, ltP x y → ltP (f x) (f y)) {l : List Pr} (h : l.Pairwise ltP) : (l.map f).Pairwise ltP := List.pairwise_map.mpr (h.imp fun {x y} q => hf x y q)
theorem nodup_map {f : Pr → Pr} (hf : ∀ x y, f x = f y → x = y) {l : List Pr} (h : l.Nodup) : (l.map f).Nodup := List.pairwise_map.mpr (h.imp fun {x y} q e => q (hf x y e))
theorem mem_map2 {f : Pr → Pr} {l m : List Pr} (h : ∀ x, x ∈ l ↔ x ∈ m) (k : Pr) : k ∈ l.map f ↔ k ∈ m.map f := by
  rw [List.mem_map, List.mem_map]
  exact ⟨fun ⟨x, m1, e⟩ => ⟨x, (h x).mp m1, e⟩, fun ⟨x, m1, e⟩ => ⟨x, (h x).mpr m1, e⟩⟩
theorem wipe2 (σ : L2.St) (i j : Nat) (a b : Option V) : wipe (((wipe σ [i, j]).set i a).set j b) [i, j] = wipe σ [i, j] := by
  refine List.ext_getElem? fun k => ?_
  show ((((((σ.set j none).set i none).set i a).set j b).set j none).set i none)[k]? = ((σ.set j none).set i none)[k]?
  simp only [List.getElem?_set, List.length_set]
  by_cases e1 : i = k <;> by_cases e2 : j = k <;> by_cases e3 : k < σ.length <;> simp [e1, e2, e3]
end Vx
namespace Vx
open PySem PySem.Spec PyProof.Rows L2
/-! ### sets of many tuples: i -> 5 i + 1 meets every slot of a table of 2 ^ n slots -/
def S5 : Nat → Nat
  | 0 => 0
  | n + 1 => 5 * S5 n + 1
def T5 (i : Nat) : Nat → Nat
  | 0 => i
  | n + 1 => 5 * T5 i n + 1
theorem T5_S5 (i : Nat) : ∀ d, T5 i d = i + S5 d * (4 * i + 1)
  | 0 => by simp [T5, S5]
  | d + 1 => by
    show 5 * T5 i d + 1 = i + (5 * S5 d + 1) * (4 * i + 1)
    rw [T5_S5 i d, Nat.add_mul, Nat.mul_assoc]
    generalize S5 d * (4 * i + 1) = z
    omega
theorem T5_add (i d : Nat) : ∀ a, T5 i (d + a) = T5 i a + 5 ^ a * (S5 d * (4 * i + 1))
  | 0 => by
    show T5 i d = i + 5 ^ 0 * _
    rw [T5_S5, Nat.pow_zero, Nat.one_mul]
  | a + 1 => by
    show 5 * T5 i (d + a) + 1 = 5 * T5 i a + 1 + 5 ^ (a + 1) * _
    rw [T5_add i d a, Nat.pow_succ, Nat.mul_comm (5 ^ a) 5, Nat.mul_assoc]
    omega
theorem S5_two (e : Nat) : S5 (2 * e) = (5 ^ e + 1) * S5 e := by
  have h := T5_add 0 e e
  have z : ∀ n, T5 0 n = S5 n := fun n => by rw [T5_S5]; simp
  rw [z, z] at h
  rw [show 2 * e = e + e by omega, h, Nat.add_mul]
  simp
  omega
theorem S5_par : ∀ d, S5 d % 2 = d % 2
  | 0 => rfl
  | d + 1 => by
    have := S5_par d
    show (5 * S5 d + 1) % 2 = (d + 1) % 2
    omega
theorem five4 : ∀ e, ∃ q, 5 ^ e = 4 * q + 1
  | 0 => ⟨0, rfl⟩
  | e + 1 => by
    obtain ⟨q, h⟩ := five4 e
    refine ⟨5 * q + 1, ?_⟩
    rw [Nat.pow_succ, h]
    omega
/-- an odd factor is of no help -/
theorem strip_odd {o : Nat} (ho : o % 2 = 1) : ∀ (k x : Nat), 2 ^ k ∣ o * x → 2 ^ k ∣ x
  | 0, x, _ => by simp
  | k + 1, x, h => by
    have h2 : 2 ∣ o * x := Nat.dvd_trans ⟨2 ^ k, by rw [Nat.pow_succ, Nat.mul_comm]⟩ h
    have hx : x % 2 = 0 := by
      have : (o * x) % 2 = 0 := Nat.mod_eq_zero_of_dvd h2
      rw [Nat.mul_mod, ho, Nat.one_mul, Nat.mod_mod] at this
      exact this
    obtain ⟨y, rfl⟩ : ∃ y, x = 2 * y := ⟨x / 2, by omega⟩
    rw [show o * (2 * y) = 2 * (o * y) by rw [Nat.mul_left_comm], Nat.pow_succ, Nat.mul_comm (2 ^ k) 2] at h
    rw [Nat.pow_succ, Nat.mul_comm (2 ^ k) 2]
    exact Nat.mul_dvd_mul_left 2 (strip_odd ho k y (Nat.dvd_of_mul_dvd_mul_left (by decide) h))
theorem S5_dvd : ∀ (k d : Nat), 2 ^ k ∣ S5 d → 2 ^ k ∣ d
  | 0, d, _ => by simp
  | k + 1, d, h => by
    have h2 : 2 ∣ S5 d := Nat.dvd_trans ⟨2 ^ k, by rw [Nat.pow_succ, Nat.mul_comm]⟩ h
    have hd : d % 2 = 0 := by
      rw [← S5_par]
      exact Nat.mod_eq_zero_of_dvd h2
    obtain ⟨e, rfl⟩ : ∃ e, d = 2 * e := ⟨d / 2, by omega⟩
    obtain ⟨q, hq⟩ := five4 e
    rw [S5_two, hq, show 4 * q + 1 + 1 = 2 * (2 * q + 1) by omega, Nat.mul_assoc, Nat.pow_succ, Nat.mul_comm (2 ^ k) 2] at h
    rw [Nat.pow_succ, Nat.mul_comm (2 ^ k) 2]
    exact Nat.mul_dvd_mul_left 2 (S5_dvd k e (strip_odd (by omega) k _ (Nat.dvd_of_mul_dvd_mul_left (by decide) h)))
/-- the masks -/
def Mk (m : Nat) : Prop := ∃ k, m + 1 = 2 ^ k ∧ 3 ≤ k ∧ k ≤ 13
theorem lcgI_T5 {m i : Nat} (hi : i ≤ m) : ∀ n, lcgI m i n = T5 i n % (m + 1)
  | 0 => (Nat.mod_eq_of_lt (Nat.lt_succ_of_le hi)).symm
  | n + 1 => by
    show (lcgI m i n * 5 + 1) % (m + 1) = (5 * T5 i n + 1) % (m + 1)
    rw [lcgI_T5 hi n, Nat.add_mod, Nat.mul_mod, Nat.mod_mod, ← Nat.mul_mod, ← Nat.add_mod, Nat.mul_comm]
theorem lcgI_ne {m i a d : Nat} (hm : Mk m) (hi : i ≤ m) (d0 : 0 < d) (hd : d ≤ m) : lcgI m i (d + a) ≠ lcgI m i a := fun e => by
  obtain ⟨k, ek, _⟩ := hm
  rw [lcgI_T5 hi, lcgI_T5 hi] at e
  have z := Nat.sub_mod_eq_zero_of_mod_eq e
  rw [T5_add, Nat.add_sub_cancel_left, ek] at z
  obtain ⟨q, hq⟩ := five4 a
  have z1 := strip_odd (show 5 ^ a % 2 = 1 by omega) k _ (Nat.dvd_of_mod_eq_zero z)
  rw [Nat.mul_comm] at z1
  have z2 := S5_dvd k d (strip_odd (show (4 * i + 1) % 2 = 1 by omega) k _ z1)
  have := Nat.le_of_dvd d0 z2
  omega
theorem lcgI_lt {m i : Nat} (hi : i ≤ m) : ∀ n, lcgI m i n ≤ m
  | 0 => hi
  | n + 1 => Nat.le_of_lt_succ (Nat.mod_lt _ (Nat.succ_pos _))
theorem lcgI_on {m i j : Nat} (hm : Mk m) (hi : i ≤ m) (hj : j ≤ m) : ∃ n, n ≤ m ∧ lcgI m i n = j := by
  refine Classical.byContradiction fun no => ?_
  have nd : (j :: (List.range (m + 1)).map (lcgI m i)).Nodup := by
    refine List.nodup_cons.mpr ⟨fun mj => ?_, ?_⟩
    · obtain ⟨n, mn, e⟩ := List.mem_map.mp mj
      exact no ⟨n, Nat.le_of_lt_succ (List.mem_range.mp mn), e⟩
    · refine List.pairwise_map.mpr (List.Pairwise.imp_of_mem (fun {a b} ma mb ab e => ?_) List.pairwise_lt_range)
      have := List.mem_range.mp mb
      have ab : a < b := ab
      refine lcgI_ne (a := a) (d := b - a) hm hi (by omega) (by omega) ?_
      rw [show b - a + a = b by omega]
      exact e.symm
  have := nat_nodup_len _ (List.range (m + 1)) nd fun x mx => by
    rcases List.mem_cons.mp mx with e | mx
    · rw [e]
      exact List.mem_range.mpr (Nat.lt_succ_of_le hj)
    · obtain ⟨n, _, rfl⟩ := List.mem_map.mp mx
      exact List.mem_range.mpr (Nat.lt_succ_of_le (lcgI_lt hi n))
  rw [List.length_cons, List.length_map, List.length_range] at this
  omega
theorem runs_on {m j : Nat} (hm : Mk m) (h : Int) (hj : j ≤ m) : ∃ n, n ≤ m + 12 ∧ runI m (SetTable.bits h) n = j := by
  obtain ⟨n, ln, e⟩ := lcgI_on hm (runI_le m (SetTable.bits h) 12) hj
  refine ⟨12 + n, by omega, ?_⟩
  rw [runI_tail (bits_lt h)]
  exact e
theorem way_top {m : Nat} (h : Int) (c : Nat) : way m h c ≤ m := by
  have b := runEnd_bd (m := m) (i := SetTable.bits h % (m + 1)) (Nat.le_of_lt_succ (Nat.mod_lt _ (Nat.succ_pos _)))
  have z := nth_in (m := m) c (runAt m (SetTable.bits h % (m + 1)) (SetTable.bits h)) (by
    show _ % (m + 1) + (SetTable.runEnd m _ - _) ≤ m
    omega)
  have z : way m h c + _ ≤ m := z
  omega
theorem way_on {m j : Nat} (hm : Mk m) (h : Int) (hj : j ≤ m) : ∃ c, c < 10 * SetTable.turns m ∧ way m h c = j := by
  obtain ⟨n, ln, e⟩ := runs_on hm h hj
  obtain ⟨c, lc, e2⟩ := run_nth m (SetTable.bits h) n
  refine ⟨c, ?_, ?_⟩
  · have : SetTable.turns m = m + 15 := rfl
    omega
  · show (nth m _ c).j = j
    rw [e2]
    exact e
/-! ### the table -/
structure Tab (t : SetTable) (hs : List Int) : Prop where
  up : Ris t.place.toList
  nodum : t.dummies = #[]
  size : t.place.size = hs.length
  pow : Mk t.mask
  top : ∀ x ∈ t.place.toList, x ≤ t.mask
  met : ∀ (i : Nat) (g : Int) (j : Nat), hs[i]? = some g → t.place.toList[i]? = some j → ∃ c, way t.mask g c = j ∧ ∀ d < c, way t.mask g d ∈ t.place.toList
theorem Tab.len {t : SetTable} {hs : List Int} (T : Tab t hs) : t.place.toList.length = hs.length := Array.length_toList.trans T.size
theorem Mk.odd {m : Nat} (h : Mk m) : m % 2 = 1 := by
  obtain ⟨k, e, k3, _⟩ := h
  obtain ⟨j, rfl⟩ : ∃ j, k = j + 1 := ⟨k - 1, by omega⟩
  rw [Nat.pow_succ] at e
  omega
theorem Mk.le {m : Nat} (h : Mk m) : m ≤ 8191 := by
  obtain ⟨k, e, _, k13⟩ := h
  have : 2 ^ k ≤ 2 ^ 13 := Nat.pow_le_pow_right (by decide) k13
  omega
/-- where a search ends -/
theorem Tab.gap {t : SetTable} {hs : List Int} (T : Tab t hs) (l : hs.length ≤ t.mask) (g : Int) : ∃ c, c < 10 * SetTable.turns t.mask ∧ way t.mask g c ∉ t.place.toList ∧ ∀ d < c, way t.mask g d ∈ t.place.toList := by
  obtain ⟨j, lj, nj⟩ := st_missing t.place.toList (t.mask + 1) (by rw [T.len]; omega)
  obtain ⟨c0, l0, e0⟩ := way_on T.pow g (Nat.le_of_lt_succ lj)
  obtain ⟨c, lc, hc, low⟩ := st_least (p := fun c => way t.mask g c ∉ t.place.toList) c0 (by rw [e0]; exact nj)
  exact ⟨c, by omega, hc, fun d ld => Classical.not_not.mp (low d ld)⟩
/-- what is in the table is met before that -/
theorem Tab.ahead {t : SetTable} {hs : List Int} (T : Tab t hs) {g : Int} {c i j : Nat} (hc : way t.mask g c ∉ t.place.toList) (hi : hs[i]? = some g) (hj : t.place.toList[i]? = some j) : ∃ d < c, way t.mask g d = j := by
  obtain ⟨d, e, low⟩ := T.met i g j hi hj
  refine ⟨d, Nat.lt_of_not_le fun le => ?_, e⟩
  rcases Nat.eq_or_lt_of_le le with q | q
  · refine hc ?_
    rw [q, e]
    exact List.mem_of_getElem? hj
  · exact hc (low c q)
/-- one more -/
theorem Tab.more {t : SetTable} {hs : List Int} (T : Tab t hs) {g : Int} {c : Nat} (hc : way t.mask g c ∉ t.place.toList) (low : ∀ d < c, way t.mask g d ∈ t.place.toList) :
    ∃ p, (t.put (way t.mask g c)).2 = p ∧ p ≤ hs.length ∧ Tab (t.put (way t.mask g c)).1 (hs.take p ++ g :: hs.drop p) ∧ (t.put (way t.mask g c)).1.fill = hs.length + 1 := by
  obtain ⟨j, hj⟩ : ∃ j, way t.mask g c = j := ⟨_, rfl⟩
  have jt : j ≤ t.mask := hj ▸ way_top g c
  rw [hj] at hc ⊢
  have cut := (below_cut T.up j).1
  refine ⟨SetTable.below t.place j, rfl, T.size ▸ cut, ?_, ?_⟩
  · have lh : SetTable.below t.place j ≤ hs.length := T.size ▸ cut
    have lp : SetTable.below t.place j ≤ t.place.toList.length := T.len ▸ lh
    have pl := put_place t j
    have into : ∀ {x : Nat}, x ∈ t.place.toList → x ∈ (t.put j).1.place.toList := fun h => by
      rw [pl]
      exact L2.mem_ins.mpr (.inr h)
    constructor
    · exact ris_insert T.up fun e => hc (List.mem_of_getElem? ((Array.getElem?_toList).trans e))
    · exact put_dm T.nodum j
    · rw [len_ins hs lh, ← T.len, ← len_ins _ lp j, ← pl, Array.length_toList]
    · exact T.pow
    · intro x mx
      rw [pl] at mx
      exact (L2.mem_ins.mp mx).elim (fun e => e ▸ jt) (T.top x)
    · intro i g' j' hg' hj'
      show ∃ c', way t.mask g' c' = j' ∧ ∀ d < c', way t.mask g' d ∈ (t.put j).1.place.toList
      rw [tins_get hs lh] at hg'
      rw [pl, tins_get _ lp] at hj'
      have old : ∀ n, hs[n]? = some g' → t.place.toList[n]? = some j' → ∃ c', way t.mask g' c' = j' ∧ ∀ d < c', way t.mask g' d ∈ (t.put j).1.place.toList := fun n a b => by
        obtain ⟨c', e, low'⟩ := T.met n g' j' a b
        exact ⟨c', e, fun d ld => into (low' d ld)⟩
      rcases Nat.lt_trichotomy i (SetTable.below t.place j) with z | z | z
      · rw [if_pos z] at hg' hj'
        exact old i hg' hj'
      · have nz : ¬ i < SetTable.below t.place j := by omega
        rw [if_neg nz, if_pos z] at hg' hj'
        cases hg'
        cases hj'
        exact ⟨c, hj, fun d ld => into (low d ld)⟩
      · have nz : ¬ i < SetTable.below t.place j := by omega
        have ne : ¬ i = SetTable.below t.place j := by omega
        rw [if_neg nz, if_neg ne] at hg' hj'
        exact old (i - 1) hg' hj'
  · have lh : SetTable.below t.place j ≤ hs.length := T.size ▸ cut
    have lp : SetTable.below t.place j ≤ t.place.toList.length := T.len ▸ lh
    show (t.put j).1.place.size + (t.put j).1.dummies.size = _
    rw [put_dm T.nodum j, ← Array.length_toList, put_place, len_ins _ lp, T.len]
    rfl
/-! ### laid anew -/
theorem gap_free {m : Nat} (hm : Mk m) (ow : Array (Option Nat)) (g : Int) {j : Nat} (hj : j ≤ m) (fr : oAt ow j = none) :
    ∃ c, SetTable.layClean.free m ow (SetTable.turns m) (SetTable.bits g % (m + 1)) (SetTable.bits g) = some (way m g c) ∧ oAt ow (way m g c) = none ∧ ∀ d < c, oAt ow (way m g d) ≠ none := by
  obtain ⟨n, ln, e⟩ := runs_on hm g hj
  have at_n : way m g (off m (SetTable.bits g % (m + 1)) (SetTable.bits g) n) = j := by
    unfold way
    rw [nth_off, itL_run]
    exact e
  obtain ⟨c, lc, hc, low⟩ := st_least (p := fun c => oAt ow (way m g c) = none) _ (by rw [at_n]; exact fr)
  have t15 : SetTable.turns m = m + 15 := rfl
  refine ⟨c, free_spec m ow _ n _ _ c (by omega) lc (fun d ld => ?_) ?_, hc, low⟩
  · show (oAt ow (way m g d)).isNone = false
    cases z : oAt ow (way m g d) with
    | none => exact (low d ld z).elim
    | some _ => rfl
  · show (oAt ow (way m g c)).isNone = true
    rw [hc]
    rfl
theorem own_next {m : Nat} (hm : Mk m) {hs : List Int} {ow : Array (Option Nat)} (W : Own m hs ow) (l : hs.length ≤ m) (g : Int) :
    ∃ j, SetTable.layClean.free m ow (SetTable.turns m) (SetTable.bits g % (m + 1)) (SetTable.bits g) = some j ∧ Own m (hs ++ [g]) (ow.setIfInBounds j (some hs.length)) := by
  obtain ⟨us, lu, hu⟩ := W.ps
  obtain ⟨j0, l0, n0⟩ := st_missing us (m + 1) (by omega)
  have f0 : oAt ow j0 = none := Classical.byContradiction fun z => n0 (hu j0 (Nat.le_of_lt_succ l0) z)
  obtain ⟨c, e, hc, low⟩ := gap_free hm ow g (Nat.le_of_lt_succ l0) f0
  obtain ⟨j, ej⟩ : ∃ j, way m g c = j := ⟨_, rfl⟩
  have jm : j ≤ m := ej ▸ way_top g c
  rw [ej] at e hc
  have js : j < ow.size := by
    rw [W.sz]
    omega
  refine ⟨j, e, ?_⟩
  have here := oAt_set_self (some hs.length) js
  have there : ∀ {i : Nat}, i ≠ j → oAt (ow.setIfInBounds j (some hs.length)) i = oAt ow i := fun ne => oAt_set_ne _ ne
  have keep : ∀ {i : Nat}, oAt ow i ≠ none → oAt (ow.setIfInBounds j (some hs.length)) i ≠ none := fun {i} h => by
    by_cases z : i = j
    · rw [z, here]
      intro y
      cases y
    · rwa [there z]
  constructor
  · rw [Array.size_setIfInBounds, W.sz]
  · intro i k li hk
    by_cases z : i = j
    · rw [z, here] at hk
      cases hk
      exact ⟨g, c, by simp, ej.trans z.symm, fun d ld => keep (low d ld)⟩
    · rw [there z] at hk
      obtain ⟨g', c', a1, a2, a3⟩ := W.at_ i k li hk
      exact ⟨g', c', by rw [List.getElem?_append_left (List.getElem?_eq_some_iff.mp a1).1, a1], a2, fun d ld => keep (a3 d ld)⟩
  · intro k lk
    by_cases z : k = hs.length
    · subst z
      exact ⟨j, jm, here⟩
    · obtain ⟨i, li, hi⟩ := W.all k (by rw [List.length_append, List.length_singleton] at lk; omega)
      refine ⟨i, li, ?_⟩
      rwa [there fun y => ?_]
      rw [y, hc] at hi
      cases hi
  · refine ⟨j :: us, by simp [lu], fun i li hi => ?_⟩
    by_cases z : i = j
    · rw [z]
      exact List.mem_cons_self
    · rw [there z] at hi
      exact List.mem_cons_of_mem _ (hu i li hi)
theorem own_all {m : Nat} (hm : Mk m) : ∀ (gs hs : List Int) (ow : Array (Option Nat)), Own m hs ow → hs.length + gs.length ≤ m →
    ∃ ow', gs.foldl (stepF m) (some (ow, hs.length)) = some (ow', hs.length + gs.length) ∧ Own m (hs ++ gs) ow'
  | [], hs, ow, W, _ => ⟨ow, rfl, by rwa [List.append_nil]⟩
  | g :: gs, hs, ow, W, l => by
    rw [List.length_cons] at l ⊢
    obtain ⟨j, e, W1⟩ := own_next hm W (by omega) g
    have l1 : (hs ++ [g]).length = hs.length + 1 := by simp
    obtain ⟨ow', f, W2⟩ := own_all hm gs _ _ W1 (by omega)
    rw [l1] at f
    rw [List.append_assoc] at W2
    refine ⟨ow', ?_, W2⟩
    rw [List.foldl_cons, stepF_some e, f]
    congr 2
    omega
theorem lay_all {m : Nat} (hm : Mk m) {hs : Array Int} (l : hs.size ≤ m) : ∃ ow, SetTable.layClean m hs = some ow ∧ Own m hs.toList ow := by
  obtain ⟨ow, f, W⟩ := own_all hm hs.toList [] _ (Own.init m) (by rw [Array.length_toList]; show 0 + hs.size ≤ m; omega)
  rw [List.nil_append] at W
  refine ⟨ow, ?_, W⟩
  rw [layClean_eq]
  have f : hs.toList.foldl (stepF m) (some (Array.replicate (m + 1) none, 0)) = some (ow, _) := f
  rw [f]
  rfl
theorem relaid_tab (t : SetTable) {hs : Array Int} {wt m : Nat} (hw : SetTable.sizeAbove wt = m + 1) (hm : Mk m) (l : hs.size ≤ m) :
    ∃ t' od, t.relaid hs wt = some (t', od) ∧ od.toList.Perm (List.range hs.size) ∧ Tab t' (od.toList.map fun i => hs.getD i 0) ∧ t'.mask = m ∧ t'.led = t.led ∧ t'.plain = t.plain := by
  obtain ⟨ow, e, W⟩ := lay_all hm l
  have hw' : SetTable.sizeAbove wt - 1 = m := by omega
  have live := @mem_live m ow W.sz
  have ris := ris_live (fun j => ow.getD j none) (List.range (m + 1)) (show List.Pairwise (· < ·) _ from List.pairwise_lt_range)
  have nd : ((liveOf m ow).map (·.1)).Nodup := List.Pairwise.imp (fun {a b} (h : a < b) => Nat.ne_of_lt h) (show List.Pairwise (· < ·) ((liveOf m ow).map (·.1)) from ris.1)
  have size : (liveOf m ow).length = hs.size := by
    refine Nat.le_antisymm ?_ ?_
    · obtain ⟨us, lu, hu⟩ := W.ps
      have := nat_nodup_len _ us nd fun x mx => by
        obtain ⟨⟨y, k⟩, my, rfl⟩ := List.mem_map.mp mx
        obtain ⟨z1, z2⟩ := live.mp my
        exact hu y z1 (by rw [z2]; intro q; cases q)
      rwa [List.length_map, lu, Array.length_toList] at this
    · have := nat_nodup_len (List.range hs.size) ((liveOf m ow).map (·.2)) List.nodup_range fun k mk => by
        obtain ⟨j, z1, z2⟩ := W.all k (by rw [Array.length_toList]; exact List.mem_range.mp mk)
        exact List.mem_map.mpr ⟨(j, k), live.mpr ⟨z1, z2⟩, rfl⟩
      rwa [List.length_range, List.length_map] at this
  refine ⟨tabOf t m ow, ((liveOf m ow).map (·.2)).toArray, ?_, ?_, ?_, rfl, rfl, rfl⟩
  · rw [relaid_eq, hw', e]
    rfl
  · refine perm_range _ _ (by simp [size]) fun k lk => ?_
    obtain ⟨j, z1, z2⟩ := W.all k (by rw [Array.length_toList]; exact lk)
    exact List.mem_map.mpr ⟨(j, k), live.mpr ⟨z1, z2⟩, rfl⟩
  · refine ⟨ris.1, rfl, ?_, hm, fun x mx => Nat.le_of_lt_succ (List.mem_range.mp (ris.2 x mx)), fun i g j hg hj => ?_⟩
    · show ((liveOf m ow).map (·.1)).toArray.size = _
      simp
    · have hg : (((liveOf m ow).map (·.2)).map fun i => hs.getD i 0)[i]? = some g := hg
      have hj : ((liveOf m ow).map (·.1))[i]? = some j := hj
      rw [List.getElem?_map] at hj
      obtain ⟨⟨y, k⟩, hq, rfl⟩ := Option.map_eq_some_iff.mp hj
      rw [List.getElem?_map, List.getElem?_map, hq] at hg
      have hg : hs.getD k 0 = g := Option.some.inj hg
      obtain ⟨z1, z2⟩ := live.mp (List.mem_of_getElem? hq)
      obtain ⟨g', c, a1, a2, a3⟩ := W.at_ y k z1 z2
      have eg : g' = g := by
        rw [← hg, Array.getD_eq_getD_getElem?, ← Array.getElem?_toList, a1]
        rfl
      subst eg
      refine ⟨c, a2, fun d ld => ?_⟩
      show way m g' d ∈ (liveOf m ow).map (·.1)
      cases q : oAt ow (way m g' d) with
      | none => exact (a3 d ld q).elim
      | some k' => exact List.mem_map.mpr ⟨(_, k'), live.mpr ⟨way_top g' d, q⟩, rfl⟩
end Vx
namespace Vx
open PySem PySem.Spec PyProof.Rows L2
/-! ### a set of up to some thousand tuples -/
def seat (m : Nat) (g : Int) (c : Nat) : SetTable.Probe := nth m (runAt m (SetTable.bits g % (m + 1)) (SetTable.bits g)) c
theorem seat_j (m : Nat) (g : Int) (c : Nat) : (seat m g c).j = way m g c := rfl
theorem seat_add (m : Nat) (g : Int) (c q : Nat) : nth m (seat m g c) q = seat m g (c + q) := (nth_add m c _ q).symm
theorem nth_dummy (m : Nat) : ∀ (n : Nat) (p : SetTable.Probe), p.dummy = none → (nth m p n).dummy = none
  | 0, _, h => h
  | n + 1, p, h => nth_dummy m n (adv m p) (by unfold adv; split <;> exact h)
theorem seat_dummy (m : Nat) (g : Int) (c : Nat) : (seat m g c).dummy = none := nth_dummy m c _ rfl
abbrev hashes (P : Program) (w : World) (L : List (Addr × List Int)) : List Int := L.map fun p => thash P w p.2
structure MT (P : Program) (w : World) (h : Heap) (a : Addr) (L : List (Addr × List Int)) (es : Array (Int × Value)) (ep : Nat) (t : SetTable) : Prop where
  obj : ∃ o, h.get? a = some o ∧ o.ExactSet ∧ o.data = .set es ep t
  rws : es.toList = rowsOf P w L
  tb : Tab t (hashes P w L)
  ndp : (L.map (·.2)).Nodup
  tps : ∀ p ∈ L, IsT P w h p.2 p.1
  pln : t.plain = true
  ld : w.params.followText "set-order" = true ∨ t.led = true
  roomy : L.length * 5 < t.mask * 3
section
variable {P : Program} {w : World} {A : Around} {E : Value → Shared → Prop} {s : Shared} {a : Addr} {L : List (Addr × List Int)} {es : Array (Int × Value)} {ep : Nat} {t : SetTable}
theorem rows_size (h : es.toList = rowsOf P w L) : es.size = L.length := by
  rw [← Array.length_toList, h]
  exact List.length_map _
theorem MT.sz (R : MT P w s.heap a L es ep t) : es.size = L.length := rows_size R.rws
theorem MT.place (R : MT P w s.heap a L es ep t) : t.place.size = L.length := R.tb.size.trans (List.length_map _)
theorem fits_of {n : Nat} (h1 : t.place.size = n) (h2 : t.dummies = #[]) (h3 : n ≤ t.mask) : t.fits n = true := by
  unfold SetTable.fits SetTable.fill
  rw [h2, h1]
  simp [h3]
theorem MT.fit (R : MT P w s.heap a L es ep t) : t.fits es.size = true := by
  have := R.roomy
  have := R.sz
  exact fits_of (R.place.trans R.sz.symm) R.tb.nodum (by omega)
theorem MT.row (R : MT P w s.heap a L es ep t) {i : Nat} {p : Addr × List Int} (h : L[i]? = some p) : es[i]? = some (thash P w p.2, .ref p.1) := by
  rw [← Array.getElem?_toList, R.rws, rowsOf, List.getElem?_map, h]
  rfl
theorem MT.stays (R : MT P w s.heap a L es ep t) : ¬ t.gaveWay = true := by
  have := R.tb.pow.odd
  unfold SetTable.gaveWay
  simp [this]
/-- the search, from the c-th seat on; C is the first free one -/
theorem MT.seek (R : MT P w s.heap a L es ep t) {x : Addr} {k : List Int} (hx : IsT P w s.heap k x) (hu : A.units < cLine) {C : Nat} (hC : C < 10 * SetTable.turns t.mask)
    (free : way t.mask (thash P w k) C ∉ t.place.toList) (full : ∀ d < C, way t.mask (thash P w k) d ∈ t.place.toList) {Q : SetFound → Shared → Prop}
    (yes : k ∈ L.map (·.2) → Q (.there none) s) (no : k ∉ L.map (·.2) → Q (.free (way t.mask (thash P w k) C) false) s) : ∀ (f c : Nat) (st : Option SetTable.Probe),
      st.getD (t.probeStart (thash P w k)) = seat t.mask (thash P w k) c → c ≤ C → C < c + f →
      (∀ (i : Nat) (p : Addr × List Int), L[i]? = some p → p.2 = k → ∃ d, c ≤ d ∧ d < C ∧ t.place.toList[i]? = some (way t.mask (thash P w k) d)) →
      wpAny (model P w) A (setSearchFrom a (.ref x) (thash P w k) true f st) Q E s := by
  obtain ⟨o, go, xo, dat⟩ := R.obj
  obtain ⟨g, eg⟩ : ∃ g, thash P w k = g := ⟨_, rfl⟩
  rw [eg] at free full no ⊢
  intro f
  induction f with
  | zero => intro c st _ _ lt; omega
  | succ f ih =>
    intro c st hst le lt ahead
    rw [setSearchFrom_succ]
    refine wpAny_bind (wpAny_setState_of go dat R.fit ?_)
    dsimp only
    refine wp_if_neg R.stays ?_
    try refine wpAny_bind (wpAny_pure ?_)
    have lookup := go_spec t R.tb.up R.tb.nodum (fun i => (es[i]?.map (·.1)).getD 0) g (10 * SetTable.turns t.mask) (C - c) (seat t.mask g c) (seat_dummy _ _ _) (by omega)
      (fun d ld => by rw [seat_add]; exact full _ (by omega)) (by rw [seat_add, show c + (C - c) = C by omega]; exact free)
    simp only [seat_add, seat_j] at lookup
    have hash : ∀ (i : Nat) (p : Addr × List Int), L[i]? = some p → p.2 = k → ((es[i]?.map (·.1)).getD 0) = g := fun i p h e => by
      rw [R.row h, e]
      exact eg
    have probe : t.probe (fun i => (es[i]?.map (·.1)).getD 0) g (st.getD (t.probeStart g)) = SetTable.probe.go t (fun i => (es[i]?.map (·.1)).getD 0) g (10 * SetTable.turns t.mask) (seat t.mask g c) := by rw [hst]; rfl
    rw [probe]
    rcases lookup with ⟨q, i, lq, hi, _, before, res⟩ | ⟨none', res⟩
    · rw [res]
      dsimp only
      obtain ⟨p, hp⟩ : ∃ p, L[i]? = some p := by
        have li := (List.getElem?_eq_some_iff.mp hi).1
        rw [Array.length_toList, R.place] at li
        exact ⟨_, List.getElem?_eq_getElem li⟩
      have mp := List.mem_of_getElem? hp
      have hsl := slot_live R.tb.up hi
      have go_on : wpAny (model P w) A (searchRest a (.ref x) g true f es t (way t.mask g (c + q)) i (seat t.mask g (c + (q + 1)))) Q E s := by
        unfold searchRest
        rw [R.row hp]
        dsimp only
        refine wpAny_bind (wpAny_holding (wpAny_eqBool_tuple hu (R.tps p mp) hx ?_))
        refine wpAny_bind (wpAny_setState_of go dat R.fit ?_)
        dsimp only
        by_cases same : p.2 = k
        · exact wp_if_pos (by simp [same]) (wpAny_pure (yes (List.mem_map.mpr ⟨p, mp, same⟩)))
        · refine wp_if_neg (by simp [same]) ?_
          try refine wpAny_bind (wpAny_pure ?_)
          rw [sameMem]
          dsimp only
          simp only [if_true, hsl, R.row hp]
          refine wpAny_bind (wpAny_isSame_ref_self (wpAny_bind (wpAny_pure ?_)))
          simp only [if_true]
          refine wp_if_neg (by simp [same]) (ih (c + (q + 1)) _ rfl (by omega) (by omega) fun i' p' h' e' => ?_)
          obtain ⟨d, b1, b2, b3⟩ := ahead i' p' h' e'
          refine ⟨d, Nat.lt_of_not_le fun le' => ?_, b2, b3⟩
          rcases Nat.eq_or_lt_of_le le' with e | l
          · rw [e] at b3
            have z := (slot_live R.tb.up b3).symm.trans hsl
            injection z with z
            rw [z, hp] at h'
            cases h'
            exact same e'
          · have l : d < c + q := l
            exact before (d - c) i' (by omega) (by rw [show c + (d - c) = d by omega]; exact b3) (hash i' p' h' e')
      by_cases lead : t.led = true
      · refine wp_if_neg (by simp [lead]) ?_
        try refine wpAny_bind (wpAny_pure ?_)
        exact go_on
      · refine wp_if_pos (by simp [lead]) (wpAny_bind (seen_tup hx (fun y my => ?_) (wp_if_neg (by decide) ?_)))
        · obtain ⟨e, me, rfl⟩ := List.mem_map.mp my
          have me : e ∈ es.toList := by
            have : e ∈ es ∧ e.1 = g := by simpa using me
            simpa using this.1
          rw [R.rws] at me
          obtain ⟨p', mp', rfl⟩ := List.mem_map.mp me
          exact ⟨_, _, rfl, R.tps p' mp'⟩
        · try refine wpAny_bind (wpAny_pure ?_)
          exact go_on
    · rw [res, show c + (C - c) = C by omega]
      dsimp only
      refine wpAny_pure (no fun m => ?_)
      obtain ⟨p, mp, e⟩ := List.mem_map.mp m
      obtain ⟨i, li, ei⟩ := List.getElem_of_mem mp
      have h' : L[i]? = some p := by rw [List.getElem?_eq_getElem li, ei]
      obtain ⟨d, b1, b2, b3⟩ := ahead i p h' e
      exact none' (d - c) i (by omega) (by rw [show c + (d - c) = d by omega]; exact b3) (hash i p h' e)
theorem MT.search (R : MT P w s.heap a L es ep t) {x : Addr} {k : List Int} (hx : IsT P w s.heap k x) (hu : A.units < cLine) {Q : SetFound → Shared → Prop} (yes : k ∈ L.map (·.2) → Q (.there none) s)
    (no : ∀ C, k ∉ L.map (·.2) → way t.mask (thash P w k) C ∉ t.place.toList → (∀ d < C, way t.mask (thash P w k) d ∈ t.place.toList) → Q (.free (way t.mask (thash P w k) C) false) s) :
    wpAny (model P w) A (setSearch a (.ref x) (thash P w k) true) Q E s := by
  have rm := R.roomy
  have big := R.tb.pow.le
  obtain ⟨C, hC, free, full⟩ := R.tb.gap (by rw [hashes, List.length_map]; omega) (thash P w k)
  have t15 : SetTable.turns t.mask = t.mask + 15 := rfl
  unfold setSearch
  refine R.seek hx hu hC free full yes (fun n => no C n free full) 100000 0 none rfl (Nat.zero_le _) (by omega) fun i p hp e => ?_
  have li : i < t.place.toList.length := by
    rw [Array.length_toList, R.place]
    exact (List.getElem?_eq_some_iff.mp hp).1
  obtain ⟨d, ld, e2⟩ := R.tb.ahead (i := i) free (by rw [hashes, List.getElem?_map, hp, ← e]; rfl) (List.getElem?_eq_getElem li)
  exact ⟨d, Nat.zero_le _, ld, by rw [e2]; exact List.getElem?_eq_getElem li⟩
theorem MT.relay {o : Obj} (go : s.heap.get? a = some o) (xo : o.ExactSet) (dat : o.data = .set es ep t) (rws : es.toList = rowsOf P w L) (pl : t.place.size = es.size) (dm : t.dummies = #[]) (fl : es.size ≤ t.mask)
    (nd : (L.map (·.2)).Nodup) (tps : ∀ p ∈ L, IsT P w s.heap p.2 p.1) (pn : t.plain = true) (led : w.params.followText "set-order" = true ∨ t.led = true) {wt m : Nat} (hw : SetTable.sizeAbove wt = m + 1) (hm : Mk m) (rm : L.length * 5 < m * 3)
    {Q : Unit → Shared → Prop} (hQ : ∀ h' L' es' ep' t', Heap.SameBut a s.heap h' → MT P w h' a L' es' ep' t' → t'.mask = m → L'.Perm L → Q () { s with heap := h' }) : wpAny (model P w) A (setRelay a wt) Q E s := by
  have sz := rows_size rws
  have big := hm.le
  obtain ⟨t', od, e, pm, T, em, el, ep'⟩ := relaid_tab t (hs := es.map (·.1)) hw hm (by rw [Array.size_map, sz]; omega)
  rw [Array.size_map, sz] at pm
  obtain ⟨L2, r1, r2, r3⟩ := order_rows L es od rws pm
  rw [← r3] at T
  have sz2 : (od.filterMap (es[·]?)).size = es.size := (rows_size r1).trans (r2.length_eq.trans sz.symm)
  have line := sizeLine_eq
  rw [setRelay_eq]
  refine wpAny_bind (wpAny_setState_of go dat (fits_of pl dm fl) ?_)
  dsimp only
  refine wp_if_neg (by omega) ?_
  try refine wpAny_bind (wpAny_pure ?_)
  rw [e]
  dsimp only
  refine wpAny_bind (wp_if_neg (by simp [sz2]) ?_)
  try refine wpAny_bind (wpAny_pure ?_)
  refine wpAny_pure ?_
  dsimp only
  have but : Heap.SameBut a s.heap (s.heap.update a (Obj.putSet (od.filterMap (es[·]?)) t')) := Heap.SameBut.update ..
  refine wpAny_storeSet_of go dat (hQ _ L2 _ (ep + 1) t' but ⟨⟨_, store_at go dat, ⟨xo.1, xo.2.1, xo.2.2⟩, rfl⟩, r1, T, (r2.map (·.2)).nodup_iff.mpr nd, fun p mp => isT_same (tps p (r2.mem_iff.mp mp)) go dat but, ep' ▸ pn, el ▸ led, ?_⟩ em r2) (by omega)
  rw [r2.length_eq, em]
  exact rm
theorem mk7 : Mk 7 := ⟨3, rfl, by decide, by decide⟩
/-- the next size of a table -/
theorem next_size {n m : Nat} (hm : m = 7 ∨ m = 31 ∨ m = 127 ∨ m = 511 ∨ m = 2047) (l : n * 5 < m * 3) (u : (n + 1) * 5 ≥ m * 3) : ∃ m', SetTable.sizeAbove (SetTable.grown (n + 1)) = m' + 1 ∧ Mk m' ∧ (n + 1) * 5 < m' * 3 ∧ (m' = 31 ∨ m' = 127 ∨ m' = 511 ∨ m' = 2047 ∨ m' = 8191) := by
  rcases hm with e | e | e | e | e <;> subst e
  · obtain rfl : n = 4 := by omega
    exact ⟨31, by decide +kernel, ⟨5, rfl, by decide, by decide⟩, by decide, .inl rfl⟩
  · obtain rfl : n = 18 := by omega
    exact ⟨127, by decide +kernel, ⟨7, rfl, by decide, by decide⟩, by decide, .inr (.inl rfl)⟩
  · obtain rfl : n = 76 := by omega
    exact ⟨511, by decide +kernel, ⟨9, rfl, by decide, by decide⟩, by decide, .inr (.inr (.inl rfl))⟩
  · obtain rfl : n = 306 := by omega
    exact ⟨2047, by decide +kernel, ⟨11, rfl, by decide, by decide⟩, by decide, .inr (.inr (.inr (.inl rfl)))⟩
  · obtain rfl : n = 1228 := by omega
    exact ⟨8191, by decide +kernel, ⟨13, rfl, by decide, by decide⟩, by decide, .inr (.inr (.inr (.inr rfl)))⟩
end
end Vx
namespace Vx
open PySem PySem.Spec PyProof.Rows L2
section
variable {P : Program} {w : World} {A : Around} {E : Value → Shared → Prop} {s : Shared} {a : Addr} {L : List (Addr × List Int)} {es : Array (Int × Value)} {ep : Nat} {t : SetTable}
def Size6 (m : Nat) : Prop := m = 7 ∨ m = 31 ∨ m = 127 ∨ m = 511 ∨ m = 2047 ∨ m = 8191
/-- one tuple added -/
theorem MT.add (R : MT P w s.heap a L es ep t) (z6 : Size6 t.mask) {x : Addr} {k : List Int} (hx : IsT P w s.heap k x) (hu : A.units < cLine) (few : L.length < 4500) {Q : Bool → Shared → Prop}
    (hQ : ∀ b h' L' es' ep' t', Heap.SameBut a s.heap h' → MT P w h' a L' es' ep' t' → Size6 t'.mask → ((k ∈ L.map (·.2) ∧ L' = L) ∨ (k ∉ L.map (·.2) ∧ L'.Perm ((x, k) :: L))) → Q b { s with heap := h' }) :
    wpAny (model P w) A (setAddHashed a (.ref x) (thash P w k)) Q E s := by
  obtain ⟨o, go, xo, dat⟩ := R.obj
  have sz := R.sz
  have rm := R.roomy
  have line := sizeLine_eq
  unfold setAddHashed
  rw [show (100000 : Nat) = 99999 + 1 from rfl]
  refine wpAny_holding ?_
  rw [setAddHashedIn_succ]
  refine wpAny_bind (wpAny_setState_of go dat R.fit ?_)
  dsimp only
  refine wp_if_neg (by simp [byScan, Value.scannable]) ?_
  try refine wpAny_bind (wpAny_pure ?_)
  refine wpAny_bind (R.search hx hu (fun m => ?_) fun C m free full => ?_)
  · dsimp only
    exact wpAny_pure (hQ false s.heap L es ep t (Heap.SameBut.refl a s.heap) R z6 (.inl ⟨m, rfl⟩))
  · dsimp only
    refine wpAny_bind (wpAny_setState_of go dat R.fit ?_)
    dsimp only
    obtain ⟨p, ep1, lp, T1, fl⟩ := R.tb.more free full
    have pn1 : (t.put (way t.mask (thash P w k) C)).1.plain = true := R.pln
    have ld1 : w.params.followText "set-order" = true ∨ (t.put (way t.mask (thash P w k) C)).1.led = true := R.ld
    have mk1 : (t.put (way t.mask (thash P w k) C)).1.mask = t.mask := rfl
    generalize hpt : t.put (way t.mask (thash P w k) C) = pt at ep1 T1 fl pn1 ld1 mk1 ⊢
    obtain ⟨t1, p1⟩ := pt
    dsimp only at ep1 T1 fl pn1 ld1 mk1 ⊢
    subst ep1
    first
      | (refine wpAny_bind ?_; refine wp_if_pos pn1 ?_; refine hashBy_tup hx ?_)
      | refine wp_if_pos pn1 (wpAny_bind (hashBy_tup hx ?_))
    simp only [if_true]
    have ins : (SetTable.insertAt es p1 (thash P w k, Value.ref x)).toList = rowsOf P w (L.take p1 ++ (x, k) :: L.drop p1) := by
      rw [SetTable.toList_insertAt, R.rws, rows_put]
    have pm := put_perm L p1 (x, k)
    have hh : (hashes P w L).take p1 ++ thash P w k :: (hashes P w L).drop p1 = hashes P w (L.take p1 ++ (x, k) :: L.drop p1) := by
      unfold hashes
      rw [List.map_append, List.map_cons, List.map_take, List.map_drop]
    rw [hh] at T1
    rw [hashes, List.length_map] at fl
    generalize SetTable.insertAt es p1 (thash P w k, Value.ref x) = es1 at ins ⊢
    generalize L.take p1 ++ (x, k) :: L.drop p1 = L1 at pm T1 ins
    have l1 : L1.length = L.length + 1 := pm.length_eq
    have sz1 : es1.size = L.length + 1 := (rows_size ins).trans l1
    have nd1 : (L1.map (·.2)).Nodup := (pm.map (·.2)).nodup_iff.mpr (List.nodup_cons.mpr ⟨m, R.ndp⟩)
    refine wpAny_bind (wpAny_storeSet_of go dat ?_ (by omega))
    have but : Heap.SameBut a s.heap (s.heap.update a (Obj.putSet es1 t1)) := Heap.SameBut.update ..
    have go1 := store_at (es' := es1) (t' := t1) go dat
    generalize s.heap.update a (Obj.putSet es1 t1) = h1 at but go1 ⊢
    have tps1 : ∀ p ∈ L1, IsT P w h1 p.2 p.1 := fun p mp => (List.mem_cons.mp (pm.mem_iff.mp mp)).elim (fun e => e ▸ isT_same hx go dat but) fun mp => isT_same (R.tps p mp) go dat but
    have pl1 : t1.place.size = L1.length := T1.size.trans (List.length_map _)
    by_cases full1 : t1.tooFull = true
    · first
        | (refine wpAny_bind ?_; refine wp_if_pos (by simp [full1]) ?_)
        | (refine wp_if_pos (by simp [full1]) ?_; refine wpAny_bind ?_)
      have up : (L.length + 1) * 5 ≥ t.mask * 3 := by
        unfold SetTable.tooFull at full1
        rw [decide_eq_true_eq, fl, mk1] at full1
        exact full1
      have z5 : t.mask = 7 ∨ t.mask = 31 ∨ t.mask = 127 ∨ t.mask = 511 ∨ t.mask = 2047 := by
        rcases z6 with z | z | z | z | z | z
        · exact .inl z
        · exact .inr (.inl z)
        · exact .inr (.inr (.inl z))
        · exact .inr (.inr (.inr (.inl z)))
        · exact .inr (.inr (.inr (.inr z)))
        · omega
      obtain ⟨m', e1, e2, e3, e4⟩ := next_size z5 rm up
      rw [sz]
      refine MT.relay (s := { s with heap := h1 }) (L := L1) go1 ⟨xo.1, xo.2.1, xo.2.2⟩ rfl ins (by omega) T1.nodum (by omega) nd1 tps1 pn1 ld1 e1 e2 (by rw [l1]; exact e3) fun h2 L2 es2 ep2 t2 but2 R2 em2 pm2 => ?_
      have l2 : L2.length = L.length + 1 := pm2.length_eq.trans l1
      have z2 : Size6 t2.mask := by
        rw [em2]
        exact .inr e4
      exact wpAny_pure (hQ true h2 L2 es2 ep2 t2 (but.trans but2) R2 z2 (.inr ⟨m, pm2.trans pm⟩))
    · first
        | refine wp_if_neg (by simp [full1]) ?_
        | (refine wpAny_bind ?_; refine wp_if_neg (by simp [full1]) ?_; refine wpAny_pure ?_)
      refine wpAny_pure (hQ true h1 L1 es1 (ep + 1) t1 but ⟨⟨_, go1, ⟨xo.1, xo.2.1, xo.2.2⟩, rfl⟩, ins, T1, nd1, tps1, pn1, ld1, ?_⟩ (mk1 ▸ z6) (.inr ⟨m, pm⟩))
      unfold SetTable.tooFull at full1
      rw [decide_eq_true_eq, fl] at full1
      omega
theorem MT.up {h h' : Heap} (R : MT P w h a L es ep t) (ha : ∀ o, h.get? a = some o → h'.get? a = some o) (ht : ∀ p ∈ L, IsT P w h' p.2 p.1) : MT P w h' a L es ep t := by
  obtain ⟨⟨o, g, r⟩, r1, r2, r3, _, r5, r6, r7⟩ := R
  exact ⟨⟨o, ha o g, r⟩, r1, r2, r3, ht, r5, r6, r7⟩
theorem MT.empty {h : Heap} (ho : h.get? a = some (bareSet w)) : MT P w h a [] #[] 0 (.fresh 0 0 (!w.params.followText "set-order")) := by
  refine ⟨⟨_, ho, ⟨rfl, rfl, rfl⟩, rfl⟩, rfl, ⟨List.Pairwise.nil, rfl, rfl, mk7, fun x m => (by cases m), fun i g j e => (by simp at e)⟩, List.nodup_nil, fun p m => (by cases m), rfl, ?_, (by show 0 * 5 < 7 * 3; decide)⟩
  cases z : w.params.followText "set-order"
  · exact .inr rfl
  · exact .inl rfl
/-- all of them, one after the other -/
theorem add_all {I : Addr} {fp wr : List Addr} {G : Array GenState → Array GenState → Prop} {n : Nat} {Pv : Nat → Value → Prop} {St : Nat → Shared → Prop} {Z : Result → Shared → Prop} (W : WalksS P w A.in1 I fp wr G n Pv St) (S : Addr) (out : S ∉ fp)
    (ks : List (Addr × List Int)) (hn : n = ks.length) (few : ks.length ≤ 4500) (val : ∀ i v, Pv i v → ∃ p, ks[i]? = some p ∧ v = .ref p.1) (h0 : Heap) (hk : ∀ p ∈ ks, IsT P w h0 p.2 p.1) (nS : h0.get? S = none) (nw : ∀ b ∈ wr, h0.get? b = none) (hu : A.in1.units < cLine) :
    ∀ (d i : Nat) (s : Shared), i + d = n → St i s → (∀ b o, h0.get? b = some o → s.heap.get? b = some o) → (∃ L es ep t, MT P w s.heap S L es ep t ∧ Size6 t.mask ∧ Got ks i L) →
      (∀ s' L es ep t, Moved (S :: wr) G s s' → MT P w s'.heap S L es ep t → Size6 t.mask → Got ks n L → Z (.ok (.ret .none)) s') →
      codeAny (model P w) A (.builtin "set.update.loop" ⟨[.ref S, .ref I], []⟩) Z s := by
  have offw : S ∉ wr := fun m => out (W.sub _ m)
  have wider : ∀ b ∈ wr, b ∈ S :: wr := fun b m => List.mem_cons_of_mem _ m
  have still : ∀ {s s' : Shared}, Moved wr G s s' → (∀ b o, h0.get? b = some o → s.heap.get? b = some o) → ∀ b o, h0.get? b = some o → s'.heap.get? b = some o := fun mv kp b o e =>
    mv.heap b o (fun m => by rw [nw b m] at e; cases e) (kp b o e)
  intro d
  induction d with
  | zero =>
    intro i s hi st kp ⟨L, es, ep, t, hS, z6, g⟩ fin
    obtain rfl : i = n := hi
    refine codeAny_builtin F.entry_set_update_loop ?_
    rw [Around.under_plainId F.plain_set_update_loop _]
    show wpAny _ A.in1 (pyNext (.ref I) >>= _) _ _ s
    refine wpAny_bind (W.done s _ _ st fun s' mv => ?_)
    exact wpAny_pure (fin s' L es ep t (mv.mono wider) (hS.up (fun o e => mv.heap S o offw e) fun p mp => isT_keep (hk p (List.mem_of_mem_take (g.sub p mp))) (still mv kp)) z6 g)
  | succ d ih =>
    intro i s hi st kp ⟨L, es, ep, t, hS, z6, g⟩ fin
    refine codeAny_builtin F.entry_set_update_loop ?_
    rw [Around.under_plainId F.plain_set_update_loop _]
    show wpAny _ A.in1 (pyNext (.ref I) >>= _) _ _ s
    refine wpAny_bind (W.item i s _ _ (by omega) st fun v s' pv st' mv => ?_)
    obtain ⟨p, hp, rfl⟩ := val i v pv
    have kp' := still mv kp
    have hS' : MT P w s'.heap S L es ep t := hS.up (fun o e => mv.heap S o offw e) fun q mq => isT_keep (hk q (List.mem_of_mem_take (g.sub q mq))) kp'
    have hx : IsT P w s'.heap p.2 p.1 := isT_keep (hk p (List.mem_of_getElem? hp)) kp'
    show wpAny _ A.in1 (holding [Value.ref p.1] (setAdd S (.ref p.1)) >>= _) _ _ s'
    unfold setAdd
    refine wpAny_bind (wpAny_holding (wpAny_holding (wpAny_bind (wpAny_pyHash_tuple hu hx ?_))))
    have gl := g.len
    have li := (List.getElem?_eq_some_iff.mp hp).1
    refine MT.add (s := { s' with toks := s'.toks + (p.2.length + 1) }) hS' z6 hx hu (by omega) fun b h' L' es' ep' t' but hS2 z6' which => ?_
    have g' : Got ks (i + 1) L' := by
      rcases which with ⟨m, rfl⟩ | ⟨_, pm⟩
      · exact g.same hp m
      · exact g.more hp pm
    have kp2 : ∀ b o, h0.get? b = some o → h'.get? b = some o := fun b o e => by
      rw [but.2 b fun z => by rw [z, nS] at e; cases e]
      exact kp' b o e
    refine wpAny_pure ⟨plainId_quiet F.plain_set_update_loop _, ih (i + 1) _ (by omega) (W.frame _ s' _ _ st' (Nat.le_add_right _ _) fun b mb o e => ?_) kp2 ⟨L', es', ep', t', hS2, z6', g'⟩ fun s2 L2 es2 ep2 t2 mv2 r2 z2 g2 => ?_⟩
    · show h'.get? b = some o
      rw [but.2 b fun z : b = S => out (z ▸ mb)]
      exact e
    · refine fin s2 L2 es2 ep2 t2 (Moved.trans W.gtrans ((mv.mono wider).then_heap (Nat.le_add_right _ _) fun b o mb e => ?_) mv2) r2 z2 g2
      show h'.get? b = some o
      rw [but.2 b fun z : b = S => mb (z ▸ List.mem_cons_self)]
      exact e
theorem set_of_tups {l : Addr} {its : Array Value} (ks : List (Addr × List Int)) {Q : Value → Shared → Prop} (calm : A.handled = none) (hl : s.heap.IsList l its) (hi : its.toList = ks.map fun p => Value.ref p.1) (hk : ∀ p ∈ ks, IsT P w s.heap p.2 p.1) (few : ks.length ≤ 4500) (hu : A.units + 3 < cLine)
    (k : ∀ (g : Heap) (tk : Nat) L es ep t, MT P w g s.heap.objs.size L es ep t → Size6 t.mask → Got ks ks.length L → (∀ b o, s.heap.get? b = some o → g.get? b = some o) → Q (.ref s.heap.objs.size) { s with heap := g, toks := tk }) :
    wpAny (model P w) A (call (.type "set") [.ref l]) Q E s := by
  have len : its.size = ks.length := by rw [← Array.length_toList, hi, List.length_map]
  obtain ⟨c0, tl, hmro⟩ := F.called_set.mro
  have hmade := F.called_set.made
  have hsub := F.called_set.sub
  refine wpAny_call (codeAny_of_tree ?_)
  show wpAny _ _ (callAny (.type "set") _) _ _ _
  refine wpAny_pure ⟨Code.quiet_builtin _ (by decide +kernel), codeAny_builtin F.entry_type_call ?_⟩
  rw [Around.under_plain (weight_type_call_type "set" [.ref l] []) rfl]
  have n1 := F.called_set.notType
  have n2 := F.called_set.canCreate
  have n3 := F.typeCall_set_1 (.ref l)
  repeat (any_goals (first | assumption | wp_step))
  refine codeAny_mono (code_set_led1 (.ref l) (E := E) (Q₁ := fun ob s1 => ob = .ref s.heap.objs.size ∧ s1 = { s with heap := s.heap.push (bareSet w) }) ⟨rfl, rfl⟩) fun r s1 hr => ?_
  rcases r with e | fl
  · exact hr
  cases fl with
  | ret ob =>
    obtain ⟨rfl, rfl⟩ := hr
    have at0 : (s.heap.push (bareSet w)).get? s.heap.objs.size = some (bareSet w) := Heap.get?_push_size _ rfl
    have ty0 : Shared.TypeIs { s with heap := s.heap.push (bareSet w) } (.ref s.heap.objs.size) "set" := ⟨_, at0, rfl⟩
    have i1 := F.called_set.init.lookup
    have i2 := F.called_set.init.bind (.ref s.heap.objs.size)
    repeat (any_goals (first | assumption | wp_step))
    refine codeAny_mono (codeAny_call_builtin (R := wants (fun v s2 => v = .none ∧ ∃ g tk L es ep t, s2 = { s with heap := g, toks := tk } ∧ MT P w g s.heap.objs.size L es ep t ∧ Size6 t.mask ∧ Got ks ks.length L ∧
        (∀ b o, s.heap.get? b = some o → g.get? b = some o)) E) F.called_set.init.plain F.entry_set_init (check_set_init_1 ty0 ?_)) fun r2 s2 hr2 => ?_
    · obtain ⟨⟨oc, od, ob, osl⟩, hol, hcl, nl, hdl⟩ := hl
      simp only at hcl hdl
      subst hcl hdl
      have at1 : (s.heap.push (bareSet w)).get? l = some { cls := .type "list", dict := od, data := .seq its nl, slots := osl } := Heap.get?_push_of_some _ hol
      have q1 := F.sub_list_set
      have q2 := F.sub_list_frozenset
      have q3 : (Value.type "list" == Value.type "dict") = false := by decide
      have isl : (s.heap.push (bareSet w)).IsList l its := ⟨_, at1, rfl, nl, rfl⟩
      unfold Builtin.«set.__init__» noKeywords Builtin.Frozenset.updateFrom
      generalize hPI : pyIter = PI
      wp_walk
      subst hPI
      refine wpAny_pyIter_list isl ?_
      refine wpAny_bind (wpAny_runValue ?_)
      have lS : l < s.heap.objs.size := Heap.lt_size hol
      have calm3 : A.in1.in1.in1.handled = none := by simp [calm]
      have neI : l ≠ (s.heap.push (bareSet w)).objs.size := by
        rw [Heap.size_push]
        exact Nat.ne_of_lt (Nat.lt_succ_of_lt lS)
      have noS : s.heap.objs.size ∉ [(s.heap.push (bareSet w)).objs.size, l] := by
        rw [Heap.size_push]
        simp only [List.mem_cons, List.mem_singleton, List.not_mem_nil, or_false, not_or]
        exact ⟨Nat.ne_of_lt (Nat.lt_succ_self _), Nat.ne_of_gt lS⟩
      have item : ∀ (i : Nat) (v : Value), its[i]? = some v → ∃ p, ks[i]? = some p ∧ v = .ref p.1 := fun i v hv => by
        rw [← Array.getElem?_toList, hi, List.getElem?_map] at hv
        obtain ⟨p, hp, rfl⟩ := Option.map_eq_some_iff.mp hv
        exact ⟨p, hp, rfl⟩
      have bare : ∀ b, s.heap.objs.size ≤ b → s.heap.get? b = none := fun b le => Option.eq_none_iff_forall_ne_some.mpr fun o e => by
        exact Nat.lt_irrefl _ (Nat.lt_of_lt_of_le (Heap.lt_size e) le)
      refine add_all ((Walks.list calm3 _ l neI its).toS) s.heap.objs.size noS ks len few item s.heap hk (bare _ (Nat.le_refl _)) (fun b mb => bare b (by
          rw [List.mem_singleton.mp mb, Heap.size_push]
          exact Nat.le_succ _)) hu its.size 0 _ (Nat.zero_add _) ⟨⟨_, Heap.get?_push_size _ rfl, rfl, rfl⟩, (isl.push _)⟩ (fun b o e => Heap.get?_push_of_some _ (Heap.get?_push_of_some _ e)) ?s0 ?fin
      case s0 => exact ⟨[], #[], 0, _, MT.empty (Heap.get?_push_of_some _ at0), .inl rfl, Got.zero ks⟩
      case fin =>
        intro s3 L es ep t mv hS3 z6 g3
        obtain ⟨g, ge, dr, t3, os3⟩ := s3
        cases (show ge = s.gens from mv.gens)
        cases (show dr = s.drawn from mv.drawn)
        cases (show os3 = s.os from mv.os)
        show wpAny _ _ _ _ _ _
        refine wpAny_pure ?_
        show wpAny _ _ (ret Value.none) _ _ _
        rw [len] at g3
        refine wpAny_pure ⟨rfl, g, t3, L, es, ep, t, rfl, hS3, z6, g3, fun b o e => ?_⟩
        have b0 : b < s.heap.objs.size := Heap.lt_size e
        have b2 : b ≠ (s.heap.push (bareSet w)).objs.size := by
          rw [Heap.size_push]
          exact Nat.ne_of_lt (Nat.lt_succ_of_lt b0)
        exact mv.heap b o (by simp only [List.mem_cons, List.mem_singleton, List.not_mem_nil, or_false, not_or]; exact ⟨Nat.ne_of_lt b0, b2⟩) (Heap.get?_push_of_some _ (Heap.get?_push_of_some _ e))
    · rcases r2 with e | fl2
      · exact hr2
      cases fl2 with
      | ret v =>
        obtain ⟨rfl, g, tk, L, es, ep, t, rfl, hS, z6, hg, hk'⟩ := hr2
        repeat (any_goals (first | assumption | wp_step))
        exact k _ _ _ _ _ _ hS z6 hg hk'
      | _ => exact hr2.elim
  | _ => exact hr.elim
end
/-- such a set, its tuples told apart from it -/
def SetM (P : Program) (w : World) (a : Addr) (L : List (Addr × List Int)) : HO := .ext fun h => ∃ es ep t, (∃ o, h.get? a = some o ∧ o.ExactSet ∧ o.data = .set es ep t) ∧ es.toList = rowsOf P w L ∧ Tab t (hashes P w L) ∧ (L.map (·.2)).Nodup ∧ t.plain = true ∧
  (w.params.followText "set-order" = true ∨ t.led = true) ∧ L.length * 5 < t.mask * 3
theorem setM_new {P : Program} {w : World} {H : Hp} {h : Heap} {a : Addr} {L : List (Addr × List Int)} {es : Array (Int × Value)} {ep : Nat} {t : SetTable} (R : MT P w h a L es ep t) : ObjOk P w H h a (SetM P w a L) := by
  obtain ⟨⟨o, g, r⟩, r1, r2, r3, _, r5, r6, r7⟩ := R
  refine ⟨⟨es, ep, t, ⟨o, g, r⟩, r1, r2, r3, r5, r6, r7⟩, ⟨o, g⟩, fun h1 h2 p k => ?_⟩
  obtain ⟨es', ep', t', ⟨o', g', r'⟩, q⟩ := p
  exact ⟨es', ep', t', ⟨o', k o' g', r'⟩, q⟩
def SetB (P : Program) (w : World) (H : Hp) (a : Addr) (ps : List Pr) : Prop :=
  ∃ L : List (Addr × List Int), H a = some (SetM P w a L) ∧ L.length ≤ 4000 ∧ (∀ q ∈ L, q.2.length = 2 ∧ H q.1 = some (.tup (q.2.map V.int))) ∧ ∀ x, x ∈ L.map (fun q => pr q.2) ↔ x ∈ ps
section
variable {X : Cx}
theorem cr_setB (hc : X.calm = true) (hu : X.A.units + 64 < cLine) : CallR X (.type "set") (fun xs H Q => ∃ l ps, xs = [V.ref l] ∧ Cells H l ps ∧ ps.length ≤ 4000 ∧
    ∀ a H', Same H H' → H a = none → SetB X.prog X.w H' a ps → Q (.ref a) H') := by
  intro pins s σ H xs us Q I r h
  obtain ⟨l, ps, rfl, ⟨ts, hl, ht, rfl⟩, few, q⟩ := h
  rw [List.length_map] at few
  rw [Vals.ref1 r]
  obtain ⟨its, rv, pl, hz⟩ := I.list (lst_of hl)
  have n : H s.heap.objs.size = none := I.hok.fresh (Nat.le_refl _)
  have each : ∀ t ∈ ts, H t.1 = some (.tup (([t.2.1, t.2.2] : List Int).map V.int)) := ht
  have er : its = ts.map fun t => Value.ref t.1 := by
    refine refs_of_vals (ks := ts.map fun t => (t.1, ([t.2.1, t.2.2] : List Int))) ?_ |>.trans ?_
    · rw [List.map_map]
      exact rv
    · rw [List.map_map]
      rfl
  refine set_of_tups (P := X.prog) (w := X.w) (ts.map fun t => (t.1, [t.2.1, t.2.2])) (I.ok.hd hc) pl.isList (by simp [er]) (fun p mp => ?_) (by rw [List.length_map]; omega) (by omega) fun g tk L es ep t R _ got k => ?_
  · obtain ⟨t, mt, rfl⟩ := List.mem_map.mp mp
    exact I.isT (tup_of (each t mt))
  · have sub : ∀ p ∈ L, ∃ t ∈ ts, p = (t.1, [t.2.1, t.2.2]) := fun p mp => by
      obtain ⟨t, mt, e⟩ := List.mem_map.mp (List.mem_of_mem_take (got.sub p mp))
      exact ⟨t, mt, e.symm⟩
    have gl := got.len
    rw [List.length_map] at gl
    refine ⟨.ref s.heap.objs.size, upd H s.heap.objs.size (SetM X.prog X.w s.heap.objs.size L), I.laid (t' := tk) k (Nat.le_refl _) (setM_new R), rfl, q _ _ (newS n) n ⟨L, upd_same, by omega, fun p mp => ?_, fun x => ⟨fun m => ?_, fun m => ?_⟩⟩⟩
    · obtain ⟨t, mt, rfl⟩ := sub p mp
      exact ⟨rfl, newS n _ _ (each t mt)⟩
    · obtain ⟨p, mp, rfl⟩ := List.mem_map.mp m
      obtain ⟨t, mt, rfl⟩ := sub p mp
      exact List.mem_map.mpr ⟨t, mt, rfl⟩
    · obtain ⟨t, mt, rfl⟩ := List.mem_map.mp m
      obtain ⟨p, mp, e⟩ := List.mem_map.mp (got.all (t.1, [t.2.1, t.2.2]) (by rw [List.take_length]; exact List.mem_map.mpr ⟨t, mt, rfl⟩))
      exact List.mem_map.mpr ⟨p, mp, by rw [e]; rfl⟩
end
end Vx
namespace Vx
open PySem PySem.Spec PyProof.Rows L2
section
variable {P : Program} {w : World} {A : Around} {E : Value → Shared → Prop} {s : Shared}
/-- the set's members, sorted -/
theorem sorted_pairsB {a : Addr} {L : List (Addr × List Int)} {es : Array (Int × Value)} {ep : Nat} {t : SetTable} {Q : Value → Shared → Prop} (R : MT P w s.heap a L es ep t) (few : L.length ≤ 4000) (hh : A.handled = none) (h2 : ∀ q ∈ L, q.2.length = 2)
    (hQ : ∀ s' p (ts : List (Addr × Pr)) (c : Nat), (∀ b o, s.heap.get? b = some o → s'.heap.get? b = some o) → s'.gens = s.gens → s'.os = s.os → s.heap.objs.size ≤ p →
      s'.heap.get? p = some (seqObj "list" (ts.map fun q => Value.ref q.1).toArray c) → (∀ q ∈ ts, ∃ r ∈ L, r.1 = q.1 ∧ pr r.2 = q.2) → (∀ x, x ∈ ts.map (·.2) ↔ x ∈ L.map fun q => pr q.2) → (ts.map (·.2)).Pairwise ltP → ts.length = L.length → Q (.ref p) s') :
    wpAny (model P w) A (call (.builtin "sorted") [.ref a]) Q E s := by
  obtain ⟨o, go, xo, dat⟩ := R.obj
  refine Calls.call_function_entry kind_sorted plain_sorted entry_sorted (args_sorted1 _) ?_
  unfold Builtin.«sorted»
  refine wpAny_bind (m := checkCount "sorted" 1 1 _) (wpAny_pure ?_)
  refine wpAny_bind (collect_set (A := A.in1) hh ⟨o, go, xo.1, dat⟩ R.fit (by rw [R.sz]; unfold scanBound; omega) R.tb.up R.ld fun s1 vs keep sz gg oo pm => ?_)
  have em : es.toList.map (·.2) = L.map fun q => Value.ref q.1 := by
    rw [R.rws]
    show (L.map fun q => (thash P w q.2, Value.ref q.1)).map (·.2) = _
    rw [List.map_map] <;> rfl
  rw [em] at pm
  have vl : vs.length = L.length := by rw [pm.length_eq, List.length_map]
  have lim : vs.length ≤ sizeLine := by
    rw [sizeLine_eq]
    omega
  refine wpAny_bind (wpAny_newList ?_ lim)
  have gl : (s1.heap.push (seqObj "list" vs.toArray 0)).get? s1.heap.objs.size = some (seqObj "list" vs.toArray 0) := Heap.get?_push_size _ rfl
  generalize hh1 : s1.heap.push (seqObj "list" vs.toArray 0) = h1 at gl
  have keep1 : ∀ b u, s1.heap.get? b = some u → h1.get? b = some u := fun b u e => by
    rw [← hh1]
    exact Heap.get?_push_of_some _ e
  have tin : ∀ q ∈ L, TS.TupInts h1 (.ref q.1) q.2 := fun q m => tupInts_of (P := P) (w := w) (isT_keep (R.tps q m) fun b u e => keep1 b u (keep b u e))
  have mem : ∀ v ∈ vs, ∃ q ∈ L, v = Value.ref q.1 := fun v m => by
    obtain ⟨q, m1, e⟩ := List.mem_map.mp (pm.mem_iff.mp m)
    exact ⟨q, m1, e.symm⟩
  have key : ∀ q ∈ L, pr (TS.intsOf h1 (.ref q.1)) = pr q.2 := fun q m => by rw [(tin q m).ints]
  have isP : ∀ v ∈ vs, Srt.IsPair h1 v (pr (TS.intsOf h1 v)).1 (pr (TS.intsOf h1 v)).2 := fun v m => by
    obtain ⟨q, m1, rfl⟩ := mem v m
    rw [key q m1]
    have i := tin q m1
    have l2 := len2 (h2 q m1)
    rw [l2] at i
    obtain ⟨b, items, eb, ⟨o1, go1, co1, n1, do1⟩, ia⟩ := i
    cases eb
    obtain ⟨xs⟩ := items
    cases ia with
    | cons _ t1 ia =>
      cases ia with
      | cons _ t2 ia =>
        cases ia
        exact ⟨_, o1, t1, t2, n1, rfl, go1, co1, do1⟩
  refine wpAny_bind (wpAny_holding (wpAny_call_entry (s := { s1 with heap := h1 }) slot_list_sort ⟨_, gl, rfl⟩ entry_list_sort (SrtO.list_sort_ord (s := { s1 with heap := h1 }) (SrtO.swo_lex fun v => pr (TS.intsOf h1 v)) gl lim (fun two => SrtO.pairs_sortableO (by omega) isP fun o1 e => ?_) fun out srt stb => ⟨_, rfl, ?_⟩) (args_list_sort _)))
  · have e' : some o1 = some (seqObj "list" vs.toArray 0) := e.symm.trans gl
    cases e'
    intro c
    exact absurd (Value.type.inj c) (by decide)
  · obtain ⟨c, gc⟩ := sortedHeap_at (vs := vs) (out := out.toArray) gl
    have omem : ∀ v ∈ out, ∃ q ∈ L, v = Value.ref q.1 := fun v m => mem v (stb.perm.mem_iff.mp m)
    refine wpAny_pure ⟨_, rfl, hQ _ s1.heap.objs.size (out.map fun v => (adr v, pr (TS.intsOf h1 v))) c (fun b u e => ?_) gg oo sz ?_ ?_ ?_ ?_ ?_⟩
    · have g1 := keep b u e
      have lt1 := Heap.lt_size g1
      show (sortedHeap h1 s1.heap.objs.size vs out.toArray).get? b = some u
      rw [sortedHeap_old (Nat.ne_of_lt lt1) (Heap.lt_size (keep1 b u g1))]
      exact keep1 b u g1
    · have eo : (out.map fun v => (adr v, pr (TS.intsOf h1 v))).map (fun q => Value.ref q.1) = out := by
        rw [List.map_map]
        refine (List.map_congr_left fun v m => ?_).trans (List.map_id _)
        obtain ⟨q, _, rfl⟩ := omem v m
        rfl
      rw [eo]
      exact gc
    · intro q m
      obtain ⟨v, m1, rfl⟩ := List.mem_map.mp m
      obtain ⟨r, mr, rfl⟩ := omem v m1
      exact ⟨r, mr, rfl, (key r mr).symm⟩
    · intro x
      rw [List.map_map]
      constructor
      · intro m
        obtain ⟨v, m1, rfl⟩ := List.mem_map.mp m
        obtain ⟨r, mr, rfl⟩ := omem v m1
        exact List.mem_map.mpr ⟨r, mr, (key r mr).symm⟩
      · intro m
        obtain ⟨r, mr, rfl⟩ := List.mem_map.mp m
        exact List.mem_map.mpr ⟨.ref r.1, stb.perm.mem_iff.mpr (pm.mem_iff.mpr (List.mem_map.mpr ⟨r, mr, rfl⟩)), key r mr⟩
    · rw [List.map_map]
      have nd : ((L.map fun q => Value.ref q.1).map fun v => pr (TS.intsOf h1 v)).Nodup := by
        rw [List.map_map]
        refine List.pairwise_map.mpr ((List.pairwise_map.mp R.ndp).imp_of_mem fun {q r} mq mr ne e => ne ?_)
        refine pr_inj (h2 q mq) (h2 r mr) ?_
        rw [← key q mq, ← key r mr]
        exact e
      have nd2 : (out.map fun v => pr (TS.intsOf h1 v)).Nodup := ((stb.perm.trans pm).map _).nodup_iff.mpr nd
      refine List.pairwise_map.mpr ((srt.and (List.pairwise_map.mp nd2)).imp fun {u v} h => ?_)
      have a1 := SrtO.lexB_no.mp h.1
      refine SrtO.lexB_iff.mpr ?_
      have a2 : ¬ ((pr (TS.intsOf h1 u)).1 = (pr (TS.intsOf h1 v)).1 ∧ (pr (TS.intsOf h1 u)).2 = (pr (TS.intsOf h1 v)).2) := fun e => h.2 (Prod.ext e.1 e.2)
      show (pr (TS.intsOf h1 u)).1 < (pr (TS.intsOf h1 v)).1 ∨ (pr (TS.intsOf h1 u)).1 = (pr (TS.intsOf h1 v)).1 ∧ (pr (TS.intsOf h1 u)).2 < (pr (TS.intsOf h1 v)).2
      omega
    · rw [List.length_map, stb.perm.length_eq, vl]
end
section
variable {X : Cx}
theorem cr_sortedB (hc : X.calm = true) : CallR X (.builtin "sorted") (fun xs H Q => ∃ a ps, xs = [V.ref a] ∧ SetB X.prog X.w H a ps ∧
    ∀ p H' qs, Same H H' → H p = none → Cells H' p qs → qs.Pairwise ltP → (∀ x, x ∈ qs ↔ x ∈ ps) → qs.length ≤ 4000 → Q (.ref p) H') := by
  intro pins s σ H vs us Q I r h
  obtain ⟨a, ps, rfl, ⟨L, ha, few, hL, mem⟩, q⟩ := h
  obtain ⟨es, ep, t, r1, r2, r3, r4, r5, r6, r7⟩ := (I.hok a _ ha).1
  have R : MT X.prog X.w s.heap a L es ep t := ⟨r1, r2, r3, r4, fun p hp => I.isT (tup_of (hL p hp).2), r5, r6, r7⟩
  rw [Vals.ref1 r]
  refine sorted_pairsB R few (I.ok.hd hc) (fun q m => (hL q m).1) fun s' p ts c k g o hp hg own all pw le => ?_
  have lim : (ts.map fun q => V.ref q.1).length ≤ sizeLine := by
    rw [List.length_map, sizeLine_eq]
    omega
  have n : H p = none := I.hok.fresh hp
  have vals : ∀ ts : List (Addr × Pr), Vals (ts.map fun q => V.ref q.1) (ts.map fun q => Value.ref q.1) := fun ts => by
    induction ts with
    | nil => exact .nil
    | cons t ts ih => exact .cons rfl ih
  have J : Inv X pins σ (upd H p (.lst (ts.map fun q => V.ref q.1))) { s with heap := s'.heap, gens := s'.gens, drawn := s'.drawn, toks := s'.toks } :=
    I.call (ch := []) (Un.laid k hp n) (I.hok.laid k hp ⟨lim, _, c, vals ts, hg⟩) (by rw [g]; exact I.bare) (fun _ z => nomatch z)
  have e : s' = { s with heap := s'.heap, gens := s'.gens, drawn := s'.drawn, toks := s'.toks } := by
    obtain ⟨_, _, _, _, _⟩ := s'
    obtain ⟨_, _, _, _, _⟩ := s
    cases o
    rfl
  rw [e]
  have sm : Same H (upd H p (.lst (ts.map fun q => V.ref q.1))) := newS n
  refine ⟨.ref p, _, J, rfl, q p _ (ts.map (·.2)) sm n ⟨ts, upd_same, fun t m => ?_, rfl⟩ pw (fun x => (all x).trans (mem x)) (by rw [List.length_map, le]; exact few)⟩
  obtain ⟨r, mr, e1, e2⟩ := own t m
  have z := sm _ _ (hL r mr).2
  rw [len2 (hL r mr).1, e1, e2] at z
  exact z
end
end Vx
namespace Vx
open PySem PySem.Spec PyProof.Rows L2
section
variable {X : Cx}
/-- xs[j], read for xs[j] op= v -/
theorem pget_list : PGet X (fun o i H Q => ∃ p xs j v, o = .ref p ∧ i = .int ((j : Nat) : Int) ∧ SqL X.K H p xs ∧ xs[j]? = some v ∧ Q v H) := by
  intro pins s σ H o i ov iv Q I ro ri h
  obtain ⟨p, xs, j, v, rfl, rfl, hs, hv, q⟩ := h
  cases ro
  obtain ⟨t, rfl⟩ := ri
  obtain ⟨its, r, pl, hz⟩ := I.list hs
  obtain ⟨w, ew, rw'⟩ := r.get hv
  exact getItem_listL pl.isList (by omega) (by have := line63; have := (List.getElem?_eq_some_iff.mp hv).1; omega) (by simpa using ew) ⟨v, H, I, rw', q⟩
theorem ip_addS : PIp X .Add (fun x y H Q => ∃ i j, x = .str i ∧ y = .str j ∧ i.length + j.length ≤ sizeLine ∧ Q (.str (i ++ j)) H) := fun pins s σ H x y v u Q I r1 r2 h => iop_add_str pins s σ H x y v u Q I r1 r2 h
end
theorem lc_pairs {lo : Int} {n : Nat} {g : TG} {tt : TT} {te : TE} {vs : List Nat} {σ : L2.St} {H1 : Hp} {D : Addr} {Qd : Hp → Prop} (f : Nat → Pr) (nD : H1 D = none) (few : n < sizeLine)
    (hs : ∀ (i : Nat) (H' : Hp) (Po : V → Hp → Prop) (Pn : Hp → Prop), i < n → Same H1 H' → (∀ t2, H' t2 = none → Po (.ref t2) (upd H' t2 (.tup [.int (f i).1, .int (f i).2]))) →
      g (.int (lo + i)) (wipe σ vs) H' fun σ2 H2 => wipe σ2 vs = wipe σ vs ∧ tt σ2 H2 fun b H3 => if b = true then te σ2 H3 Po else Pn H3)
    (hd : ∀ (H' : Hp) (us : List (Addr × Pr)), Same H1 H' → H' D = some (.lst (us.map fun t => V.ref t.1)) → (∀ t ∈ us, H' t.1 = some (.tup [.int t.2.1, .int t.2.2])) → us.map (·.2) = (List.range n).map f → Qd H') :
    ∃ W : Nat → Nat → Hp → Prop, (∃ m, W 0 m (upd H1 D (.lst []))) ∧ ∀ i m H, W i m H →
      ((Itr lo n).stop i H ∧ Qd H) ∨ ((Itr lo n).go i H ∧ ∃ Nx : Hp → Prop, (∀ H', Nx H' → ∃ m', m' < m ∧ W (i + 1) m' H') ∧ ∀ x H', (Itr lo n).yld i H x H' → g x (wipe σ vs) H' fun σ2 H2 => wipe σ2 vs = wipe σ vs ∧ tt σ2 H2 fun b H3 =>
        if b = true then te σ2 H3 fun y H4 => ∃ acc, H4 D = some (.lst acc) ∧ acc.length < sizeLine ∧ Nx (upd H4 D (.lst (acc ++ [y]))) else Nx H3) := by
  refine lc_range (lo := lo) (n := n) (fun i H' => Same H1 H' ∧ ∃ us : List (Addr × Pr), H' D = some (.lst (us.map fun t => V.ref t.1)) ∧ (∀ t ∈ us, H' t.1 = some (.tup [.int t.2.1, .int t.2.2])) ∧ us.map (·.2) = (List.range i).map f)
    ⟨newS nD, [], upd_same, fun _ m => (by cases m), rfl⟩ ?_ ?_
  · rintro i H' hi ⟨sm, us, h1, h2, h3⟩
    have ul : us.length = i := by
      have z := congrArg List.length h3
      rw [List.length_map, List.length_map, List.length_range] at z
      exact z
    refine hs i H' _ _ hi sm fun t2 n2 => ⟨us.map fun t => V.ref t.1, newS n2 _ _ h1, ?_, mutS (sm.trans (newS n2)) nD, us ++ [(t2, f i)], ?_, ?_, ?_⟩
    · rw [List.length_map, ul]
      omega
    · rw [upd_same, List.map_append]
      rfl
    · have nD2 : t2 ≠ D := fun e => by
        rw [e, h1] at n2
        cases n2
      intro u m
      rcases List.mem_append.mp m with m | m
      · have z := h2 u m
        rw [upd_ne (fun e => ?_)]
        · exact newS n2 _ _ z
        · rw [e, h1] at z
          cases z
      · rw [List.mem_singleton.mp m, upd_ne nD2, upd_same]
    · rw [List.map_append, h3, List.range_succ, List.map_append]
      rfl
  · rintro H' ⟨sm, us, h1, h2, h3⟩
    exact hd H' us sm h1 h2 h3
/-- a pair in a list of pairs -/
theorem any_pd (p : Pr) : ∀ ps : List Pr, (ps.map pd).any (fun z => PyData.eqv z (pd p)) = decide (p ∈ ps)
  | [] => by simp
  | q :: ps => by
    rw [List.map_cons, List.any_cons, any_pd p ps, eqv_pd]
    by_cases e : q = p
    · subst e
      simp
    · have e2 : ¬ p = q := fun z => e z.symm
      simp [e, e2]
theorem shaped_pd (p : Pr) : SeqAt.shaped (pd p) = true := by
  unfold SeqAt.shaped pd
  simp [PyData.canLay0, PyData.canLayAll0, PyData.depth, PyData.depthAll]
theorem op_inP {X : Cx} (hu : X.A.units + 65 < cLine) : OpR X (compareOp .In) (fun x y H Q => ∃ (t a : Addr) (p : Pr) (ps : List Pr), x = .ref t ∧ y = .ref a ∧ H t = some (.tup [.int p.1, .int p.2]) ∧ Cells H a ps ∧ Q (.bl (decide (p ∈ ps))) H) := by
  intro pins s σ H x y v u Q I rx ry h
  obtain ⟨t, a, p, ps, rfl, rfl, ht, hc, q⟩ := h
  refine op_inD hu pins s σ H _ _ v u Q I rx ry ⟨pd p, ps.map pd, .tup (tup_of ht) (.cons (.int _) (.cons (.int _) .nil)), dp_cells hc, shaped_pd p, shaped_cells ps, ?_⟩
  rw [any_pd]
  exact q
/-- sorted, of a list of pairs that may hold one several times -/
theorem cr_sortedN {X : Cx} : CallR X (.builtin "sorted") (fun xs H Q => ∃ l ps, xs = [V.ref l] ∧ Cells H l ps ∧
    ∀ p H' qs, Same H H' → H p = none → Cells H' p qs → qs.Perm ps → qs.Pairwise (fun x y => ¬ ltP y x) → Q (.ref p) H') := by
  intro pins s σ H xs us Q I r h
  obtain ⟨l, ps, rfl, ⟨ts, hl, ht, rfl⟩, q⟩ := h
  refine cr_sortedPO pins s σ H [V.ref l] us Q I r ⟨l, ts.map fun t => V.ref t.1, kH H, rfl, lst_of hl, fun x m => ?_, fun ys p srt stb n => ?_⟩
  · obtain ⟨t, m1, rfl⟩ := List.mem_map.mp m
    have g := ht t m1
    refine ⟨t.1, rfl, ?_⟩
    rw [kH_at g]
    exact g
  · have own : ∀ y ∈ ys, ∃ t ∈ ts, y = V.ref t.1 := fun y m => by
      obtain ⟨t, m1, e⟩ := List.mem_map.mp (stb.perm.mem_iff.mp m)
      exact ⟨t, m1, e.symm⟩
    have key : ∀ t ∈ ts, kH H (.ref t.1) = t.2 := fun t m => kH_at (ht t m)
    have pm : (ys.map (kH H)).Perm (ts.map (·.2)) := by
      have z := stb.perm.map (kH H)
      rw [List.map_map] at z
      rw [show ts.map (·.2) = ts.map (kH H ∘ fun t => V.ref t.1) from List.map_congr_left fun t m => (key t m).symm]
      exact z
    have sm : Same H (upd H p (.lst ys)) := newS n
    have eo : (ys.map fun v => (adV v, kH H v)).map (fun t => V.ref t.1) = ys := by
      rw [List.map_map]
      refine (List.map_congr_left fun v m => ?_).trans (List.map_id _)
      obtain ⟨t, _, rfl⟩ := own v m
      rfl
    refine q p _ (ys.map (kH H)) sm n ⟨ys.map fun v => (adV v, kH H v), ?_, fun u m => ?_, ?_⟩ pm ?_
    · rw [eo, upd_same]
    · obtain ⟨v, m1, rfl⟩ := List.mem_map.mp m
      obtain ⟨t, m2, rfl⟩ := own v m1
      refine sm _ _ ?_
      show H t.1 = _
      rw [key t m2]
      exact ht t m2
    · rw [List.map_map]
      rfl
    · refine List.pairwise_map.mpr (srt.imp fun {u v} h z => ?_)
      have h : SrtO.lexB (kH H v) (kH H u) = false := h
      have z : SrtO.lexB (kH H v) (kH H u) = true := z
      rw [h] at z
      cases z
end Vx
namespace Vx
open PySem PySem.Spec PyProof.Rows L2
/-! ### the items of a dict whose keys are tuples -/
section
variable {X : Cx} {pins : List (Addr × Obj)} {σ : L2.St} {H : Hp} {s : Shared} {d : Addr} {o : Obj}
theorem frzT2 {kvs : List (List L2.Key × V)} (I : Inv X pins σ H s) (h : H d = some (.frz o (.dT kvs))) :
    (d == sysModules) = false ∧ s.heap.get? d = some o ∧ o.ExactDict ∧ ∃ (es : Array DictEntry) (ep : Nat), o.data = .dict es ep ∧ es.size = kvs.length ∧
      ∀ (i : Nat) (k : List L2.Key) (v : V), kvs[i]? = some (k, v) → ∃ (en : DictEntry) (q : Addr), es[i]? = some en ∧ en.key = .ref q ∧ H q = some (.tup (k.map kV)) ∧ RelV v en.val := by
  obtain ⟨hd, z, hs, xs, pr, o', es, ep, ho, hx, hdt, he, _⟩ := I.hok d _ h
  have eo : o = o' := Option.some.inj (hd.symm.trans ho)
  subst eo
  refine ⟨hs, hd, hx, es, ep, hdt, (size_of_entries he).trans (Paired.length pr).symm, fun i k v e => ?_⟩
  obtain ⟨b, hb, _, e2, e3⟩ := paired_get pr e
  refine ⟨entryOfKey (tupleKind (mixKind X.prog X.w)) b, b.2.1, ?_, rfl, e2, e3⟩
  rw [entry_at he i, hb]
  rfl
end
/-- its items, each a new pair of the key's tuple and the value -/
def ItiT (d : Addr) (o : Obj) (kvs : List (List L2.Key × V)) : It where
  go i H := H d = some (.frz o (.dT kvs)) ∧ i < kvs.length
  yld i H x H' := ∃ (T : Addr) (k : List L2.Key) (v : V) (q : Addr), kvs[i]? = some (k, v) ∧ x = .ref T ∧ H q = some (.tup (k.map kV)) ∧ H T = none ∧ H' = upd H T (.tup [.ref q, v])
  stop i H := H d = some (.frz o (.dT kvs)) ∧ kvs.length ≤ i
section
variable {P : Program} {w : World} {K : PySem.W.Frag} {d : Addr} {o : Obj} {es : Array DictEntry} {ep : Nat}
theorem turn_itemsT {kvs : List (List L2.Key × V)} {elts : List Expr} {kk : Nat} {tpos : Pos} (it : Addr) (hod : o.data = .dict es ep) :
    Turn P w K (.Tuple elts kk tpos) (ItiT d o kvs) [it] it (fun i h => ∃ ok ov, IsItemIter h it d i kvs.length ep ok ov) where
  mem := List.mem_singleton.mpr rfl
  obj := fun i h st b hb => by
    obtain ⟨ok, ov, e⟩ := st
    rw [List.mem_singleton.mp hb]
    exact ⟨_, e, fun v z => nomatch z⟩
  keep := fun i h h' st k => by
    obtain ⟨ok, ov, e⟩ := st
    exact ⟨ok, ov, k it (List.mem_singleton.mpr rfl) _ e⟩
  item := by
    intro X hP hw hK hc i pins s σ H E I hf st hg
    subst hP hw hK
    obtain ⟨hd, hi⟩ := hg
    obtain ⟨hs, hgd, hx, es', ep', hdt, hsz, ent⟩ := frzT2 I hd
    obtain ⟨rfl, rfl⟩ := dict_ep hod hdt
    obtain ⟨⟨k, v⟩, hkv⟩ : ∃ p, kvs[i]? = some p := ⟨kvs[i], List.getElem?_eq_getElem hi⟩
    obtain ⟨en, q, hen, hkey, hq, rv⟩ := ent i k v hkv
    obtain ⟨ok, ov, he⟩ := st
    have hlt : it < s.heap.objs.size := Heap.lt_size he
    have hi' : i < es'.size := by
      rw [hsz]
      exact hi
    have een : es'[i] = en := by
      rw [Array.getElem?_eq_getElem hi'] at hen
      exact Option.some.inj hen
    rw [← hsz] at he
    refine DT.nextI he ⟨o, hgd, hx, hdt⟩ hi' fun h' ho hT hz hk => ?_
    rw [een, hkey] at ho hT
    refine ⟨_, rfl, wpAny_letOwnedTupleGo_items (s := { s with heap := h' }) ho fun h'' he' sb => ?_⟩
    have hT2 : h''.get? s.heap.objs.size = some { cls := .type "tuple", data := .seq #[.ref q, en.val] } := (sb.2 _ (Nat.ne_of_gt hlt)).trans hT
    have new : ObjOk X.prog X.w (upd H s.heap.objs.size (.tup [.ref q, v])) h'' s.heap.objs.size (.tup [.ref q, v]) :=
      ⟨by show 2 ≤ sizeLine; decide, [.ref q, en.val], .cons rfl (.cons rv .nil), ⟨_, hT2, rfl, _, rfl⟩⟩
    have I1 : Inv X pins σ (upd H s.heap.objs.size (.tup [.ref q, v])) { s with heap := h'' } :=
      I.turnedNew (t' := s.toks) (ch := [it]) (fun b ob hb e => (sb.2 b (by simpa using hb)).trans (hk b ob (by simpa using hb) e)) hf (Nat.le_refl _) new
    refine ⟨.ref s.heap.objs.size, _, I1, rfl, ⟨_, k, v, q, hkv, rfl, hq, I.hok.fresh (Nat.le_refl _), rfl⟩, ⟨.ref q, en.val, ?_⟩, fun b hb => ?_⟩
    · rw [← hsz]
      exact he'
    · rw [List.mem_singleton.mp hb, upd_ne (Nat.ne_of_lt hlt)]
      exact (hf it (List.mem_singleton.mpr rfl)).1
  done := by
    intro X hP hw hK hc i pins s σ H E I hf st hg
    subst hP hw hK
    obtain ⟨hd, hi⟩ := hg
    obtain ⟨f0, f1, f2, f3, f4, f5⟩ := hf it (List.mem_singleton.mpr rfl)
    obtain ⟨hs, hgd, hx, es', ep', hdt, hsz, ent⟩ := frzT2 I hd
    obtain ⟨rfl, rfl⟩ := dict_ep hod hdt
    obtain ⟨ok, ov, he⟩ := st
    rw [← hsz] at he
    exact DT.endI (I.ok.hd hc) he ⟨o, hgd, hx, hdt⟩ (by omega) fun h' eb => ⟨rfl, I.turned (t' := s.toks) (fun b ob hb e => eb b ob hb e) f0 f1 f3 f4 f5⟩
  self := fun A i s Q E st h => by
    obtain ⟨_, _, e⟩ := st
    exact PySem.W.kcp_self e h
end
def iItemsT (td : TE) : TI := fun σ H R => td σ H fun x H1 => ∃ d o kvs, x = .ref d ∧ H1 d = some (.frz o (.dT kvs)) ∧ R (ItiT d o kvs) H1
theorem pi_itemsT {X : Cx} {e : Expr} {td : TE} {apos cpos tpos : Pos} {elts : List Expr} {kk : Nat} (he : PE X e td) (hbase : attributeBase e "items" X.env (eval e X.env) = eval e X.env := by rfl) (hline : (apos.endLine == cpos.line) = true := by rfl) :
    PI X (.Tuple elts kk tpos) (.Call (.Attribute e "items" apos) [] [] cpos) (iItemsT td) := by
  refine ⟨fun pins s σ H R I h => ?_⟩
  refine wpAny_Call_method (T := "dict") (id := "dict.items") hbase rfl hline F.plainAttrs_dict F.slot_dict_items F.type_dict_items (thn (he.run pins s σ H _ I h) fun u s1 ⟨x, H1, I1, rx, d, o, kvs, ex, hd, q⟩ => ?_)
  subst ex
  obtain rfl : u = Value.ref d := rx
  obtain ⟨hs, hgd, hx, es, ep, hdt, hsz, ent⟩ := frzT2 I1 hd
  have raw : DT.Raw s1.heap d es ep := ⟨o, hgd, hx, hdt⟩
  refine ⟨raw.typeIs, (fun a ea => by cases ea; exact ⟨o, hgd, hx.2.1⟩), ?_⟩
  have I2 : Inv X pins σ H1 { s1 with heap := s1.heap.push { cls := .type "dict_items", data := .fields #[.ref d] } } := I1.kept (t' := s1.toks) fun b ob q => Heap.get?_push_of_some _ q
  have fin : wpAny (model X.prog X.w) X.A (pyIter (.ref s1.heap.objs.size)) (PIE X pins σ (.Tuple elts kk tpos) R) X.xe { s1 with heap := s1.heap.push { cls := .type "dict_items", data := .fields #[.ref d] } } := by
    refine DT.iterI (d := d) (es := es) (ep := ep) ⟨_, Heap.get?_push_size _ rfl, rfl, rfl⟩ (raw.push _) (pi_one (tk := s1.toks) I2 _ (turn_itemsT _ hdt) ⟨.none, .none, ?_⟩ q)
    rw [hsz]
    exact Heap.get?_push_size _ rfl
  show wpAny _ _ (callWith cpos (.builtin "dict.items") [.ref d] [] []) _ X.xe s1
  exact method_meetsIn F.slot_dict_items F.entry_dict_items rfl (PySem.evalArgs_none ⟨rfl, raw.typeIs, F.args_dict_items_1 _, _, DT.meetsItems (es := es) (ep := ep) hs, ⟨raw, fin⟩⟩)
theorem walk_itemsT {d : Addr} {o : Obj} {kvs : List (List L2.Key × V)} : Walk (ItiT d o kvs) kvs.length (fun H => H d = some (.frz o (.dT kvs)))
    (fun i H x H' => ∃ (T : Addr) (k : List L2.Key) (v : V) (q : Addr), kvs[i]? = some (k, v) ∧ x = .ref T ∧ H q = some (.tup (k.map kV)) ∧ H T = none ∧ H' = upd H T (.tup [.ref q, v])) :=
  ⟨fun _ _ hi q => ⟨q, hi⟩, fun _ q => ⟨q, Nat.le_refl _⟩, fun _ _ _ _ _ _ y => y⟩
end Vx
namespace Vx
open PySem PySem.Spec PyProof.Rows L2
/-! ### bits of numbers from 0 on -/
theorem xor_and_add : ∀ a b : Nat, (a ^^^ b) + 2 * (a &&& b) = a + b := by
  intro a
  induction a using Nat.strongRecOn with
  | _ a ih =>
    intro b
    by_cases h : a = 0
    · subst h
      simp
    · have e := ih (a / 2) (by omega) (b / 2)
      have x1 : (a ^^^ b) / 2 = (a / 2) ^^^ (b / 2) := Nat.xor_div_two
      have x2 : (a &&& b) / 2 = (a / 2) &&& (b / 2) := Nat.and_div_two
      have t1 := Nat.testBit_xor a b 0
      have t2 := Nat.testBit_and a b 0
      rw [Nat.testBit_zero, Nat.testBit_zero, Nat.testBit_zero] at t1 t2
      have y1 : (a ^^^ b) % 2 = (a % 2 + b % 2) % 2 := by
        by_cases p : a % 2 = 1 <;> by_cases q : b % 2 = 1
        · rw [decide_eq_true p, decide_eq_true q] at t1
          have := of_decide_eq_false t1
          omega
        · rw [decide_eq_true p, decide_eq_false q] at t1
          have := of_decide_eq_true t1
          omega
        · rw [decide_eq_false p, decide_eq_true q] at t1
          have := of_decide_eq_true t1
          omega
        · rw [decide_eq_false p, decide_eq_false q] at t1
          have := of_decide_eq_false t1
          omega
      have y2 : (a &&& b) % 2 = if a % 2 = 1 ∧ b % 2 = 1 then 1 else 0 := by
        by_cases p : a % 2 = 1 <;> by_cases q : b % 2 = 1
        · rw [decide_eq_true p, decide_eq_true q] at t2
          rw [if_pos ⟨p, q⟩]
          exact of_decide_eq_true t2
        · rw [decide_eq_true p, decide_eq_false q] at t2
          rw [if_neg fun z => q z.2]
          have := of_decide_eq_false t2
          omega
        · rw [decide_eq_false p, decide_eq_true q] at t2
          rw [if_neg fun z => p z.1]
          have := of_decide_eq_false t2
          omega
        · rw [decide_eq_false p, decide_eq_false q] at t2
          rw [if_neg fun z => p z.1]
          have := of_decide_eq_false t2
          omega
      have z1 := Nat.div_add_mod (a ^^^ b) 2
      have z2 := Nat.div_add_mod (a &&& b) 2
      rw [x1, y1] at z1
      rw [x2, y2] at z2
      by_cases p : a % 2 = 1 ∧ b % 2 = 1
      · rw [if_pos p] at z2
        omega
      · rw [if_neg p] at z2
        omega
theorem or_and_xor (a b : Nat) : (a ||| b) = (a ^^^ b) + (a &&& b) := by
  have d : (a ^^^ b) &&& (a &&& b) = 0 := by
    refine Nat.eq_of_testBit_eq fun i => ?_
    simp only [Nat.testBit_and, Nat.testBit_xor, Nat.zero_testBit]
    cases a.testBit i <;> cases b.testBit i <;> rfl
  have e := xor_and_add (a ^^^ b) (a &&& b)
  rw [d] at e
  have f : (a ^^^ b) ^^^ (a &&& b) = a ||| b := by
    refine Nat.eq_of_testBit_eq fun i => ?_
    simp only [Nat.testBit_and, Nat.testBit_xor, Nat.testBit_or]
    cases a.testBit i <;> cases b.testBit i <;> rfl
  omega
theorem bAnd (a b : Nat) : Builtin.bitAnd (a : Int) (b : Int) = ((a &&& b : Nat) : Int) := PySem.W.os_band a b
theorem bOr (a b : Nat) : Builtin.bitOr (a : Int) (b : Int) = ((a ||| b : Nat) : Int) := by
  rw [bitOr_nn (Int.natCast_nonneg a) (Int.natCast_nonneg b), Int.toNat_natCast, Int.toNat_natCast]
theorem bXor (a b : Nat) : Builtin.bitXor (a : Int) (b : Int) = ((a ^^^ b : Nat) : Int) := by
  show Builtin.bitOr (a : Int) (b : Int) - Builtin.bitAnd (a : Int) (b : Int) = _
  rw [bAnd, bOr, or_and_xor]
  omega
section
variable {X : Cx}
theorem op_andNN : OpR X (binaryOp .BitAnd) (fun x y H Q => ∃ a b : Nat, x = .int (a : Int) ∧ y = .int (b : Int) ∧ Q (.int ((a &&& b : Nat) : Int)) H) := by
  intro pins s σ H x y v u Q I r1 r2 h
  obtain ⟨a, b, rfl, rfl, q⟩ := h
  exact op_and pins s σ H _ _ v u Q I r1 r2 ⟨_, _, rfl, rfl, (by show Q (V.int (Builtin.bitAnd (a : Int) (b : Int))) H; rw [bAnd]; exact q)⟩
theorem op_orNN : OpR X (binaryOp .BitOr) (fun x y H Q => ∃ a b : Nat, x = .int (a : Int) ∧ y = .int (b : Int) ∧ Q (.int ((a ||| b : Nat) : Int)) H) := by
  intro pins s σ H x y v u Q I r1 r2 h
  obtain ⟨a, b, rfl, rfl, q⟩ := h
  exact op_or pins s σ H _ _ v u Q I r1 r2 ⟨_, _, rfl, rfl, (by show Q (V.int (Builtin.bitOr (a : Int) (b : Int))) H; rw [bOr]; exact q)⟩
theorem op_xorNN : OpR X (binaryOp .BitXor) (fun x y H Q => ∃ a b : Nat, x = .int (a : Int) ∧ y = .int (b : Int) ∧ Q (.int ((a ^^^ b : Nat) : Int)) H) := by
  intro pins s σ H x y v u Q I r1 r2 h
  obtain ⟨a, b, rfl, rfl, q⟩ := h
  exact op_xor pins s σ H _ _ v u Q I r1 r2 ⟨_, _, rfl, rfl, (by show Q (V.int (Builtin.bitXor (a : Int) (b : Int))) H; rw [bXor]; exact q)⟩
theorem ip_orNN : PIp X .BitOr (fun x y H Q => ∃ a b : Nat, x = .int (a : Int) ∧ y = .int (b : Int) ∧ Q (.int ((a ||| b : Nat) : Int)) H) := by
  intro pins s σ H x y v u Q I r1 r2 h
  obtain ⟨a, b, rfl, rfl, q⟩ := h
  exact iop_or pins s σ H _ _ v u Q I r1 r2 ⟨_, _, rfl, rfl, (by show Q (V.int (Builtin.bitOr (a : Int) (b : Int))) H; rw [bOr]; exact q)⟩
theorem ip_xorNN : PIp X .BitXor (fun x y H Q => ∃ a b : Nat, x = .int (a : Int) ∧ y = .int (b : Int) ∧ Q (.int ((a ^^^ b : Nat) : Int)) H) := by
  intro pins s σ H x y v u Q I r1 r2 h
  obtain ⟨a, b, rfl, rfl, q⟩ := h
  exact iop_xor pins s σ H _ _ v u Q I r1 r2 ⟨_, _, rfl, rfl, (by show Q (V.int (Builtin.bitXor (a : Int) (b : Int))) H; rw [bXor]; exact q)⟩
theorem op_shrNN : OpR X (binaryOp .RShift) (fun x y H Q => ∃ a k : Nat, x = .int (a : Int) ∧ y = .int (k : Int) ∧ Q (.int ((a >>> k : Nat) : Int)) H) := by
  intro pins s σ H x y v u Q I r1 r2 h
  obtain ⟨a, k, rfl, rfl, q⟩ := h
  refine op_shrN pins s σ H _ _ v u Q I r1 r2 ⟨_, k, rfl, rfl, ?_⟩
  rw [show (a : Int) / 2 ^ k = ((a >>> k : Nat) : Int) by rw [Nat.shiftRight_eq_div_pow]; exact (by push_cast; rfl)]
  exact q
theorem op_shlNN : OpR X (binaryOp .LShift) (fun x y H Q => ∃ (a k n : Nat), x = .int (a : Int) ∧ y = .int (k : Int) ∧ a < 2 ^ n ∧ n + k ≤ 134217728 ∧ Q (.int ((a <<< k : Nat) : Int)) H) := by
  intro pins s σ H x y v u Q I r1 r2 h
  obtain ⟨a, k, n, rfl, rfl, la, lk, q⟩ := h
  refine op_shlN pins s σ H _ _ v u Q I r1 r2 ⟨_, k, rfl, rfl, shl_ok (n := n) la lk, ?_⟩
  rw [show (a : Int) * 2 ^ k = ((a <<< k : Nat) : Int) by rw [Nat.shiftLeft_eq]; exact (by push_cast; rfl)]
  exact q
end
/-! ### the bits that are set, ascending -/
def bitsB (N n : Nat) : List Nat := (List.range N).filter fun j => n.testBit j
theorem mem_bitsB {N n j : Nat} : j ∈ bitsB N n ↔ j < N ∧ n.testBit j = true := by
  unfold bitsB
  rw [List.mem_filter, List.mem_range]
theorem low_bit : ∀ n : Nat, n ≠ 0 → ∃ k a, n = 2 ^ k * (2 * a + 1) := by
  intro n
  induction n using Nat.strongRecOn with
  | _ n ih =>
    intro h
    by_cases e : n % 2 = 1
    · exact ⟨0, n / 2, by omega⟩
    · obtain ⟨k, a, q⟩ := ih (n / 2) (by omega) (by omega)
      refine ⟨k + 1, a, ?_⟩
      have : n = 2 * (n / 2) := by omega
      rw [this, q, Nat.pow_succ, Nat.mul_comm (2 ^ k) 2, Nat.mul_assoc]
theorem low_test {k a j : Nat} : (2 ^ k * (2 * a + 1)).testBit j = (decide (j = k) || (decide (k < j) && (2 ^ k * (2 * a)).testBit j)) := by
  rw [Nat.testBit_two_pow_mul, Nat.testBit_two_pow_mul]
  by_cases h : k ≤ j
  · by_cases e : j = k
    · subst e
      simp [Nat.testBit_zero]
    · have e2 : k < j := by omega
      have e3 : j - k = (j - k - 1) + 1 := by omega
      rw [e3, Nat.testBit_succ, Nat.testBit_succ]
      have e4 : (2 * a + 1) / 2 = 2 * a / 2 := by omega
      rw [e4]
      simp [h, e, e2]
  · have e : j ≠ k := by omega
    have e2 : ¬ k < j := by omega
    simp [h, e, e2]
theorem low_xor (k a : Nat) : 2 ^ k * (2 * a + 1) ^^^ 2 ^ k = 2 ^ k * (2 * a) := by
  refine Nat.eq_of_testBit_eq fun j => ?_
  rw [Nat.testBit_xor, low_test, Nat.testBit_two_pow]
  by_cases e : k = j
  · subst e
    simp [Nat.testBit_two_pow_mul, Nat.testBit_zero]
  · have e' : j ≠ k := fun z => e z.symm
    simp only [e, e', decide_false, Bool.false_or, Bool.xor_false]
    by_cases h : k < j
    · simp [h]
    · have : ¬ k ≤ j := by omega
      simp [h, this, Nat.testBit_two_pow_mul]
theorem bits_low {N k a : Nat} (h : 2 ^ k * (2 * a + 1) < 2 ^ N) : bitsB N (2 ^ k * (2 * a + 1)) = k :: bitsB N (2 ^ k * (2 * a)) := by
  have hk : k < N := by
    have : 2 ^ k < 2 ^ N := Nat.lt_of_le_of_lt (Nat.le_mul_of_pos_right _ (by omega)) h
    exact (Nat.pow_lt_pow_iff_right (by decide)).mp this
  have e : List.range N = List.range k ++ k :: (List.range (N - k - 1)).map (fun j => k + 1 + j) := by
    have e1 := List.range_add (n := k) (m := N - k)
    rw [show k + (N - k) = N by omega] at e1
    rw [e1, show N - k = (N - k - 1) + 1 by omega, List.range_succ_eq_map, List.map_cons, List.map_map]
    simp
    intro j _
    omega
  have z : ∀ m, (List.range k).filter (fun j => (2 ^ k * m).testBit j) = [] := fun m => by
    refine List.filter_eq_nil_iff.mpr fun j hj => ?_
    have := List.mem_range.mp hj
    rw [Nat.testBit_two_pow_mul]
    have : ¬ k ≤ j := by omega
    simp [this]
  unfold bitsB
  rw [e, List.filter_append, List.filter_append, z, z, List.nil_append, List.nil_append, List.filter_cons, List.filter_cons]
  rw [if_pos (by rw [low_test]; simp), if_neg (by rw [Nat.testBit_two_pow_mul]; simp [Nat.testBit_zero])]
  refine congrArg _ (List.filter_congr fun j hj => ?_)
  obtain ⟨i, _, rfl⟩ := List.mem_map.mp hj
  rw [low_test]
  have e1 : ¬ k + 1 + i = k := by omega
  have e2 : k < k + 1 + i := by omega
  simp [e1, e2]
theorem bits_zero (N : Nat) : bitsB N 0 = [] := by
  unfold bitsB
  exact List.filter_eq_nil_iff.mpr fun j _ => by simp
theorem low_and (k a : Nat) : Builtin.bitAnd ((2 ^ k * (2 * a + 1) : Nat) : Int) (-((2 ^ k * (2 * a + 1) : Nat) : Int)) = ((2 ^ k : Nat) : Int) := by
  have e := PySem.W.kbt_low k (a : Int)
  push_cast
  exact e
theorem intBits_pow (k : Nat) : Builtin.Int.intBits ((2 ^ k : Nat) : Int) = k + 1 := by
  unfold Builtin.Int.intBits
  have h : ¬ ((((2 ^ k : Nat) : Int)) == 0) = true := by
    have : 0 < 2 ^ k := Nat.two_pow_pos k
    simp only [beq_iff_eq]
    omega
  rw [if_neg h, Int.natAbs_natCast, Nat.log2_two_pow]
end Vx
namespace Vx
open PySem PySem.Spec PyProof.Rows L2
/-! ### dicts whose keys are pairs, told by the list of the keys and a function -/
def MapP (kvs : List (List L2.Key × V)) (ps : List Pr) (g : Pr → V) : Prop := kvs = ps.map (fun x => (keyP x, g x)) ∧ ps.Nodup
def addK (ps : List Pr) (x : Pr) : List Pr := if x ∈ ps then ps else ps ++ [x]
def setG (g : Pr → V) (x : Pr) (v : V) : Pr → V := fun y => if y = x then v else g y
theorem mem_addK {ps : List Pr} {x y : Pr} : y ∈ addK ps x ↔ y ∈ ps ∨ y = x := by
  unfold addK
  by_cases h : x ∈ ps
  · rw [if_pos h]
    exact ⟨.inl, fun q => q.elim id fun e => e ▸ h⟩
  · rw [if_neg h, List.mem_append, List.mem_singleton]
theorem addK_len {ps : List Pr} {x : Pr} : (addK ps x).length ≤ ps.length + 1 := by
  unfold addK
  by_cases h : x ∈ ps
  · rw [if_pos h]
    omega
  · rw [if_neg h, List.length_append]
    exact Nat.le_refl _
theorem addK_new {ps : List Pr} {x : Pr} (h : x ∉ ps) : addK ps x = ps ++ [x] := if_neg h
theorem addK_old {ps : List Pr} {x : Pr} (h : x ∈ ps) : addK ps x = ps := if_pos h
theorem MapP.nil (g : Pr → V) : MapP [] [] g := ⟨rfl, List.nodup_nil⟩
theorem MapP.keys {kvs : List (List L2.Key × V)} {ps : List Pr} {g : Pr → V} (h : MapP kvs ps g) : KeysP kvs ps := by
  refine ⟨?_, h.2⟩
  rw [h.1, List.map_map]
  rfl
theorem MapP.len {kvs : List (List L2.Key × V)} {ps : List Pr} {g : Pr → V} (h : MapP kvs ps g) : kvs.length = ps.length := by rw [h.1, List.length_map]
theorem MapP.congr {kvs : List (List L2.Key × V)} {ps : List Pr} {g g' : Pr → V} (h : MapP kvs ps g) (e : ∀ x ∈ ps, g x = g' x) : MapP kvs ps g' := by
  refine ⟨?_, h.2⟩
  rw [h.1]
  exact List.map_congr_left fun x m => by rw [e x m]
theorem MapP.at {kvs : List (List L2.Key × V)} {ps : List Pr} {g : Pr → V} (h : MapP kvs ps g) {i : Nat} {k : List L2.Key} {v : V} (e : kvs[i]? = some (k, v)) : ∃ x, ps[i]? = some x ∧ k = keyP x ∧ v = g x := by
  rw [h.1, List.getElem?_map] at e
  cases q : ps[i]? with
  | none => rw [q] at e; cases e
  | some x =>
    rw [q] at e
    injection e with e
    injection e with e1 e2
    exact ⟨x, rfl, e1.symm, e2.symm⟩
theorem MapP.get {kvs : List (List L2.Key × V)} {ps : List Pr} {g : Pr → V} (h : MapP kvs ps g) (x : Pr) : valV kvs (keyP x) = if x ∈ ps then some (g x) else none := by
  rw [h.1]
  have go : ∀ qs : List Pr, valV (qs.map fun x => (keyP x, g x)) (keyP x) = if x ∈ qs then some (g x) else none := fun qs => by
    induction qs with
    | nil => rfl
    | cons y qs ih =>
      rw [List.map_cons]
      by_cases e : y = x
      · subst e
        rw [valV_pos rfl, if_pos List.mem_cons_self]
      · rw [valV_neg (fun z => e (keyP_inj z)), ih]
        have e' : ¬ x = y := fun z => e z.symm
        by_cases m : x ∈ qs <;> simp [m, e']
  exact go ps
theorem MapP.put {kvs : List (List L2.Key × V)} {ps : List Pr} {g : Pr → V} (h : MapP kvs ps g) (x : Pr) (v : V) : MapP (putK kvs (keyP x) v) (addK ps x) (setG g x v) := by
  have any : (kvs.any fun kv => decide (kv.1 = keyP x)) = decide (x ∈ ps) := by
    rw [valV_any, h.get]
    by_cases m : x ∈ ps <;> simp [m]
  unfold putK
  rw [any]
  by_cases m : x ∈ ps
  · rw [if_pos (decide_eq_true m), addK_old m]
    refine ⟨?_, h.2⟩
    rw [h.1, List.map_map]
    refine List.map_congr_left fun y _ => ?_
    show (if keyP y = keyP x then (keyP y, v) else (keyP y, g y)) = (keyP y, if y = x then v else g y)
    by_cases e : y = x
    · rw [if_pos (by rw [e]), if_pos e]
    · rw [if_neg fun z => e (keyP_inj z), if_neg e]
  · rw [if_neg (by simp [m]), addK_new m]
    refine ⟨?_, ?_⟩
    · rw [h.1, List.map_append]
      congr 1
      · refine List.map_congr_left fun y my => ?_
        have e : ¬ y = x := fun e => m (e ▸ my)
        show (keyP y, g y) = (keyP y, if y = x then v else g y)
        rw [if_neg e]
      · show [(keyP x, v)] = [(keyP x, if x = x then v else g x)]
        rw [if_pos rfl]
    · refine List.pairwise_append.mpr ⟨h.2, List.pairwise_cons.mpr ⟨fun _ m => (by cases m), List.Pairwise.nil⟩, fun a ma b mb e => ?_⟩
      rw [List.mem_singleton.mp mb] at e
      exact m (e ▸ ma)
theorem MapP.drop {kvs : List (List L2.Key × V)} {ps : List Pr} {g : Pr → V} (h : MapP kvs ps g) (x : Pr) : MapP (dropK kvs (keyP x)) (ps.filter fun y => decide (y ≠ x)) g := by
  refine ⟨?_, h.2.filter _⟩
  unfold dropK
  rw [h.1, List.filter_map]
  congr 1
  refine List.filter_congr fun y _ => ?_
  show decide (keyP y ≠ keyP x) = decide (y ≠ x)
  by_cases e : y = x
  · simp [e]
  · have : keyP y ≠ keyP x := fun z => e (keyP_inj z)
    simp [e, this]
/-- at d: such a dict -/
def Dct (H : Hp) (d : Addr) (ps : List Pr) (g : Pr → V) : Prop := ∃ kvs, H d = some (.dT kvs) ∧ MapP kvs ps g
theorem Dct.up {H H' : Hp} {d : Addr} {ps : List Pr} {g : Pr → V} (e : Same H H') (h : Dct H d ps g) : Dct H' d ps g := by
  obtain ⟨kvs, h1, h2⟩ := h
  exact ⟨kvs, e _ _ h1, h2⟩
theorem Dct.new {H : Hp} {d : Addr} (g : Pr → V) (h : H d = some (.dT [])) : Dct H d [] g := ⟨[], h, .nil g⟩
theorem Dct.ne {H : Hp} {d p : Addr} {ps : List Pr} {g : Pr → V} (h : Dct H d ps g) (n : H p = none) : p ≠ d := fun e => by
  obtain ⟨kvs, h1, _⟩ := h
  rw [e, h1] at n
  cases n
theorem Dct.isD {H : Hp} {d : Addr} {ps : List Pr} {g : Pr → V} (h : Dct H d ps g) : IsD H d := by
  obtain ⟨kvs, h1, _⟩ := h
  exact .inr ⟨kvs, .inl h1⟩
theorem Dct.dget {H : Hp} {d b : Addr} {ps : List Pr} {g : Pr → V} {x : Pr} (h : Dct H d ps g) (e : H b = some (.tup [.int x.1, .int x.2])) : DGet H d (.ref b) (if x ∈ ps then some (g x) else none) := by
  obtain ⟨kvs, h1, h2⟩ := h
  rw [← h2.get x]
  exact .t (k := keyP x) h1 e
/-- the answer of d.get(x, z) -/
def orG (ps : List Pr) (g : Pr → V) (z : V) (x : Pr) : V := if x ∈ ps then g x else z
theorem getD_or {ps : List Pr} {g : Pr → V} {z : V} {x : Pr} : (if x ∈ ps then some (g x) else none : Option V).getD z = orG ps g z x := by
  unfold orG
  by_cases h : x ∈ ps <;> simp [h]
/-- what stands elsewhere stays, d's dict grows -/
def PutAt (H : Hp) (d : Addr) (ps : List Pr) (g : Pr → V) (x : Pr) (v : V) (H' : Hp) : Prop := Dct H' d (addK ps x) (setG g x v) ∧ ∀ b, b ≠ d → H' b = H b
theorem Dct.dput {H : Hp} {d b : Addr} {ps : List Pr} {g : Pr → V} {x : Pr} (h : Dct H d ps g) (few : ps.length < sizeLine) (e : H b = some (.tup [.int x.1, .int x.2])) (v : V) : ∃ H', DPut H d (.ref b) v H' ∧ PutAt H d ps g x v H' := by
  obtain ⟨kvs, h1, h2⟩ := h
  exact ⟨_, .t (k := keyP x) h1 e (by rw [h2.len]; exact few), ⟨_, upd_same, h2.put x v⟩, fun b n => upd_ne n⟩
theorem PutAt.mut {H0 H H' : Hp} {d : Addr} {ps : List Pr} {g : Pr → V} {x : Pr} {v : V} (p : PutAt H d ps g x v H') (sm : Same H0 H) (n : H0 d = none) : Same H0 H' := fun b o e => by
  rw [p.2 b fun z => by rw [z, n] at e; cases e]
  exact sm b o e
theorem Dct.congr {H : Hp} {d : Addr} {ps : List Pr} {g g' : Pr → V} (h : Dct H d ps g) (e : ∀ x ∈ ps, g x = g' x) : Dct H d ps g' := by
  obtain ⟨kvs, h1, h2⟩ := h
  exact ⟨kvs, h1, h2.congr e⟩
theorem updS {H H' : Hp} {d : Addr} {o : HO} (e : Same H H') : Same (upd H d o) (upd H' d o) := fun b u h => by
  by_cases c : b = d
  · rw [c, upd_same] at h
    rw [c, upd_same]
    exact h
  · rw [upd_ne c] at h
    rw [upd_ne c]
    exact e b u h
theorem Dct.off {H : Hp} {d e : Addr} {ps : List Pr} {g : Pr → V} {o : HO} (h : Dct H d ps g) (n : d ≠ e) : Dct (upd H e o) d ps g := by
  obtain ⟨kvs, h1, h2⟩ := h
  exact ⟨kvs, by rw [upd_ne n]; exact h1, h2⟩
theorem nodup_next {α : Type} {ps : List α} {i : Nat} {x : α} (nd : ps.Nodup) (h : ps[i]? = some x) : x ∉ ps.take i := fun m => by
  obtain ⟨j, hj, e⟩ := List.getElem_of_mem m
  rw [List.length_take] at hj
  obtain ⟨li, ei⟩ := List.getElem?_eq_some_iff.mp h
  rw [List.getElem_take] at e
  have := (List.getElem_inj nd (h₀ := by omega) (h₁ := li)).mp (e.trans ei.symm)
  omega
theorem addK_take {ps : List Pr} {i : Nat} {x : Pr} (nd : ps.Nodup) (h : ps[i]? = some x) : addK (ps.take i) x = ps.take (i + 1) := by
  rw [addK_new (nodup_next nd h), take_next h]
theorem unlock {H H' : Hp} {d : Addr} {od : Obj} {u : HO} (hd : H d = some u) (sm : Same (upd H d (.frz od u)) H') : Same H (upd H' d u) := fun b o e => by
  by_cases c : b = d
  · rw [c] at e ⊢
    rw [hd] at e
    rw [upd_same]
    exact e
  · rw [upd_ne c]
    exact sm b o (by rw [upd_ne c]; exact e)
/-! ### the program's lists of such keys -/
theorem isKeys_cells {H : Hp} {p : Addr} : ∀ {kvs : List (List L2.Key × V)} {ps : List Pr} {g : Pr → V} {bs : List Addr}, MapP kvs ps g → IsKeys H kvs bs → H p = some (.lst (bs.map V.ref)) → Cells H p ps := by
  have go : ∀ (ps : List Pr) (g : Pr → V) (bs : List Addr), IsKeys H (ps.map fun x => (keyP x, g x)) bs → ∃ ts : List (Addr × Pr), bs.map V.ref = ts.map (fun t => V.ref t.1) ∧ (∀ t ∈ ts, H t.1 = some (.tup [.int t.2.1, .int t.2.2])) ∧ ts.map (·.2) = ps := by
    intro ps g
    induction ps with
    | nil =>
      intro bs h
      cases h
      exact ⟨[], rfl, fun _ m => (by cases m), rfl⟩
    | cons x ps ih =>
      intro bs h
      cases h with
      | @cons _ b _ bs h1 h2 =>
        obtain ⟨ts, a1, a2, a3⟩ := ih bs h2
        refine ⟨(b, x) :: ts, ?_, ?_, ?_⟩
        · rw [List.map_cons, List.map_cons, a1]
        · intro t m
          rcases List.mem_cons.mp m with e | m
          · rw [e]
            exact h1
          · exact a2 t m
        · rw [List.map_cons, a3]
  intro kvs ps g bs h k e
  rw [h.1] at k
  obtain ⟨ts, a1, a2, a3⟩ := go ps g bs k
  exact ⟨ts, by rw [e, a1], a2, a3⟩
theorem cr_listP {X : Cx} (hc : X.calm = true) : CallR X (.type "list") (fun xs H Q => ∃ d ps g, xs = [V.ref d] ∧ Dct H d ps g ∧ ∀ H' p, Same H H' → H p = none → Cells H' p ps → Q (.ref p) H') := by
  intro pins s σ H xs us Q I r h
  obtain ⟨d, ps, g, rfl, ⟨kvs, h1, h2⟩, q⟩ := h
  refine call_list_dT hc pins s σ H _ us Q I r ⟨d, kvs, rfl, .inl h1, fun p bs n k => q _ p (newS n) n ?_⟩
  refine isKeys_cells (bs := bs) h2 ?_ upd_same
  exact Paired.mapP k fun a b e => newS n _ _ e
theorem truC {K : PySem.W.Frag} {H : Hp} {l : Addr} {ps : List Pr} (h : Cells H l ps) : TruV K (.ref l) H (!ps.isEmpty) := by
  obtain ⟨ts, h1, _, rfl⟩ := h
  exact .inl ⟨_, lst_of h1, by cases ts <;> rfl⟩
/-- sorted(d) -/
theorem cr_sortedDT {X : Cx} (hcalm : X.calm = true) : CallR X (.builtin "sorted") (fun xs H Q => ∃ d ps g, xs = [V.ref d] ∧ Dct H d ps g ∧ ∀ p H' qs, Same H H' → H p = none → Cells H' p qs → CanP ps qs → qs.length = ps.length → Q (.ref p) H') := by
  intro pins s σ H xs us Q I r h
  obtain ⟨d, ps, g, rfl, ⟨kvs, hd, hm⟩, q⟩ := h
  obtain ⟨u, rfl, rx⟩ := r.one
  cases rx
  obtain ⟨z, hs, ks, prd, o, es, ep, ho, hx, hdt, he, hn⟩ := (show ObjOk X.prog X.w H s.heap d (.dT kvs) from (Rd.of hd).ok I.hok)
  have l1 : es.size = ks.length := size_of_entries he
  have l2 : kvs.length = ks.length := Paired.length prd
  have lim : es.size ≤ sizeLine := by omega
  refine Calls.call_function_entry kind_sorted plain_sorted entry_sorted (args_sorted1 _) ?_
  unfold Builtin.«sorted»
  refine wpAny_bind (m := checkCount "sorted" 1 1 _) (wpAny_pure ?_)
  refine wpAny_bind (PySem.W.kdu_collect (A := X.A.in1) (kdl_raw hs hx hdt) (I.ok.hd hcalm) ho lim fun h' tk acc kp it => ?_)
  -- the key tuples
  have keyAt : ∀ (i : Nat) (x : Pr), ps[i]? = some x → ∃ b, acc.toList[i]? = some (.ref b) ∧ H b = some (.tup [.int x.1, .int x.2]) := fun i x e => by
    have e1 : kvs[i]? = some (keyP x, g x) := by rw [hm.1, List.getElem?_map, e]; rfl
    obtain ⟨b, hb, _, e2, _⟩ := paired_get prd e1
    have q1 := entry_at he i
    rw [hb] at q1
    have li : i < acc.toList.length := by
      rw [Array.length_toList, it.1, l1]
      exact (List.getElem?_eq_some_iff.mp hb).1
    obtain ⟨en, q2, q3⟩ := it.2 i acc.toList[i] (by rw [← Array.getElem?_toList]; exact List.getElem?_eq_getElem li)
    rw [q1] at q2
    have q4 : entryOfKey (tupleKind (mixKind X.prog X.w)) b = en := Option.some.inj q2
    refine ⟨b.2.1, ?_, e2⟩
    rw [List.getElem?_eq_getElem li, q3, ← q4]
    rfl
  have al : acc.toList.length = ps.length := by rw [Array.length_toList, it.1, l1, ← l2, hm.len]
  have lacc : acc.toList.length ≤ sizeLine := by rw [Array.length_toList, it.1]; exact lim
  have I1 : Inv X pins σ H { s with heap := h', toks := tk } := I.kept kp
  refine wpAny_bind (wpAny_newList ?_ lacc)
  have gl : (h'.push (seqObj "list" acc.toList.toArray 0)).get? h'.objs.size = some (seqObj "list" acc.toList.toArray 0) := Heap.get?_push_size _ rfl
  show wpAny _ _ _ _ _ { s with heap := h'.push (seqObj "list" acc.toList.toArray 0), toks := tk }
  generalize hh1 : h'.push (seqObj "list" acc.toList.toArray 0) = h1 at gl ⊢
  generalize acc.toList = vs at *
  have keep1 : ∀ b u, h'.get? b = some u → h1.get? b = some u := fun b u e => by
    rw [← hh1]
    exact Heap.get?_push_of_some _ e
  have own : ∀ v ∈ vs, ∃ b x, v = .ref b ∧ H b = some (.tup [.int x.1, .int x.2]) ∧ (x : Pr) ∈ ps := fun v m => by
    obtain ⟨i, li, e⟩ := List.getElem_of_mem m
    have lp : i < ps.length := by omega
    obtain ⟨b, e1, e2⟩ := keyAt i ps[i] (List.getElem?_eq_getElem lp)
    rw [List.getElem?_eq_getElem li] at e1
    exact ⟨b, ps[i], by rw [← e]; exact Option.some.inj e1, e2, List.getElem_mem lp⟩
  have tin : ∀ b (x : Pr), H b = some (.tup [.int x.1, .int x.2]) → TS.TupInts h1 (.ref b) [x.1, x.2] := fun b x e => tupInts_of (P := X.prog) (w := X.w) (isT_keep (Inv.isT (k := [x.1, x.2]) I1 (tup_of e)) keep1)
  have key : ∀ b (x : Pr), H b = some (.tup [.int x.1, .int x.2]) → pr (TS.intsOf h1 (.ref b)) = x := fun b x e => by
    rw [(tin b x e).ints]
    rfl
  have isP : ∀ v ∈ vs, Srt.IsPair h1 v (pr (TS.intsOf h1 v)).1 (pr (TS.intsOf h1 v)).2 := fun v m => by
    obtain ⟨b, x, rfl, e, _⟩ := own v m
    rw [key b x e]
    have i := tin b x e
    obtain ⟨b2, items, eb, ⟨o1, go1, co1, n1, do1⟩, ia⟩ := i
    cases eb
    obtain ⟨xs⟩ := items
    cases ia with
    | cons _ t1 ia =>
      cases ia with
      | cons _ t2 ia =>
        cases ia
        exact ⟨_, o1, t1, t2, n1, rfl, go1, co1, do1⟩
  have mapK : vs.map (fun v => pr (TS.intsOf h1 v)) = ps := by
    refine List.ext_getElem? fun i => ?_
    rw [List.getElem?_map]
    by_cases li : i < ps.length
    · obtain ⟨b, e1, e2⟩ := keyAt i ps[i] (List.getElem?_eq_getElem li)
      rw [e1, List.getElem?_eq_getElem li]
      exact congrArg some (key b _ e2)
    · rw [List.getElem?_eq_none (by omega), List.getElem?_eq_none (by omega)]
      rfl
  refine wpAny_bind (wpAny_holding (wpAny_call_entry (s := { s with heap := h1, toks := tk }) slot_list_sort ⟨_, gl, rfl⟩ entry_list_sort (SrtO.list_sort_ord (s := { s with heap := h1, toks := tk }) (SrtO.swo_lex fun v => pr (TS.intsOf h1 v)) gl lacc (fun two => SrtO.pairs_sortableO (by omega) isP fun o1 e => ?_) fun out srt stb => ⟨_, rfl, ?_⟩) (args_list_sort _)))
  · have e' : some o1 = some (seqObj "list" vs.toArray 0) := e.symm.trans gl
    cases e'
    intro c
    exact absurd (Value.type.inj c) (by decide)
  · obtain ⟨c, gc⟩ := sortedHeap_at (vs := vs) (out := out.toArray) gl
    have oown : ∀ v ∈ out, ∃ b x, v = Value.ref b ∧ H b = some (.tup [.int x.1, .int x.2]) ∧ (x : Pr) ∈ ps := fun v m => own v (stb.perm.mem_iff.mp m)
    have keepAll : ∀ b u, h'.get? b = some u → (sortedHeap h1 h'.objs.size vs out.toArray).get? b = some u := fun b u g1 => by
      have lt1 := Heap.lt_size g1
      rw [sortedHeap_old (Nat.ne_of_lt lt1) (Heap.lt_size (keep1 b u g1))]
      exact keep1 b u g1
    have nF : H h'.objs.size = none := I1.hok.fresh (Nat.le_refl _)
    let ts : List (Addr × Pr) := out.map fun v => (adr v, pr (TS.intsOf h1 v))
    have eo : ts.map (fun t => Value.ref t.1) = out := by
      rw [List.map_map]
      refine (List.map_congr_left fun v m => ?_).trans (List.map_id _)
      obtain ⟨b, x, rfl, _⟩ := oown v m
      rfl
    have vals : ∀ ts : List (Addr × Pr), Vals (ts.map fun q => V.ref q.1) (ts.map fun q => Value.ref q.1) := fun ts => by
      induction ts with
      | nil => exact .nil
      | cons t ts ih => exact .cons rfl ih
    have lo : ts.length ≤ sizeLine := by
      rw [List.length_map, stb.perm.length_eq]
      exact lacc
    have new : ObjOk X.prog X.w (upd H h'.objs.size (.lst (ts.map fun q => V.ref q.1))) (sortedHeap h1 h'.objs.size vs out.toArray) h'.objs.size (.lst (ts.map fun q => V.ref q.1)) := by
      refine ⟨by rw [List.length_map]; exact lo, ts.map fun q => Value.ref q.1, c, vals ts, ?_⟩
      rw [eo]
      exact gc
    have J := I1.laid (t' := tk) keepAll (Nat.le_refl _) new
    have pmk : (ts.map (·.2)).Perm ps := by
      rw [List.map_map, ← mapK]
      exact stb.perm.map fun v => pr (TS.intsOf h1 v)
    refine wpAny_pure ⟨_, rfl, .ref h'.objs.size, _, J, rfl, q _ _ (ts.map (·.2)) (newS nF) nF ⟨ts, upd_same, fun t m => ?_, rfl⟩ ⟨?_, fun x => pmk.mem_iff⟩ pmk.length_eq⟩
    · obtain ⟨v, m1, rfl⟩ := List.mem_map.mp m
      obtain ⟨b, x, rfl, e, _⟩ := oown v m1
      refine newS nF _ _ ?_
      show H b = some (.tup [.int (pr (TS.intsOf h1 (.ref b))).1, .int (pr (TS.intsOf h1 (.ref b))).2])
      rw [key b x e]
      exact e
    · have nd : (ts.map (·.2)).Nodup := pmk.nodup_iff.mpr hm.2
      rw [List.map_map] at nd ⊢
      refine List.pairwise_map.mpr ((srt.and (List.pairwise_map.mp nd)).imp fun {u v} h => ?_)
      have a1 := SrtO.lexB_no.mp h.1
      have a2 : ¬ ((pr (TS.intsOf h1 u)).1 = (pr (TS.intsOf h1 v)).1 ∧ (pr (TS.intsOf h1 u)).2 = (pr (TS.intsOf h1 v)).2) := fun e => h.2 (Prod.ext e.1 e.2)
      refine ltP_iff.mpr ?_
      show (pr (TS.intsOf h1 u)).1 < (pr (TS.intsOf h1 v)).1 ∨ (pr (TS.intsOf h1 u)).1 = (pr (TS.intsOf h1 v)).1 ∧ (pr (TS.intsOf h1 u)).2 < (pr (TS.intsOf h1 v)).2
      omega
end Vx
namespace Vx
open PySem PySem.Spec PyProof.Rows L2
/-! ### a number in binary digits -/
def binL (n : Nat) : List Nat := (Nat.toDigits 2 n).map Char.toNat
def binT (n : Nat) : Str := ⟨(binL n).toArray⟩
section
open PySem.Builtin PySem.Builtin.Int PySem.Builtin.Float
variable {prog : Program} {w : World} {A : Around} {E : Value → Shared → Prop} {s : Shared} {t : Tok}
def fB : FormatSpec := { align := 62, type := some 98 }
theorem parse_b : parseFormatSpec (Str.ofString "b").cps.toList "int" 62 = .ok fB := by rfl
theorem field_b {n : Nat} {Q : Value → Shared → Prop} (hl : (binT n).length ≤ sizeLine) (h : ∀ t' k, Q (.str (binT n) t') { s with toks := k }) : wpAny (model prog w) A (formatField (.int (n : Int) t) (Str.ofString "b")) Q E s := by
  refine PySem.W.KXf.field_int (spec' := Str.ofString "b") (y := binT n) rfl (by decide +kernel) (by decide +kernel) (fun u => ?_) h
  apply PySem.W.KPc.meets_of
  intro prog w A s P E k
  unfold Builtin.«int.__format__»
  have hne : ((Str.ofString "b").length == 0) = false := by decide +kernel
  have hasc : (((Str.ofString "b").cps.toList.drop 1).any (· ≥ 128) || ((Str.ofString "b").cps.getD 0 0 ≥ 128 && !([60, 62, 61, 94] : List Nat).contains ((Str.ofString "b").cps.getD 1 0))) = false := by decide +kernel
  simp only [selfAndOne, noKeywords, Int.intOfSelf, asInt?, asStr?, List.isEmpty_nil, if_true, pure_bind, bind_pure, bind_assoc, hne, hasc, Bool.false_eq_true, if_false,
    show (Value.str (Str.ofString "b") u == Value.none) = false from rfl]
  refine wpAny_bind (wpAny_typeNameOf (T := "str") (typeIs_str _ _ _) (by decide) fun _ => ?_)
  refine wpAny_bind (wpAny_typeNameOfCut_int ?_)
  simp only [parse_b]
  rw [if_pos (by decide +kernel)]
  have ne : Nat.toDigits 2 n ≠ [] := Nat.toDigits_ne_nil
  have main : intField' fB (decide ((n : Int) < 0)) [] ((Nat.toDigits 2 ((n : Int)).natAbs).map Char.toNat) [] 4 = binT n := by
    rw [decide_eq_false (show ¬ (n : Int) < 0 by omega), Int.natAbs_natCast]
    unfold binT binL
    cases hd : Nat.toDigits 2 n with
    | nil => exact absurd hd ne
    | cons c cs =>
      have go : ∀ L : List Nat, L.isEmpty = false → intField' fB false [] L [] 4 = ⟨L.toArray⟩ := fun L hL => by
        unfold intField'
        rw [hL]
        show (⟨(List.replicate (((-1 : Int) - (0 + 0 + 0) - ((List.replicate ((0 : Int).toNat - L.length) 48 ++ L).length : Int)).toNat) 32 ++ [] ++ [] ++ List.replicate 0 32 ++ (List.replicate ((0 : Int).toNat - L.length) 48 ++ L) ++ [] ++ List.replicate 0 32).toArray⟩ : Str) = ⟨L.toArray⟩
        have r0 : (0 : Int).toNat - L.length = 0 := Nat.zero_sub _
        have r1 : ((-1 : Int) - (((0 : Nat) : Int) + ((0 : Nat) : Int) + ((0 : Nat) : Int)) - (L.length : Int)).toNat = 0 := by omega
        rw [r0, List.replicate_zero, List.replicate_zero, List.nil_append, r1]
        simp
      exact go _ rfl
  show wpAny (model prog w) A (retStr _) P E s
  refine PySem.W.KXf.ret_text (T := binT n) ?_ ?_ k
  · exact main
  · refine Nat.le_trans (Nat.le_of_eq ?_) hl
    exact congrArg Str.length main
end
section
variable {X : Cx}
/-- f"{n:b}" -/
theorem pe_fmtB {e spec : Expr} {te : TE} {pos : Pos} (he : PE X e te) (hs : PE X spec (tC (.str (Str.ofString "b")))) : PE X (.FormattedValue e (-1) (some spec) pos) (fun σ H Q => te σ H fun x H1 => ∃ n : Nat, x = .int (n : Int) ∧ (binT n).length ≤ sizeLine ∧ Q (.str (binT n)) H1) := by
  refine ⟨fun pins s σ H Q I h => ?_⟩
  refine wpAny_FormattedValue_spec (thn (he.run pins s σ H _ I h) fun v s1 hv => ?_)
  obtain ⟨x, H1, I1, r1, n, rfl, hl, q⟩ := hv
  obtain ⟨t, rfl⟩ := r1
  refine thn (hs.run pins s1 σ H1 (fun y H2 => y = .str (Str.ofString "b") ∧ Q (.str (binT n)) H2) I1 ⟨rfl, q⟩) fun r s2 hr => ?_
  obtain ⟨y, H2, I2, r2, rfl, q2⟩ := hr
  obtain ⟨t2, rfl⟩ := r2
  exact ⟨_, _, rfl, field_b hl fun t' k => ⟨.str (binT n), H2, I2.tok k, ⟨_, rfl⟩, q2⟩⟩
end
theorem cnt_nat (c : Nat) : ∀ l : List Nat, cnt c l = ((l.count c : Nat) : Int)
  | [] => by rfl
  | x :: l => by
    have ih : countIn (.str ⟨#[c]⟩) (l.map fun n => PyData.str ⟨#[n]⟩) = _ := cnt_nat c l
    show (if same (PyData.str ⟨#[x]⟩) (.str ⟨#[c]⟩) = true then 1 else 0) + countIn (.str ⟨#[c]⟩) (l.map fun n => PyData.str ⟨#[n]⟩) = _
    rw [ih, List.count_cons]
    have e : same (PyData.str ⟨#[x]⟩) (PyData.str ⟨#[c]⟩) = (x == c) := by
      show ((⟨#[x]⟩ : Str) == ⟨#[c]⟩) = _
      by_cases h : x = c
      · subst h
        simp
      · have h2 : ((⟨#[x]⟩ : Str) == ⟨#[c]⟩) = false := beq_eq_false_iff_ne.mpr fun z => h (by injection z with z; injection z with z; injection z with z)
        rw [h2]
        exact (beq_eq_false_iff_ne.mpr h).symm
    rw [e]
    by_cases h : (x == c) = true
    · rw [if_pos h, if_pos h]
      omega
    · rw [if_neg h, if_neg h]
      omega
theorem bitsB_half (N n : Nat) : (bitsB (N + 1) n).length = n % 2 + (bitsB N (n / 2)).length := by
  unfold bitsB
  have e : ((fun j => n.testBit j) ∘ Nat.succ) = fun j => (n / 2).testBit j := funext fun j => Nat.testBit_succ n j
  rw [List.range_succ_eq_map, List.filter_cons, List.filter_map, e, Nat.testBit_zero]
  by_cases h : n % 2 = 1
  · rw [if_pos (decide_eq_true h), List.length_cons, List.length_map]
    omega
  · rw [if_neg (by simpa using h), List.length_map]
    omega
theorem binL_big {n : Nat} (h : 2 ≤ n) : binL n = binL (n / 2) ++ [n % 2 + 48] := by
  unfold binL
  rw [Nat.toDigits_of_base_le (by decide) h, List.map_append]
  congr 1
  have : n % 2 < 2 := Nat.mod_lt _ (by decide)
  rcases (show n % 2 = 0 ∨ n % 2 = 1 by omega) with e | e <;> rw [e] <;> rfl
theorem binL_small {n : Nat} (h : n < 2) : binL n = [n + 48] := by
  unfold binL
  rw [Nat.toDigits_of_lt_base h]
  rcases (show n = 0 ∨ n = 1 by omega) with e | e <;> rw [e] <;> rfl
/-- so many ones as there are bits -/
theorem ones_bits : ∀ (N n : Nat), n < 2 ^ N → (binL n).count 49 = (bitsB N n).length
  | 0, n, h => by
    have : n = 0 := by simpa using h
    subst this
    rw [binL_small (by decide), bits_zero]
    rfl
  | N + 1, n, h => by
    rw [bitsB_half]
    have h2 : n / 2 < 2 ^ N := by
      rw [Nat.pow_succ] at h
      omega
    by_cases b : 2 ≤ n
    · rw [binL_big b, List.count_append, ones_bits N (n / 2) h2, List.count_singleton]
      rcases (show n % 2 = 0 ∨ n % 2 = 1 by omega) with e | e <;> rw [e] <;> simp <;> omega
    · rw [binL_small (by omega), show n / 2 = 0 by omega, bits_zero]
      rcases (show n = 0 ∨ n = 1 by omega) with e | e <;> subst e <;> rfl
theorem bin_len : ∀ (N n : Nat), n < 2 ^ N → (binL n).length ≤ N + 1
  | 0, n, h => by
    have : n = 0 := by simpa using h
    subst this
    rw [binL_small (by decide)]
    exact Nat.le_refl _
  | N + 1, n, h => by
    have h2 : n / 2 < 2 ^ N := by
      rw [Nat.pow_succ] at h
      omega
    by_cases b : 2 ≤ n
    · rw [binL_big b, List.length_append]
      have := bin_len N (n / 2) h2
      simp
      omega
    · rw [binL_small (by omega)]
      simp
theorem count_bin {N n : Nat} (h : n < 2 ^ N) : Txt.count (binT n) (Str.ofString "1") = (((bitsB N n).length : Nat) : Int) := by
  have e : (Str.ofString "1") = ⟨#[49]⟩ := by decide +kernel
  rw [e, count_cnt, cnt_nat]
  show (((binL n).toArray.toList.count 49 : Nat) : Int) = _
  rw [ones_bits N n h]
theorem binT_len {N n : Nat} (h : n < 2 ^ N) (hN : N < 16000000) : (binT n).length ≤ sizeLine := by
  have := bin_len N n h
  show (binL n).toArray.size ≤ _
  rw [List.size_toArray, sizeLine_eq]
  omega
end Vx
namespace Vx
open PySem PySem.Spec PyProof.Rows L2
/-! ### a dict comprehension whose keys are tuples of ints -/
theorem set_compT {X : Cx} {pins : List (Addr × Obj)} {σ : L2.St} {H : Hp} {s : Shared} {E : Value → Shared → Prop} {D b : Addr} {kvs : List (List L2.Key × V)} {k : List L2.Key} {v : V} {r : Value} {Q : Unit → Shared → Prop} (hu : X.A.units < cLine) (I : Inv X pins σ H s)
    (hD : H D = some (.dT kvs)) (few : kvs.length < sizeLine) (eb : H b = some (.tup (k.map kV))) (rv : RelV v r) (h : ∀ s', Inv X pins σ (upd H D (.dT (putK kvs k v))) s' → Q () s') : wpAny (model X.prog X.w) X.A (dictSet D (.ref b) r) Q E s := by
  obtain ⟨lim, notSys, xs, rel, at_⟩ := dt_of I.hok hD
  have lx : xs.length ≤ sizeLine := Paired.length rel ▸ lim
  have lp := length_putK kvs k v
  refine wpAny_dictSet_heap (hsz := lx) (knd := tupleKind (mixKind X.prog X.w)) hu (key_of I.hok eb) at_ fun h' after same => h _ ?_
  obtain ⟨q, es, ep, gq, a1, a2, a3, _, a4⟩ := after
  have other : ∀ c ys, H c = some (.tup ys) → upd H D (.dT (putK kvs k v)) c = some (.tup ys) := fun c ys ec => by
    rw [upd_ne fun e => ?_]
    · exact ec
    · rw [e, hD] at ec
      cases ec
  exact d_write I (by rw [hD]; exact True.intro) same ⟨q, gq⟩ ⟨by omega, notSys, _, (rel.put k eb rv).keeps other, q, es, ep, gq, a1, a2, a3, a4⟩
/-- what one turn of the comprehension asks -/
def AskT (g : TG) (tt : TT) (tk tv : TE) (vs : List Nat) (σ0 : L2.St) (D : Addr) (Nx : Hp → Prop) (x : V) (H' : Hp) : Prop :=
  g x σ0 H' fun σ2 H2 => wipe σ2 vs = σ0 ∧ tt σ2 H2 fun b H3 =>
    if b = true then tk σ2 H3 fun y H4 => tv σ2 H4 fun z H5 => ∃ (kvs : List (List L2.Key × V)) (k : List L2.Key) (b : Addr), y = .ref b ∧ H5 b = some (.tup (k.map kV)) ∧ H5 D = some (.dT kvs) ∧ kvs.length < sizeLine ∧ Nx (upd H5 D (.dT (putK kvs k z))) else Nx H3
/-- one turn, in the comprehension's own block Y -/
theorem turnT {Y : Cx} {tg kx vx : Expr} {ifs : List Expr} {g : TG} {tt : TT} {tk tv : TE} {vs : List Nat} {σ0 : L2.St} {J : It} {fp : List Addr} {it D : Addr} {tn : Nat → Heap → Prop} {Nx : Hp → Prop} {R : Result → Shared → Prop} {Ex : Value → Shared → Prop} {G : Shared → Prop} {i : Nat} {H0 : Hp} {s0 : Shared}
    (hu : Y.A.units < cLine) (calm : Y.calm = true) (quiet : Y.xe = fun _ _ => False) (pg : PG Y tg g) (pt : PTs Y ifs tt) (pk : PE Y kx tk) (pv : PE Y vx tv) (T : Turn Y.prog Y.w Y.K tg J fp it tn)
    (own : ∀ {σ' : L2.St} {H' : Hp} {s' : Shared}, Inv Y [] σ' H' s' → (∀ b ∈ fp, H' b = none) → ∀ b ∈ fp, FpOk Y [] H' b)
    (I0 : Inv Y [] σ0 H0 s0) (st0 : tn i s0.heap) (no0 : ∀ b ∈ fp, H0 b = none) (go : J.go i H0) (ask : ∀ x H', J.yld i H0 x H' → AskT g tt tk tv vs σ0 D Nx x H')
    (fin : ∀ {s' : Shared} {H' : Hp}, Inv Y [] σ0 H' s' → tn (i + 1) s'.heap → (∀ b ∈ fp, H' b = none) → Nx H' → G s') :
    wpAny (model Y.prog Y.w) Y.A (pyNext (.ref it)) (fun r s₁ => match r with
      | none => R (.ok .next) s₁
      | some v => wpAny (model Y.prog Y.w) Y.A (letOwnedTupleGo tg (.ref it) v) (fun _ s₁' => wpAny (model Y.prog Y.w) Y.A (assign tg Y.env v) (fun _ s₂ =>
          wpAny (model Y.prog Y.w) Y.A (forIn ifs true fun c r => if r = true then do let ok ← isTrue c Y.env (eval c Y.env); pure (ForInStep.yield ok) else pure (ForInStep.yield r)) (fun ok s₃ =>
            if ok = true then wpAny (model Y.prog Y.w) Y.A (eval kx Y.env) (fun kv s₄ => wpAny (model Y.prog Y.w) Y.A (eval vx Y.env) (fun vv s₅ =>
              wpAny (model Y.prog Y.w) Y.A (dictSet D kv vv) (fun _ s₆ => G s₆) Ex s₅) Ex s₄) Ex s₃
            else G s₃) Ex s₂) Ex s₁') Ex s₁) Ex s0 := by
  have first := T.item Y rfl rfl rfl calm i [] s0 _ H0 (fun _ _ => False) I0 (own I0 no0) st0 go
  refine thnF first fun r s1 ⟨u, er, took⟩ => ?_
  subst er
  refine thnF took fun _ s2 ⟨x, H1, I1, rx, yx, st1, no1⟩ => ?_
  have J1 := I1.pinned (own I1 no1) (T.obj _ _ st1)
  have rg := pg.run _ s2 _ H1 x u _ J1 rx (ask x H1 yx)
  rw [quiet] at rg
  refine thnF rg fun _ s3 ⟨σ2, H2, I2, back, q2⟩ => ?_
  have rt := pt.run _ s3 σ2 H2 _ I2 q2
  rw [quiet] at rt
  refine thnF rt fun b s4 ⟨H3, I3, q3⟩ => ?_
  -- the end of the turn
  have close : ∀ {s' : Shared} {H' : Hp}, Inv Y ([] ++ pinsAt fp s2.heap) σ2 H' s' → Nx H' → G s' := fun {s' H'} I' nx => by
    have kept : ∀ c ∈ fp, ∀ o, s2.heap.get? c = some o → s'.heap.get? c = some o ∧ H' c = none := fun c hc o e => by
      have z := I'.pin (c, o) (List.mem_append_right _ (List.mem_append_right _ (mem_pinsAt hc e)))
      exact ⟨z.1, z.2.1⟩
    have len : σ0.length = σ2.length := by rw [← back, wipe_length]
    refine fin ((I'.unpinned (pins := [])).weak len fun j v e => ?_) (T.keep _ _ _ st1 fun c hc o e => (kept c hc o e).1) (fun c hc => ?_) nx
    · rw [← back] at e
      exact (wipe_some e).1
    · obtain ⟨o, e, _⟩ := T.obj _ _ st1 c hc
      exact (kept c hc o e).2
  cases b with
  | false => exact close I3 q3
  | true =>
    have rk := pk.run _ s4 σ2 H3 _ I3 q3
    rw [quiet] at rk
    refine thnF rk fun z s5 ⟨yk, H4, I4, ry, q4⟩ => ?_
    have rv := pv.run _ s5 σ2 H4 _ I4 q4
    rw [quiet] at rv
    refine thnF rv fun z2 s6 ⟨yv, H5, I5, rz, kvs, k, c, ek, hc, hD, few, nx⟩ => ?_
    subst ek
    cases ry
    exact set_compT hu I5 hD few hc rz fun s7 I7 => close I7 nx
section
variable {X : Cx}
/-- {k: v for target in iter if ..}: D the new dict -/
def tDcT (wi : TI) (g : TG) (tt : TT) (tk tv : TE) (vs : List Nat) : TE := fun σ H Q => wi σ H fun J H1 => ∀ D, H1 D = none → ∃ W : Nat → Nat → Hp → Prop, (∃ m, W 0 m (upd H1 D (.dT []))) ∧ ∀ i m H, W i m H →
  (J.stop i H ∧ Q (.ref D) H) ∨ (J.go i H ∧ ∃ Nx : Hp → Prop, (∀ H', Nx H' → ∃ m', m' < m ∧ W (i + 1) m' H') ∧ ∀ x H', J.yld i H x H' → AskT g tt tk tv vs (wipe σ vs) D Nx x H')
theorem dc_core {pins : List (Addr × Obj)} {s : Shared} {σ : L2.St} {H : Hp} {Q : VK} {kx vx tg iter : Expr} {ifs : List Expr} {scope : Scope} {own : List (Str × Nat)} {pos pos' : Pos} {wi : TI} {g : TG} {tt : TT} {tk tv : TE} {use : Option (Value → Sem Unit)} {Qf : Value → Shared → Prop} (calm : X.calm = true) (hu : X.A.units < cLine) (hN : X.N.Nodup) (I : Inv X pins σ H s) (hi : PI X tg iter wi) (ok : BlkOk X.N X.env.scope scope own)
    (hg : ∀ (s : Shared) (H : Hp) (C : Addr) (cl : List (Str × Addr)) (fp : List Addr), PG (X.blk s H scope (compEnvC scope cl C X.env) fp) tg g) (ht : ∀ (s : Shared) (H : Hp) (C : Addr) (cl : List (Str × Addr)) (fp : List Addr), PTs (X.blk s H scope (compEnvC scope cl C X.env) fp) ifs tt)
    (hk : ∀ (s : Shared) (H : Hp) (C : Addr) (cl : List (Str × Addr)) (fp : List Addr), PE (X.blk s H scope (compEnvC scope cl C X.env) fp) kx tk)
    (hv : ∀ (s : Shared) (H : Hp) (C : Addr) (cl : List (Str × Addr)) (fp : List Addr), PE (X.blk s H scope (compEnvC scope cl C X.env) fp) vx tv) (hs : ∀ x, foldedSetIterable iter X.env x = pure x) (h : tDcT wi g tt tk tv (own.map (·.2)) σ H Q)
    (hRR : ∀ D C s' m H', Inv X pins σ H' s' → Q (.ref D) H' → s'.heap.Ns C m → FpOk X pins H' C → compPost (model X.prog X.w) X.A X.xe use Qf (.ref D) C (.ok .next) s') :
    wpAny (model X.prog X.w) X.A (comprehension (.DictComp kx vx [⟨tg, iter, ifs, 0⟩] scope pos) scope X.env pos' newDict false (eval iter X.env) use) Qf X.xe s := by
  have hfree : ∀ y ∈ scope.names, y.2 = .free → ∃ c, X.env.cells.lookup y.1 = some c := fun y hy e => (ok.free y hy e).elim (fun k => I.ok.has _ (.inl k)) fun k => I.ok.has _ (.inr k)
  refine wpAny_comprehension_free (use := use) rfl hs (closure_ok hfree) ok.kind (fun y hy e => by rw [ok.uniq y hy, e]) (thn (hi.run pins s σ H _ I h) fun xv s1 hx => thn hx fun itv sI got => ?_)
  obtain ⟨it, fp, tn, J, HI, rfl, II, T, stI, fpI, q⟩ := got
  refine wpAny_newObj_type (newEnv_comp ?_)
  -- the new dict
  obtain ⟨D, eD⟩ : ∃ D, D = sI.heap.objs.size := ⟨_, rfl⟩
  have nD : HI D = none := II.hok.fresh (Nat.le_of_eq eD.symm)
  obtain ⟨W, ⟨m0, w0⟩, turns⟩ := q D nD
  have hE : ∃ sE : Shared, sE = { sI with heap := sI.heap.push { cls := .type "dict", data := .dict #[] } } := ⟨_, rfl⟩
  obtain ⟨sE, eE⟩ := hE
  have pushE : sE.heap = sI.heap.push { cls := .type "dict", data := .dict #[] } := by rw [eE]
  have IE : Inv X pins σ (upd HI D (.dT [])) sE := by
    rw [eE]
    refine II.laid (t' := sI.toks) (fun b o e => Heap.get?_push_of_some _ e) (Nat.le_of_eq eD.symm) ?_
    rw [eD]
    exact dt_empty sI.heap II.big
  have fpE : ∀ b ∈ fp, FpOk X pins (upd HI D (.dT [])) b ∧ b < sE.heap.objs.size := fun b hb => by
    obtain ⟨o, e, _⟩ := T.obj _ _ stI b hb
    have lb := Heap.lt_size e
    obtain ⟨no, more⟩ := fpI b hb
    refine ⟨⟨?_, more⟩, by rw [pushE, Heap.size_push]; exact Nat.lt_succ_of_lt lb⟩
    rw [upd_ne (Nat.ne_of_lt (by rw [eD]; exact lb))]
    exact no
  have stE : tn 0 sE.heap := T.keep _ _ _ stI fun b _ o e => by rw [pushE]; exact Heap.get?_push_of_some _ e
  -- the block
  have IB := block_start IE ok hN fpE
  have pgB := hg sE (upd HI D (.dT [])) sE.heap.objs.size (cellsFrom (sE.heap.objs.size + 1) scope.names (cloFrom X.env.cells scope.names [])) fp
  have ptB := ht sE (upd HI D (.dT [])) sE.heap.objs.size (cellsFrom (sE.heap.objs.size + 1) scope.names (cloFrom X.env.cells scope.names [])) fp
  have pkB := hk sE (upd HI D (.dT [])) sE.heap.objs.size (cellsFrom (sE.heap.objs.size + 1) scope.names (cloFrom X.env.cells scope.names [])) fp
  have pvB := hv sE (upd HI D (.dT [])) sE.heap.objs.size (cellsFrom (sE.heap.objs.size + 1) scope.names (cloFrom X.env.cells scope.names [])) fp
  rw [← eD]
  have eS : ({ sI with heap := sI.heap.push { cls := .type "dict", data := .dict #[] } } : Shared) = sE := eE.symm
  rw [eS]
  show codeAny _ _ (.compStart (.DictComp kx vx [⟨tg, iter, ifs, 0⟩] scope pos) 0 (.ref it) (.ref D) (compEnvC scope (cellsFrom (sE.heap.objs.size + 1) scope.names (cloFrom X.env.cells scope.names [])) sE.heap.objs.size X.env)) _ _
  have noE : ∀ b ∈ fp, upd HI D (.dT []) b = none := fun b hb => (fpE b hb).1.1
  obtain ⟨env, eEnv⟩ : ∃ env, env = compEnvC scope (cellsFrom (sE.heap.objs.size + 1) scope.names (cloFrom X.env.cells scope.names [])) sE.heap.objs.size X.env := ⟨_, rfl⟩
  have locE : env.locals = sE.heap.objs.size := by rw [eEnv]; rfl
  rw [← eEnv] at IB pgB ptB pkB pvB ⊢
  obtain ⟨HE, eHE⟩ : ∃ HE, HE = upd HI D (.dT []) := ⟨_, rfl⟩
  rw [← eHE] at IE IB pgB ptB pkB pvB w0 noE fpE
  obtain ⟨sB, eB⟩ : ∃ sB : Shared, sB = { sE with heap := pushCells (sE.heap.push { cls := .type "dict", data := .dict #[] }) scope.names } := ⟨_, rfl⟩
  rw [← eB] at IB ⊢
  have stB : tn 0 sB.heap := T.keep _ _ _ stE fun b _ o e => by rw [eB]; exact pushCells_keeps _ _ _ _ (Heap.get?_push_of_some _ e)
  have ownB : ∀ {σ' : L2.St} {H' : Hp} {s' : Shared}, Inv (X.blk sE HE scope env fp) [] σ' H' s' → (∀ b ∈ fp, H' b = none) → ∀ b ∈ fp, FpOk (X.blk sE HE scope env fp) [] H' b := fun {σ' H' s'} I' no b hb =>
    ⟨no b hb, (I'.ok.exf b hb).1, I'.ok.exfs b hb, .inl hb, fun x c e => (I'.ok.exf b hb).2 x c e, fun p hp => absurd (show p ∈ ([] : List (Addr × Obj)) ++ [] from hp) (by simp)⟩
  have loop : codeAny (model X.prog X.w) X.A (.compLoop (.DictComp kx vx [⟨tg, iter, ifs, 0⟩] scope pos) 0 (.ref it) (.ref D) env) (compPost (model X.prog X.w) X.A X.xe use Qf (.ref D) sE.heap.objs.size) sB := by
    refine compLoop_anyD (fun n s' => ∃ i H', Inv (X.blk sE HE scope env fp) [] (wipe σ (own.map (·.2))) H' s' ∧ tn i s'.heap ∧ (∀ b ∈ fp, H' b = none) ∧ W i n H') ?_ m0 ⟨0, HE, IB, stB, noE, w0⟩
    rintro n s5 ⟨i, H5, I5, st5, no5, w5⟩
    rcases turns i n H5 w5 with ⟨stop, done⟩ | ⟨go, Nx, less, ask⟩
    · refine thnF (T.done (X.blk sE HE scope env fp) rfl rfl rfl calm i [] s5 _ H5 (fun _ _ => False) I5 (ownB I5 no5) st5 stop) fun r s6 ⟨er, I6⟩ => ?_
      subst er
      have IX : Inv X pins σ H5 s6 := IE.call' (ch := fp) I6.os I6.base I6.hok I6.bare fun b hb => by
        obtain ⟨_, f1, _, f3, f4, f5⟩ := (fpE b hb).1
        exact ⟨f3, f1, f4, f5⟩
      have nC : H5 sE.heap.objs.size = none := by
        rw [← locE]
        exact I6.free
      obtain ⟨m, hn, _⟩ := I6.loc
      have hn : s6.heap.Ns env.locals m := hn
      rw [locE] at hn
      exact hRR D _ s6 m H5 IX done hn (IE.fpOk (Nat.le_refl _) nC)
    · refine turnT (Y := X.blk sE HE scope env fp) (G := fun s' => ∃ m, m < n ∧ ∃ i H', Inv (X.blk sE HE scope env fp) [] (wipe σ (own.map (·.2))) H' s' ∧ tn i s'.heap ∧ (∀ b ∈ fp, H' b = none) ∧ W i m H') hu calm rfl pgB ptB pkB pvB T ownB I5 st5 no5 go ask fun {s' H'} I' st' no' nx => ?_
      obtain ⟨m, lm, w'⟩ := less H' nx
      exact ⟨m, lm, i + 1, H', I', st', no', w'⟩
  exact codeAny_compStart_dict loop (T.self X.A 0 _ _ _ stB loop)
theorem pe_dcT {kx vx tg iter : Expr} {ifs : List Expr} {scope : Scope} {own : List (Str × Nat)} {pos : Pos} {wi : TI} {g : TG} {tt : TT} {tk tv : TE} (calm : X.calm = true) (hu : X.A.units < cLine) (hN : X.N.Nodup) (hi : PI X tg iter wi) (ok : BlkOk X.N X.env.scope scope own)
    (hg : ∀ (s : Shared) (H : Hp) (C : Addr) (cl : List (Str × Addr)) (fp : List Addr), PG (X.blk s H scope (compEnvC scope cl C X.env) fp) tg g) (ht : ∀ (s : Shared) (H : Hp) (C : Addr) (cl : List (Str × Addr)) (fp : List Addr), PTs (X.blk s H scope (compEnvC scope cl C X.env) fp) ifs tt)
    (hk : ∀ (s : Shared) (H : Hp) (C : Addr) (cl : List (Str × Addr)) (fp : List Addr), PE (X.blk s H scope (compEnvC scope cl C X.env) fp) kx tk)
    (hv : ∀ (s : Shared) (H : Hp) (C : Addr) (cl : List (Str × Addr)) (fp : List Addr), PE (X.blk s H scope (compEnvC scope cl C X.env) fp) vx tv) (hs : ∀ x, foldedSetIterable iter X.env x = pure x := by intro _; rfl) :
    PE X (.DictComp kx vx [⟨tg, iter, ifs, 0⟩] scope pos) (tDcT wi g tt tk tv (own.map (·.2))) := by
  refine ⟨fun pins s σ H Q I h => ?_⟩
  rw [arm_eval_DictComp]
  refine dc_core (use := none) calm hu hN I hi ok hg ht hk hv hs h fun D C s' m H' I' q hn f => ?_
  obtain ⟨f0, f1, f2, f3, f4, f5⟩ := f
  exact ⟨m, hn, fun h'' sb => ⟨.ref D, H', I'.turned (t' := s'.toks) (fun b o hb e => (sb.2 b hb).trans e) f0 f1 f3 f4 f5, rfl, q⟩⟩
theorem sw_dict {kx vx : Expr} {gs : List Comprehension} {scope : Scope} {pos py : Pos} {y : Str} {l : Nat} {env : Env} (hk : env.scope.kind = .function) (hy : env.scope.names.lookup y = some .local) (hl : (py.line == pos.line) = true)
    (ha : (scope.names.any fun (n, k) => n == y && (k == .local || k == .cell)) = false) : swapsWith (.DictComp kx vx gs scope pos) (some (.Name y py)) l env = pure true := by
  have ky : env.kindOf y = some .local := hy
  have hb : env.blockKind = .function := by unfold Env.blockKind; rw [hk]; rfl
  unfold swapsWith
  simp only [hb, ky, ha, Expr.pos, hl]
  rfl
theorem ps_setDcT {i : Nat} {y : Str} {py : Pos} {kx vx tg iter : Expr} {ifs : List Expr} {scope : Scope} {own : List (Str × Nat)} {pos spos : Pos} {wi : TI} {g : TG} {tt : TT} {tk tv : TE} (calm : X.calm = true) (hu : X.A.units < cLine) (hN : X.N.Nodup) (hy : X.N[i]? = some y) (hyl : X.env.scope.names.lookup y = some .local)
    (hsw : swapsWith (.DictComp kx vx [⟨tg, iter, ifs, 0⟩] scope pos) (some (.Name y py)) spos.line X.env = pure true) (hi : PI X tg iter wi) (ok : BlkOk X.N X.env.scope scope own)
    (hg : ∀ (s : Shared) (H : Hp) (C : Addr) (cl : List (Str × Addr)) (fp : List Addr), PG (X.blk s H scope (compEnvC scope cl C X.env) fp) tg g) (ht : ∀ (s : Shared) (H : Hp) (C : Addr) (cl : List (Str × Addr)) (fp : List Addr), PTs (X.blk s H scope (compEnvC scope cl C X.env) fp) ifs tt)
    (hk : ∀ (s : Shared) (H : Hp) (C : Addr) (cl : List (Str × Addr)) (fp : List Addr), PE (X.blk s H scope (compEnvC scope cl C X.env) fp) kx tk)
    (hv : ∀ (s : Shared) (H : Hp) (C : Addr) (cl : List (Str × Addr)) (fp : List Addr), PE (X.blk s H scope (compEnvC scope cl C X.env) fp) vx tv) (hs : ∀ x, foldedSetIterable iter X.env x = pure x := by intro _; rfl) :
    PS X (.Assign [.Name y py] (.DictComp kx vx [⟨tg, iter, ifs, 0⟩] scope pos) spos) (tAsg (tDcT wi g tt tk tv (own.map (·.2))) (gName i)) := by
  refine ⟨fun pins s σ H D I h => ?_⟩
  rw [exec_Assign_Name_used _ _ _ _ hsw]
  refine wpAny_bind (wpAny_standAt (wpAny_bind ?_))
  show wpAny _ X.A (do let _ ← comprehension (.DictComp kx vx [⟨tg, iter, ifs, 0⟩] scope pos) scope X.env (firstIterPos [⟨tg, iter, ifs, 0⟩] pos) newDict false (eval iter X.env) (some (assign (.Name y py) X.env))) _ _ s
  have h : tDcT wi g tt tk tv (own.map (·.2)) σ H (fun x H1 => gName i x σ H1 D.nx) := h
  refine wpAny_bind (thn (dc_core (Qf := fun _ s' => SP X pins D .next s') calm hu hN I hi ok hg ht hk hv hs h fun L C s' m H' I' q hn f => ?_) fun _ s' hq => wpAny_pure (wpAny_pure hq))
  show wpAny _ _ (assign (.Name y py) X.env (.ref L)) _ _ _
  refine wpAny_assign_Name (store_ok2 (v := V.ref L) I' hN hy (.inl hyl) rfl (fun s2 I2 ⟨a, sb, ha⟩ => ?_) (.inr hyl))
  obtain ⟨f0, f1, f2, f3, f4, f5⟩ := f
  have haC : C ≠ a := by
    rcases ha with z | z
    · rw [z]; exact f1
    · exact fun e => f4 y a z e.symm
  refine ⟨m, hn.sameBut sb haC, fun h3 sb3 => ?_⟩
  exact ⟨_, H', I2.turned (t' := s2.toks) (fun b o hb e => (sb3.2 b hb).trans e) f0 f1 f3 f4 f5, q⟩
/-- over a walk -/
theorem dcT_it {J : It} {n : Nat} {G : Hp → Prop} {Y : Nat → Hp → V → Hp → Prop} (w : Walk J n G Y) {g : TG} {tt : TT} {tk tv : TE} {vs : List Nat} {σ : L2.St} {H1 : Hp} {D : Addr} {Qd : Hp → Prop} (Pv : Nat → Hp → Prop) (h0 : Pv 0 (upd H1 D (.dT []))) (hG : ∀ i H, i ≤ n → Pv i H → G H)
    (hs : ∀ i x H H', i < n → Pv i H → Y i H x H' → AskT g tt tk tv vs (wipe σ vs) D (Pv (i + 1)) x H') (hd : ∀ H, Pv n H → Qd H) :
    ∃ W : Nat → Nat → Hp → Prop, (∃ m, W 0 m (upd H1 D (.dT []))) ∧ ∀ i m H, W i m H →
      (J.stop i H ∧ Qd H) ∨ (J.go i H ∧ ∃ Nx : Hp → Prop, (∀ H', Nx H' → ∃ m', m' < m ∧ W (i + 1) m' H') ∧ ∀ x H', J.yld i H x H' → AskT g tt tk tv vs (wipe σ vs) D Nx x H') := by
  refine ⟨fun i m H => m + i = n ∧ Pv i H, ⟨n, rfl, h0⟩, ?_⟩
  rintro i m H ⟨e, p⟩
  have st := hG i H (by omega) p
  by_cases lt : i < n
  · exact .inr ⟨w.goes i H lt st, Pv (i + 1), fun H' p' => ⟨m - 1, by omega, by omega, p'⟩, fun x H' y => hs i x H H' lt p (w.yields i H x H' lt st y)⟩
  · have : i = n := by omega
    subst this
    exact .inl ⟨w.stops H st, hd H p⟩
end
end Vx
namespace Vx
open PySem PySem.Spec PyProof.Rows L2
theorem op_notInP {X : Cx} (hu : X.A.units + 65 < cLine) : OpR X (compareOp .NotIn) (fun x y H Q => ∃ (t a : Addr) (p : Pr) (ps : List Pr), x = .ref t ∧ y = .ref a ∧ H t = some (.tup [.int p.1, .int p.2]) ∧ Cells H a ps ∧ Q (.bl (!decide (p ∈ ps))) H) := by
  intro pins s σ H x y v u Q I rx ry h
  obtain ⟨t, a, p, ps, rfl, rfl, ht, hc, q⟩ := h
  refine op_notInD hu pins s σ H _ _ v u Q I rx ry ⟨pd p, ps.map pd, .tup (tup_of ht) (.cons (.int _) (.cons (.int _) .nil)), dp_cells hc, shaped_pd p, shaped_cells ps, ?_⟩
  rw [any_pd]
  exact q
/-! ### lists of lists of pairs -/
def lp (ps : List Pr) : PyData := .list (ps.map pd)
def CellsL (H : Hp) (l : Addr) (pss : List (List Pr)) : Prop :=
  ∃ ts : List (Addr × List Pr), H l = some (.lst (ts.map fun t => V.ref t.1)) ∧ (∀ t ∈ ts, Cells H t.1 t.2) ∧ ts.map (·.2) = pss
theorem CellsL.up {H H' : Hp} {l : Addr} {pss : List (List Pr)} (e : Same H H') (h : CellsL H l pss) : CellsL H' l pss := by
  obtain ⟨ts, h1, h2, h3⟩ := h
  exact ⟨ts, e _ _ h1, fun t m => (h2 t m).up e, h3⟩
theorem CellsL.lst {H : Hp} {l : Addr} {pss : List (List Pr)} (h : CellsL H l pss) : ∃ xs, H l = some (.lst xs) ∧ xs.length = pss.length := by
  obtain ⟨ts, h1, h2, h3⟩ := h
  exact ⟨_, h1, by rw [← h3, List.length_map, List.length_map]⟩
theorem CellsL.at {H : Hp} {l : Addr} {pss : List (List Pr)} {i : Nat} {ps : List Pr} (h : CellsL H l pss) (e : pss[i]? = some ps) : ∃ xs a, H l = some (.lst xs) ∧ xs[i]? = some (.ref a) ∧ Cells H a ps := by
  obtain ⟨ts, h1, h2, rfl⟩ := h
  rw [List.getElem?_map] at e
  cases q : ts[i]? with
  | none => rw [q] at e; cases e
  | some t =>
    rw [q] at e
    refine ⟨_, t.1, h1, by rw [List.getElem?_map, q]; rfl, ?_⟩
    rw [← Option.some.inj e]
    exact h2 t (List.mem_of_getElem? q)
theorem CellsL.mut {H : Hp} {l d : Addr} {pss : List (List Pr)} {o : HO} (h : CellsL H l pss) (ne : l ≠ d) (nl : ∀ xs, H d ≠ some (.lst xs)) (nt : ∀ xs, H d ≠ some (.tup xs)) : CellsL (upd H d o) l pss := by
  obtain ⟨ts, h1, h2, h3⟩ := h
  refine ⟨ts, by rw [upd_ne ne]; exact h1, fun t m => (h2 t m).mut (fun e => ?_) nt, h3⟩
  obtain ⟨us, z, _⟩ := h2 t m
  rw [e] at z
  exact nl _ z
theorem eqv_lp (a b : List Pr) : PyData.eqv (lp a) (lp b) = decide (a = b) := eqv_cells a b
theorem eqvAll_lp : ∀ (l m : List (List Pr)), PyData.eqvAll (l.map lp) (m.map lp) = decide (l = m)
  | [], [] => by simp [PyData.eqvAll]
  | [], y :: m => by simp [PyData.eqvAll]
  | x :: l, [] => by simp [PyData.eqvAll]
  | x :: l, y :: m => by
    show (PyData.eqv (lp x) (lp y) && PyData.eqvAll (l.map lp) (m.map lp)) = _
    rw [eqvAll_lp l m, eqv_lp]
    by_cases e : x = y <;> by_cases e2 : l = m <;> simp [e, e2]
theorem eqv_lps (l m : List (List Pr)) : PyData.eqv (.list (l.map lp)) (.list (m.map lp)) = decide (l = m) := eqvAll_lp l m
theorem canAll_lp : ∀ l : List (List Pr), PyData.canLayAll0 (l.map lp) = true
  | [] => by simp [PyData.canLayAll0]
  | x :: l => by
    rw [List.map_cons]
    simp [PyData.canLayAll0, PyData.canLay0, lp, canAll_pd, canAll_lp l]
theorem depAll_lp : ∀ l : List (List Pr), PyData.depthAll (l.map lp) ≤ 2
  | [] => by simp [PyData.depthAll]
  | x :: l => by
    rw [List.map_cons]
    have := depAll_lp l
    have := depAll_pd x
    simp only [PyData.depthAll, PyData.depth, lp]
    omega
theorem shaped_lp (l : List Pr) : SeqAt.shaped (lp l) = true := shaped_cells l
theorem shaped_lps (l : List (List Pr)) : SeqAt.shaped (.list (l.map lp)) = true := by
  unfold SeqAt.shaped
  have := depAll_lp l
  simp only [PyData.canLay0, PyData.depth, canAll_lp]
  simp
  omega
theorem any_lp (p : List Pr) : ∀ ps : List (List Pr), (ps.map lp).any (fun z => PyData.eqv z (lp p)) = decide (p ∈ ps)
  | [] => by simp
  | q :: ps => by
    rw [List.map_cons, List.any_cons, any_lp p ps, eqv_lp]
    by_cases e : q = p
    · subst e
      simp
    · have e2 : ¬ p = q := fun z => e z.symm
      simp [e, e2]
theorem dp_cellsL {K : PySem.W.Frag} {H : Hp} {a : Addr} {pss : List (List Pr)} (h : CellsL H a pss) : Dp K H (.ref a) (.list (pss.map lp)) := by
  obtain ⟨ts, hl, ht, rfl⟩ := h
  refine .lst (lst_of hl) ?_
  have go : ∀ us : List (Addr × List Pr), (∀ t ∈ us, Cells H t.1 t.2) → DpAll K H (us.map fun t => V.ref t.1) ((us.map (·.2)).map lp) := fun us => by
    induction us with
    | nil => exact fun _ => .nil
    | cons t us ih => exact fun h => .cons (dp_cells (h t List.mem_cons_self)) (ih fun u m => h u (List.mem_cons_of_mem _ m))
  exact go ts ht
theorem op_inL {X : Cx} (hu : X.A.units + 65 < cLine) : OpR X (compareOp .In) (fun x y H Q => ∃ (t a : Addr) (p : List Pr) (ps : List (List Pr)), x = .ref t ∧ y = .ref a ∧ Cells H t p ∧ CellsL H a ps ∧ Q (.bl (decide (p ∈ ps))) H) := by
  intro pins s σ H x y v u Q I rx ry h
  obtain ⟨t, a, p, ps, rfl, rfl, ht, hc, q⟩ := h
  refine op_inD hu pins s σ H _ _ v u Q I rx ry ⟨lp p, ps.map lp, dp_cells ht, dp_cellsL hc, shaped_lp p, shaped_lps ps, ?_⟩
  rw [any_lp]
  exact q
theorem mt_indexL {X : Cx} (hu : X.A.units + 65 < cLine) : MtR X "list.index" (fun x xs H Q => ∃ (a t : Addr) (p : List Pr) (ps : List (List Pr)), x = .ref a ∧ xs = [.ref t] ∧ Cells H t p ∧ CellsL H a ps ∧
    ∃ j, ps[j]? = some p ∧ (∀ m p', m < j → ps[m]? = some p' → p' ≠ p) ∧ Q (.int (j : Nat)) H) := by
  intro pins s σ H x xs v us Q I rx rxs h
  obtain ⟨a, t, p, ps, rfl, rfl, ht, hc, j, hj, hno, q⟩ := h
  refine mt_indexD hu pins s σ H _ _ v us Q I rx rxs ⟨a, .ref t, lp p, ps.map lp, j, lp p, rfl, rfl, dp_cellsL hc, dp_cells ht, shaped_lps ps, shaped_lp p, by rw [List.getElem?_map, hj]; rfl, by rw [eqv_lp]; exact decide_eq_true rfl, fun m z' hm hz => ?_, q⟩
  rw [List.getElem?_map] at hz
  obtain ⟨p', hp, rfl⟩ := Option.map_eq_some_iff.mp hz
  rw [eqv_lp]
  exact decide_eq_false (hno m p' hm hp)
theorem CellsL.add {H : Hp} {l t : Addr} {pss : List (List Pr)} {ps : List Pr} {vs : List V} (h : CellsL H l pss) (hv : H l = some (.lst vs)) (hc : Cells H t ps) (ne : t ≠ l) : CellsL (upd H l (.lst (vs ++ [.ref t]))) l (pss ++ [ps]) := by
  obtain ⟨ts, h1, h2, rfl⟩ := h
  have e : vs = ts.map fun t => V.ref t.1 := by
    rw [h1] at hv
    injection hv with hv
    injection hv with hv
    exact hv.symm
  subst e
  have nt : ∀ xs, H l ≠ some (.tup xs) := fun xs z => by
    rw [h1] at z
    cases z
  have nl : ∀ u ∈ ts, u.1 ≠ l := fun u m e => by
    obtain ⟨us, g1, g2, _⟩ := h2 u m
    rw [e, h1] at g1
    injection g1 with g1
    injection g1 with g1
    have mu : V.ref u.1 ∈ ts.map fun t => V.ref t.1 := List.mem_map.mpr ⟨u, m, rfl⟩
    rw [g1] at mu
    obtain ⟨y, my, ey⟩ := List.mem_map.mp mu
    have ey : y.1 = u.1 := V.ref.inj ey
    have z := g2 y my
    rw [ey, e, h1] at z
    cases z
  refine ⟨ts ++ [(t, ps)], by rw [upd_same, List.map_append]; rfl, fun u m => ?_, by rw [List.map_append]; rfl⟩
  rcases List.mem_append.mp m with m | m
  · exact (h2 u m).mut (nl u m) nt
  · rw [List.mem_singleton.mp m]
    exact hc.mut ne nt
theorem CellsL.one {H : Hp} {l t : Addr} {ps : List Pr} (h : H l = some (.lst [.ref t])) (hc : Cells H t ps) : CellsL H l [ps] := ⟨[(t, ps)], h, fun u m => by rw [List.mem_singleton.mp m]; exact hc, rfl⟩
/-- a statement with a word of one's own behind it -/
def tMid (t : TS) : TS := fun D σ H => ∃ P : L2.St → Hp → Prop, t { D with nx := P } σ H ∧ ∀ σ' H', P σ' H' → D.nx σ' H'
theorem ps_mid {X : Cx} {st : Stmt} {t : TS} (h : PS X st t) : PS X st (tMid t) := by
  refine ⟨fun pins s σ H D I hw => ?_⟩
  obtain ⟨P, h1, h2⟩ := hw
  refine thn (h.run pins s σ H _ I h1) fun f s1 q => ?_
  cases f with
  | next =>
    obtain ⟨σ', H', I2, q⟩ := q
    exact ⟨σ', H', I2, h2 _ _ q⟩
  | brk => exact q
  | cont => exact q
  | ret v => exact q
/-- an expression with a word of one's own behind it -/
def tMidE (t : TE) : TE := fun σ H Q => ∃ P : V → Hp → Prop, t σ H P ∧ ∀ v H', P v H' → Q v H'
theorem pe_mid {X : Cx} {e : Expr} {t : TE} (h : PE X e t) : PE X e (tMidE t) := by
  refine ⟨fun pins s σ H Q I hw => ?_⟩
  obtain ⟨P, h1, h2⟩ := hw
  exact thn (h.run pins s σ H _ I h1) fun v s1 ⟨x, H1, I2, r, q⟩ => ⟨x, H1, I2, r, h2 _ _ q⟩
end Vx
namespace Vx
open PySem PySem.Spec PyProof.Rows L2
/-! ### the least one of some lists of pairs -/
def ltL (a b : List Pr) : Bool := W.dataLt (lp a) (lp b)
theorem toksAll_inj : ∀ (a b : List Pr), W.keyToksAll (a.map pd) = W.keyToksAll (b.map pd) → a = b
  | [], [], _ => rfl
  | [], y :: b, h => by simp [W.keyToksAll] at h
  | x :: a, [], h => by simp [W.keyToksAll] at h
  | x :: a, y :: b, h => by
    obtain ⟨x1, x2⟩ := x
    obtain ⟨y1, y2⟩ := y
    simp [W.keyToksAll, W.keyToks, pd] at h
    obtain ⟨h1, h2, h3⟩ := h
    rw [h1, h2, toksAll_inj a b h3]
theorem lp_inj {a b : List Pr} (h : lp a = lp b) : a = b := by
  have : PyData.eqv (lp a) (lp b) = true := by
    rw [h, eqv_lp]
    exact decide_eq_true rfl
  rw [eqv_lp] at this
  exact of_decide_eq_true this
theorem ltL_irr (a : List Pr) : ltL a a = false := lex_irrefl _
theorem ltL_trans {a b c : List Pr} (h : ltL a b = true) (h2 : ltL b c = true) : ltL a c = true := lex_trans _ _ _ h h2
theorem ltL_neg {a b c : List Pr} (h : ltL a c = true) : ltL a b = true ∨ ltL b c = true := lex_negTrans _ _ _ h
theorem ltL_total {a b : List Pr} (h : ltL a b = false) (h2 : ltL b a = false) : a = b := by
  have e := lex_total _ _ h h2
  exact toksAll_inj a b e
def minL (x : List Pr) (xs : List (List Pr)) : List Pr := xs.foldl (fun a y => if ltL y a then y else a) x
def LeastL (m : List Pr) (xs : List (List Pr)) : Prop := m ∈ xs ∧ ∀ y ∈ xs, ltL y m = false
theorem minL_least : ∀ (xs : List (List Pr)) (x : List Pr), LeastL (minL x xs) (x :: xs)
  | [], x => ⟨List.mem_cons_self, fun y m => by rw [List.mem_singleton.mp m]; exact ltL_irr x⟩
  | y :: xs, x => by
    show LeastL (minL (if ltL y x then y else x) xs) (x :: y :: xs)
    have ih := minL_least xs (if ltL y x then y else x)
    generalize minL (if ltL y x then y else x) xs = m at ih
    obtain ⟨h1, h2⟩ := ih
    by_cases c : ltL y x = true
    · rw [if_pos c] at h1 h2
      refine ⟨List.mem_cons_of_mem _ h1, fun z mz => ?_⟩
      rcases List.mem_cons.mp mz with e | mz
      · rw [e]
        refine Bool.eq_false_iff.mpr fun t => ?_
        have := h2 y List.mem_cons_self
        rw [ltL_trans c t] at this
        cases this
      · exact h2 z mz
    · rw [if_neg c] at h1 h2
      have c := Bool.eq_false_iff.mpr c
      refine ⟨?_, fun z mz => ?_⟩
      · rcases List.mem_cons.mp h1 with e | m1
        · rw [e]
          exact List.mem_cons_self
        · exact List.mem_cons_of_mem _ (List.mem_cons_of_mem _ m1)
      · rcases List.mem_cons.mp mz with e | mz
        · exact h2 z (e ▸ List.mem_cons_self)
        · rcases List.mem_cons.mp mz with e | mz
          · rw [e]
            refine Bool.eq_false_iff.mpr fun t => ?_
            rcases ltL_neg (b := x) t with t | t
            · rw [c] at t
              cases t
            · rw [h2 x List.mem_cons_self] at t
              cases t
          · exact h2 z (List.mem_cons_of_mem _ mz)
theorem LeastL.uniq {a b : List Pr} {xs ys : List (List Pr)} (h : LeastL a xs) (h2 : LeastL b ys) (e : ∀ x, x ∈ xs ↔ x ∈ ys) : a = b :=
  ltL_total (h2.2 a ((e a).mp h.1)) (h.2 b ((e b).mpr h2.1))
theorem minD_lp (x : List Pr) : ∀ xs : List (List Pr), W.minD (lp x) (xs.map lp) = lp (minL x xs) := by
  intro xs
  unfold W.minD minL
  induction xs generalizing x with
  | nil => rfl
  | cons y xs ih =>
    rw [List.map_cons, List.foldl_cons, List.foldl_cons, ← ih]
    congr 1
    show (if ltL y x = true then lp y else lp x) = _
    split <;> rfl
theorem alike_pd (x y : Pr) : W.alike (pd x) (pd y) = true := rfl
theorem alikeAll_pd : ∀ a b : List Pr, W.alikeAll (a.map pd) (b.map pd) = true
  | [], _ => by simp [W.alikeAll]
  | _ :: _, [] => by simp [W.alikeAll]
  | x :: a, y :: b => by
    rw [List.map_cons, List.map_cons, W.alikeAll, alike_pd, alikeAll_pd a b]
    rfl
theorem alike_lp (a b : List Pr) : W.alike (lp a) (lp b) = true := by
  unfold lp
  rw [W.alike]
  exact alikeAll_pd a b
theorem plainAll_pd : ∀ l : List Pr, PyData.plainAll (l.map pd) = true
  | [] => by simp [PyData.plainAll]
  | x :: l => by
    rw [List.map_cons]
    simp [PyData.plainAll, PyData.plain, pd, plainAll_pd l]
theorem plain_lp (l : List Pr) : PyData.plain (lp l) = true := by
  unfold lp
  rw [PyData.plain]
  exact plainAll_pd l
theorem plainAll_lp : ∀ l : List (List Pr), PyData.plainAll (l.map lp) = true
  | [] => by simp [PyData.plainAll]
  | x :: l => by
    rw [List.map_cons, PyData.plainAll, plain_lp, plainAll_lp l]
    rfl
section
variable {X : Cx}
theorem cr_minL (hc : X.calm = true) (hu : X.A.units + 65 < cLine) : CallR X (.builtin "min") (fun xs H Q => ∃ l x xss, xs = [V.ref l] ∧ CellsL H l (x :: xss) ∧ ∀ a, Cells H a (minL x xss) → Q (.ref a) H) := by
  intro pins s σ H xs us Q I r h
  obtain ⟨l, x, xss, rfl, ⟨ts, hl, ht, ets⟩, q⟩ := h
  obtain ⟨its, rv, pl, hz⟩ := I.list (lst_of hl)
  rw [Vals.ref1 r]
  have dpa : DpAll X.K H (ts.map fun t => V.ref t.1) ((x :: xss).map lp) := by
    rw [← ets]
    have go : ∀ us : List (Addr × List Pr), (∀ t ∈ us, Cells H t.1 t.2) → DpAll X.K H (us.map fun t => V.ref t.1) ((us.map (·.2)).map lp) := fun us => by
      induction us with
      | nil => exact fun _ => .nil
      | cons t us ih => exact fun h => .cons (dp_cells (h t List.mem_cons_self)) (ih fun u m => h u (List.mem_cons_of_mem _ m))
    exact go ts ht
  obtain ⟨as, hr⟩ := Dp.readsAll I _ _ its dpa rv
  have dep := depAll_lp (x :: xss)
  have er : its = ts.map fun t => Value.ref t.1 := by
    have go : ∀ (us : List (Addr × List Pr)) (vs : List Value), Vals (us.map fun t => V.ref t.1) vs → vs = us.map fun t => Value.ref t.1 := fun us => by
      induction us with
      | nil => intro vs h; cases h; rfl
      | cons u us ih =>
        intro vs h
        cases h with
        | cons r1 r2 =>
          cases r1
          rw [ih _ r2]
          rfl
    exact go ts its rv
  refine W.min_list_data (x := lp x) (xs := xss.map lp) (I.ok.hd hc) pl.isList hr ⟨fun a ma b mb => ?_, fun a ma => ?_⟩ (by rw [← List.map_cons]; omega) fun i v h' tk bs hv rd k => ?_
  · obtain ⟨a, _, rfl⟩ := List.mem_map.mp (show a ∈ (x :: xss).map lp from ma)
    obtain ⟨b, _, rfl⟩ := List.mem_map.mp (show b ∈ (x :: xss).map lp from mb)
    exact alike_lp a b
  · obtain ⟨a, _, rfl⟩ := List.mem_map.mp (show a ∈ (x :: xss).map lp from ma)
    intro z
    cases z
  · rw [minD_lp] at rd
    have hv' : its[i]? = some v := by simpa using hv
    rw [er, List.getElem?_map] at hv'
    obtain ⟨t, et, rfl⟩ := Option.map_eq_some_iff.mp hv'
    have mt := List.mem_of_getElem? et
    obtain ⟨as2, r2⟩ := Dp.reads I (lp t.2) (.ref t.1) (.ref t.1) (dp_cells (ht t mt)) rfl
    have e := W.alike_unique _ _ _ _ _ (alike_lp _ _) rd (Reads.keeps k r2)
    refine ⟨.ref t.1, H, I.kept k, rfl, q t.1 ?_⟩
    rw [lp_inj e]
    exact ht t mt
theorem count_lp (p : List Pr) : ∀ pss : List (List Pr), (pss.map lp).countP (fun y => PyData.eqv y (lp p)) = pss.count p
  | [] => rfl
  | x :: pss => by
    rw [List.map_cons, List.countP_cons, List.count_cons, count_lp p pss, eqv_lp]
    by_cases e : x = p
    · simp [e]
    · simp [e]
theorem mt_countL (hu : X.A.units + 65 < cLine) : MtR X "list.count" (fun x xs H Q => ∃ (a t : Addr) (p : List Pr) (pss : List (List Pr)), x = .ref a ∧ xs = [.ref t] ∧ Cells H t p ∧ CellsL H a pss ∧ Q (.int (pss.count p : Nat)) H) := by
  intro pins s σ H x xs v us Q I rx rxs h
  obtain ⟨a, t, p, pss, rfl, rfl, hp, hl, q⟩ := h
  cases rx
  obtain ⟨u, rfl, ru⟩ := rxs.one
  obtain ⟨as, r1⟩ := Dp.reads I (lp p) (.ref t) u (dp_cells hp) ru
  have dl := dp_cellsL (K := X.K) hl
  have dep := depAll_lp pss
  cases dl with
  | lst hs ha =>
    obtain ⟨its, rv, pl, hz⟩ := I.list hs
    obtain ⟨bs, hr⟩ := Dp.readsAll I _ _ its ha rv
    refine SeqAt.count_list_data pl.isList hr r1 (plainAll_lp pss) (plain_lp p) (by have := Nat.min_le_left (PyData.depthAll (pss.map lp)) (lp p).depth; omega) ?_
    rw [count_lp]
    exact ⟨.int (pss.count p : Nat), H, I.tok _, ⟨_, rfl⟩, q⟩
end
theorem ix_listK {X : Cx} {K : PySem.W.Frag} (hK : X.K = K) : IxR X (rIxL K) := by
  subst hK
  exact ix_list
theorem op_eqDK {X : Cx} {K : PySem.W.Frag} (hK : X.K = K) (hu : X.A.units + 64 < cLine) : OpR X (compareOp .Eq) (rEqD K) := by
  subst hK
  exact op_eqD hu
/-- a comprehension over such a list, a new list of pairs for each -/
theorem lc_lists {K : PySem.W.Frag} {l : Addr} {pss : List (List Pr)} {g : TG} {tt : TT} {te : TE} {vs : List Nat} {σ : L2.St} {H1 : Hp} {D : Addr} {Qd : Hp → Prop} (f : List Pr → List Pr) (hC : CellsL H1 l pss) (nD : H1 D = none) (few : pss.length < sizeLine)
    (hs : ∀ (t : Addr) (ps : List Pr) (H' : Hp) (Po : V → Hp → Prop) (Pn : Hp → Prop), ps ∈ pss → Same H1 H' → Cells H' t ps → (∀ H2 t2, Same H' H2 → H' t2 = none → Cells H2 t2 (f ps) → Po (.ref t2) H2) →
      g (.ref t) (wipe σ vs) H' fun σ2 H2 => wipe σ2 vs = wipe σ vs ∧ tt σ2 H2 fun b H3 => if b = true then te σ2 H3 Po else Pn H3)
    (hd : ∀ H', Same H1 H' → CellsL H' D (pss.map f) → Qd H') :
    ∃ W : Nat → Nat → Hp → Prop, (∃ m, W 0 m (upd H1 D (.lst []))) ∧ ∀ i m H, W i m H →
      ((Itl K l).stop i H ∧ Qd H) ∨ ((Itl K l).go i H ∧ ∃ Nx : Hp → Prop, (∀ H', Nx H' → ∃ m', m' < m ∧ W (i + 1) m' H') ∧ ∀ x H', (Itl K l).yld i H x H' → g x (wipe σ vs) H' fun σ2 H2 => wipe σ2 vs = wipe σ vs ∧ tt σ2 H2 fun b H3 =>
        if b = true then te σ2 H3 fun y H4 => ∃ acc, H4 D = some (.lst acc) ∧ acc.length < sizeLine ∧ Nx (upd H4 D (.lst (acc ++ [y]))) else Nx H3) := by
  obtain ⟨ts, hl, ht, rfl⟩ := hC
  rw [List.length_map] at few
  refine lc_list (K := K) (a := l) (xs := ts.map fun t => V.ref t.1) (fun i H' => Same H1 H' ∧ ∃ us : List (Addr × List Pr), H' D = some (.lst (us.map fun t => V.ref t.1)) ∧ (∀ t ∈ us, t.1 ≠ D ∧ Cells H' t.1 t.2) ∧ us.map (·.2) = ((ts.map (·.2)).take i).map f)
    ⟨newS nD, [], upd_same, fun _ m => (by cases m), rfl⟩ (fun i H' _ p => lst_of (p.1 _ _ hl)) ?_ ?_
  · rintro i x H' hi ⟨sm, us, h1, h2, h3⟩
    rw [List.getElem?_map] at hi
    obtain ⟨t, et, rfl⟩ := Option.map_eq_some_iff.mp hi
    have mt := List.mem_of_getElem? et
    have ei : (ts.map (·.2))[i]? = some t.2 := by rw [List.getElem?_map, et]; rfl
    have li := (List.getElem?_eq_some_iff.mp et).1
    have ul : us.length = i := by
      have z := congrArg List.length h3
      rw [List.length_map, List.length_map, List.length_take, List.length_map] at z
      omega
    refine hs t.1 t.2 H' _ _ (List.mem_map.mpr ⟨t, mt, rfl⟩) sm ((ht t mt).up sm) fun H2 t2 e2 n2 hc => ⟨us.map fun t => V.ref t.1, e2 _ _ h1, by rw [List.length_map]; omega, mutS (sm.trans e2) nD, us ++ [(t2, f t.2)], ?_, ?_, ?_⟩
    · rw [upd_same, List.map_append]
      rfl
    · have nD2 : t2 ≠ D := fun e => by
        rw [e, h1] at n2
        cases n2
      have nt : ∀ xs, H2 D ≠ some (.tup xs) := fun xs e => by
        rw [e2 _ _ h1] at e
        cases e
      intro u m
      rcases List.mem_append.mp m with m | m
      · exact ⟨(h2 u m).1, ((h2 u m).2.up e2).mut (h2 u m).1 nt⟩
      · rw [List.mem_singleton.mp m]
        exact ⟨nD2, hc.mut nD2 nt⟩
    · rw [List.map_append, h3, take_next ei, List.map_append]
      rfl
  · rintro H' ⟨sm, us, h1, h2, h3⟩
    refine hd H' sm ⟨us, h1, fun t m => (h2 t m).2, ?_⟩
    rw [h3, List.length_map, List.take_of_length_le (by rw [List.length_map]; exact Nat.le_refl _)]
end Vx
namespace Vx
open PySem PySem.Spec PyProof.Rows L2
/-- isinstance of the caught error, its class told by the reading -/
theorem call_isE2 {X : Cx} {a D : Addr} {oe : Obj} {cls : Value} {d : Option Addr} {pn : List (Addr × Obj)} (C : ExcC X.K D) (hz : Zc cls d oe) (hf : ∃ vs, oe.data = .fields vs) :
    CallR (X.suite a ((a, oe) :: pn)) (.builtin "isinstance") (fun xs H Q => cls = .ref D ∧ d = none ∧ rIsE X.K D a xs H Q) := fun pins s σ H xs us Q I r h => by
  obtain ⟨h1, h2, h3⟩ := h
  subst h1 h2
  exact call_isE C hz hf pins s σ H xs us Q I r h3
theorem kit_sub {K : PySem.W.Frag} {D C : Addr} {b : Bool} (hc : PySem.W.isClsIn K C = true) (ht : PySem.W.typeIn K (.ref C) = some (.type "type")) (h1 : PySem.W.subIn K (.ref D) (.ref D) = some true) (h2 : PySem.W.subIn K (.ref D) (.ref C) = some b) :
    PySem.W.kitOne K (.ref D) (.ref C) = some b := by
  unfold PySem.W.kitOne
  by_cases e : D = C
  · subst e
    rw [h1] at h2
    rw [if_pos (beq_self_eq_true _)]
    exact h2
  · rw [if_neg (by intro q; exact e (Value.ref.inj (beq_iff_eq.mp q)))]
    unfold PySem.W.kitCls
    have hc' : (PySem.W.clsIn K C).isSome = true := hc
    have e2 : ((PySem.W.clsIn K C).isSome && PySem.W.typeIn K (.ref C) == some (.type "type")) = true := by rw [hc', ht]; rfl
    show (if ((PySem.W.clsIn K C).isSome && PySem.W.typeIn K (.ref C) == some (.type "type")) = true then PySem.W.subIn K (.ref D) (.ref C) else none) = some b
    rw [if_pos e2]
    exact h2
theorem kit_ve {K : PySem.W.Frag} {D : Addr} {b : Bool} (h2 : PySem.W.subIn K (.ref D) (.type "ValueError") = some b) : PySem.W.kitOne K (.ref D) (.type "ValueError") = some b := by
  unfold PySem.W.kitOne
  rw [if_neg (by intro q; cases (beq_iff_eq.mp q))]
  show (if PySem.W.kitMeta "ValueError" = true then PySem.W.subIn K (.ref D) (.type "ValueError") else none) = some b
  rw [if_pos (by decide +kernel)]
  exact h2
end Vx
namespace Vx
open PySem PySem.Spec PyProof.Rows L2
/-! ### comprehensions with any number of loops: one loop -/
def turnF (p : Pos) (tg : Expr) (ifs : List Expr) (em : (Unit → Sem PySem.Fin) → Sem PySem.Fin) (c : Code) (it : Value) (env : Env) : Sem PySem.Fin := do
  standAt p
  let r ← pyNext it
  match r with
  | none => pure (Fin.done Flow.next)
  | some v => do
    letOwnedTupleGo tg it v
    assign tg env v
    let s ← forIn ifs true fun c r => if r = true then do
        let ok ← PySem.isTrue c env (eval c env)
        pure (ForInStep.yield ok)
      else pure (ForInStep.yield r)
    if s = true then em fun _ => again c else again c
def finP (R : Result → Shared → Prop) (c : Code) (I : Nat → Shared → Prop) (n : Nat) : PySem.Fin → Shared → Prop := fun fin s' => match fin with
  | Fin.done f => R (Except.ok f) s'
  | Fin.again c' => c' = c ∧ ∃ m, m < n ∧ I m s'
theorem loopG {prog : Program} {w : World} {A : Around} {R : Result → Shared → Prop} {s : Shared} {e : Expr} {d : Nat} {it acc : Value} {env : Env} {p : Pos} {tg : Expr} {ifs : List Expr} {em : (Unit → Sem PySem.Fin) → Sem PySem.Fin}
    (hq : (Code.compLoop e d it acc env).quiet = true) (hun : A.under (Code.compLoop e d it acc env) = A) (hden : (model prog w).den (Code.compLoop e d it acc env) = Sem.onRaise (compTurn e d it acc env) fun x => do
      noteFrame x env
      theTreesLotGoes x)
    (ht : compTurn e d it acc env = turnF p tg ifs em (Code.compLoop e d it acc env) it env) (I : Nat → Shared → Prop)
    (turn : ∀ n s, I n s → wpAny (model prog w) A (pyNext it) (fun r s1 => match r with
        | none => R (Except.ok Flow.next) s1
        | some v => wpAny (model prog w) A (letOwnedTupleGo tg it v) (fun _ s2 => wpAny (model prog w) A (assign tg env v) (fun _ s3 =>
            wpAny (model prog w) A (forIn ifs true fun c r => if r = true then do
                let ok ← PySem.isTrue c env (eval c env)
                pure (ForInStep.yield ok)
              else pure (ForInStep.yield r)) (fun ok s4 => if ok = true then wpAny (model prog w) A (em fun _ => again (Code.compLoop e d it acc env)) (finP R (Code.compLoop e d it acc env) I n) (notedBy (model prog w) A env fun e s' => R (Except.error e) s') s4 else ∃ m, m < n ∧ I m s4)
              (notedBy (model prog w) A env fun e s' => R (Except.error e) s') s3)
            (notedBy (model prog w) A env fun e s' => R (Except.error e) s') s2)
          (notedBy (model prog w) A env fun e s' => R (Except.error e) s') s1)
      (notedBy (model prog w) A env fun e s' => R (Except.error e) s') s) (n : Nat) (h : I n s) : codeAny (model prog w) A (Code.compLoop e d it acc env) R s := by
  refine codeAny_loop hq I (fun n s hI => ?_) n h
  rw [hun, hden]
  refine wpAny_noted ?_
  rw [ht]
  unfold turnF
  refine wpAny_bind (wpAny_standAt (wpAny_bind (wpAny_mono (turn n s hI) (fun r s1 h1 => ?_) fun _ _ z => z)))
  cases r with
  | none => exact wpAny_pure h1
  | some v =>
    refine wpAny_bind (wpAny_mono h1 (fun _ s2 h2 => ?_) fun _ _ z => z)
    refine wpAny_bind (wpAny_mono h2 (fun _ s3 h3 => ?_) fun _ _ z => z)
    refine wpAny_bind (wpAny_mono h3 (fun ok s4 h4 => ?_) fun _ _ z => z)
    cases ok with
    | true =>
      rw [if_pos rfl] at h4 ⊢
      exact h4
    | false =>
      rw [if_neg (by decide)] at h4 ⊢
      exact wpAny_pure ⟨rfl, h4⟩
theorem startG {prog : Program} {w : World} {A : Around} {R : Result → Shared → Prop} {s : Shared} {e : Expr} {d : Nat} {it acc : Value} {env : Env} {g : Comprehension}
    (hq : ∀ it', (Code.compLoop e d it' acc env).quiet = true) (hun : A.under (Code.compStart e d it acc env) = A) (hden : (model prog w).den (Code.compStart e d it acc env) = Sem.onRaise (compStart e d it acc env) fun x => do
      noteFrame x env
      standAt theWindowsPlace)
    (hg : (clausesOf e)[d]? = some g) (ha : g.is_async = 0)
    (h0 : codeAny (model prog w) A (Code.compLoop e d it acc env) R s)
    (h : wpAny (model prog w) A (pyIter it) (fun it' s' => codeAny (model prog w) A (Code.compLoop e d it' acc env) R s') (notedBy (model prog w) A env fun x s' => R (Except.error x) s') s) :
    codeAny (model prog w) A (Code.compStart e d it acc env) R s := by
  refine codeAny_of_tree ?_
  rw [hun, hden]
  refine wpAny_notedAt ?_
  unfold compStart
  rw [hg]
  have z : ((some g).elim false fun x : Comprehension => x.is_async != 0) = false := by
    show (g.is_async != 0) = false
    rw [ha]
    rfl
  rw [z, if_neg (by decide)]
  refine wpAny_bind (wpAny_askSetting (wpAny_ite ?_))
  by_cases c : ({ program := (model prog w).prog, params := (model prog w).w.params } : Setting).params.followText "comprehension-iter-twice" = true
  · rw [if_pos c]
    exact wpAny_pure ⟨hq it, h0⟩
  · rw [if_neg c]
    refine wpAny_bind (wpAny_rule (wpAny_bind (wpAny_standAt (wpAny_bind (wpAny_mono h (fun it' s' h' => wpAny_pure ⟨hq it', h'⟩) fun _ _ z => z)))))
theorem lvl {Y : Cx} {pins : List (Addr × Obj)} {tg : Expr} {g : TG} {ifs : List Expr} {tt : TT} {J : It} {fp : List Addr} {it : Addr} {tn : Nat → Heap → Prop} (hc : Y.calm = true) (xe0 : Y.xe = fun _ _ => False) (T : Turn Y.prog Y.w Y.K tg J fp it tn) (pg : PG Y tg g) (pt : PTs Y ifs tt)
    {e : Expr} {d : Nat} {acc : Value} {p : Pos} {em : (Unit → Sem PySem.Fin) → Sem PySem.Fin} {R : Result → Shared → Prop}
    (hq : (Code.compLoop e d (.ref it) acc Y.env).quiet = true) (hun : Y.A.under (Code.compLoop e d (.ref it) acc Y.env) = Y.A) (hden : (model Y.prog Y.w).den (Code.compLoop e d (.ref it) acc Y.env) = Sem.onRaise (compTurn e d (.ref it) acc Y.env) fun x => do
      noteFrame x Y.env
      theTreesLotGoes x)
    (ht : compTurn e d (.ref it) acc Y.env = turnF p tg ifs em (Code.compLoop e d (.ref it) acc Y.env) (.ref it) Y.env)
    {EM : L2.St → Hp → (Hp → Prop) → Prop} {vs : List Nat} {σ0 : L2.St}
    (hem : ∀ (pins : List (Addr × Obj)) (s : Shared) (σ : L2.St) (H : Hp) (Nx : Hp → Prop) (Post : PySem.Fin → Shared → Prop) (E : Value → Shared → Prop), L2.Inv Y pins σ H s → EM σ H Nx → (∀ s' H', L2.Inv Y pins (wipe σ vs) H' s' → Nx H' → Post (Fin.again (Code.compLoop e d (.ref it) acc Y.env)) s') →
      wpAny (model Y.prog Y.w) Y.A (em fun _ => again (Code.compLoop e d (.ref it) acc Y.env)) Post E s)
    {W : Nat → Nat → Hp → Prop} {Qe : Hp → Prop}
    (turn : ∀ i m H, W i m H → (J.stop i H ∧ Qe H) ∨ (J.go i H ∧ ∃ Nx : Hp → Prop, (∀ H', Nx H' → ∃ m', m' < m ∧ W (i + 1) m' H') ∧ ∀ x H', J.yld i H x H' → g x (wipe σ0 vs) H' fun σ2 H2 => wipe σ2 vs = wipe σ0 vs ∧ tt σ2 H2 fun b H3 => if b = true then EM σ2 H3 Nx else Nx H3))
    (hR : ∀ s1 H, L2.Inv Y pins (wipe σ0 vs) H s1 → Qe H → R (Except.ok Flow.next) s1)
    {s : Shared} {H : Hp} {m : Nat} (I : L2.Inv Y pins (wipe σ0 vs) H s) (t0 : tn 0 s.heap) (hfp : ∀ b ∈ fp, FpOk Y pins H b) (w0 : W 0 m H) :
    codeAny (model Y.prog Y.w) Y.A (Code.compLoop e d (.ref it) acc Y.env) R s := by
  refine loopG hq hun hden ht (fun n s => ∃ i H, L2.Inv Y pins (wipe σ0 vs) H s ∧ tn i s.heap ∧ (∀ b ∈ fp, H b = none) ∧ W i n H) ?_ m ⟨0, H, I, t0, fun b hb => (hfp b hb).1, w0⟩
  rintro n s ⟨i, H1, I1, t1, nn, w1⟩
  have fpo : ∀ {H' : Hp}, (∀ b ∈ fp, H' b = none) → ∀ b ∈ fp, FpOk Y pins H' b := fun z b hb => ⟨z b hb, (hfp b hb).2⟩
  have no : ∀ {E : Value → Shared → Prop} (a : Value) (s : Shared), (fun _ _ => False : Value → Shared → Prop) a s → E a s := fun _ _ z => z.elim
  rcases turn i n H1 w1 with ⟨st, qe⟩ | ⟨go, Nx, nx, y⟩
  · refine wpAny_mono (T.done Y rfl rfl rfl hc i pins s _ H1 (fun _ _ => False) I1 (fpo nn) t1 st) (fun r s1 h1 => ?_) no
    obtain ⟨rfl, I2⟩ := h1
    exact hR s1 H1 I2 qe
  · refine wpAny_mono (T.item Y rfl rfl rfl hc i pins s _ H1 (fun _ _ => False) I1 (fpo nn) t1 go) (fun r s1 h1 => ?_) no
    obtain ⟨u, rfl, h1⟩ := h1
    refine wpAny_mono h1 (fun _ s2 h2 => ?_) no
    obtain ⟨x, H2, I2, rx, yl, t2, nn2⟩ := h2
    have P2 := I2.pinned (fpo nn2) (T.obj _ _ t2)
    have r3 := pg.run _ s2 _ H2 x u _ P2 rx (y x H2 yl)
    rw [xe0] at r3
    refine wpAny_mono r3 (fun _ s3 h3 => ?_) no
    obtain ⟨σ3, H3, I3, ew, h3⟩ := h3
    have r4 := pt.run _ s3 σ3 H3 _ I3 h3
    rw [xe0] at r4
    refine wpAny_mono r4 (fun ok s4 h4 => ?_) no
    obtain ⟨H4, I4, h4⟩ := h4
    have back : ∀ {s' : Shared} {H' : Hp}, L2.Inv Y (pins ++ pinsAt fp s2.heap) (wipe σ3 vs) H' s' → Nx H' → ∃ m, m < n ∧ ∃ i H, L2.Inv Y pins (wipe σ0 vs) H s' ∧ tn i s'.heap ∧ (∀ b ∈ fp, H b = none) ∧ W i m H := fun {s' H'} I' nx' => by
      obtain ⟨m', lm, w'⟩ := nx H' nx'
      have pin : ∀ b ∈ fp, ∀ o, s2.heap.get? b = some o → s'.heap.get? b = some o ∧ H' b = none := fun b hb o ho => by
        have := I'.pin (b, o) (List.mem_append.mpr (.inr (List.mem_append.mpr (.inr (mem_pinsAt hb ho)))))
        exact ⟨this.1, this.2.1⟩
      refine ⟨m', lm, i + 1, H', ?_, T.keep _ _ _ t2 fun b hb o ho => (pin b hb o ho).1, fun b hb => ?_, w'⟩
      · rw [← ew]
        exact I'.unpinned
      · obtain ⟨o, ho, _⟩ := T.obj _ _ t2 b hb
        exact (pin b hb o ho).2
    cases ok with
    | true =>
      rw [if_pos rfl] at h4 ⊢
      exact hem _ s4 σ3 H4 Nx _ _ I4 h4 fun s' H' I' n' => ⟨rfl, back I' n'⟩
    | false =>
      rw [if_neg (by decide)] at h4 ⊢
      exact back (I4.weak (wipe_length ..) fun _ _ z => (wipe_some z).1) h4
/-! ### what stands within a loop -/
def emL0 (elt : Expr) (acc : Value) (env : Env) : Sem Unit := do
  let x ← eval elt env
  let _ ← call (Value.builtin "list.append") [acc, x]
  pure ()
def emL (elt : Expr) (acc : Value) (env : Env) (k : Unit → Sem PySem.Fin) : Sem PySem.Fin := emL0 elt acc env >>= k
def emI (e : Expr) (d : Nat) (i1 : Expr) (acc : Value) (env : Env) (k : Unit → Sem PySem.Fin) : Sem PySem.Fin := do
  let x ← eval i1 env
  standAt i1.pos
  let x ← foldedSetIterable i1 env x
  let it ← holding [x] (pyIter x)
  let _ ← runOwn (Code.compStart e d it acc env) env
  k ()
abbrev EMT := L2.St → Hp → (Hp → Prop) → Prop
def tEm (te : TE) (D : Addr) : EMT := fun σ H Nx => te σ H fun y H4 => ∃ acc, H4 D = some (.lst acc) ∧ acc.length < sizeLine ∧ Nx (upd H4 D (.lst (acc ++ [y])))
def tTurns (J : It) (g : TG) (tt : TT) (vs : List Nat) (EM : EMT) (σ : L2.St) (Qe : Hp → Prop) (W : Nat → Nat → Hp → Prop) : Prop :=
  ∀ i m H, W i m H → (J.stop i H ∧ Qe H) ∨ (J.go i H ∧ ∃ Nx : Hp → Prop, (∀ H', Nx H' → ∃ m', m' < m ∧ W (i + 1) m' H') ∧ ∀ x H', J.yld i H x H' → g x (wipe σ vs) H' fun σ2 H2 => wipe σ2 vs = wipe σ vs ∧ tt σ2 H2 fun b H3 => if b = true then EM σ2 H3 Nx else Nx H3)
def tIn (wi : TI) (g : TG) (tt : TT) (vs : List Nat) (EM : EMT) : EMT := fun σ H Nx => wi σ H fun J H4 => ∃ W, (∃ m, W 0 m H4) ∧ tTurns J g tt vs EM σ Nx W
/-- an inner part runs -/
def Runs (Y : Cx) (vs : List Nat) (EM : EMT) (em : (Unit → Sem PySem.Fin) → Sem PySem.Fin) : Prop :=
  ∀ (pins : List (Addr × Obj)) (s : Shared) (σ : L2.St) (H : Hp) (Nx : Hp → Prop) (c : Code) (Post : PySem.Fin → Shared → Prop) (E : Value → Shared → Prop), L2.Inv Y pins σ H s → EM σ H Nx → (∀ s' H', L2.Inv Y pins (wipe σ vs) H' s' → Nx H' → Post (Fin.again c) s') →
    wpAny (model Y.prog Y.w) Y.A (em fun _ => again c) Post E s
theorem wipe_weak {Y : Cx} {pins : List (Addr × Obj)} {σ : L2.St} {H : Hp} {s : Shared} {vs vs1 : List Nat} (h : L2.Inv Y pins (wipe σ vs1) H s) (sub : ∀ i ∈ vs1, i ∈ vs) : L2.Inv Y pins (wipe σ vs) H s :=
  h.weak (by rw [wipe_length, wipe_length]) fun i v z => by
    obtain ⟨a, b⟩ := wipe_some z
    rw [wipe_out fun m => b (sub i m)]
    exact a
theorem runs_app {Y : Cx} (xe0 : Y.xe = fun _ _ => False) {elt : Expr} {te : TE} {D : Addr} (vs : List Nat) (pe : PE Y elt te) : Runs Y vs (tEm te D) (emL elt (.ref D) Y.env) := by
  intro pins s σ H Nx c Post E I h k
  unfold emL emL0
  have r := pe.run pins s σ H _ I h
  rw [xe0] at r
  refine wpAny_bind (wpAny_bind (wpAny_mono r (fun v s1 h1 => ?_) fun _ _ z => z.elim))
  obtain ⟨y, H1, I1, ry, acc, hD, few, nx⟩ := h1
  refine wpAny_bind (app_ok I1 hD few ry fun s2 I2 => ?_)
  refine wpAny_pure (wpAny_pure (k s2 _ (I2.weak (wipe_length ..) fun _ _ z => (wipe_some z).1) nx))
theorem runs_in {Y : Cx} (hc : Y.calm = true) (xe0 : Y.xe = fun _ _ => False) {e : Expr} {d : Nat} {acc : Value} {tg i1 : Expr} {ifs : List Expr} {wi : TI} {g : TG} {tt : TT} {vs vs1 : List Nat} {EM : EMT} {p : Pos} {em : (Unit → Sem PySem.Fin) → Sem PySem.Fin} {gc : Comprehension}
    (sub : ∀ i ∈ vs1, i ∈ vs) (pi : PI Y tg i1 wi) (pg : PG Y tg g) (pt : PTs Y ifs tt) (hem : Runs Y vs1 EM em) (hs : ∀ x, foldedSetIterable i1 Y.env x = pure x)
    (hq : ∀ it, (Code.compLoop e d it acc Y.env).quiet = true) (hun : ∀ it, Y.A.under (Code.compLoop e d it acc Y.env) = Y.A) (hden : ∀ it, (model Y.prog Y.w).den (Code.compLoop e d it acc Y.env) = Sem.onRaise (compTurn e d it acc Y.env) fun x => do
      noteFrame x Y.env
      theTreesLotGoes x)
    (hunS : ∀ it, Y.A.under (Code.compStart e d it acc Y.env) = Y.A) (hdenS : ∀ it, (model Y.prog Y.w).den (Code.compStart e d it acc Y.env) = Sem.onRaise (compStart e d it acc Y.env) fun x => do
      noteFrame x Y.env
      standAt theWindowsPlace)
    (hg : (clausesOf e)[d]? = some gc) (ha : gc.is_async = 0)
    (ht : ∀ it, compTurn e d it acc Y.env = turnF p tg ifs em (Code.compLoop e d it acc Y.env) it Y.env) : Runs Y vs (tIn wi g tt vs1 EM) (emI e d i1 acc Y.env) := by
  intro pins s σ H Nx c Post E I h k
  unfold emI
  have r := pi.run pins s σ H _ I h
  rw [xe0] at r
  refine wpAny_bind (wpAny_mono r (fun v s1 h1 => ?_) fun _ _ z => z.elim)
  refine wpAny_bind (wpAny_standAt ?_)
  rw [hs]
  refine wpAny_bind (wpAny_pure (wpAny_bind (wpAny_holding (wpAny_mono h1 (fun itv s2 h2 => ?_) fun _ _ z => z.elim))))
  obtain ⟨it, fp, tn, J, H2, rfl, I2, T, t0, hfp, W, ⟨m0, w0⟩, turns⟩ := h2
  refine wpAny_bind (wpAny_runOwn ?_)
  have loop := lvl (R := fun r s' => match r with | Except.ok f => wpAny (model Y.prog Y.w) Y.A (again c) Post E s' | Except.error e => False) hc xe0 T pg pt (hq _) (hun _) (hden _) (ht _) (EM := EM) (vs := vs1) (σ0 := σ) (fun pins s σ H Nx Post E I h k => hem pins s σ H Nx _ Post E I h k) turns
    (fun s1 H1 I1 q1 => wpAny_pure (k s1 H1 (wipe_weak I1 sub) q1)) (I2.weak (wipe_length ..) fun _ _ z => (wipe_some z).1) t0 hfp w0
  show codeAny _ Y.A _ _ _
  refine codeAny_mono (startG hq (hunS _) (hdenS _) hg ha loop (T.self Y.A 0 s2 _ _ t0 loop)) fun r s3 h3 => ?_
  cases r with
  | ok f => exact h3
  | error e => exact h3.elim
def tLcG (wi : TI) (g : TG) (tt : TT) (EM : Addr → EMT) (vs : List Nat) : TE := fun σ H Q => wi σ H fun J H1 => ∀ D : Addr, H1 D = none → ∃ W, (∃ m, W 0 m (upd H1 D (.lst []))) ∧ tTurns J g tt vs (EM D) σ (fun H => Q (.ref D) H) W
theorem pe_lcG {X : Cx} {elt tg iter : Expr} {ifs : List Expr} {rest : List Comprehension} {scope : Scope} {own : List (Str × Nat)} {pos p : Pos} {wi : TI} {g : TG} {tt : TT} {EM : Addr → EMT} {em : Value → Env → (Unit → Sem PySem.Fin) → Sem PySem.Fin}
    (hc : X.calm = true) (hN : X.N.Nodup) (hi : PI X tg iter wi) (ok : BlkOk X.N X.env.scope scope own)
    (hg : ∀ (s : Shared) (H : Hp) (C : Addr) (cl : List (Str × Addr)) (fp : List Addr), PG (X.blk s H scope (compEnvC scope cl C X.env) fp) tg g)
    (ht : ∀ (s : Shared) (H : Hp) (C : Addr) (cl : List (Str × Addr)) (fp : List Addr), PTs (X.blk s H scope (compEnvC scope cl C X.env) fp) ifs tt)
    (hem : ∀ (s : Shared) (H : Hp) (C : Addr) (cl : List (Str × Addr)) (fp : List Addr) (D : Addr), Runs (X.blk s H scope (compEnvC scope cl C X.env) fp) (own.map (·.2)) (EM D) (em (.ref D) (compEnvC scope cl C X.env)))
    (turn : ∀ it acc env, compTurn (.ListComp elt (⟨tg, iter, ifs, 0⟩ :: rest) scope pos) 0 it acc env = turnF p tg ifs (em acc env) (Code.compLoop (.ListComp elt (⟨tg, iter, ifs, 0⟩ :: rest) scope pos) 0 it acc env) it env)
    (hs : ∀ x, foldedSetIterable iter X.env x = pure x) : PE X (.ListComp elt (⟨tg, iter, ifs, 0⟩ :: rest) scope pos) (tLcG wi g tt EM (own.map (·.2))) := by
  refine ⟨fun pins s σ H Q I h => ?_⟩
  rw [eval_ListComp]
  have hfree : ∀ y ∈ scope.names, y.2 = NameKind.free → ∃ c, List.lookup y.1 X.env.cells = some c := fun y hy e => (ok.free y hy e).elim (fun k => I.ok.has y.1 (.inl k)) fun k => I.ok.has y.1 (.inr k)
  refine wpAny_comprehension_free rfl hs (closure_ok hfree) ok.kind (fun y hy e => by rw [ok.uniq y hy, e]) ?_
  refine wpAny_mono (hi.run pins s σ H _ I h) (fun xv s1 hx => ?_) fun _ _ z => z
  refine wpAny_mono hx (fun itv s2 h2 => ?_) fun _ _ z => z
  obtain ⟨it, fp, tn, J, H2, rfl, I2, T, t2, f2, q⟩ := h2
  refine wpAny_newObj_type (newEnv_comp ?_)
  have hDn : H2 s2.heap.objs.size = none := I2.hok.fresh (Nat.le_refl _)
  obtain ⟨W, ⟨m0, w0⟩, turns⟩ := q _ hDn
  have I3 : L2.Inv X pins σ (upd H2 s2.heap.objs.size (.lst [])) { s2 with heap := s2.heap.push { cls := .type "list", data := .seq #[] } } :=
    I2.laid (fun b o e => Heap.get?_push_of_some _ e) (Nat.le_refl _) ⟨Nat.zero_le _, [], 0, .nil, Heap.get?_push_size _ rfl⟩
  generalize es3 : ({ s2 with heap := s2.heap.push { cls := .type "list", data := .seq #[] } } : Shared) = s3 at I3 ⊢
  have h3 : s3.heap = s2.heap.push { cls := .type "list", data := .seq #[] } := by rw [← es3]
  have f3 : ∀ b ∈ fp, FpOk X pins (upd H2 s2.heap.objs.size (.lst [])) b ∧ b < s3.heap.objs.size := fun b hb => by
    obtain ⟨o, ho, _⟩ := T.obj 0 _ t2 b hb
    have lt := Heap.lt_size ho
    refine ⟨⟨?_, (f2 b hb).2⟩, ?_⟩
    · rw [upd_ne (Nat.ne_of_lt lt)]
      exact (f2 b hb).1
    · rw [h3, Heap.size_push]
      exact Nat.lt_succ_of_lt lt
  have st3 : tn 0 s3.heap := T.keep 0 _ _ t2 fun b _ o e => by
    rw [h3]
    exact Heap.get?_push_of_some _ e
  have I4 := block_start I3 ok hN f3
  have st4 := T.keep 0 _ (pushCells (s3.heap.push { cls := .type "dict", data := .dict #[] }) scope.names) st3 fun b _ o e => pushCells_keeps scope.names _ b o (Heap.get?_push_of_some _ e)
  clear es3
  generalize s2.heap.objs.size = D at *
  show codeAny (model X.prog X.w) X.A (Code.compStart _ 0 (.ref it) (.ref D) (compEnvC scope (cellsFrom (s3.heap.objs.size + 1) scope.names (cloFrom X.env.cells scope.names [])) s3.heap.objs.size X.env)) _ _
  have loop := lvl (Y := X.blk s3 (upd H2 D (.lst [])) scope (compEnvC scope (cellsFrom (s3.heap.objs.size + 1) scope.names (cloFrom X.env.cells scope.names [])) s3.heap.objs.size X.env) fp) (R := compPost (model X.prog X.w) X.A X.xe none (EP X pins σ Q) (.ref D) s3.heap.objs.size) (e := .ListComp elt (⟨tg, iter, ifs, 0⟩ :: rest) scope pos) (d := 0) (acc := .ref D) hc rfl T (hg _ _ _ _ _) (ht _ _ _ _ _) rfl rfl rfl (turn _ _ _) (EM := EM D) (vs := List.map (fun x : Str × Nat => x.2) own) (σ0 := σ) (W := W) (Qe := fun H => Q (.ref D) H)
    (fun pins s σ H Nx Post E I h k => hem _ _ _ _ _ D pins s σ H Nx _ Post E I h k) turns (fun s6 H5 I6 q6 => ?_) I4 st4 (fun b hb => ⟨(f3 b hb).1.1, (I4.ok.exf b hb).1, I4.ok.exfs b hb, .inl hb, (I4.ok.exf b hb).2, fun p hp => by cases hp⟩) w0
  · exact codeAny_compStart_list loop (T.self X.A 0 _ _ _ st4 loop)
  · have I7 := Inv.call' I3 I6.os I6.base I6.hok I6.bare fun b hb => ⟨(f3 b hb).1.2.2.2.1, (f3 b hb).1.2.1, (f3 b hb).1.2.2.2.2.1, (f3 b hb).1.2.2.2.2.2⟩
    obtain ⟨m, hn, _⟩ := I6.loc
    obtain ⟨a0, a1, a2, a3, a4, a5⟩ := Inv.fpOk I3 (Nat.le_refl _) I6.free
    exact ⟨m, hn, fun h' sb => ⟨.ref D, H5, Inv.turned I7 (fun b o hb e => (sb.2 b hb).trans e) a0 a1 a3 a4 a5, rfl, q6⟩⟩
/-- [e for a in xs for b in ys for c in zs] -/
theorem pe_lc3 {X : Cx} {elt tg iter tg1 iter1 tg2 iter2 : Expr} {ifs ifs1 ifs2 : List Expr} {scope : Scope} {own : List (Str × Nat)} {vs1 vs2 : List Nat} {pos : Pos} {wi wi1 wi2 : TI} {g g1 g2 : TG} {tt tt1 tt2 : TT} {te : TE}
    (hc : X.calm = true) (hN : X.N.Nodup) (hi : PI X tg iter wi) (ok : BlkOk X.N X.env.scope scope own) (hv1 : ∀ i ∈ vs1, i ∈ List.map (fun x : Str × Nat => x.2) own) (hv2 : ∀ i ∈ vs2, i ∈ vs1)
    (hg : ∀ (s : Shared) (H : Hp) (C : Addr) (cl : List (Str × Addr)) (fp : List Addr), PG (X.blk s H scope (compEnvC scope cl C X.env) fp) tg g)
    (ht : ∀ (s : Shared) (H : Hp) (C : Addr) (cl : List (Str × Addr)) (fp : List Addr), PTs (X.blk s H scope (compEnvC scope cl C X.env) fp) ifs tt)
    (hi1 : ∀ (s : Shared) (H : Hp) (C : Addr) (cl : List (Str × Addr)) (fp : List Addr), PI (X.blk s H scope (compEnvC scope cl C X.env) fp) tg1 iter1 wi1)
    (hg1 : ∀ (s : Shared) (H : Hp) (C : Addr) (cl : List (Str × Addr)) (fp : List Addr), PG (X.blk s H scope (compEnvC scope cl C X.env) fp) tg1 g1)
    (ht1 : ∀ (s : Shared) (H : Hp) (C : Addr) (cl : List (Str × Addr)) (fp : List Addr), PTs (X.blk s H scope (compEnvC scope cl C X.env) fp) ifs1 tt1)
    (hi2 : ∀ (s : Shared) (H : Hp) (C : Addr) (cl : List (Str × Addr)) (fp : List Addr), PI (X.blk s H scope (compEnvC scope cl C X.env) fp) tg2 iter2 wi2)
    (hg2 : ∀ (s : Shared) (H : Hp) (C : Addr) (cl : List (Str × Addr)) (fp : List Addr), PG (X.blk s H scope (compEnvC scope cl C X.env) fp) tg2 g2)
    (ht2 : ∀ (s : Shared) (H : Hp) (C : Addr) (cl : List (Str × Addr)) (fp : List Addr), PTs (X.blk s H scope (compEnvC scope cl C X.env) fp) ifs2 tt2)
    (he : ∀ (s : Shared) (H : Hp) (C : Addr) (cl : List (Str × Addr)) (fp : List Addr), PE (X.blk s H scope (compEnvC scope cl C X.env) fp) elt te)
    (hs : ∀ x, foldedSetIterable iter X.env x = pure x := by intro _; rfl) (hs1 : ∀ env x, foldedSetIterable iter1 env x = pure x := by intro _ _; rfl) (hs2 : ∀ env x, foldedSetIterable iter2 env x = pure x := by intro _ _; rfl) :
    PE X (.ListComp elt [⟨tg, iter, ifs, 0⟩, ⟨tg1, iter1, ifs1, 0⟩, ⟨tg2, iter2, ifs2, 0⟩] scope pos) (tLcG wi g tt (fun D => tIn wi1 g1 tt1 vs1 (tIn wi2 g2 tt2 vs2 (tEm te D))) (own.map (·.2))) := by
  refine pe_lcG (em := fun acc env => emI (.ListComp elt [⟨tg, iter, ifs, 0⟩, ⟨tg1, iter1, ifs1, 0⟩, ⟨tg2, iter2, ifs2, 0⟩] scope pos) 1 iter1 acc env) hc hN hi ok hg ht (fun s H C cl fp D => ?_) (fun _ _ _ => rfl) hs
  refine runs_in (Y := X.blk s H scope (compEnvC scope cl C X.env) fp) (gc := ⟨tg1, iter1, ifs1, 0⟩) hc rfl hv1 (hi1 s H C cl fp) (hg1 s H C cl fp) (ht1 s H C cl fp) (em := fun k => emI (.ListComp elt [⟨tg, iter, ifs, 0⟩, ⟨tg1, iter1, ifs1, 0⟩, ⟨tg2, iter2, ifs2, 0⟩] scope pos) 2 iter2 (.ref D) (compEnvC scope cl C X.env) k) ?_ (hs1 _) (fun _ => rfl) (fun _ => rfl) (fun _ => rfl) (fun _ => rfl) (fun _ => rfl) rfl rfl (fun _ => rfl)
  refine runs_in (Y := X.blk s H scope (compEnvC scope cl C X.env) fp) (gc := ⟨tg2, iter2, ifs2, 0⟩) hc rfl hv2 (hi2 s H C cl fp) (hg2 s H C cl fp) (ht2 s H C cl fp) (em := fun k => emL elt (.ref D) (compEnvC scope cl C X.env) k) ?_ (hs2 _) (fun _ => rfl) (fun _ => rfl) (fun _ => rfl) (fun _ => rfl) (fun _ => rfl) rfl rfl (fun _ => rfl)
  exact runs_app rfl vs2 (he s H C cl fp)
/-- [e for a in xs for b in ys] -/
theorem pe_lcD {X : Cx} {elt tg iter tg1 iter1 : Expr} {ifs ifs1 : List Expr} {scope : Scope} {own : List (Str × Nat)} {vs1 : List Nat} {pos : Pos} {wi wi1 : TI} {g g1 : TG} {tt tt1 : TT} {te : TE}
    (hc : X.calm = true) (hN : X.N.Nodup) (hi : PI X tg iter wi) (ok : BlkOk X.N X.env.scope scope own) (hv1 : ∀ i ∈ vs1, i ∈ List.map (fun x : Str × Nat => x.2) own)
    (hg : ∀ (s : Shared) (H : Hp) (C : Addr) (cl : List (Str × Addr)) (fp : List Addr), PG (X.blk s H scope (compEnvC scope cl C X.env) fp) tg g)
    (ht : ∀ (s : Shared) (H : Hp) (C : Addr) (cl : List (Str × Addr)) (fp : List Addr), PTs (X.blk s H scope (compEnvC scope cl C X.env) fp) ifs tt)
    (hi1 : ∀ (s : Shared) (H : Hp) (C : Addr) (cl : List (Str × Addr)) (fp : List Addr), PI (X.blk s H scope (compEnvC scope cl C X.env) fp) tg1 iter1 wi1)
    (hg1 : ∀ (s : Shared) (H : Hp) (C : Addr) (cl : List (Str × Addr)) (fp : List Addr), PG (X.blk s H scope (compEnvC scope cl C X.env) fp) tg1 g1)
    (ht1 : ∀ (s : Shared) (H : Hp) (C : Addr) (cl : List (Str × Addr)) (fp : List Addr), PTs (X.blk s H scope (compEnvC scope cl C X.env) fp) ifs1 tt1)
    (he : ∀ (s : Shared) (H : Hp) (C : Addr) (cl : List (Str × Addr)) (fp : List Addr), PE (X.blk s H scope (compEnvC scope cl C X.env) fp) elt te)
    (hs : ∀ x, foldedSetIterable iter X.env x = pure x := by intro _; rfl) (hs1 : ∀ env x, foldedSetIterable iter1 env x = pure x := by intro _ _; rfl) :
    PE X (.ListComp elt [⟨tg, iter, ifs, 0⟩, ⟨tg1, iter1, ifs1, 0⟩] scope pos) (tLcG wi g tt (fun D => tIn wi1 g1 tt1 vs1 (tEm te D)) (own.map (·.2))) := by
  refine pe_lcG (em := fun acc env => emI (.ListComp elt [⟨tg, iter, ifs, 0⟩, ⟨tg1, iter1, ifs1, 0⟩] scope pos) 1 iter1 acc env) hc hN hi ok hg ht (fun s H C cl fp D => ?_) (fun _ _ _ => rfl) hs
  refine runs_in (Y := X.blk s H scope (compEnvC scope cl C X.env) fp) (gc := ⟨tg1, iter1, ifs1, 0⟩) hc rfl hv1 (hi1 s H C cl fp) (hg1 s H C cl fp) (ht1 s H C cl fp) (em := fun k => emL elt (.ref D) (compEnvC scope cl C X.env) k) ?_ (hs1 _) (fun _ => rfl) (fun _ => rfl) (fun _ => rfl) (fun _ => rfl) (fun _ => rfl) rfl rfl (fun _ => rfl)
  exact runs_app rfl vs1 (he s H C cl fp)
theorem pi_tupK {X : Cx} {tg l : Expr} {tl : TE} {K : PySem.W.Frag} (hk : X.K = K) (h : PE X l tl) : PI X tg l (iTup K tl) := by
  subst hk
  exact pi_tup h
/-! ### readings -/
theorem turns_range {lo : Int} {n : Nat} {g : TG} {tt : TT} {vs : List Nat} {EM : EMT} {σ : L2.St} {H0 : Hp} {Qe : Hp → Prop} (Z : Nat → Hp → Prop) (z0 : Z 0 H0)
    (step : ∀ (i : Nat) (H : Hp), i < n → Z i H → g (.int (lo + (i : Int))) (wipe σ vs) H fun σ2 H2 => wipe σ2 vs = wipe σ vs ∧ tt σ2 H2 fun b H3 => if b = true then EM σ2 H3 (Z (i + 1)) else Z (i + 1) H3)
    (done : ∀ H, Z n H → Qe H) : ∃ W, (∃ m, W 0 m H0) ∧ tTurns (Itr lo n) g tt vs EM σ Qe W := by
  refine ⟨fun i m H => i ≤ n ∧ m = n - i ∧ Z i H, ⟨n, Nat.zero_le _, rfl, z0⟩, ?_⟩
  rintro i m H ⟨le, rfl, z⟩
  by_cases e : i = n
  · exact .inl ⟨Nat.le_of_eq e.symm, done H (e ▸ z)⟩
  · have lt : i < n := by omega
    refine .inr ⟨lt, Z (i + 1), fun H' z' => ⟨n - (i + 1), by omega, by omega, rfl, z'⟩, ?_⟩
    rintro x H' ⟨rfl, rfl⟩
    exact step i H' lt z
theorem turns_list {K : PySem.W.Frag} {a : Addr} {xs : List V} {g : TG} {tt : TT} {vs : List Nat} {EM : EMT} {σ : L2.St} {H0 : Hp} {Qe : Hp → Prop} (Z : Nat → Hp → Prop) (z0 : Z 0 H0) (keep : ∀ (i : Nat) (H : Hp), i ≤ xs.length → Z i H → SqL K H a xs)
    (step : ∀ (i : Nat) (x : V) (H : Hp), xs[i]? = some x → Z i H → g x (wipe σ vs) H fun σ2 H2 => wipe σ2 vs = wipe σ vs ∧ tt σ2 H2 fun b H3 => if b = true then EM σ2 H3 (Z (i + 1)) else Z (i + 1) H3)
    (done : ∀ H, Z xs.length H → Qe H) : ∃ W, (∃ m, W 0 m H0) ∧ tTurns (Itl K a) g tt vs EM σ Qe W := by
  refine ⟨fun i m H => i ≤ xs.length ∧ m = xs.length - i ∧ Z i H, ⟨_, Nat.zero_le _, rfl, z0⟩, ?_⟩
  rintro i m H ⟨le, rfl, z⟩
  by_cases e : i = xs.length
  · exact .inl ⟨⟨xs, keep i H le z, Nat.le_of_eq e.symm⟩, done H (e ▸ z)⟩
  · have lt : i < xs.length := by omega
    refine .inr ⟨⟨xs, xs[i], keep i H le z, List.getElem?_eq_getElem lt⟩, Z (i + 1), fun H' z' => ⟨xs.length - (i + 1), by omega, by omega, rfl, z'⟩, ?_⟩
    rintro x H' ⟨rfl, hx⟩
    exact step i x H' (hx xs (keep i H' le z)) z
theorem turns_tup {K : PySem.W.Frag} {a : Addr} {xs : List V} {g : TG} {tt : TT} {vs : List Nat} {EM : EMT} {σ : L2.St} {H0 : Hp} {Qe : Hp → Prop} (Z : Nat → Hp → Prop) (z0 : Z 0 H0) (keep : ∀ (i : Nat) (H : Hp), i ≤ xs.length → Z i H → SqT K H a xs)
    (step : ∀ (i : Nat) (x : V) (H : Hp), xs[i]? = some x → Z i H → g x (wipe σ vs) H fun σ2 H2 => wipe σ2 vs = wipe σ vs ∧ tt σ2 H2 fun b H3 => if b = true then EM σ2 H3 (Z (i + 1)) else Z (i + 1) H3)
    (done : ∀ H, Z xs.length H → Qe H) : ∃ W, (∃ m, W 0 m H0) ∧ tTurns (Itt K a) g tt vs EM σ Qe W := by
  refine ⟨fun i m H => i ≤ xs.length ∧ m = xs.length - i ∧ Z i H, ⟨_, Nat.zero_le _, rfl, z0⟩, ?_⟩
  rintro i m H ⟨le, rfl, z⟩
  by_cases e : i = xs.length
  · exact .inl ⟨⟨xs, keep i H le z, Nat.le_of_eq e.symm⟩, done H (e ▸ z)⟩
  · have lt : i < xs.length := by omega
    refine .inr ⟨⟨xs, xs[i], keep i H le z, List.getElem?_eq_getElem lt⟩, Z (i + 1), fun H' z' => ⟨xs.length - (i + 1), by omega, by omega, rfl, z'⟩, ?_⟩
    rintro x H' ⟨rfl, hx⟩
    exact step i x H' (hx xs (keep i H' le z)) z
end Vx
namespace Vx
open PySem PySem.Spec PyProof.Rows L2
/-! ### enumerate(v), v a tuple -/
set_option maxHeartbeats 1000000 in
theorem meets_enumerate_new1 {v : Value} {o : Obj} {H : Heap → Prop} (B : Begins v o H) :
    Meets (Builtin.«enumerate.__new__» ⟨[.type "enumerate", v], []⟩) (fun _ R s => H s.heap ∧
      R (.ok (.ret (.ref (s.heap.push o).objs.size))) { s with heap := (s.heap.push o).push { cls := .type "enumerate", data := .fields #[.none, .bool false, .ref s.heap.objs.size, rawInt 0, .none, .none] } }) :=
  .of_wp fun prog w A R s h => by
    obtain ⟨hp, g, d, tk, os⟩ := s; obtain ⟨h1, h⟩ := h
    have hsub := sub_enumerate
    have q1 : ∀ {A' : Around} {E : Value → Shared → Prop} {Q : Value → Shared → Prop}, Q (.ref hp.objs.size) ⟨hp.push o, g, d, tk, os⟩ → wpAny (model prog w) A' (pyIter v) Q E ⟨hp, g, d, tk, os⟩ :=
      fun q => B.iter prog w _ _ ⟨hp, g, d, tk, os⟩ _ h1 q
    wp_walk using q1
    refine wpAny_stack_any fun st => wpAny_pure ?_
    split
    · rename_i c _ _ _ _ _
      cases (c == Value.type "enumerate")
      · wp_walk using q1
        exact ⟨_, rfl, h⟩
      · wp_walk using q1
        exact ⟨_, rfl, h⟩
    · wp_walk using q1
      exact ⟨_, rfl, h⟩
theorem call_enumerate1 {prog : Program} {w : World} {A : Around} {E : Value → Shared → Prop} {s : Shared} {v : Value} {o : Obj} {H : Heap → Prop} {Q : Value → Shared → Prop} (B : Begins v o H) (h1 : H s.heap)
    (h : ∀ h', IsEnum h' (s.heap.objs.size + 1) s.heap.objs.size 0 .none → h'.get? s.heap.objs.size = some o → h'.objs.size = s.heap.objs.size + 2 →
      (∀ b o, s.heap.get? b = some o → h'.get? b = some o) → Q (.ref (s.heap.objs.size + 1)) { s with heap := h' }) :
    wpAny (model prog w) A (call (.type "enumerate") [v]) Q E s := by
  refine callType_new F.called_enumerate (by decide) (F.typeCall_enumerate_1 _) (F.newCall_enumerate_1 _) (fun obj => F.args_object_init_2 obj _) F.entry_enumerate_new
    (meets_enumerate_new1 B) ⟨h1, ?_⟩
  have hz : (s.heap.push o).objs.size = s.heap.objs.size + 1 := Heap.size_push ..
  show _ ∧ _
  rw [hz]
  have he : IsEnum ((s.heap.push o).push { cls := .type "enumerate", data := .fields #[.none, .bool false, .ref s.heap.objs.size, rawInt 0, .none, .none] }) (s.heap.objs.size + 1) s.heap.objs.size 0 .none := by
    have := Heap.get?_push_size (s.heap.push o) (o := { cls := .type "enumerate", data := .fields #[.none, .bool false, .ref s.heap.objs.size, rawInt 0, .none, .none] }) rfl
    rw [hz] at this; exact this
  refine ⟨⟨_, he, rfl⟩, h _ he (Heap.get?_push_of_some _ (Heap.get?_push_size _ B.free)) (by rw [Heap.size_push, hz]) fun b o x => Heap.get?_push_of_some _ (Heap.get?_push_of_some _ x)⟩
def IteT (K : PySem.W.Frag) (a : Addr) : It :=
  ⟨fun i H => ∃ (xs : List V) (x : V), SqT K H a xs ∧ xs[i]? = some x, fun i H v H' => ∃ T x, v = .ref T ∧ H T = none ∧ H' = upd H T (.tup [.int (i : Nat), x]) ∧ ∀ xs, SqT K H a xs → xs[i]? = some x, fun i H => ∃ xs : List V, SqT K H a xs ∧ xs.length = i⟩
theorem turn_enumT {P : Program} {w : World} {K : PySem.W.Frag} {elts : List Expr} {kk : Nat} {tpos : Pos} (a e it : Addr) (nae : a ≠ e) (nai : a ≠ it) :
    Turn P w K (.Tuple elts kk tpos) (IteT K a) [e, it] e (fun i h => (∃ old, IsEnum h e it ((i : Nat) : Int) old) ∧ h.IsTupleIter it a i ∧ e ≠ it) where
  mem := by simp
  obj := fun i h st b hb => by
    obtain ⟨⟨old, he⟩, ⟨o, ho, hc, hd⟩, _⟩ := st
    have e' : b = e ∨ b = it := by simpa using hb
    rcases e' with z | z
    · rw [z]; exact ⟨_, he, fun v q => nomatch q⟩
    · rw [z]; exact ⟨o, ho, fun v q => by rw [hd] at q; cases q⟩
  keep := fun i h h' st k => let ⟨⟨old, he⟩, hi, hne⟩ := st; ⟨⟨old, k e (by simp) _ he⟩, hi.at fun o q => k it (by simp) o q, hne⟩
  item := by
    intro X hP hw hK hc i pins s σ H E I hf st hg
    subst hP hw hK
    obtain ⟨⟨old, he⟩, hit, hne⟩ := st
    obtain ⟨xs, x, hq, hx⟩ := hg
    obtain ⟨its, rv, p, hz⟩ := I.tuple hq
    obtain ⟨u, hu, ru⟩ := rv.get hx
    have hel : e < s.heap.objs.size := Heap.lt_size he
    have hil : it < s.heap.objs.size := by obtain ⟨_, q, _⟩ := hit; exact Heap.lt_size q
    have D := Draws.tuple (prog := X.prog) (w := X.w) (A := X.A.in1) (I.ok.hd hc) it a nai its.toArray
    have li : i < its.toArray.size := by
      have := List.getElem?_eq_some_iff.mp hu
      obtain ⟨q, _⟩ := this
      simpa using q
    refine wpAny_pyNext_enum_itemC D he ⟨hit, p⟩ li hne (by simp; exact ⟨hne, fun z => nae z.symm⟩) fun x' h' tk hx' ho hit' hT hsz hk => ?_
    have ex : x' = u := by
      have z : its.toArray[i]? = some x' := hx'
      rw [List.getElem?_toArray, hu] at z
      exact (Option.some.inj z).symm
    subst ex
    refine ⟨_, rfl, wpAny_letOwnedTupleGo_enum (s := { s with heap := h', toks := tk + 1 }) ho fun h'' he' sb => ?_⟩
    have hT2 : h''.get? s.heap.objs.size = some { cls := .type "tuple", data := .seq #[.int i tk, x'] } := (sb.2 _ (Nat.ne_of_gt hel)).trans hT
    have new : ObjOk X.prog X.w (upd H s.heap.objs.size (.tup [.int (i : Nat), x])) h'' s.heap.objs.size (.tup [.int (i : Nat), x]) :=
      ⟨by show 2 ≤ sizeLine; decide, [.int i tk, x'], .cons ⟨_, rfl⟩ (.cons ru .nil), ⟨_, hT2, rfl, _, rfl⟩⟩
    have I1 : Inv X pins σ (upd H s.heap.objs.size (.tup [.int (i : Nat), x])) { s with heap := h'', toks := tk + 1 } :=
      I.turnedNew (ch := [e, it]) (fun b ob hb q => (sb.2 b (fun z => hb (by simp [z]))).trans (hk b ob (fun z => hb (by simp [z])) (fun z => hb (by simp [z])) q)) hf (Nat.le_refl _) new
    refine ⟨.ref s.heap.objs.size, _, I1, rfl, ⟨_, x, rfl, I.hok.fresh (Nat.le_refl _), rfl, fun ys hy => by rw [I.tuple_inj hy hq]; exact hx⟩, ⟨⟨x', ?_⟩, hit'.1.at fun o q => (sb.2 it (Ne.symm hne)).trans q, hne⟩, fun b hb => ?_⟩
    · have e1 : ((i + 1 : Nat) : Int) = (i : Int) + 1 := by omega
      rw [e1]; exact he'
    · have hb' : b < s.heap.objs.size := by
        have e' : b = e ∨ b = it := by simpa using hb
        rcases e' with z | z
        · rw [z]; exact hel
        · rw [z]; exact hil
      rw [upd_ne (Nat.ne_of_lt hb')]
      exact (hf b hb).1
  done := by
    intro X hP hw hK hc i pins s σ H E I hf st hg
    subst hP hw hK
    obtain ⟨⟨old, he⟩, hit, hne⟩ := st
    obtain ⟨xs, hq, hx⟩ := hg
    obtain ⟨its, rv, p, hz⟩ := I.tuple hq
    obtain ⟨f0, f1, f2, f3, f4, f5⟩ := hf it (by simp)
    have hl := rv.length
    have D := Draws.tuple (prog := X.prog) (w := X.w) (A := X.A.in1) (I.ok.hd hc) it a nai its.toArray
    have en : i = its.toArray.size := by simp; omega
    refine wpAny_pyNext_enum_endD D he ?_ fun h' eb => ⟨rfl, I.turned (t' := s.toks) (fun b o hb q => eb b o hb q) f0 f1 f3 f4 f5⟩
    rw [← en]
    exact ⟨hit, p⟩
  self := fun A i s Q E st h => let ⟨⟨_, he⟩, _⟩ := st; wpAny_pyIter_enum he h
def iEnumT (K : PySem.W.Frag) (ta : TA) : TI := fun σ H R => ta σ H fun vs H1 => ∃ a xs, vs = [.ref a] ∧ SqT K H1 a xs ∧ R (IteT K a) H1
theorem pi_enumT {X : Cx} {e : Expr} {ta : TA} {p pos tpos : Pos} {elts : List Expr} {kk : Nat} (hg : Gl X "enumerate") (hm : X.mg "enumerate" = none) (ha : PA X [e] ta) (hs : starEach [e] X.env = [(false, eval e X.env)] := by rfl) :
    PI X (.Tuple elts kk tpos) (.Call (.Name "enumerate" p) [e] [] pos) (iEnumT X.K ta) := by
  refine ⟨fun pins s σ H R I h => ?_⟩
  refine Call_ (ld_blt I hg hm boot_enumerate (PyProof.Rows.callWith_type1 (thn (ha.run pos pins s σ H _ I h) fun us s1 ⟨vs, H1, I1, r1, q1⟩ => ?_) hs rfl))
  obtain ⟨a, xs, ex, hq, q⟩ := q1
  subst ex
  cases r1 with
  | cons r rr =>
    cases rr
    cases r
    obtain ⟨its, rv, p', hz⟩ := I1.tuple hq
    have la : a < s1.heap.objs.size := by obtain ⟨o, e, _⟩ := p'; exact Heap.lt_size e
    refine call_enumerate1 (begins_tuple a its.toArray) (show s1.heap.IsTuple a its.toArray from p') fun h' he hit hsz hk => wpAny_pyIter_enum he ?_
    have I2 : Inv X pins σ H1 { s1 with heap := h' } := I1.kept (t' := s1.toks) hk
    refine ⟨s1.heap.objs.size + 1, [s1.heap.objs.size + 1, s1.heap.objs.size], _, _, H1, rfl, I2, turn_enumT a (s1.heap.objs.size + 1) s1.heap.objs.size (Nat.ne_of_lt (Nat.lt_succ_of_lt la)) (Nat.ne_of_lt la), ⟨⟨.none, he⟩, ⟨_, hit, rfl, rfl⟩, Nat.succ_ne_self _⟩, fun b hb => ?_, q⟩
    have e' : b = s1.heap.objs.size + 1 ∨ b = s1.heap.objs.size := by simpa using hb
    have hle : s1.heap.objs.size ≤ b := by
      rcases e' with z | z
      · rw [z]; exact Nat.le_add_right _ _
      · rw [z]; exact Nat.le_refl _
    exact I1.fpOk hle (I1.hok.fresh hle)
theorem walk_enumT {K : PySem.W.Frag} {a : Addr} {xs : List V} : Walk (IteT K a) xs.length (fun H => SqT K H a xs) (YPair (fun i => some (.int (i : Nat))) (fun i => xs[i]?)) := by
  refine ⟨fun i _ hi q => ⟨xs, xs[i], q, by simp [hi]⟩, fun _ q => ⟨xs, q, rfl⟩, fun i H v H' _ q y => ?_⟩
  obtain ⟨T, x, h1, h2, h3, h4⟩ := y
  exact ⟨T, .int (i : Nat), x, h1, h2, h3, rfl, h4 xs q⟩
end Vx
namespace PySem
open Sem (wp)
section
variable {prog : Program} {w : World} {K : Type} [DecidableEq K] {knd : HeapKind prog w K} {A : Around} {E : Value → Shared → Prop} {s : Shared}
theorem wpAny_truthy_dictH {d : Addr} {xs : List (K × Addr × Value)} {Q : Bool → Shared → Prop} (hd : (d == sysModules) = false) (hm : s.heap.DictOfH knd d xs) (hfit : (xs.length : Int) < 2 ^ 63)
    (h : Q (!xs.isEmpty) { s with toks := s.toks + 1 + 1 }) : wpAny (model prog w) A (truthy (.ref d)) Q E s := by
  have hne : ((xs.length : Int) != 0) = !xs.isEmpty := by cases xs <;> simp <;> omega
  have key : wpAny (model prog w) A (runValue (.builtin "len" ⟨[.ref d], []⟩)) (fun r s' => r = .int xs.length (s.toks + 1) ∧ Q (!xs.isEmpty) s') E s := by
    refine wpAny_runValue (codeAny_builtin entry_len ?_)
    rw [Around.under_plainId plain_len _]
    exact wpAny_mono (wpAny_len_body_dictH (Q := fun r s' => r = .int xs.length (s.toks + 1) ∧ Q (!xs.isEmpty) s') hd hm hfit ⟨rfl, h⟩)
      (fun fin s' h' => by obtain ⟨r, rfl, hq⟩ := h'; exact hq) fun _ _ e => e
  unfold truthy
  first
    | refine wpAny_bind (wpAny_callSpecial?_none (name := Str.ofString "__bool__") hm.typeIs noBool_dict ?_)
    | refine wpAny_bind (wpAny_pure (wpAny_bind (wpAny_callSpecial?_none (name := Str.ofString "__bool__") hm.typeIs noBool_dict ?_)))
  first
    | refine wpAny_bind (wpAny_specialOf (name := Str.ofString "__len__") hm.typeIs F.slot_dict_len.lookup ?_)
    | refine wpAny_bind (wpAny_pure (wpAny_bind (wpAny_specialOf (name := Str.ofString "__len__") hm.typeIs F.slot_dict_len.lookup ?_)))
  first
    | exact wpAny_bind (wpAny_mono key (fun r s' h' => by obtain ⟨rfl, hq⟩ := h'; exact wpAny_pure (hne ▸ hq)) fun _ _ e => e)
    | exact wpAny_bind (wpAny_pure (wpAny_bind (wpAny_mono key (fun r s' h' => by obtain ⟨rfl, hq⟩ := h'; exact wpAny_pure (hne ▸ hq)) fun _ _ e => e)))
end
end PySem
namespace Vx
open PySem PySem.Spec PyProof.Rows L2
theorem gName_go {i : Nat} {v : V} {σ : L2.St} {H : Hp} {Q : L2.St → Hp → Prop} (h : Q (σ.set i (some v)) H) : gName i v σ H Q := h
/-! ### min, max with a default, of ints -/
theorem foldl_min_mem : ∀ (ns : List Int) (n : Int), ns.foldl min n ∈ n :: ns ∧ ∀ y ∈ n :: ns, ns.foldl min n ≤ y
  | [], n => ⟨List.mem_cons_self, fun y m => by rw [List.mem_singleton.mp m]; exact Int.le_refl n⟩
  | k :: ns, n => by
    obtain ⟨h1, h2⟩ := foldl_min_mem ns (min n k)
    show ns.foldl min (min n k) ∈ _ ∧ ∀ y ∈ _, ns.foldl min (min n k) ≤ y
    have h0 := h2 _ List.mem_cons_self
    refine ⟨?_, fun y m => ?_⟩
    · rcases List.mem_cons.mp h1 with e | m
      · rw [e]
        rcases Int.le_total n k with c | c
        · rw [Int.min_eq_left c]; exact List.mem_cons_self
        · rw [Int.min_eq_right c]; exact List.mem_cons_of_mem _ List.mem_cons_self
      · exact List.mem_cons_of_mem _ (List.mem_cons_of_mem _ m)
    · rcases List.mem_cons.mp m with e | m
      · rw [e]; exact Int.le_trans h0 (Int.min_le_left _ _)
      · rcases List.mem_cons.mp m with e | m
        · rw [e]; exact Int.le_trans h0 (Int.min_le_right _ _)
        · exact h2 y (List.mem_cons_of_mem _ m)
theorem foldl_max_mem : ∀ (ns : List Int) (n : Int), ns.foldl max n ∈ n :: ns ∧ ∀ y ∈ n :: ns, y ≤ ns.foldl max n
  | [], n => ⟨List.mem_cons_self, fun y m => by rw [List.mem_singleton.mp m]; exact Int.le_refl n⟩
  | k :: ns, n => by
    obtain ⟨h1, h2⟩ := foldl_max_mem ns (max n k)
    show ns.foldl max (max n k) ∈ _ ∧ ∀ y ∈ _, y ≤ ns.foldl max (max n k)
    have h0 := h2 _ List.mem_cons_self
    refine ⟨?_, fun y m => ?_⟩
    · rcases List.mem_cons.mp h1 with e | m
      · rw [e]
        rcases Int.le_total n k with c | c
        · rw [Int.max_eq_right c]; exact List.mem_cons_of_mem _ List.mem_cons_self
        · rw [Int.max_eq_left c]; exact List.mem_cons_self
      · exact List.mem_cons_of_mem _ (List.mem_cons_of_mem _ m)
    · rcases List.mem_cons.mp m with e | m
      · rw [e]; exact Int.le_trans (Int.le_max_left _ _) h0
      · rcases List.mem_cons.mp m with e | m
        · rw [e]; exact Int.le_trans (Int.le_max_right _ _) h0
        · exact h2 y (List.mem_cons_of_mem _ m)
theorem alike_ints (ns : List Int) : W.AlikeAll (ns.map PyData.int) := ⟨fun a ma b mb => by
    obtain ⟨x, _, rfl⟩ := List.mem_map.mp ma
    obtain ⟨y, _, rfl⟩ := List.mem_map.mp mb
    simp [W.alike], fun a ma => by
    obtain ⟨x, _, rfl⟩ := List.mem_map.mp ma
    intro z
    cases z⟩
section
variable {X : Cx}
def rDflt (K : PySem.W.Frag) (le : Int → Int → Prop) : List V → List V → Hp → VK → Prop := fun vs zs H Q => ∃ (a : Addr) (ns : List Int) (d : V), vs = [V.ref a] ∧ zs = [d] ∧ SqL K H a (ns.map V.int) ∧ (ns = [] → Q d H) ∧ ∀ m, m ∈ ns → (∀ y ∈ ns, le m y) → Q (.int m) H
theorem cr_minD (hc : X.calm = true) (hu : X.A.units + 2 < cLine) : CallRK X (.builtin "min") [Str.ofString "default"] (rDflt X.K (fun m y => m ≤ y)) := by
  intro pins s σ H vs zs us ws Q I r rz h
  obtain ⟨a, ns, d, rfl, rfl, hs, q0, q⟩ := h
  obtain rfl := Vals.ref1 r
  obtain ⟨w1, rfl, e1⟩ := vals1 rz
  obtain ⟨its, rv, pl, hz⟩ := I.list hs
  obtain ⟨as, hr⟩ := Dp.readsAll I _ _ its (dpAll_ints ns) rv
  refine W.min_list_default (I.ok.hd hc) pl.isList hr (alike_ints ns) (by rw [depAll_ints]; omega) (fun z h' tk k => ?_) fun y ys i v h' tk bs e hv rd k => ?_
  · exact ⟨d, H, I.kept k, e1, q0 (List.map_eq_nil_iff.mp z)⟩
  · cases ns with
    | nil => cases e
    | cons n ns =>
      injection e with e1 e2
      subst e1 e2
      rw [W.minD_ints] at rd
      obtain ⟨h1, h2⟩ := foldl_min_mem ns n
      cases rd
      exact ⟨.int _, H, I.kept k, ⟨_, rfl⟩, q _ h1 h2⟩
theorem cr_maxD (hc : X.calm = true) (hu : X.A.units + 2 < cLine) : CallRK X (.builtin "max") [Str.ofString "default"] (rDflt X.K (fun m y => y ≤ m)) := by
  intro pins s σ H vs zs us ws Q I r rz h
  obtain ⟨a, ns, d, rfl, rfl, hs, q0, q⟩ := h
  obtain rfl := Vals.ref1 r
  obtain ⟨w1, rfl, e1⟩ := vals1 rz
  obtain ⟨its, rv, pl, hz⟩ := I.list hs
  obtain ⟨as, hr⟩ := Dp.readsAll I _ _ its (dpAll_ints ns) rv
  refine W.max_list_default (I.ok.hd hc) pl.isList hr (alike_ints ns) (by rw [depAll_ints]; omega) (fun z h' tk k => ?_) fun y ys i v h' tk bs e hv rd k => ?_
  · exact ⟨d, H, I.kept k, e1, q0 (List.map_eq_nil_iff.mp z)⟩
  · cases ns with
    | nil => cases e
    | cons n ns =>
      injection e with e1 e2
      subst e1 e2
      rw [W.maxD_ints] at rd
      obtain ⟨h1, h2⟩ := foldl_max_mem ns n
      cases rd
      exact ⟨.int _, H, I.kept k, ⟨_, rfl⟩, q _ h1 h2⟩
/-- if d: of a dict with tuple keys -/
theorem pt_truT {a : Expr} {ta : TE} (ha : PE X a ta) (he : ∀ whole, isTrue a X.env whole = (do let v ← whole; standAt a.pos; holding [v] (truthy v))) :
    PT X a (fun σ H Q => ta σ H fun x H' => ∃ (p : Addr) (kvs : List (List L2.Key × V)), x = .ref p ∧ H' p = some (.dT kvs) ∧ Q (!kvs.isEmpty) H') := by
  refine ⟨fun pins s σ H Q I h => ?_⟩
  refine isTrue_plain (thn (ha.run pins s σ H _ I h) fun v s1 ⟨x, H1, I1, r1, q1⟩ => ?_) (he _)
  obtain ⟨p, kvs, rfl, hp, q⟩ := q1
  obtain rfl : v = .ref p := r1
  obtain ⟨z, hd, ys, rel, dd⟩ := dt_of I1.hok hp
  have hl : kvs.length = ys.length := Paired.length rel
  have hi : (!ys.isEmpty) = !kvs.isEmpty := by
    cases ys <;> cases kvs <;> first | rfl | (simp at hl)
  refine PySem.wpAny_truthy_dictH hd dd (by rw [← hl]; rw [sizeLine_eq] at z; omega) ?_
  rw [hi]
  exact ⟨H1, I1.tok _, q⟩
end
/-- the keys of such a dict, a number of each -/
theorem lc_keysN {d : Addr} {od : Obj} {kvs : List (List L2.Key × V)} {ps : List Pr} {vs : List Nat} {σ : L2.St} {H1 : Hp} {D : Addr} {Qd : Hp → Prop} {g : TG} {tt : TT} {te : TE} (f : Pr → Int) (hK : KeysP kvs ps) (hD : H1 d = some (.frz od (.dT kvs))) (nD : H1 D = none) (few : ps.length < sizeLine)
    (hs : ∀ (t : Addr) (x : Pr) (H' : Hp) (Po : V → Hp → Prop) (Pn : Hp → Prop), x ∈ ps → H' t = some (.tup [.int x.1, .int x.2]) → Po (.int (f x)) H' →
      g (.ref t) (wipe σ vs) H' fun σ2 H2 => wipe σ2 vs = wipe σ vs ∧ tt σ2 H2 fun b H3 => if b = true then te σ2 H3 Po else Pn H3)
    (hd : ∀ H', Same H1 H' → H' D = some (.lst ((ps.map f).map V.int)) → Qd H') :
    ∃ W : Nat → Nat → Hp → Prop, (∃ m, W 0 m (upd H1 D (.lst []))) ∧ ∀ i m H, W i m H →
      ((Itkt d od kvs).stop i H ∧ Qd H) ∨ ((Itkt d od kvs).go i H ∧ ∃ Nx : Hp → Prop, (∀ H', Nx H' → ∃ m', m' < m ∧ W (i + 1) m' H') ∧ ∀ x H', (Itkt d od kvs).yld i H x H' → g x (wipe σ vs) H' fun σ2 H2 => wipe σ2 vs = wipe σ vs ∧ tt σ2 H2 fun b H3 =>
        if b = true then te σ2 H3 fun y H4 => ∃ acc, H4 D = some (.lst acc) ∧ acc.length < sizeLine ∧ Nx (upd H4 D (.lst (acc ++ [y]))) else Nx H3) := by
  have len := hK.len
  refine lc_it walk_keysT (fun i H' => Same H1 H' ∧ H' D = some (.lst (((ps.take i).map f).map V.int)))
    ⟨newS nD, upd_same⟩ (fun i H' _ p => p.1 _ _ hD) ?_ ?_
  · rintro i x H' H2 hi ⟨sm, h1⟩ ⟨rfl, k, v, q, e, rfl, hq⟩
    obtain ⟨y, hy, ek⟩ := hK.at e
    rw [ek] at hq
    refine hs q y _ _ _ (List.mem_of_getElem? hy) hq ⟨_, h1, ?_, mutS sm nD, ?_⟩
    · rw [List.length_map, List.length_map, List.length_take]
      omega
    · rw [upd_same, take_next hy, List.map_append, List.map_append]
      rfl
  · rintro H' ⟨sm, h1⟩
    rw [List.take_of_length_le (by omega)] at h1
    exact hd H' sm h1
end Vx
namespace Vx
open PySem PySem.Spec PyProof.Rows L2
/-! ### dict comprehensions with two loops -/
def emD0 (kx vx : Expr) (acc : Value) (env : Env) : Sem Unit := do
  let kv ← eval kx env
  let vv ← holding [kv] (eval vx env)
  match acc with
  | .ref d => do
    standAt { kx.pos with endLine := vx.pos.endLine, endCol := vx.pos.endCol }
    holding [kv, vv] (dictSet d kv vv)
  | _ => unsupported "internal:dictcomp"
def emD (kx vx : Expr) (acc : Value) (env : Env) (k : Unit → Sem PySem.Fin) : Sem PySem.Fin := emD0 kx vx acc env >>= k
def tEmD (tk tv : TE) (D : Addr) : EMT := fun σ H Nx => tk σ H fun y H4 => tv σ H4 fun z H5 => ∃ (kvs : List (List L2.Key × V)) (k : List L2.Key) (b : Addr), y = .ref b ∧ H5 b = some (.tup (k.map kV)) ∧ H5 D = some (.dT kvs) ∧ kvs.length < sizeLine ∧ Nx (upd H5 D (.dT (putK kvs k z)))
theorem runs_put {Y : Cx} (hu : Y.A.units < cLine) (xe0 : Y.xe = fun _ _ => False) {kx vx : Expr} {tk tv : TE} {D : Addr} (vs : List Nat) (pk : PE Y kx tk) (pv : PE Y vx tv) : Runs Y vs (tEmD tk tv D) (emD kx vx (.ref D) Y.env) := by
  intro pins s σ H Nx c Post E I h k
  unfold emD emD0
  have r := pk.run pins s σ H _ I h
  rw [xe0] at r
  refine wpAny_bind (wpAny_bind (wpAny_mono r (fun v s1 h1 => ?_) fun _ _ z => z.elim))
  obtain ⟨y, H1, I1, ry, h1⟩ := h1
  have r2 := pv.run pins s1 σ H1 _ I1 h1
  rw [xe0] at r2
  refine wpAny_bind (wpAny_holding (wpAny_mono r2 (fun v2 s2 h2 => ?_) fun _ _ z => z.elim))
  obtain ⟨z, H2, I2, rz, kvs, kk, b, rfl, hb, hD, few, nx⟩ := h2
  cases ry
  refine wpAny_bind (wpAny_standAt (wpAny_holding ?_))
  exact set_compT hu I2 hD few hb rz fun s3 I3 => wpAny_pure (k s3 _ (I3.weak (wipe_length ..) fun _ _ z => (wipe_some z).1) nx)
def tDcG (wi : TI) (g : TG) (tt : TT) (EM : Addr → EMT) (vs : List Nat) : TE := fun σ H Q => wi σ H fun J H1 => ∀ D : Addr, H1 D = none → ∃ W, (∃ m, W 0 m (upd H1 D (.dT []))) ∧ tTurns J g tt vs (EM D) σ (fun H => Q (.ref D) H) W
theorem pe_dcG {X : Cx} {kx vx tg iter : Expr} {ifs : List Expr} {rest : List Comprehension} {scope : Scope} {own : List (Str × Nat)} {pos p : Pos} {wi : TI} {g : TG} {tt : TT} {EM : Addr → EMT} {em : Value → Env → (Unit → Sem PySem.Fin) → Sem PySem.Fin}
    (hc : X.calm = true) (hN : X.N.Nodup) (hi : PI X tg iter wi) (ok : BlkOk X.N X.env.scope scope own)
    (hg : ∀ (s : Shared) (H : Hp) (C : Addr) (cl : List (Str × Addr)) (fp : List Addr), PG (X.blk s H scope (compEnvC scope cl C X.env) fp) tg g)
    (ht : ∀ (s : Shared) (H : Hp) (C : Addr) (cl : List (Str × Addr)) (fp : List Addr), PTs (X.blk s H scope (compEnvC scope cl C X.env) fp) ifs tt)
    (hem : ∀ (s : Shared) (H : Hp) (C : Addr) (cl : List (Str × Addr)) (fp : List Addr) (D : Addr), Runs (X.blk s H scope (compEnvC scope cl C X.env) fp) (own.map (·.2)) (EM D) (em (.ref D) (compEnvC scope cl C X.env)))
    (turn : ∀ it acc env, compTurn (.DictComp kx vx (⟨tg, iter, ifs, 0⟩ :: rest) scope pos) 0 it acc env = turnF p tg ifs (em acc env) (Code.compLoop (.DictComp kx vx (⟨tg, iter, ifs, 0⟩ :: rest) scope pos) 0 it acc env) it env)
    (hs : ∀ x, foldedSetIterable iter X.env x = pure x) : PE X (.DictComp kx vx (⟨tg, iter, ifs, 0⟩ :: rest) scope pos) (tDcG wi g tt EM (own.map (·.2))) := by
  refine ⟨fun pins s σ H Q I h => ?_⟩
  rw [arm_eval_DictComp]
  have hfree : ∀ y ∈ scope.names, y.2 = NameKind.free → ∃ c, List.lookup y.1 X.env.cells = some c := fun y hy e => (ok.free y hy e).elim (fun k => I.ok.has y.1 (.inl k)) fun k => I.ok.has y.1 (.inr k)
  refine wpAny_comprehension_free (use := none) rfl hs (closure_ok hfree) ok.kind (fun y hy e => by rw [ok.uniq y hy, e]) ?_
  refine wpAny_mono (hi.run pins s σ H _ I h) (fun xv s1 hx => ?_) fun _ _ z => z
  refine wpAny_mono hx (fun itv s2 h2 => ?_) fun _ _ z => z
  obtain ⟨it, fp, tn, J, H2, rfl, I2, T, t2, f2, q⟩ := h2
  refine wpAny_newObj_type (newEnv_comp ?_)
  have hDn : H2 s2.heap.objs.size = none := I2.hok.fresh (Nat.le_refl _)
  obtain ⟨W, ⟨m0, w0⟩, turns⟩ := q _ hDn
  have I3 : L2.Inv X pins σ (upd H2 s2.heap.objs.size (.dT [])) { s2 with heap := s2.heap.push { cls := .type "dict", data := .dict #[] } } :=
    I2.laid (t' := s2.toks) (fun b o e => Heap.get?_push_of_some _ e) (Nat.le_refl _) (dt_empty s2.heap I2.big)
  generalize es3 : ({ s2 with heap := s2.heap.push { cls := .type "dict", data := .dict #[] } } : Shared) = s3 at I3 ⊢
  have h3 : s3.heap = s2.heap.push { cls := .type "dict", data := .dict #[] } := by rw [← es3]
  have f3 : ∀ b ∈ fp, FpOk X pins (upd H2 s2.heap.objs.size (.dT [])) b ∧ b < s3.heap.objs.size := fun b hb => by
    obtain ⟨o, ho, _⟩ := T.obj 0 _ t2 b hb
    have lt := Heap.lt_size ho
    refine ⟨⟨?_, (f2 b hb).2⟩, ?_⟩
    · rw [upd_ne (Nat.ne_of_lt lt)]
      exact (f2 b hb).1
    · rw [h3, Heap.size_push]
      exact Nat.lt_succ_of_lt lt
  have st3 : tn 0 s3.heap := T.keep 0 _ _ t2 fun b _ o e => by
    rw [h3]
    exact Heap.get?_push_of_some _ e
  have I4 := block_start I3 ok hN f3
  have st4 := T.keep 0 _ (pushCells (s3.heap.push { cls := .type "dict", data := .dict #[] }) scope.names) st3 fun b _ o e => pushCells_keeps scope.names _ b o (Heap.get?_push_of_some _ e)
  clear es3
  generalize s2.heap.objs.size = D at *
  show codeAny (model X.prog X.w) X.A (Code.compStart _ 0 (.ref it) (.ref D) (compEnvC scope (cellsFrom (s3.heap.objs.size + 1) scope.names (cloFrom X.env.cells scope.names [])) s3.heap.objs.size X.env)) _ _
  have loop := lvl (Y := X.blk s3 (upd H2 D (.dT [])) scope (compEnvC scope (cellsFrom (s3.heap.objs.size + 1) scope.names (cloFrom X.env.cells scope.names [])) s3.heap.objs.size X.env) fp) (R := compPost (model X.prog X.w) X.A X.xe none (EP X pins σ Q) (.ref D) s3.heap.objs.size) (e := .DictComp kx vx (⟨tg, iter, ifs, 0⟩ :: rest) scope pos) (d := 0) (acc := .ref D) hc rfl T (hg _ _ _ _ _) (ht _ _ _ _ _) rfl rfl rfl (turn _ _ _) (EM := EM D) (vs := List.map (fun x : Str × Nat => x.2) own) (σ0 := σ) (W := W) (Qe := fun H => Q (.ref D) H)
    (fun pins s σ H Nx Post E I h k => hem _ _ _ _ _ D pins s σ H Nx _ Post E I h k) turns (fun s6 H5 I6 q6 => ?_) I4 st4 (fun b hb => ⟨(f3 b hb).1.1, (I4.ok.exf b hb).1, I4.ok.exfs b hb, .inl hb, (I4.ok.exf b hb).2, fun p hp => by cases hp⟩) w0
  · exact codeAny_compStart_dict loop (T.self X.A 0 _ _ _ st4 loop)
  · have I7 := Inv.call' I3 I6.os I6.base I6.hok I6.bare fun b hb => ⟨(f3 b hb).1.2.2.2.1, (f3 b hb).1.2.1, (f3 b hb).1.2.2.2.2.1, (f3 b hb).1.2.2.2.2.2⟩
    obtain ⟨m, hn, _⟩ := I6.loc
    obtain ⟨a0, a1, a2, a3, a4, a5⟩ := Inv.fpOk I3 (Nat.le_refl _) I6.free
    exact ⟨m, hn, fun h' sb => ⟨.ref D, H5, Inv.turned I7 (fun b o hb e => (sb.2 b hb).trans e) a0 a1 a3 a4 a5, rfl, q6⟩⟩
/-- {k: v for a in xs for b in ys} -/
theorem pe_dcD {X : Cx} {kx vx tg iter tg1 iter1 : Expr} {ifs ifs1 : List Expr} {scope : Scope} {own : List (Str × Nat)} {vs1 : List Nat} {pos : Pos} {wi wi1 : TI} {g g1 : TG} {tt tt1 : TT} {tk tv : TE}
    (hc : X.calm = true) (hu : X.A.units < cLine) (hN : X.N.Nodup) (hi : PI X tg iter wi) (ok : BlkOk X.N X.env.scope scope own) (hv1 : ∀ i ∈ vs1, i ∈ List.map (fun x : Str × Nat => x.2) own)
    (hg : ∀ (s : Shared) (H : Hp) (C : Addr) (cl : List (Str × Addr)) (fp : List Addr), PG (X.blk s H scope (compEnvC scope cl C X.env) fp) tg g)
    (ht : ∀ (s : Shared) (H : Hp) (C : Addr) (cl : List (Str × Addr)) (fp : List Addr), PTs (X.blk s H scope (compEnvC scope cl C X.env) fp) ifs tt)
    (hi1 : ∀ (s : Shared) (H : Hp) (C : Addr) (cl : List (Str × Addr)) (fp : List Addr), PI (X.blk s H scope (compEnvC scope cl C X.env) fp) tg1 iter1 wi1)
    (hg1 : ∀ (s : Shared) (H : Hp) (C : Addr) (cl : List (Str × Addr)) (fp : List Addr), PG (X.blk s H scope (compEnvC scope cl C X.env) fp) tg1 g1)
    (ht1 : ∀ (s : Shared) (H : Hp) (C : Addr) (cl : List (Str × Addr)) (fp : List Addr), PTs (X.blk s H scope (compEnvC scope cl C X.env) fp) ifs1 tt1)
    (hk : ∀ (s : Shared) (H : Hp) (C : Addr) (cl : List (Str × Addr)) (fp : List Addr), PE (X.blk s H scope (compEnvC scope cl C X.env) fp) kx tk)
    (hv : ∀ (s : Shared) (H : Hp) (C : Addr) (cl : List (Str × Addr)) (fp : List Addr), PE (X.blk s H scope (compEnvC scope cl C X.env) fp) vx tv)
    (hs : ∀ x, foldedSetIterable iter X.env x = pure x := by intro _; rfl) (hs1 : ∀ env x, foldedSetIterable iter1 env x = pure x := by intro _ _; rfl) :
    PE X (.DictComp kx vx [⟨tg, iter, ifs, 0⟩, ⟨tg1, iter1, ifs1, 0⟩] scope pos) (tDcG wi g tt (fun D => tIn wi1 g1 tt1 vs1 (tEmD tk tv D)) (own.map (·.2))) := by
  refine pe_dcG (em := fun acc env => emI (.DictComp kx vx [⟨tg, iter, ifs, 0⟩, ⟨tg1, iter1, ifs1, 0⟩] scope pos) 1 iter1 acc env) hc hN hi ok hg ht (fun s H C cl fp D => ?_) (fun _ _ _ => rfl) hs
  refine runs_in (Y := X.blk s H scope (compEnvC scope cl C X.env) fp) (gc := ⟨tg1, iter1, ifs1, 0⟩) hc rfl hv1 (hi1 s H C cl fp) (hg1 s H C cl fp) (ht1 s H C cl fp) (em := fun k => emD kx vx (.ref D) (compEnvC scope cl C X.env) k) ?_ (hs1 _) (fun _ => rfl) (fun _ => rfl) (fun _ => rfl) (fun _ => rfl) (fun _ => rfl) rfl rfl (fun _ => rfl)
  exact runs_put (Y := X.blk s H scope (compEnvC scope cl C X.env) fp) hu rfl vs1 (hk s H C cl fp) (hv s H C cl fp)
/-! ### sorted of any alike data -/
theorem each_zip {R : Value → V × PyData → Prop} : ∀ {xs : List V} {us : List Value} {ds : List PyData}, Vals xs us → xs.length = ds.length → (∀ x u d, (x, d) ∈ xs.zip ds → RelV x u → R u (x, d)) → W.EachIs R us (xs.zip ds)
  | [], _, [], .nil, _, _ => .nil
  | x :: xs, _, d :: ds, .cons r rs, h, g => .cons (g x _ d List.mem_cons_self r) (each_zip rs (by simpa using h) fun y u e m => g y u e (List.mem_cons_of_mem _ m))
theorem vals_each : ∀ {us : List Value} {bs : List (V × PyData)}, W.EachIs (fun u (b : V × PyData) => RelV b.1 u) us bs → Vals (bs.map (·.1)) us
  | [], [], .nil => .nil
  | _ :: _, _ :: _, .cons r rs => .cons r (vals_each rs)
def srtD (xs : List V) (ds : List PyData) : List (V × PyData) := (xs.zip ds).mergeSort (W.dataLe false fun b => b.2)
theorem dpAll_len {K : PySem.W.Frag} {H : Hp} : ∀ {xs : List V} {ds : List PyData}, DpAll K H xs ds → xs.length = ds.length
  | [], [], _ => rfl
  | x :: xs, [], h => by cases h
  | [], d :: ds, h => by cases h
  | x :: xs, d :: ds, h => by
    cases h with
    | cons a b => rw [List.length_cons, List.length_cons, dpAll_len b]
theorem dpAll_zip {K : PySem.W.Frag} {H : Hp} : ∀ {xs : List V} {ds : List PyData}, DpAll K H xs ds → ∀ x d, (x, d) ∈ xs.zip ds → Dp K H x d
  | [], _, _, x, d, m => by cases m
  | x :: xs, [], h, y, e, m => by cases m
  | x :: xs, d :: ds, h, y, e, m => by
    cases h with
    | cons a b =>
      rcases List.mem_cons.mp m with m | m
      · injection m with m1 m2
        rw [m1, m2]
        exact a
      · exact dpAll_zip b y e m
theorem dpAll_of {K : PySem.W.Frag} {H : Hp} : ∀ {bs : List (V × PyData)}, (∀ b ∈ bs, Dp K H b.1 b.2) → DpAll K H (bs.map (·.1)) (bs.map (·.2))
  | [], _ => .nil
  | b :: bs, h => .cons (h b List.mem_cons_self) (dpAll_of fun c m => h c (List.mem_cons_of_mem _ m))
theorem srtD_dp {K : PySem.W.Frag} {H : Hp} {xs : List V} {ds : List PyData} (h : DpAll K H xs ds) : DpAll K H ((srtD xs ds).map (·.1)) ((srtD xs ds).map (·.2)) :=
  dpAll_of fun b m => dpAll_zip h b.1 b.2 ((List.mergeSort_perm _ _).mem_iff.mp m)
theorem srtD_data {xs : List V} {ds : List PyData} (h : xs.length = ds.length) : (srtD xs ds).map (·.2) = ds.mergeSort (W.dataLe false id) := by
  unfold srtD
  have e := List.map_mergeSort (r := W.dataLe false fun b : V × PyData => b.2) (s := W.dataLe false id) (f := fun b : V × PyData => b.2) (l := xs.zip ds) (fun a _ b _ => rfl)
  have z : (xs.zip ds).map (fun b : V × PyData => b.2) = ds := by
    show (xs.zip ds).map Prod.snd = ds
    rw [List.map_snd_zip]
    omega
  rw [z] at e
  exact e
section
variable {X : Cx}
theorem cr_sortedD (hu : X.A.units + 64 < cLine) : CallR X (.builtin "sorted") (fun us H Q => ∃ (a : Addr) (xs : List V) (ds : List PyData), us = [.ref a] ∧ SqL X.K H a xs ∧ DpAll X.K H xs ds ∧ W.AllAlike ds ∧ W.Sortable ds ∧ (∀ d ∈ ds, d.depth ≤ 60) ∧
    ∀ p, H p = none → Q (.ref p) (upd H p (.lst ((srtD xs ds).map (·.1))))) := by
  intro pins s σ H vs us Q I r h
  obtain ⟨a, xs, ds, rfl, hs, dp, al, so, dep, q⟩ := h
  obtain ⟨its, rv, hl, hz⟩ := I.list hs
  rw [Vals.ref1 r]
  have len := dpAll_len dp
  have lz : (xs.zip ds).map (·.2) = ds := by
    rw [List.map_snd_zip]
    omega
  have lb : (xs.zip ds).length = xs.length := by rw [List.length_zip, len, Nat.min_self]
  refine W.sorted_data (R := fun u (b : V × PyData) => RelV b.1 u) (enc := fun b : V × PyData => b.2) (bs := xs.zip ds) hl.isList (each_zip rv len fun _ _ _ _ r => r) (each_zip rv len fun x u d m r => Dp.reads I d x u (dpAll_zip dp x d m) r) (by rw [lz]; exact al) (by rw [lz]; exact so) (by rw [lb]; exact hz) (fun b m => ?_) fun out ho eo => ?_
  · have := dep b.2 (by rw [← lz]; exact List.mem_map.mpr ⟨b, m, rfl⟩)
    omega
  · obtain ⟨ep, he'⟩ := PyProof.Rows.sortedAll_at s.heap its (List.toArray out)
    have vo := vals_each eo
    exact ⟨.ref _, upd H (s.heap.objs.size + 1) (.lst ((srtD xs ds).map (·.1))), I.laid (t' := s.toks) (fun _ _ => PyProof.Rows.sortedAll_old) (Nat.le_succ _) ⟨by
      have hl2 : (srtD xs ds).length = xs.length := by unfold srtD; rw [List.length_mergeSort, lb]
      rw [List.length_map, hl2]
      exact hz, out, ep, vo, he'⟩, rfl, q _ (I.hok.fresh (Nat.le_succ _))⟩
/-! ### math.comb -/
theorem cr_comb : CallR X (.builtin "math.comb") (fun vs H Q => ∃ a b : Nat, vs = [.int (a : Int), .int (b : Int)] ∧ a ≤ 1000 ∧ b ≤ a ∧ ∀ c : Nat, 0 < c → Q (.int (c : Int)) H) := by
  intro pins s σ H vs us Q I r h
  obtain ⟨a, b, rfl, ha, hb, q⟩ := h
  obtain ⟨t, u, rfl⟩ := Vals.int2 r
  refine PySem.W.mc_comb (by omega) (by omega) (by omega) (.inl (by omega)) fun m => ?_
  obtain ⟨m1, m2, _⟩ := m
  have m2 := m2 (by omega)
  obtain ⟨c, ec⟩ := Int.eq_ofNat_of_zero_le m1
  have c0 : 0 < c := by omega
  refine ⟨.int _, H, I.tok _, ⟨_, rfl⟩, ?_⟩
  rw [ec]
  exact q c c0
end
end Vx
namespace Vx
open PySem PySem.Spec PyProof.Rows L2
/-! ### enumerate(s), s a text -/
def IteS (x : Str) : It :=
  ⟨fun i _ => i < x.cps.size, fun i H v H' => ∃ T c, v = .ref T ∧ H T = none ∧ x.cps[i]? = some c ∧ H' = upd H T (.tup [.int (i : Nat), .str ⟨#[c]⟩]), fun i _ => x.cps.size = i⟩
theorem turn_enumS {P : Program} {w : World} {K : PySem.W.Frag} {elts : List Expr} {kk : Nat} {tpos : Pos} (x : Str) (t : Tok) (e it : Addr) :
    Turn P w K (.Tuple elts kk tpos) (IteS x) [e, it] e (fun i h => (∃ old, IsEnum h e it ((i : Nat) : Int) old) ∧ h.IsStrIter it (strIterType x) x t i ∧ e ≠ it) where
  mem := by simp
  obj := fun i h st b hb => by
    obtain ⟨⟨old, he⟩, ⟨o, ho, hc, hd⟩, _⟩ := st
    have e' : b = e ∨ b = it := by simpa using hb
    rcases e' with z | z
    · rw [z]; exact ⟨_, he, fun v q => nomatch q⟩
    · rw [z]; exact ⟨o, ho, fun v q => by rw [hd] at q; cases q⟩
  keep := fun i h h' st k => let ⟨⟨old, he⟩, ⟨o, ho, r⟩, hne⟩ := st; ⟨⟨old, k e (by simp) _ he⟩, ⟨o, k it (by simp) o ho, r⟩, hne⟩
  item := by
    intro X hP hw hK hc i pins s σ H E I hf st hg
    subst hP hw hK
    obtain ⟨⟨old, he⟩, hit, hne⟩ := st
    have hel : e < s.heap.objs.size := Heap.lt_size he
    have hil : it < s.heap.objs.size := by obtain ⟨_, q, _⟩ := hit; exact Heap.lt_size q
    have D := Draws.text (prog := X.prog) (w := X.w) (A := X.A.in1) (I.ok.hd hc) it x t
    refine wpAny_pyNext_enum_itemC D he hit hg hne (by simp; exact hne) fun x' h' tk hx' ho hit' hT hsz hk => ?_
    obtain ⟨c, u, hcx, rfl⟩ := hx'
    have ru : RelV (.str ⟨#[c]⟩) (Value.str ⟨#[c]⟩ u) := ⟨u, rfl⟩
    refine ⟨_, rfl, wpAny_letOwnedTupleGo_enum (s := { s with heap := h', toks := tk + 1 }) ho fun h'' he' sb => ?_⟩
    have hT2 := (sb.2 _ (Nat.ne_of_gt hel)).trans hT
    have new : ObjOk X.prog X.w (upd H s.heap.objs.size (.tup [.int (i : Nat), .str ⟨#[c]⟩])) h'' s.heap.objs.size (.tup [.int (i : Nat), .str ⟨#[c]⟩]) :=
      ⟨by show 2 ≤ sizeLine; decide, [.int i tk, .str ⟨#[c]⟩ u], .cons ⟨_, rfl⟩ (.cons ru .nil), ⟨_, hT2, rfl, _, rfl⟩⟩
    have I1 : Inv X pins σ (upd H s.heap.objs.size (.tup [.int (i : Nat), .str ⟨#[c]⟩])) { s with heap := h'', toks := tk + 1 } :=
      I.turnedNew (ch := [e, it]) (fun b ob hb q => (sb.2 b (fun z => hb (by simp [z]))).trans (hk b ob (fun z => hb (by simp [z])) (fun z => hb (by simp [z])) q)) hf (Nat.le_refl _) new
    refine ⟨.ref s.heap.objs.size, _, I1, rfl, ⟨_, c, rfl, I.hok.fresh (Nat.le_refl _), hcx, rfl⟩, ⟨⟨.str ⟨#[c]⟩ u, ?_⟩, ?_, hne⟩, fun b hb => ?_⟩
    · have e1 : ((i + 1 : Nat) : Int) = (i : Int) + 1 := by omega
      rw [e1]; exact he'
    · obtain ⟨o, ho2, r⟩ := hit'
      exact ⟨o, (sb.2 it (Ne.symm hne)).trans ho2, r⟩
    · have hb' : b < s.heap.objs.size := by
        have e' : b = e ∨ b = it := by simpa using hb
        rcases e' with z | z
        · rw [z]; exact hel
        · rw [z]; exact hil
      rw [upd_ne (Nat.ne_of_lt hb')]
      exact (hf b hb).1
  done := by
    intro X hP hw hK hc i pins s σ H E I hf st hg
    subst hP hw hK
    obtain ⟨⟨old, he⟩, hit, hne⟩ := st
    obtain ⟨f0, f1, f2, f3, f4, f5⟩ := hf it (by simp)
    have D := Draws.text (prog := X.prog) (w := X.w) (A := X.A.in1) (I.ok.hd hc) it x t
    subst hg
    refine wpAny_pyNext_enum_endD D he hit fun h' eb => ⟨rfl, I.turned (t' := s.toks) (fun b o hb q => eb b o hb q) f0 f1 f3 f4 f5⟩
  self := fun A i s Q E st h => let ⟨⟨_, he⟩, _⟩ := st; wpAny_pyIter_enum he h
def iEnumS (ta : TA) : TI := fun σ H R => ta σ H fun vs H1 => ∃ x, vs = [.str x] ∧ R (IteS x) H1
theorem pi_enumS {X : Cx} {e : Expr} {ta : TA} {p pos tpos : Pos} {elts : List Expr} {kk : Nat} (hg : Gl X "enumerate") (hm : X.mg "enumerate" = none) (ha : PA X [e] ta) (hs : starEach [e] X.env = [(false, eval e X.env)] := by rfl) :
    PI X (.Tuple elts kk tpos) (.Call (.Name "enumerate" p) [e] [] pos) (iEnumS ta) := by
  refine ⟨fun pins s σ H R I h => ?_⟩
  refine Call_ (ld_blt I hg hm boot_enumerate (PyProof.Rows.callWith_type1 (thn (ha.run pos pins s σ H _ I h) fun us s1 ⟨vs, H1, I1, r1, q1⟩ => ?_) hs rfl))
  obtain ⟨x, ex, q⟩ := q1
  subst ex
  cases r1 with
  | cons r rr =>
    cases rr
    obtain ⟨t, rfl⟩ := r
    refine call_enumerate1 (begins_text x t) trivial fun h' he hit hsz hk => wpAny_pyIter_enum he ?_
    have I2 : Inv X pins σ H1 { s1 with heap := h' } := I1.kept (t' := s1.toks) hk
    refine ⟨s1.heap.objs.size + 1, [s1.heap.objs.size + 1, s1.heap.objs.size], _, _, H1, rfl, I2, turn_enumS x t (s1.heap.objs.size + 1) s1.heap.objs.size, ⟨⟨.none, he⟩, ⟨_, hit, rfl, rfl⟩, Nat.succ_ne_self _⟩, fun b hb => ?_, q⟩
    have e' : b = s1.heap.objs.size + 1 ∨ b = s1.heap.objs.size := by simpa using hb
    have hle : s1.heap.objs.size ≤ b := by
      rcases e' with z | z
      · rw [z]; exact Nat.le_add_right _ _
      · rw [z]; exact Nat.le_refl _
    exact I1.fpOk hle (I1.hok.fresh hle)
theorem turns_enumS {x : Str} {g : TG} {tt : TT} {vs : List Nat} {EM : EMT} {σ : L2.St} {H0 : Hp} {Qe : Hp → Prop} (Z : Nat → Hp → Prop) (z0 : Z 0 H0)
    (step : ∀ (i : Nat) (c : Nat) (H : Hp) (T : Addr), x.cps[i]? = some c → Z i H → H T = none → g (.ref T) (wipe σ vs) (upd H T (.tup [.int (i : Nat), .str ⟨#[c]⟩])) fun σ2 H2 => wipe σ2 vs = wipe σ vs ∧ tt σ2 H2 fun b H3 => if b = true then EM σ2 H3 (Z (i + 1)) else Z (i + 1) H3)
    (done : ∀ H, Z x.cps.size H → Qe H) : ∃ W, (∃ m, W 0 m H0) ∧ tTurns (IteS x) g tt vs EM σ Qe W := by
  refine ⟨fun i m H => i ≤ x.cps.size ∧ m = x.cps.size - i ∧ Z i H, ⟨_, Nat.zero_le _, rfl, z0⟩, ?_⟩
  rintro i m H ⟨le, rfl, z⟩
  by_cases e : i = x.cps.size
  · exact .inl ⟨e.symm, done H (e ▸ z)⟩
  · have lt : i < x.cps.size := by omega
    refine .inr ⟨lt, Z (i + 1), fun H' z' => ⟨x.cps.size - (i + 1), by omega, by omega, rfl, z'⟩, ?_⟩
    rintro v H' ⟨T, c, rfl, hT, hc, rfl⟩
    exact step i c H T hc z hT
theorem turns_enum {K : PySem.W.Frag} {a : Addr} {xs : List V} {g : TG} {tt : TT} {vs : List Nat} {EM : EMT} {σ : L2.St} {H0 : Hp} {Qe : Hp → Prop} (Z : Nat → Hp → Prop) (z0 : Z 0 H0) (keep : ∀ (i : Nat) (H : Hp), i ≤ xs.length → Z i H → SqL K H a xs)
    (step : ∀ (i : Nat) (x : V) (H : Hp) (T : Addr), xs[i]? = some x → Z i H → H T = none → g (.ref T) (wipe σ vs) (upd H T (.tup [.int (i : Nat), x])) fun σ2 H2 => wipe σ2 vs = wipe σ vs ∧ tt σ2 H2 fun b H3 => if b = true then EM σ2 H3 (Z (i + 1)) else Z (i + 1) H3)
    (done : ∀ H, Z xs.length H → Qe H) : ∃ W, (∃ m, W 0 m H0) ∧ tTurns (Ite K a) g tt vs EM σ Qe W := by
  refine ⟨fun i m H => i ≤ xs.length ∧ m = xs.length - i ∧ Z i H, ⟨_, Nat.zero_le _, rfl, z0⟩, ?_⟩
  rintro i m H ⟨le, rfl, z⟩
  by_cases e : i = xs.length
  · subst e
    exact .inl ⟨walk_enum.stops H (keep _ H le z), done H z⟩
  · have lt : i < xs.length := by omega
    refine .inr ⟨walk_enum.goes i H lt (keep i H le z), Z (i + 1), fun H' z' => ⟨xs.length - (i + 1), by omega, by omega, rfl, z'⟩, ?_⟩
    intro v H' y
    obtain ⟨T, u, x, rfl, hT, rfl, hu, hx⟩ := walk_enum.yields i H v H' lt (keep i H le z) y
    obtain rfl := Option.some.inj hu
    exact step i x H T hx z hT
/-- a dict that an expression gives, kept as it is from then on -/
theorem pe_frz {X : Cx} {e : Expr} {t : TE} (h : PE X e t) : PE X e (fun σ H Q => t σ H fun x H1 => ∃ (d : Addr) (kvs : List (List L2.Key × V)), x = .ref d ∧ H1 d = some (.dT kvs) ∧ ∀ od, Q x (upd H1 d (.frz od (.dT kvs)))) := by
  refine ⟨fun pins s σ H Q I hw => ?_⟩
  refine thn (h.run pins s σ H _ I hw) fun v s1 ⟨x, H1, I1, r, d, kvs, ex, hd, q⟩ => ?_
  obtain ⟨od, I2⟩ := I1.lock hd trivial
  exact ⟨x, _, I2, r, q od⟩
/-! ### lists of True, False and None -/
def nv : Option Bool → V
  | none => .non
  | some b => .bl b
def nd : Option Bool → PyData
  | none => .none
  | some b => .bool b
theorem dpAll_nv {K : PySem.W.Frag} {H : Hp} : ∀ os : List (Option Bool), DpAll K H (os.map nv) (os.map nd)
  | [] => .nil
  | none :: os => .cons .non (dpAll_nv os)
  | some b :: os => .cons (.bl b) (dpAll_nv os)
theorem eqv_nd (a b : Option Bool) : PyData.eqv (nd a) (nd b) = decide (a = b) := by
  cases a <;> cases b <;> simp [nd, PyData.eqv]
  rename_i x y
  cases x <;> cases y <;> rfl
theorem count_nd (o : Option Bool) : ∀ os : List (Option Bool), (os.map nd).countP (fun y => PyData.eqv y (nd o)) = os.count o
  | [] => rfl
  | x :: os => by
    rw [List.map_cons, List.countP_cons, List.count_cons, count_nd o os, eqv_nd]
    by_cases e : x = o
    · simp [e]
    · simp [e]
theorem plainAll_nd : ∀ os : List (Option Bool), PyData.plainAll (os.map nd) = true
  | [] => by simp [PyData.plainAll]
  | x :: os => by
    rw [List.map_cons]
    cases x <;> simp [PyData.plainAll, PyData.plain, nd, plainAll_nd os]
theorem depAll_nd : ∀ os : List (Option Bool), PyData.depthAll (os.map nd) = 0
  | [] => by simp [PyData.depthAll]
  | x :: os => by
    rw [List.map_cons]
    cases x <;> simp [PyData.depthAll, PyData.depth, nd, depAll_nd os]
theorem mt_countO {X : Cx} (hu : X.A.units + 65 < cLine) : MtR X "list.count" (fun x xs H Q => ∃ (a : Addr) (o : Option Bool) (os : List (Option Bool)), x = .ref a ∧ xs = [nv o] ∧ SqL X.K H a (os.map nv) ∧ Q (.int (os.count o : Nat)) H) := by
  intro pins s σ H x xs v us Q I rx rxs h
  obtain ⟨a, o, os, rfl, rfl, hl, q⟩ := h
  cases rx
  obtain ⟨u, rfl, ru⟩ := rxs.one
  have dpo : Dp X.K H (nv o) (nd o) := by
    cases o with
    | none => exact .non
    | some b => exact .bl b
  obtain ⟨as, r1⟩ := Dp.reads I (nd o) (nv o) u dpo ru
  obtain ⟨its, rv, pl, hz⟩ := I.list hl
  obtain ⟨bs, hr⟩ := Dp.readsAll I _ _ its (dpAll_nv os) rv
  refine SeqAt.count_list_data pl.isList hr r1 (plainAll_nd os) (by cases o <;> simp [nd, PyData.plain]) (by rw [depAll_nd]; omega) ?_
  rw [count_nd]
  exact ⟨.int (os.count o : Nat), H, I.tok _, ⟨_, rfl⟩, q⟩
end Vx
/-! sorted(d.items()), the keys texts, the values ints -/
namespace Vx
open PySem PySem.Spec PyProof.Rows L2 LiI
/-- what such a pair reads as -/
def itD (p : L2.Key × V) : PyData :=
  match kV p.1, p.2 with
  | .str s, .int n => .tuple [.str s, .int n]
  | _, _ => .none
theorem each_refs : ∀ {as : List Addr} {kvs : List (L2.Key × V)}, as.length = kvs.length → W.EachIs (fun v (b : Addr × L2.Key × V) => v = Value.ref b.1) (as.map Value.ref) (as.zip kvs)
  | [], [], _ => .nil
  | a :: as, p :: kvs, h => .cons rfl (each_refs (by simpa using h))
theorem each_reads {h : Heap} : ∀ {as : List Addr} {kvs : List (L2.Key × V)}, as.length = kvs.length → (∀ a p, (a, p) ∈ as.zip kvs → ∃ xs, Reads h (.ref a) (itD p) xs) → W.EachIs (fun v (b : Addr × L2.Key × V) => ∃ xs, Reads h v (itD b.2) xs) (as.map Value.ref) (as.zip kvs)
  | [], [], _, _ => .nil
  | a :: as, p :: kvs, h, g => .cons (g a p List.mem_cons_self) (each_reads (by simpa using h) fun b q m => g b q (List.mem_cons_of_mem _ m))
theorem each_vals : ∀ {us : List Value} {bs : List (Addr × L2.Key × V)}, W.EachIs (fun v (b : Addr × L2.Key × V) => v = Value.ref b.1) us bs → Vals (bs.map fun b => V.ref b.1) us
  | [], [], .nil => .nil
  | _ :: _, _ :: _, .cons r rs => .cons r (each_vals rs)
theorem paired_zip {F : Addr → L2.Key × V → Prop} : ∀ {as : List Addr} {kvs : List (L2.Key × V)}, Paired F as kvs → ∀ b ∈ as.zip kvs, F b.1 b.2
  | _, _, .nil, b, m => by cases m
  | _, _, .cons h t, b, m => by
    rcases List.mem_cons.mp m with m | m
    · rw [m]
      exact h
    · exact paired_zip t b m
theorem itD_of {p : L2.Key × V} (h : ∃ s n, kV p.1 = .str s ∧ p.2 = .int n) : ∃ s n, kV p.1 = .str s ∧ p.2 = .int n ∧ itD p = .tuple [.str s, .int n] := by
  obtain ⟨s, n, e1, e2⟩ := h
  refine ⟨s, n, e1, e2, ?_⟩
  unfold itD
  rw [e1, e2]
section
variable {X : Cx}
/-- the pairs laid, each at its address -/
theorem pairs_laid {pins : List (Addr × Obj)} {σ : L2.St} {H : Hp} {s : Shared} {h' : Heap} {tk : Nat} {kvs : List (L2.Key × V)} {vs : List (L2.Key × Value)} {as : List Addr} (I : L2.Inv X pins σ H s) (kv : KV kvs vs)
    (hk : ∀ b o, s.heap.get? b = some o → h'.get? b = some o) (hl : as.length = vs.length) (hG : PySem.W.KdxG (mixKind X.prog X.w) vs s.heap.objs.size h' as) :
    Same H (putT H as kvs) ∧ (∀ t ∈ as, H t = none) ∧ Paired (fun (t : Addr) (q : L2.Key × V) => putT H as kvs t = some (.tup [kV q.1, q.2])) as kvs ∧ L2.Inv X pins σ (putT H as kvs) { s with heap := h', toks := tk } := by
  have lk : kvs.length = vs.length := Paired.length kv
  have nd : as.Nodup := List.Pairwise.imp (fun {a b} (h : a < b) => Nat.ne_of_lt h) hG.rise
  have new : ∀ t ∈ as, H t = none := fun t ht => I.hok.fresh (Nat.le_of_lt (hG.above t ht))
  have atP := putT_at as kvs H (by omega) nd
  have low : ∀ b o, s.heap.get? b = some o → b ∉ as := fun b o e z => absurd (Heap.lt_size e) (Nat.not_lt.mpr (Nat.le_of_lt (hG.above b z)))
  have kp : Same H (putT H as kvs) := fun b u e => by
    rw [putT_off as kvs _ fun z => by rw [new b z] at e; cases e]
    exact e
  refine ⟨kp, new, atP, ?_⟩
  refine I.call' (ch := []) rfl ⟨fun b o q _ _ _ => hk b o q, fun b o q _ _ _ => ⟨o.slots, hk b o q⟩, fun b o q n _ => ?_, fun b o q _ => ⟨o, hk b o q⟩, fun b xs q => kp b _ q, fun b o u q => kp b _ q, fun b ps q => ⟨#[], by rw [kp b _ q]; simp⟩⟩ (fun b u q => ?_) I.bare fun b z => by simp at z
  · rw [putT_off as kvs _ (low b o q)]
    exact n
  · by_cases hb : b ∈ as
    · obtain ⟨j, pk, e1, e2, e3⟩ := paired_ix atP hb
      rw [e3] at q
      cases q
      obtain ⟨key, k, x, f1, f2, f3⟩ := hG.pairs j b e1
      obtain ⟨qv, g1, g2, g3⟩ := LiI.paired_get kv e2
      rw [f1] at g1
      cases g1
      have rk : RelV (kV pk.1) key := by
        rw [g2]
        exact relV_key (show keyIs k key = true from f2)
      exact ⟨by show 2 ≤ sizeLine; decide, [key, x], .cons rk (.cons g3 .nil), ⟨_, f3, rfl, _, rfl⟩⟩
    · rw [putT_off as kvs _ hb] at q
      exact (I.hok b u q).stay (fun d v _ y => hk d v y) (fun d y => kp d _ y) fun d xs y => kp d _ y
def rItemsS : V → Hp → VK → Prop := fun x H Q => ∃ (d : Addr) (kvs : List (L2.Key × V)), x = .ref d ∧ H d = some (.dK kvs) ∧ (∀ p ∈ kvs, ∃ s n, kV p.1 = .str s ∧ p.2 = .int n) ∧
  ∀ (H' : Hp) (B : Addr) (bs : List (Addr × L2.Key × V)), Same H H' → H B = none → H' B = some (.lst (bs.map fun b => V.ref b.1)) → (∀ b ∈ bs, H' b.1 = some (.tup [kV b.2.1, b.2.2])) → bs.map (·.2) = kvs.mergeSort (W.dataLe false itD) → Q (.ref B) H'
def tSortedItems (te : TE) : TE := fun σ H Q => te σ H fun x H1 => rItemsS x H1 Q
theorem pe_sortedItems {e : Expr} {te : TE} {p apos cpos pos : Pos} (hc : X.calm = true) (hu : X.A.units + 8 < cLine) (he : PE X e te) (hg : Gl X "sorted") (hm : X.mg "sorted" = none) (hv : bootBuiltins "sorted" = some (.builtin "sorted")) (hbase : attributeBase e "items" X.env (eval e X.env) = eval e X.env := by rfl) (hline : (apos.endLine == cpos.line) = true := by rfl)
    (hs : starEach [.Call (.Attribute e "items" apos) [] [] cpos] X.env = (false, eval (.Call (.Attribute e "items" apos) [] [] cpos) X.env) :: starEach [] X.env := by rfl) :
    PE X (.Call (.Name "sorted" p) [.Call (.Attribute e "items" apos) [] [] cpos] [] pos) (tSortedItems te) := by
  refine ⟨fun pins s σ H Q I hq => ?_⟩
  refine wpAny_Call_Name_kw (ld_blt I hg hm hv ?_)
  refine PyProof.Rows.callWith_builtin1 ?_ hs rfl
  rw [hs]
  show wpAny _ _ (spliced ((false, eval (.Call (.Attribute e "items" apos) [] [] cpos) X.env) :: backTo pos (starEach [] X.env))) _ _ s
  refine Calls.spliced_cons ?_
  refine wpAny_Call_method (T := "dict") (id := "dict.items") hbase rfl hline F.plainAttrs_dict F.slot_dict_items F.type_dict_items (thn (he.run pins s σ H _ I hq) fun u s1 ⟨x, H1, I1, rx, d, kvs, ex, hd, hkv, q⟩ => ?_)
  subst ex
  obtain rfl : u = Value.ref d := rx
  obtain ⟨hz, hs0, vs, kv, hdo⟩ := I1.hok d _ hd
  obtain ⟨ep, hat⟩ := hdo.dictAt
  have lk : kvs.length = vs.length := Paired.length kv
  have I2 : L2.Inv X pins σ H1 { s1 with heap := s1.heap.push { cls := .type "dict_items", data := .fields #[.ref d] } } := I1.kept (t' := s1.toks) fun b ob q => Heap.get?_push_of_some _ q
  refine ⟨hdo.typeIs, hdo.mapOf.noDict, ?_⟩
  show wpAny _ _ (callWith cpos (.builtin "dict.items") [.ref d] [] []) _ X.xe s1
  refine method_meetsIn F.slot_dict_items F.entry_dict_items rfl (PySem.evalArgs_none ⟨rfl, hdo.typeIs, F.args_dict_items_1 _, _, meets_dict_items (mixKind X.prog X.w) d hs0, ⟨vs, hdo⟩, ?_⟩)
  refine Calls.spliced_nil ?_
  refine Calls.call_function_entry kind_sorted plain_sorted entry_sorted (args_sorted1 _) ?_
  unfold Builtin.«sorted»
  refine wpAny_bind (m := checkCount "sorted" 1 1 _) (wpAny_pure ?_)
  refine wpAny_bind (W.kdx_collect (A := X.A.in1) (knd := mixKind X.prog X.w) (kvs := vs) (ep := ep) (I1.ok.hd hc) ⟨_, Heap.get?_push_size _ rfl, rfl, rfl⟩ (hat.push _) (by omega) fun h' tk as hk hl hG => ?_)
  obtain ⟨kp, new, atP, I3⟩ := pairs_laid (tk := tk) I2 kv hk hl hG
  refine wpAny_bind (wpAny_newList ?_ (by rw [List.length_map, hl]; omega))
  refine wpAny_bind (wpAny_holding ?_)
  have lak : as.length = kvs.length := by omega
  obtain ⟨hh, ehh⟩ : ∃ hh, hh = h'.push { cls := .type "list", data := .seq (as.map Value.ref).toArray } := ⟨_, rfl⟩
  obtain ⟨hx, ehx⟩ : ∃ hx, hx = W.sortingHeap hh h'.objs.size (as.map Value.ref) := ⟨_, rfl⟩
  have old : ∀ b o, h'.get? b = some o → hx.get? b = some o := fun b o e => by
    rw [ehx]
    refine W.sortingHeap_old (Nat.ne_of_lt (Heap.lt_size e)) ?_
    rw [ehh]
    exact Heap.get?_push_of_some _ e
  have ho : hh.get? h'.objs.size = some (seqObj "list" (as.map Value.ref).toArray 0) := by
    rw [ehh]
    exact Heap.get?_push_size _ rfl
  have zkv : ∀ b ∈ as.zip kvs, ∃ s n, kV b.2.1 = .str s ∧ b.2.2 = .int n ∧ itD b.2 = .tuple [.str s, .int n] := fun b m => itD_of (hkv _ (List.of_mem_zip m).2)
  have er : W.EachIs (fun v (b : Addr × L2.Key × V) => ∃ xs, Reads hx v (itD b.2) xs) (as.map Value.ref) (as.zip kvs) := each_reads lak fun a p m => by
    obtain ⟨z, n, e1, e2, e3⟩ := zkv _ m
    have g := paired_zip atP _ m
    rw [e1, e2] at g
    obtain ⟨xs, r⟩ := Dp.reads I3 (.tuple [.str z, .int n]) (.ref a) (.ref a) (.tup (tup_of g) (.cons (.str z) (.cons (.int n) .nil))) rfl
    exact ⟨xs, by rw [e3]; exact PyProof.Rows.Reads.keeps old r⟩
  have e := each_refs lak
  have hal : W.AllAlike ((as.zip kvs).map fun b => itD b.2) := fun d m d' m' => by
    obtain ⟨b, mb, rfl⟩ := List.mem_map.mp m
    obtain ⟨b', mb', rfl⟩ := List.mem_map.mp m'
    obtain ⟨_, _, _, _, e3⟩ := zkv b mb
    obtain ⟨_, _, _, _, e3'⟩ := zkv b' mb'
    rw [e3, e3']
    rfl
  have hso : W.Sortable ((as.zip kvs).map fun b => itD b.2) := .inl fun d m => by
    obtain ⟨b, mb, rfl⟩ := List.mem_map.mp m
    obtain ⟨_, _, _, _, e3⟩ := zkv b mb
    exact ⟨_, _, e3⟩
  have lz : (as.zip kvs).length = kvs.length := by rw [List.length_zip, lak, Nat.min_self]
  have hdep : ∀ b ∈ as.zip kvs, X.A.in1.units + 1 + (itD b.2).depth < cLine := fun b m => by
    obtain ⟨_, _, _, _, e3⟩ := zkv b m
    rw [e3]
    show X.A.units + 1 + 1 + 1 < cLine
    omega
  rw [← ehh]
  refine wpAny_call_entry slot_list_sort ⟨_, ho, rfl⟩ entry_list_sort (W.list_sort_vals (κ := W.dataKind hx ((as.zip kvs).map fun b => itD b.2)) ho ?_ ?_ ⟨.none, rfl, ?_⟩) (args_list_sort _)
  · show W.SortsAt _ _ _ { s1 with heap := W.sortingHeap hh h'.objs.size (as.map Value.ref), toks := tk } _ _
    rw [← ehx]
    exact W.SortsAt.data (W.each_map (R := fun v d => ∃ xs, Reads hx v d xs) (fun b : Addr × L2.Key × V => itD b.2) er) hal hso (W.bound_map hdep)
  · rw [List.length_map, lak]
    exact hz
  · have eo := W.sortVals_data false e er hal
    have lo := W.sortVals_length (κ := W.dataKind hx ((as.zip kvs).map fun b => itD b.2)) false (rfl : (as.map Value.ref).length = (as.map Value.ref).length)
    obtain ⟨out, eout⟩ : ∃ out, out = W.sortVals (W.dataKind hx ((as.zip kvs).map fun b => itD b.2)) false (as.map Value.ref) (as.map Value.ref) := ⟨_, rfl⟩
    rw [← eout] at eo lo ⊢
    obtain ⟨bs, ebs⟩ : ∃ bs, bs = (as.zip kvs).mergeSort (W.dataLe false fun b : Addr × L2.Key × V => itD b.2) := ⟨_, rfl⟩
    rw [← ebs] at eo
    obtain ⟨ep2, hat2⟩ := sortedHeap_at (vs := as.map Value.ref) (out := out.toArray) ho
    have nB : putT H1 as kvs h'.objs.size = none := I3.hok.fresh (Nat.le_refl _)
    have lbs : bs.length = kvs.length := by rw [ebs, List.length_mergeSort, lz]
    have keep : ∀ b o, h'.get? b = some o → (sortedHeap hh h'.objs.size (as.map Value.ref) out.toArray).get? b = some o := fun b o e => by
      have lt := Heap.lt_size e
      rw [sortedHeap_old (Nat.ne_of_lt lt) (by rw [ehh, Heap.size_push]; exact Nat.lt_succ_of_lt lt), ehh]
      exact Heap.get?_push_of_some _ e
    have vo := each_vals eo
    have J := I3.laid (t' := tk) (h' := sortedHeap hh h'.objs.size (as.map Value.ref) out.toArray) (a := h'.objs.size) (o := .lst (bs.map fun b => V.ref b.1)) keep (Nat.le_refl _) ⟨by rw [List.length_map, lbs]; exact hz, out, ep2, vo, hat2⟩
    have mem : ∀ b ∈ bs, b ∈ as.zip kvs := fun b m => by
      rw [ebs] at m
      exact (List.mergeSort_perm _ _).mem_iff.mp m
    refine wpAny_pure ⟨_, rfl, .ref h'.objs.size, upd (putT H1 as kvs) h'.objs.size (.lst (bs.map fun b => V.ref b.1)), J, rfl, q _ _ bs (kp.trans (newS nB)) (Same.free kp nB) upd_same (fun b m => ?_) ?_⟩
    · have g := paired_zip atP b (mem b m)
      rw [upd_ne fun z => ?_]
      · exact g
      · rw [z, nB] at g
        cases g
    · rw [ebs]
      have em := List.map_mergeSort (r := W.dataLe false fun b : Addr × L2.Key × V => itD b.2) (s := W.dataLe false itD) (f := fun b : Addr × L2.Key × V => b.2) (l := as.zip kvs) (fun a _ b _ => rfl)
      rw [em]
      congr 1
      show (as.zip kvs).map Prod.snd = kvs
      rw [List.map_snd_zip]
      omega
/-- a < b, both lists of cells -/
theorem op_ltLP (hu : X.A.units + 65 < cLine) : OpR X (compareOp .Lt) (fun x y H Q => ∃ (a b : Addr) (ps qs : List Pr), x = .ref a ∧ y = .ref b ∧ Cells H a ps ∧ Cells H b qs ∧ Q (.bl (ltL ps qs)) H) := by
  intro pins s σ H x y v u Q I rx ry h
  obtain ⟨a, b, ps, qs, rfl, rfl, ha, hb, q⟩ := h
  obtain ⟨as, r1⟩ := Dp.reads I (lp ps) (.ref a) v (dp_cells ha) rx
  obtain ⟨bs, r2⟩ := Dp.reads I (lp qs) (.ref b) u (dp_cells hb) ry
  have d1 := depAll_pd ps
  refine W.lt_data r1 r2 (alike_lp ps qs) (by intro z; cases z) ?_ ⟨.bl (ltL ps qs), H, I, rfl, q⟩
  show X.A.units + min (lp ps).depth (lp qs).depth < cLine
  have : (lp ps).depth ≤ 2 := by
    show PyData.depthAll (ps.map pd) + 1 ≤ 2
    omega
  have := Nat.min_le_left (lp ps).depth (lp qs).depth
  omega
end
end Vx
namespace My
open PySem PySem.Spec PyProof.Rows L2 Vx
def topS (i : Nat) : Stmt := PySem.Challenge.pw_longlife_k23_censuses.main.body.getD i (.Pass ⟨0, 0, 0, 0⟩)
abbrev s_pattern : Stmt := topS 5
abbrev N_pattern : List Str := ["cells"]
theorem sc_pattern : FnScope N_pattern ["cells"] (defScope s_pattern) := ⟨rfl, rfl, rfl, by decide +kernel, rfl, by decide +kernel, by decide +kernel⟩
abbrev s_moved : Stmt := topS 6
abbrev N_moved : List Str := ["cells", "rows", "columns", "row", "column"]
theorem sc_moved : FnScope N_moved ["cells", "rows", "columns"] (defScope s_moved) := ⟨rfl, rfl, rfl, by decide +kernel, rfl, by decide +kernel, by decide +kernel⟩
abbrev s_turned : Stmt := topS 7
abbrev N_turned : List Str := ["cells", "row", "column"]
theorem sc_turned : FnScope N_turned ["cells"] (defScope s_turned) := ⟨rfl, rfl, rfl, by decide +kernel, rfl, by decide +kernel, by decide +kernel⟩
abbrev s_mirrored : Stmt := topS 8
abbrev N_mirrored : List Str := ["cells", "row", "column"]
theorem sc_mirrored : FnScope N_mirrored ["cells"] (defScope s_mirrored) := ⟨rfl, rfl, rfl, by decide +kernel, rfl, by decide +kernel, by decide +kernel⟩
abbrev s_home : Stmt := topS 9
abbrev N_home : List Str := ["cells", "least_row", "least_column", "row", "_", "column"]
theorem sc_home : FnScope N_home ["cells"] (defScope s_home) := ⟨rfl, rfl, rfl, by decide +kernel, rfl, by decide +kernel, by decide +kernel⟩
abbrev s_write_text : Stmt := topS 10
abbrev N_write_text : List Str := ["cells", "parts", "last_row", "end", "row", "column", "length"]
theorem sc_write_text : FnScope N_write_text ["cells"] (defScope s_write_text) := ⟨rfl, rfl, rfl, by decide +kernel, rfl, by decide +kernel, by decide +kernel⟩
abbrev s_runs : Stmt := topS 11
abbrev N_runs : List Str := ["living", "runs", "row", "column"]
theorem sc_runs : FnScope N_runs ["living"] (defScope s_runs) := ⟨rfl, rfl, rfl, by decide +kernel, rfl, by decide +kernel, by decide +kernel⟩
abbrev s_counted : Stmt := topS 12
abbrev N_counted : List Str := ["number", "sign"]
theorem sc_counted : FnScope N_counted ["number", "sign"] (defScope s_counted) := ⟨rfl, rfl, rfl, by decide +kernel, rfl, by decide +kernel, by decide +kernel⟩
abbrev s_images : Stmt := topS 16
abbrev N_images : List Str := ["cells"]
theorem sc_images : FnScope N_images ["cells"] (defScope s_images) := ⟨rfl, rfl, rfl, by decide +kernel, rfl, by decide +kernel, by decide +kernel⟩
abbrev s_turns : Stmt := topS 17
abbrev N_turns : List Str := ["cells", "found"]
theorem sc_turns : FnScope N_turns ["cells"] (defScope s_turns) := ⟨rfl, rfl, rfl, by decide +kernel, rfl, by decide +kernel, by decide +kernel⟩
abbrev s_homes : Stmt := topS 18
abbrev N_homes : List Str := ["cells", "image"]
theorem sc_homes : FnScope N_homes ["cells"] (defScope s_homes) := ⟨rfl, rfl, rfl, by decide +kernel, rfl, by decide +kernel, by decide +kernel⟩
abbrev s_least_form : Stmt := topS 19
abbrev N_least_form : List Str := ["cells"]
theorem sc_least_form : FnScope N_least_form ["cells"] (defScope s_least_form) := ⟨rfl, rfl, rfl, by decide +kernel, rfl, by decide +kernel, by decide +kernel⟩
abbrev s_islands : Stmt := topS 20
abbrev N_islands : List Str := ["cells", "living", "left", "found", "cell", "waiting", "island", "row", "column", "near", "down", "beside"]
theorem sc_islands : FnScope N_islands ["cells"] (defScope s_islands) := ⟨rfl, rfl, rfl, by decide +kernel, rfl, by decide +kernel, by decide +kernel⟩
abbrev s_census : Stmt := topS 21
abbrev N_census : List Str := ["cells", "numbers", "island", "text"]
theorem sc_census : FnScope N_census ["cells"] (defScope s_census) := ⟨rfl, rfl, rfl, by decide +kernel, rfl, by decide +kernel, by decide +kernel⟩
abbrev s_law_cell : Stmt := topS 23
abbrev N_law_cell : List Str := ["script", "k"]
theorem sc_law_cell : FnScope N_law_cell ["script", "k"] (defScope s_law_cell) := ⟨rfl, rfl, rfl, by decide +kernel, rfl, by decide +kernel, by decide +kernel⟩
abbrev s_law_row : Stmt := topS 24
abbrev N_law_row : List Str := ["cell", "count", "bound", "rest", "mixed", "row", "k"]
theorem sc_law_row : FnScope N_law_row ["cell", "count", "bound"] (defScope s_law_row) := ⟨rfl, rfl, rfl, by decide +kernel, rfl, by decide +kernel, by decide +kernel⟩
abbrev s_law_some : Stmt := topS 27
abbrev N_law_some : List Str := ["cell", "count", "height", "width", "x", "found", "y", "place"]
theorem sc_law_some : FnScope N_law_some ["cell", "count", "height", "width"] (defScope s_law_some) := ⟨rfl, rfl, rfl, by decide +kernel, rfl, by decide +kernel, by decide +kernel⟩
abbrev s_law_image : Stmt := topS 28
abbrev N_law_image : List Str := ["cells", "number", "found", "k", "r", "c"]
theorem sc_law_image : FnScope N_law_image ["cells", "number"] (defScope s_law_image) := ⟨rfl, rfl, rfl, by decide +kernel, rfl, by decide +kernel, by decide +kernel⟩
abbrev s_law : Stmt := topS 29
abbrev N_law : List Str := ["script", "forms", "cells", "k", "x", "form", "handed", "given", "texts", "part", "home_v", "number", "image", "top", "left", "moved_v", "due", "text", "told", "r", "c", "other", "one"]
theorem sc_law : FnScope N_law ["script"] (defScope s_law) := ⟨rfl, rfl, rfl, by decide +kernel, rfl, by decide +kernel, by decide +kernel⟩
structure Txt (K : PySem.W.Frag) (mg : Str → Option Value) where
  f_pattern : Addr
  d_pattern : FuncData
  F_pattern : Fun K "pattern" "pattern" s_pattern f_pattern d_pattern
  b_pattern : Binds K d_pattern ["cells"] []
  g_pattern : mg "pattern" = some (.ref f_pattern)
  f_moved : Addr
  d_moved : FuncData
  F_moved : Fun K "moved" "moved" s_moved f_moved d_moved
  b_moved : Binds K d_moved ["cells", "rows", "columns"] []
  g_moved : mg "moved" = some (.ref f_moved)
  f_turned : Addr
  d_turned : FuncData
  F_turned : Fun K "turned" "turned" s_turned f_turned d_turned
  b_turned : Binds K d_turned ["cells"] []
  g_turned : mg "turned" = some (.ref f_turned)
  f_mirrored : Addr
  d_mirrored : FuncData
  F_mirrored : Fun K "mirrored" "mirrored" s_mirrored f_mirrored d_mirrored
  b_mirrored : Binds K d_mirrored ["cells"] []
  g_mirrored : mg "mirrored" = some (.ref f_mirrored)
  f_home : Addr
  d_home : FuncData
  F_home : Fun K "home" "home" s_home f_home d_home
  b_home : Binds K d_home ["cells"] []
  g_home : mg "home" = some (.ref f_home)
  f_write_text : Addr
  d_write_text : FuncData
  F_write_text : Fun K "write_text" "write_text" s_write_text f_write_text d_write_text
  b_write_text : Binds K d_write_text ["cells"] []
  g_write_text : mg "write_text" = some (.ref f_write_text)
  f_runs : Addr
  d_runs : FuncData
  F_runs : Fun K "_runs" "_runs" s_runs f_runs d_runs
  b_runs : Binds K d_runs ["living"] []
  g_runs : mg "_runs" = some (.ref f_runs)
  f_counted : Addr
  d_counted : FuncData
  F_counted : Fun K "_counted" "_counted" s_counted f_counted d_counted
  b_counted : Binds K d_counted ["number", "sign"] []
  g_counted : mg "_counted" = some (.ref f_counted)
  f_images : Addr
  d_images : FuncData
  F_images : Fun K "images" "images" s_images f_images d_images
  b_images : Binds K d_images ["cells"] []
  g_images : mg "images" = some (.ref f_images)
  f_turns : Addr
  d_turns : FuncData
  F_turns : Fun K "_turns" "_turns" s_turns f_turns d_turns
  b_turns : Binds K d_turns ["cells"] []
  g_turns : mg "_turns" = some (.ref f_turns)
  f_homes : Addr
  d_homes : FuncData
  F_homes : Fun K "_homes" "_homes" s_homes f_homes d_homes
  b_homes : Binds K d_homes ["cells"] []
  g_homes : mg "_homes" = some (.ref f_homes)
  f_least_form : Addr
  d_least_form : FuncData
  F_least_form : Fun K "least_form" "least_form" s_least_form f_least_form d_least_form
  b_least_form : Binds K d_least_form ["cells"] []
  g_least_form : mg "least_form" = some (.ref f_least_form)
  f_islands : Addr
  d_islands : FuncData
  F_islands : Fun K "islands" "islands" s_islands f_islands d_islands
  b_islands : Binds K d_islands ["cells"] []
  g_islands : mg "islands" = some (.ref f_islands)
  f_census : Addr
  d_census : FuncData
  F_census : Fun K "census" "census" s_census f_census d_census
  b_census : Binds K d_census ["cells"] []
  g_census : mg "census" = some (.ref f_census)
  f_law_cell : Addr
  d_law_cell : FuncData
  F_law_cell : Fun K "_law_cell" "_law_cell" s_law_cell f_law_cell d_law_cell
  b_law_cell : Binds K d_law_cell ["script", "k"] []
  g_law_cell : mg "_law_cell" = some (.ref f_law_cell)
  f_law_row : Addr
  d_law_row : FuncData
  F_law_row : Fun K "_law_row" "_law_row" s_law_row f_law_row d_law_row
  b_law_row : Binds K d_law_row ["cell", "count", "bound"] []
  g_law_row : mg "_law_row" = some (.ref f_law_row)
  f_law_some : Addr
  d_law_some : FuncData
  F_law_some : Fun K "_law_some" "_law_some" s_law_some f_law_some d_law_some
  b_law_some : Binds K d_law_some ["cell", "count", "height", "width"] []
  g_law_some : mg "_law_some" = some (.ref f_law_some)
  f_law_image : Addr
  d_law_image : FuncData
  F_law_image : Fun K "_law_image" "_law_image" s_law_image f_law_image d_law_image
  b_law_image : Binds K d_law_image ["cells", "number"] []
  g_law_image : mg "_law_image" = some (.ref f_law_image)
  f_law : Addr
  d_law : FuncData
  F_law : Fun K "law" "law" s_law f_law d_law
  b_law : Binds K d_law ["script"] []
  g_law : mg "law" = some (.ref f_law)
  z_sorted : mg "sorted" = none
  z_set : mg "set" = none
  z_min : mg "min" = none
  z_str : mg "str" = none
  z_len : mg "len" = none
  z_int : mg "int" = none
  z_abs : mg "abs" = none
  z_range : mg "range" = none
  z_list : mg "list" = none
  z_isinstance : mg "isinstance" = none
  z_all : mg "all" = none
  z_sum : mg "sum" = none
  z_tuple : mg "tuple" = none
  a_NEAR : Addr
  t_NEAR : ∀ H : Hp, SqT K H a_NEAR ([(-2), (-1), (0), (1), (2)].map V.int)
  c_MARK : ∃ u, mg "MARK" = some u ∧ RelV (.str (Str.ofString "!")) u
  c_ALIVE : ∃ u, mg "ALIVE" = some u ∧ RelV (.str (Str.ofString "O")) u
  c_ROW_END : ∃ u, mg "ROW_END" = some u ∧ RelV (.str (Str.ofString "/")) u
  c_DEAD : ∃ u, mg "DEAD" = some u ∧ RelV (.str (Str.ofString ".")) u
  c_TURNS : ∃ u, mg "TURNS" = some u ∧ RelV (.int (4)) u
  c_NEAR : ∃ u, mg "NEAR" = some u ∧ RelV (.ref a_NEAR) u
end My
namespace My
open PySem PySem.Spec PyProof.Rows L2 Vx
open TL
local macro_rules | `(tactic| k_invariant "new" ($n, $H:ident, $e:ident, $h:ident)) => `(tactic| (generalize hE : upd _ _ _ = $H; obtain ⟨$e:ident, $h:ident⟩ := gen_e hE $n; clear hE))
local macro_rules | `(tactic| k_places) => `(tactic| first
  | assumption
  | exact lst_of (by assumption)
  | exact tup_of (by assumption)
  | (refine getS (by assumption) ?_; k_places)
  | (refine Same.seq (by assumption) ?_; k_places)
  | (refine tupS (by assumption) ?_; k_places)
  | (refine lst_of ?_; k_places)
  | (refine tup_of ?_; k_places))
local macro_rules | `(tactic| k_subL) => `(tactic| first
  | k_places
  | solve_by_elim (maxDepth := 10) [getS, lst_of, tup_of, Same.seq, tupS])
local macro_rules | `(tactic| k_offL) => `(tactic| first
  | (show (0 : Int) < _; first | omega | decide)
  | (refine ⟨?_, ?_⟩ <;> first | omega | decide)
  | exact .inr ⟨by decide, by decide⟩
  | exact .inl ⟨by decide, by decide⟩
  | exact .inl ⟨by omega, by omega⟩
  | omega)
local macro_rules | `(tactic| k_clsL) => `(tactic| exact Nat.le_of_ble_eq_true rfl)
local macro_rules | `(tactic| k_upd) => `(tactic| simp only [L2.start, List.map_cons, List.map_nil, List.length_cons, List.length_nil, List.replicate_succ, List.replicate_zero, List.cons_append, List.nil_append, List.set_cons_zero, List.set_cons_succ])
section
variable {P : Program} {w : World} {K : PySem.W.Frag} {mg : Str → Option Value} {base : Heap}
theorem ok_law_cell (T : Txt K mg) : FnOk P w K mg base CX0 1 T.f_law_cell T.d_law_cell ["script", "k"] (spCell K) := by
  refine T.F_law_cell.ok sc_law_cell (fun vs H Q E h => ?_) (fun cdv A outer s H vs Q E hr h => ?_)
  · obtain ⟨l, ns, j, rfl, _⟩ := h
    rfl
  · obtain ⟨l, ns, j, rfl, hs, q⟩ := h
    refine ⟨_, (pss_cons (ps_if (pt_cmpR op_lt (pv 1) (pe_callB call_lenL (by rfl) T.z_len (by decide +kernel) (pa_cons (pv 0) pa_nil)) (nomark _))
      (pss_one (ps_ret (pe_callTy call_intI (by rfl) T.z_int (by decide +kernel) (pa_cons (pe_ix ix_list (pv 0) (pv 1) (fun _ _ => rfl)) pa_nil))))
      pss_nil)
      (pss_one (ps_ret pe_int))), ?_⟩
    refine ⟨_, rfl, _, rfl, _, _, rfl, hs, _, _, rfl, rfl, _, rfl, ite2 (fun c => ?_) (fun c => ?_)⟩
    · have hj : j < ns.length := by
        have z := of_decide_eq_true c
        rw [List.length_map] at z
        omega
      exact ⟨_, rfl, _, rfl, _, _, _, _, rfl, rfl, hs, atI_cell hj, _, rfl, q⟩
    · have hj : ¬ j < ns.length := fun z => c (decide_eq_true (by rw [List.length_map]; omega))
      rw [cell_out hj] at q
      exact q
/-! ### law_row: so many numbers from 0 to below the bound -/
def sp_law_row : Sp := fun vs H Q _ => ∃ (cell count bound : Int), vs = [.int cell, .int count, .int bound] ∧ 0 ≤ count ∧ count ≤ 100000 ∧ 0 < bound ∧ bound < 1000000000 ∧
  ∀ (H' : Hp) (p : Addr) (xs : List Int), H p = none → Same H H' → H' p = some (.lst (xs.map V.int)) → (xs.length : Int) = count → (∀ x ∈ xs, 0 ≤ x ∧ x < bound) → Q (.ref p) H'
theorem ok_law_row (T : Txt K mg) : FnOk P w K mg base CX0 1 T.f_law_row T.d_law_row ["cell", "count", "bound"] sp_law_row := by
  refine T.F_law_row.ok sc_law_row (fun vs H Q E h => ?_) (fun cdv A outer s H vs Q E hr h => ?_)
  · obtain ⟨_, _, _, rfl, _⟩ := h
    rfl
  · obtain ⟨cell, count, bound, rfl, c0, c1, b0, b1, q⟩ := h
    refine ⟨_, (pss_cons (ps_set (i := 3) sc_law_row.nd rfl (.inl rfl) (pe_callB call_abs (by rfl) T.z_abs (by decide +kernel) (pa_cons (pe_callTy call_intI (by rfl) T.z_int (by decide +kernel) (pa_cons (pv 0) pa_nil)) pa_nil)))
      (pss_cons (ps_set (i := 4) sc_law_row.nd rfl (.inl rfl) (pe_op op_add (pe_op op_mod (pe_callTy call_intI (by rfl) T.z_int (by decide +kernel) (pa_cons (pv 0) pa_nil)) pe_int) pe_int))
      (pss_cons (ps_set (i := 5) sc_law_row.nd rfl (.inl rfl) (pe_lst pa_nil))
      (pss_cons (ps_for PassesOwn.never rfl (pi_range1 (by rfl) T.z_range (pa_cons (pv 1) pa_nil)) (pg_name (i := 6) sc_law_row.nd rfl (.inl rfl))
      (pss_one (ps_if (pt_cmpR op_ge (pv 3) (pv 2) (nomark _))
      (pss_cons (ps_expr (pe_bm PySem.F.plainAttrs_list PySem.F.slot_list_append PySem.F.type_list_append mt_append (pv 5) (pa_cons (pe_op op_mod (pe_callTy call_intI (by rfl) T.z_int (by decide +kernel) (pa_cons (pv 3) pa_nil)) (pv 2)) pa_nil)))
      (pss_one (ps_set (i := 3) sc_law_row.nd rfl (.inl rfl) (pe_op op_fdiv (pv 3) (pv 2)))))
      (pss_cons (ps_set (i := 4) sc_law_row.nd rfl (.inl rfl) (pe_op op_mod (pe_callTy call_intI (by rfl) T.z_int (by decide +kernel) (pa_cons (pe_op op_add (pe_op op_add (pe_op op_mul (pv 4) pe_int) (pe_op op_mul pe_int (pv 6))) pe_int) pa_nil)) pe_int))
      (pss_one (ps_expr (pe_bm PySem.F.plainAttrs_list PySem.F.slot_list_append PySem.F.type_list_append mt_append (pv 5) (pa_cons (pe_op op_mod (pe_callTy call_intI (by rfl) T.z_int (by decide +kernel) (pa_cons (pe_op op_fdiv (pe_op op_mul (pv 4) pe_int) pe_int) pa_nil)) (pv 2)) pa_nil))))))))
      (pss_one (ps_ret (pv 5))))))), ?_⟩
    refine ⟨_, rfl, _, rfl, _, rfl, _, rfl, _, rfl, _, _, rfl, rfl, (by k_offL), _, _, rfl, rfl, Nat.zero_le _, fun p1 n1 => ?_⟩
    k_invariant "new" (n1, H1, e1, h1)
    refine ⟨_, rfl, _, rfl, by omega, by omega, for_range (lo := 0) (n := count.toNat) (fun i σ H' => ∃ (rest mixed : Int) (xs : List Int) (v : Option V), σ = [some (.int cell), some (.int count), some (.int bound), some (.int rest), some (.int mixed), some (.ref p1), v] ∧
      Same H H' ∧ H' p1 = some (.lst (xs.map V.int)) ∧ xs.length = i ∧ (∀ x ∈ xs, 0 ≤ x ∧ x < bound) ∧ 0 ≤ mixed ∧ mixed < 4294967296) ?_ ?_ ?_⟩
    · refine ⟨_, _, [], none, rfl, e1, h1, rfl, by simp, ?_, ?_⟩
      · have := Int.emod_nonneg cell (show (1000003 : Int) ≠ 0 by decide)
        omega
      · have := Int.emod_lt_of_pos cell (show (0 : Int) < 1000003 by decide)
        omega
    · rintro i σ H' hi ⟨rest, mixed, xs, v, rfl, sm, hp, hl, hx, m0, m1⟩
      refine ⟨_, rfl, _, rfl, _, _, rfl, rfl, _, rfl, ite2 (fun c => ?_) (fun c => ?_)⟩
      · refine ⟨_, rfl, .inl ⟨rfl, _, lst_of hp⟩, _, rfl, _, rfl, _, rfl, _, _, rfl, rfl, b0, _, _, _, rfl, rfl, hp, ?_, ?_⟩
        · rw [List.length_map]
          exact Nat.lt_of_lt_of_le (show xs.length < 100001 by omega) (by decide)
        · refine ⟨_, rfl, _, rfl, _, _, rfl, rfl, ⟨b0, by omega⟩, _, _, xs ++ [rest % bound], _, rfl, mutS sm n1, ?_, by simp [hl], fun x h => ?_, m0, m1⟩
          · rw [upd_same]
            simp
          · rcases List.mem_append.mp h with h | h
            · exact hx x h
            · rw [List.mem_singleton.mp h]
              exact ⟨Int.emod_nonneg _ (by omega), Int.emod_lt_of_pos _ b0⟩
      · refine ⟨_, rfl, _, _, rfl, rfl, .inr ⟨by decide, by decide⟩, _, rfl, _, _, rfl, rfl, .inl ⟨by decide, by decide⟩, _, _, rfl, rfl, _, _, rfl, rfl, _, rfl, _, _, rfl, rfl, (by k_offL), ?_⟩
        refine ⟨_, rfl, .inl ⟨rfl, _, lst_of hp⟩, _, rfl, _, _, rfl, rfl, .inr ⟨by decide, by decide⟩, _, _, rfl, rfl, ⟨by decide, by decide⟩, _, rfl, _, rfl, _, _, rfl, rfl, b0, _, _, _, rfl, rfl, hp, ?_, ?_⟩
        · rw [List.length_map]
          exact Nat.lt_of_lt_of_le (show xs.length < 100001 by omega) (by decide)
        · refine ⟨_, _, xs ++ [(mixed * 48271 + 11 * (0 + (i : Int)) + 7) % 2147483647 * 2862933555777941757 / 1024 % bound], _, rfl, mutS sm n1, ?_, by simp [hl], fun x h => ?_, Int.emod_nonneg _ (by decide), ?_⟩
          · rw [upd_same, List.map_append]
            rfl
          · rcases List.mem_append.mp h with h | h
            · exact hx x h
            · rw [List.mem_singleton.mp h]
              exact ⟨Int.emod_nonneg _ (by omega), Int.emod_lt_of_pos _ b0⟩
          · exact Int.lt_trans (Int.emod_lt_of_pos _ (by decide)) (by decide)
    · rintro σ H' ⟨rest, mixed, xs, v, rfl, sm, hp, hl, hx, _, _⟩
      exact ⟨_, rfl, q H' p1 xs n1 sm hp (by omega) hx⟩
/-! ### law_some: some cells of a box, ascending -/
def sp_law_some : Sp := fun vs H Q _ => ∃ (cell count h v : Int), vs = [.int cell, .int count, .int h, .int v] ∧ 0 ≤ count ∧ count ≤ 1000 ∧ 0 < h ∧ h ≤ 1000 ∧ 0 < v ∧ v ≤ 1000 ∧
  ∀ (H' : Hp) (p : Addr) (ps : List Pr), H p = none → Same H H' → Cells H' p ps → ps.Pairwise ltP → (ps.length : Int) ≤ count → (∀ x ∈ ps, 0 ≤ x.1 ∧ x.1 < h ∧ 0 ≤ x.2 ∧ x.2 < v) → Q (.ref p) H'
theorem ok_law_some (T : Txt K mg) : FnOk P w K mg base CX0 2 T.f_law_some T.d_law_some ["cell", "count", "height", "width"] sp_law_some := by
  refine T.F_law_some.ok sc_law_some (fun vs H Q E h => ?_) (fun cdv A outer s H vs Q E hr h => ?_)
  · obtain ⟨_, _, _, _, rfl, _⟩ := h
    rfl
  · obtain ⟨cell, count, h, v, rfl, c0, c1, h0, h1, v0, v1, q⟩ := h
    have hu : (A.deeper (envOfC (Str.ofString "_law_some") (defScope s_law_some) s.heap.objs.size T.f_law_some cdv)).units + 1 < cLine := by
      have := hr.units
      omega
    refine ⟨_, (pss_cons (ps_set (i := 4) sc_law_some.nd rfl (.inl rfl) (pe_callB call_abs (by rfl) T.z_abs (by decide +kernel) (pa_cons (pe_callTy call_intI (by rfl) T.z_int (by decide +kernel) (pa_cons (pv 0) pa_nil)) pa_nil)))
      (pss_cons (ps_set (i := 5) sc_law_some.nd rfl (.inl rfl) pe_dnewT)
      (pss_cons (ps_for PassesOwn.never rfl (pi_list (pe_call (ok_law_row T) (hr.mono (by decide)) (by rfl) T.g_law_row T.F_law_row.kp T.b_law_row .nil pass0 (pa_cons (pv 0) (pa_cons (pv 1) (pa_cons (pe_op op_mul (pv 2) (pv 3)) pa_nil))))) (pg_name (i := 6) sc_law_some.nd rfl (.inl rfl))
      (pss_one (ps_dput hu (pv 5) (pe_tup (pa_cons (pe_op op_fdiv (pv 6) (pv 3)) (pa_cons (pe_op op_mod (pv 6) (pv 3)) pa_nil))) pe_bl rfl)))
      (pss_one (ps_ret (pe_callB cr_sortedC (by rfl) T.z_sorted (by decide +kernel) (pa_cons (pe_lock (pe_lc (own := [("place", 7)]) (g := gName 7) (tt := tYes) rfl sc_law_some.nd (pi_keys (pv 5)) (blkOk_by (own := [("place", 7)]) (N := N_law_some) (sc := defScope s_law_some) (by decide +kernel)) (fun _ _ _ _ _ => pg_name (i := 7) sc_law_some.nd rfl (Or.inl rfl)) (fun _ _ _ _ _ => pts_nil) (fun _ _ _ _ _ => (pv 7)))) pa_nil))))))), ?_⟩
    have b0 : 0 < h * v := Int.mul_pos h0 v0
    have b1 : h * v < 1000000000 := by
      have := Int.mul_le_mul h1 v1 (by omega) (by decide)
      omega
    refine ⟨_, rfl, _, rfl, _, rfl, fun d nd => ?_⟩
    k_invariant "new" (nd, H1, e1, g1)
    refine ⟨_, rfl, _, rfl, _, rfl, _, rfl, _, _, rfl, rfl, (by k_offL), _, _, _, rfl, c0, by omega, b0, b1, fun H2 p2 xs n2 e2 g2 l2 m2 => ?_⟩
    have nd2 : d ≠ p2 := neS g1 (fun _ _ z => z) n2
    refine ⟨p2, rfl, ⟨_, lst_of g2⟩, for_list (K := K) (a := p2) (xs := xs.map V.int) (fun i σ H' => Same H H' ∧ H' p2 = some (.lst (xs.map V.int)) ∧ (∃ (x y z : Option V), σ = [some (.int cell), some (.int count), some (.int h), some (.int v), x, some (.ref d), y, z]) ∧ ∃ kvs ps, H' d = some (.dT kvs) ∧ KeysP kvs ps ∧ ps.length ≤ i ∧ ∀ x ∈ ps, 0 ≤ x.1 ∧ x.1 < h ∧ 0 ≤ x.2 ∧ x.2 < v)
      ⟨e1.trans e2, g2, ⟨_, _, _, rfl⟩, [], [], e2 _ _ g1, ⟨rfl, List.nodup_nil⟩, Nat.le_refl _, fun _ m => (by cases m)⟩ (fun i σ H' _ p => lst_of p.2.1) ?_ ?_⟩
    · rintro i z σ H' hi ⟨sm, gp, ⟨x, y, z1, rfl⟩, kvs, ps, gd, hK, lp, bd⟩
      obtain ⟨n, rfl, _, mn⟩ := item_ints hi
      have bn := m2 n mn
      have li := (List.getElem?_eq_some_iff.mp hi).1
      rw [List.length_map] at li
      refine ⟨_, rfl, _, rfl, _, rfl, _, _, rfl, rfl, ⟨v0, by omega⟩, _, rfl, _, rfl, _, _, rfl, rfl, v0, (by k_clsL), fun t nt => ?_⟩
      have ntd : t ≠ d := fun e => by
        rw [e, gd] at nt
        cases nt
      have ntp : p2 ≠ d := fun e => by
        rw [e, gd] at gp
        cases gp
      obtain ⟨qs, hQ, lq, mq⟩ := hK.put (n / v, n % v) (.bl true)
      refine ⟨d, _, rfl, DPut.t (k := keyP (n / v, n % v)) (newS nt _ _ gd) upd_same (by rw [hK.len, sizeLine_eq]; omega), mutS (sm.trans (newS nt)) nd, ?_, ⟨_, _, _, rfl⟩, _, qs, upd_same, hQ, by omega, fun x m => ?_⟩
      · rw [upd_ne ntp]
        exact newS nt _ _ gp
      · rcases (mq x).mp m with m | e
        · exact bd x m
        · rw [e]
          exact ⟨Int.ediv_nonneg bn.1 (by omega), Int.ediv_lt_of_lt_mul v0 bn.2, Int.emod_nonneg _ (by omega), Int.emod_lt_of_pos _ v0⟩
    · rintro σ H' ⟨sm, gp, ⟨x, y, z1, rfl⟩, kvs, ps, gd, hK, lp, bd⟩
      rw [List.length_map] at lp
      refine ⟨d, _, gd, trivial, fun od => ⟨_, rfl, d, od, rfl, .inr ⟨kvs, upd_same, fun D nD => lc_keysP hK upd_same nD (by rw [sizeLine_eq]; omega) ?_ fun H3 e3 g3 => ?_⟩⟩⟩
      · intro t x H' Po Pn ht hq
        exact ⟨rfl, tyesT ⟨_, rfl, hq⟩⟩
      · have gd3 : H3 d = some (.frz od (.dT kvs)) := e3 _ _ upd_same
        have s3 : Same H (upd H3 d (.dT kvs)) := mutS ((mutS sm nd).trans e3) nd
        have neD : D ≠ d := fun e => by
          rw [e, upd_same] at nD
          cases nD
        refine ⟨gd3, D, ps, rfl, g3.mut neD (fun xs e => ?_), hK.2, fun p H4 qs e4 n4 h4 c4 l4 => q H4 p qs (backS s3 n4) (s3.trans e4) h4 c4.1 (by omega) fun x m => bd x ((c4.2 x).mp m)⟩
        rw [gd3] at e
        cases e
end
end My
namespace My
open PySem PySem.Spec PyProof.Rows L2 Vx
open TL
local macro_rules | `(tactic| k_invariant "new" ($n, $H:ident, $e:ident, $h:ident)) => `(tactic| (generalize hE : upd _ _ _ = $H; obtain ⟨$e:ident, $h:ident⟩ := gen_e hE $n; clear hE))
local macro_rules | `(tactic| k_places) => `(tactic| first
  | assumption
  | exact lst_of (by assumption)
  | exact tup_of (by assumption)
  | (refine getS (by assumption) ?_; k_places)
  | (refine Same.seq (by assumption) ?_; k_places)
  | (refine tupS (by assumption) ?_; k_places)
  | (refine lst_of ?_; k_places)
  | (refine tup_of ?_; k_places))
local macro_rules | `(tactic| k_subL) => `(tactic| first
  | k_places
  | solve_by_elim (maxDepth := 10) [getS, lst_of, tup_of, Same.seq, tupS])
local macro_rules | `(tactic| k_offL) => `(tactic| first
  | (show (0 : Int) < _; first | omega | decide)
  | (refine ⟨?_, ?_⟩ <;> first | omega | decide)
  | exact .inr ⟨by decide, by decide⟩
  | exact .inl ⟨by decide, by decide⟩
  | exact .inl ⟨by omega, by omega⟩
  | omega)
local macro_rules | `(tactic| k_clsL) => `(tactic| exact Nat.le_of_ble_eq_true rfl)
local macro_rules | `(tactic| k_upd) => `(tactic| simp only [L2.start, List.map_cons, List.map_nil, List.length_cons, List.length_nil, List.replicate_succ, List.replicate_zero, List.cons_append, List.nil_append, List.set_cons_zero, List.set_cons_succ])
section
variable {P : Program} {w : World} {K : PySem.W.Frag} {mg : Str → Option Value} {base : Heap}
/-! ### islands -/
def nearP (x y : Pr) : Prop := (-2 ≤ y.1 - x.1 ∧ y.1 - x.1 ≤ 2) ∧ -2 ≤ y.2 - x.2 ∧ y.2 - x.2 ≤ 2
theorem nearP.symm {x y : Pr} (h : nearP x y) : nearP y x := by
  unfold nearP at *
  omega
inductive Rch (L : List Pr) : Pr → Pr → Prop
  | refl {x : Pr} (h : x ∈ L) : Rch L x x
  | step {x y z : Pr} (h : Rch L x y) (m : z ∈ L) (n : nearP y z) : Rch L x z
theorem Rch.r {L : List Pr} {x y : Pr} (h : Rch L x y) : y ∈ L := by
  cases h with
  | refl h => exact h
  | step _ m _ => exact m
theorem Rch.l {L : List Pr} {x y : Pr} (h : Rch L x y) : x ∈ L := by
  induction h with
  | refl h => exact h
  | step _ _ _ ih => exact ih
theorem Rch.trans {L : List Pr} {x y z : Pr} (h : Rch L x y) (h2 : Rch L y z) : Rch L x z := by
  induction h2 with
  | refl _ => exact h
  | step _ m n ih => exact .step ih m n
theorem Rch.symm {L : List Pr} {x y : Pr} (h : Rch L x y) : Rch L y x := by
  induction h with
  | refl h => exact .refl h
  | step h1 m n ih => exact (Rch.step (.refl m) h1.r n.symm).trans ih
open Classical in
noncomputable def compL (L : List Pr) (x : Pr) : List Pr := L.filter fun y => decide (Rch L x y)
open Classical in
noncomputable def frst (L : List Pr) (x : Pr) : Bool := decide (∀ y, Rch L x y → ¬ ltP y x)
noncomputable def islL (L : List Pr) : List (List Pr) := (L.filter (frst L)).map (compL L)
open Classical in
theorem mem_compL {L : List Pr} {x y : Pr} : y ∈ compL L x ↔ Rch L x y := by
  unfold compL
  rw [List.mem_filter]
  constructor
  · intro h
    exact of_decide_eq_true h.2
  · intro h
    exact ⟨h.r, decide_eq_true h⟩
open Classical in
theorem compL_pw {L : List Pr} (pw : L.Pairwise ltP) (x : Pr) : (compL L x).Pairwise ltP := pw.filter _
open Classical in
theorem frst_iff {L : List Pr} {x : Pr} : frst L x = true ↔ ∀ y, Rch L x y → ¬ ltP y x := by
  unfold frst
  exact ⟨fun h => of_decide_eq_true h, fun h => decide_eq_true h⟩
/-- what stands before x in L -/
theorem before_iff {L : List Pr} (pw : L.Pairwise ltP) {i : Nat} {x y : Pr} (h : L[i]? = some x) : y ∈ L.take i ↔ y ∈ L ∧ ltP y x := by
  obtain ⟨lt, ex⟩ := List.getElem?_eq_some_iff.mp h
  constructor
  · intro m
    obtain ⟨j, hj, ey⟩ := List.getElem_of_mem m
    rw [List.length_take] at hj
    rw [List.getElem_take] at ey
    subst ey ex
    exact ⟨List.getElem_mem _, List.pairwise_iff_getElem.mp pw _ _ _ _ (by omega)⟩
  · rintro ⟨m, l⟩
    obtain ⟨j, hj, ey⟩ := List.getElem_of_mem m
    have : j < i := by
      rcases Nat.lt_trichotomy j i with c | c | c
      · exact c
      · subst c
        rw [ex] at ey
        subst ey
        exact (ltP_irr l l).elim
      · have := List.pairwise_iff_getElem.mp pw _ _ lt hj c
        rw [ex, ey] at this
        exact (ltP_irr l this).elim
    refine List.mem_iff_getElem.mpr ⟨j, by rw [List.length_take]; omega, ?_⟩
    rw [List.getElem_take]
    exact ey
/-- not reached so far -/
def Left (L : List Pr) (i : Nat) (y : Pr) : Prop := y ∈ L ∧ ∀ x ∈ L.take i, ¬ Rch L x y
theorem left_frst {L : List Pr} (pw : L.Pairwise ltP) {i : Nat} {x : Pr} (h : L[i]? = some x) : Left L i x ↔ frst L x = true := by
  rw [frst_iff]
  have mx := List.mem_of_getElem? h
  constructor
  · rintro ⟨_, h2⟩ y r l
    exact h2 y ((before_iff pw h).mpr ⟨r.r, l⟩) r.symm
  · intro h2
    exact ⟨mx, fun y m r => h2 y r.symm ((before_iff pw h).mp m).2⟩
theorem left_next {L : List Pr} {i : Nat} {x y : Pr} (h : L[i]? = some x) : Left L (i + 1) y ↔ Left L i y ∧ ¬ Rch L x y := by
  unfold Left
  rw [take_next h]
  constructor
  · rintro ⟨a, b⟩
    exact ⟨⟨a, fun z m => b z (List.mem_append.mpr (.inl m))⟩, b x (List.mem_append.mpr (.inr (List.mem_singleton.mpr rfl)))⟩
  · rintro ⟨⟨a, b⟩, c⟩
    refine ⟨a, fun z m => ?_⟩
    rcases List.mem_append.mp m with m | m
    · exact b z m
    · rw [List.mem_singleton.mp m]
      exact c
theorem left_skip {L : List Pr} {i : Nat} {x y : Pr} (h : L[i]? = some x) (n : ¬ Left L i x) : Left L (i + 1) y ↔ Left L i y := by
  rw [left_next h]
  refine ⟨fun z => z.1, fun z => ⟨z, fun r => n ⟨r.l, fun w m q => z.2 w m (q.trans r)⟩⟩⟩
end
end My
namespace My
open PySem PySem.Spec PyProof.Rows L2 Vx
open TL
local macro_rules | `(tactic| k_invariant "new" ($n, $H:ident, $e:ident, $h:ident)) => `(tactic| (generalize hE : upd _ _ _ = $H; obtain ⟨$e:ident, $h:ident⟩ := gen_e hE $n; clear hE))
local macro_rules | `(tactic| k_places) => `(tactic| first
  | assumption
  | exact lst_of (by assumption)
  | exact tup_of (by assumption)
  | (refine getS (by assumption) ?_; k_places)
  | (refine Same.seq (by assumption) ?_; k_places)
  | (refine tupS (by assumption) ?_; k_places)
  | (refine lst_of ?_; k_places)
  | (refine tup_of ?_; k_places))
local macro_rules | `(tactic| k_subL) => `(tactic| first
  | k_places
  | solve_by_elim (maxDepth := 10) [getS, lst_of, tup_of, Same.seq, tupS])
local macro_rules | `(tactic| k_offL) => `(tactic| first
  | (show (0 : Int) < _; first | omega | decide)
  | (refine ⟨?_, ?_⟩ <;> first | omega | decide)
  | exact .inr ⟨by decide, by decide⟩
  | exact .inl ⟨by decide, by decide⟩
  | exact .inl ⟨by omega, by omega⟩
  | omega)
local macro_rules | `(tactic| k_clsL) => `(tactic| exact Nat.le_of_ble_eq_true rfl)
local macro_rules | `(tactic| k_upd) => `(tactic| simp only [L2.start, List.map_cons, List.map_nil, List.length_cons, List.length_nil, List.replicate_succ, List.replicate_zero, List.cons_append, List.nil_append, List.set_cons_zero, List.set_cons_succ])
section
variable {P : Program} {w : World} {K : PySem.W.Frag} {mg : Str → Option Value} {base : Heap}
/-! ### patterns -/
def addP (dr dc : Int) (x : Pr) : Pr := (x.1 + dr, x.2 + dc)
def turnP (x : Pr) : Pr := (x.2, -x.1)
def mirP (x : Pr) : Pr := (x.1, -x.2)
def sp_pattern : Sp := fun vs H Q _ => ∃ (l : Addr) (ps : List Pr), vs = [.ref l] ∧ Cells H l ps ∧ ps.length ≤ 4000 ∧
  ∀ (H' : Hp) (p : Addr) (qs : List Pr), H p = none → Same H H' → Cells H' p qs → CanP ps qs → qs.length ≤ 4000 → Q (.ref p) H'
theorem ok_pattern (T : Txt K mg) : FnOk P w K mg base CX0 1 T.f_pattern T.d_pattern ["cells"] sp_pattern := by
  refine T.F_pattern.ok sc_pattern (fun vs H Q E h => ?_) (fun cdv A outer s H vs Q E hr h => ?_)
  · obtain ⟨_, _, rfl, _⟩ := h
    rfl
  · obtain ⟨l, ps, rfl, hC, few, q⟩ := h
    refine ⟨_, (pss_one (ps_ret (pe_callB (cr_sortedB rfl) (by rfl) T.z_sorted (by decide +kernel) (pa_cons (pe_callTy (cr_setB rfl hr.units) (by rfl) T.z_set (by decide +kernel) (pa_cons (pv 0) pa_nil)) pa_nil)))), ?_⟩
    exact ⟨_, rfl, _, _, rfl, hC, few, fun a H1 e1 n1 h1 => ⟨_, _, rfl, h1, fun p H2 qs e2 n2 h2 pw mem l2 => q H2 p qs (backS e1 n2) (e1.trans e2) h2 ⟨pw, mem⟩ l2⟩⟩
def sp_moved : Sp := fun vs H Q _ => ∃ (l : Addr) (ps : List Pr) (dr dc : Int), vs = [.ref l, .int dr, .int dc] ∧ Cells H l ps ∧ ps.length ≤ 4000 ∧
  ∀ (H' : Hp) (p : Addr) (qs : List Pr), H p = none → Same H H' → Cells H' p qs → CanP (ps.map (addP dr dc)) qs → qs.length ≤ 4000 → Q (.ref p) H'
theorem lt_line {n : Nat} (h : n ≤ 4000) : n < sizeLine := by
  rw [sizeLine_eq]
  omega
theorem ok_moved (T : Txt K mg) : FnOk P w K mg base CX0 2 T.f_moved T.d_moved ["cells", "rows", "columns"] sp_moved := by
  refine T.F_moved.ok sc_moved (fun vs H Q E h => ?_) (fun cdv A outer s H vs Q E hr h => ?_)
  · obtain ⟨_, _, _, _, rfl, _⟩ := h
    rfl
  · obtain ⟨l, ps, dr, dc, rfl, hC, few, q⟩ := h
    refine ⟨_, (pss_one (ps_ret (pe_call (ok_pattern T) (hr.mono (by decide)) (by rfl) T.g_pattern T.F_pattern.kp T.b_pattern .nil pass0 (pa_cons (pe_lc (own := [("row", 3), ("column", 4)]) (tt := tYes) rfl sc_moved.nd (pi_list (pv 0)) (blkOk_by (own := [("row", 3), ("column", 4)]) (N := N_moved) (sc := defScope s_moved) (by decide +kernel)) (fun _ _ _ _ _ => (pg_tupK (K := K) (n := 2) rfl rfl (pgs_cons (pg_name (i := 3) sc_moved.nd rfl (.inl rfl)) (pgs_cons (pg_name (i := 4) sc_moved.nd rfl (.inl rfl)) pgs_nil)))) (fun _ _ _ _ _ => pts_nil) (fun _ _ _ _ _ => (pe_tup (pa_cons (pe_op op_add (pv 3) (pv 1)) (pa_cons (pe_op op_add (pv 4) (pv 2)) pa_nil))))) pa_nil)))), ?_⟩
    refine ⟨_, rfl, _, rfl, ⟨_, lst_of hC.choose_spec.1⟩, fun D nD => lc_cells (addP dr dc) hC nD (lt_line few) ?_ fun H1 e1 h1 => ?_⟩
    · intro t x H' Po Pn _ ht hq
      exact ⟨t, _, rfl, tup_of ht, rfl, _, _, rfl, _, _, rfl, rfl, rfl, tyesT ⟨_, rfl, _, rfl, _, _, rfl, rfl, _, rfl, _, rfl, _, _, rfl, rfl, (by k_clsL), fun t2 n2 => hq t2 n2⟩⟩
    · exact ⟨_, _, rfl, h1, by rw [List.length_map]; exact few, fun H2 p qs n2 e2 h2 c2 l2 => q H2 p qs (backS e1 n2) (e1.trans e2) h2 c2 l2⟩
def sp_turned : Sp := fun vs H Q _ => ∃ (l : Addr) (ps : List Pr), vs = [.ref l] ∧ Cells H l ps ∧ ps.length ≤ 4000 ∧
  ∀ (H' : Hp) (p : Addr) (qs : List Pr), H p = none → Same H H' → Cells H' p qs → CanP (ps.map turnP) qs → qs.length ≤ 4000 → Q (.ref p) H'
theorem ok_turned (T : Txt K mg) : FnOk P w K mg base CX0 2 T.f_turned T.d_turned ["cells"] sp_turned := by
  refine T.F_turned.ok sc_turned (fun vs H Q E h => ?_) (fun cdv A outer s H vs Q E hr h => ?_)
  · obtain ⟨_, _, rfl, _⟩ := h
    rfl
  · obtain ⟨l, ps, rfl, hC, few, q⟩ := h
    refine ⟨_, (pss_one (ps_ret (pe_call (ok_pattern T) (hr.mono (by decide)) (by rfl) T.g_pattern T.F_pattern.kp T.b_pattern .nil pass0 (pa_cons (pe_lc (own := [("row", 1), ("column", 2)]) (tt := tYes) rfl sc_turned.nd (pi_list (pv 0)) (blkOk_by (own := [("row", 1), ("column", 2)]) (N := N_turned) (sc := defScope s_turned) (by decide +kernel)) (fun _ _ _ _ _ => (pg_tupK (K := K) (n := 2) rfl rfl (pgs_cons (pg_name (i := 1) sc_turned.nd rfl (.inl rfl)) (pgs_cons (pg_name (i := 2) sc_turned.nd rfl (.inl rfl)) pgs_nil)))) (fun _ _ _ _ _ => pts_nil) (fun _ _ _ _ _ => (pe_tup (pa_cons (pv 2) (pa_cons (pe_un un_neg (pv 1)) pa_nil))))) pa_nil)))), ?_⟩
    refine ⟨_, rfl, _, rfl, ⟨_, lst_of hC.choose_spec.1⟩, fun D nD => lc_cells turnP hC nD (lt_line few) ?_ fun H1 e1 h1 => ?_⟩
    · intro t x H' Po Pn _ ht hq
      exact ⟨t, _, rfl, tup_of ht, rfl, _, _, rfl, _, _, rfl, rfl, rfl, tyesT ⟨_, rfl, _, rfl, _, rfl, (by k_clsL), fun t2 n2 => hq t2 n2⟩⟩
    · exact ⟨_, _, rfl, h1, by rw [List.length_map]; exact few, fun H2 p qs n2 e2 h2 c2 l2 => q H2 p qs (backS e1 n2) (e1.trans e2) h2 c2 l2⟩
def sp_mirrored : Sp := fun vs H Q _ => ∃ (l : Addr) (ps : List Pr), vs = [.ref l] ∧ Cells H l ps ∧ ps.length ≤ 4000 ∧
  ∀ (H' : Hp) (p : Addr) (qs : List Pr), H p = none → Same H H' → Cells H' p qs → CanP (ps.map mirP) qs → qs.length ≤ 4000 → Q (.ref p) H'
theorem ok_mirrored (T : Txt K mg) : FnOk P w K mg base CX0 2 T.f_mirrored T.d_mirrored ["cells"] sp_mirrored := by
  refine T.F_mirrored.ok sc_mirrored (fun vs H Q E h => ?_) (fun cdv A outer s H vs Q E hr h => ?_)
  · obtain ⟨_, _, rfl, _⟩ := h
    rfl
  · obtain ⟨l, ps, rfl, hC, few, q⟩ := h
    refine ⟨_, (pss_one (ps_ret (pe_call (ok_pattern T) (hr.mono (by decide)) (by rfl) T.g_pattern T.F_pattern.kp T.b_pattern .nil pass0 (pa_cons (pe_lc (own := [("row", 1), ("column", 2)]) (tt := tYes) rfl sc_mirrored.nd (pi_list (pv 0)) (blkOk_by (own := [("row", 1), ("column", 2)]) (N := N_mirrored) (sc := defScope s_mirrored) (by decide +kernel)) (fun _ _ _ _ _ => (pg_tupK (K := K) (n := 2) rfl rfl (pgs_cons (pg_name (i := 1) sc_mirrored.nd rfl (.inl rfl)) (pgs_cons (pg_name (i := 2) sc_mirrored.nd rfl (.inl rfl)) pgs_nil)))) (fun _ _ _ _ _ => pts_nil) (fun _ _ _ _ _ => (pe_tup (pa_cons (pv 1) (pa_cons (pe_un un_neg (pv 2)) pa_nil))))) pa_nil)))), ?_⟩
    refine ⟨_, rfl, _, rfl, ⟨_, lst_of hC.choose_spec.1⟩, fun D nD => lc_cells mirP hC nD (lt_line few) ?_ fun H1 e1 h1 => ?_⟩
    · intro t x H' Po Pn _ ht hq
      exact ⟨t, _, rfl, tup_of ht, rfl, _, _, rfl, _, _, rfl, rfl, rfl, tyesT ⟨_, rfl, _, rfl, _, rfl, (by k_clsL), fun t2 n2 => hq t2 n2⟩⟩
    · exact ⟨_, _, rfl, h1, by rw [List.length_map]; exact few, fun H2 p qs n2 e2 h2 c2 l2 => q H2 p qs (backS e1 n2) (e1.trans e2) h2 c2 l2⟩
/-- a is the least of them -/
def Least (a : Int) (l : List Int) : Prop := a ∈ l ∧ ∀ y, y ∈ l → a ≤ y
theorem Least.uniq {a b : Int} {l : List Int} (h : Least a l) (h2 : Least b l) : a = b := by
  have := h.2 _ h2.1
  have := h2.2 _ h.1
  omega
def rowsP (ps : List Pr) : List Int := ps.map (·.1)
def colsP (ps : List Pr) : List Int := ps.map (·.2)
def sp_home : Sp := fun vs H Q _ => ∃ (l : Addr) (ps : List Pr), vs = [.ref l] ∧ Cells H l ps ∧ ps.length ≤ 4000 ∧
  ∀ (H' : Hp) (p : Addr) (qs : List Pr), H p = none → Same H H' → Cells H' p qs → (ps = [] → qs = []) → (∀ a b, Least a (rowsP ps) → Least b (colsP ps) → CanP (ps.map (addP (-a) (-b))) qs) → qs.length ≤ 4000 → Q (.ref p) H'
theorem tru_cells {K : PySem.W.Frag} {H : Hp} {l : Addr} {ps : List Pr} (h : Cells H l ps) : TruV K (.ref l) H (!ps.isEmpty) := by
  obtain ⟨ts, h1, _, rfl⟩ := h
  exact .inl ⟨_, lst_of h1, by cases ts <;> rfl⟩
theorem ok_home (T : Txt K mg) : FnOk P w K mg base CX0 3 T.f_home T.d_home ["cells"] sp_home := by
  refine T.F_home.ok sc_home (fun vs H Q E h => ?_) (fun cdv A outer s H vs Q E hr h => ?_)
  · obtain ⟨_, _, rfl, _⟩ := h
    rfl
  · obtain ⟨l, ps, rfl, hC, few, q⟩ := h
    refine ⟨_, (pss_cons (ps_if (pt_not (pt_truth (pv 0) (by intro _; rfl)))
      (pss_one (ps_ret (pe_lst pa_nil)))
      pss_nil)
      (pss_cons (ps_set (i := 1) sc_home.nd rfl (.inl rfl) (pe_callB (cr_min rfl) (by rfl) T.z_min (by decide +kernel) (pa_cons (pe_lc (own := [("row", 3), ("_", 4)]) (tt := tYes) rfl sc_home.nd (pi_list (pv 0)) (blkOk_by (own := [("row", 3), ("_", 4)]) (N := N_home) (sc := defScope s_home) (by decide +kernel)) (fun _ _ _ _ _ => (pg_tupK (K := K) (n := 2) rfl rfl (pgs_cons (pg_name (i := 3) sc_home.nd rfl (.inl rfl)) (pgs_cons (pg_name (i := 4) sc_home.nd rfl (.inl rfl)) pgs_nil)))) (fun _ _ _ _ _ => pts_nil) (fun _ _ _ _ _ => (pv 3))) pa_nil)))
      (pss_cons (ps_set (i := 2) sc_home.nd rfl (.inl rfl) (pe_callB (cr_min rfl) (by rfl) T.z_min (by decide +kernel) (pa_cons (pe_lc (own := [("_", 4), ("column", 5)]) (tt := tYes) rfl sc_home.nd (pi_list (pv 0)) (blkOk_by (own := [("_", 4), ("column", 5)]) (N := N_home) (sc := defScope s_home) (by decide +kernel)) (fun _ _ _ _ _ => (pg_tupK (K := K) (n := 2) rfl rfl (pgs_cons (pg_name (i := 4) sc_home.nd rfl (.inl rfl)) (pgs_cons (pg_name (i := 5) sc_home.nd rfl (.inl rfl)) pgs_nil)))) (fun _ _ _ _ _ => pts_nil) (fun _ _ _ _ _ => (pv 5))) pa_nil)))
      (pss_one (ps_ret (pe_call (ok_moved T) (hr.mono (by decide)) (by rfl) T.g_moved T.F_moved.kp T.b_moved .nil pass0 (pa_cons (pv 0) (pa_cons (pe_un un_neg (pv 1)) (pa_cons (pe_un un_neg (pv 2)) pa_nil))))))))), ?_⟩
    refine ⟨_, rfl, _, tru_cells hC, ?_⟩
    cases ps with
    | nil =>
      refine ⟨by k_clsL, fun p n => q _ p [] n (newS n) ⟨[], upd_same, fun _ m => (by cases m), rfl⟩ (fun _ => rfl) (fun a b ha _ => ?_) (by decide)⟩
      cases ha.1
    | cons x0 ps =>
      refine ⟨_, rfl, _, rfl, ⟨_, lst_of hC.choose_spec.1⟩, fun D nD => lc_nums (·.1) hC nD (lt_line few) ?_ fun H1 e1 h1 => ?_⟩
      · intro t x H' Po Pn _ ht hq
        exact ⟨t, _, rfl, tup_of ht, rfl, _, _, rfl, _, _, rfl, rfl, rfl, tyesT ⟨_, rfl, hq⟩⟩
      refine ⟨_, _, rfl, lst_of h1, by simp, fun a ma la => ?_⟩
      have hC1 := hC.up e1
      refine ⟨_, rfl, _, rfl, ⟨_, lst_of hC1.choose_spec.1⟩, fun D nD => lc_nums (·.2) hC1 nD (lt_line few) ?_ fun H2 e2 h2 => ?_⟩
      · intro t x H' Po Pn _ ht hq
        exact ⟨t, _, rfl, tup_of ht, rfl, _, _, rfl, _, _, rfl, rfl, rfl, tyesT ⟨_, rfl, hq⟩⟩
      refine ⟨_, _, rfl, lst_of h2, by simp, fun b mb lb => ?_⟩
      refine ⟨_, rfl, _, rfl, _, rfl, _, rfl, _, rfl, _, _, _, _, rfl, hC1.up e2, few, fun H3 p qs n3 e3 h3 c3 l3 => q H3 p qs (backS (e1.trans e2) n3) (e1.trans (e2.trans e3)) h3 (fun z => by cases z) (fun a' b' ha hb => ?_) l3⟩
      rw [ha.uniq ⟨ma, la⟩, hb.uniq ⟨mb, lb⟩]
      exact c3
end
end My
namespace My
open PySem PySem.Spec PyProof.Rows L2 Vx
open TL
local macro_rules | `(tactic| k_invariant "new" ($n, $H:ident, $e:ident, $h:ident)) => `(tactic| (generalize hE : upd _ _ _ = $H; obtain ⟨$e:ident, $h:ident⟩ := gen_e hE $n; clear hE))
local macro_rules | `(tactic| k_places) => `(tactic| first
  | assumption
  | exact lst_of (by assumption)
  | exact tup_of (by assumption)
  | (refine getS (by assumption) ?_; k_places)
  | (refine Same.seq (by assumption) ?_; k_places)
  | (refine tupS (by assumption) ?_; k_places)
  | (refine lst_of ?_; k_places)
  | (refine tup_of ?_; k_places))
local macro_rules | `(tactic| k_subL) => `(tactic| first
  | k_places
  | solve_by_elim (maxDepth := 10) [getS, lst_of, tup_of, Same.seq, tupS])
local macro_rules | `(tactic| k_offL) => `(tactic| first
  | (show (0 : Int) < _; first | omega | decide)
  | (refine ⟨?_, ?_⟩ <;> first | omega | decide)
  | exact .inr ⟨by decide, by decide⟩
  | exact .inl ⟨by decide, by decide⟩
  | exact .inl ⟨by omega, by omega⟩
  | omega)
local macro_rules | `(tactic| k_clsL) => `(tactic| exact Nat.le_of_ble_eq_true rfl)
local macro_rules | `(tactic| k_upd) => `(tactic| simp only [L2.start, List.map_cons, List.map_nil, List.length_cons, List.length_nil, List.replicate_succ, List.replicate_zero, List.cons_append, List.nil_append, List.set_cons_zero, List.set_cons_succ])
section
variable {P : Program} {w : World} {K : PySem.W.Frag} {mg : Str → Option Value} {base : Heap}
structure Dfs (L : List Pr) (i : Nat) (x : Pr) (Cc : Pr → Prop) (Ws Is ks : List Pr) : Prop where
  a : ∀ y, y ∈ Ws ∨ y ∈ Is → Left L i x ∧ Rch L x y
  c : ∀ z, Cc z → z ∉ ks
  d : ∀ y, Left L i y → y ∈ ks ∨ y ∈ Ws ∨ y ∈ Is
  e : ∀ y ∈ ks, Left L i y ∧ ¬ (y ∈ Ws ∨ y ∈ Is)
  f : Left L i x → x ∈ Ws ∨ x ∈ Is
  n : Ws.length + Is.length + ks.length ≤ L.length
def nearSome (Is : List Pr) (z : Pr) : Prop := ∃ w ∈ Is, nearP w z
theorem Dfs.yes {L : List Pr} {i : Nat} {x : Pr} {ks : List Pr} (h : Left L i x) (hk : ∀ y, y ∈ ks ↔ Left L i y ∧ y ≠ x) (n : 1 + ks.length ≤ L.length) : Dfs L i x (nearSome []) [x] [] ks where
  a := fun y m => by
    rcases m with m | m
    · rw [List.mem_singleton.mp m]
      exact ⟨h, .refl h.1⟩
    · cases m
  c := fun z ⟨w, m, _⟩ => by cases m
  d := fun y hy => by
    by_cases e : y = x
    · exact .inr (.inl (by rw [e]; exact List.mem_cons_self))
    · exact .inl ((hk y).mpr ⟨hy, e⟩)
  e := fun y m => by
    obtain ⟨h1, h2⟩ := (hk y).mp m
    refine ⟨h1, ?_⟩
    rintro (z | z)
    · exact h2 (List.mem_singleton.mp z)
    · cases z
  f := fun _ => .inl List.mem_cons_self
  n := by simpa using n
theorem Dfs.no {L : List Pr} {i : Nat} {x : Pr} {ks : List Pr} (h : ¬ Left L i x) (hk : ∀ y, y ∈ ks ↔ Left L i y) (n : ks.length ≤ L.length) : Dfs L i x (nearSome []) [] [] ks where
  a := fun y m => by
    rcases m with m | m <;> cases m
  c := fun z ⟨w, m, _⟩ => by cases m
  d := fun y hy => .inl ((hk y).mpr hy)
  e := fun y m => ⟨(hk y).mp m, by
    rintro (z | z) <;> cases z⟩
  f := fun z => absurd z h
  n := by simpa using n
theorem Dfs.take {L : List Pr} {i : Nat} {x y : Pr} {Ws Is ks : List Pr} (h : Dfs L i x (nearSome Is) (Ws ++ [y]) Is ks) : Dfs L i x (fun z => nearSome Is z ∨ z ∈ ([] : List Pr)) Ws (Is ++ [y]) ks where
  a := fun z m => h.a z (by
    rcases m with m | m
    · exact .inl (List.mem_append.mpr (.inl m))
    · rcases List.mem_append.mp m with m | m
      · exact .inr m
      · exact .inl (List.mem_append.mpr (.inr m)))
  c := fun z m => by
    rcases m with m | m
    · exact h.c z m
    · cases m
  d := fun z hz => by
    rcases h.d z hz with m | m | m
    · exact .inl m
    · rcases List.mem_append.mp m with m | m
      · exact .inr (.inl m)
      · exact .inr (.inr (List.mem_append.mpr (.inr m)))
    · exact .inr (.inr (List.mem_append.mpr (.inl m)))
  e := fun z m => by
    obtain ⟨h1, h2⟩ := h.e z m
    refine ⟨h1, fun w => h2 ?_⟩
    rcases w with w | w
    · exact .inl (List.mem_append.mpr (.inl w))
    · rcases List.mem_append.mp w with w | w
      · exact .inr w
      · exact .inl (List.mem_append.mpr (.inr w))
  f := fun hx => by
    rcases h.f hx with m | m
    · rcases List.mem_append.mp m with m | m
      · exact .inl m
      · exact .inr (List.mem_append.mpr (.inr m))
    · exact .inr (List.mem_append.mpr (.inl m))
  n := by
    have := h.n
    rw [List.length_append, List.length_singleton] at this ⊢
    omega
theorem Dfs.pop {L : List Pr} {i : Nat} {x y z : Pr} {Cc : Pr → Prop} {T Ws Is ks : List Pr} (h : Dfs L i x (fun z => Cc z ∨ z ∈ T) Ws Is ks) (my : y ∈ Is) (near : nearP y z) (mz : z ∈ ks) : Dfs L i x (fun w => Cc w ∨ w ∈ T ++ [z]) (Ws ++ [z]) Is (ks.filter fun w => decide (w ≠ z)) where
  a := fun w m => by
    rcases m with m | m
    · rcases List.mem_append.mp m with m | m
      · exact h.a w (.inl m)
      · rw [List.mem_singleton.mp m]
        obtain ⟨h1, h2⟩ := h.a y (.inr my)
        exact ⟨h1, .step h2 (h.e z mz).1.1 near⟩
    · exact h.a w (.inr m)
  c := fun w m k => by
    obtain ⟨k1, k2⟩ := List.mem_filter.mp k
    have k2 := of_decide_eq_true k2
    rcases m with m | m
    · exact h.c w (.inl m) k1
    · rcases List.mem_append.mp m with m | m
      · exact h.c w (.inr m) k1
      · exact k2 (List.mem_singleton.mp m)
  d := fun w hw => by
    rcases h.d w hw with m | m | m
    · by_cases e : w = z
      · exact .inr (.inl (List.mem_append.mpr (.inr (by rw [e]; exact List.mem_cons_self))))
      · exact .inl (List.mem_filter.mpr ⟨m, decide_eq_true e⟩)
    · exact .inr (.inl (List.mem_append.mpr (.inl m)))
    · exact .inr (.inr m)
  e := fun w k => by
    obtain ⟨k1, k2⟩ := List.mem_filter.mp k
    have k2 := of_decide_eq_true k2
    obtain ⟨h1, h2⟩ := h.e w k1
    refine ⟨h1, fun m => ?_⟩
    rcases m with m | m
    · rcases List.mem_append.mp m with m | m
      · exact h2 (.inl m)
      · exact k2 (List.mem_singleton.mp m)
    · exact h2 (.inr m)
  f := fun hx => by
    rcases h.f hx with m | m
    · exact .inl (List.mem_append.mpr (.inl m))
    · exact .inr m
  n := by
    have := h.n
    have lt : (ks.filter fun w => decide (w ≠ z)).length < ks.length := List.length_filter_lt_length_iff_exists.mpr ⟨z, mz, by simp⟩
    rw [List.length_append, List.length_singleton]
    omega
theorem Dfs.skip {L : List Pr} {i : Nat} {x z : Pr} {Cc : Pr → Prop} {T Ws Is ks : List Pr} (h : Dfs L i x (fun z => Cc z ∨ z ∈ T) Ws Is ks) (mz : z ∉ ks) : Dfs L i x (fun w => Cc w ∨ w ∈ T ++ [z]) Ws Is ks :=
  ⟨h.a, (fun w m => by
      rcases m with m | m
      · exact h.c w (.inl m)
      · rcases List.mem_append.mp m with m | m
        · exact h.c w (.inr m)
        · rw [List.mem_singleton.mp m]
          exact mz), h.d, h.e, h.f, h.n⟩
theorem Dfs.whole {L : List Pr} {i : Nat} {x y : Pr} {T Ws Is ks : List Pr} (h : Dfs L i x (fun z => nearSome Is z ∨ z ∈ T) Ws (Is ++ [y]) ks) (hT : ∀ z, nearP y z → z ∈ T) : Dfs L i x (nearSome (Is ++ [y])) Ws (Is ++ [y]) ks :=
  ⟨h.a, (fun w ⟨v, m, n⟩ => by
      rcases List.mem_append.mp m with m | m
      · exact h.c w (.inl ⟨v, m, n⟩)
      · rw [List.mem_singleton.mp m] at n
        exact h.c w (.inr (hT w n))), h.d, h.e, h.f, h.n⟩
theorem Dfs.done {L : List Pr} {i : Nat} {x : Pr} {Is ks : List Pr} (h : Dfs L i x (nearSome Is) [] Is ks) (hx : Left L i x) : ∀ z, z ∈ Is ↔ Rch L x z := fun z => by
  constructor
  · intro m
    exact (h.a z (.inr m)).2
  · intro r
    induction r with
    | refl _ =>
      rcases h.f hx with m | m
      · cases m
      · exact m
    | step r m n ih =>
      have hl : ∀ w, Rch L x w → Left L i w := fun w rw' => ⟨rw'.r, fun v mv rv => hx.2 v mv (rv.trans rw'.symm)⟩
      rcases h.d _ (hl _ (.step r m n)) with k | k | k
      · exact absurd k (h.c _ ⟨_, ih, n⟩)
      · cases k
      · exact k
theorem Dfs.left {L : List Pr} {i : Nat} {x : Pr} {Is ks : List Pr} (hp : L[i]? = some x) (h : Dfs L i x (nearSome Is) [] Is ks) : ∀ z, z ∈ ks ↔ Left L (i + 1) z := fun z => by
  by_cases hx : Left L i x
  · have dn := h.done hx
    rw [left_next hp]
    constructor
    · intro m
      obtain ⟨h1, h2⟩ := h.e z m
      exact ⟨h1, fun r => h2 (.inr ((dn z).mpr r))⟩
    · rintro ⟨h1, h2⟩
      rcases h.d z h1 with k | k | k
      · exact k
      · cases k
      · exact absurd ((dn z).mp k) h2
  · rw [left_skip hp hx]
    constructor
    · intro m
      exact (h.e z m).1
    · intro h1
      rcases h.d z h1 with k | k | k
      · exact k
      · cases k
      · exact absurd (h.a z (.inr k)).1 hx
def n5 : List Int := [-2, -1, 0, 1, 2]
def n25 (y : Pr) : List Pr := n5.flatMap fun d => n5.map fun b => (y.1 + d, y.2 + b)
theorem mem_n5 {d : Int} : d ∈ n5 ↔ -2 ≤ d ∧ d ≤ 2 := by
  unfold n5
  simp only [List.mem_cons, List.not_mem_nil, or_false]
  omega
theorem mem_n25 {y z : Pr} : z ∈ n25 y ↔ nearP y z := by
  unfold n25 nearP
  simp only [List.mem_flatMap, List.mem_map, mem_n5]
  constructor
  · rintro ⟨d, hd, b, hb, rfl⟩
    dsimp only
    omega
  · intro h
    exact ⟨z.1 - y.1, h.1, z.2 - y.2, h.2, Prod.ext (by dsimp only; omega) (by dsimp only; omega)⟩
end
end My
namespace My
open PySem PySem.Spec PyProof.Rows L2 Vx
open TL
local macro_rules | `(tactic| k_invariant "new" ($n, $H:ident, $e:ident, $h:ident)) => `(tactic| (generalize hE : upd _ _ _ = $H; obtain ⟨$e:ident, $h:ident⟩ := gen_e hE $n; clear hE))
local macro_rules | `(tactic| k_places) => `(tactic| first
  | assumption
  | exact lst_of (by assumption)
  | exact tup_of (by assumption)
  | (refine getS (by assumption) ?_; k_places)
  | (refine Same.seq (by assumption) ?_; k_places)
  | (refine tupS (by assumption) ?_; k_places)
  | (refine lst_of ?_; k_places)
  | (refine tup_of ?_; k_places))
local macro_rules | `(tactic| k_subL) => `(tactic| first
  | k_places
  | solve_by_elim (maxDepth := 10) [getS, lst_of, tup_of, Same.seq, tupS])
local macro_rules | `(tactic| k_offL) => `(tactic| first
  | (show (0 : Int) < _; first | omega | decide)
  | (refine ⟨?_, ?_⟩ <;> first | omega | decide)
  | exact .inr ⟨by decide, by decide⟩
  | exact .inl ⟨by decide, by decide⟩
  | exact .inl ⟨by omega, by omega⟩
  | omega)
local macro_rules | `(tactic| k_clsL) => `(tactic| exact Nat.le_of_ble_eq_true rfl)
local macro_rules | `(tactic| k_upd) => `(tactic| simp only [L2.start, List.map_cons, List.map_nil, List.length_cons, List.length_nil, List.replicate_succ, List.replicate_zero, List.cons_append, List.nil_append, List.set_cons_zero, List.set_cons_succ])
section
variable {P : Program} {w : World} {K : PySem.W.Frag} {mg : Str → Option Value} {base : Heap}
theorem gName_go {i : Nat} {v : V} {σ : L2.St} {H : Hp} {Q : L2.St → Hp → Prop} (h : Q (σ.set i (some v)) H) : gName i v σ H Q := h
theorem take_nextI {ns : List Int} {i : Nat} {d : Int} (h : ns[i]? = some d) : ns.take (i + 1) = ns.take i ++ [d] := by rw [List.take_succ, h]; rfl
theorem flat_len5 {y : Pr} : ∀ {l : List Int}, (l.flatMap fun d => n5.map fun b => ((y.1 + d, y.2 + b) : Pr)).length = l.length * 5
  | [] => rfl
  | x :: l => by
    rw [List.flatMap_cons, List.length_append, flat_len5, List.length_map, List.length_cons, Nat.succ_mul, Nat.add_comm]
    rfl
def rmH (H : Hp) (d : Addr) : Hp := fun b => if b = d then none else H b
theorem rm_at {H : Hp} {d : Addr} : rmH H d d = none := if_pos rfl
theorem rm_ne {H : Hp} {d b : Addr} (h : b ≠ d) : rmH H d b = H b := if_neg h
theorem rm_le {H : Hp} {d : Addr} : Same (rmH H d) H := fun b o e => by
  by_cases c : b = d
  · rw [c, rm_at] at e
    cases e
  · rwa [rm_ne c] at e
theorem cellsL_rm {H : Hp} {l d : Addr} {pss : List (List Pr)} (h : CellsL H l pss) (ne : l ≠ d) (nl : ∀ xs, H d ≠ some (.lst xs)) (nt : ∀ xs, H d ≠ some (.tup xs)) : CellsL (rmH H d) l pss := by
  obtain ⟨ts, h1, h2, h3⟩ := h
  refine ⟨ts, by rw [rm_ne ne]; exact h1, fun t m => ?_, h3⟩
  obtain ⟨us, u1, u2, u3⟩ := h2 t m
  exact ⟨us, by rw [rm_ne fun z => nl _ (by rw [← z]; exact u1)]; exact u1, fun v mv => by rw [rm_ne fun z => nt _ (by rw [← z]; exact u2 v mv)]; exact u2 v mv, u3⟩
def sp_islands : Sp := fun vs H Q _ => ∃ (l : Addr) (ps : List Pr), vs = [.ref l] ∧ Cells H l ps ∧ ps.length ≤ 4000 ∧ ∀ (H' : Hp) (p : Addr) (L : List Pr), H p = none → Same H H' → CanP ps L → CellsL H' p (islL L) → Q (.ref p) H'
theorem addK_fresh {ps : List Pr} {x : Pr} (h : x ∉ ps) : addK ps x = ps ++ [x] := if_neg h
theorem ok_islands (T : Txt K mg) : FnOk P w K mg base CX0 3 T.f_islands T.d_islands ["cells"] sp_islands := by
  refine T.F_islands.ok sc_islands (fun vs H Q E h => ?_) (fun cdv A outer s H vs Q E hr h => ?_)
  · obtain ⟨_, _, rfl, _⟩ := h
    rfl
  · obtain ⟨l, ps, rfl, hC, few, q⟩ := h
    have hu : (A.deeper (envOfC (Str.ofString "islands") (defScope s_islands) s.heap.objs.size T.f_islands cdv)).units + 1 < cLine := by
      have := hr.units
      omega
    refine ⟨_, (pss_cons (ps_set (i := 1) sc_islands.nd rfl (.inl rfl) (pe_call (ok_pattern T) (hr.mono (by decide)) (by rfl) T.g_pattern T.F_pattern.kp T.b_pattern .nil pass0 (pa_cons (pv 0) pa_nil)))
      (pss_cons (ps_setDcT (i := 2) (own := [("cell", 4)]) (tt := tYes) rfl (Nat.lt_of_succ_lt hu) sc_islands.nd rfl rfl (sw_dict rfl rfl rfl (by decide +kernel)) (pi_list (pv 1)) (blkOk_by (own := [("cell", 4)]) (N := N_islands) (sc := defScope s_islands) (by decide +kernel)) (fun _ _ _ _ _ => (pg_name (i := 4) sc_islands.nd rfl (.inl rfl))) (fun _ _ _ _ _ => pts_nil) (fun _ _ _ _ _ => (pv 4)) (fun _ _ _ _ _ => pe_bl))
      (pss_cons (ps_set (i := 3) sc_islands.nd rfl (.inl rfl) (pe_lst pa_nil))
      (pss_cons (ps_for PassesOwn.never rfl (pi_list (pv 1)) (pg_name (i := 4) sc_islands.nd rfl (.inl rfl))
      (pss_cons (ps_mid (ps_set (i := 5) sc_islands.nd rfl (.inl rfl) (pe_ifExp (pt_val (pe_bm PySem.F.plainAttrs_dict PySem.F.slot_dict_pop PySem.F.type_dict_pop (L2.DX.mt_popT hu) (pv 2) (pa_cons (pv 4) (pa_cons pe_bl pa_nil)))) (pe_lst (pa_cons (pv 4) pa_nil)) (pe_lst pa_nil))))
      (pss_cons (ps_set (i := 6) sc_islands.nd rfl (.inl rfl) (pe_lst pa_nil))
      (pss_cons (ps_while PassesOwn.never (pt_truth (pv 5) (by intro _; rfl))
      (pss_cons (ps_asg (pe_bm0 PySem.F.plainAttrs_list PySem.F.slot_list_pop PySem.F.type_list_pop mt_pop (pv 5)) (pg_tupK (K := K) (n := 2) rfl rfl (pgs_cons (pg_name (i := 7) sc_islands.nd rfl (.inr rfl)) (pgs_cons (pg_name (i := 8) sc_islands.nd rfl (.inr rfl)) pgs_nil))))
      (pss_cons (ps_expr (pe_bm PySem.F.plainAttrs_list PySem.F.slot_list_append PySem.F.type_list_append mt_append (pv 6) (pa_cons (pe_tup (pa_cons (pv 7) (pa_cons (pv 8) pa_nil))) pa_nil)))
      (pss_one (ps_for PassesOwn.never rfl (pi_list (pe_lcD (own := [("down", 10), ("beside", 11)]) (vs1 := [11]) rfl sc_islands.nd (pi_tup (pe_gcx (by rfl) T.c_NEAR)) (blkOk_by (own := [("down", 10), ("beside", 11)]) (N := N_islands) (sc := defScope s_islands) (by decide +kernel)) (by decide) (fun _ _ _ _ _ => (pg_name (i := 10) sc_islands.nd rfl (Or.inl rfl))) (fun _ _ _ _ _ => pts_nil) (fun _ _ _ _ _ => (pi_tupK (K := K) rfl (pe_gcx (by rfl) T.c_NEAR))) (fun _ _ _ _ _ => (pg_name (i := 11) sc_islands.nd rfl (Or.inl rfl))) (fun _ _ _ _ _ => pts_nil) (fun _ _ _ _ _ => (pe_tup (pa_cons (pe_op op_add (pv 7) (pv 10)) (pa_cons (pe_op op_add (pv 8) (pv 11)) pa_nil)))))) (pg_name (i := 9) sc_islands.nd rfl (.inl rfl))
      (pss_one (ps_if (pt_val (pe_bm PySem.F.plainAttrs_dict PySem.F.slot_dict_pop PySem.F.type_dict_pop (L2.DX.mt_popT hu) (pv 2) (pa_cons (pv 9) (pa_cons pe_bl pa_nil))))
      (pss_one (ps_expr (pe_bm PySem.F.plainAttrs_list PySem.F.slot_list_append PySem.F.type_list_append mt_append (pv 5) (pa_cons (pv 9) pa_nil))))
      pss_nil)))))))
      (pss_one (ps_if (pt_truth (pv 6) (by intro _; rfl))
      (pss_one (ps_expr (pe_bm PySem.F.plainAttrs_list PySem.F.slot_list_append PySem.F.type_list_append mt_append (pv 3) (pa_cons (pe_call (ok_pattern T) (hr.mono (by decide)) (by rfl) T.g_pattern T.F_pattern.kp T.b_pattern .nil pass0 (pa_cons (pv 6) pa_nil)) pa_nil))))
      pss_nil))))))
      (pss_one (ps_ret (pv 3))))))), ?_⟩
    k_upd
    refine ⟨_, rfl, l, ps, rfl, hC, few, fun H1 lv L n1 e1 hL can lq => ?_⟩
    have pw := can.1
    have nd := nodup_lt pw
    k_upd
    obtain ⟨ts, hl, htt, ets⟩ := id hL
    have lts : ts.length = L.length := by rw [← ets, List.length_map]
    refine ⟨_, rfl, lv, rfl, ⟨_, lst_of hl⟩, fun D nD => dcT_it (walk_list (xs := ts.map fun t => V.ref t.1)) (fun i H' => Same H1 H' ∧ Dct H' D (L.take i) (fun _ => .bl true)) ⟨newS nD, Dct.new _ upd_same⟩ (fun i H' _ p => lst_of (p.1 _ _ hl)) ?_ ?_⟩
    · rintro i x H2 H3 hi ⟨sm, kvs, k1, k2⟩ ⟨rfl, hx⟩
      obtain ⟨t, mt, rfl, hp⟩ := item_cells (H := H3) hx rfl
      rw [ets] at hp
      have li := (List.getElem?_eq_some_iff.mp hp).1
      have nin : t.2 ∉ L.take i := fun m => by
        have := ((before_iff pw hp).mp m).2
        exact ltP_irr this this
      refine ⟨rfl, tyesT ⟨_, rfl, kvs, keyP t.2, t.1, rfl, sm _ _ (htt t mt), k1, by rw [k2.len, List.length_take, sizeLine_eq]; omega, mutS sm nD, _, upd_same, ?_⟩⟩
      have := k2.put t.2 (.bl true)
      rw [addK_fresh nin] at this
      rw [take_next hp]
      refine this.congr fun y _ => ?_
      unfold setG
      by_cases e : y = t.2
      · rw [if_pos e]
      · rw [if_neg e]
    · rintro H2 ⟨s2, hD2⟩
      rw [List.length_map, lts, List.take_of_length_le (Nat.le_refl _)] at hD2
      k_upd
      refine ⟨by k_clsL, fun fl nf => ?_⟩
      have nf1 : H1 fl = none := backS s2 nf
      have fD : fl ≠ D := fun z => by rw [z, hD2.choose_spec.1] at nf; cases nf
      k_invariant "new" (nf, H3, e3, g3)
      k_upd
      refine ⟨_, rfl, lv, rfl, ⟨_, lst_of ((s2.trans e3) _ _ hl)⟩, for_list (K := K) (a := lv) (xs := ts.map fun t => V.ref t.1) (fun i σ H' => ∃ (x4 x5 x6 x7 x8 x9 x10 x11 : Option V) (ks : List Pr), σ = [some (.ref l), some (.ref lv), some (.ref D), some (.ref fl), x4, x5, x6, x7, x8, x9, x10, x11] ∧ Same H1 H' ∧ CellsL H' fl (((L.take i).filter (frst L)).map (compL L)) ∧ Dct H' D ks (fun _ => .bl true) ∧ ks.length ≤ L.length ∧ ∀ y, y ∈ ks ↔ Left L i y)
        ⟨_, _, _, _, _, _, _, _, L, rfl, s2.trans e3, ⟨[], g3, (fun t m => by cases m), rfl⟩, hD2.up e3, Nat.le_refl _, fun y => ⟨fun m => ⟨m, fun x z => by cases z⟩, fun z => z.1⟩⟩ ?_ ?_ ?_⟩
      · rintro i σ H' _ ⟨_, _, _, _, _, _, _, _, _, _, s, _⟩
        exact lst_of (s _ _ hl)
      · rintro i x σ H4 hi ⟨x4, x5, x6, x7, x8, x9, x10, x11, ks, rfl, s4, hF, hK, lks, hks⟩
        obtain ⟨⟨tx, x⟩, mt, rfl, hp⟩ := item_cells (H := H4) hi rfl
        rw [ets] at hp
        dsimp only at hp
        have ht4 : H4 tx = some (.tup [.int x.1, .int x.2]) := s4 _ _ (htt _ mt)
        obtain ⟨kvs, k1, k2⟩ := hK
        k_upd
        have kD : ∀ xs, H4 D ≠ some (.lst xs) := fun xs z => by rw [k1] at z; cases z
        have kT : ∀ xs, H4 D ≠ some (.tup xs) := fun xs z => by rw [k1] at z; cases z
        obtain ⟨Hb, eHb⟩ : ∃ Hb, Hb = rmH H4 D := ⟨_, rfl⟩
        have nDb : Hb D = none := by rw [eHb]; exact rm_at
        have sb : Same H1 Hb := fun b o e => by
          rw [eHb, rm_ne fun z => by rw [z, nD] at e; cases e]
          exact s4 _ _ e
        have s4b : Same Hb H4 := by rw [eHb]; exact rm_le
        have hFb : CellsL Hb fl (((L.take i).filter (frst L)).map (compL L)) := by rw [eHb]; exact cellsL_rm hF fD kD kT
        refine ⟨fun σ' H' => ∃ (wl : Addr) (x6 x7 x8 x9 x10 x11 : Option V) (ks' Ws : List Pr), σ' = [some (.ref l), some (.ref lv), some (.ref D), some (.ref fl), some (.ref tx), some (.ref wl), x6, x7, x8, x9, x10, x11] ∧ Same Hb H' ∧ Dct H' D ks' (fun _ => .bl true) ∧ Cells H' wl Ws ∧ Hb wl = none ∧ wl ≠ D ∧
          Dfs L i x (nearSome []) Ws [] ks', ?_, ?_⟩
        · refine ⟨_, rfl, .inr (.inr (.inl ⟨rfl, .inr ⟨kvs, k1⟩⟩)), _, rfl, D, kvs, keyP x, tx, .bl false, rfl, rfl, k1, ht4, fun v hv => ?_, fun hn => ?_⟩
          · rw [k2.get x] at hv
            by_cases m : x ∈ ks
            · rw [if_pos m] at hv
              have hv := Option.some.inj hv
              subst hv
              refine ⟨_, rfl, iteT ?_⟩
              have d5 : Dct (upd H4 D (.dT (dropK kvs (keyP x)))) D (ks.filter fun y => decide (y ≠ x)) (fun _ => .bl true) := ⟨_, upd_same, k2.drop x⟩
              have s5 : Same Hb (upd H4 D (.dT (dropK kvs (keyP x)))) := mutS s4b nDb
              have ht5 : upd H4 D (.dT (dropK kvs (keyP x))) tx = some (.tup [.int x.1, .int x.2]) := by rw [upd_ne fun z => by rw [z] at ht4; exact kT _ ht4]; exact ht4
              generalize upd H4 D (.dT (dropK kvs (keyP x))) = H5 at d5 s5 ht5 ⊢
              refine ⟨_, rfl, by k_clsL, fun wl nw => ?_⟩
              have wD : wl ≠ D := fun z => by rw [z, d5.choose_spec.1] at nw; cases nw
              k_invariant "new" (nw, H6, e6, g6)
              refine ⟨wl, _, _, _, _, _, _, _, [x], rfl, s5.trans e6, d5.up e6, ⟨[(tx, x)], g6, (fun t m => by rw [List.mem_singleton.mp m]; exact e6 _ _ ht5), rfl⟩, backS s5 nw, wD, Dfs.yes ((hks x).mp m) (fun y => by rw [List.mem_filter, decide_eq_true_iff, hks]) (by
                have lt : (ks.filter fun w => decide (w ≠ x)).length < ks.length := List.length_filter_lt_length_iff_exists.mpr ⟨x, m, by simp⟩
                omega)⟩
            · rw [if_neg m] at hv
              cases hv
          · have m : x ∉ ks := fun m => by
              rw [k2.get x, if_pos m] at hn
              cases hn
            refine ⟨_, rfl, iteF ?_⟩
            refine ⟨by k_clsL, fun wl nw => ?_⟩
            have wD : wl ≠ D := fun z => by rw [z, k1] at nw; cases nw
            k_invariant "new" (nw, H6, e6, g6)
            exact ⟨wl, _, _, _, _, _, _, ks, [], rfl, s4b.trans e6, ⟨kvs, e6 _ _ k1, k2⟩, ⟨[], g6, (fun t m => by cases m), rfl⟩, backS s4b nw, wD, Dfs.no (fun z => m ((hks x).mpr z)) hks lks⟩
        · clear hF k1 k2 hks kD kT ht4 s4 s4b eHb
          rintro σ' H5 ⟨wl, x6, x7, x8, x9, x10, x11, ks', Ws, rfl, s5, hK, hW, nwb, wD, dfs⟩
          refine ⟨by k_clsL, fun il nil' => ?_⟩
          have iD : il ≠ D := fun z => by rw [z, hK.choose_spec.1] at nil'; cases nil'
          have iw : il ≠ wl := fun z => by rw [z, hW.choose_spec.1] at nil'; cases nil'
          have nib : Hb il = none := backS s5 nil'
          k_invariant "new" (nil', H6, e6, g6)
          refine gName_go ?_
          k_upd
          refine while_by (fun σ H' => ∃ (x7 x8 x9 x10 x11 : Option V) (ks Ws Is : List Pr), σ = [some (.ref l), some (.ref lv), some (.ref D), some (.ref fl), some (.ref tx), some (.ref wl), some (.ref il), x7, x8, x9, x10, x11] ∧ Same Hb H' ∧ Dct H' D ks (fun _ => .bl true) ∧ Cells H' wl Ws ∧ Cells H' il Is ∧ Dfs L i x (nearSome Is) Ws Is ks)
              (fun _ H' => match H' il with | some (.lst xs) => L.length - xs.length | _ => 0)
              ⟨_, _, _, _, _, ks', Ws, [], rfl, s5.trans e6, hK.up e6, hW.up e6, ⟨[], g6, (fun t m => by cases m), rfl⟩, dfs⟩ ?_ ?_
          · clear hK hW s5 e6 g6 nil' dfs
            rintro σ H7 ⟨x7, x8, x9, x10, x11, ks, Ws, Is, rfl, s7b, hK, hW, hI, dfs⟩
            have s7 : Same H1 H7 := sb.trans s7b
            have hF := hFb.up s7b
            obtain ⟨us, hw, huw, euw⟩ := id hW
            rcases List.eq_nil_or_concat us with z | ⟨us', u, z⟩
            · subst z
              refine ⟨_, rfl, _, .inl ⟨_, lst_of hw, rfl⟩, iteF ?_⟩
              have euw : Ws = [] := euw.symm
              subst euw
              have left := dfs.left hp
              have lks : ks.length ≤ L.length := by have := dfs.n; simp at this; omega
              obtain ⟨vs, hi2, hiv, eiv⟩ := id hI
              by_cases hx : Left L i x
              · have fr := (left_frst pw hp).mp hx
                have dn := dfs.done hx
                have mx : x ∈ Is := (dn x).mpr (.refl hx.1)
                have vne : (vs.map fun t => V.ref t.1) ≠ [] := fun z => by
                  have : vs = [] := List.map_eq_nil_iff.mp z
                  rw [this] at eiv
                  rw [← eiv] at mx
                  cases mx
                obtain ⟨v0, vr, ev⟩ := List.exists_cons_of_ne_nil vne
                rw [ev] at hi2
                refine ⟨_, rfl, _, .inl ⟨_, lst_of hi2, rfl⟩, iteT ?_⟩
                obtain ⟨xf, hxf, lxf⟩ := hF.lst
                have lIs : Is.length ≤ 4000 := by have := dfs.n; omega
                refine ⟨_, rfl, .inl ⟨rfl, _, lst_of hxf⟩, _, rfl, il, Is, rfl, hI, lIs, fun H8 pt qs n8 e8 h8 can8 _ => ?_⟩
                have eqs : qs = compL L x := ascP_eq can8.1 (compL_pw pw x) fun z => by rw [can8.2, dn, mem_compL]
                rw [eqs] at h8
                have ptf : pt ≠ fl := fun z => by rw [z, hxf] at n8; cases n8
                refine ⟨_, _, _, rfl, rfl, e8 _ _ hxf, ?_, ?_⟩
                · rw [lxf, List.length_map, sizeLine_eq]
                  have := List.length_filter_le (frst L) (L.take i)
                  rw [List.length_take] at this
                  omega
                · refine ⟨_, _, _, _, _, _, _, _, ks, rfl, mutS (s7.trans e8) nf1, ?_, ?_, lks, left⟩
                  · rw [take_next hp, List.filter_append, List.map_append, List.filter_cons_of_pos fr]
                    exact (hF.up e8).add (e8 _ _ hxf) h8 ptf
                  · obtain ⟨kv, q1, q2⟩ := hK
                    exact ⟨kv, by rw [upd_ne fD.symm]; exact e8 _ _ q1, q2⟩
              · have fr : ¬ frst L x = true := fun z => hx ((left_frst pw hp).mpr z)
                have ie : Is = [] := List.eq_nil_iff_forall_not_mem.mpr fun z m => hx (dfs.a z (.inr m)).1
                subst ie
                have ve : vs = [] := List.map_eq_nil_iff.mp eiv
                subst ve
                refine ⟨_, rfl, _, .inl ⟨_, lst_of hi2, rfl⟩, iteF ?_⟩
                refine ⟨_, _, _, _, _, _, _, _, ks, rfl, s7, ?_, hK, lks, left⟩
                rw [take_next hp, List.filter_append, List.filter_cons_of_neg fr, List.filter_nil, List.append_nil]
                exact hF
            · rw [List.concat_eq_append] at z
              subst z
              obtain ⟨tu, y⟩ := u
              have euw2 : Ws = us'.map (·.2) ++ [y] := by rw [← euw, List.map_append]; rfl
              rw [List.map_append] at hw
              have hw : H7 wl = some (.lst ((us'.map fun t => V.ref t.1) ++ [V.ref tu])) := hw
              have htu : H7 tu = some (.tup [.int y.1, .int y.2]) := huw (tu, y) (List.mem_append.mpr (.inr List.mem_cons_self))
              refine ⟨_, rfl, _, .inl ⟨_, lst_of hw, by simp⟩, iteT ?_⟩
              k_upd
              refine ⟨_, rfl, .inl ⟨rfl, _, lst_of hw⟩, wl, _, .ref tu, rfl, rfl, hw, ?_, ?_⟩
              · rw [List.length_append, List.length_singleton, Nat.add_sub_cancel, List.getElem?_append_right (Nat.le_refl _), Nat.sub_self]
                rfl
              rw [List.dropLast_concat]
              have ntw : ∀ {d : Addr} {u : HO}, H7 d = some u → (∀ xs, u ≠ .lst xs) → d ≠ wl := fun e n z => by
                rw [z, hw] at e
                exact n _ (Option.some.inj e).symm
              have s8b : Same Hb (upd H7 wl (.lst (us'.map fun t => V.ref t.1))) := mutS s7b nwb
              have hK8 : Dct (upd H7 wl (.lst (us'.map fun t => V.ref t.1))) D ks (fun _ => .bl true) := hK.off wD.symm
              have hW8 : Cells (upd H7 wl (.lst (us'.map fun t => V.ref t.1))) wl (us'.map (·.2)) := ⟨us', upd_same, fun t m => by
                have := huw t (List.mem_append.mpr (.inl m))
                rw [upd_ne (ntw this fun _ z => by cases z)]
                exact this, rfl⟩
              obtain ⟨vs, hi2, hiv, eiv⟩ := id hI
              have hI8 : Cells (upd H7 wl (.lst (us'.map fun t => V.ref t.1))) il Is := ⟨vs, by rw [upd_ne iw]; exact hi2, fun t m => by
                have := hiv t m
                rw [upd_ne (ntw this fun _ z => by cases z)]
                exact this, eiv⟩
              have htu8 : upd H7 wl (.lst (us'.map fun t => V.ref t.1)) tu = some (.tup [.int y.1, .int y.2]) := by
                rw [upd_ne (ntw htu fun _ z => by cases z)]
                exact htu
              rw [euw2] at dfs
              have dfs8 := dfs.take
              generalize upd H7 wl (.lst (us'.map fun t => V.ref t.1)) = H8 at s8b hK8 hW8 hI8 htu8 ⊢
              refine ⟨tu, _, rfl, tup_of htu8, rfl, _, _, rfl, _, _, rfl, rfl, ?_⟩
              k_upd
              obtain ⟨vs, hi8, hiv8, eiv8⟩ := id hI8
              have lvs : vs.length ≤ 4000 := by
                have z := congrArg List.length eiv8
                rw [List.length_map] at z
                have := dfs8.n
                rw [List.length_append] at this
                omega
              refine ⟨_, rfl, .inl ⟨rfl, _, lst_of hi8⟩, _, rfl, _, rfl, by k_clsL, fun t nt => ?_⟩
              have ti : t ≠ il := fun z => by rw [z, hi8] at nt; cases nt
              k_invariant "new" (nt, H9, e9, g9)
              refine ⟨_, _, _, rfl, rfl, e9 _ _ hi8, by rw [List.length_map, sizeLine_eq]; omega, ?_⟩
              have nti : ∀ {d : Addr} {u : HO}, H9 d = some u → (∀ xs, u ≠ .lst xs) → d ≠ il := fun e n z => by
                rw [z, e9 _ _ hi8] at e
                exact n _ (Option.some.inj e).symm
              have s10b : Same Hb (upd H9 il (.lst (vs.map (fun t => V.ref t.1) ++ [V.ref t]))) := mutS (s8b.trans e9) nib
              have hK10 : Dct (upd H9 il (.lst (vs.map (fun t => V.ref t.1) ++ [V.ref t]))) D ks (fun _ => .bl true) := (hK8.up e9).off iD.symm
              have hW10 : Cells (upd H9 il (.lst (vs.map (fun t => V.ref t.1) ++ [V.ref t]))) wl (us'.map (·.2)) := by
                obtain ⟨ws, w1, w2, w3⟩ := hW8.up e9
                exact ⟨ws, by rw [upd_ne iw.symm]; exact w1, fun u m => by rw [upd_ne (nti (w2 u m) fun _ z => by cases z)]; exact w2 u m, w3⟩
              have hI10 : Cells (upd H9 il (.lst (vs.map (fun t => V.ref t.1) ++ [V.ref t]))) il (Is ++ [y]) := by
                refine ⟨vs ++ [(t, y)], by rw [upd_same, List.map_append]; rfl, fun u m => ?_, by rw [List.map_append, eiv8]; rfl⟩
                rcases List.mem_append.mp m with m | m
                · have := e9 _ _ (hiv8 u m)
                  rw [upd_ne (nti this fun _ z => by cases z)]
                  exact this
                · rw [List.mem_singleton.mp m, upd_ne ti]
                  exact g9
              have hm7 : (match H7 il with | some (.lst xs) => L.length - xs.length | _ => 0) = L.length - Is.length := by
                rw [hi2]
                dsimp only
                rw [List.length_map, ← eiv, List.length_map]
              rw [hm7]
              clear hm7
              generalize upd H9 il (.lst (vs.map (fun t => V.ref t.1) ++ [V.ref t])) = H10 at s10b hK10 hW10 hI10 ⊢
              refine ⟨T.a_NEAR, rfl, ⟨_, T.t_NEAR _⟩, fun N nN => turns_tup (K := K) (a := T.a_NEAR) (xs := n5.map V.int) (fun j H' => Same H10 H' ∧ Cells H' N ((n5.take j).flatMap fun d => n5.map fun b => (y.1 + d, y.2 + b)))
                ⟨newS nN, [], upd_same, (fun t m => by cases m), rfl⟩ (fun j H' _ _ => T.t_NEAR H') ?_ ?_⟩
              · rintro j v H11 hj ⟨s11, hN11⟩
                rw [List.getElem?_map] at hj
                obtain ⟨d, ed, rfl⟩ := Option.map_eq_some_iff.mp hj
                refine ⟨rfl, tyesT ?_⟩
                refine ⟨T.a_NEAR, rfl, ⟨_, T.t_NEAR _⟩, turns_tup (K := K) (a := T.a_NEAR) (xs := n5.map V.int) (fun k H' => Same H10 H' ∧ Cells H' N (((n5.take j).flatMap fun d => n5.map fun b => (y.1 + d, y.2 + b)) ++ (n5.take k).map fun b => (y.1 + d, y.2 + b)))
                  ⟨s11, by rw [List.take_zero, List.map_nil, List.append_nil]; exact hN11⟩ (fun j H' _ _ => T.t_NEAR H') ?_ ?_⟩
                · rintro k v H12 hk ⟨s12, ns, hN, hns, ens⟩
                  rw [List.getElem?_map] at hk
                  obtain ⟨b, eb, rfl⟩ := Option.map_eq_some_iff.mp hk
                  refine ⟨rfl, tyesT ?_⟩
                  refine ⟨_, rfl, _, rfl, _, _, rfl, rfl, _, rfl, _, rfl, _, _, rfl, rfl, by k_clsL, fun t2 n2 => ?_⟩
                  have n2N : t2 ≠ N := fun z => by rw [z, hN] at n2; cases n2
                  k_invariant "new" (n2, H13, e13, g13)
                  refine ⟨_, e13 _ _ hN, ?_, mutS (s12.trans e13) nN, ns ++ [(t2, (y.1 + d, y.2 + b))], by rw [upd_same, List.map_append]; rfl, fun u m => ?_, ?_⟩
                  · have z := congrArg List.length ens
                    rw [List.length_map, List.length_append, List.length_map, flat_len5] at z
                    have h1 : (n5.take j).length ≤ 5 := by rw [List.length_take]; exact Nat.min_le_right _ _
                    have h2 : (n5.take k).length ≤ 5 := by rw [List.length_take]; exact Nat.min_le_right _ _
                    rw [List.length_map, z, sizeLine_eq]
                    omega
                  · rcases List.mem_append.mp m with m | m
                    · rw [upd_ne fun z => by have := hns u m; rw [z, hN] at this; cases this]
                      exact e13 _ _ (hns u m)
                    · rw [List.mem_singleton.mp m, upd_ne n2N]
                      exact g13
                  · rw [List.map_append, ens, take_nextI eb, List.map_append, List.append_assoc]
                    rfl
                · rintro H12 ⟨s12, hN12⟩
                  refine ⟨s12, ?_⟩
                  rw [take_nextI ed, List.flatMap_append, List.flatMap_cons, List.flatMap_nil, List.append_nil]
                  exact hN12
              · rintro H11 ⟨s11, hN11⟩
                have hN11 : Cells H11 N (n25 y) := hN11
                obtain ⟨ns, hN, hns, ens⟩ := hN11
                have nNb : Hb N = none := backS s10b nN
                have wN : wl ≠ N := fun z => by rw [← z, hW10.choose_spec.1] at nN; cases nN
                have iN : il ≠ N := fun z => by rw [← z, hI10.choose_spec.1] at nN; cases nN
                have DN : D ≠ N := fun z => by rw [← z, hK10.choose_spec.1] at nN; cases nN
                have lns : ns.length = (n25 y).length := by rw [← ens, List.length_map]
                refine ⟨N, rfl, ⟨_, lst_of hN⟩, for_list (K := K) (a := N) (xs := ns.map fun t => V.ref t.1) (fun k σ H' => ∃ (x9 x10 x11 : Option V) (ks Ws : List Pr), σ = [some (.ref l), some (.ref lv), some (.ref D), some (.ref fl), some (.ref tx), some (.ref wl), some (.ref il), some (.int y.1), some (.int y.2), x9, x10, x11] ∧ Same Hb H' ∧ H' N = some (.lst (ns.map fun t => V.ref t.1)) ∧ (∀ u ∈ ns, H' u.1 = some (.tup [.int u.2.1, .int u.2.2])) ∧ Dct H' D ks (fun _ => .bl true) ∧ Cells H' wl Ws ∧ Cells H' il (Is ++ [y]) ∧ Dfs L i x (fun z => nearSome Is z ∨ z ∈ (n25 y).take k) Ws (Is ++ [y]) ks)
                  ⟨_, _, _, ks, us'.map (·.2), rfl, s10b.trans s11, hN, hns, hK10.up s11, hW10.up s11, hI10.up s11, by rw [List.take_zero]; exact dfs8⟩ ?_ ?_ ?_⟩
                · rintro k σ H' _ ⟨_, _, _, _, _, _, _, h, _⟩
                  exact lst_of h
                · clear hK10 hW10 hI10 dfs8 s10b s11 hN hns
                  rintro k v σ H12 hk ⟨x9, x10, x11, ks, Ws, rfl, s12, hN, hns, ⟨kvs, k1, k2⟩, ⟨ws, w1, w2, w3⟩, hI12, dfs⟩
                  obtain ⟨⟨tz, z⟩, mz, rfl, hz⟩ := item_cells (H := H12) hk rfl
                  rw [ens] at hz
                  dsimp only at hz
                  have htz : H12 tz = some (.tup [.int z.1, .int z.2]) := hns _ mz
                  have near : nearP y z := mem_n25.mp (List.mem_of_getElem? hz)
                  have my : y ∈ Is ++ [y] := List.mem_append.mpr (.inr List.mem_cons_self)
                  k_upd
                  refine ⟨_, rfl, .inr (.inr (.inl ⟨rfl, .inr ⟨kvs, k1⟩⟩)), _, rfl, D, kvs, keyP z, tz, .bl false, rfl, rfl, k1, htz, fun v hv => ?_, fun hn => ?_⟩
                  · rw [k2.get z] at hv
                    by_cases m : z ∈ ks
                    · rw [if_pos m] at hv
                      have hv := Option.some.inj hv
                      subst hv
                      refine ⟨_, rfl, iteT ?_⟩
                      have nt13 : ∀ {d : Addr} {u : HO}, H12 d = some u → (∀ kv, u ≠ .dT kv) → d ≠ D := fun e n z => by
                        rw [z, k1] at e
                        exact n _ (Option.some.inj e).symm
                      have s13 : Same Hb (upd H12 D (.dT (dropK kvs (keyP z)))) := mutS s12 nDb
                      have d13 : Dct (upd H12 D (.dT (dropK kvs (keyP z)))) D (ks.filter fun y => decide (y ≠ z)) (fun _ => .bl true) := ⟨_, upd_same, k2.drop z⟩
                      have w13 : upd H12 D (.dT (dropK kvs (keyP z))) wl = some (.lst (ws.map fun t => V.ref t.1)) := by rw [upd_ne wD]; exact w1
                      have N13 : upd H12 D (.dT (dropK kvs (keyP z))) N = some (.lst (ns.map fun t => V.ref t.1)) := by rw [upd_ne DN.symm]; exact hN
                      have t13 : ∀ {d : Addr} {xs : List V}, H12 d = some (.tup xs) → upd H12 D (.dT (dropK kvs (keyP z))) d = some (.tup xs) := fun e => by
                        rw [upd_ne (nt13 e fun _ z => by cases z)]
                        exact e
                      have i13 : Cells (upd H12 D (.dT (dropK kvs (keyP z)))) il (Is ++ [y]) := by
                        obtain ⟨us, u1, u2, u3⟩ := hI12
                        exact ⟨us, by rw [upd_ne iD]; exact u1, fun t m => t13 (u2 t m), u3⟩
                      have tz13 := t13 htz
                      have ws13 : ∀ u ∈ ws, upd H12 D (.dT (dropK kvs (keyP z))) u.1 = some (.tup [.int u.2.1, .int u.2.2]) := fun u m => t13 (w2 u m)
                      have ns13 : ∀ u ∈ ns, upd H12 D (.dT (dropK kvs (keyP z))) u.1 = some (.tup [.int u.2.1, .int u.2.2]) := fun u m => t13 (hns u m)
                      clear t13
                      generalize upd H12 D (.dT (dropK kvs (keyP z))) = H13 at s13 d13 w13 N13 i13 tz13 ws13 ns13 ⊢
                      have lws : ws.length ≤ 4000 := by
                        have z := congrArg List.length w3
                        rw [List.length_map] at z
                        have := dfs.n
                        omega
                      refine ⟨_, rfl, .inl ⟨rfl, _, lst_of w13⟩, _, rfl, _, _, _, rfl, rfl, w13, by rw [List.length_map, sizeLine_eq]; omega, ?_⟩
                      have ntw13 : ∀ {d : Addr} {xs : List V}, H13 d = some (.tup xs) → upd H13 wl (.lst (ws.map (fun t => V.ref t.1) ++ [V.ref tz])) d = some (.tup xs) := fun e => by
                        rw [upd_ne fun z => by rw [z, w13] at e; cases e]
                        exact e
                      refine ⟨_, _, _, _, Ws ++ [z], rfl, mutS s13 nwb, by rw [upd_ne wN.symm]; exact N13, fun u m => ntw13 (ns13 u m), d13.off wD.symm, ⟨ws ++ [(tz, z)], by rw [upd_same, List.map_append]; rfl, fun u m => ?_, by rw [List.map_append, w3]; rfl⟩, ?_, ?_⟩
                      · rcases List.mem_append.mp m with m | m
                        · exact ntw13 (ws13 u m)
                        · rw [List.mem_singleton.mp m]
                          exact ntw13 tz13
                      · obtain ⟨us, u1, u2, u3⟩ := i13
                        exact ⟨us, by rw [upd_ne iw]; exact u1, fun t m => ntw13 (u2 t m), u3⟩
                      · rw [take_next hz]
                        exact dfs.pop my near m
                    · rw [if_neg m] at hv
                      cases hv
                  · have m : z ∉ ks := fun m => by
                      rw [k2.get z, if_pos m] at hn
                      cases hn
                    refine ⟨_, rfl, iteF ?_⟩
                    refine ⟨_, _, _, ks, Ws, rfl, s12, hN, hns, ⟨kvs, k1, k2⟩, ⟨ws, w1, w2, w3⟩, hI12, ?_⟩
                    rw [take_next hz]
                    exact dfs.skip m
                · rintro σ H12 ⟨x9, x10, x11, ks, Ws, rfl, s12, hN, hns, hK12, hW12, hI12, dfs⟩
                  rw [List.length_map, lns, List.take_of_length_le (Nat.le_refl _)] at dfs
                  have dfs := dfs.whole fun z h => mem_n25.mpr h
                  refine ⟨⟨_, _, _, _, _, ks, Ws, Is ++ [y], rfl, s12, hK12, hW12, hI12, dfs⟩, ?_⟩
                  obtain ⟨us, u1, u2, u3⟩ := hI12
                  rw [u1]
                  dsimp only
                  have z := congrArg List.length u3
                  rw [List.length_map, List.length_append, List.length_singleton] at z
                  have := dfs.n
                  rw [List.length_append, List.length_singleton] at this
                  rw [List.length_map, z]
                  omega
          · exact fun σ H Q Q' m h => h.elim fun v h => ⟨v, h.1, h.2.elim fun k h => ⟨k, h.1, m _ _ h.2⟩⟩
      · rintro σ H4 ⟨x4, x5, x6, x7, x8, x9, x10, x11, ks, rfl, s4, hF, hK, lks, hks⟩
        rw [List.length_map, lts, List.take_of_length_le (Nat.le_refl _)] at hF
        exact ⟨_, rfl, q H4 fl L (backS e1 nf1) (e1.trans s4) can hF⟩
end
end My
namespace My
open PySem PySem.Spec PyProof.Rows L2 Vx
open TL
local macro_rules | `(tactic| k_invariant "new" ($n, $H:ident, $e:ident, $h:ident)) => `(tactic| (generalize hE : upd _ _ _ = $H; obtain ⟨$e:ident, $h:ident⟩ := gen_e hE $n; clear hE))
local macro_rules | `(tactic| k_places) => `(tactic| first
  | assumption
  | exact lst_of (by assumption)
  | exact tup_of (by assumption)
  | (refine getS (by assumption) ?_; k_places)
  | (refine Same.seq (by assumption) ?_; k_places)
  | (refine tupS (by assumption) ?_; k_places)
  | (refine lst_of ?_; k_places)
  | (refine tup_of ?_; k_places))
local macro_rules | `(tactic| k_subL) => `(tactic| first
  | k_places
  | solve_by_elim (maxDepth := 10) [getS, lst_of, tup_of, Same.seq, tupS])
local macro_rules | `(tactic| k_offL) => `(tactic| first
  | (show (0 : Int) < _; first | omega | decide)
  | (refine ⟨?_, ?_⟩ <;> first | omega | decide)
  | exact .inr ⟨by decide, by decide⟩
  | exact .inl ⟨by decide, by decide⟩
  | exact .inl ⟨by omega, by omega⟩
  | omega)
local macro_rules | `(tactic| k_clsL) => `(tactic| exact Nat.le_of_ble_eq_true rfl)
local macro_rules | `(tactic| k_upd) => `(tactic| simp only [L2.start, List.map_cons, List.map_nil, List.length_cons, List.length_nil, List.replicate_succ, List.replicate_zero, List.cons_append, List.nil_append, List.set_cons_zero, List.set_cons_succ])
section
variable {P : Program} {w : World} {K : PySem.W.Frag} {mg : Str → Option Value} {base : Heap}
/-! ### one list for each set of pairs -/
def insP (x : Pr) : List Pr → List Pr
  | [] => [x]
  | y :: l => if ltP x y then x :: y :: l else if x = y then y :: l else y :: insP x l
theorem mem_insP {x z : Pr} : ∀ {l : List Pr}, z ∈ insP x l ↔ z = x ∨ z ∈ l
  | [] => by simp [insP]
  | y :: l => by
    unfold insP
    split
    · simp
    · split
      · next e => subst e; simp
      · rw [List.mem_cons, mem_insP, List.mem_cons]
        constructor
        · rintro (a | a | a)
          · exact .inr (.inl a)
          · exact .inl a
          · exact .inr (.inr a)
        · rintro (a | a | a)
          · exact .inr (.inl a)
          · exact .inl a
          · exact .inr (.inr a)
theorem ltP_tri {x y : Pr} (h : ¬ ltP x y) (n : ¬ x = y) : ltP y x := by
  have h : ¬ (x.1 < y.1 ∨ (x.1 = y.1 ∧ x.2 < y.2)) := fun z => h (ltP_iff.mpr z)
  refine ltP_iff.mpr ?_
  have n : ¬ (x.1 = y.1 ∧ x.2 = y.2) := fun z => n (Prod.ext z.1 z.2)
  omega
theorem ltP_tr {x y z : Pr} (h : ltP x y) (h2 : ltP y z) : ltP x z := by
  have h := ltP_iff.mp h
  have h2 := ltP_iff.mp h2
  refine ltP_iff.mpr ?_
  omega
theorem pw_insP {x : Pr} : ∀ {l : List Pr}, l.Pairwise ltP → (insP x l).Pairwise ltP
  | [], _ => List.pairwise_singleton _ _
  | y :: l, h => by
    obtain ⟨h1, h2⟩ := List.pairwise_cons.mp h
    unfold insP
    split
    · next c =>
      refine List.pairwise_cons.mpr ⟨fun z m => ?_, h⟩
      rcases List.mem_cons.mp m with e | m
      · rw [e]
        exact c
      · exact ltP_tr c (h1 z m)
    · split
      · exact h
      · next c n =>
        refine List.pairwise_cons.mpr ⟨fun z m => ?_, pw_insP h2⟩
        rcases mem_insP.mp m with e | m
        · rw [e]
          exact ltP_tri c n
        · exact h1 z m
theorem len_insP {x : Pr} : ∀ {l : List Pr}, (insP x l).length ≤ l.length + 1
  | [] => Nat.le_refl _
  | y :: l => by
    unfold insP
    split
    · exact Nat.le_refl _
    · split
      · exact Nat.le_succ _
      · exact Nat.succ_le_succ len_insP
def can : List Pr → List Pr
  | [] => []
  | x :: l => insP x (can l)
theorem can_pw : ∀ l : List Pr, (can l).Pairwise ltP
  | [] => List.Pairwise.nil
  | x :: l => pw_insP (can_pw l)
theorem mem_can {z : Pr} : ∀ {l : List Pr}, z ∈ can l ↔ z ∈ l
  | [] => Iff.rfl
  | x :: l => by
    show z ∈ insP x (can l) ↔ _
    rw [mem_insP, mem_can, List.mem_cons]
theorem can_len : ∀ l : List Pr, (can l).length ≤ l.length
  | [] => Nat.le_refl _
  | x :: l => Nat.le_trans len_insP (Nat.succ_le_succ (can_len l))
theorem can_eq {l m : List Pr} (h : CanP l m) : m = can l := ascP_eq h.1 (can_pw l) fun k => (h.2 k).trans mem_can.symm
theorem can_asc {l : List Pr} (h : l.Pairwise ltP) : can l = l := ascP_eq (can_pw l) h fun _ => mem_can
theorem can_congr {l m : List Pr} (h : ∀ x, x ∈ l ↔ x ∈ m) : can l = can m := ascP_eq (can_pw l) (can_pw m) fun k => mem_can.trans ((h k).trans mem_can.symm)
theorem can_shift (l : List Pr) (a b : Int) : can (l.map (addP a b)) = (can l).map (addP a b) := by
  refine ascP_eq (can_pw _) (pw_map (fun x y h => ?_) (can_pw l)) fun k => mem_can.trans (mem_map2 (fun x => mem_can.symm) k)
  have h := ltP_iff.mp h
  refine ltP_iff.mpr ?_
  unfold addP
  dsimp only
  omega
theorem can_can (l : List Pr) (f : Pr → Pr) : can ((can l).map f) = can (l.map f) := can_congr fun k => mem_map2 (fun _ => mem_can) k
/-! ### the eight images -/
def D8 (d : Bool × Bool × Bool) (x : Pr) : Pr :=
  ((if d.2.1 = true then -(if d.1 = true then x.2 else x.1) else (if d.1 = true then x.2 else x.1)), (if d.2.2 = true then -(if d.1 = true then x.1 else x.2) else (if d.1 = true then x.1 else x.2)))
def ds8 : List (Bool × Bool × Bool) := [(false, false, false), (true, false, true), (false, true, true), (true, true, false), (false, false, true), (true, true, true), (false, true, false), (true, false, false)]
def compD (d e : Bool × Bool × Bool) : Bool × Bool × Bool := (d.1 ^^ e.1, d.2.1 ^^ (if d.1 = true then e.2.2 else e.2.1), d.2.2 ^^ (if d.1 = true then e.2.1 else e.2.2))
theorem D8_comp (d e : Bool × Bool × Bool) (x : Pr) : D8 d (D8 e x) = D8 (compD d e) x := by
  obtain ⟨a, b, c⟩ := d
  obtain ⟨a', b', c'⟩ := e
  obtain ⟨x, y⟩ := x
  cases a <;> cases b <;> cases c <;> cases a' <;> cases b' <;> cases c' <;> simp [D8, compD]
theorem D8_add (d : Bool × Bool × Bool) (a b : Int) (x : Pr) : D8 d (addP a b x) = addP (D8 d (a, b)).1 (D8 d (a, b)).2 (D8 d x) := by
  obtain ⟨p, q, r⟩ := d
  obtain ⟨x, y⟩ := x
  cases p <;> cases q <;> cases r <;> simp [D8, addP] <;> omega
theorem mem_ds8 : ∀ a b c : Bool, (a, b, c) ∈ ds8 := by decide
theorem solve_ds8 : ∀ a b c a' b' c' : Bool, ∃ d ∈ ds8, compD d (a', b', c') = (a, b, c) := by decide
def imgs (ps : List Pr) : List (List Pr) := ds8.map fun d => can (ps.map (D8 d))
def minI : List Int → Int
  | [] => 0
  | x :: l => l.foldl min x
theorem minI_least : ∀ (l : List Int) (x : Int), Least (minI (x :: l)) (x :: l)
  | [], x => ⟨List.mem_cons_self, fun y m => by rw [List.mem_singleton.mp m]; exact Int.le_refl _⟩
  | y :: l, x => by
    have ih := minI_least l (min x y)
    show Least (minI (min x y :: l)) (x :: y :: l)
    generalize minI (min x y :: l) = m at ih
    obtain ⟨h1, h2⟩ := ih
    have hm := h2 _ List.mem_cons_self
    constructor
    · rcases List.mem_cons.mp h1 with e | h1
      · by_cases c : x ≤ y
        · rw [e, Int.min_eq_left c]
          exact List.mem_cons_self
        · rw [e, Int.min_eq_right (by omega)]
          exact List.mem_cons_of_mem _ List.mem_cons_self
      · exact List.mem_cons_of_mem _ (List.mem_cons_of_mem _ h1)
    · intro z mz
      rcases List.mem_cons.mp mz with e | mz
      · omega
      · rcases List.mem_cons.mp mz with e | mz
        · omega
        · exact h2 z (List.mem_cons_of_mem _ mz)
def homF (ps : List Pr) : List Pr := ps.map (addP (-(minI (rowsP ps))) (-(minI (colsP ps))))
theorem least_rows {ps : List Pr} (h : ps ≠ []) : Least (minI (rowsP ps)) (rowsP ps) ∧ Least (minI (colsP ps)) (colsP ps) := by
  cases ps with
  | nil => exact absurd rfl h
  | cons x l => exact ⟨minI_least _ _, minI_least _ _⟩
theorem least_shift {a b : Int} {l : List Int} (h : Least a l) : Least (a + b) (l.map (· + b)) := by
  refine ⟨List.mem_map.mpr ⟨a, h.1, rfl⟩, fun y m => ?_⟩
  obtain ⟨z, mz, rfl⟩ := List.mem_map.mp m
  have := h.2 z mz
  show a + b ≤ z + b
  omega
theorem homF_shift (ps : List Pr) (a b : Int) : homF (ps.map (addP a b)) = homF ps := by
  by_cases e : ps = []
  · rw [e]
    rfl
  · obtain ⟨h1, h2⟩ := least_rows e
    have e' : ps.map (addP a b) ≠ [] := fun z => e (List.map_eq_nil_iff.mp z)
    obtain ⟨g1, g2⟩ := least_rows e'
    have r1 : rowsP (ps.map (addP a b)) = (rowsP ps).map (· + a) := by
      unfold rowsP
      rw [List.map_map, List.map_map]
      rfl
    have r2 : colsP (ps.map (addP a b)) = (colsP ps).map (· + b) := by
      unfold colsP
      rw [List.map_map, List.map_map]
      rfl
    have z1 : minI (rowsP (ps.map (addP a b))) = minI (rowsP ps) + a := g1.uniq (by rw [r1]; exact least_shift h1)
    have z2 : minI (colsP (ps.map (addP a b))) = minI (colsP ps) + b := g2.uniq (by rw [r2]; exact least_shift h2)
    unfold homF
    rw [z1, z2, List.map_map]
    refine List.map_congr_left fun x _ => ?_
    unfold addP
    dsimp only [Function.comp]
    refine Prod.ext ?_ ?_ <;> dsimp only <;> omega
theorem homF_len (ps : List Pr) : (homF ps).length = ps.length := List.length_map _
theorem homF_pw {ps : List Pr} (h : ps.Pairwise ltP) : (homF ps).Pairwise ltP := pw_map (fun x y h => by
  have h := ltP_iff.mp h
  refine ltP_iff.mpr ?_
  unfold addP
  dsimp only
  omega) h
def formD (d : Bool × Bool × Bool) (ps : List Pr) : List Pr := homF (can (ps.map (D8 d)))
def forms (ps : List Pr) : List (List Pr) := ds8.map fun d => formD d ps
theorem forms_imgs (ps : List Pr) : (imgs ps).map homF = forms ps := by
  unfold imgs forms
  rw [List.map_map]
  rfl
theorem formD_image (d e : Bool × Bool × Bool) (ps : List Pr) (a b : Int) : formD d ((can (ps.map (D8 e))).map (addP a b)) = formD (compD d e) ps := by
  unfold formD
  have e1 : ((can (ps.map (D8 e))).map (addP a b)).map (D8 d) = ((can (ps.map (D8 e))).map (D8 d)).map (addP (D8 d (a, b)).1 (D8 d (a, b)).2) := by
    rw [List.map_map, List.map_map]
    refine List.map_congr_left fun x _ => ?_
    exact D8_add d a b x
  rw [e1, can_shift, homF_shift, can_can, List.map_map]
  congr 2
  refine List.map_congr_left fun x _ => ?_
  exact D8_comp d e x
theorem forms_image {e : Bool × Bool × Bool} (ps : List Pr) (a b : Int) (f : List Pr) : f ∈ forms ((can (ps.map (D8 e))).map (addP a b)) ↔ f ∈ forms ps := by
  unfold forms
  rw [List.mem_map, List.mem_map]
  constructor
  · rintro ⟨d, _, rfl⟩
    rw [formD_image]
    exact ⟨_, mem_ds8 _ _ _, rfl⟩
  · rintro ⟨⟨x, y, z⟩, _, rfl⟩
    obtain ⟨x', y', z'⟩ := e
    obtain ⟨d, md, ed⟩ := solve_ds8 x y z x' y' z'
    exact ⟨d, md, by rw [formD_image, ed]⟩
def leastF (ps : List Pr) : List Pr := minL (formD (false, false, false) ps) (ds8.tail.map fun d => formD d ps)
theorem leastF_is (ps : List Pr) : LeastL (leastF ps) (forms ps) := minL_least _ _
theorem leastF_image {e : Bool × Bool × Bool} (ps : List Pr) (a b : Int) : leastF ((can (ps.map (D8 e))).map (addP a b)) = leastF ps := (leastF_is _).uniq (leastF_is ps) (forms_image ps a b)
theorem imgs_congr {ps qs : List Pr} (h : ∀ x, x ∈ ps ↔ x ∈ qs) : imgs ps = imgs qs := by
  unfold imgs
  refine List.map_congr_left fun d _ => can_congr fun k => mem_map2 h k
theorem forms_congr {ps qs : List Pr} (h : ∀ x, x ∈ ps ↔ x ∈ qs) : forms ps = forms qs := by rw [← forms_imgs, ← forms_imgs, imgs_congr h]
theorem formD_congr {ps qs : List Pr} (d : Bool × Bool × Bool) (h : ∀ x, x ∈ ps ↔ x ∈ qs) : formD d ps = formD d qs := by
  unfold formD
  rw [can_congr fun k => mem_map2 h k]
theorem leastF_congr {ps qs : List Pr} (h : ∀ x, x ∈ ps ↔ x ∈ qs) : leastF ps = leastF qs := by
  unfold leastF
  rw [formD_congr _ h]
  congr 1
  exact List.map_congr_left fun d _ => formD_congr d h
/-- turned again and again -/
def turnT (ps : List Pr) : Nat → List Pr
  | 0 => ps
  | k + 1 => can ((turnT ps k).map turnP)
def turnL (ps : List Pr) (n : Nat) : List (List Pr) := (List.range n).map (turnT ps)
theorem turnT_len (ps : List Pr) : ∀ k, (turnT ps k).length ≤ ps.length
  | 0 => Nat.le_refl _
  | k + 1 => Nat.le_trans (can_len _) (by rw [List.length_map]; exact turnT_len ps k)
theorem turnT_pw {ps : List Pr} (h : ps.Pairwise ltP) : ∀ k, (turnT ps k).Pairwise ltP
  | 0 => h
  | k + 1 => can_pw _
theorem turnP_D8 (x : Pr) : turnP x = D8 (true, false, true) x := rfl
theorem turnL_next (ps : List Pr) (n : Nat) : turnL ps (n + 1) = turnL ps n ++ [turnT ps n] := by
  unfold turnL
  rw [List.range_succ, List.map_append]
  rfl
theorem turnT_can {ps : List Pr} {d : Bool × Bool × Bool} : ∀ k, turnT (can (ps.map (D8 d))) k = can (ps.map (D8 (Nat.rec d (fun _ e => compD (true, false, true) e) k)))
  | 0 => rfl
  | k + 1 => by
    show can ((turnT (can (ps.map (D8 d))) k).map turnP) = _
    rw [turnT_can k, can_can, List.map_map]
    refine congrArg can (List.map_congr_left fun x _ => ?_)
    exact D8_comp (true, false, true) _ x
theorem id_D8 (ps : List Pr) : ps.map (D8 (false, false, false)) = ps := (List.map_congr_left fun x _ => rfl).trans (List.map_id ps)
theorem imgs_turns (ps : List Pr) : turnL (can ps) 4 ++ turnL (can (ps.map mirP)) 4 = imgs ps := by
  have h1 : ∀ k, turnT (can ps) k = can (ps.map (D8 (Nat.rec (false, false, false) (fun _ e => compD (true, false, true) e) k))) := fun k => by
    have := turnT_can (ps := ps) (d := (false, false, false)) k
    rwa [id_D8] at this
  have h2 : ∀ k, turnT (can (ps.map mirP)) k = can (ps.map (D8 (Nat.rec (false, false, true) (fun _ e => compD (true, false, true) e) k))) := fun k => turnT_can (ps := ps) (d := (false, false, true)) k
  show [turnT (can ps) 0, turnT (can ps) 1, turnT (can ps) 2, turnT (can ps) 3] ++ [turnT (can (ps.map mirP)) 0, turnT (can (ps.map mirP)) 1, turnT (can (ps.map mirP)) 2, turnT (can (ps.map mirP)) 3] = _
  rw [h1, h1, h1, h1, h2, h2, h2, h2]
  rfl
end
end My
namespace My
open PySem PySem.Spec PyProof.Rows L2 Vx
open TL
local macro_rules | `(tactic| k_invariant "new" ($n, $H:ident, $e:ident, $h:ident)) => `(tactic| (generalize hE : upd _ _ _ = $H; obtain ⟨$e:ident, $h:ident⟩ := gen_e hE $n; clear hE))
local macro_rules | `(tactic| k_places) => `(tactic| first
  | assumption
  | exact lst_of (by assumption)
  | exact tup_of (by assumption)
  | (refine getS (by assumption) ?_; k_places)
  | (refine Same.seq (by assumption) ?_; k_places)
  | (refine tupS (by assumption) ?_; k_places)
  | (refine lst_of ?_; k_places)
  | (refine tup_of ?_; k_places))
local macro_rules | `(tactic| k_subL) => `(tactic| first
  | k_places
  | solve_by_elim (maxDepth := 10) [getS, lst_of, tup_of, Same.seq, tupS])
local macro_rules | `(tactic| k_offL) => `(tactic| first
  | (show (0 : Int) < _; first | omega | decide)
  | (refine ⟨?_, ?_⟩ <;> first | omega | decide)
  | exact .inr ⟨by decide, by decide⟩
  | exact .inl ⟨by decide, by decide⟩
  | exact .inl ⟨by omega, by omega⟩
  | omega)
local macro_rules | `(tactic| k_clsL) => `(tactic| exact Nat.le_of_ble_eq_true rfl)
local macro_rules | `(tactic| k_upd) => `(tactic| simp only [L2.start, List.map_cons, List.map_nil, List.length_cons, List.length_nil, List.replicate_succ, List.replicate_zero, List.cons_append, List.nil_append, List.set_cons_zero, List.set_cons_succ])
section
variable {P : Program} {w : World} {K : PySem.W.Frag} {mg : Str → Option Value} {base : Heap}
theorem cellsL_cat {H : Hp} {l m p : Addr} {a b : List (List Pr)} {xs ys : List V} (h : CellsL H l a) (h2 : CellsL H m b) (hx : H l = some (.lst xs)) (hy : H m = some (.lst ys)) (n : H p = none) : CellsL (upd H p (.lst (xs ++ ys))) p (a ++ b) := by
  obtain ⟨ts, g1, g2, rfl⟩ := h
  obtain ⟨us, k1, k2, rfl⟩ := h2
  rw [g1] at hx
  rw [k1] at hy
  injection hx with hx
  injection hx with hx
  injection hy with hy
  injection hy with hy
  refine ⟨ts ++ us, by rw [upd_same, List.map_append, hx, hy], fun t m => ?_, by rw [List.map_append]⟩
  rcases List.mem_append.mp m with m | m
  · exact (g2 t m).up (newS n)
  · exact (k2 t m).up (newS n)
def sp_turns : Sp := fun vs H Q _ => ∃ (l : Addr) (ps : List Pr), vs = [.ref l] ∧ Cells H l ps ∧ ps.length ≤ 4000 ∧ ∀ (H' : Hp) (p : Addr), H p = none → Same H H' → CellsL H' p (turnL ps 4) → Q (.ref p) H'
theorem ok_turns (T : Txt K mg) : FnOk P w K mg base CX0 3 T.f_turns T.d_turns ["cells"] sp_turns := by
  refine T.F_turns.ok sc_turns (fun vs H Q E h => ?_) (fun cdv A outer s H vs Q E hr h => ?_)
  · obtain ⟨_, _, rfl, _⟩ := h
    rfl
  · obtain ⟨l, ps, rfl, hC, few, q⟩ := h
    refine ⟨_, (pss_cons (ps_set (i := 1) sc_turns.nd rfl (.inl rfl) (pe_lst (pa_cons (pv 0) pa_nil)))
      (pss_cons (ps_while PassesOwn.never (pt_cmpR op_lt (pe_callB call_lenL (by rfl) T.z_len (by decide +kernel) (pa_cons (pv 1) pa_nil)) (pe_gcx (by rfl) T.c_TURNS) (nomark _))
      (pss_one (ps_expr (pe_bm PySem.F.plainAttrs_list PySem.F.slot_list_append PySem.F.type_list_append mt_append (pv 1) (pa_cons (pe_call (ok_turned T) (hr.mono (by decide)) (by rfl) T.g_turned T.F_turned.kp T.b_turned .nil pass0 (pa_cons (pe_ix ix_list (pv 1) (pe_un un_neg pe_int) (fun _ _ => rfl)) pa_nil)) pa_nil)))))
      (pss_one (ps_ret (pv 1))))), ?_⟩
    k_upd
    refine ⟨_, rfl, by k_clsL, fun fl nf => ?_⟩
    have nf0 := nf
    k_invariant "new" (nf, H1, e1, g1)
    k_upd
    unfold gName
    k_upd
    refine while_by (fun σ H' => σ = [some (.ref l), some (.ref fl)] ∧ Same H H' ∧ ∃ n, n < 4 ∧ CellsL H' fl (turnL ps (n + 1)))
      (fun σ H' => match H' fl with | some (.lst xs) => 4 - xs.length | _ => 0)
      ⟨rfl, e1, 0, by decide, CellsL.one g1 (hC.up e1)⟩ ?_ ?_
    · rintro σ H2 ⟨rfl, sm, n, ln, hL⟩
      obtain ⟨xs, hxs, lxs⟩ := hL.lst
      have lx : xs.length = n + 1 := by
        rw [lxs]
        unfold turnL
        rw [List.length_map, List.length_range]
      refine ⟨_, rfl, _, _, rfl, lst_of hxs, ?_⟩
      obtain ⟨u, hu, ru⟩ := T.c_TURNS
      refine ⟨_, _, rfl, rfl, _, rfl, ?_⟩
      rw [lx]
      by_cases c : n = 3
      · subst c
        refine iteF ?_
        exact ⟨_, rfl, q H2 fl nf0 sm hL⟩
      · have : decide (((n + 1 : Nat) : Int) < 4) = true := decide_eq_true (by omega)
        rw [this]
        refine iteT ?_
        obtain ⟨xs', a, hxs', hxi, hca⟩ := hL.at (i := n) (ps := turnT ps n) (by unfold turnL; rw [List.getElem?_map, List.getElem?_range (by omega)]; rfl)
        have exs : xs' = xs := by
          rw [hxs'] at hxs
          injection hxs with hxs
          injection hxs with hxs
        subst exs
        have hlast : atI xs' (-1) = some (.ref a) := by
          have e : xs' = xs'.take n ++ [.ref a] := by
            have h1 := take_next hxi
            rw [List.take_of_length_le (by omega)] at h1
            exact h1
          rw [e]
          exact atI_last _ _
        refine ⟨_, rfl, .inl ⟨rfl, _, lst_of hxs'⟩, _, rfl, _, rfl, fl, _, _, _, rfl, rfl, lst_of hxs', hlast, a, _, rfl, hca, Nat.le_trans (turnT_len ps n) few, fun H3 p qs n3 e3 h3 c3 l3 => ?_⟩
        have eq3 : qs = turnT ps (n + 1) := can_eq c3
        subst eq3
        have hx3 := e3 _ _ hxs'
        refine ⟨_, _, _, rfl, rfl, hx3, by rw [lx, sizeLine_eq]; omega, ?_⟩
        have pf : p ≠ fl := fun e => by
          rw [e, hxs'] at n3
          cases n3
        refine ⟨⟨rfl, mutS (sm.trans e3) nf0, n + 1, by omega, ?_⟩, ?_⟩
        · rw [turnL_next]
          exact (hL.up e3).add hx3 h3 pf
        · show (match upd H3 fl (.lst (xs' ++ [.ref p])) fl with | some (.lst xs) => 4 - xs.length | _ => 0) < (match H2 fl with | some (.lst xs) => 4 - xs.length | _ => 0)
          rw [upd_same, hxs']
          show 4 - (xs' ++ [V.ref p]).length < 4 - xs'.length
          rw [List.length_append, List.length_singleton]
          omega
    · intro σ H Q Q' m h
      obtain ⟨v, h1, p, ys, h2, h3, i, j, h4, h5, b, h6, h7⟩ := h
      exact ⟨v, h1, p, ys, h2, h3, i, j, h4, h5, b, h6, m _ _ h7⟩
def sp_images : Sp := fun vs H Q _ => ∃ (l : Addr) (ps : List Pr), vs = [.ref l] ∧ Cells H l ps ∧ ps.length ≤ 4000 ∧ ∀ (H' : Hp) (p : Addr), H p = none → Same H H' → CellsL H' p (imgs ps) → Q (.ref p) H'
theorem ok_images (T : Txt K mg) : FnOk P w K mg base CX0 4 T.f_images T.d_images ["cells"] sp_images := by
  refine T.F_images.ok sc_images (fun vs H Q E h => ?_) (fun cdv A outer s H vs Q E hr h => ?_)
  · obtain ⟨_, _, rfl, _⟩ := h
    rfl
  · obtain ⟨l, ps, rfl, hC, few, q⟩ := h
    refine ⟨_, (pss_one (ps_ret (pe_op op_cat (pe_call (ok_turns T) (hr.mono (by decide)) (by rfl) T.g_turns T.F_turns.kp T.b_turns .nil pass0 (pa_cons (pe_call (ok_pattern T) (hr.mono (by decide)) (by rfl) T.g_pattern T.F_pattern.kp T.b_pattern .nil pass0 (pa_cons (pv 0) pa_nil)) pa_nil)) (pe_call (ok_turns T) (hr.mono (by decide)) (by rfl) T.g_turns T.F_turns.kp T.b_turns .nil pass0 (pa_cons (pe_call (ok_mirrored T) (hr.mono (by decide)) (by rfl) T.g_mirrored T.F_mirrored.kp T.b_mirrored .nil pass0 (pa_cons (pv 0) pa_nil)) pa_nil))))), ?_⟩
    refine ⟨_, rfl, l, ps, rfl, hC, few, fun H1 p1 qs1 n1 e1 h1 c1 l1 => ?_⟩
    have z1 := can_eq c1
    subst z1
    refine ⟨p1, _, rfl, h1, l1, fun H2 p2 n2 e2 h2 => ?_⟩
    refine ⟨_, rfl, l, ps, rfl, hC.up (e1.trans e2), few, fun H3 p3 qs3 n3 e3 h3 c3 l3 => ?_⟩
    have z3 := can_eq c3
    subst z3
    refine ⟨p3, _, rfl, h3, l3, fun H4 p4 n4 e4 h4 => ?_⟩
    have h24 := h2.up (e3.trans e4)
    obtain ⟨xs, hx, lx⟩ := h24.lst
    obtain ⟨ys, hy, ly⟩ := h4.lst
    refine ⟨p2, p4, _, _, rfl, rfl, hx, hy, ?_, fun p5 n5 => ?_⟩
    · rw [lx, ly, sizeLine_eq]
      unfold turnL
      simp
    · have s4 := e1.trans (e2.trans (e3.trans e4))
      refine q _ p5 (backS s4 n5) (s4.trans (newS n5)) ?_
      rw [← imgs_turns]
      exact cellsL_cat h24 h4 hx hy n5
theorem home_homF {ps qs : List Pr} (pw : ps.Pairwise ltP) (z : ps = [] → qs = []) (h : ∀ a b, Least a (rowsP ps) → Least b (colsP ps) → CanP (ps.map (addP (-a) (-b))) qs) : qs = homF ps := by
  by_cases e : ps = []
  · rw [z e, e]
    rfl
  · obtain ⟨h1, h2⟩ := least_rows e
    exact canP_eq (h _ _ h1 h2) (homF_pw pw) fun _ => Iff.rfl
def sp_homes : Sp := fun vs H Q _ => ∃ (l : Addr) (ps : List Pr), vs = [.ref l] ∧ Cells H l ps ∧ ps.length ≤ 4000 ∧ ∀ (H' : Hp) (p : Addr), H p = none → Same H H' → CellsL H' p (forms ps) → Q (.ref p) H'
theorem imgs_mem {ps is : List Pr} (h : is ∈ imgs ps) : is.Pairwise ltP ∧ is.length ≤ ps.length := by
  obtain ⟨d, _, rfl⟩ := List.mem_map.mp h
  exact ⟨can_pw _, Nat.le_trans (can_len _) (by rw [List.length_map]; exact Nat.le_refl _)⟩
theorem ok_homes (T : Txt K mg) : FnOk P w K mg base CX0 5 T.f_homes T.d_homes ["cells"] sp_homes := by
  refine T.F_homes.ok sc_homes (fun vs H Q E h => ?_) (fun cdv A outer s H vs Q E hr h => ?_)
  · obtain ⟨_, _, rfl, _⟩ := h
    rfl
  · obtain ⟨l, ps, rfl, hC, few, q⟩ := h
    refine ⟨_, (pss_one (ps_ret (pe_lc (own := [("image", 1)]) (g := gName 1) (tt := tYes) rfl sc_homes.nd (pi_list (pe_call (ok_images T) (hr.mono (by decide)) (by rfl) T.g_images T.F_images.kp T.b_images .nil pass0 (pa_cons (pv 0) pa_nil))) (blkOk_by (own := [("image", 1)]) (N := N_homes) (sc := defScope s_homes) (by decide +kernel)) (fun _ _ _ _ _ => pg_name (i := 1) sc_homes.nd rfl (Or.inl rfl)) (fun _ _ _ _ _ => pts_nil) (fun _ _ _ _ _ => (pe_call (ok_home T) (hr.mono (by decide)) (by rfl) T.g_home T.F_home.kp T.b_home .nil pass0 (pa_cons (pv 1) pa_nil)))))), ?_⟩
    refine ⟨_, rfl, l, ps, rfl, hC, few, fun H1 p1 n1 e1 h1 => ?_⟩
    obtain ⟨xs, hx, lx⟩ := h1.lst
    refine ⟨p1, rfl, ⟨_, lst_of hx⟩, fun D nD => lc_lists homF h1 nD (by rw [sizeLine_eq]; unfold imgs ds8; simp) ?_ fun H2 e2 h2 => ?_⟩
    · intro t is H' Po Pn mi sm hc hq
      obtain ⟨pwi, li⟩ := imgs_mem mi
      exact ⟨rfl, tyesT ⟨_, rfl, t, is, rfl, hc, Nat.le_trans li few, fun H2 p qs n2 e2 h2 z0 cq _ => hq H2 p e2 n2 (home_homF pwi z0 cq ▸ h2)⟩⟩
    · rw [forms_imgs] at h2
      exact q H2 D (backS e1 nD) (e1.trans e2) h2
def sp_least_form : Sp := fun vs H Q _ => ∃ (l : Addr) (ps : List Pr), vs = [.ref l] ∧ Cells H l ps ∧ ps.length ≤ 4000 ∧ ∀ (H' : Hp) (p : Addr), Same H H' → Cells H' p (leastF ps) → Q (.ref p) H'
theorem ok_least_form (T : Txt K mg) : FnOk P w K mg base CX0 6 T.f_least_form T.d_least_form ["cells"] sp_least_form := by
  refine T.F_least_form.ok sc_least_form (fun vs H Q E h => ?_) (fun cdv A outer s H vs Q E hr h => ?_)
  · obtain ⟨_, _, rfl, _⟩ := h
    rfl
  · obtain ⟨l, ps, rfl, hC, few, q⟩ := h
    have hu65 : (A.deeper (envOfC (Str.ofString "least_form") (defScope s_least_form) s.heap.objs.size T.f_least_form cdv)).units + 65 < cLine := by
      have := hr.un
      omega
    refine ⟨_, (pss_one (ps_ret (pe_callB (cr_minL rfl hu65) (by rfl) T.z_min (by decide +kernel) (pa_cons (pe_call (ok_homes T) (hr.mono (by decide)) (by rfl) T.g_homes T.F_homes.kp T.b_homes .nil pass0 (pa_cons (pv 0) pa_nil)) pa_nil)))), ?_⟩
    exact ⟨_, rfl, l, ps, rfl, hC, few, fun H1 p1 n1 e1 h1 => ⟨p1, _, _, rfl, h1, fun a ha => q H1 a e1 ha⟩⟩
end
end My
namespace My
open PySem PySem.Spec PyProof.Rows L2 Vx
open TL
local macro_rules | `(tactic| k_invariant "new" ($n, $H:ident, $e:ident, $h:ident)) => `(tactic| (generalize hE : upd _ _ _ = $H; obtain ⟨$e:ident, $h:ident⟩ := gen_e hE $n; clear hE))
local macro_rules | `(tactic| k_places) => `(tactic| first
  | assumption
  | exact lst_of (by assumption)
  | exact tup_of (by assumption)
  | (refine getS (by assumption) ?_; k_places)
  | (refine Same.seq (by assumption) ?_; k_places)
  | (refine tupS (by assumption) ?_; k_places)
  | (refine lst_of ?_; k_places)
  | (refine tup_of ?_; k_places))
local macro_rules | `(tactic| k_subL) => `(tactic| first
  | k_places
  | solve_by_elim (maxDepth := 10) [getS, lst_of, tup_of, Same.seq, tupS])
local macro_rules | `(tactic| k_offL) => `(tactic| first
  | (show (0 : Int) < _; first | omega | decide)
  | (refine ⟨?_, ?_⟩ <;> first | omega | decide)
  | exact .inr ⟨by decide, by decide⟩
  | exact .inl ⟨by decide, by decide⟩
  | exact .inl ⟨by omega, by omega⟩
  | omega)
local macro_rules | `(tactic| k_clsL) => `(tactic| exact Nat.le_of_ble_eq_true rfl)
local macro_rules | `(tactic| k_upd) => `(tactic| simp only [L2.start, List.map_cons, List.map_nil, List.length_cons, List.length_nil, List.replicate_succ, List.replicate_zero, List.cons_append, List.nil_append, List.set_cons_zero, List.set_cons_succ])
section
variable {P : Program} {w : World} {K : PySem.W.Frag} {mg : Str → Option Value} {base : Heap}
/-! ### run texts, the program's own -/
def cntS (n : Int) (sg : Str) : Str := if n = 1 then sg else (toString n : Str) ++ sg
def sp_counted : Sp := fun vs H Q _ => ∃ (n : Int) (sg : Str), vs = [.int n, .str sg] ∧ n.natAbs < 2 ^ 60 ∧ sg.length ≤ 100 ∧ Q (.str (cntS n sg)) H
theorem ok_counted (T : Txt K mg) : FnOk P w K mg base CX0 1 T.f_counted T.d_counted ["number", "sign"] sp_counted := by
  refine T.F_counted.ok sc_counted (fun vs H Q E h => ?_) (fun cdv A outer s H vs Q E hr h => ?_)
  · obtain ⟨_, _, rfl, _⟩ := h
    rfl
  · obtain ⟨n, sg, rfl, b, ls, q⟩ := h
    refine ⟨_, (pss_one (ps_ret (pe_ifExp (pt_cmpR op_eq (pv 0) pe_int (nomark _)) (pv 1) (pe_op op_add_str (pe_callTy call_str_int (by rfl) T.z_str (by decide +kernel) (pa_cons (pv 0) pa_nil)) (pv 1))))), ?_⟩
    have lg : n.natAbs.log2 < 1920 := by
      rcases Nat.eq_zero_or_pos n.natAbs with z | z
      · rw [z]
        decide
      · exact Nat.lt_trans ((Nat.log2_lt (by omega)).mpr b) (by decide)
    have ln := int_text_len_1921 lg
    refine ⟨_, rfl, rfl, _, rfl, ite2 (fun c => ?_) (fun c => ?_)⟩
    · have c : n = 1 := by simpa using c
      refine ⟨_, rfl, ?_⟩
      unfold cntS at q
      rw [if_pos c] at q
      exact q
    · have c : ¬ n = 1 := by simpa using c
      refine ⟨_, rfl, _, rfl, ?_, _, rfl, _, _, rfl, rfl, ?_, ?_⟩
      · exact lg
      · rw [sizeLine_eq]
        omega
      · unfold cntS at q
        rw [if_neg c] at q
        exact q
abbrev Run := Int × Int × Int
def runV (t : Run) : List V := [.int t.1, .int t.2.1, .int t.2.2]
/-- the runs so far, and one more cell -/
def runStep (rs : List Run) (x : Pr) : List Run := match rs.getLast? with
  | some t => if t.1 = x.1 ∧ t.2.1 + t.2.2 = x.2 then rs.dropLast ++ [(t.1, t.2.1, t.2.2 + 1)] else rs ++ [(x.1, x.2, 1)]
  | none => [(x.1, x.2, 1)]
def runsP (ps : List Pr) : List Run := ps.foldl runStep []
def RunsAt (H : Hp) (l : Addr) (rs : List Run) : Prop :=
  ∃ ts : List (Addr × Run), H l = some (.lst (ts.map fun t => V.ref t.1)) ∧ (∀ t ∈ ts, H t.1 = some (.lst (runV t.2))) ∧ ts.map (·.2) = rs
theorem runStep_len (rs : List Run) (x : Pr) : (runStep rs x).length ≤ rs.length + 1 := by
  unfold runStep
  cases rs.getLast? with
  | none => show 1 ≤ _; omega
  | some t =>
    show (if t.1 = x.1 ∧ t.2.1 + t.2.2 = x.2 then rs.dropLast ++ [(t.1, t.2.1, t.2.2 + 1)] else rs ++ [(x.1, x.2, 1)]).length ≤ _
    by_cases c : t.1 = x.1 ∧ t.2.1 + t.2.2 = x.2
    · rw [if_pos c, List.length_append, List.length_dropLast]
      show rs.length - 1 + 1 ≤ _
      omega
    · rw [if_neg c, List.length_append]
      exact Nat.le_refl _
theorem runStep_last (rs : List Run) (t : Run) (x : Pr) : runStep (rs ++ [t]) x = if t.1 = x.1 ∧ t.2.1 + t.2.2 = x.2 then rs ++ [(t.1, t.2.1, t.2.2 + 1)] else rs ++ [t] ++ [(x.1, x.2, 1)] := by
  unfold runStep
  rw [List.getLast?_concat, List.dropLast_concat]
theorem atI_last (xs : List V) (v : V) : atI (xs ++ [v]) (-1) = some v := by
  unfold atI ixN
  rw [if_neg (by decide), List.length_append, List.length_singleton, if_pos (by omega)]
  show (xs ++ [v])[(-1 + ((xs.length + 1 : Nat) : Int)).toNat]? = some v
  rw [show (-1 + ((xs.length + 1 : Nat) : Int)).toNat = xs.length by omega]
  simp
theorem runs_app {H H' : Hp} {p q : Addr} {ts : List (Addr × Run)} {r : Run} (sm : Same H H') (np : H p = none) (hp : H' p = some (.lst (ts.map fun t => V.ref t.1))) (htt : ∀ t ∈ ts, H' t.1 = some (.lst (runV t.2)) ∧ H t.1 = none ∧ t.1 ≠ p)
    (nd : (ts.map (·.1)).Nodup) (nq : H' q = none) :
    Same H (upd (upd H' q (.lst (runV r))) p (.lst (ts.map (fun t => V.ref t.1) ++ [.ref q]))) ∧ upd H' q (.lst (runV r)) p = some (.lst (ts.map fun t => V.ref t.1)) ∧
    upd (upd H' q (.lst (runV r))) p (.lst (ts.map (fun t => V.ref t.1) ++ [.ref q])) p = some (.lst ((ts ++ [(q, r)]).map fun t => V.ref t.1)) ∧
    (∀ t ∈ ts ++ [(q, r)], upd (upd H' q (.lst (runV r))) p (.lst (ts.map (fun t => V.ref t.1) ++ [.ref q])) t.1 = some (.lst (runV t.2)) ∧ H t.1 = none ∧ t.1 ≠ p) ∧ ((ts ++ [(q, r)]).map (·.1)).Nodup := by
  have qp : q ≠ p := fun e => by
    rw [e, hp] at nq
    cases nq
  refine ⟨mutS (sm.trans (newS nq)) np, newS nq _ _ hp, by rw [upd_same, List.map_append]; rfl, fun t m => ?_, ?_⟩
  · rcases List.mem_append.mp m with m | m
    · obtain ⟨h1, h2, h3⟩ := htt t m
      exact ⟨by rw [upd_ne h3]; exact newS nq _ _ h1, h2, h3⟩
    · rw [List.mem_singleton.mp m]
      exact ⟨by rw [upd_ne qp, upd_same], backS sm nq, qp⟩
  · rw [List.map_append]
    refine List.pairwise_append.mpr ⟨nd, List.pairwise_cons.mpr ⟨fun _ m => (by cases m), List.Pairwise.nil⟩, fun a ma b mb e => ?_⟩
    obtain ⟨t, mt, rfl⟩ := List.mem_map.mp ma
    rw [List.mem_singleton.mp mb] at e
    have h1 := (htt t mt).1
    have e : t.1 = q := e
    rw [e, nq] at h1
    cases h1
theorem runs_mut {H H' : Hp} {p : Addr} {us : List (Addr × Run)} {u : Addr × Run} {r : Run} (sm : Same H H') (hp : H' p = some (.lst ((us ++ [u]).map fun t => V.ref t.1))) (htt : ∀ t ∈ us ++ [u], H' t.1 = some (.lst (runV t.2)) ∧ H t.1 = none ∧ t.1 ≠ p)
    (nd : ((us ++ [u]).map (·.1)).Nodup) : Same H (upd H' u.1 (.lst (runV r))) ∧ upd H' u.1 (.lst (runV r)) p = some (.lst ((us ++ [(u.1, r)]).map fun t => V.ref t.1)) ∧
    (∀ t ∈ us ++ [(u.1, r)], upd H' u.1 (.lst (runV r)) t.1 = some (.lst (runV t.2)) ∧ H t.1 = none ∧ t.1 ≠ p) ∧ ((us ++ [(u.1, r)]).map (·.1)).Nodup := by
  obtain ⟨h1, h2, h3⟩ := htt u (List.mem_append.mpr (.inr (List.mem_singleton.mpr rfl)))
  have em : (us ++ [(u.1, r)]).map (fun t => V.ref t.1) = (us ++ [u]).map (fun t => V.ref t.1) := by
    rw [List.map_append, List.map_append]
    rfl
  have ea : (us ++ [(u.1, r)]).map (·.1) = (us ++ [u]).map (·.1) := by
    rw [List.map_append, List.map_append]
    rfl
  refine ⟨mutS sm h2, by rw [upd_ne (Ne.symm h3), em]; exact hp, fun t m => ?_, by rw [ea]; exact nd⟩
  rcases List.mem_append.mp m with m | m
  · obtain ⟨k1, k2, k3⟩ := htt t (List.mem_append.mpr (.inl m))
    rw [List.map_append] at nd
    have ne := (List.pairwise_append.mp nd).2.2 t.1 (List.mem_map.mpr ⟨t, m, rfl⟩) u.1 (List.mem_singleton.mpr rfl)
    exact ⟨by rw [upd_ne ne]; exact k1, k2, k3⟩
  · rw [List.mem_singleton.mp m]
    exact ⟨upd_same, h2, h3⟩
def sp_runs (K : PySem.W.Frag) : Sp := fun vs H Q _ => ∃ (l : Addr) (ps : List Pr), vs = [.ref l] ∧ Cells H l ps ∧ ps.length < 1000000 ∧
  ∀ (H' : Hp) (p : Addr), H p = none → Same H H' → RunsAt H' p (runsP ps) → Q (.ref p) H'
theorem ok_runs (T : Txt K mg) : FnOk P w K mg base CX0 1 T.f_runs T.d_runs ["living"] (sp_runs K) := by
  refine T.F_runs.ok sc_runs (fun vs H Q E h => ?_) (fun cdv A outer s H vs Q E hr h => ?_)
  · obtain ⟨_, _, rfl, _⟩ := h
    rfl
  · obtain ⟨l, ps, rfl, hC, lim, q⟩ := h
    refine ⟨_, (pss_cons (ps_set (i := 1) sc_runs.nd rfl (.inl rfl) (pe_lst pa_nil))
      (pss_cons (ps_for PassesOwn.never rfl (pi_list (pv 0)) (pg_tupK (K := K) (n := 2) rfl rfl (pgs_cons (pg_name (i := 2) sc_runs.nd rfl (.inl rfl)) (pgs_cons (pg_name (i := 3) sc_runs.nd rfl (.inl rfl)) pgs_nil)))
      (pss_one (ps_if (PW.pt (pw_and (pt_truth (pv 1) (by intro _; rfl)) (pw_and (pt_cmpR op_eq (pe_ix ix_list (pe_ix ix_list (pv 1) (pe_un un_neg pe_int) (fun _ _ => rfl)) pe_int (fun _ _ => rfl)) (pv 2) (nomark _)) (pw_and1 (pt_cmpR op_eq (pe_op op_add (pe_ix ix_list (pe_ix ix_list (pv 1) (pe_un un_neg pe_int) (fun _ _ => rfl)) pe_int (fun _ _ => rfl)) (pe_ix ix_list (pe_ix ix_list (pv 1) (pe_un un_neg pe_int) (fun _ _ => rfl)) pe_int (fun _ _ => rfl))) (pv 3) (nomark _))))))
      (pss_one (ps_augS (pe_ix ix_list (pv 1) (pe_un un_neg pe_int) (fun _ _ => rfl)) pe_int pget_list pe_int ip_add set_list))
      (pss_one (ps_expr (pe_bm PySem.F.plainAttrs_list PySem.F.slot_list_append PySem.F.type_list_append mt_append (pv 1) (pa_cons (pe_lst (pa_cons (pv 2) (pa_cons (pv 3) (pa_cons pe_int pa_nil)))) pa_nil)))))))
      (pss_one (ps_ret (pv 1))))), ?_⟩
    obtain ⟨cs, hl, ht, rfl⟩ := id hC
    rw [List.length_map] at lim
    refine ⟨by k_clsL, fun p np => ?_⟩
    k_invariant "new" (np, H1, e1, g1)
    have nlp : p ≠ l := fun e => by
      rw [e, hl] at np
      cases np
    refine ⟨_, rfl, l, rfl, ⟨_, lst_of (e1 _ _ hl)⟩, for_list (K := K) (a := l) (xs := cs.map fun t => V.ref t.1) (fun i σ H' => Same H H' ∧ (∃ (x y : Option V), σ = [some (.ref l), some (.ref p), x, y]) ∧
      ∃ ts : List (Addr × Run), H' p = some (.lst (ts.map fun t => V.ref t.1)) ∧ (∀ t ∈ ts, H' t.1 = some (.lst (runV t.2)) ∧ H t.1 = none ∧ t.1 ≠ p) ∧ (ts.map (·.1)).Nodup ∧ ts.map (·.2) = runsP ((cs.map (·.2)).take i) ∧ ts.length ≤ i)
      ⟨e1, ⟨_, _, rfl⟩, [], g1, fun _ m => (by cases m), List.nodup_nil, rfl, Nat.le_refl _⟩ (fun i σ H' _ h => lst_of (h.1 _ _ hl)) ?_ ?_⟩
    · rintro i z σ H' hi ⟨sm, ⟨x0, y0, rfl⟩, ts, hp, htt, nd, et, lt⟩
      obtain ⟨t, mt, rfl, hx⟩ := item_cells (H := H') hi rfl
      have li : i < cs.length := by
        have := (List.getElem?_eq_some_iff.mp hi).1
        rwa [List.length_map] at this
      have gt := sm _ _ (ht t mt)
      have step : runsP ((cs.map (·.2)).take (i + 1)) = runStep (ts.map (·.2)) t.2 := by
        rw [take_next hx]
        unfold runsP
        rw [List.foldl_append, et]
        rfl
      refine ⟨t.1, _, rfl, tup_of gt, rfl, _, _, rfl, _, _, rfl, rfl, ?_⟩
      have app : ∀ q, H' q = none → upd H' q (.lst (runV (t.2.1, t.2.2, 1))) p = some (.lst (ts.map fun t => V.ref t.1)) ∧ (runStep (ts.map (·.2)) t.2 = ts.map (·.2) ++ [(t.2.1, t.2.2, 1)] →
          Same H (upd (upd H' q (.lst (runV (t.2.1, t.2.2, 1)))) p (.lst (ts.map (fun t => V.ref t.1) ++ [.ref q]))) ∧ ∃ ts' : List (Addr × Run), upd (upd H' q (.lst (runV (t.2.1, t.2.2, 1)))) p (.lst (ts.map (fun t => V.ref t.1) ++ [.ref q])) p = some (.lst (ts'.map fun t => V.ref t.1)) ∧
          (∀ t' ∈ ts', upd (upd H' q (.lst (runV (t.2.1, t.2.2, 1)))) p (.lst (ts.map (fun t => V.ref t.1) ++ [.ref q])) t'.1 = some (.lst (runV t'.2)) ∧ H t'.1 = none ∧ t'.1 ≠ p) ∧ (ts'.map (·.1)).Nodup ∧ ts'.map (·.2) = runsP ((cs.map (·.2)).take (i + 1)) ∧ ts'.length ≤ i + 1) := fun q nq => by
        obtain ⟨a1, a2, a3, a4, a5⟩ := runs_app (r := (t.2.1, t.2.2, 1)) sm np hp htt nd nq
        refine ⟨a2, fun e => ⟨a1, _, a3, a4, a5, ?_, ?_⟩⟩
        · rw [step, e, List.map_append]
          rfl
        · rw [List.length_append]
          show ts.length + 1 ≤ i + 1
          omega
      have lz : ts.length < sizeLine := by
        rw [sizeLine_eq]
        omega
      rcases List.eq_nil_or_concat ts with e0 | ⟨us, u, e0⟩
      · refine ⟨_, rfl, false, .inl ⟨_, lst_of hp, by rw [e0]; rfl⟩, iteF ?_⟩
        refine ⟨_, rfl, .inl ⟨rfl, _, lst_of hp⟩, _, rfl, _, rfl, by k_clsL, fun q nq => ?_⟩
        obtain ⟨b1, b2⟩ := app q nq
        obtain ⟨c1, c2⟩ := b2 (by rw [e0]; rfl)
        exact ⟨_, _, _, rfl, rfl, b1, by rw [List.length_map]; exact lz, c1, ⟨_, _, rfl⟩, c2⟩
      · rw [List.concat_eq_append] at e0
        have hu := (htt u (by rw [e0]; exact List.mem_append.mpr (.inr (List.mem_singleton.mpr rfl)))).1
        have at1 : atI (ts.map fun t => V.ref t.1) (-1) = some (.ref u.1) := by
          rw [e0, List.map_append]
          exact atI_last _ _
        have rl := runStep_last (us.map (·.2)) u.2 t.2
        rw [show us.map (·.2) ++ [u.2] = ts.map (·.2) by rw [e0, List.map_append]; rfl] at rl
        have fail : ¬ (u.2.1 = t.2.1 ∧ u.2.2.1 + u.2.2.2 = t.2.2) → runStep (ts.map (·.2)) t.2 = ts.map (·.2) ++ [(t.2.1, t.2.2, 1)] := fun c => by rw [rl, if_neg c]
        refine ⟨_, rfl, true, .inl ⟨_, lst_of hp, by rw [e0, List.map_append]; simp⟩, iteT ?_⟩
        refine ⟨_, rfl, _, rfl, _, _, _, _, rfl, rfl, lst_of hp, at1, _, _, _, _, rfl, rfl, lst_of hu, rfl, _, rfl, rfl, _, rfl, ite2 (fun c => ?_) (fun c => ?_)⟩
        · refine ⟨_, rfl, _, rfl, _, _, _, _, rfl, rfl, lst_of hp, at1, _, _, _, _, rfl, rfl, lst_of hu, rfl, _, rfl, _, rfl, _, _, _, _, rfl, rfl, lst_of hp, at1, _, _, _, _, rfl, rfl, lst_of hu, rfl, _, _, rfl, rfl, _, rfl, rfl, _, rfl, ite2 (fun c2 => ?_) (fun c2 => ?_)⟩
          · have c : u.2.1 = t.2.1 := V.int.inj (of_decide_eq_true c)
            have c2 : u.2.2.1 + u.2.2.2 = t.2.2 := V.int.inj (of_decide_eq_true c2)
            obtain ⟨a1, a2, a3, a4⟩ := runs_mut (r := (u.2.1, u.2.2.1, u.2.2.2 + 1)) sm (by rw [← e0]; exact hp) (by rw [← e0]; exact htt) (by rw [← e0]; exact nd)
            refine ⟨_, rfl, _, rfl, _, _, _, _, rfl, rfl, lst_of hp, at1, _, _, 2, _, rfl, rfl, lst_of hu, rfl, _, _, rfl, rfl, _, _, _, _, rfl, rfl, hu, rfl, a1, ⟨_, _, rfl⟩, _, a2, a3, a4, ?_, ?_⟩
            · rw [step, rl, if_pos ⟨c, c2⟩, List.map_append]
              rfl
            · rw [e0, List.length_append] at lt
              rw [List.length_append]
              show us.length + 1 ≤ i + 1
              have : us.length + 1 ≤ i := lt
              omega
          · have c2 : ¬ u.2.2.1 + u.2.2.2 = t.2.2 := fun e => c2 (decide_eq_true (congrArg V.int e))
            refine ⟨_, rfl, .inl ⟨rfl, _, lst_of hp⟩, _, rfl, _, rfl, by k_clsL, fun q nq => ?_⟩
            obtain ⟨b1, b2⟩ := app q nq
            obtain ⟨c1, c2⟩ := b2 (fail fun z => c2 z.2)
            exact ⟨_, _, _, rfl, rfl, b1, by rw [List.length_map]; exact lz, c1, ⟨_, _, rfl⟩, c2⟩
        · have c : ¬ u.2.1 = t.2.1 := fun e => c (decide_eq_true (congrArg V.int e))
          refine ⟨_, rfl, .inl ⟨rfl, _, lst_of hp⟩, _, rfl, _, rfl, by k_clsL, fun q nq => ?_⟩
          obtain ⟨b1, b2⟩ := app q nq
          obtain ⟨c1, c2⟩ := b2 (fail fun z => c z.1)
          exact ⟨_, _, _, rfl, rfl, b1, by rw [List.length_map]; exact lz, c1, ⟨_, _, rfl⟩, c2⟩
    · rintro σ H' ⟨sm, ⟨x0, y0, rfl⟩, ts, hp, htt, nd, et, lt⟩
      rw [List.length_map, List.take_of_length_le (by rw [List.length_map]; exact Nat.le_refl _)] at et
      exact ⟨_, rfl, q H' p np sm ⟨ts, hp, fun t m => (htt t m).1, et⟩⟩
theorem joinL_e : ∀ ps : List (List Nat), joinL [] ps = ps.flatten
  | [] => rfl
  | [p] => by simp [joinL]
  | p :: q :: r => by
    show p ++ ([] ++ joinL [] (q :: r)) = _
    rw [joinL_e (q :: r)]
    rfl
theorem tl_e : tl (Str.ofString "") = [] := by decide +kernel
theorem tl_slash : tl (Str.ofString "/") = [47] := by decide +kernel
theorem tl_dot : tl (Str.ofString ".") = [46] := by decide +kernel
theorem tl_O : tl (Str.ofString "O") = [79] := by decide +kernel
theorem tl_mark : tl (Str.ofString "!") = [33] := by decide +kernel
def cntL (n : Int) (c : Nat) : List Nat := if n = 1 then [c] else tl (Str.ofString (toString n)) ++ [c]
theorem tl_cntS {n : Int} {sg : Str} {c : Nat} (h : tl sg = [c]) : tl (cntS n sg) = cntL n c := by
  unfold cntS cntL
  by_cases e : n = 1
  · rw [if_pos e, if_pos e, h]
  · rw [if_neg e, if_neg e, tl_append, h]
theorem len_cntS {n : Int} {sg : Str} (b : n.natAbs < 2 ^ 60) (h : sg.length ≤ 1) : (cntS n sg).length ≤ 2000 := by
  have lg : n.natAbs.log2 < 1920 := by
    rcases Nat.eq_zero_or_pos n.natAbs with z | z
    · rw [z]
      decide
    · exact Nat.lt_trans ((Nat.log2_lt (by omega)).mpr b) (by decide)
  have ln := int_text_len_1921 lg
  unfold cntS
  by_cases e : n = 1
  · rw [if_pos e]
    omega
  · rw [if_neg e]
    have : ((toString n : Str) ++ sg).length = (toString n : Str).length + sg.length := by
      rw [TL.len_tl, TL.len_tl, TL.len_tl, tl_append, List.length_append]
    rw [this]
    have : (toString n : Str).length ≤ 1921 := ln
    omega
/-- one run written: the text so far, the row, the place behind the last run -/
def wStep (st : List Nat × Int × Int) (t : Run) : List Nat × Int × Int :=
  let s1 := if st.2.1 < t.1 then (st.1 ++ cntL (t.1 - st.2.1) 47, t.1, 0) else st
  let s2 := if s1.2.2 < t.2.1 then s1.1 ++ cntL (t.2.1 - s1.2.2) 46 else s1.1
  (s2 ++ cntL t.2.2 79, s1.2.1, t.2.1 + t.2.2)
theorem wStep_eq {a a1 a2 : List Nat} {last en last1 en1 : Int} {t : Run} (h1 : (if last < t.1 then (a ++ cntL (t.1 - last) 47, t.1, 0) else (a, last, en)) = (a1, last1, en1)) (h2 : (if en1 < t.2.1 then a1 ++ cntL (t.2.1 - en1) 46 else a1) = a2) :
    wStep (a, last, en) t = (a2 ++ cntL t.2.2 79, last1, t.2.1 + t.2.2) := by
  have e : wStep (a, last, en) t = ((if (if last < t.1 then (a ++ cntL (t.1 - last) 47, t.1, 0) else (a, last, en)).2.2 < t.2.1 then (if last < t.1 then (a ++ cntL (t.1 - last) 47, t.1, 0) else (a, last, en)).1 ++ cntL (t.2.1 - (if last < t.1 then (a ++ cntL (t.1 - last) 47, t.1, 0) else (a, last, en)).2.2) 46 else (if last < t.1 then (a ++ cntL (t.1 - last) 47, t.1, 0) else (a, last, en)).1) ++ cntL t.2.2 79, (if last < t.1 then (a ++ cntL (t.1 - last) 47, t.1, 0) else (a, last, en)).2.1, t.2.1 + t.2.2) := rfl
  rw [e, h1]
  show ((if en1 < t.2.1 then a1 ++ cntL (t.2.1 - en1) 46 else a1) ++ _, _, _) = _
  rw [h2]
def writeP (rs : List Run) : List Nat := (rs.foldl wStep ([], 0, 0)).1 ++ [33]
/-- numbers that fit -/
def Fit (n : Int) : Prop := n.natAbs < 2 ^ 58
theorem runs_fit : ∀ (l : List Pr) (rs : List Run) (k : Nat), (∀ x ∈ l, Fit x.1 ∧ Fit x.2) → (∀ t ∈ rs, Fit t.1 ∧ Fit t.2.1 ∧ 1 ≤ t.2.2 ∧ t.2.2 ≤ (k : Int)) → 1 ≤ k → ∀ t ∈ l.foldl runStep rs, Fit t.1 ∧ Fit t.2.1 ∧ 1 ≤ t.2.2 ∧ t.2.2 ≤ ((k + l.length : Nat) : Int)
  | [], rs, k, _, h2, _ => h2
  | x :: l, rs, k, h1, h2, hk => by
    rw [List.foldl_cons, List.length_cons, show k + (l.length + 1) = (k + 1) + l.length by omega]
    refine runs_fit l (runStep rs x) (k + 1) (fun y m => h1 y (List.mem_cons_of_mem _ m)) (fun t m => ?_) (by omega)
    have hx := h1 x List.mem_cons_self
    have up : ∀ t ∈ rs, Fit t.1 ∧ Fit t.2.1 ∧ 1 ≤ t.2.2 ∧ t.2.2 ≤ ((k + 1 : Nat) : Int) := fun t m => by
      obtain ⟨a, b, c, d⟩ := h2 t m
      exact ⟨a, b, c, by omega⟩
    rcases List.eq_nil_or_concat rs with rfl | ⟨us, u, e⟩
    · have m : t ∈ [(x.1, x.2, (1 : Int))] := m
      rw [List.mem_singleton.mp m]
      exact ⟨hx.1, hx.2, by show (1 : Int) ≤ 1; omega, by show (1 : Int) ≤ _; omega⟩
    · rw [List.concat_eq_append] at e
      subst e
      rw [runStep_last] at m
      by_cases c : u.1 = x.1 ∧ u.2.1 + u.2.2 = x.2
      · rw [if_pos c] at m
        rcases List.mem_append.mp m with m | m
        · exact up t (List.mem_append.mpr (.inl m))
        · obtain ⟨a, b, c, d⟩ := h2 u (List.mem_append.mpr (.inr (List.mem_singleton.mpr rfl)))
          rw [List.mem_singleton.mp m]
          exact ⟨a, b, by show (1 : Int) ≤ u.2.2 + 1; omega, by show u.2.2 + 1 ≤ _; omega⟩
      · rw [if_neg c] at m
        rcases List.mem_append.mp m with m | m
        · exact up t m
        · rw [List.mem_singleton.mp m]
          exact ⟨hx.1, hx.2, by show (1 : Int) ≤ 1; omega, by show (1 : Int) ≤ _; omega⟩
theorem runs_len : ∀ (l : List Pr) (rs : List Run), (l.foldl runStep rs).length ≤ rs.length + l.length
  | [], rs => Nat.le_refl _
  | x :: l, rs => by
    rw [List.foldl_cons, List.length_cons]
    have := runs_len l (runStep rs x)
    have := runStep_len rs x
    omega
def HomeOf (ps qs : List Pr) : Prop := (ps = [] → qs = []) ∧ ∀ a b, Least a (rowsP ps) → Least b (colsP ps) → CanP (ps.map (addP (-a) (-b))) qs
theorem least_ex : ∀ l : List Int, l ≠ [] → ∃ a, Least a l
  | [], h => absurd rfl h
  | [x], _ => ⟨x, List.mem_singleton.mpr rfl, fun y m => by rw [List.mem_singleton.mp m]; omega⟩
  | x :: y :: l, _ => by
    obtain ⟨a, m, h⟩ := least_ex (y :: l) (by simp)
    by_cases c : x ≤ a
    · refine ⟨x, List.mem_cons_self, fun z mz => ?_⟩
      rcases List.mem_cons.mp mz with e | mz
      · omega
      · have := h z mz
        omega
    · refine ⟨a, List.mem_cons_of_mem _ m, fun z mz => ?_⟩
      rcases List.mem_cons.mp mz with e | mz
      · omega
      · exact h z mz
theorem HomeOf.fit {ps qs : List Pr} (h : HomeOf ps qs) (b : ∀ x ∈ ps, x.1.natAbs < 2 ^ 56 ∧ x.2.natAbs < 2 ^ 56) : ∀ x ∈ qs, Fit x.1 ∧ Fit x.2 := fun x m => by
  by_cases e : ps = []
  · rw [h.1 e] at m
    cases m
  · obtain ⟨a, ha⟩ := least_ex (rowsP ps) (fun z => e (List.map_eq_nil_iff.mp z))
    obtain ⟨c, hc⟩ := least_ex (colsP ps) (fun z => e (List.map_eq_nil_iff.mp z))
    obtain ⟨y, my, rfl⟩ := List.mem_map.mp (((h.2 a c ha hc).2 x).mp m)
    obtain ⟨u, mu, eu⟩ := List.mem_map.mp ha.1
    obtain ⟨v, mv, ev⟩ := List.mem_map.mp hc.1
    have b1 := b y my
    have b2 := b u mu
    have b3 := b v mv
    have eu : u.1 = a := eu
    have ev : v.2 = c := ev
    unfold Fit addP
    constructor
    · show (y.1 + -a).natAbs < _
      omega
    · show (y.2 + -c).natAbs < _
      omega
theorem sum_len : ∀ {l : List Str}, (∀ y ∈ l, y.length ≤ 2000) → (l.map (·.length)).sum ≤ 2000 * l.length
  | [], _ => Nat.le_refl _
  | y :: l, h => by
    have h1 := h y List.mem_cons_self
    have h2 := sum_len (l := l) fun z m => h z (List.mem_cons_of_mem _ m)
    rw [List.map_cons, List.sum_cons, List.length_cons]
    omega
def sp_write_text : Sp := fun vs H Q _ => ∃ (l : Addr) (ps : List Pr), vs = [.ref l] ∧ Cells H l ps ∧ ps.length < 64 ∧ (∀ x ∈ ps, x.1.natAbs < 2 ^ 56 ∧ x.2.natAbs < 2 ^ 56) ∧
  ∀ (H' : Hp) (s : Str) (qs : List Pr), Same H H' → HomeOf ps qs → tl s = writeP (runsP qs) → s.length ≤ 1000000 → Q (.str s) H'
theorem ok_write_text (T : Txt K mg) : FnOk P w K mg base CX0 4 T.f_write_text T.d_write_text ["cells"] sp_write_text := by
  refine T.F_write_text.ok sc_write_text (fun vs H Q E h => ?_) (fun cdv A outer s H vs Q E hr h => ?_)
  · obtain ⟨_, _, rfl, _⟩ := h
    rfl
  · obtain ⟨l, ps, rfl, hC, few, fit, q⟩ := h
    refine ⟨_, (pss_cons (ps_set (i := 1) sc_write_text.nd rfl (.inl rfl) (pe_lst pa_nil))
      (pss_cons (ps_set (i := 2) sc_write_text.nd rfl (.inl rfl) pe_int)
      (pss_cons (ps_set (i := 3) sc_write_text.nd rfl (.inl rfl) pe_int)
      (pss_cons (ps_for PassesOwn.never rfl (pi_list (pe_call (ok_runs T) (hr.mono (by decide)) (by rfl) T.g_runs T.F_runs.kp T.b_runs .nil pass0 (pa_cons (pe_call (ok_home T) (hr.mono (by decide)) (by rfl) T.g_home T.F_home.kp T.b_home .nil pass0 (pa_cons (pv 0) pa_nil)) pa_nil))) (pg_unl rfl (pgs_cons (pg_name (i := 4) sc_write_text.nd rfl (.inl rfl)) (pgs_cons (pg_name (i := 5) sc_write_text.nd rfl (.inl rfl)) (pgs_cons (pg_name (i := 6) sc_write_text.nd rfl (.inl rfl)) pgs_nil))))
      (pss_cons (ps_if (pt_cmpR op_gt (pv 4) (pv 2) (nomark _))
      (pss_cons (ps_expr (pe_bm PySem.F.plainAttrs_list PySem.F.slot_list_append PySem.F.type_list_append mt_append (pv 1) (pa_cons (pe_call (ok_counted T) (hr.mono (by decide)) (by rfl) T.g_counted T.F_counted.kp T.b_counted .nil pass0 (pa_cons (pe_op op_sub (pv 4) (pv 2)) (pa_cons (pe_gcx (by rfl) T.c_ROW_END) pa_nil))) pa_nil)))
      (pss_cons (ps_set (i := 2) sc_write_text.nd rfl (.inl rfl) (pv 4))
      (pss_one (ps_set (i := 3) sc_write_text.nd rfl (.inl rfl) pe_int))))
      pss_nil)
      (pss_cons (ps_if (pt_cmpR op_gt (pv 5) (pv 3) (nomark _))
      (pss_one (ps_expr (pe_bm PySem.F.plainAttrs_list PySem.F.slot_list_append PySem.F.type_list_append mt_append (pv 1) (pa_cons (pe_call (ok_counted T) (hr.mono (by decide)) (by rfl) T.g_counted T.F_counted.kp T.b_counted .nil pass0 (pa_cons (pe_op op_sub (pv 5) (pv 3)) (pa_cons (pe_gcx (by rfl) T.c_DEAD) pa_nil))) pa_nil))))
      pss_nil)
      (pss_cons (ps_expr (pe_bm PySem.F.plainAttrs_list PySem.F.slot_list_append PySem.F.type_list_append mt_append (pv 1) (pa_cons (pe_call (ok_counted T) (hr.mono (by decide)) (by rfl) T.g_counted T.F_counted.kp T.b_counted .nil pass0 (pa_cons (pv 6) (pa_cons (pe_gcx (by rfl) T.c_ALIVE) pa_nil))) pa_nil)))
      (pss_one (ps_set (i := 3) sc_write_text.nd rfl (.inl rfl) (pe_op op_add (pv 5) (pv 6))))))))
      (pss_cons (ps_expr (pe_bm PySem.F.plainAttrs_list PySem.F.slot_list_append PySem.F.type_list_append mt_append (pv 1) (pa_cons (pe_gcx (by rfl) T.c_MARK) pa_nil)))
      (pss_one (ps_ret (pe_join pe_str (pv 1))))))))), ?_⟩
    refine ⟨by k_clsL, fun p np => ?_⟩
    k_invariant "new" (np, H1, e1, g1)
    refine ⟨_, rfl, l, ps, rfl, hC.up e1, by omega, fun H2 p2 qs n2 e2 h2 z2 c2 l2' => ?_⟩
    have l2 : qs.length < 64 := by
      by_cases e : ps = []
      · rw [z2 e]
        decide
      · obtain ⟨la, lb⟩ := least_rows e
        have c := c2 _ _ la lb
        rw [ascP_eq c.1 (can_pw (ps.map (addP (-minI (rowsP ps)) (-minI (colsP ps))))) fun x => by rw [c.2, mem_can]]
        have := can_len (ps.map (addP (-minI (rowsP ps)) (-minI (colsP ps))))
        rw [List.length_map] at this
        omega
    have hm : HomeOf ps qs := ⟨z2, c2⟩
    have fq := hm.fit fit
    refine ⟨p2, qs, rfl, h2, by omega, fun H3 p3 n3 e3 h3 => ?_⟩
    have lr := runs_len qs []
    have fr := runs_fit qs [] 1 fq (fun _ m => (by cases m)) (Nat.le_refl _)
    obtain ⟨ts, g3, ht3, et⟩ := h3
    have lt3 : ts.length < 64 := by
      have := congrArg List.length et
      rw [List.length_map] at this
      have lr : (runsP qs).length ≤ 0 + qs.length := lr
      omega
    have np3 : p ≠ p3 := neS g1 e2 n3
    refine ⟨p3, rfl, ⟨_, lst_of g3⟩, for_list (K := K) (a := p3) (xs := ts.map fun t => V.ref t.1) (fun i σ H' => (∀ b o, b ≠ p → H3 b = some o → H' b = some o) ∧ ∃ (ys : List Str) (last en : Int) (x y z : Option V), σ = [some (.ref l), some (.ref p), some (.int last), some (.int en), x, y, z] ∧
      H' p = some (.lst (ys.map V.str)) ∧ ((ys.map tl).flatten, last, en) = ((runsP qs).take i).foldl wStep ([], 0, 0) ∧ ys.length ≤ 3 * i ∧ (∀ y ∈ ys, y.length ≤ 2000) ∧ Fit last ∧ en.natAbs < 2 ^ 59)
      ⟨fun _ _ _ e => e, [], 0, 0, _, _, _, rfl, e3 _ _ (e2 _ _ g1), rfl, by decide, fun _ m => (by cases m), by unfold Fit; decide, by decide⟩ (fun i σ H' _ h => lst_of (h.1 _ _ np3.symm g3)) ?_ ?_⟩
    · rintro i v σ H' hi ⟨sb, ys, last, en, x0, y0, z0, rfl, hp, hw, ly, yl, fl, fe⟩
      obtain ⟨t, mt, rfl, ht2⟩ : ∃ t ∈ ts, v = .ref t.1 ∧ (runsP qs)[i]? = some t.2 := by
        rw [List.getElem?_map] at hi
        cases e : ts[i]? with
        | none => rw [e] at hi; cases hi
        | some t =>
          rw [e] at hi
          refine ⟨t, List.mem_of_getElem? e, (Option.some.inj hi).symm, ?_⟩
          rw [← et, List.getElem?_map, e]
          rfl
      have li : i < ts.length := by
        have := (List.getElem?_eq_some_iff.mp hi).1
        rwa [List.length_map] at this
      have ft := fr t.2 (List.mem_of_getElem? ht2)
      have ft1 := ft.1
      have ft2 := ft.2.1
      unfold Fit at ft1 ft2 fl
      have ft3 := ft.2.2
      have tp : t.1 ≠ p := fun e => by
        have := ht3 t mt
        have g := e3 _ _ (e2 _ _ g1)
        rw [e, g] at this
        have z := HO.lst.inj (Option.some.inj this)
        cases z
      have gt := sb _ _ tp (ht3 t mt)
      have step : ((runsP qs).take (i + 1)).foldl wStep ([], 0, 0) = wStep ((ys.map tl).flatten, last, en) t.2 := by
        rw [take_next ht2, List.foldl_append, ← hw]
        rfl
      refine ⟨t.1, _, rfl, lst_of gt, rfl, _, _, rfl, _, _, rfl, _, _, rfl, rfl, ?_⟩
      refine ⟨_, rfl, _, rfl, _, _, rfl, rfl, _, rfl, ite2 (fun c => ?_) (fun c => ?_)⟩
      · -- row >
        have c := of_decide_eq_true c
        have c : last < t.2.1 := c
        refine ⟨_, rfl, .inl ⟨rfl, _, lst_of hp⟩, _, rfl, _, rfl, _, _, rfl, rfl, _, _, rfl, by show (t.2.1 - last).natAbs < _; omega, by decide, _, _, _, rfl, rfl, hp, by rw [List.length_map, sizeLine_eq]; omega, _, rfl, ?_⟩
        have sb1 : ∀ b o, b ≠ p → H3 b = some o → upd H' p (.lst (ys.map V.str ++ [.str (cntS (t.2.1 - last) (Str.ofString "/"))])) b = some o := fun b o nb e => by
          rw [upd_ne nb]
          exact sb b o nb e
        have hp1 : upd H' p (.lst (ys.map V.str ++ [.str (cntS (t.2.1 - last) (Str.ofString "/"))])) p = some (.lst ((ys ++ [cntS (t.2.1 - last) (Str.ofString "/")]).map V.str)) := by
          rw [upd_same, List.map_append]
          rfl
        have yl1 : ∀ y ∈ ys ++ [cntS (t.2.1 - last) (Str.ofString "/")], y.length ≤ 2000 := fun y m => by
          rcases List.mem_append.mp m with m | m
          · exact yl y m
          · rw [List.mem_singleton.mp m]
            exact len_cntS (by omega) (by decide)
        have tl1 : ((ys ++ [cntS (t.2.1 - last) (Str.ofString "/")]).map tl).flatten = (ys.map tl).flatten ++ cntL (t.2.1 - last) 47 := by
          rw [List.map_append, List.flatten_append]
          show _ ++ [tl (cntS (t.2.1 - last) (Str.ofString "/"))].flatten = _
          rw [tl_cntS tl_slash]
          simp
        have w1 : (if last < t.2.1 then ((ys.map tl).flatten ++ cntL (t.2.1 - last) 47, t.2.1, 0) else ((ys.map tl).flatten, last, en)) = (((ys ++ [cntS (t.2.1 - last) (Str.ofString "/")]).map tl).flatten, t.2.1, (0 : Int)) := by
          rw [if_pos c, tl1]
        have ly1 : (ys ++ [cntS (t.2.1 - last) (Str.ofString "/")]).length ≤ 3 * i + 1 := by
          rw [List.length_append, List.length_singleton]
          omega
        have fl1 : Fit t.2.1 := ft.1
        have fe1 : (0 : Int).natAbs < 2 ^ 59 := by decide
        generalize ys ++ [cntS (t.2.1 - last) (Str.ofString "/")] = ys1 at hp1 yl1 tl1 w1 ly1
        generalize upd H' p (.lst (ys.map V.str ++ [.str (cntS (t.2.1 - last) (Str.ofString "/"))])) = Ha at sb1 hp1
        refine ⟨_, rfl, _, rfl, _, _, rfl, rfl, _, rfl, ite2 (fun d => ?_) (fun d => ?_)⟩
        · have d : 0 < t.2.2.1 := of_decide_eq_true d
          refine ⟨_, rfl, .inl ⟨rfl, _, lst_of hp1⟩, _, rfl, _, rfl, _, _, rfl, rfl, _, _, rfl, by show (t.2.2.1 - 0).natAbs < _; omega, by decide, _, _, _, rfl, rfl, hp1, by rw [List.length_map, sizeLine_eq]; omega, ?_⟩
          have hp2 : upd Ha p (.lst (ys1.map V.str ++ [.str (cntS (t.2.2.1 - 0) (Str.ofString "."))])) p = some (.lst ((ys1 ++ [cntS (t.2.2.1 - 0) (Str.ofString ".")]).map V.str)) := by
            rw [upd_same, List.map_append]
            rfl
          have sb2 : ∀ b o, b ≠ p → H3 b = some o → upd Ha p (.lst (ys1.map V.str ++ [.str (cntS (t.2.2.1 - 0) (Str.ofString "."))])) b = some o := fun b o nb e => by
            rw [upd_ne nb]
            exact sb1 b o nb e
          have yl2 : ∀ y ∈ ys1 ++ [cntS (t.2.2.1 - 0) (Str.ofString ".")], y.length ≤ 2000 := fun y m => by
            rcases List.mem_append.mp m with m | m
            · exact yl1 y m
            · rw [List.mem_singleton.mp m]
              exact len_cntS (by omega) (by decide)
          have w2 : (if 0 < t.2.2.1 then (ys1.map tl).flatten ++ cntL (t.2.2.1 - 0) 46 else (ys1.map tl).flatten) = ((ys1 ++ [cntS (t.2.2.1 - 0) (Str.ofString ".")]).map tl).flatten := by
            rw [if_pos d, List.map_append, List.flatten_append]
            show _ = _ ++ [tl (cntS (t.2.2.1 - 0) (Str.ofString "."))].flatten
            rw [tl_cntS tl_dot]
            simp
          have ly2 : (ys1 ++ [cntS (t.2.2.1 - 0) (Str.ofString ".")]).length ≤ 3 * i + 2 := by
            rw [List.length_append, List.length_singleton]
            omega
          generalize ys1 ++ [cntS (t.2.2.1 - 0) (Str.ofString ".")] = ys2 at hp2 yl2 w2 ly2
          generalize upd Ha p (.lst (ys1.map V.str ++ [.str (cntS (t.2.2.1 - 0) (Str.ofString "."))])) = Hb at sb2 hp2
          refine ⟨_, rfl, .inl ⟨rfl, _, lst_of hp2⟩, _, rfl, _, _, rfl, by show (t.2.2.2).natAbs < _; omega, by decide, _, _, _, rfl, rfl, hp2, by rw [List.length_map, sizeLine_eq]; omega, ?_⟩
          refine ⟨_, rfl, _, rfl, _, _, rfl, rfl, fun b o nb e => ?_, ys2 ++ [cntS t.2.2.2 (Str.ofString "O")], t.2.1, t.2.2.1 + t.2.2.2, _, _, _, rfl, ?_, ?_, ?_, fun y m => ?_, fl1, by omega⟩
          · rw [upd_ne nb]
            exact sb2 b o nb e
          · rw [upd_same, List.map_append]
            rfl
          · rw [step]
            rw [wStep_eq w1 w2, List.map_append, List.flatten_append]
            show (_ ++ [tl (cntS t.2.2.2 (Str.ofString "O"))].flatten, _, _) = _
            rw [tl_cntS tl_O]
            simp
          · rw [List.length_append, List.length_singleton]
            omega
          · rcases List.mem_append.mp m with m | m
            · exact yl2 y m
            · rw [List.mem_singleton.mp m]
              exact len_cntS (by omega) (by decide)
        · have d : ¬ 0 < t.2.2.1 := fun z => d (decide_eq_true z)
          have hp2 := hp1
          have sb2 := sb1
          have yl2 := yl1
          have ly2 : ys1.length ≤ 3 * i + 2 := by omega
          have w2 : (if 0 < t.2.2.1 then (ys1.map tl).flatten ++ cntL (t.2.2.1 - 0) 46 else (ys1.map tl).flatten) = (ys1.map tl).flatten := if_neg d
          refine ⟨_, rfl, .inl ⟨rfl, _, lst_of hp2⟩, _, rfl, _, _, rfl, by show (t.2.2.2).natAbs < _; omega, by decide, _, _, _, rfl, rfl, hp2, by rw [List.length_map, sizeLine_eq]; omega, ?_⟩
          refine ⟨_, rfl, _, rfl, _, _, rfl, rfl, fun b o nb e => ?_, ys1 ++ [cntS t.2.2.2 (Str.ofString "O")], t.2.1, t.2.2.1 + t.2.2.2, _, _, _, rfl, ?_, ?_, ?_, fun y m => ?_, fl1, by omega⟩
          · rw [upd_ne nb]
            exact sb2 b o nb e
          · rw [upd_same, List.map_append]
            rfl
          · rw [step]
            rw [wStep_eq w1 w2, List.map_append, List.flatten_append]
            show (_ ++ [tl (cntS t.2.2.2 (Str.ofString "O"))].flatten, _, _) = _
            rw [tl_cntS tl_O]
            simp
          · rw [List.length_append, List.length_singleton]
            omega
          · rcases List.mem_append.mp m with m | m
            · exact yl2 y m
            · rw [List.mem_singleton.mp m]
              exact len_cntS (by omega) (by decide)
      · -- row =
        have c : ¬ last < t.2.1 := fun z => c (decide_eq_true z)
        have sb1 := sb
        have hp1 := hp
        have yl1 := yl
        have w1 : (if last < t.2.1 then ((ys.map tl).flatten ++ cntL (t.2.1 - last) 47, t.2.1, 0) else ((ys.map tl).flatten, last, en)) = ((ys.map tl).flatten, last, en) := if_neg c
        have ly1 : ys.length ≤ 3 * i + 1 := by omega
        have fl1 := fl
        have fe1 := fe
        refine ⟨_, rfl, _, rfl, _, _, rfl, rfl, _, rfl, ite2 (fun d => ?_) (fun d => ?_)⟩
        · have d : en < t.2.2.1 := of_decide_eq_true d
          refine ⟨_, rfl, .inl ⟨rfl, _, lst_of hp1⟩, _, rfl, _, rfl, _, _, rfl, rfl, _, _, rfl, by show (t.2.2.1 - en).natAbs < _; omega, by decide, _, _, _, rfl, rfl, hp1, by rw [List.length_map, sizeLine_eq]; omega, ?_⟩
          have hp2 : upd H' p (.lst (ys.map V.str ++ [.str (cntS (t.2.2.1 - en) (Str.ofString "."))])) p = some (.lst ((ys ++ [cntS (t.2.2.1 - en) (Str.ofString ".")]).map V.str)) := by
            rw [upd_same, List.map_append]
            rfl
          have sb2 : ∀ b o, b ≠ p → H3 b = some o → upd H' p (.lst (ys.map V.str ++ [.str (cntS (t.2.2.1 - en) (Str.ofString "."))])) b = some o := fun b o nb e => by
            rw [upd_ne nb]
            exact sb1 b o nb e
          have yl2 : ∀ y ∈ ys ++ [cntS (t.2.2.1 - en) (Str.ofString ".")], y.length ≤ 2000 := fun y m => by
            rcases List.mem_append.mp m with m | m
            · exact yl1 y m
            · rw [List.mem_singleton.mp m]
              exact len_cntS (by omega) (by decide)
          have w2 : (if en < t.2.2.1 then (ys.map tl).flatten ++ cntL (t.2.2.1 - en) 46 else (ys.map tl).flatten) = ((ys ++ [cntS (t.2.2.1 - en) (Str.ofString ".")]).map tl).flatten := by
            rw [if_pos d, List.map_append, List.flatten_append]
            show _ = _ ++ [tl (cntS (t.2.2.1 - en) (Str.ofString "."))].flatten
            rw [tl_cntS tl_dot]
            simp
          have ly2 : (ys ++ [cntS (t.2.2.1 - en) (Str.ofString ".")]).length ≤ 3 * i + 2 := by
            rw [List.length_append, List.length_singleton]
            omega
          generalize ys ++ [cntS (t.2.2.1 - en) (Str.ofString ".")] = ys2 at hp2 yl2 w2 ly2
          generalize upd H' p (.lst (ys.map V.str ++ [.str (cntS (t.2.2.1 - en) (Str.ofString "."))])) = Hb at sb2 hp2
          refine ⟨_, rfl, .inl ⟨rfl, _, lst_of hp2⟩, _, rfl, _, _, rfl, by show (t.2.2.2).natAbs < _; omega, by decide, _, _, _, rfl, rfl, hp2, by rw [List.length_map, sizeLine_eq]; omega, ?_⟩
          refine ⟨_, rfl, _, rfl, _, _, rfl, rfl, fun b o nb e => ?_, ys2 ++ [cntS t.2.2.2 (Str.ofString "O")], last, t.2.2.1 + t.2.2.2, _, _, _, rfl, ?_, ?_, ?_, fun y m => ?_, fl1, by omega⟩
          · rw [upd_ne nb]
            exact sb2 b o nb e
          · rw [upd_same, List.map_append]
            rfl
          · rw [step]
            rw [wStep_eq w1 w2, List.map_append, List.flatten_append]
            show (_ ++ [tl (cntS t.2.2.2 (Str.ofString "O"))].flatten, _, _) = _
            rw [tl_cntS tl_O]
            simp
          · rw [List.length_append, List.length_singleton]
            omega
          · rcases List.mem_append.mp m with m | m
            · exact yl2 y m
            · rw [List.mem_singleton.mp m]
              exact len_cntS (by omega) (by decide)
        · have d : ¬ en < t.2.2.1 := fun z => d (decide_eq_true z)
          have hp2 := hp1
          have sb2 := sb1
          have yl2 := yl1
          have ly2 : ys.length ≤ 3 * i + 2 := by omega
          have w2 : (if en < t.2.2.1 then (ys.map tl).flatten ++ cntL (t.2.2.1 - en) 46 else (ys.map tl).flatten) = (ys.map tl).flatten := if_neg d
          refine ⟨_, rfl, .inl ⟨rfl, _, lst_of hp2⟩, _, rfl, _, _, rfl, by show (t.2.2.2).natAbs < _; omega, by decide, _, _, _, rfl, rfl, hp2, by rw [List.length_map, sizeLine_eq]; omega, ?_⟩
          refine ⟨_, rfl, _, rfl, _, _, rfl, rfl, fun b o nb e => ?_, ys ++ [cntS t.2.2.2 (Str.ofString "O")], last, t.2.2.1 + t.2.2.2, _, _, _, rfl, ?_, ?_, ?_, fun y m => ?_, fl1, by omega⟩
          · rw [upd_ne nb]
            exact sb2 b o nb e
          · rw [upd_same, List.map_append]
            rfl
          · rw [step]
            rw [wStep_eq w1 w2, List.map_append, List.flatten_append]
            show (_ ++ [tl (cntS t.2.2.2 (Str.ofString "O"))].flatten, _, _) = _
            rw [tl_cntS tl_O]
            simp
          · rw [List.length_append, List.length_singleton]
            omega
          · rcases List.mem_append.mp m with m | m
            · exact yl2 y m
            · rw [List.mem_singleton.mp m]
              exact len_cntS (by omega) (by decide)
    · rintro σ H' ⟨sb, ys, last, en, x0, y0, z0, rfl, hp, hw, ly, yl, fl, fe⟩
      rw [List.take_of_length_le (by rw [← et, List.length_map, List.length_map]; exact Nat.le_refl _)] at hw
      have sH : Same H (upd H' p (.lst (ys.map V.str ++ [.str (Str.ofString "!")]))) := fun b o e => by
        have nb : b ≠ p := fun z => by
          rw [z, np] at e
          cases e
        rw [upd_ne nb]
        exact sb b o nb (e3 _ _ (e2 _ _ (e1 _ _ e)))
      have hp1 : upd H' p (.lst (ys.map V.str ++ [.str (Str.ofString "!")])) p = some (.lst ((ys ++ [Str.ofString "!"]).map V.str)) := by
        rw [upd_same, List.map_append]
        rfl
      rw [List.length_map] at ly
      refine ⟨_, rfl, .inl ⟨rfl, _, lst_of hp⟩, _, _, _, rfl, rfl, hp, by rw [List.length_map, sizeLine_eq]; omega, ?_⟩
      have all1 : ∀ y ∈ ys ++ [Str.ofString "!"], y.length ≤ 2000 := fun y m => by
        rcases List.mem_append.mp m with m | m
        · exact yl y m
        · rw [List.mem_singleton.mp m]
          decide
      have sum1 := sum_len all1
      have ll1 : (ys ++ [Str.ofString "!"]).length ≤ 200 := by
        rw [List.length_append, List.length_singleton]
        omega
      have tj : tl (Txt.join (Str.ofString "") (ys ++ [Str.ofString "!"])) = ((ys ++ [Str.ofString "!"]).map tl).flatten := by
        rw [join_eq, tl_join, tl_e, joinL_e]
      refine ⟨⟨_, rfl⟩, _, rfl, _, p, ys ++ [Str.ofString "!"], rfl, rfl, .inl (lst_of hp1), ?_, ?_⟩
      · rw [show (Str.ofString "").length = 0 by decide +kernel]
        omega
      · refine q _ _ qs sH hm ?_ ?_
        · rw [tj, List.map_append, List.flatten_append]
          show _ ++ [tl (Str.ofString "!")].flatten = _
          rw [tl_mark]
          unfold writeP
          rw [← hw]
          simp
        · rw [TL.len_tl, tj, List.length_flatten, List.map_map]
          have : ((ys ++ [Str.ofString "!"]).map (List.length ∘ tl)) = (ys ++ [Str.ofString "!"]).map (·.length) := List.map_congr_left fun y _ => (TL.len_tl y).symm
          rw [this]
          omega
end
end My
namespace My
open PySem PySem.Spec PyProof.Rows L2 Vx
open TL
local macro_rules | `(tactic| k_invariant "new" ($n, $H:ident, $e:ident, $h:ident)) => `(tactic| (generalize hE : upd _ _ _ = $H; obtain ⟨$e:ident, $h:ident⟩ := gen_e hE $n; clear hE))
local macro_rules | `(tactic| k_places) => `(tactic| first
  | assumption
  | exact lst_of (by assumption)
  | exact tup_of (by assumption)
  | (refine getS (by assumption) ?_; k_places)
  | (refine Same.seq (by assumption) ?_; k_places)
  | (refine tupS (by assumption) ?_; k_places)
  | (refine lst_of ?_; k_places)
  | (refine tup_of ?_; k_places))
local macro_rules | `(tactic| k_subL) => `(tactic| first
  | k_places
  | solve_by_elim (maxDepth := 10) [getS, lst_of, tup_of, Same.seq, tupS])
local macro_rules | `(tactic| k_offL) => `(tactic| first
  | (show (0 : Int) < _; first | omega | decide)
  | (refine ⟨?_, ?_⟩ <;> first | omega | decide)
  | exact .inr ⟨by decide, by decide⟩
  | exact .inl ⟨by decide, by decide⟩
  | exact .inl ⟨by omega, by omega⟩
  | omega)
local macro_rules | `(tactic| k_clsL) => `(tactic| exact Nat.le_of_ble_eq_true rfl)
local macro_rules | `(tactic| k_upd) => `(tactic| simp only [L2.start, List.map_cons, List.map_nil, List.length_cons, List.length_nil, List.replicate_succ, List.replicate_zero, List.cons_append, List.nil_append, List.set_cons_zero, List.set_cons_succ])
section
variable {P : Program} {w : World} {K : PySem.W.Frag} {mg : Str → Option Value} {base : Heap}
/-! ### texts counted and sorted -/
def leS (a b : Str) : Bool := decide (a.cps.toList ≤ b.cps.toList)
theorem leS_anti {a b : Str} (h : leS a b = true) (k : leS b a = true) : a = b := by
  have e := List.le_antisymm (of_decide_eq_true h) (of_decide_eq_true k)
  obtain ⟨⟨l⟩⟩ := a
  obtain ⟨⟨m⟩⟩ := b
  have e : l = m := e
  rw [e]
theorem leS_trans (a b c : Str) (h : leS a b = true) (k : leS b c = true) : leS a c = true := decide_eq_true (List.le_trans (of_decide_eq_true h) (of_decide_eq_true k))
theorem leS_total (a b : Str) : (leS a b || leS b a) = true := by
  rcases List.le_total a.cps.toList b.cps.toList with h | h
  · rw [show leS a b = true from decide_eq_true h]
    rfl
  · rw [show leS b a = true from decide_eq_true h, Bool.or_true]
theorem uniqS : ∀ {l m : List Str}, l.Pairwise (fun a b => leS a b = true) → m.Pairwise (fun a b => leS a b = true) → l.Nodup → m.Nodup → (∀ x, x ∈ l ↔ x ∈ m) → l = m
  | [], [], _, _, _, _, _ => rfl
  | [], b :: m, _, _, _, _, h => by cases (h b).mpr List.mem_cons_self
  | a :: l, [], _, _, _, _, h => by cases (h a).mp List.mem_cons_self
  | a :: l, b :: m, p, q, n, k, h => by
    have p1 := List.pairwise_cons.mp p
    have q1 := List.pairwise_cons.mp q
    have n1 := List.nodup_cons.mp n
    have k1 := List.nodup_cons.mp k
    have e : a = b := by
      rcases List.mem_cons.mp ((h a).mp List.mem_cons_self) with e | e
      · exact e
      · rcases List.mem_cons.mp ((h b).mpr List.mem_cons_self) with f | f
        · exact f.symm
        · exact leS_anti (p1.1 b f) (q1.1 a e)
    subst e
    rw [uniqS p1.2 q1.2 n1.2 k1.2 fun x => ⟨fun m' => ?_, fun m' => ?_⟩]
    · rcases List.mem_cons.mp ((h x).mp (List.mem_cons_of_mem _ m')) with e | e
      · exact absurd (e ▸ m') n1.1
      · exact e
    · rcases List.mem_cons.mp ((h x).mpr (List.mem_cons_of_mem _ m')) with e | e
      · exact absurd (e ▸ m') k1.1
      · exact e
def srtS (T : List Str) : List Str := T.mergeSort leS
theorem srtS_pw (T : List Str) : (srtS T).Pairwise fun a b => leS a b = true := List.pairwise_mergeSort (fun a b c => leS_trans a b c) leS_total T
theorem mem_srtS {T : List Str} {x : Str} : x ∈ srtS T ↔ x ∈ T := (List.mergeSort_perm T leS).mem_iff
/-- each text once, of a sorted row -/
def dstF (acc : List Str) (t : Str) : List Str := if acc.getLast? = some t then acc else acc ++ [t]
def dstS (S : List Str) : List Str := S.foldl dstF []
theorem dstS_s (S : List Str) (t : Str) : dstS (S ++ [t]) = dstF (dstS S) t := by
  unfold dstS
  rw [List.foldl_append]
  rfl
theorem dst_facts : ∀ (n : Nat) (S : List Str), S.length = n → S.Pairwise (fun a b => leS a b = true) → (dstS S).Pairwise (fun a b => leS a b = true) ∧ (dstS S).Nodup ∧ (∀ x, x ∈ dstS S ↔ x ∈ S) ∧ (dstS S).getLast? = S.getLast?
  | 0, S, h, _ => by
    rw [List.eq_nil_of_length_eq_zero h]
    exact ⟨.nil, List.nodup_nil, fun _ => Iff.rfl, rfl⟩
  | n + 1, S, h, p => by
    have hne : S ≠ [] := fun z => by rw [z] at h; cases h
    obtain ⟨S0, t, e⟩ : ∃ S0 t, S = S0 ++ [t] := ⟨S.dropLast, S.getLast hne, (List.dropLast_concat_getLast hne).symm⟩
    subst e
    rw [List.length_append] at h
    obtain ⟨p0, _, p2⟩ := List.pairwise_append.mp p
    obtain ⟨i1, i2, i3, i4⟩ := dst_facts n S0 (by simp at h; omega) p0
    rw [dstS_s]
    unfold dstF
    by_cases c : (dstS S0).getLast? = some t
    · rw [if_pos c]
      refine ⟨i1, i2, fun x => ?_, by rw [c, List.getLast?_concat]⟩
      rw [i3, List.mem_append, List.mem_singleton]
      refine ⟨.inl, fun z => z.elim id fun z => ?_⟩
      rw [z, ← i3]
      exact List.mem_of_getLast? c
    · rw [if_neg c]
      have nt : t ∉ S0 := fun m => by
        have hne0 : S0 ≠ [] := fun z => by rw [z] at m; cases m
        obtain ⟨S1, u, e⟩ : ∃ S1 u, S0 = S1 ++ [u] := ⟨S0.dropLast, S0.getLast hne0, (List.dropLast_concat_getLast hne0).symm⟩
        rw [i4, e, List.getLast?_concat] at c
        have l1 := p2 u (by rw [e]; exact List.mem_append.mpr (.inr List.mem_cons_self)) t List.mem_cons_self
        rw [e] at m p0
        rcases List.mem_append.mp m with m | m
        · exact c (congrArg some (leS_anti l1 ((List.pairwise_append.mp p0).2.2 t m u List.mem_cons_self)))
        · exact c (congrArg some (List.mem_singleton.mp m).symm)
      refine ⟨List.pairwise_append.mpr ⟨i1, List.pairwise_singleton _ _, fun x m y k => p2 x ((i3 x).mp m) y k⟩, List.nodup_append.mpr ⟨i2, (List.nodup_cons.mpr ⟨List.not_mem_nil, List.nodup_nil⟩), fun x m y k z => ?_⟩, fun x => ?_, by rw [List.getLast?_concat, List.getLast?_concat]⟩
      · rw [z, List.mem_singleton.mp k] at m
        exact nt ((i3 t).mp m)
      · rw [List.mem_append, List.mem_append, i3]
/-- a dict of counts -/
def cnzL (dk : List Str) (g : Str → Int) : List (L2.Key × V) := dk.map fun t => (Sum.inr t, V.int (g t))
def ctD (g : Str → Int) (t : Str) : PyData := .tuple [.str t, .int (g t)]
theorem ct_le (g : Str → Int) : W.dataLe false (ctD g) = leS := by
  funext a b
  show (!W.dataLt (.tuple [.str b, .int (g b)]) (.tuple [.str a, .int (g a)])) = decide (a.cps.toList ≤ b.cps.toList)
  rw [W.dataLt_pair rfl rfl]
  by_cases e : a = b
  · subst e
    rw [if_pos (by simp [PyData.eqv]), if_pos (by simp [PyData.eqv])]
    exact (decide_eq_true (List.le_refl _)).symm
  · rw [if_neg (by simp [PyData.eqv]; exact fun z => e z.symm), W.dataLt_str, W.not_lt_str]
theorem cnt_sorted (dk : List Str) (g : Str → Int) : ((cnzL dk g).mergeSort (W.dataLe false itD)).map itD = (srtS dk).map (ctD g) := by
  unfold cnzL srtS
  have em := List.map_mergeSort (r := leS) (s := W.dataLe false itD) (f := fun t : Str => ((Sum.inr t : L2.Key), V.int (g t))) (l := dk) (fun a _ b _ => by
    rw [← ct_le g]
    rfl)
  rw [← em, List.map_map]
  rfl
theorem valS {dk : List Str} {g : Str → Int} {t : Str} : valV (cnzL dk g) (Sum.inr t) = if t ∈ dk then some (.int (g t)) else none := by
  unfold cnzL
  induction dk with
  | nil => rfl
  | cons u dk ih =>
    rw [List.map_cons]
    by_cases e : t = u
    · rw [e, valV_pos rfl, if_pos List.mem_cons_self]
    · rw [valV_neg (fun z => e (Sum.inr.inj z).symm), ih]
      by_cases m : t ∈ dk
      · rw [if_pos m, if_pos (List.mem_cons_of_mem _ m)]
      · rw [if_neg m, if_neg fun z => (List.mem_cons.mp z).elim e m]
def addS (dk : List Str) (t : Str) : List Str := if t ∈ dk then dk else dk ++ [t]
theorem mem_addS {dk : List Str} {t x : Str} : x ∈ addS dk t ↔ x ∈ dk ∨ x = t := by
  unfold addS
  by_cases m : t ∈ dk
  · rw [if_pos m]
    exact ⟨.inl, fun z => z.elim id fun z => z ▸ m⟩
  · rw [if_neg m, List.mem_append, List.mem_singleton]
theorem addS_nodup {dk : List Str} {t : Str} (h : dk.Nodup) : (addS dk t).Nodup := by
  unfold addS
  by_cases m : t ∈ dk
  · rw [if_pos m]
    exact h
  · rw [if_neg m]
    exact List.nodup_append.mpr ⟨h, (List.nodup_cons.mpr ⟨List.not_mem_nil, List.nodup_nil⟩), fun x k y j z => m (by rw [← List.mem_singleton.mp j, ← z]; exact k)⟩
theorem putS {dk : List Str} {g : Str → Int} {t : Str} {n : Int} : putK (cnzL dk g) (Sum.inr t) (.int n) = cnzL (addS dk t) fun u => if u = t then n else g u := by
  unfold putK
  have ea : ((cnzL dk g).any fun kv => decide (kv.1 = Sum.inr t)) = decide (t ∈ dk) := by
    rw [Bool.eq_iff_iff, List.any_eq_true, decide_eq_true_iff]
    unfold cnzL
    constructor
    · rintro ⟨kv, m, e⟩
      obtain ⟨u, mu, rfl⟩ := List.mem_map.mp m
      exact Sum.inr.inj (of_decide_eq_true e) ▸ mu
    · intro m
      exact ⟨_, List.mem_map.mpr ⟨t, m, rfl⟩, decide_eq_true rfl⟩
  rw [ea]
  unfold addS
  by_cases m : t ∈ dk
  · rw [if_pos (decide_eq_true m), if_pos m]
    unfold cnzL
    rw [List.map_map]
    refine List.map_congr_left fun u _ => ?_
    show (if (Sum.inr u : L2.Key) = Sum.inr t then ((Sum.inr u : L2.Key), V.int n) else (Sum.inr u, V.int (g u))) = _
    by_cases e : u = t
    · rw [if_pos (congrArg _ e)]
      dsimp only
      rw [if_pos e]
    · rw [if_neg (fun z => e (Sum.inr.inj z))]
      dsimp only
      rw [if_neg e]
  · rw [if_neg (by rw [decide_eq_true_iff]; exact m), if_neg m]
    unfold cnzL
    rw [List.map_append]
    congr 1
    · refine List.map_congr_left fun u k => ?_
      have ne : u ≠ t := fun z => m (by rw [← z]; exact k)
      dsimp only
      rw [if_neg ne]
    · show [((Sum.inr t : L2.Key), V.int n)] = [((Sum.inr t : L2.Key), V.int (if t = t then n else g t))]
      rw [if_pos rfl]
theorem told_due {T dk : List Str} (nd : dk.Nodup) (h : ∀ t, t ∈ dk ↔ t ∈ T) : srtS dk = dstS (srtS T) := by
  obtain ⟨f1, f2, f3, _⟩ := dst_facts _ (srtS T) rfl (srtS_pw T)
  exact uniqS (srtS_pw dk) f1 ((List.mergeSort_perm dk leS).nodup_iff.mpr nd) f2 fun x => by rw [f3, mem_srtS, mem_srtS, h]
end
end My
namespace My
open PySem PySem.Spec PyProof.Rows L2 Vx
open TL
local macro_rules | `(tactic| k_invariant "new" ($n, $H:ident, $e:ident, $h:ident)) => `(tactic| (generalize hE : upd _ _ _ = $H; obtain ⟨$e:ident, $h:ident⟩ := gen_e hE $n; clear hE))
local macro_rules | `(tactic| k_places) => `(tactic| first
  | assumption
  | exact lst_of (by assumption)
  | exact tup_of (by assumption)
  | (refine getS (by assumption) ?_; k_places)
  | (refine Same.seq (by assumption) ?_; k_places)
  | (refine tupS (by assumption) ?_; k_places)
  | (refine lst_of ?_; k_places)
  | (refine tup_of ?_; k_places))
local macro_rules | `(tactic| k_subL) => `(tactic| first
  | k_places
  | solve_by_elim (maxDepth := 10) [getS, lst_of, tup_of, Same.seq, tupS])
local macro_rules | `(tactic| k_offL) => `(tactic| first
  | (show (0 : Int) < _; first | omega | decide)
  | (refine ⟨?_, ?_⟩ <;> first | omega | decide)
  | exact .inr ⟨by decide, by decide⟩
  | exact .inl ⟨by decide, by decide⟩
  | exact .inl ⟨by omega, by omega⟩
  | omega)
local macro_rules | `(tactic| k_clsL) => `(tactic| exact Nat.le_of_ble_eq_true rfl)
local macro_rules | `(tactic| k_upd) => `(tactic| simp only [L2.start, List.map_cons, List.map_nil, List.length_cons, List.length_nil, List.replicate_succ, List.replicate_zero, List.cons_append, List.nil_append, List.set_cons_zero, List.set_cons_succ])
section
variable {P : Program} {w : World} {K : PySem.W.Frag} {mg : Str → Option Value} {base : Heap}
theorem isl_mem {L p : List Pr} (h : p ∈ islL L) : ∃ f, f ∈ L ∧ frst L f = true ∧ p = compL L f := by
  unfold islL at h
  obtain ⟨f, m, e⟩ := List.mem_map.mp h
  obtain ⟨m1, m2⟩ := List.mem_filter.mp m
  exact ⟨f, m1, m2, e.symm⟩
theorem isl_len (L : List Pr) : (islL L).length ≤ L.length := by
  unfold islL
  rw [List.length_map]
  exact List.length_filter_le _ _
theorem isl_part {L p : List Pr} (pw : L.Pairwise ltP) (m : p ∈ islL L) : p.Pairwise ltP ∧ p.length ≤ L.length := by
  obtain ⟨f, _, _, rfl⟩ := isl_mem m
  exact ⟨compL_pw pw f, List.length_filter_le _ _⟩
theorem lt8 {n c : Nat} (h : n + 65 < c) : n + 8 < c := by omega
/-! ### a census -/
/-- the one home form of cells, ascending -/
def hmF (ps : List Pr) : List Pr := if ps = [] then [] else can (ps.map (addP (-(minI (rowsP ps))) (-(minI (colsP ps)))))
theorem homeOf_hm {ps qs : List Pr} (h : HomeOf ps qs) : qs = hmF ps := by
  unfold hmF
  by_cases e : ps = []
  · rw [if_pos e]
    exact h.1 e
  · rw [if_neg e]
    obtain ⟨la, lb⟩ := least_rows e
    have c := h.2 _ _ la lb
    exact ascP_eq c.1 (can_pw _) fun x => by rw [c.2, mem_can]
def wtx (ps : List Pr) : Str := ⟨(writeP (runsP (hmF ps))).toArray⟩
theorem wtx_of {s : Str} {ps qs : List Pr} (h : HomeOf ps qs) (e : tl s = writeP (runsP qs)) : s = wtx ps := by
  rw [homeOf_hm h] at e
  obtain ⟨a⟩ := s
  have e : a.toList = writeP (runsP (hmF ps)) := e
  unfold wtx
  rw [← e]
theorem leastF_mem (ps : List Pr) : leastF ps ∈ forms ps := (leastF_is ps).1
theorem form_mem {f ps : List Pr} (h : f ∈ forms ps) : ∃ d, f = formD d ps := by
  obtain ⟨d, _, rfl⟩ := List.mem_map.mp h
  exact ⟨d, rfl⟩
theorem leastF_len (ps : List Pr) : (leastF ps).length ≤ ps.length := by
  obtain ⟨d, e⟩ := form_mem (leastF_mem ps)
  rw [e]
  unfold formD homF
  rw [List.length_map]
  have := can_len (ps.map (D8 d))
  rw [List.length_map] at this
  exact this
theorem D8_abs (d : Bool × Bool × Bool) (x : Pr) : (D8 d x).1.natAbs ≤ max x.1.natAbs x.2.natAbs ∧ (D8 d x).2.natAbs ≤ max x.1.natAbs x.2.natAbs := by
  obtain ⟨a, b, c⟩ := d
  obtain ⟨r, k⟩ := x
  cases a <;> cases b <;> cases c <;> simp [D8] <;> omega
theorem leastF_fit {ps : List Pr} {M : Nat} (h : ∀ x ∈ ps, x.1.natAbs ≤ M ∧ x.2.natAbs ≤ M) : ∀ x ∈ leastF ps, x.1.natAbs ≤ 2 * M ∧ x.2.natAbs ≤ 2 * M := by
  obtain ⟨d, e⟩ := form_mem (leastF_mem ps)
  rw [e]
  unfold formD homF
  have hc : ∀ y ∈ can (ps.map (D8 d)), y.1.natAbs ≤ M ∧ y.2.natAbs ≤ M := fun y m => by
    obtain ⟨z, mz, rfl⟩ := List.mem_map.mp (mem_can.mp m)
    have := h z mz
    have := D8_abs d z
    omega
  intro x m
  obtain ⟨y, my, rfl⟩ := List.mem_map.mp m
  obtain ⟨la, lb⟩ := least_rows (ps := can (ps.map (D8 d))) (fun z => by rw [z] at my; cases my)
  have b1 : (minI (rowsP (can (ps.map (D8 d))))).natAbs ≤ M := by
    obtain ⟨z, mz, ez⟩ := List.mem_map.mp la.1
    rw [← ez]
    exact (hc z mz).1
  have b2 : (minI (colsP (can (ps.map (D8 d))))).natAbs ≤ M := by
    obtain ⟨z, mz, ez⟩ := List.mem_map.mp lb.1
    rw [← ez]
    exact (hc z mz).2
  have := hc y my
  unfold addP
  dsimp only
  omega
noncomputable def txtL (L : List Pr) : List Str := (islL L).map fun p => wtx (leastF p)
theorem cells_keep {H H' : Hp} {d l : Addr} {kvs : List (L2.Key × V)} {ps : List Pr} (k : ∀ b o, b ≠ d → H b = some o → H' b = some o) (hd : H d = some (.dK kvs)) (h : Cells H l ps) : Cells H' l ps := by
  obtain ⟨ts, h1, h2, h3⟩ := h
  exact ⟨ts, k _ _ (fun z => by rw [z, hd] at h1; cases h1) h1, fun t m => k _ _ (fun z => by have := h2 t m; rw [z, hd] at this; cases this) (h2 t m), h3⟩
def sp_census : Sp := fun vs H Q _ => ∃ (l : Addr) (ps : List Pr), vs = [.ref l] ∧ Cells H l ps ∧ ps.length ≤ 60 ∧ (∀ x ∈ ps, x.1.natAbs ≤ 1000 ∧ x.2.natAbs ≤ 1000) ∧
  ∀ (H' : Hp) (p : Addr) (L : List Pr) (dk : List Str) (bs : List (Addr × L2.Key × V)), Same H H' → CanP ps L → dk.Nodup → (∀ t, t ∈ dk ↔ t ∈ txtL L) → H' p = some (.lst (bs.map fun b => V.ref b.1)) → (∀ b ∈ bs, H' b.1 = some (.tup [kV b.2.1, b.2.2])) →
    bs.map (·.2) = (cnzL dk fun t => ((txtL L).count t : Int)).mergeSort (W.dataLe false itD) → Q (.ref p) H'
theorem ok_census (T : Txt K mg) : FnOk P w K mg base CX0 7 T.f_census T.d_census ["cells"] sp_census := by
  refine T.F_census.ok sc_census (fun vs H Q E h => ?_) (fun cdv A outer s H vs Q E hr h => ?_)
  · obtain ⟨_, _, rfl, _⟩ := h
    rfl
  · obtain ⟨l, ps, rfl, hC, few, fit, q⟩ := h
    have hu65 : (A.deeper (envOfC (Str.ofString "census") (defScope s_census) s.heap.objs.size T.f_census cdv)).units + 65 < cLine := by
      have := hr.un
      omega
    have hu : (A.deeper (envOfC (Str.ofString "census") (defScope s_census) s.heap.objs.size T.f_census cdv)).units + 1 < cLine := by
      have := hr.units
      omega
    refine ⟨_, (pss_cons (ps_set (i := 1) sc_census.nd rfl (.inl rfl) pe_dnewK)
      (pss_cons (ps_for PassesOwn.never rfl (pi_list (pe_call (ok_islands T) (hr.mono (by decide)) (by rfl) T.g_islands T.F_islands.kp T.b_islands .nil pass0 (pa_cons (pv 0) pa_nil))) (pg_name (i := 2) sc_census.nd rfl (.inl rfl))
      (pss_cons (ps_set (i := 3) sc_census.nd rfl (.inl rfl) (pe_call (ok_write_text T) (hr.mono (by decide)) (by rfl) T.g_write_text T.F_write_text.kp T.b_write_text .nil pass0 (pa_cons (pe_call (ok_least_form T) (hr.mono (by decide)) (by rfl) T.g_least_form T.F_least_form.kp T.b_least_form .nil pass0 (pa_cons (pv 2) pa_nil)) pa_nil)))
      (pss_one (ps_dput hu (pv 1) (pv 3) (pe_op op_add (pe_dget2 hu (pv 1) (pv 3) pe_int ⟨rfl, rfl, rfl, rfl⟩) pe_int) rfl))))
      (pss_one (ps_ret (pe_sortedItems rfl (lt8 hu65) (pv 1) (by rfl) T.z_sorted (by decide +kernel)))))), ?_⟩
    refine fun d nd => ?_
    k_invariant "new" (nd, H1, e1, g1)
    k_upd
    refine ⟨_, rfl, l, ps, rfl, hC.up e1, by omega, fun H2 pl L n2 e2 can2 h2 => ?_⟩
    obtain ⟨ts, hts, hcl, ets⟩ := id h2
    have npd : pl ≠ d := fun z => by rw [z, g1] at n2; cases n2
    have lL : L.length ≤ 60 := by
      have e : L = can ps := ascP_eq can2.1 (can_pw ps) fun x => by rw [can2.2, mem_can]
      rw [e]
      exact Nat.le_trans (can_len ps) few
    have lis := isl_len L
    have part : ∀ p ∈ islL L, p.length ≤ 60 ∧ ∀ x ∈ p, x.1.natAbs ≤ 1000 ∧ x.2.natAbs ≤ 1000 := fun p m => by
      have a := isl_part can2.1 m
      obtain ⟨f, _, _, rfl⟩ := isl_mem m
      exact ⟨by omega, fun x mx => fit x ((can2.2 x).mp (List.mem_filter.mp mx).1)⟩
    have lts : ts.length = (islL L).length := by rw [← ets, List.length_map]
    refine ⟨pl, rfl, ⟨_, lst_of hts⟩, for_list (K := K) (a := pl) (xs := ts.map fun t => V.ref t.1) (fun i σ H' => (∀ b o, b ≠ d → H2 b = some o → H' b = some o) ∧ Same H H' ∧ (∃ x2 x3 : Option V, σ = [some (.ref l), some (.ref d), x2, x3]) ∧ ∃ dk : List Str, dk.Nodup ∧ dk.length ≤ i ∧ (∀ t, t ∈ dk ↔ t ∈ (txtL L).take i) ∧ H' d = some (.dK (cnzL dk fun t => (((txtL L).take i).count t : Int))))
      ⟨fun b o _ e => e, e1.trans e2, ⟨none, none, rfl⟩, [], List.nodup_nil, Nat.le_refl _, fun t => ⟨fun z => (by cases z), fun z => by rw [List.take_zero] at z; cases z⟩, e2 _ _ g1⟩ (fun i σ H' _ p => lst_of (p.1 _ _ npd hts)) ?_ ?_⟩
    · rintro i v σ H3 hi ⟨k3, s3, ⟨x2, x3, rfl⟩, dk, ndk, ldk, mdk, gd⟩
      have li := (List.getElem?_eq_some_iff.mp hi).1
      rw [List.length_map] at li
      rw [List.getElem?_map] at hi
      obtain ⟨t, et, rfl⟩ := Option.map_eq_some_iff.mp hi
      have mt := List.mem_of_getElem? et
      refine gName_go ?_
      k_upd
      have hp : t.2 ∈ islL L := by rw [← ets]; exact List.mem_map.mpr ⟨t, mt, rfl⟩
      obtain ⟨lp, fp⟩ := part t.2 hp
      have gd2 := e2 _ _ g1
      have ht := cells_keep k3 gd2 (hcl t mt)
      refine ⟨_, rfl, t.1, t.2, rfl, ht, by omega, fun H4 pf e4 hf => ?_⟩
      have ll := leastF_len t.2
      have lf := leastF_fit (M := 1000) fp
      refine ⟨pf, leastF t.2, rfl, hf, by omega, fun x m => ?_, fun H5 s qs e5 ho es len => ?_⟩
      · have := lf x m
        omega
      rw [wtx_of ho es]
      k_upd
      obtain ⟨tx, etx⟩ : ∃ tx, tx = wtx (leastF t.2) := ⟨_, rfl⟩
      rw [← etx]
      have s45 := e4.trans e5
      have gd5 := s45 _ _ gd
      have hT : (txtL L)[i]? = some tx := by
        unfold txtL
        rw [← ets, List.map_map, List.getElem?_map, et, etx]
        rfl
      have tk : (txtL L).take (i + 1) = (txtL L).take i ++ [tx] := by rw [List.take_succ, hT]; rfl
      refine ⟨_, rfl, d, rfl, .inl ⟨_, .inl gd5⟩, _, rfl, _, .inl ⟨_, Sum.inr tx, .inl gd5, rfl, rfl⟩, ?_⟩
      rw [valS]
      have ev : ((if tx ∈ dk then some (V.int (((txtL L).take i).count tx : Int)) else none).getD (.int 0)) = .int (((txtL L).take i).count tx : Int) := by
        by_cases m : tx ∈ dk
        · rw [if_pos m]
          rfl
        · rw [if_neg m, List.count_eq_zero_of_not_mem (fun z => m ((mdk tx).mpr z))]
          rfl
      rw [ev]
      refine ⟨_, _, rfl, rfl, _, rfl, _, rfl, d, _, rfl, DPut.k (k := Sum.inr tx) gd5 (by unfold cnzL; rw [List.length_map, sizeLine_eq]; omega), fun b o nb hb => by rw [upd_ne nb]; exact s45 _ _ (k3 b o nb hb), mutS (s3.trans s45) nd, ⟨_, _, rfl⟩, addS dk tx, addS_nodup ndk, ?_, fun u => ?_, ?_⟩
      · unfold addS
        split
        · omega
        · rw [List.length_append]
          show _ + 1 ≤ _
          omega
      · rw [mem_addS, mdk, tk, List.mem_append, List.mem_singleton]
      · rw [upd_same, putS, tk]
        congr 2
        unfold cnzL
        refine List.map_congr_left fun u _ => ?_
        dsimp only
        rw [List.count_append]
        by_cases e : u = tx
        · rw [if_pos e, e, List.count_singleton_self]
          rfl
        · rw [if_neg e, List.count_eq_zero_of_not_mem (fun z => e (List.mem_singleton.mp z))]
          rfl
    · rintro σ H3 ⟨k3, s3, ⟨x2, x3, rfl⟩, dk, ndk, ldk, mdk, gd⟩
      have et : (txtL L).take (ts.map fun t => V.ref t.1).length = txtL L := by
        rw [List.take_of_length_le]
        unfold txtL
        rw [List.length_map, List.length_map, lts]
        exact Nat.le_refl _
      rw [et] at mdk gd
      refine ⟨_, rfl, d, _, rfl, gd, fun p m => ?_, fun H4 B bs e4 nB gB hbs hb => q H4 B L dk bs (s3.trans e4) can2 ndk mdk gB hbs hb⟩
      obtain ⟨t, _, rfl⟩ := List.mem_map.mp m
      exact ⟨_, _, rfl, rfl⟩
end
end My
namespace My
open PySem PySem.Spec PyProof.Rows L2 Vx
open TL
local macro_rules | `(tactic| k_invariant "new" ($n, $H:ident, $e:ident, $h:ident)) => `(tactic| (generalize hE : upd _ _ _ = $H; obtain ⟨$e:ident, $h:ident⟩ := gen_e hE $n; clear hE))
local macro_rules | `(tactic| k_places) => `(tactic| first
  | assumption
  | exact lst_of (by assumption)
  | exact tup_of (by assumption)
  | (refine getS (by assumption) ?_; k_places)
  | (refine Same.seq (by assumption) ?_; k_places)
  | (refine tupS (by assumption) ?_; k_places)
  | (refine lst_of ?_; k_places)
  | (refine tup_of ?_; k_places))
local macro_rules | `(tactic| k_subL) => `(tactic| first
  | k_places
  | solve_by_elim (maxDepth := 10) [getS, lst_of, tup_of, Same.seq, tupS])
local macro_rules | `(tactic| k_offL) => `(tactic| first
  | (show (0 : Int) < _; first | omega | decide)
  | (refine ⟨?_, ?_⟩ <;> first | omega | decide)
  | exact .inr ⟨by decide, by decide⟩
  | exact .inl ⟨by decide, by decide⟩
  | exact .inl ⟨by omega, by omega⟩
  | omega)
local macro_rules | `(tactic| k_clsL) => `(tactic| exact Nat.le_of_ble_eq_true rfl)
local macro_rules | `(tactic| k_upd) => `(tactic| simp only [L2.start, List.map_cons, List.map_nil, List.length_cons, List.length_nil, List.replicate_succ, List.replicate_zero, List.cons_append, List.nil_append, List.set_cons_zero, List.set_cons_succ])
section
variable {P : Program} {w : World} {K : PySem.W.Frag} {mg : Str → Option Value} {base : Heap}
theorem mirP_D8 (x : Pr) : mirP x = D8 (false, false, true) x := by simp [mirP, D8]
theorem D8_id (x : Pr) : D8 (false, false, false) x = x := by simp [D8]
theorem D8_inj (d : Bool × Bool × Bool) (x y : Pr) (e : D8 d x = D8 d y) : x = y := by
  obtain ⟨a, b, c⟩ := d
  obtain ⟨r, k⟩ := x
  obtain ⟨r', k'⟩ := y
  cases a <;> cases b <;> cases c <;> simp [D8] at e ⊢ <;> omega
def dK (n : Nat) : Nat → Bool × Bool × Bool
  | 0 => if n > 3 then (false, false, true) else (false, false, false)
  | k + 1 => compD (true, false, true) (dK n k)
theorem dK_at : ∀ n, n < 8 → dK n (n % 4) = ds8.getD n (false, false, false) := by decide
def sp_law_image : Sp := fun vs H Q _ => ∃ (l : Addr) (ps : List Pr) (n : Nat), vs = [.ref l, .int (n : Int)] ∧ Cells H l ps ∧ ps.length ≤ 60 ∧ ps.Nodup ∧ n < 8 ∧
  ∀ (H' : Hp) (p : Addr), H p = none → Same H H' → Cells H' p (can (ps.map (D8 (ds8.getD n (false, false, false))))) → Q (.ref p) H'
theorem ok_law_image (T : Txt K mg) : FnOk P w K mg base CX0 1 T.f_law_image T.d_law_image ["cells", "number"] sp_law_image := by
  refine T.F_law_image.ok sc_law_image (fun vs H Q E h => ?_) (fun cdv A outer s H vs Q E hr h => ?_)
  · obtain ⟨_, _, _, rfl, _⟩ := h
    rfl
  · obtain ⟨l, ps, n, rfl, hC, few, nd, n8, q⟩ := h
    refine ⟨_, (pss_cons (ps_set (i := 2) sc_law_image.nd rfl (.inl rfl) (pe_callTy call_listL (by rfl) T.z_list (by decide +kernel) (pa_cons (pv 0) pa_nil)))
      (pss_cons (ps_mid (ps_if (pt_cmpR op_gt (pv 1) pe_int (nomark _))
      (pss_one (ps_setLc (i := 2) (own := [("r", 4), ("c", 5)]) (tt := tYes) rfl sc_law_image.nd rfl rfl (sw_true rfl rfl rfl (by decide +kernel)) (pi_list (pv 2)) (blkOk_by (own := [("r", 4), ("c", 5)]) (N := N_law_image) (sc := defScope s_law_image) (by decide +kernel)) (fun _ _ _ _ _ => (pg_tupK (K := K) (n := 2) rfl rfl (pgs_cons (pg_name (i := 4) sc_law_image.nd rfl (.inl rfl)) (pgs_cons (pg_name (i := 5) sc_law_image.nd rfl (.inl rfl)) pgs_nil)))) (fun _ _ _ _ _ => pts_nil) (fun _ _ _ _ _ => (pe_tup (pa_cons (pv 4) (pa_cons (pe_un un_neg (pv 5)) pa_nil))))))
      pss_nil))
      (pss_cons (ps_for PassesOwn.never rfl (pi_range1 (by rfl) T.z_range (pa_cons (pe_op op_mod (pv 1) pe_int) pa_nil)) (pg_name (i := 3) sc_law_image.nd rfl (.inl rfl))
      (pss_one (ps_setLc (i := 2) (own := [("r", 4), ("c", 5)]) (tt := tYes) rfl sc_law_image.nd rfl rfl (sw_true rfl rfl rfl (by decide +kernel)) (pi_list (pv 2)) (blkOk_by (own := [("r", 4), ("c", 5)]) (N := N_law_image) (sc := defScope s_law_image) (by decide +kernel)) (fun _ _ _ _ _ => (pg_tupK (K := K) (n := 2) rfl rfl (pgs_cons (pg_name (i := 4) sc_law_image.nd rfl (.inl rfl)) (pgs_cons (pg_name (i := 5) sc_law_image.nd rfl (.inl rfl)) pgs_nil)))) (fun _ _ _ _ _ => pts_nil) (fun _ _ _ _ _ => (pe_tup (pa_cons (pv 5) (pa_cons (pe_un un_neg (pv 4)) pa_nil)))))))
      (pss_one (ps_ret (pe_callB cr_sortedC (by rfl) T.z_sorted (by decide +kernel) (pa_cons (pv 2) pa_nil))))))), ?_⟩
    obtain ⟨ts, hts, htt, ets⟩ := id hC
    refine ⟨_, rfl, l, _, rfl, lst_of hts, fun p2 n2 => ?_⟩
    have hC2 : Cells (upd H p2 (.lst (ts.map fun t => V.ref t.1))) p2 ps := by
      rw [← ets]
      exact cells_mk ts upd_same fun t m => newS n2 _ _ (htt t m)
    have e1 : Same H (upd H p2 (.lst (ts.map fun t => V.ref t.1))) := newS n2
    generalize upd H p2 (.lst (ts.map fun t => V.ref t.1)) = H1 at hC2 e1 ⊢
    k_upd
    refine ⟨fun σ' H' => Same H H' ∧ ∃ (p : Addr) (x3 x4 x5 : Option V), σ' = [some (.ref l), some (.int (n : Int)), some (.ref p), x3, x4, x5] ∧ Cells H' p (ps.map (D8 (dK n 0))), ?_, ?_⟩
    · refine ⟨_, rfl, _, _, rfl, rfl, _, rfl, ite2 (fun c => ?_) (fun c => ?_)⟩
      · have c := of_decide_eq_true c
        refine ⟨_, rfl, p2, rfl, ⟨_, lst_of hC2.choose_spec.1⟩, fun D nD => lc_cells mirP hC2 nD (by rw [sizeLine_eq]; omega) ?_ fun H3 e3 h3 => ?_⟩
        · intro t x H' Po Pn sm ht hq
          exact ⟨t, _, rfl, tup_of ht, rfl, _, _, rfl, _, _, rfl, rfl, wipe2 _ 4 5 _ _, tyesT ⟨_, rfl, _, rfl, _, rfl, (by k_clsL), fun t2 n2 => hq t2 n2⟩⟩
        refine gName_go ?_
        k_upd
        refine ⟨e1.trans e3, D, _, _, _, rfl, ?_⟩
        have : ps.map (D8 (dK n 0)) = ps.map mirP := List.map_congr_left fun x _ => by
          rw [mirP_D8]
          unfold dK
          rw [if_pos (by omega)]
        rw [this]
        exact h3
      · have c : ¬ (3 : Int) < (n : Int) := by simpa using c
        refine ⟨e1, p2, none, none, none, rfl, ?_⟩
        have : ps.map (D8 (dK n 0)) = ps := by
          unfold dK
          rw [if_neg (by omega), List.map_congr_left (g := id) fun x _ => D8_id x, List.map_id]
        rw [this]
        exact hC2
    rintro σ H2 ⟨s2, p, x3, x4, x5, rfl, h2⟩
    have em : (n : Int) % 4 = ((n % 4 : Nat) : Int) := rfl
    have lm : n % 4 < 4 := Nat.mod_lt _ (by decide)
    refine ⟨_, rfl, _, _, rfl, rfl, (by show (0 : Int) < _; omega), _, rfl, by omega, by omega, for_range (lo := 0) (n := ((n : Int) % 4).toNat) (fun k σ' H' => Same H H' ∧ ∃ (p : Addr) (x3 x4 x5 : Option V), σ' = [some (.ref l), some (.int (n : Int)), some (.ref p), x3, x4, x5] ∧ Cells H' p (ps.map (D8 (dK n k))))
      ⟨s2, p, x3, x4, x5, rfl, h2⟩ ?_ ?_⟩
    · rintro k σ H3 hk ⟨s3, p3, y3, y4, y5, rfl, h3⟩
      refine gName_go ?_
      k_upd
      refine ⟨_, rfl, p3, rfl, ⟨_, lst_of h3.choose_spec.1⟩, fun D nD => lc_cells turnP h3 nD (by rw [List.length_map, sizeLine_eq]; omega) ?_ fun H4 e4 h4 => ?_⟩
      · intro t x H' Po Pn sm ht hq
        exact ⟨t, _, rfl, tup_of ht, rfl, _, _, rfl, _, _, rfl, rfl, wipe2 _ 4 5 _ _, tyesT ⟨_, rfl, _, rfl, _, rfl, (by k_clsL), fun t2 n2 => hq t2 n2⟩⟩
      refine gName_go ?_
      k_upd
      refine ⟨s3.trans e4, D, _, _, _, rfl, ?_⟩
      have : ps.map (D8 (dK n (k + 1))) = (ps.map (D8 (dK n k))).map turnP := by
        rw [List.map_map]
        refine List.map_congr_left fun x _ => ?_
        show D8 (compD (true, false, true) (dK n k)) x = turnP (D8 (dK n k) x)
        rw [turnP_D8, D8_comp]
      rw [this]
      exact h4
    · rintro σ H3 ⟨s3, p3, y3, y4, y5, rfl, h3⟩
      rw [show ((n : Int) % 4).toNat = n % 4 by omega, dK_at n n8] at h3
      exact ⟨_, rfl, p3, _, rfl, h3, nodup_map (D8_inj _) nd, fun p H4 qs e4 n4 h4 c4 l4 => q H4 p (backS s3 n4) (s3.trans e4) (can_eq c4 ▸ h4)⟩
end
end My
namespace My
open PySem PySem.Spec PyProof.Rows L2 Vx
open TL
local macro_rules | `(tactic| k_invariant "new" ($n, $H:ident, $e:ident, $h:ident)) => `(tactic| (generalize hE : upd _ _ _ = $H; obtain ⟨$e:ident, $h:ident⟩ := gen_e hE $n; clear hE))
local macro_rules | `(tactic| k_places) => `(tactic| first
  | assumption
  | exact lst_of (by assumption)
  | exact tup_of (by assumption)
  | (refine getS (by assumption) ?_; k_places)
  | (refine Same.seq (by assumption) ?_; k_places)
  | (refine tupS (by assumption) ?_; k_places)
  | (refine lst_of ?_; k_places)
  | (refine tup_of ?_; k_places))
local macro_rules | `(tactic| k_subL) => `(tactic| first
  | k_places
  | solve_by_elim (maxDepth := 10) [getS, lst_of, tup_of, Same.seq, tupS])
local macro_rules | `(tactic| k_offL) => `(tactic| first
  | (show (0 : Int) < _; first | omega | decide)
  | (refine ⟨?_, ?_⟩ <;> first | omega | decide)
  | exact .inr ⟨by decide, by decide⟩
  | exact .inl ⟨by decide, by decide⟩
  | exact .inl ⟨by omega, by omega⟩
  | omega)
local macro_rules | `(tactic| k_clsL) => `(tactic| exact Nat.le_of_ble_eq_true rfl)
local macro_rules | `(tactic| k_upd) => `(tactic| simp only [L2.start, List.map_cons, List.map_nil, List.length_cons, List.length_nil, List.replicate_succ, List.replicate_zero, List.cons_append, List.nil_append, List.set_cons_zero, List.set_cons_succ])
section
variable {P : Program} {w : World} {K : PySem.W.Frag} {mg : Str → Option Value} {base : Heap}
theorem dstS_len (S : List Str) : (dstS S).length ≤ S.length := by
  have go : ∀ (S acc : List Str), (S.foldl dstF acc).length ≤ acc.length + S.length := fun S => by
    induction S with
    | nil => exact fun acc => Nat.le_refl _
    | cons t S ih =>
      intro acc
      rw [List.foldl_cons]
      have := ih (dstF acc t)
      have h2 : (dstF acc t).length ≤ acc.length + 1 := by
        unfold dstF
        split
        · omega
        · rw [List.length_append]
          exact Nat.le_refl _
      rw [List.length_cons]
      omega
  have := go S []
  show (S.foldl dstF []).length ≤ S.length
  simpa using this
theorem dst_mem : ∀ (S : List Str) (x : Str), x ∈ dstS S ↔ x ∈ S := fun S x => by
  have go : ∀ (S acc : List Str), x ∈ S.foldl dstF acc ↔ x ∈ acc ∨ x ∈ S := fun S => by
    induction S with
    | nil => exact fun acc => ⟨.inl, fun z => z.elim id fun z => by cases z⟩
    | cons t S ih =>
      intro acc
      rw [List.foldl_cons, ih, List.mem_cons]
      unfold dstF
      by_cases c : acc.getLast? = some t
      · rw [if_pos c]
        refine ⟨fun z => z.elim .inl fun z => .inr (.inr z), fun z => z.elim .inl fun z => z.elim (fun z => .inl ?_) .inr⟩
        rw [z]
        exact List.mem_of_getLast? c
      · rw [if_neg c, List.mem_append, List.mem_singleton, or_assoc]
  have := go S []
  show x ∈ S.foldl dstF [] ↔ x ∈ S
  rw [this]
  exact ⟨fun z => z.elim (fun z => by cases z) id, .inr⟩
theorem dpAll_strs {K : PySem.W.Frag} {H : Hp} : ∀ T : List Str, DpAll K H (T.map V.str) (T.map PyData.str)
  | [] => .nil
  | t :: T => .cons (.str t) (dpAll_strs T)
theorem alike_strs (T : List Str) : W.AllAlike (T.map PyData.str) := fun d m e n => by
  obtain ⟨x, _, rfl⟩ := List.mem_map.mp m
  obtain ⟨y, _, rfl⟩ := List.mem_map.mp n
  rfl
theorem sortable_strs (T : List Str) : W.Sortable (T.map PyData.str) := .inr fun d m => by
  obtain ⟨x, _, rfl⟩ := List.mem_map.mp m
  exact ⟨fun z => (by cases z), fun xs z => by cases z⟩
theorem depth_strs (T : List Str) : ∀ d ∈ T.map PyData.str, d.depth ≤ 60 := fun d m => by
  obtain ⟨x, _, rfl⟩ := List.mem_map.mp m
  exact Nat.le_of_ble_eq_true rfl
theorem zip_strs : ∀ T : List Str, (T.map V.str).zip (T.map PyData.str) = T.map fun t => (V.str t, PyData.str t)
  | [] => rfl
  | t :: T => by
    rw [List.map_cons, List.map_cons, List.zip_cons_cons, zip_strs T]
    rfl
theorem srtD_strs (T : List Str) : (srtD (T.map V.str) (T.map PyData.str)).map (·.1) = (srtS T).map V.str := by
  unfold srtD srtS
  rw [zip_strs]
  have em := List.map_mergeSort (r := leS) (s := W.dataLe false fun b : V × PyData => b.2) (f := fun t : Str => (V.str t, PyData.str t)) (l := T) (fun a _ b _ => by
    have := congrFun (congrFun (W.dataLe_str (fun t : Str => t)) a) b
    exact this.symm)
  rw [← em, List.map_map]
  rfl
/-- the pairs of text and number that are due so far -/
def DueAt (H : Hp) (pd : Addr) (ts : List Str) (g : Str → Int) : Prop := ∃ bs : List (Addr × Str), H pd = some (.lst (bs.map fun b => V.ref b.1)) ∧ (∀ b ∈ bs, H b.1 = some (.tup [.str b.2, .int (g b.2)])) ∧ bs.map (·.2) = ts
theorem DueAt.up {H H' : Hp} {pd : Addr} {ts : List Str} {g : Str → Int} (e : Same H H') (h : DueAt H pd ts g) : DueAt H' pd ts g := by
  obtain ⟨bs, h1, h2, h3⟩ := h
  exact ⟨bs, e _ _ h1, fun b m => e _ _ (h2 b m), h3⟩
theorem DueAt.dp {K : PySem.W.Frag} {H : Hp} {pd : Addr} {ts : List Str} {g : Str → Int} (h : DueAt H pd ts g) : Dp K H (.ref pd) (.list (ts.map (ctD g))) := by
  obtain ⟨bs, h1, h2, rfl⟩ := h
  refine .lst (lst_of h1) ?_
  clear h1
  induction bs with
  | nil => exact .nil
  | cons b bs ih => exact .cons (.tup (tup_of (h2 b List.mem_cons_self)) (.cons (.str _) (.cons (.int _) .nil))) (ih fun c m => h2 c (List.mem_cons_of_mem _ m))
theorem depAll_of : ∀ {l : List PyData} {n : Nat}, (∀ d ∈ l, d.depth ≤ n) → PyData.depthAll l ≤ n
  | [], n, _ => Nat.zero_le n
  | d :: l, n, h => by
    show max d.depth (PyData.depthAll l) ≤ n
    exact Nat.max_le.mpr ⟨h d List.mem_cons_self, depAll_of fun e m => h e (List.mem_cons_of_mem _ m)⟩
theorem canAll_of : ∀ {l : List PyData}, (∀ d ∈ l, d.canLay0 = true) → PyData.canLayAll0 l = true
  | [], _ => rfl
  | d :: l, h => by
    show (d.canLay0 && PyData.canLayAll0 l) = true
    rw [h d List.mem_cons_self, canAll_of fun e m => h e (List.mem_cons_of_mem _ m)]
    rfl
theorem eqv_selfs : ∀ {l : List PyData}, (∀ d ∈ l, PyData.eqv d d = true) → PyData.eqvAll l l = true
  | [], _ => rfl
  | d :: l, h => by
    show (PyData.eqv d d && PyData.eqvAll l l) = true
    rw [h d List.mem_cons_self, eqv_selfs fun e m => h e (List.mem_cons_of_mem _ m)]
    rfl
theorem char_ok (c : Char) : c.toNat < 1114112 := by
  have h := c.valid
  have e : c.toNat = c.val.toNat := rfl
  rcases h with h | h
  · rw [e]
    exact Nat.lt_trans h (by decide)
  · rw [e]
    exact h.2
theorem ofString_ok (s : String) : ∀ c ∈ tl (Str.ofString s), c < 1114112 := fun c m => by
  have m : c ∈ (Str.ofString s).cps.toList := m
  have e : (Str.ofString s).cps.toList = s.toList.map Char.toNat := by
    unfold Str.ofString
    simp [cpsOfBytes_string]
  rw [e] at m
  obtain ⟨d, _, rfl⟩ := List.mem_map.mp m
  exact char_ok d
theorem cntL_ok (n : Int) {c : Nat} (h : c < 1114112) : ∀ d ∈ cntL n c, d < 1114112 := fun d m => by
  unfold cntL at m
  by_cases e : n = 1
  · rw [if_pos e] at m
    rw [List.mem_singleton.mp m]
    exact h
  · rw [if_neg e] at m
    rcases List.mem_append.mp m with m | m
    · exact ofString_ok _ d m
    · rw [List.mem_singleton.mp m]
      exact h
theorem app_ok2 {l m : List Nat} (h : ∀ d ∈ l, d < 1114112) (k : ∀ d ∈ m, d < 1114112) : ∀ d ∈ l ++ m, d < 1114112 := fun d i => (List.mem_append.mp i).elim (h d) (k d)
theorem wStep_ok {st : List Nat × Int × Int} {t : Run} (h : ∀ d ∈ st.1, d < 1114112) : ∀ d ∈ (wStep st t).1, d < 1114112 := by
  unfold wStep
  refine app_ok2 ?_ (cntL_ok _ (by decide))
  by_cases c1 : st.2.1 < t.1
  · rw [if_pos c1]
    split
    · exact app_ok2 (app_ok2 h (cntL_ok _ (by decide))) (cntL_ok _ (by decide))
    · exact app_ok2 h (cntL_ok _ (by decide))
  · rw [if_neg c1]
    split
    · exact app_ok2 h (cntL_ok _ (by decide))
    · exact h
theorem writeP_ok (rs : List Run) : ∀ d ∈ writeP rs, d < 1114112 := by
  have go : ∀ (rs : List Run) (st : List Nat × Int × Int), (∀ d ∈ st.1, d < 1114112) → ∀ d ∈ (rs.foldl wStep st).1, d < 1114112 := fun rs => by
    induction rs with
    | nil => exact fun st h => h
    | cons r rs ih => exact fun st h => ih _ (wStep_ok h)
  unfold writeP
  exact app_ok2 (go rs _ fun d m => by cases m) fun d m => by rw [List.mem_singleton.mp m]; decide
theorem wtx_ok (ps : List Pr) : PyData.strOk (wtx ps) = true := by
  unfold PyData.strOk wtx
  rw [List.all_toArray, List.all_eq_true]
  exact fun d m => decide_eq_true (writeP_ok _ d m)
theorem shaped_ct (g : Str → Int) (ts : List Str) (ok : ∀ t ∈ ts, PyData.strOk t = true) : SeqAt.shaped (.list (ts.map (ctD g))) = true := by
  have h1 : PyData.depthAll (ts.map (ctD g)) ≤ 10 := depAll_of fun d h => by
    obtain ⟨x, _, rfl⟩ := List.mem_map.mp h
    exact Nat.le_of_ble_eq_true rfl
  have h2 : PyData.canLayAll0 (ts.map (ctD g)) = true := canAll_of fun d h => by
    obtain ⟨x, mx, rfl⟩ := List.mem_map.mp h
    simp [ctD, PyData.canLay0, PyData.canLayAll0, ok x mx]
  unfold SeqAt.shaped
  simp only [PyData.canLay0, PyData.depth, h2]
  simp
  omega
theorem eqv_ct (g : Str → Int) (ts : List Str) : PyData.eqv (.list (ts.map (ctD g))) (.list (ts.map (ctD g))) = true := by
  show PyData.eqvAll _ _ = true
  refine eqv_selfs fun d m => ?_
  obtain ⟨x, _, rfl⟩ := List.mem_map.mp m
  simp [ctD, PyData.eqv, PyData.eqvAll]
theorem eqv_nilR (l : List PyData) : PyData.eqv (.list l) (.list []) = l.isEmpty := by
  cases l with
  | nil => rfl
  | cons d l => rfl
theorem count_sum (T : List Str) (t : Str) : (T.map fun o => if o = t then (1 : Int) else 0).sum = (T.count t : Int) := by
  induction T with
  | nil => rfl
  | cons o T ih =>
    rw [List.map_cons, List.sum_cons, ih, List.count_cons]
    by_cases e : o = t
    · rw [if_pos e, if_pos (by rw [beq_iff_eq]; exact e)]
      omega
    · rw [if_neg e, if_neg (by rw [beq_iff_eq]; exact e)]
      omega
theorem leastL_snoc {m y : List Pr} {xs : List (List Pr)} (h : LeastL m xs) : LeastL (if ltL y m = true then y else m) (xs ++ [y]) := by
  by_cases c : ltL y m = true
  · rw [if_pos c]
    refine ⟨List.mem_append.mpr (.inr List.mem_cons_self), fun z mz => ?_⟩
    rcases List.mem_append.mp mz with mz | mz
    · cases e : ltL z y with
      | false => rfl
      | true =>
        have := h.2 z mz
        rw [ltL_trans e c] at this
        cases this
    · rw [List.mem_singleton.mp mz]
      exact ltL_irr y
  · rw [if_neg c]
    refine ⟨List.mem_append.mpr (.inl h.1), fun z mz => ?_⟩
    rcases List.mem_append.mp mz with mz | mz
    · exact h.2 z mz
    · rw [List.mem_singleton.mp mz]
      simpa using c
theorem pw_nodup {l : List Pr} (h : l.Pairwise ltP) : l.Nodup := List.Pairwise.imp (fun {a b} (h : ltP a b) (e : a = b) => by
  rw [e] at h
  exact ltP_irr h h) h
theorem cells_app2 {H : Hp} {pf : Addr} {fs : List (Addr × List Pr)} {p : Addr} {ps : List Pr} {o : HO} (hp : p ≠ pf) (nt : ∀ xs, H pf ≠ some (.tup xs)) (h : Cells H p ps) : Cells (upd H pf o) p ps := h.mut hp nt
theorem cells_cat {H : Hp} {p q : Addr} {P Q : List Pr} (h : Cells H p P) (k : Cells H q Q) : ∃ xs ys, H p = some (.lst xs) ∧ H q = some (.lst ys) ∧ xs.length = P.length ∧ ys.length = Q.length ∧ ∀ (H' : Hp) (r : Addr), Same H H' → H' r = some (.lst (xs ++ ys)) → Cells H' r (P ++ Q) := by
  obtain ⟨ts, h1, h2, rfl⟩ := h
  obtain ⟨us, k1, k2, rfl⟩ := k
  refine ⟨_, _, h1, k1, by rw [List.length_map, List.length_map], by rw [List.length_map, List.length_map], fun H' r e g => ⟨ts ++ us, by rw [List.map_append]; exact g, fun t m => ?_, List.map_append⟩⟩
  rcases List.mem_append.mp m with m | m
  · exact e _ _ (h2 t m)
  · exact e _ _ (k2 t m)
def sp_law (K : PySem.W.Frag) : Sp := fun vs H Q _ => ∃ (a : Addr) (ns : List Int), vs = [.ref a] ∧ SqL K H a (ns.map V.int) ∧ ns.length ≤ 63 ∧ ∀ H', Q (.bl true) H'
theorem ok_law (T : Txt K mg) : FnOk P w K mg base CX0 12 T.f_law T.d_law ["script"] (sp_law K) := by
  refine T.F_law.ok sc_law (fun vs H Q E h => ?_) (fun cdv A outer s H vs Q E hr h => ?_)
  · obtain ⟨a, ns, rfl, _⟩ := h
    rfl
  · obtain ⟨a, ns, rfl, hS, hlen, q⟩ := h
    have hu65 : (A.deeper (envOfC (Str.ofString "law") (defScope s_law) s.heap.objs.size T.f_law cdv)).units + 65 < cLine := by
      have := hr.un
      omega
    have hu : (A.deeper (envOfC (Str.ofString "law") (defScope s_law) s.heap.objs.size T.f_law cdv)).units + 1 < cLine := by
      have := hr.units
      omega
    refine ⟨_, (pss_cons (ps_set (i := 1) sc_law.nd rfl (.inl rfl) (pe_lst pa_nil))
      (pss_cons (ps_set (i := 2) sc_law.nd rfl (.inl rfl) (pe_lst pa_nil))
      (pss_cons (ps_for PassesOwn.never rfl (pi_range1 (by rfl) T.z_range (pa_cons (pe_op op_mod (pe_call (ok_law_cell T) (hr.mono (by decide)) (by rfl) T.g_law_cell T.F_law_cell.kp T.b_law_cell .nil pass0 (pa_cons (pv 0) (pa_cons pe_int pa_nil))) pe_int) pa_nil)) (pg_name (i := 3) sc_law.nd rfl (.inr rfl))
      (pss_cons (ps_set (i := 4) sc_law.nd rfl (.inr rfl) (pe_callB call_abs (by rfl) T.z_abs (by decide +kernel) (pa_cons (pe_call (ok_law_cell T) (hr.mono (by decide)) (by rfl) T.g_law_cell T.F_law_cell.kp T.b_law_cell .nil pass0 (pa_cons (pv 0) (pa_cons (pe_op op_add pe_int (pv 3)) pa_nil))) pa_nil)))
      (pss_cons (ps_set (i := 5) sc_law.nd rfl (.inl rfl) (pe_call (ok_law_some T) (hr.mono (by decide)) (by rfl) T.g_law_some T.F_law_some.kp T.b_law_some .nil pass0 (pa_cons (pe_op op_fdiv (pv 4) pe_int) (pa_cons (pe_op op_add pe_int (pe_op op_mod (pe_op op_fdiv (pv 4) pe_int) pe_int)) (pa_cons pe_int (pa_cons pe_int pa_nil))))))
      (pss_cons (ps_mid (ps_if (PW.pt (pw_and (pt_cmpR op_eq (pe_op op_mod (pv 4) pe_int) pe_int (nomark _)) (pw_and1 (pt_cmpR op_gt (pe_callB call_lenL (by rfl) T.z_len (by decide +kernel) (pa_cons (pv 1) pa_nil)) pe_int (nomark _)))))
      (pss_one (ps_set (i := 5) sc_law.nd rfl (.inl rfl) (pe_call (ok_law_image T) (hr.mono (by decide)) (by rfl) T.g_law_image T.F_law_image.kp T.b_law_image .nil pass0 (pa_cons (pe_ix ix_list (pv 1) (pe_op op_mod (pe_op op_fdiv (pv 4) pe_int) (pe_callB call_lenL (by rfl) T.z_len (by decide +kernel) (pa_cons (pv 1) pa_nil))) (fun _ _ => rfl)) (pa_cons (pe_op op_mod (pe_op op_fdiv (pv 4) pe_int) pe_int) pa_nil)))))
      pss_nil))
      (pss_cons (ps_expr (pe_bm PySem.F.plainAttrs_list PySem.F.slot_list_append PySem.F.type_list_append mt_append (pv 1) (pa_cons (pv 5) pa_nil)))
      (pss_one (ps_set (i := 2) sc_law.nd rfl (.inl rfl) (pe_op op_cat (pv 2) (pe_lc (own := [("r", 19), ("c", 20)]) (tt := tYes) rfl sc_law.nd (pi_list (pv 5)) (blkOk_by (own := [("r", 19), ("c", 20)]) (N := N_law) (sc := defScope s_law) (by decide +kernel)) (fun _ _ _ _ _ => (pg_tupK (K := K) (n := 2) rfl rfl (pgs_cons (pg_name (i := 19) sc_law.nd rfl (.inl rfl)) (pgs_cons (pg_name (i := 20) sc_law.nd rfl (.inl rfl)) pgs_nil)))) (fun _ _ _ _ _ => pts_nil) (fun _ _ _ _ _ => (pe_tup (pa_cons (pe_op op_add (pv 19) (pe_op op_mod (pe_op op_fdiv (pv 4) pe_int) pe_int)) (pa_cons (pe_op op_add (pv 20) (pe_op op_mul pe_int (pv 3))) pa_nil)))))))))))))
      (pss_cons (ps_set (i := 6) sc_law.nd rfl (.inl rfl) (pe_revL (pv 2)))
      (pss_cons (ps_set (i := 7) sc_law.nd rfl (.inl rfl) (pe_callTy call_listL (by rfl) T.z_list (by decide +kernel) (pa_cons (pv 6) pa_nil)))
      (pss_cons (ps_set (i := 8) sc_law.nd rfl (.inl rfl) (pe_lst pa_nil))
      (pss_cons (ps_for PassesOwn.never rfl (pi_list (pe_call (ok_islands T) (hr.mono (by decide)) (by rfl) T.g_islands T.F_islands.kp T.b_islands .nil pass0 (pa_cons (pv 7) pa_nil))) (pg_name (i := 9) sc_law.nd rfl (.inl rfl))
      (pss_cons (ps_set (i := 10) sc_law.nd rfl (.inl rfl) pe_non)
      (pss_cons (ps_for PassesOwn.never rfl (pi_range1 (by rfl) T.z_range (pa_cons pe_int pa_nil)) (pg_name (i := 11) sc_law.nd rfl (.inl rfl))
      (pss_cons (ps_set (i := 12) sc_law.nd rfl (.inl rfl) (pe_call (ok_law_image T) (hr.mono (by decide)) (by rfl) T.g_law_image T.F_law_image.kp T.b_law_image .nil pass0 (pa_cons (pv 9) (pa_cons (pv 11) pa_nil))))
      (pss_cons (ps_set (i := 13) sc_law.nd rfl (.inr rfl) (pe_callB (cr_min rfl) (by rfl) T.z_min (by decide +kernel) (pa_cons (pe_lc (own := [("r", 19), ("c", 20)]) (tt := tYes) rfl sc_law.nd (pi_list (pv 12)) (blkOk_by (own := [("r", 19), ("c", 20)]) (N := N_law) (sc := defScope s_law) (by decide +kernel)) (fun _ _ _ _ _ => (pg_tupK (K := K) (n := 2) rfl rfl (pgs_cons (pg_name (i := 19) sc_law.nd rfl (.inl rfl)) (pgs_cons (pg_name (i := 20) sc_law.nd rfl (.inl rfl)) pgs_nil)))) (fun _ _ _ _ _ => pts_nil) (fun _ _ _ _ _ => (pv 19))) pa_nil)))
      (pss_cons (ps_set (i := 14) sc_law.nd rfl (.inr rfl) (pe_callB (cr_min rfl) (by rfl) T.z_min (by decide +kernel) (pa_cons (pe_lc (own := [("r", 19), ("c", 20)]) (tt := tYes) rfl sc_law.nd (pi_list (pv 12)) (blkOk_by (own := [("r", 19), ("c", 20)]) (N := N_law) (sc := defScope s_law) (by decide +kernel)) (fun _ _ _ _ _ => (pg_tupK (K := K) (n := 2) rfl rfl (pgs_cons (pg_name (i := 19) sc_law.nd rfl (.inl rfl)) (pgs_cons (pg_name (i := 20) sc_law.nd rfl (.inl rfl)) pgs_nil)))) (fun _ _ _ _ _ => pts_nil) (fun _ _ _ _ _ => (pv 20))) pa_nil)))
      (pss_cons (ps_setLc (i := 15) (own := [("r", 19), ("c", 20)]) (tt := tYes) rfl sc_law.nd rfl rfl (sw_true rfl rfl rfl (by decide +kernel)) (pi_list (pv 12)) (blkOk_by (own := [("r", 19), ("c", 20)]) (N := N_law) (sc := defScope s_law) (by decide +kernel)) (fun _ _ _ _ _ => (pg_tupK (K := K) (n := 2) rfl rfl (pgs_cons (pg_name (i := 19) sc_law.nd rfl (.inl rfl)) (pgs_cons (pg_name (i := 20) sc_law.nd rfl (.inl rfl)) pgs_nil)))) (fun _ _ _ _ _ => pts_nil) (fun _ _ _ _ _ => (pe_tup (pa_cons (pe_op op_sub (pv 19) (pv 13)) (pa_cons (pe_op op_sub (pv 20) (pv 14)) pa_nil)))))
      (pss_one (ps_if (PW.pt (pw_or (pt_cmpR op_isN (pv 10) pe_non (nomark _)) (pw_or1 (pt_cmpR (op_ltLP hu65) (pv 15) (pv 10) (nomark _)))))
      (pss_one (ps_set (i := 10) sc_law.nd rfl (.inl rfl) (pv 15)))
      pss_nil)))))))
      (pss_cons (ps_if (pt_cmpR (op_neD hr.units) (pe_call (ok_least_form T) (hr.mono (by decide)) (by rfl) T.g_least_form T.F_least_form.kp T.b_least_form .nil pass0 (pa_cons (pv 9) pa_nil)) (pv 10) (nomark _))
      (pss_one (ps_ret pe_bl))
      pss_nil)
      (pss_one (ps_expr (pe_bm PySem.F.plainAttrs_list PySem.F.slot_list_append PySem.F.type_list_append mt_append (pv 8) (pa_cons (pe_call (ok_write_text T) (hr.mono (by decide)) (by rfl) T.g_write_text T.F_write_text.kp T.b_write_text .nil pass0 (pa_cons (pv 10) pa_nil)) pa_nil))))))))
      (pss_cons (ps_set (i := 16) sc_law.nd rfl (.inl rfl) (pe_lst pa_nil))
      (pss_cons (ps_for PassesOwn.never rfl (pi_list (pe_callB (cr_sortedD hr.units) (by rfl) T.z_sorted (by decide +kernel) (pa_cons (pv 8) pa_nil))) (pg_name (i := 17) sc_law.nd rfl (.inr rfl))
      (pss_one (ps_if (PW.pt (pw_or (pt_cmpR (op_eqD hr.units) (pv 16) (pe_lst pa_nil) (nomark _)) (pw_or1 (pt_cmpR op_ne (pe_ix (ix_tupK (K := K) rfl) (pe_ix ix_list (pv 16) (pe_op op_sub (pe_callB call_lenL (by rfl) T.z_len (by decide +kernel) (pa_cons (pv 16) pa_nil)) pe_int) (fun _ _ => rfl)) pe_int (fun _ _ => rfl)) (pv 17) (nomark _)))))
      (pss_one (ps_expr (pe_bm PySem.F.plainAttrs_list PySem.F.slot_list_append PySem.F.type_list_append mt_append (pv 16) (pa_cons (pe_tup (pa_cons (pv 17) (pa_cons (pe_callB (cr_sum rfl) (by rfl) T.z_sum (by decide +kernel) (pa_cons (pe_lc (own := [("other", 21)]) (g := gName 21) (tt := tYes) rfl sc_law.nd (pi_list (pv 8)) (blkOk_by (own := [("other", 21)]) (N := N_law) (sc := defScope s_law) (by decide +kernel)) (fun _ _ _ _ _ => pg_name (i := 21) sc_law.nd rfl (Or.inl rfl)) (fun _ _ _ _ _ => pts_nil) (fun _ _ _ _ _ => (pe_callTy call_intB (by rfl) T.z_int (by decide +kernel) (pa_cons (pe_cmpR op_eq (pv 21) (pv 17) (nomark _)) pa_nil)))) pa_nil)) pa_nil))) pa_nil))))
      pss_nil)))
      (pss_cons (ps_set (i := 18) sc_law.nd rfl (.inl rfl) (pe_call (ok_census T) (hr.mono (by decide)) (by rfl) T.g_census T.F_census.kp T.b_census .nil pass0 (pa_cons (pv 7) pa_nil)))
      (pss_cons (ps_if (PW.pt (pw_or (pt_not (pt_val (pe_callB (id := "isinstance") (r := rIsi K) call_isi (by rfl) T.z_isinstance (by decide +kernel) (pa_cons (pv 18) (pa_cons (pe_bltn (v := .ty "list") (by rfl) T.z_list (by decide +kernel) rfl) pa_nil))))) (pw_or1 (pt_not (pt_val (pe_callB (cr_all rfl) (by rfl) T.z_all (by decide +kernel) (pa_cons (pe_lc (own := [("one", 22)]) (g := gName 22) (tt := tYes) rfl sc_law.nd (pi_list (pv 18)) (blkOk_by (own := [("one", 22)]) (N := N_law) (sc := defScope s_law) (by decide +kernel)) (fun _ _ _ _ _ => pg_name (i := 22) sc_law.nd rfl (Or.inl rfl)) (fun _ _ _ _ _ => pts_nil) (fun _ _ _ _ _ => (pe_callB (id := "isinstance") (r := rIsi K) call_isi (by rfl) T.z_isinstance (by decide +kernel) (pa_cons (pv 22) (pa_cons (pe_bltn (v := .ty "tuple") (by rfl) T.z_tuple (by decide +kernel) rfl) pa_nil))))) pa_nil)))))))
      (pss_one (ps_ret pe_bl))
      pss_nil)
      (pss_one (ps_ret (pe_and (pe_cmpR (op_eqD hr.units) (pv 18) (pv 16) (nomark _)) (pe_one (pe_cmpR (op_eqD hr.units) (pv 7) (pv 6) (nomark _))))))))))))))))), ?_⟩
    k_upd
    refine ⟨Nat.zero_le _, fun pf npf => ?_⟩
    k_invariant "new" (npf, H1, e1, g1)
    k_upd
    refine ⟨Nat.zero_le _, fun pc npc => ?_⟩
    k_invariant "new" (npc, H2, e2, g2)
    k_upd
    have s2 := e1.trans e2
    have npcf : pc ≠ pf := fun z => by rw [z, g1] at npc; cases npc
    refine ⟨_, rfl, a, ns, 0, rfl, s2.seq hS, ?_⟩
    generalize cellOf ns 0 = z0
    have z00 := Int.emod_nonneg z0 (show (7 : Int) ≠ 0 by decide)
    have z01 := Int.emod_lt_of_pos z0 (show (0 : Int) < 7 by decide)
    refine ⟨_, _, rfl, rfl, (by show (0 : Int) < _; omega), _, rfl, by omega, by omega, for_range (lo := 0) (n := (z0 % 7).toNat) (fun k σ H' => Same H H' ∧ ∃ (pc : Addr) (x3 x4 x5 : Option V) (fs : List (Addr × List Pr)) (cs : List Pr), σ = [some (.ref a), some (.ref pf), some (.ref pc), x3, x4, x5, none, none, none, none, none, none, none, none, none, none, none, none, none, none, none, none, none] ∧ pc ≠ pf ∧
        H' pf = some (.lst (fs.map fun t => V.ref t.1)) ∧ fs.length ≤ k ∧ (∀ t ∈ fs, t.1 ≠ pf ∧ Cells H' t.1 t.2 ∧ t.2.Nodup ∧ t.2.length ≤ 5 ∧ ∀ x ∈ t.2, x.1.natAbs ≤ 3 ∧ x.2.natAbs ≤ 3) ∧
        Cells H' pc cs ∧ cs.length ≤ 5 * k ∧ ∀ x ∈ cs, x.1.natAbs ≤ 9 ∧ x.2.natAbs ≤ 200)
      ⟨s2, pc, none, none, none, [], [], rfl, npcf, e2 _ _ g1, Nat.le_refl _, (fun _ z => by cases z), ⟨[], g2, (fun _ z => by cases z), rfl⟩, Nat.le_refl _, fun _ z => by cases z⟩ ?_ ?_⟩
    · rintro k σ H3 hk ⟨s3, pc, x3, x4, x5, fs, cs, rfl, npcf, gf, lf, hfs, hcs, lcs, bcs⟩
      rw [Int.zero_add]
      refine gName_go ?_
      k_upd
      refine ⟨_, rfl, _, rfl, _, _, rfl, rfl, a, ns, 1 + k, rfl, s3.seq hS, ?_⟩
      generalize cellOf ns (1 + k) = zk
      refine ⟨_, rfl, ?_⟩
      generalize (if zk < 0 then -zk else zk) = x
      k_upd
      have q1 := Int.emod_nonneg (x / 16) (show (5 : Int) ≠ 0 by decide)
      have q2 := Int.emod_lt_of_pos (x / 16) (show (0 : Int) < 5 by decide)
      have q3 := Int.emod_nonneg (x / 3) (show (7 : Int) ≠ 0 by decide)
      have q4 := Int.emod_lt_of_pos (x / 3) (show (0 : Int) < 7 by decide)
      have q5 := Int.emod_nonneg (x / 20) (show (8 : Int) ≠ 0 by decide)
      have q6 := Int.emod_lt_of_pos (x / 20) (show (0 : Int) < 8 by decide)
      refine ⟨_, rfl, _, _, rfl, rfl, ⟨by decide, by decide⟩, _, rfl, _, _, rfl, rfl, ⟨by decide, by decide⟩, _, _, rfl, rfl, (by show (0 : Int) < _; omega), _, _, rfl, rfl, ?_⟩
      refine ⟨_, _, _, _, rfl, by omega, by omega, by decide, by decide, by decide, by decide, fun H4 po ps n4 e4 h4 pw4 l4 box4 => ?_⟩
      k_upd
      have pf4 : po ≠ pf := fun z => by rw [z, gf] at n4; cases n4
      have s4 := s3.trans e4
      refine ⟨fun σ' H' => Same H4 H' ∧ ∃ (po : Addr) (ps : List Pr), σ' = [some (.ref a), some (.ref pf), some (.ref pc), some (.int (k : Int)), some (.int x), some (.ref po), none, none, none, none, none, none, none, none, none, none, none, none, none, none, none, none, none] ∧ po ≠ pf ∧ Cells H' po ps ∧ ps.Nodup ∧ ps.length ≤ 5 ∧ ∀ x ∈ ps, x.1.natAbs ≤ 3 ∧ x.2.natAbs ≤ 3, ?_, ?_⟩
      · have plain : Same H4 H4 ∧ ∃ (po' : Addr) (ps' : List Pr), [some (V.ref a), some (.ref pf), some (.ref pc), some (.int (k : Int)), some (.int x), some (.ref po), none, none, none, none, none, none, none, none, none, none, none, none, none, none, none, none, none] = [some (V.ref a), some (.ref pf), some (.ref pc), some (.int (k : Int)), some (.int x), some (.ref po'), none, none, none, none, none, none, none, none, none, none, none, none, none, none, none, none, none] ∧ po' ≠ pf ∧ Cells H4 po' ps' ∧ ps'.Nodup ∧ ps'.length ≤ 5 ∧ ∀ x ∈ ps', x.1.natAbs ≤ 3 ∧ x.2.natAbs ≤ 3 :=
          ⟨Same.refl _, po, ps, rfl, pf4, h4, pw_nodup pw4, by omega, fun x m => by have := box4 x m; omega⟩
        refine ⟨_, rfl, _, _, rfl, rfl, (by show (0 : Int) < _; omega), rfl, _, rfl, ?_⟩
        by_cases c1 : V.int (x % 2) = V.int 1
        · rw [decide_eq_true c1]
          refine iteT ?_
          have gf4 := e4 _ _ gf
          refine ⟨_, rfl, pf, _, rfl, lst_of gf4, _, _, rfl, rfl, _, rfl, ?_⟩
          by_cases c2 : (0 : Int) < (((fs.map fun t => V.ref t.1).length : Nat) : Int)
          · rw [decide_eq_true c2]
            refine iteT ?_
            rw [List.length_map] at c2
            obtain ⟨j, ej⟩ := Int.eq_ofNat_of_zero_le (Int.emod_nonneg (x / 2) (show (((fs.map fun t => V.ref t.1).length : Nat) : Int) ≠ 0 by rw [List.length_map]; omega))
            have lj := Int.emod_lt_of_pos (x / 2) (show (0 : Int) < (((fs.map fun t => V.ref t.1).length : Nat) : Int) by rw [List.length_map]; omega)
            rw [ej, List.length_map] at lj
            have lj : j < fs.length := by omega
            have atj : (fs.map fun t => V.ref t.1)[j]? = some (.ref (fs[j]).1) := by rw [List.getElem?_map, List.getElem?_eq_getElem lj]; rfl
            obtain ⟨f1, f2, f3, f4, f5⟩ := hfs fs[j] (List.getElem_mem lj)
            obtain ⟨n8, en8⟩ := Int.eq_ofNat_of_zero_le q5
            refine ⟨_, rfl, _, rfl, _, _, rfl, rfl, ⟨by decide, by decide⟩, _, rfl, pf, _, rfl, lst_of gf4, _, _, rfl, rfl, (by rw [List.length_map]; exact c2), pf, _, _, _, rfl, rfl, lst_of gf4, (by rw [ej]; exact atI_nat atj), ?_⟩
            refine ⟨_, rfl, _, _, rfl, rfl, ⟨by decide, by decide⟩, _, _, rfl, rfl, (by show (0 : Int) < _; omega), ?_⟩
            dsimp only
            rw [en8]
            refine ⟨(fs[j]).1, (fs[j]).2, n8, rfl, f2.up e4, by omega, f3, by omega, fun H5 p5 n5 e5 h5 => ?_⟩
            refine gName_go ?_
            k_upd
            refine ⟨e5, p5, _, rfl, fun z => ?_, h5, pw_nodup (can_pw _), ?_, fun y m => ?_⟩
            · rw [z, gf4] at n5
              cases n5
            · have := can_len ((fs[j]).2.map (D8 (ds8.getD n8 (false, false, false))))
              rw [List.length_map] at this
              omega
            · obtain ⟨z, mz, rfl⟩ := List.mem_map.mp (mem_can.mp m)
              have := f5 z mz
              have := D8_abs (ds8.getD n8 (false, false, false)) z
              omega
          · rw [decide_eq_false c2]
            exact iteF plain
        · rw [decide_eq_false c1]
          exact plain
      rintro σ H5 ⟨e5, po, ps, rfl, npo, h5, nd5, l5, b5⟩
      have s5 := s4.trans e5
      have gf5 := e5 _ _ (e4 _ _ gf)
      have hfs5 : ∀ t ∈ fs, t.1 ≠ pf ∧ Cells H5 t.1 t.2 ∧ t.2.Nodup ∧ t.2.length ≤ 5 ∧ ∀ x ∈ t.2, x.1.natAbs ≤ 3 ∧ x.2.natAbs ≤ 3 := fun t m => by
        obtain ⟨f1, f2, f3⟩ := hfs t m
        exact ⟨f1, (f2.up e4).up e5, f3⟩
      have hcs5 := (hcs.up e4).up e5
      have nt5 : ∀ xs, H5 pf ≠ some (.tup xs) := fun xs z => by rw [gf5] at z; cases z
      refine ⟨_, rfl, .inl ⟨rfl, _, lst_of gf5⟩, _, rfl, pf, _, _, rfl, rfl, gf5, by rw [List.length_map, sizeLine_eq]; omega, ?_⟩
      obtain ⟨H6, e6⟩ : ∃ H6, H6 = upd H5 pf (.lst ((fs.map fun t => V.ref t.1) ++ [V.ref po])) := ⟨_, rfl⟩
      rw [← e6]
      have s6 : Same H H6 := by rw [e6]; exact mutS s5 npf
      have gf6 : H6 pf = some (.lst ((fs ++ [(po, ps)]).map fun t => V.ref t.1)) := by rw [e6, upd_same, List.map_append]; rfl
      have hfs6 : ∀ t ∈ fs ++ [(po, ps)], t.1 ≠ pf ∧ Cells H6 t.1 t.2 ∧ t.2.Nodup ∧ t.2.length ≤ 5 ∧ ∀ x ∈ t.2, x.1.natAbs ≤ 3 ∧ x.2.natAbs ≤ 3 := fun t m => by
        rcases List.mem_append.mp m with m | m
        · obtain ⟨f1, f2, f3⟩ := hfs5 t m
          rw [e6]
          exact ⟨f1, f2.mut f1 nt5, f3⟩
        · rw [List.mem_singleton.mp m, e6]
          exact ⟨npo, h5.mut npo nt5, nd5, l5, b5⟩
      have hcs6 : Cells H6 pc cs := by rw [e6]; exact hcs5.mut npcf nt5
      have h6 : Cells H6 po ps := (hfs6 (po, ps) (List.mem_append.mpr (.inr List.mem_cons_self))).2.1
      refine ⟨_, rfl, _, rfl, po, rfl, ⟨_, lst_of h6.choose_spec.1⟩, fun D nD => lc_cells (addP (x / 3 % 7) (20 * (k : Int))) h6 nD (by rw [sizeLine_eq]; omega) ?_ fun H7 e7 h7 => ?_⟩
      · intro t y H' Po Pn sm ht hq
        exact ⟨t, _, rfl, tup_of ht, rfl, _, _, rfl, _, _, rfl, rfl, wipe2 _ 19 20 _ _, tyesT ⟨_, rfl, _, rfl, _, _, rfl, rfl, ⟨by decide, by decide⟩, _, _, rfl, rfl, (by show (0 : Int) < _; omega), _, _, rfl, rfl, _, rfl, _, rfl, _, _, rfl, rfl, .inl ⟨by omega, by omega⟩, _, _, rfl, rfl, by k_clsL, fun t2 n2 => hq t2 n2⟩⟩
      obtain ⟨xs1, ys1, g7a, g7b, lx1, ly1, cat⟩ := cells_cat (hcs6.up e7) h7
      rw [List.length_map] at ly1
      refine ⟨pc, D, _, _, rfl, rfl, g7a, g7b, by rw [lx1, ly1, sizeLine_eq]; omega, fun p8 n8 => ?_⟩
      k_invariant "new" (n8, H8, e8, g8)
      have s68 := e7.trans e8
      refine gName_go ?_
      k_upd
      refine ⟨s6.trans s68, p8, _, _, _, fs ++ [(po, ps)], _, rfl, fun z => ?_, s68 _ _ gf6, by rw [List.length_append]; show _ + 1 ≤ _; omega, fun t m => ?_, cat _ _ e8 g8, by rw [List.length_append, List.length_map]; omega, fun y m => ?_⟩
      · rw [z, e7 _ _ gf6] at n8
        cases n8
      · obtain ⟨f1, f2, f3⟩ := hfs6 t m
        exact ⟨f1, f2.up s68, f3⟩
      · rcases List.mem_append.mp m with m | m
        · exact bcs y m
        · obtain ⟨z, mz, rfl⟩ := List.mem_map.mp m
          have := b5 z mz
          unfold addP
          dsimp only
          omega
    rintro σ H3 ⟨s3, pc, x3, x4, x5, fs, cs, rfl, npcf, gf, lf, hfs, hcs, lcs, bcs⟩
    clear npf e1 g1 npc e2 g2 s2 hfs gf lf
    have lcs : cs.length ≤ 35 := by omega
    obtain ⟨ts, hts, htt, ets⟩ := id hcs
    refine ⟨_, rfl, pc, _, rfl, lst_of hts, fun p6 n6 => ?_⟩
    k_invariant "new" (n6, H6, e6, g6)
    k_upd
    refine ⟨_, rfl, p6, _, rfl, lst_of g6, fun p7 n7 => ?_⟩
    k_invariant "new" (n7, H7, e7, g7)
    k_upd
    obtain ⟨gs, hH, hG, memg, lg⟩ : ∃ gs : List Pr, Cells H7 p6 gs ∧ Cells H7 p7 gs ∧ (∀ x, x ∈ gs ↔ x ∈ cs) ∧ gs.length ≤ 35 := by
      have tt7 : ∀ t ∈ ts.reverse, H7 t.1 = some (.tup [.int t.2.1, .int t.2.2]) := fun t m => e7 _ _ (e6 _ _ (htt t (List.mem_reverse.mp m)))
      refine ⟨ts.reverse.map (·.2), cells_mk _ (by rw [e7 _ _ g6, List.map_reverse]) tt7, cells_mk _ (by rw [g7, List.map_reverse]) tt7, fun x => ?_, ?_⟩
      · rw [List.map_reverse, List.mem_reverse, ets]
      · rw [List.map_reverse, List.length_reverse, ets]
        exact lcs
    have s7 : Same H H7 := s3.trans (e6.trans e7)
    have bg : ∀ x ∈ gs, x.1.natAbs ≤ 1000 ∧ x.2.natAbs ≤ 1000 := fun x m => by
      have := bcs x ((memg x).mp m)
      omega
    clear g6 g7 n6 n7 e6 e7 hts htt ets
    -- texts
    refine ⟨Nat.zero_le _, fun p8 n8 => ?_⟩
    k_invariant "new" (n8, H8, e8, g8)
    k_upd
    have hG8 := hG.up e8
    refine ⟨_, rfl, p7, gs, rfl, hG8, by omega, fun H9 pl L n9 e9 can9 h9 => ?_⟩
    obtain ⟨is, his, hcl, eis⟩ := id h9
    have np8 : pl ≠ p8 := fun z => by rw [z, g8] at n9; cases n9
    have gd9 := e9 _ _ g8
    have lL : L.length ≤ 60 := by
      have e : L = can gs := ascP_eq can9.1 (can_pw gs) fun x => by rw [can9.2, mem_can]
      rw [e]
      exact Nat.le_trans (can_len gs) (by omega)
    have lis := isl_len L
    have part : ∀ p ∈ islL L, p.length ≤ 60 ∧ p.Nodup ∧ ∀ x ∈ p, x.1.natAbs ≤ 1000 ∧ x.2.natAbs ≤ 1000 := fun p m => by
      have a := isl_part can9.1 m
      obtain ⟨f, _, _, rfl⟩ := isl_mem m
      exact ⟨by omega, pw_nodup a.1, fun x mx => bg x ((can9.2 x).mp (List.mem_filter.mp mx).1)⟩
    have lits : is.length = (islL L).length := by rw [← eis, List.length_map]
    refine ⟨pl, rfl, ⟨_, lst_of his⟩, for_list (K := K) (a := pl) (xs := is.map fun t => V.ref t.1) (fun i σ H' => (∀ b o, b ≠ p8 → H9 b = some o → H' b = some o) ∧ Same H7 H' ∧ H' p8 = some (.lst (((txtL L).take i).map V.str)) ∧ ∃ x9 x10 x11 x12 x13 x14 x15 : Option V, σ = [some (.ref a), some (.ref pf), some (.ref pc), x3, x4, x5, some (.ref p6), some (.ref p7), some (.ref p8), x9, x10, x11, x12, x13, x14, x15, none, none, none, none, none, none, none])
      ⟨fun b o _ e => e, e8.trans e9, by rw [gd9]; rfl, none, none, none, none, none, none, none, rfl⟩ (fun i σ H' _ p => lst_of (p.1 _ _ np8 his)) ?_ ?_⟩
    · rintro i v σ H10 hi ⟨k10, s10, g10, x9, x10, x11, x12, x13, x14, x15, rfl⟩
      have li := (List.getElem?_eq_some_iff.mp hi).1
      rw [List.length_map] at li
      rw [List.getElem?_map] at hi
      obtain ⟨t, et, rfl⟩ := Option.map_eq_some_iff.mp hi
      have mt := List.mem_of_getElem? et
      have hp : t.2 ∈ islL L := by rw [← eis]; exact List.mem_map.mpr ⟨t, mt, rfl⟩
      obtain ⟨lp, ndp, fp⟩ := part t.2 hp
      have hne : t.2 ≠ [] := fun z => by
        obtain ⟨f, mf, _, e⟩ := isl_mem hp
        have : f ∈ compL L f := mem_compL.mpr (.refl mf)
        rw [← e, z] at this
        cases this
      have htk : ∀ H', Same H10 H' → Cells H' t.1 t.2 := fun H' e => by
        obtain ⟨us, u1, u2, u3⟩ := hcl t mt
        exact ⟨us, e _ _ (k10 _ _ (fun z => by
          rw [z, gd9] at u1
          have u1 := congrArg List.length (HO.lst.inj (Option.some.inj u1))
          rw [List.length_map] at u1
          rw [List.eq_nil_of_length_eq_zero u1.symm] at u3
          exact hne u3.symm) u1), fun u m => e _ _ (k10 _ _ (fun z => by have := u2 u m; rw [z, gd9] at this; cases this) (u2 u m)), u3⟩
      refine gName_go ?_
      k_upd
      refine ⟨_, rfl, by decide, by decide, for_range (lo := 0) (n := ((8 : Int)).toNat) (fun n σ' H' => Same H10 H' ∧ ∃ (x11 x12 x13 x14 x15 : Option V) (hv : V), σ' = [some (.ref a), some (.ref pf), some (.ref pc), x3, x4, x5, some (.ref p6), some (.ref p7), some (.ref p8), some (.ref t.1), some hv, x11, x12, x13, x14, x15, none, none, none, none, none, none, none] ∧ ((n = 0 ∧ hv = .non) ∨ ∃ ph m, hv = .ref ph ∧ Cells H' ph m ∧ LeastL m ((forms t.2).take n)))
        ⟨Same.refl _, x11, x12, x13, x14, x15, .non, rfl, .inl ⟨rfl, rfl⟩⟩ ?_ ?_⟩
      · rintro n σ H11 hn ⟨s11, y11, y12, y13, y14, y15, hv, rfl, hhv⟩
        have hn : n < 8 := by omega
        rw [Int.zero_add]
        refine gName_go ?_
        k_upd
        refine ⟨_, rfl, _, rfl, t.1, t.2, n, rfl, htk _ s11, lp, ndp, hn, fun H12 pi n12 e12 h12 => ?_⟩
        obtain ⟨im, eim⟩ : ∃ im, im = can (t.2.map (D8 (ds8.getD n (false, false, false)))) := ⟨_, rfl⟩
        rw [← eim] at h12
        k_upd
        have lim : im.length ≤ 60 := by
          rw [eim]
          have := can_len (t.2.map (D8 (ds8.getD n (false, false, false))))
          rw [List.length_map] at this
          omega
        have nim : im ≠ [] := fun z => by
          cases e : t.2 with
          | nil => exact hne e
          | cons y r =>
            have : D8 (ds8.getD n (false, false, false)) y ∈ im := by
              rw [eim, mem_can]
              exact List.mem_map.mpr ⟨y, by rw [e]; exact List.mem_cons_self, rfl⟩
            rw [z] at this
            cases this
        have ne0 : 0 < im.length := List.length_pos_iff.mpr nim
        obtain ⟨m1, m2⟩ := least_rows nim
        refine ⟨_, rfl, pi, rfl, ⟨_, lst_of h12.choose_spec.1⟩, fun D nD => lc_nums (·.1) h12 nD (by rw [sizeLine_eq]; omega) ?_ fun H13 e13 h13 => ?_⟩
        · intro u x H' Po Pn _ hu' hq
          exact ⟨u, _, rfl, tup_of hu', rfl, _, _, rfl, _, _, rfl, rfl, wipe2 _ 19 20 _ _, tyesT ⟨_, rfl, hq⟩⟩
        refine ⟨_, _, rfl, lst_of h13, by rw [List.length_map]; exact ne0, fun top mt' lt' => ?_⟩
        have etop : top = minI (rowsP im) := Least.uniq ⟨mt', lt'⟩ m1
        subst etop
        refine gName_go ?_
        k_upd
        refine ⟨_, rfl, pi, rfl, ⟨_, lst_of (h12.up e13).choose_spec.1⟩, fun D nD => lc_nums (·.2) (h12.up e13) nD (by rw [sizeLine_eq]; omega) ?_ fun H14 e14 h14 => ?_⟩
        · intro u x H' Po Pn _ hu' hq
          exact ⟨u, _, rfl, tup_of hu', rfl, _, _, rfl, _, _, rfl, rfl, wipe2 _ 19 20 _ _, tyesT ⟨_, rfl, hq⟩⟩
        refine ⟨_, _, rfl, lst_of h14, by rw [List.length_map]; exact ne0, fun left ml ll => ?_⟩
        have elft : left = minI (colsP im) := Least.uniq ⟨ml, ll⟩ m2
        subst elft
        refine gName_go ?_
        k_upd
        have h12' := (h12.up e13).up e14
        refine ⟨_, rfl, pi, rfl, ⟨_, lst_of h12'.choose_spec.1⟩, fun D nD => lc_cells (addP (-(minI (rowsP im))) (-(minI (colsP im)))) h12' nD (by rw [sizeLine_eq]; omega) ?_ fun H15 e15 h15 => ?_⟩
        · intro u x H' Po Pn sm hu' hq
          exact ⟨u, _, rfl, tup_of hu', rfl, _, _, rfl, _, _, rfl, rfl, wipe2 _ 19 20 _ _, tyesT ⟨_, rfl, _, rfl, _, _, rfl, rfl, _, rfl, _, rfl, _, _, rfl, rfl, (by k_clsL), fun t2 n2 => hq t2 n2⟩⟩
        have efm : im.map (addP (-(minI (rowsP im))) (-(minI (colsP im)))) = formD (ds8.getD n (false, false, false)) t.2 := by
          rw [eim]
          rfl
        rw [efm] at h15
        have at8 : (forms t.2)[n]? = some (formD (ds8.getD n (false, false, false)) t.2) := by
          unfold forms
          rw [List.getElem?_map, List.getD_eq_getElem?_getD, List.getElem?_eq_getElem (show n < ds8.length from hn)]
          rfl
        have tkn : (forms t.2).take (n + 1) = (forms t.2).take n ++ [formD (ds8.getD n (false, false, false)) t.2] := by rw [List.take_succ, at8]; rfl
        refine gName_go ?_
        k_upd
        have s15 := s11.trans (e12.trans (e13.trans (e14.trans e15)))
        rcases hhv with ⟨rfl, rfl⟩ | ⟨ph, m, rfl, hm, lm⟩
        · refine ⟨_, rfl, rfl, _, rfl, ?_⟩
          rw [decide_eq_true rfl]
          refine ⟨_, rfl, ?_⟩
          refine gName_go ?_
          k_upd
          refine ⟨s15, _, _, _, _, _, _, rfl, .inr ⟨D, _, rfl, h15, ?_⟩⟩
          rw [tkn]
          exact ⟨List.mem_cons_self, fun y my => by rw [List.mem_singleton.mp my]; exact ltL_irr _⟩
        · refine ⟨_, rfl, rfl, _, rfl, ?_⟩
          rw [decide_eq_false (by intro z; cases z)]
          have hm15 := hm.up (e12.trans (e13.trans (e14.trans e15)))
          have sn := leastL_snoc (y := formD (ds8.getD n (false, false, false)) t.2) lm
          rw [← tkn] at sn
          refine ⟨_, rfl, _, rfl, D, ph, _, _, rfl, rfl, h15, hm15, _, rfl, ite2 (fun c => ?_) (fun c => ?_)⟩
          · rw [if_pos c] at sn
            refine ⟨_, rfl, ?_⟩
            refine gName_go ?_
            k_upd
            exact ⟨s15, _, _, _, _, _, _, rfl, .inr ⟨D, _, rfl, h15, sn⟩⟩
          · rw [if_neg c] at sn
            exact ⟨s15, _, _, _, _, _, _, rfl, .inr ⟨ph, _, rfl, hm15, sn⟩⟩
      · rintro σ H11 ⟨s11, y11, y12, y13, y14, y15, hv, rfl, hhv⟩
        rcases hhv with ⟨z, _⟩ | ⟨ph, m, rfl, hm, lm⟩
        · cases z
        rw [show (forms t.2).take ((8 : Int)).toNat = forms t.2 from List.take_of_length_le (by unfold forms; rw [List.length_map]; exact Nat.le_refl _)] at lm
        have em : m = leastF t.2 := lm.uniq (leastF_is t.2) fun _ => Iff.rfl
        subst em
        refine ⟨_, rfl, t.1, t.2, rfl, htk _ s11, by omega, fun H12 pl2 e12 h12 => ?_⟩
        refine ⟨_, rfl, _, _, dp_cells h12, dp_cells (hm.up e12), shaped_cells _, shaped_cells _, ?_⟩
        rw [eqv_cells, decide_eq_true rfl]
        refine ⟨_, rfl, iteF ?_⟩
        have s12 := s11.trans e12
        have g12 := s12 _ _ g10
        have ll := leastF_len t.2
        have lf := leastF_fit (M := 1000) fp
        refine ⟨_, rfl, .inl ⟨rfl, _, lst_of g12⟩, _, rfl, ph, leastF t.2, rfl, hm.up e12, by omega, fun x mx => ?_, fun H13 z qs e13 ho es len => ?_⟩
        · have := lf x mx
          omega
        rw [wtx_of ho es]
        have hT : (txtL L)[i]? = some (wtx (leastF t.2)) := by
          unfold txtL
          rw [← eis, List.map_map, List.getElem?_map, et]
          rfl
        have tk : (txtL L).take (i + 1) = (txtL L).take i ++ [wtx (leastF t.2)] := by rw [List.take_succ, hT]; rfl
        have s13 := s12.trans e13
        refine ⟨p8, _, _, rfl, rfl, e13 _ _ g12, by rw [List.length_map, List.length_take, sizeLine_eq]; omega, fun b o nb hb => by rw [upd_ne nb]; exact s13 _ _ (k10 b o nb hb), mutS (s10.trans s13) n8, ?_, _, _, _, _, _, _, _, rfl⟩
        rw [upd_same, tk, List.map_append]
        rfl
    rintro σ H10 ⟨k10, s10, g10, x9, x10, x11, x12, x13, x14, x15, rfl⟩
    have et : (txtL L).take (is.map fun t => V.ref t.1).length = txtL L := by
      rw [List.take_of_length_le]
      unfold txtL
      rw [List.length_map, List.length_map, lits]
      exact Nat.le_refl _
    rw [et] at g10
    obtain ⟨TT, eTT⟩ : ∃ TT, TT = txtL L := ⟨_, rfl⟩
    rw [← eTT] at g10
    have lTT : TT.length ≤ 60 := by
      rw [eTT]
      unfold txtL
      rw [List.length_map]
      omega
    have hok : ∀ t ∈ TT, PyData.strOk t = true := fun t m => by
      rw [eTT] at m
      unfold txtL at m
      obtain ⟨p, _, rfl⟩ := List.mem_map.mp m
      exact wtx_ok _
    obtain ⟨cg, ecg⟩ : ∃ cg : Str → Int, cg = fun t => (TT.count t : Int) := ⟨_, rfl⟩
    have hG10 := hG.up s10
    have hH10 := hH.up s10
    clear k10 hcl his eis hG hH hG8 e8 e9 g8 gd9 n8 h9
    -- due
    refine ⟨Nat.zero_le _, fun pd npd => ?_⟩
    k_invariant "new" (npd, H11, e11, g11)
    k_upd
    have gT11 := e11 _ _ g10
    refine ⟨_, rfl, p8, TT.map V.str, TT.map PyData.str, rfl, lst_of gT11, dpAll_strs TT, alike_strs TT, sortable_strs TT, depth_strs TT, fun ps nps => ?_⟩
    rw [srtD_strs]
    k_invariant "new" (nps, H12, e12, g12)
    have npsd : ps ≠ pd := fun z => by rw [z, g11] at nps; cases nps
    refine ⟨ps, rfl, ⟨_, lst_of g12⟩, for_list (K := K) (a := ps) (xs := (srtS TT).map V.str) (fun i σ H' => Same H10 H' ∧ H' ps = some (.lst ((srtS TT).map V.str)) ∧ (∃ x17 : Option V, σ = [some (.ref a), some (.ref pf), some (.ref pc), x3, x4, x5, some (.ref p6), some (.ref p7), some (.ref p8), x9, x10, x11, x12, x13, x14, x15, some (.ref pd), x17, none, none, none, none, none]) ∧ DueAt H' pd (dstS ((srtS TT).take i)) cg)
      ⟨e11.trans e12, g12, ⟨none, rfl⟩, [], e12 _ _ g11, (fun _ z => by cases z), rfl⟩ (fun i σ H' _ p => lst_of p.2.1) ?_ ?_⟩
    · rintro i v σ H13 hi ⟨s13, g13, ⟨x17, rfl⟩, hdue⟩
      rw [List.getElem?_map] at hi
      obtain ⟨tx, etx, rfl⟩ := Option.map_eq_some_iff.mp hi
      have li := (List.getElem?_eq_some_iff.mp etx).1
      have lS : (srtS TT).length = TT.length := List.length_mergeSort _
      have tk : (srtS TT).take (i + 1) = (srtS TT).take i ++ [tx] := by rw [List.take_succ, etx]; rfl
      rw [tk, dstS_s]
      refine gName_go ?_
      k_upd
      obtain ⟨bs, hb1, hb2, hb3⟩ := id hdue
      have lbs : bs.length ≤ 60 := by
        have : (dstS ((srtS TT).take i)).length = bs.length := by rw [← hb3, List.length_map]
        have := dstS_len ((srtS TT).take i)
        rw [List.length_take] at this
        omega
      have fin : ∀ (Dn : Ends) H14, (∀ σ H', (Same H10 H' ∧ H' ps = some (.lst ((srtS TT).map V.str)) ∧ (∃ x17 : Option V, σ = [some (.ref a), some (.ref pf), some (.ref pc), x3, x4, x5, some (.ref p6), some (.ref p7), some (.ref p8), x9, x10, x11, x12, x13, x14, x15, some (.ref pd), x17, none, none, none, none, none]) ∧ DueAt H' pd (dstF (dstS ((srtS TT).take i)) tx) cg) → Dn.nx σ H') → Same H13 H14 → (dstS ((srtS TT).take i)).getLast? ≠ some tx →
          tDrop (tBM K "list" rAppend (tVar 16) (tCons (tTup (tCons (tVar 17) (tCons (tCB (rSum K) (tCons (tLc (iList K (tVar 8)) (gName 21) tYes (tCB (fun xs H Q => ∃ k, xs = [V.bl k] ∧ Q (V.int (if k = true then 1 else 0)) H) (tCons (tOp rEq (tVar 21) (tVar 17)) tNil)) [21]) tNil)) tNil))) tNil))
            Dn
            [some (.ref a), some (.ref pf), some (.ref pc), x3, x4, x5, some (.ref p6), some (.ref p7), some (.ref p8), x9, x10, x11, x12, x13, x14, x15, some (.ref pd), some (.str tx), none, none, none, none, none] H14 := fun Dn H14 hD e14 hl => by
        have gT14 := e14 _ _ (s13 _ _ g10)
        refine ⟨_, rfl, .inl ⟨rfl, _, lst_of (e14 _ _ hb1)⟩, _, rfl, _, rfl, p8, rfl, ⟨_, lst_of gT14⟩, fun D nD => lc_list (K := K) (a := p8) (xs := TT.map V.str) (fun j H' => Same H14 H' ∧ H' D = some (.lst (((TT.take j).map fun o => if o = tx then (1 : Int) else 0).map V.int))) ⟨newS nD, upd_same⟩ (fun j H' _ p => lst_of (p.1 _ _ gT14)) ?_ ?_⟩
        · rintro j v H15 hj ⟨s15, g15⟩
          rw [List.getElem?_map] at hj
          obtain ⟨o, eo, rfl⟩ := Option.map_eq_some_iff.mp hj
          have lj := (List.getElem?_eq_some_iff.mp eo).1
          refine ⟨rfl, tyesT ⟨_, rfl, _, rfl, rfl, _, rfl, ?_⟩⟩
          refine ⟨_, g15, by rw [List.length_map, List.length_map, List.length_take, sizeLine_eq]; omega, mutS s15 nD, ?_⟩
          rw [upd_same, List.take_succ, eo]
          have : V.int (if decide (V.str o = V.str tx) = true then 1 else 0) = V.int (if o = tx then 1 else 0) := by
            by_cases e : o = tx
            · rw [if_pos e, if_pos (decide_eq_true (by rw [e]))]
            · rw [if_neg e, if_neg (by rw [decide_eq_true_iff]; intro z; injection z with z; exact e z)]
          rw [this]
          show some (HO.lst _) = some (HO.lst (((TT.take j ++ [o]).map _).map _))
          rw [List.map_append, List.map_append]
          rfl
        rintro H15 ⟨s15, g15⟩
        rw [List.length_map, List.take_of_length_le (Nat.le_refl _)] at g15
        refine ⟨D, _, rfl, lst_of g15, by k_clsL, fun p np => ?_⟩
        rw [count_sum]
        k_invariant "new" (np, H16, e16, g16)
        have s16 := e14.trans (s15.trans e16)
        have g16 : H16 p = some (.tup [.str tx, .int (cg tx)]) := by rw [ecg]; exact g16
        have gb16 := s16 _ _ hb1
        have nppd : p ≠ pd := fun z => by rw [z, gb16] at g16; cases g16
        refine ⟨pd, _, _, rfl, rfl, gb16, by rw [List.length_map, sizeLine_eq]; omega, hD _ _ ⟨mutS (s13.trans s16) npd, by rw [upd_ne npsd]; exact s16 _ _ g13, ⟨_, rfl⟩, bs ++ [(p, tx)], by rw [upd_same, List.map_append]; rfl, fun b m => ?_, ?_⟩⟩
        · rcases List.mem_append.mp m with m | m
          · have g := s16 _ _ (hb2 b m)
            rw [upd_ne fun z => by rw [z, gb16] at g; cases g]
            exact g
          · rw [List.mem_singleton.mp m, upd_ne nppd]
            exact g16
        · unfold dstF
          rw [if_neg hl, List.map_append, hb3]
          rfl
      refine ⟨_, rfl, Nat.zero_le _, fun pe npe => ?_⟩
      k_invariant "new" (npe, H14, e14, g14)
      have hd14 := hdue.up e14
      refine ⟨_, _, hd14.dp, .lst (lst_of g14) .nil, shaped_ct _ _ (fun t m => hok t (mem_srtS.mp (List.mem_of_mem_take ((dst_mem _ _).mp m)))), (by decide), ?_⟩
      rw [eqv_nilR]
      refine ⟨_, rfl, ?_⟩
      by_cases c0 : dstS ((srtS TT).take i) = []
      · rw [c0]
        exact fin _ H14 (fun σ H' z => by rw [c0] at z; exact z) e14 (by rw [c0]; intro z; cases z)
      · have ie : ((dstS ((srtS TT).take i)).map (ctD cg)).isEmpty = false := by
          cases e : dstS ((srtS TT).take i) with
          | nil => exact absurd e c0
          | cons _ _ => rfl
        rw [ie]
        refine iteF ?_
        have nbs : 0 < bs.length := by
          rw [← List.length_map (f := fun b : Addr × Str => b.2), hb3]
          exact List.length_pos_iff.mpr c0
        have lb : bs.length - 1 < bs.length := by omega
        obtain ⟨bl, ebl⟩ : ∃ bl, bl = bs[bs.length - 1] := ⟨_, rfl⟩
        have atl : (bs.map fun b => V.ref b.1)[bs.length - 1]? = some (.ref bl.1) := by rw [List.getElem?_map, List.getElem?_eq_getElem lb, ebl]; rfl
        have mbl : bl ∈ bs := by rw [ebl]; exact List.getElem_mem lb
        have elast : (dstS ((srtS TT).take i)).getLast? = some bl.2 := by
          rw [← hb3, List.getLast?_eq_getElem?, List.length_map, List.getElem?_map, List.getElem?_eq_getElem lb, ebl]
          rfl
        have gb14 := e14 _ _ hb1
        refine ⟨_, rfl, _, rfl, pd, _, rfl, lst_of gb14, _, _, rfl, rfl, pd, _, _, _, rfl, rfl, lst_of gb14, (by rw [List.length_map, show ((bs.length : Nat) : Int) - 1 = ((bs.length - 1 : Nat) : Int) by omega]; exact atI_nat atl), ?_⟩
        refine ⟨bl.1, _, _, _, rfl, rfl, tup_of (e14 _ _ (hb2 bl mbl)), rfl, _, rfl, rfl, _, rfl, ?_⟩
        by_cases c1 : bl.2 = tx
        · rw [decide_eq_true (by rw [c1])]
          refine iteF ?_
          refine ⟨s13.trans e14, e14 _ _ g13, ⟨_, rfl⟩, ?_⟩
          unfold dstF
          rw [if_pos (by rw [elast, c1])]
          exact hd14
        · rw [decide_eq_false (by intro z; injection z with z; exact c1 z)]
          refine iteT ?_
          exact fin _ H14 (fun σ H' z => z) e14 (by rw [elast]; intro z; exact c1 (Option.some.inj z))
    rintro σ H13 ⟨s13, g13, ⟨x17, rfl⟩, hdue⟩
    rw [List.take_of_length_le (by rw [List.length_map]; exact Nat.le_refl _)] at hdue
    have hG13 := hG10.up s13
    have hH13 := hH10.up s13
    refine ⟨_, rfl, p7, gs, rfl, hG13, by omega, bg, fun H14 pt L2' dk bs e14 can14 nd14 mem14 gt hbt srt14 => ?_⟩
    have eL : L2' = L := ascP_eq can14.1 can9.1 fun x => by rw [can14.2, can9.2]
    subst eL
    k_upd
    refine ⟨_, rfl, _, _, _, _, true, rfl, .ty "list", .base (.lst gt), kit_ty (by decide +kernel), _, rfl, iteF ?_⟩
    have allT : ∀ n : Nat, (List.replicate n true).all id = true := fun n => by simp
    refine ⟨_, rfl, pt, rfl, ⟨_, lst_of gt⟩, fun D2 nD2 => lc_list (K := K) (a := pt) (xs := bs.map fun b => V.ref b.1) (fun i H' => Same H14 H' ∧ H' D2 = some (.lst ((List.replicate i true).map V.bl))) ⟨newS nD2, upd_same⟩ (fun i H' _ p => lst_of (p.1 _ _ gt)) ?_ ?_⟩
    · rintro i v H15 hi ⟨s15, g15⟩
      have li := (List.getElem?_eq_some_iff.mp hi).1
      rw [List.length_map] at li
      rw [List.getElem?_map] at hi
      obtain ⟨b, eb, rfl⟩ := Option.map_eq_some_iff.mp hi
      have hbb := s15 _ _ (hbt b (List.mem_of_getElem? eb))
      refine ⟨rfl, tyesT ⟨_, rfl, _, _, _, _, true, rfl, .ty "tuple", .base (.tup hbb), kit_ty (by decide +kernel), ?_⟩⟩
      refine ⟨_, g15, ?_, mutS s15 nD2, ?_⟩
      · rw [List.length_map, List.length_replicate, sizeLine_eq]
        have : bs.length = dk.length := by
          have := congrArg List.length srt14
          rw [List.length_map, List.length_mergeSort] at this
          unfold cnzL at this
          rw [List.length_map] at this
          exact this
        have : dk.length ≤ 60 := by
          have h := List.length_mergeSort (le := leS) dk
          have e : srtS dk = dstS (srtS (txtL L2')) := told_due nd14 mem14
          have := dstS_len (srtS (txtL L2'))
          rw [← e] at this
          have : (srtS (txtL L2')).length = (txtL L2').length := List.length_mergeSort _
          have : (srtS dk).length = dk.length := List.length_mergeSort _
          rw [eTT] at lTT
          omega
        omega
      · rw [upd_same, List.replicate_succ', List.map_append]
        rfl
    rintro H15 ⟨s15, g15⟩
    refine ⟨D2, _, rfl, lst_of g15, _, rfl, ?_⟩
    rw [allT]
    refine iteF ?_
    have memb : ∀ b ∈ bs, ∃ t, b.2 = ((Sum.inr t : L2.Key), V.int (((txtL L2').count t : Int))) := fun b m => by
      have m2 : b.2 ∈ bs.map (·.2) := List.mem_map.mpr ⟨b, m, rfl⟩
      rw [srt14] at m2
      have m3 := (List.mergeSort_perm _ _).mem_iff.mp m2
      unfold cnzL at m3
      obtain ⟨t, _, e⟩ := List.mem_map.mp m3
      exact ⟨t, e.symm⟩
    have ds : bs.map (fun b => itD b.2) = (dstS (srtS TT)).map (ctD cg) := by
      have e1 : bs.map (fun b => itD b.2) = (bs.map (·.2)).map itD := by rw [List.map_map]; rfl
      rw [e1, srt14, cnt_sorted, told_due nd14 mem14, eTT, ecg, eTT]
    have dpt : Dp K H15 (.ref pt) (.list ((dstS (srtS TT)).map (ctD cg))) := by
      rw [← ds]
      refine .lst (lst_of (s15 _ _ gt)) ?_
      have hb15 : ∀ b ∈ bs, H15 b.1 = some (.tup [kV b.2.1, b.2.2]) := fun b m => s15 _ _ (hbt b m)
      have go : ∀ bs : List (Addr × L2.Key × V), (∀ b ∈ bs, H15 b.1 = some (.tup [kV b.2.1, b.2.2])) → (∀ b ∈ bs, ∃ t, b.2 = ((Sum.inr t : L2.Key), V.int (((txtL L2').count t : Int)))) → DpAll K H15 (bs.map fun b => V.ref b.1) (bs.map fun b => itD b.2) := fun bs => by
        induction bs with
        | nil => exact fun _ _ => .nil
        | cons b bs ih =>
          intro h1 h2
          obtain ⟨t, e⟩ := h2 b List.mem_cons_self
          have g := h1 b List.mem_cons_self
          rw [e] at g
          refine .cons ?_ (ih (fun c m => h1 c (List.mem_cons_of_mem _ m)) fun c m => h2 c (List.mem_cons_of_mem _ m))
          show Dp K H15 (V.ref b.1) (itD b.2)
          rw [e]
          exact .tup (tup_of g) (.cons (.str t) (.cons (.int _) .nil))
      exact go bs hb15 memb
    have okd : ∀ t ∈ dstS (srtS TT), PyData.strOk t = true := fun t m => hok t (mem_srtS.mp ((dst_mem _ _).mp m))
    have s15' := e14.trans s15
    refine ⟨_, rfl, _, rfl, _, _, dpt, (hdue.up s15').dp, shaped_ct _ _ okd, shaped_ct _ _ okd, ?_⟩
    rw [eqv_ct]
    refine ⟨_, rfl, iteT ?_⟩
    refine ⟨_, rfl, _, rfl, _, _, dp_cells (hG13.up s15'), dp_cells (hH13.up s15'), shaped_cells _, shaped_cells _, ?_⟩
    rw [eqv_cells, decide_eq_true rfl]
    exact q _
end
end My
namespace My
open PySem PySem.Spec PyProof.Rows L2 Vx
theorem all_mk {l : PySem.W.OpenLaw} {w : World} {K : PySem.W.Frag} {h : Heap} {mg : Str → Option Value} {fa : Addr} (X : K.In h) (G : h.Ns mainGlobals mg) (hfa : mg "law" = some (.ref fa))
    {f_pattern : Addr} {odpattern anpattern : Option Addr} {slpattern : Array (Option Value)} {ocpattern kVpattern dcpattern pmpattern cdpattern ctpattern : Value}
    {f_moved : Addr} {odmoved anmoved : Option Addr} {slmoved : Array (Option Value)} {ocmoved kVmoved dcmoved pmmoved cdmoved ctmoved : Value}
    {f_turned : Addr} {odturned anturned : Option Addr} {slturned : Array (Option Value)} {octurned kVturned dcturned pmturned cdturned ctturned : Value}
    {f_mirrored : Addr} {odmirrored anmirrored : Option Addr} {slmirrored : Array (Option Value)} {ocmirrored kVmirrored dcmirrored pmmirrored cdmirrored ctmirrored : Value}
    {f_home : Addr} {odhome anhome : Option Addr} {slhome : Array (Option Value)} {ochome kVhome dchome pmhome cdhome cthome : Value}
    {f_write_text : Addr} {odwrite_text anwrite_text : Option Addr} {slwrite_text : Array (Option Value)} {ocwrite_text kVwrite_text dcwrite_text pmwrite_text cdwrite_text ctwrite_text : Value}
    {f_runs : Addr} {odruns anruns : Option Addr} {slruns : Array (Option Value)} {ocruns kVruns dcruns pmruns cdruns ctruns : Value}
    {f_counted : Addr} {odcounted ancounted : Option Addr} {slcounted : Array (Option Value)} {occounted kVcounted dccounted pmcounted cdcounted ctcounted : Value}
    {f_images : Addr} {odimages animages : Option Addr} {slimages : Array (Option Value)} {ocimages kVimages dcimages pmimages cdimages ctimages : Value}
    {f_turns : Addr} {odturns anturns : Option Addr} {slturns : Array (Option Value)} {octurns kVturns dcturns pmturns cdturns ctturns : Value}
    {f_homes : Addr} {odhomes anhomes : Option Addr} {slhomes : Array (Option Value)} {ochomes kVhomes dchomes pmhomes cdhomes cthomes : Value}
    {f_least_form : Addr} {odleast_form anleast_form : Option Addr} {slleast_form : Array (Option Value)} {ocleast_form kVleast_form dcleast_form pmleast_form cdleast_form ctleast_form : Value}
    {f_islands : Addr} {odislands anislands : Option Addr} {slislands : Array (Option Value)} {ocislands kVislands dcislands pmislands cdislands ctislands : Value}
    {f_census : Addr} {odcensus ancensus : Option Addr} {slcensus : Array (Option Value)} {occensus kVcensus dccensus pmcensus cdcensus ctcensus : Value}
    {f_law_cell : Addr} {odlaw_cell anlaw_cell : Option Addr} {sllaw_cell : Array (Option Value)} {oclaw_cell kVlaw_cell dclaw_cell pmlaw_cell cdlaw_cell ctlaw_cell : Value}
    {f_law_row : Addr} {odlaw_row anlaw_row : Option Addr} {sllaw_row : Array (Option Value)} {oclaw_row kVlaw_row dclaw_row pmlaw_row cdlaw_row ctlaw_row : Value}
    {f_law_some : Addr} {odlaw_some anlaw_some : Option Addr} {sllaw_some : Array (Option Value)} {oclaw_some kVlaw_some dclaw_some pmlaw_some cdlaw_some ctlaw_some : Value}
    {f_law_image : Addr} {odlaw_image anlaw_image : Option Addr} {sllaw_image : Array (Option Value)} {oclaw_image kVlaw_image dclaw_image pmlaw_image cdlaw_image ctlaw_image : Value}
    {f_law : Addr} {odlaw anlaw : Option Addr} {sllaw : Array (Option Value)} {oclaw kVlaw dclaw pmlaw cdlaw ctlaw : Value}
    {uMARK : Tok}
    {uALIVE : Tok}
    {uROW_END : Tok}
    {uDEAD : Tok}
    {uTURNS : Tok}
    {aNEAR : Addr} {nNEAR : Nat} {uNEAR0 uNEAR1 uNEAR2 uNEAR3 uNEAR4 : Tok} {slNEAR : Array (Option Value)}
    (apattern : PySem.W.nsIn K mainGlobals "pattern" = some (some (.ref f_pattern)))
    (lpattern : K.lookup f_pattern = some ⟨ocpattern, odpattern, .func (PySem.W.fnOf "pattern" "pattern" (defArgs s_pattern) (defBody s_pattern) (defScope s_pattern) .none kVpattern dcpattern pmpattern anpattern cdpattern ctpattern), slpattern⟩)
    (cpattern : PySem.W.codeIn K cdpattern "pattern" = true)
    (kpattern : PySem.W.keepIn K (.ref f_pattern) = true)
    (amoved : PySem.W.nsIn K mainGlobals "moved" = some (some (.ref f_moved)))
    (lmoved : K.lookup f_moved = some ⟨ocmoved, odmoved, .func (PySem.W.fnOf "moved" "moved" (defArgs s_moved) (defBody s_moved) (defScope s_moved) .none kVmoved dcmoved pmmoved anmoved cdmoved ctmoved), slmoved⟩)
    (cmoved : PySem.W.codeIn K cdmoved "moved" = true)
    (kmoved : PySem.W.keepIn K (.ref f_moved) = true)
    (aturned : PySem.W.nsIn K mainGlobals "turned" = some (some (.ref f_turned)))
    (lturned : K.lookup f_turned = some ⟨octurned, odturned, .func (PySem.W.fnOf "turned" "turned" (defArgs s_turned) (defBody s_turned) (defScope s_turned) .none kVturned dcturned pmturned anturned cdturned ctturned), slturned⟩)
    (cturned : PySem.W.codeIn K cdturned "turned" = true)
    (kturned : PySem.W.keepIn K (.ref f_turned) = true)
    (amirrored : PySem.W.nsIn K mainGlobals "mirrored" = some (some (.ref f_mirrored)))
    (lmirrored : K.lookup f_mirrored = some ⟨ocmirrored, odmirrored, .func (PySem.W.fnOf "mirrored" "mirrored" (defArgs s_mirrored) (defBody s_mirrored) (defScope s_mirrored) .none kVmirrored dcmirrored pmmirrored anmirrored cdmirrored ctmirrored), slmirrored⟩)
    (cmirrored : PySem.W.codeIn K cdmirrored "mirrored" = true)
    (kmirrored : PySem.W.keepIn K (.ref f_mirrored) = true)
    (ahome : PySem.W.nsIn K mainGlobals "home" = some (some (.ref f_home)))
    (lhome : K.lookup f_home = some ⟨ochome, odhome, .func (PySem.W.fnOf "home" "home" (defArgs s_home) (defBody s_home) (defScope s_home) .none kVhome dchome pmhome anhome cdhome cthome), slhome⟩)
    (chome : PySem.W.codeIn K cdhome "home" = true)
    (khome : PySem.W.keepIn K (.ref f_home) = true)
    (awrite_text : PySem.W.nsIn K mainGlobals "write_text" = some (some (.ref f_write_text)))
    (lwrite_text : K.lookup f_write_text = some ⟨ocwrite_text, odwrite_text, .func (PySem.W.fnOf "write_text" "write_text" (defArgs s_write_text) (defBody s_write_text) (defScope s_write_text) .none kVwrite_text dcwrite_text pmwrite_text anwrite_text cdwrite_text ctwrite_text), slwrite_text⟩)
    (cwrite_text : PySem.W.codeIn K cdwrite_text "write_text" = true)
    (kwrite_text : PySem.W.keepIn K (.ref f_write_text) = true)
    (aruns : PySem.W.nsIn K mainGlobals "_runs" = some (some (.ref f_runs)))
    (lruns : K.lookup f_runs = some ⟨ocruns, odruns, .func (PySem.W.fnOf "_runs" "_runs" (defArgs s_runs) (defBody s_runs) (defScope s_runs) .none kVruns dcruns pmruns anruns cdruns ctruns), slruns⟩)
    (cruns : PySem.W.codeIn K cdruns "_runs" = true)
    (kruns : PySem.W.keepIn K (.ref f_runs) = true)
    (acounted : PySem.W.nsIn K mainGlobals "_counted" = some (some (.ref f_counted)))
    (lcounted : K.lookup f_counted = some ⟨occounted, odcounted, .func (PySem.W.fnOf "_counted" "_counted" (defArgs s_counted) (defBody s_counted) (defScope s_counted) .none kVcounted dccounted pmcounted ancounted cdcounted ctcounted), slcounted⟩)
    (ccounted : PySem.W.codeIn K cdcounted "_counted" = true)
    (kcounted : PySem.W.keepIn K (.ref f_counted) = true)
    (aimages : PySem.W.nsIn K mainGlobals "images" = some (some (.ref f_images)))
    (limages : K.lookup f_images = some ⟨ocimages, odimages, .func (PySem.W.fnOf "images" "images" (defArgs s_images) (defBody s_images) (defScope s_images) .none kVimages dcimages pmimages animages cdimages ctimages), slimages⟩)
    (cimages : PySem.W.codeIn K cdimages "images" = true)
    (kimages : PySem.W.keepIn K (.ref f_images) = true)
    (aturns : PySem.W.nsIn K mainGlobals "_turns" = some (some (.ref f_turns)))
    (lturns : K.lookup f_turns = some ⟨octurns, odturns, .func (PySem.W.fnOf "_turns" "_turns" (defArgs s_turns) (defBody s_turns) (defScope s_turns) .none kVturns dcturns pmturns anturns cdturns ctturns), slturns⟩)
    (cturns : PySem.W.codeIn K cdturns "_turns" = true)
    (kturns : PySem.W.keepIn K (.ref f_turns) = true)
    (ahomes : PySem.W.nsIn K mainGlobals "_homes" = some (some (.ref f_homes)))
    (lhomes : K.lookup f_homes = some ⟨ochomes, odhomes, .func (PySem.W.fnOf "_homes" "_homes" (defArgs s_homes) (defBody s_homes) (defScope s_homes) .none kVhomes dchomes pmhomes anhomes cdhomes cthomes), slhomes⟩)
    (chomes : PySem.W.codeIn K cdhomes "_homes" = true)
    (khomes : PySem.W.keepIn K (.ref f_homes) = true)
    (aleast_form : PySem.W.nsIn K mainGlobals "least_form" = some (some (.ref f_least_form)))
    (lleast_form : K.lookup f_least_form = some ⟨ocleast_form, odleast_form, .func (PySem.W.fnOf "least_form" "least_form" (defArgs s_least_form) (defBody s_least_form) (defScope s_least_form) .none kVleast_form dcleast_form pmleast_form anleast_form cdleast_form ctleast_form), slleast_form⟩)
    (cleast_form : PySem.W.codeIn K cdleast_form "least_form" = true)
    (kleast_form : PySem.W.keepIn K (.ref f_least_form) = true)
    (aislands : PySem.W.nsIn K mainGlobals "islands" = some (some (.ref f_islands)))
    (lislands : K.lookup f_islands = some ⟨ocislands, odislands, .func (PySem.W.fnOf "islands" "islands" (defArgs s_islands) (defBody s_islands) (defScope s_islands) .none kVislands dcislands pmislands anislands cdislands ctislands), slislands⟩)
    (cislands : PySem.W.codeIn K cdislands "islands" = true)
    (kislands : PySem.W.keepIn K (.ref f_islands) = true)
    (acensus : PySem.W.nsIn K mainGlobals "census" = some (some (.ref f_census)))
    (lcensus : K.lookup f_census = some ⟨occensus, odcensus, .func (PySem.W.fnOf "census" "census" (defArgs s_census) (defBody s_census) (defScope s_census) .none kVcensus dccensus pmcensus ancensus cdcensus ctcensus), slcensus⟩)
    (ccensus : PySem.W.codeIn K cdcensus "census" = true)
    (kcensus : PySem.W.keepIn K (.ref f_census) = true)
    (alaw_cell : PySem.W.nsIn K mainGlobals "_law_cell" = some (some (.ref f_law_cell)))
    (llaw_cell : K.lookup f_law_cell = some ⟨oclaw_cell, odlaw_cell, .func (PySem.W.fnOf "_law_cell" "_law_cell" (defArgs s_law_cell) (defBody s_law_cell) (defScope s_law_cell) .none kVlaw_cell dclaw_cell pmlaw_cell anlaw_cell cdlaw_cell ctlaw_cell), sllaw_cell⟩)
    (claw_cell : PySem.W.codeIn K cdlaw_cell "_law_cell" = true)
    (klaw_cell : PySem.W.keepIn K (.ref f_law_cell) = true)
    (alaw_row : PySem.W.nsIn K mainGlobals "_law_row" = some (some (.ref f_law_row)))
    (llaw_row : K.lookup f_law_row = some ⟨oclaw_row, odlaw_row, .func (PySem.W.fnOf "_law_row" "_law_row" (defArgs s_law_row) (defBody s_law_row) (defScope s_law_row) .none kVlaw_row dclaw_row pmlaw_row anlaw_row cdlaw_row ctlaw_row), sllaw_row⟩)
    (claw_row : PySem.W.codeIn K cdlaw_row "_law_row" = true)
    (klaw_row : PySem.W.keepIn K (.ref f_law_row) = true)
    (alaw_some : PySem.W.nsIn K mainGlobals "_law_some" = some (some (.ref f_law_some)))
    (llaw_some : K.lookup f_law_some = some ⟨oclaw_some, odlaw_some, .func (PySem.W.fnOf "_law_some" "_law_some" (defArgs s_law_some) (defBody s_law_some) (defScope s_law_some) .none kVlaw_some dclaw_some pmlaw_some anlaw_some cdlaw_some ctlaw_some), sllaw_some⟩)
    (claw_some : PySem.W.codeIn K cdlaw_some "_law_some" = true)
    (klaw_some : PySem.W.keepIn K (.ref f_law_some) = true)
    (alaw_image : PySem.W.nsIn K mainGlobals "_law_image" = some (some (.ref f_law_image)))
    (llaw_image : K.lookup f_law_image = some ⟨oclaw_image, odlaw_image, .func (PySem.W.fnOf "_law_image" "_law_image" (defArgs s_law_image) (defBody s_law_image) (defScope s_law_image) .none kVlaw_image dclaw_image pmlaw_image anlaw_image cdlaw_image ctlaw_image), sllaw_image⟩)
    (claw_image : PySem.W.codeIn K cdlaw_image "_law_image" = true)
    (klaw_image : PySem.W.keepIn K (.ref f_law_image) = true)
    (alaw : PySem.W.nsIn K mainGlobals "law" = some (some (.ref f_law)))
    (llaw : K.lookup f_law = some ⟨oclaw, odlaw, .func (PySem.W.fnOf "law" "law" (defArgs s_law) (defBody s_law) (defScope s_law) .none kVlaw dclaw pmlaw anlaw cdlaw ctlaw), sllaw⟩)
    (claw : PySem.W.codeIn K cdlaw "law" = true)
    (klaw : PySem.W.keepIn K (.ref f_law) = true)
    (zsorted : PySem.W.nsIn K mainGlobals "sorted" = some none)
    (zset : PySem.W.nsIn K mainGlobals "set" = some none)
    (zmin : PySem.W.nsIn K mainGlobals "min" = some none)
    (zstr : PySem.W.nsIn K mainGlobals "str" = some none)
    (zlen : PySem.W.nsIn K mainGlobals "len" = some none)
    (zint : PySem.W.nsIn K mainGlobals "int" = some none)
    (zabs : PySem.W.nsIn K mainGlobals "abs" = some none)
    (zrange : PySem.W.nsIn K mainGlobals "range" = some none)
    (zlist : PySem.W.nsIn K mainGlobals "list" = some none)
    (zisinstance : PySem.W.nsIn K mainGlobals "isinstance" = some none)
    (zall : PySem.W.nsIn K mainGlobals "all" = some none)
    (zsum : PySem.W.nsIn K mainGlobals "sum" = some none)
    (ztuple : PySem.W.nsIn K mainGlobals "tuple" = some none)
    (xMARK : PySem.W.nsIn K mainGlobals "MARK" = some (some (.str (Str.ofString "!") uMARK)))
    (xALIVE : PySem.W.nsIn K mainGlobals "ALIVE" = some (some (.str (Str.ofString "O") uALIVE)))
    (xROW_END : PySem.W.nsIn K mainGlobals "ROW_END" = some (some (.str (Str.ofString "/") uROW_END)))
    (xDEAD : PySem.W.nsIn K mainGlobals "DEAD" = some (some (.str (Str.ofString ".") uDEAD)))
    (xTURNS : PySem.W.nsIn K mainGlobals "TURNS" = some (some (.int (4) uTURNS)))
    (xNEAR : PySem.W.nsIn K mainGlobals "NEAR" = some (some (.ref aNEAR)))
    (lNEAR : K.lookup aNEAR = some ⟨.type "tuple", none, .seq #[.int (-2) uNEAR0, .int (-1) uNEAR1, .int (0) uNEAR2, .int (1) uNEAR3, .int (2) uNEAR4] nNEAR, slNEAR⟩) :
    ∃ fd : FuncData, (∀ (s : Shared) (v : Value), BindsTo s fd ⟨[v], []⟩ [("script", v)]) ∧ ∀ base : Heap, K.In base → base.Ns mainGlobals mg → FnOk l.prog w K mg base CX0 12 fa fd ["script"] (sp_law K) := by
  have e := hfa.symm.trans (PySem.W.mg_of X G alaw)
  cases e
  have F_pattern := fun_mk (st := s_pattern) lpattern cpattern kpattern
  have b_pattern := F_pattern.binds (ps := ["cells"]) fun _ _ _ _ _ _ us hl => match us, hl with | [_], _ => rfl
  have F_moved := fun_mk (st := s_moved) lmoved cmoved kmoved
  have b_moved := F_moved.binds (ps := ["cells", "rows", "columns"]) fun _ _ _ _ _ _ us hl => match us, hl with | [_, _, _], _ => rfl
  have F_turned := fun_mk (st := s_turned) lturned cturned kturned
  have b_turned := F_turned.binds (ps := ["cells"]) fun _ _ _ _ _ _ us hl => match us, hl with | [_], _ => rfl
  have F_mirrored := fun_mk (st := s_mirrored) lmirrored cmirrored kmirrored
  have b_mirrored := F_mirrored.binds (ps := ["cells"]) fun _ _ _ _ _ _ us hl => match us, hl with | [_], _ => rfl
  have F_home := fun_mk (st := s_home) lhome chome khome
  have b_home := F_home.binds (ps := ["cells"]) fun _ _ _ _ _ _ us hl => match us, hl with | [_], _ => rfl
  have F_write_text := fun_mk (st := s_write_text) lwrite_text cwrite_text kwrite_text
  have b_write_text := F_write_text.binds (ps := ["cells"]) fun _ _ _ _ _ _ us hl => match us, hl with | [_], _ => rfl
  have F_runs := fun_mk (st := s_runs) lruns cruns kruns
  have b_runs := F_runs.binds (ps := ["living"]) fun _ _ _ _ _ _ us hl => match us, hl with | [_], _ => rfl
  have F_counted := fun_mk (st := s_counted) lcounted ccounted kcounted
  have b_counted := F_counted.binds (ps := ["number", "sign"]) fun _ _ _ _ _ _ us hl => match us, hl with | [_, _], _ => rfl
  have F_images := fun_mk (st := s_images) limages cimages kimages
  have b_images := F_images.binds (ps := ["cells"]) fun _ _ _ _ _ _ us hl => match us, hl with | [_], _ => rfl
  have F_turns := fun_mk (st := s_turns) lturns cturns kturns
  have b_turns := F_turns.binds (ps := ["cells"]) fun _ _ _ _ _ _ us hl => match us, hl with | [_], _ => rfl
  have F_homes := fun_mk (st := s_homes) lhomes chomes khomes
  have b_homes := F_homes.binds (ps := ["cells"]) fun _ _ _ _ _ _ us hl => match us, hl with | [_], _ => rfl
  have F_least_form := fun_mk (st := s_least_form) lleast_form cleast_form kleast_form
  have b_least_form := F_least_form.binds (ps := ["cells"]) fun _ _ _ _ _ _ us hl => match us, hl with | [_], _ => rfl
  have F_islands := fun_mk (st := s_islands) lislands cislands kislands
  have b_islands := F_islands.binds (ps := ["cells"]) fun _ _ _ _ _ _ us hl => match us, hl with | [_], _ => rfl
  have F_census := fun_mk (st := s_census) lcensus ccensus kcensus
  have b_census := F_census.binds (ps := ["cells"]) fun _ _ _ _ _ _ us hl => match us, hl with | [_], _ => rfl
  have F_law_cell := fun_mk (st := s_law_cell) llaw_cell claw_cell klaw_cell
  have b_law_cell := F_law_cell.binds (ps := ["script", "k"]) fun _ _ _ _ _ _ us hl => match us, hl with | [_, _], _ => rfl
  have F_law_row := fun_mk (st := s_law_row) llaw_row claw_row klaw_row
  have b_law_row := F_law_row.binds (ps := ["cell", "count", "bound"]) fun _ _ _ _ _ _ us hl => match us, hl with | [_, _, _], _ => rfl
  have F_law_some := fun_mk (st := s_law_some) llaw_some claw_some klaw_some
  have b_law_some := F_law_some.binds (ps := ["cell", "count", "height", "width"]) fun _ _ _ _ _ _ us hl => match us, hl with | [_, _, _, _], _ => rfl
  have F_law_image := fun_mk (st := s_law_image) llaw_image claw_image klaw_image
  have b_law_image := F_law_image.binds (ps := ["cells", "number"]) fun _ _ _ _ _ _ us hl => match us, hl with | [_, _], _ => rfl
  have F_law := fun_mk (st := s_law) llaw claw klaw
  have b_law := F_law.binds (ps := ["script"]) fun _ _ _ _ _ _ us hl => match us, hl with | [_], _ => rfl
  let T : Txt K mg := {
    f_pattern := f_pattern,
    d_pattern := _,
    F_pattern := F_pattern,
    b_pattern := b_pattern,
    g_pattern := PySem.W.mg_of X G apattern,
    f_moved := f_moved,
    d_moved := _,
    F_moved := F_moved,
    b_moved := b_moved,
    g_moved := PySem.W.mg_of X G amoved,
    f_turned := f_turned,
    d_turned := _,
    F_turned := F_turned,
    b_turned := b_turned,
    g_turned := PySem.W.mg_of X G aturned,
    f_mirrored := f_mirrored,
    d_mirrored := _,
    F_mirrored := F_mirrored,
    b_mirrored := b_mirrored,
    g_mirrored := PySem.W.mg_of X G amirrored,
    f_home := f_home,
    d_home := _,
    F_home := F_home,
    b_home := b_home,
    g_home := PySem.W.mg_of X G ahome,
    f_write_text := f_write_text,
    d_write_text := _,
    F_write_text := F_write_text,
    b_write_text := b_write_text,
    g_write_text := PySem.W.mg_of X G awrite_text,
    f_runs := f_runs,
    d_runs := _,
    F_runs := F_runs,
    b_runs := b_runs,
    g_runs := PySem.W.mg_of X G aruns,
    f_counted := f_counted,
    d_counted := _,
    F_counted := F_counted,
    b_counted := b_counted,
    g_counted := PySem.W.mg_of X G acounted,
    f_images := f_images,
    d_images := _,
    F_images := F_images,
    b_images := b_images,
    g_images := PySem.W.mg_of X G aimages,
    f_turns := f_turns,
    d_turns := _,
    F_turns := F_turns,
    b_turns := b_turns,
    g_turns := PySem.W.mg_of X G aturns,
    f_homes := f_homes,
    d_homes := _,
    F_homes := F_homes,
    b_homes := b_homes,
    g_homes := PySem.W.mg_of X G ahomes,
    f_least_form := f_least_form,
    d_least_form := _,
    F_least_form := F_least_form,
    b_least_form := b_least_form,
    g_least_form := PySem.W.mg_of X G aleast_form,
    f_islands := f_islands,
    d_islands := _,
    F_islands := F_islands,
    b_islands := b_islands,
    g_islands := PySem.W.mg_of X G aislands,
    f_census := f_census,
    d_census := _,
    F_census := F_census,
    b_census := b_census,
    g_census := PySem.W.mg_of X G acensus,
    f_law_cell := f_law_cell,
    d_law_cell := _,
    F_law_cell := F_law_cell,
    b_law_cell := b_law_cell,
    g_law_cell := PySem.W.mg_of X G alaw_cell,
    f_law_row := f_law_row,
    d_law_row := _,
    F_law_row := F_law_row,
    b_law_row := b_law_row,
    g_law_row := PySem.W.mg_of X G alaw_row,
    f_law_some := f_law_some,
    d_law_some := _,
    F_law_some := F_law_some,
    b_law_some := b_law_some,
    g_law_some := PySem.W.mg_of X G alaw_some,
    f_law_image := f_law_image,
    d_law_image := _,
    F_law_image := F_law_image,
    b_law_image := b_law_image,
    g_law_image := PySem.W.mg_of X G alaw_image,
    f_law := fa,
    d_law := _,
    F_law := F_law,
    b_law := b_law,
    g_law := PySem.W.mg_of X G alaw,
    z_sorted := PySem.W.mg_none_of X G zsorted,
    z_set := PySem.W.mg_none_of X G zset,
    z_min := PySem.W.mg_none_of X G zmin,
    z_str := PySem.W.mg_none_of X G zstr,
    z_len := PySem.W.mg_none_of X G zlen,
    z_int := PySem.W.mg_none_of X G zint,
    z_abs := PySem.W.mg_none_of X G zabs,
    z_range := PySem.W.mg_none_of X G zrange,
    z_list := PySem.W.mg_none_of X G zlist,
    z_isinstance := PySem.W.mg_none_of X G zisinstance,
    z_all := PySem.W.mg_none_of X G zall,
    z_sum := PySem.W.mg_none_of X G zsum,
    z_tuple := PySem.W.mg_none_of X G ztuple,
    c_MARK := ⟨_, PySem.W.mg_of X G xMARK, ⟨_, rfl⟩⟩,
    c_ALIVE := ⟨_, PySem.W.mg_of X G xALIVE, ⟨_, rfl⟩⟩,
    c_ROW_END := ⟨_, PySem.W.mg_of X G xROW_END, ⟨_, rfl⟩⟩,
    c_DEAD := ⟨_, PySem.W.mg_of X G xDEAD, ⟨_, rfl⟩⟩,
    c_TURNS := ⟨_, PySem.W.mg_of X G xTURNS, ⟨_, rfl⟩⟩,
    a_NEAR := aNEAR,
    t_NEAR := fun H => .inr ⟨_, _, _, lNEAR, rfl, rfl, (by show 5 ≤ sizeLine; decide), (.cons ⟨_, rfl⟩ (.cons ⟨_, rfl⟩ (.cons ⟨_, rfl⟩ (.cons ⟨_, rfl⟩ (.cons ⟨_, rfl⟩ .nil)))))⟩,
    c_NEAR := ⟨_, PySem.W.mg_of X G xNEAR, rfl⟩ }
  exact ⟨_, fun s v => .of_eq rfl, fun base _ _ => ok_law T⟩
end My
open PySem PySem.W PyProof.Rows
set_option maxHeartbeats 0 in
theorem PySem.Challenge.cw_longlife_k23_censuses_holds : PySem.Challenge.rw_longlife_k23_censuses.Holds := by
  w_on; o_law; k_head; (case hw => w_witness2)
  k_fill
  refine L2.walk_of (l := PySem.Challenge.rw_longlife_k23_censuses) (n := 63) (k := 12) (x := "script") (CX := fun _ => L2.CX0) (sp := fun w => My.sp_law _) rfl (by decide) rfl ⟨rfl, by decide, by decide⟩ (fun w h Y => PySem.W.kIn_of Y) ?F (fun _ _ a ns hl _ hS => ⟨a, ns, rfl, hS, hl, fun _ => rfl⟩) (fun _ _ _ _ _ h => h)
  case F =>
    intro w mg fa h KX G hmg
    refine' My.all_mk KX G hmg ?apattern ?lpattern ?cpattern ?kpattern ?amoved ?lmoved ?cmoved ?kmoved ?aturned ?lturned ?cturned ?kturned ?amirrored ?lmirrored ?cmirrored ?kmirrored ?ahome ?lhome ?chome ?khome ?awrite_text ?lwrite_text ?cwrite_text ?kwrite_text ?aruns ?lruns ?cruns ?kruns ?acounted ?lcounted ?ccounted ?kcounted ?aimages ?limages ?cimages ?kimages ?aturns ?lturns ?cturns ?kturns ?ahomes ?lhomes ?chomes ?khomes ?aleast_form ?lleast_form ?cleast_form ?kleast_form ?aislands ?lislands ?cislands ?kislands ?acensus ?lcensus ?ccensus ?kcensus ?alaw_cell ?llaw_cell ?claw_cell ?klaw_cell ?alaw_row ?llaw_row ?claw_row ?klaw_row ?alaw_some ?llaw_some ?claw_some ?klaw_some ?alaw_image ?llaw_image ?claw_image ?klaw_image ?alaw ?llaw ?claw ?klaw ?zsorted ?zset ?zmin ?zstr ?zlen ?zint ?zabs ?zrange ?zlist ?zisinstance ?zall ?zsum ?ztuple ?xMARK ?xALIVE ?xROW_END ?xDEAD ?xTURNS ?xNEAR ?lNEAR
    (case apattern => k_is)
    (case lpattern => k_is)
    (case cpattern => k_is)
    (case kpattern => k_is)
    (case amoved => k_is)
    (case lmoved => k_is)
    (case cmoved => k_is)
    (case kmoved => k_is)
    (case aturned => k_is)
    (case lturned => k_is)
    (case cturned => k_is)
    (case kturned => k_is)
    (case amirrored => k_is)
    (case lmirrored => k_is)
    (case cmirrored => k_is)
    (case kmirrored => k_is)
    (case ahome => k_is)
    (case lhome => k_is)
    (case chome => k_is)
    (case khome => k_is)
    (case awrite_text => k_is)
    (case lwrite_text => k_is)
    (case cwrite_text => k_is)
    (case kwrite_text => k_is)
    (case aruns => k_is)
    (case lruns => k_is)
    (case cruns => k_is)
    (case kruns => k_is)
    (case acounted => k_is)
    (case lcounted => k_is)
    (case ccounted => k_is)
    (case kcounted => k_is)
    (case aimages => k_is)
    (case limages => k_is)
    (case cimages => k_is)
    (case kimages => k_is)
    (case aturns => k_is)
    (case lturns => k_is)
    (case cturns => k_is)
    (case kturns => k_is)
    (case ahomes => k_is)
    (case lhomes => k_is)
    (case chomes => k_is)
    (case khomes => k_is)
    (case aleast_form => k_is)
    (case lleast_form => k_is)
    (case cleast_form => k_is)
    (case kleast_form => k_is)
    (case aislands => k_is)
    (case lislands => k_is)
    (case cislands => k_is)
    (case kislands => k_is)
    (case acensus => k_is)
    (case lcensus => k_is)
    (case ccensus => k_is)
    (case kcensus => k_is)
    (case alaw_cell => k_is)
    (case llaw_cell => k_is)
    (case claw_cell => k_is)
    (case klaw_cell => k_is)
    (case alaw_row => k_is)
    (case llaw_row => k_is)
    (case claw_row => k_is)
    (case klaw_row => k_is)
    (case alaw_some => k_is)
    (case llaw_some => k_is)
    (case claw_some => k_is)
    (case klaw_some => k_is)
    (case alaw_image => k_is)
    (case llaw_image => k_is)
    (case claw_image => k_is)
    (case klaw_image => k_is)
    (case alaw => k_is)
    (case llaw => k_is)
    (case claw => k_is)
    (case klaw => k_is)
    (case zsorted => k_is)
    (case zset => k_is)
    (case zmin => k_is)
    (case zstr => k_is)
    (case zlen => k_is)
    (case zint => k_is)
    (case zabs => k_is)
    (case zrange => k_is)
    (case zlist => k_is)
    (case zisinstance => k_is)
    (case zall => k_is)
    (case zsum => k_is)
    (case ztuple => k_is)
    (case xMARK => k_is)
    (case xALIVE => k_is)
    (case xROW_END => k_is)
    (case xDEAD => k_is)
    (case xTURNS => k_is)
    (case xNEAR => k_is)
    (case lNEAR => k_is)
