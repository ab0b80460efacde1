import PyProof.Rows.All
import Wide.All
import OpenK.AllK
import Wide.FinOn
import HandS.ForMost
import HandS.Strs
import HandS.SetFor
import HandS.OwnEq
import HandS.SlotsOwn
import HandS.IsInst
import HandS.Wide
import HandS.Style
import HandS.Steps
import HandS.Walk
import HandS.TupSets
import HandS.SortRule
import PyProof.Rows.AssignMoreSeq
import HandS.NoneIn
import HandS.Deep
import PyProof.Rows.RegStrFacts
import HandS.DictTup
import HandS.Conv
import HandS.WideBits
import KE.OsArith
import KE.DataMinMax
import KE.DataFind
import HandS.Exc
import HandS.TryOnly
import HandS.ExcOwn
import HandS.WordsExc
import HandS.FStr
import HandS.RaiseMore
import HandS.ExcIs
import PyProof.Rows.StrIntSpec
import KE.KxField
import PyProof.Rows.RegReprOcc
import HandS.DictComp
import KE.GoesEnum
import KE.GoesMore
import HandS.Comp
import HandS.TupLen
import HandS.SortKw
import HandS.Gcd
import KE.KMathGC
import KE.SortData
import HandS.ReplaceLit
import HandS.ReplaceList
import HandS.Flow
import PySem.Challenge.RW_longlife_k24_stills_and_failing_places
set_option Elab.async false
set_option linter.all false
set_option maxRecDepth 100000
set_option maxHeartbeats 4000000
namespace Vx
open PySem PySem.Spec PyProof.Rows L2
/-! ### heaps that grow -/
theorem newS {H : Hp} {p : Addr} {o : HO} (n : H p = none) : Same H (upd H p o) := fun b x e => by
  rw [upd_ne (ne_of_none e n)]
  exact e
theorem mutS {H H' : Hp} {p : Addr} {o : HO} (e : Same H H') (n : H p = none) : Same H (upd H' p o) := fun b x hb => by
  rw [upd_ne (ne_of_none hb n)]
  exact e b x hb
theorem getS {H H' : Hp} {a : Addr} {o : HO} (e : Same H H') (h : H a = some o) : H' a = some o := e a o h
theorem tupS {K : PySem.W.Frag} {H H' : Hp} {a : Addr} {xs : List V} (e : Same H H') (h : SqT K H a xs) : SqT K H' a xs := by
  rcases h with (h | ⟨o, h⟩) | h
  · exact .inl (.inl (e _ _ h))
  · exact .inl (.inr ⟨o, e _ _ h⟩)
  · exact .inr h
theorem lst_of {K : PySem.W.Frag} {H : Hp} {a : Addr} {xs : List V} (h : H a = some (.lst xs)) : SqL K H a xs := .inl (.inl h)
theorem tup_of {K : PySem.W.Frag} {H : Hp} {a : Addr} {xs : List V} (h : H a = some (.tup xs)) : SqT K H a xs := .inl (.inl h)
theorem neS {H H' : Hp} {a p : Addr} {o : HO} (h : H a = some o) (e : Same H H') (n : H' p = none) : a ≠ p := ne_of_none (e a o h) n
theorem backS {H H' : Hp} {p : Addr} (e : Same H H') (n : H' p = none) : H p = none := Same.free e n
theorem gen_e {H H1 : Hp} {p : Addr} {o : HO} (q : upd H p o = H1) (n : H p = none) : Same H H1 ∧ H1 p = some o := by
  subst q
  exact ⟨newS n, upd_same⟩
/-! ### calls of built-ins, one way each -/
section
variable {X : Cx}
theorem call_intI : CallR X (.type "int") (fun xs H Q => ∃ i, xs = [.int i] ∧ Q (.int i) H) := fun pins s σ H xs us Q I r h => call_int1 pins s σ H xs us Q I r (.inl h)
theorem call_tupL : CallR X (.type "tuple") (fun xs H Q => ∃ p ys, xs = [.ref p] ∧ SqL X.K H p ys ∧ ∀ l, H l = none → Q (.ref l) (upd H l (.tup ys))) := fun pins s σ H xs us Q I r h => by
  obtain ⟨p, ys, e, hs, q⟩ := h
  exact call_tuple_of pins s σ H xs us Q I r ⟨p, ys, e, .inl ⟨hs, q⟩⟩
theorem call_lenL : CallR X (.builtin "len") (fun xs H Q => ∃ p ys, xs = [.ref p] ∧ SqL X.K H p ys ∧ Q (.int ys.length) H) := fun pins s σ H xs us Q I r h => by
  obtain ⟨p, ys, e, hs, q⟩ := h
  exact call_len_seq pins s σ H xs us Q I r ⟨p, ys, e, .inl hs, q⟩
theorem call_lenU : CallR X (.builtin "len") (fun xs H Q => ∃ p ys, xs = [.ref p] ∧ SqT X.K H p ys ∧ Q (.int ys.length) H) := fun pins s σ H xs us Q I r h => by
  obtain ⟨p, ys, e, hs, q⟩ := h
  exact call_len_seq pins s σ H xs us Q I r ⟨p, ys, e, .inr hs, q⟩
theorem call_listL : CallR X (.type "list") (fun xs H Q => ∃ p ys, xs = [.ref p] ∧ SqL X.K H p ys ∧ ∀ l, H l = none → Q (.ref l) (upd H l (.lst ys))) := fun pins s σ H xs us Q I r h => by
  obtain ⟨p, ys, e, hs, q⟩ := h
  exact call_list_of pins s σ H xs us Q I r ⟨p, ys, e, .inl hs, q⟩
/-- a class of the text is no built-in type -/
theorem op_isCT : OpR X (compareOp .Is) (fun x y H Q => ∃ a n, x = V.ref a ∧ y = V.ty n ∧ Q (.bl false) H) := by
  intro pins s σ H x y v u Q I rx ry h
  obtain ⟨a, n, rfl, rfl, q⟩ := h
  cases (show v = Value.ref a from rx)
  cases (show u = Value.type n from ry)
  exact wpAny_is_other rfl (fun z => by cases z) ⟨.bl false, H, I, rfl, q⟩
theorem looks_ty {M : Model} {s : Shared} {u : Value} {T : String} (h : s.TypeIs u T) : PySem.W.Looks M s.heap (typeOf u) (.type T) := by
  unfold Shared.TypeIs at h
  split at h
  · obtain ⟨o, ho, hc⟩ := h
    exact fun A Q E s' k q => wpAny_typeOf_ref (k _ _ ho) (by rw [hc]; exact q)
  · exact PySem.W.Looks.of_pure h
/-- x == y by the text's own __eq__; y an instance of that class, or of a built-in type -/
def rEqOwn (K : PySem.W.Frag) (C : Addr) (sp : Sp) (E : XK) : R2 := fun x y H Q => ∃ a dx fs, x = .ref a ∧ H a = some (.ins C dx fs) ∧
  ((∃ b dy gs, y = .ref b ∧ H b = some (.ins C dy gs)) ∨ ∃ T, TyB K H y T ∧ PySem.W.notFirst K C (.type T) = true) ∧ sp [x, y] H Q E
theorem op_eqOwn {CX : CXT} {C g : Addr} {n : Nat} {sp : Sp} {E : XK} (hs : PySem.W.findIn X.K (.ref C) "__eq__" = some (some (.ref g))) (hf : PySem.W.isFn X.K (.ref g) = true)
    (F : FnR X.prog X.w X.K X.mg X.base CX n g sp) (hr : Room n X.A) (hx : Passes CX X E) : OpR X (compareOp .Eq) (rEqOwn X.K C sp E) := by
  intro pins s σ H x y v u Q I rx ry h
  obtain ⟨a, dx, fs, rfl, ha, hy, q⟩ := h
  cases (show v = Value.ref a from rx)
  obtain ⟨mA, O, _⟩ := ins_get I.hok ha
  obtain ⟨od, J, _⟩ := O.look
  obtain ⟨m, hF⟩ := I.fr
  show wpAny (model X.prog X.w) X.A (richCompare .Eq (.ref a) u) (EP X pins σ Q) X.xe s
  have fin : wpAny (model X.prog X.w) X.A (call (.ref g) [.ref a, u]) (PySem.W.CmpBack (EP X pins σ Q)) X.xe s := by
    refine wpAny_mono (wpAny_call (run_fnR (us := [.ref a, u]) (vs := [.ref a, y]) F hr hx I (.cons rfl (.cons ry .nil)) q)) (fun w s' z => ?_) fun _ _ x => x
    obtain ⟨z', H', I', rz, qz⟩ := z
    exact SlX.cmpback rz ⟨z', H', I', rz, qz⟩
  rcases hy with ⟨b, dy, gs, rfl, hb⟩ | ⟨T, ty, nf⟩
  · cases (show u = Value.ref b from ry)
    obtain ⟨mB, O2, _⟩ := ins_get I.hok hb
    obtain ⟨od2, J2, _⟩ := O2.look
    exact PySem.W.cmp_K (op := .Eq) (tb := .ref C) hr.units0 hF I.ok.mod.kin J J2.type (by simp [PySem.W.notFirst]) hs hf fin
  · exact PySem.W.cmp_K (op := .Eq) (tb := .type T) hr.units0 hF I.ok.mod.kin J (looks_ty (ty.is I ry)) nf hs hf fin
theorem nf_str {K : PySem.W.Frag} {C : Addr} : PySem.W.notFirst K C (.type "str") = true := by rfl
theorem nf_tup {K : PySem.W.Frag} {C : Addr} : PySem.W.notFirst K C (.type "tuple") = true := by rfl
end
end Vx
namespace Vx
open PySem PySem.Spec PyProof.Rows L2
/-! ### set(xs) of a list of ints -/
abbrev bareSet (w : World) : Obj := { cls := .type "set", dict := none, data := .set #[] 0 (.fresh 0 0 (!w.params.followText "set-order")) }
section
variable {P : Program} {w : World} {A : Around} {E : Value → Shared → Prop} {s : Shared}
theorem set_of_list {l : Addr} {its : Array Value} (ns : List Int) {Q : Value → Shared → Prop} (calm : A.handled = none) (hl : s.heap.IsList l its) (hi : IntsAre its.toList ns) (room : ns.length + 1 < scanBound)
    (k : ∀ (g : Heap) (t c : Nat), SetR w g s.heap.objs.size (fun j => decide (j ∈ ns)) c → c ≤ ns.length → (∀ b o, s.heap.get? b = some o → g.get? b = some o) → Q (.ref s.heap.objs.size) { s with heap := g, toks := t }) :
    wpAny (model P w) A (call (.type "set") [.ref l]) Q E s := by
  have len : its.size = ns.length := by
    have z := IntsAre.length hi
    rwa [Array.length_toList] at z
  obtain ⟨c0, tl, hmro⟩ := F.called_set.mro
  have hmade := F.called_set.made
  have hsub := F.called_set.sub
  refine wpAny_call (codeAny_of_tree ?_)
  show wpAny _ _ (callAny (.type "set") _) _ _ _
  refine wpAny_pure ⟨Code.quiet_builtin _ (by decide +kernel), codeAny_builtin F.entry_type_call ?_⟩
  rw [Around.under_plain (weight_type_call_type "set" [.ref l] []) rfl]
  have n1 := F.called_set.notType
  have n2 := F.called_set.canCreate
  have n3 := F.typeCall_set_1 (.ref l)
  repeat (any_goals (first | assumption | wp_step))
  refine codeAny_mono (code_set_led1 (.ref l) (E := E) (Q₁ := fun ob s1 => ob = .ref s.heap.objs.size ∧ s1 = { s with heap := s.heap.push (bareSet w) }) ⟨rfl, rfl⟩) fun r s1 hr => ?_
  rcases r with e | fl
  · exact hr
  cases fl with
  | ret ob =>
    obtain ⟨rfl, rfl⟩ := hr
    have at0 : (s.heap.push (bareSet w)).get? s.heap.objs.size = some (bareSet w) := Heap.get?_push_size _ rfl
    have ty0 : Shared.TypeIs { s with heap := s.heap.push (bareSet w) } (.ref s.heap.objs.size) "set" := ⟨_, at0, rfl⟩
    have i1 := F.called_set.init.lookup
    have i2 := F.called_set.init.bind (.ref s.heap.objs.size)
    repeat (any_goals (first | assumption | wp_step))
    refine codeAny_mono (codeAny_call_builtin (R := wants (fun v s2 => v = .none ∧ ∃ g t c, s2 = { s with heap := g, toks := t } ∧ SetR w g s.heap.objs.size (fun j => decide (j ∈ ns)) c ∧ c ≤ ns.length ∧
        (∀ b o, s.heap.get? b = some o → g.get? b = some o)) E) F.called_set.init.plain F.entry_set_init (check_set_init_1 ty0 ?_)) fun r2 s2 hr2 => ?_
    · obtain ⟨⟨oc, od, ob, osl⟩, hol, hcl, nl, hdl⟩ := hl
      simp only at hcl hdl
      subst hcl hdl
      have at1 : (s.heap.push (bareSet w)).get? l = some { cls := .type "list", dict := od, data := .seq its nl, slots := osl } := Heap.get?_push_of_some _ hol
      have q1 := F.sub_list_set
      have q2 := F.sub_list_frozenset
      have q3 : (Value.type "list" == Value.type "dict") = false := by decide
      have isl : (s.heap.push (bareSet w)).IsList l its := ⟨_, at1, rfl, nl, rfl⟩
      unfold Builtin.«set.__init__» noKeywords Builtin.Frozenset.updateFrom
      generalize hPI : pyIter = PI
      wp_walk
      subst hPI
      refine wpAny_pyIter_list isl ?_
      refine wpAny_bind (wpAny_runValue ?_)
      have lS : l < s.heap.objs.size := Heap.lt_size hol
      have calm3 : A.in1.in1.in1.handled = none := by simp [calm]
      have neI : l ≠ (s.heap.push (bareSet w)).objs.size := by
        rw [Heap.size_push]
        exact Nat.ne_of_lt (Nat.lt_succ_of_lt lS)
      have noS : s.heap.objs.size ∉ [(s.heap.push (bareSet w)).objs.size, l] := by
        rw [Heap.size_push]
        simp only [List.mem_cons, List.mem_singleton, List.not_mem_nil, or_false, not_or]
        exact ⟨Nat.ne_of_lt (Nat.lt_succ_self _), Nat.ne_of_gt lS⟩
      have item : ∀ (i : Nat) (v : Value), its[i]? = some v → ∃ m t, ns[i]? = some m ∧ v = .int m t := fun i v hv => by
        have li : i < ns.length := by rw [← len]; exact (Array.getElem?_eq_some_iff.mp hv).1
        obtain ⟨t, e⟩ := PyProof.Rows.IntsAre.int_at hi i v (by rw [Array.getElem?_toList]; exact hv)
        refine ⟨ns[i], t, List.getElem?_eq_getElem li, ?_⟩
        rw [e, List.getD_eq_getElem?_getD, List.getElem?_eq_getElem li]
        rfl
      refine set_update_ints ((Walks.list calm3 _ l neI its).toS) s.heap.objs.size noS ns len room item (its.size - 0) 0 _ (by omega) (Nat.zero_le _) ⟨⟨_, Heap.get?_push_size _ rfl, rfl, rfl⟩, (isl.push _)⟩ ?s0 ?fin
      case s0 => exact ⟨0, Nat.le_refl 0, setR_new_at (Heap.get?_push_of_some _ at0)⟩
      case fin =>
        intro s3 c3 mv hc3 hS3
        obtain ⟨g3, ge, dr, t3, os3⟩ := s3
        cases (show ge = s.gens from mv.gens)
        cases (show dr = s.drawn from mv.drawn)
        cases (show os3 = s.os from mv.os)
        show wpAny _ _ _ _ _ _
        refine wpAny_pure ?_
        show wpAny _ _ (ret Value.none) _ _ _
        rw [len] at hc3
        refine wpAny_pure ⟨rfl, g3, t3, c3, rfl, hS3, hc3, fun b o e => ?_⟩
        have b0 : b < s.heap.objs.size := Heap.lt_size e
        have b2 : b ≠ (s.heap.push (bareSet w)).objs.size := by
          rw [Heap.size_push]
          exact Nat.ne_of_lt (Nat.lt_succ_of_lt b0)
        exact mv.heap b o (by simp only [List.mem_cons, List.mem_singleton, List.not_mem_nil, or_false, not_or]; exact ⟨Nat.ne_of_lt b0, b2⟩) (Heap.get?_push_of_some _ (Heap.get?_push_of_some _ e))
    · rcases r2 with e | fl2
      · exact hr2
      cases fl2 with
      | ret v =>
        obtain ⟨rfl, g, t, c, rfl, hS, hc, hk⟩ := hr2
        repeat (any_goals (first | assumption | wp_step))
        exact k _ _ _ hS hc hk
      | _ => exact hr2.elim
  | _ => exact hr.elim
end
section
variable {X : Cx}
theorem cr_setL (hc : X.calm = true) : CallR X (.type "set") (fun vs H Q => ∃ (l : Addr) (ns : List Int), vs = [V.ref l] ∧ SqL X.K H l (ns.map V.int) ∧ ns.length + 1 < scanBound ∧
    ∀ p c, H p = none → c ≤ ns.length → Q (.ref p) (upd H p (SetO X.w p (fun j => decide (j ∈ ns)) c))) := by
  intro pins s σ H xs us Q I r h
  obtain ⟨l, ns, rfl, hl, room, q⟩ := h
  rw [Vals.ref1 r]
  obtain ⟨its, rv, pl, hz⟩ := I.list hl
  refine set_of_list ns (I.ok.hd hc) pl.isList (by simpa using ints_of_vals rv) room fun g t c R hc' k => ?_
  have hn : H s.heap.objs.size = none := I.hok.fresh (Nat.le_refl _)
  exact ⟨.ref _, _, I.laid (a := s.heap.objs.size) (t' := t) k (Nat.le_refl _) (setO_new R), rfl, q _ c hn hc'⟩
end
end Vx
namespace Vx
open PySem PySem.Spec PyProof.Rows L2
/-! ### ascending lists -/
theorem asc_eq : ∀ {l m : List Int}, l.Pairwise (· < ·) → m.Pairwise (· < ·) → (∀ k, k ∈ l ↔ k ∈ m) → l = m
  | [], [], _, _, _ => rfl
  | [], y :: m, _, _, h => absurd ((h y).mpr List.mem_cons_self) (by simp)
  | x :: l, [], _, _, h => absurd ((h x).mp List.mem_cons_self) (by simp)
  | x :: l, y :: m, hl, hm, h => by
    obtain ⟨h1, h2⟩ := List.pairwise_cons.mp hl
    obtain ⟨h3, h4⟩ := List.pairwise_cons.mp hm
    have e : x = y := by
      rcases List.mem_cons.mp ((h x).mp List.mem_cons_self) with e | e
      · exact e
      · rcases List.mem_cons.mp ((h y).mpr List.mem_cons_self) with e2 | e2
        · exact e2.symm
        · have a := h3 _ e
          have b := h1 _ e2
          omega
    subst e
    rw [asc_eq h2 h4 fun k => ?_]
    have q := h k
    constructor
    · intro hk
      rcases List.mem_cons.mp (q.mp (List.mem_cons_of_mem _ hk)) with e | e
      · exact absurd (h1 _ hk) (by omega)
      · exact e
    · intro hk
      rcases List.mem_cons.mp (q.mpr (List.mem_cons_of_mem _ hk)) with e | e
      · exact absurd (h3 _ hk) (by omega)
      · exact e
/-! ### data -/
theorem eqvAll_ints : ∀ (l m : List Int), PyData.eqvAll (l.map PyData.int) (m.map PyData.int) = decide (l = m)
  | [], [] => by simp [PyData.eqvAll]
  | [], y :: m => by simp [PyData.eqvAll]
  | x :: l, [] => by simp [PyData.eqvAll]
  | x :: l, y :: m => by
    show (PyData.eqv (.int x) (.int y) && PyData.eqvAll (l.map PyData.int) (m.map PyData.int)) = _
    rw [eqvAll_ints l m]
    show ((x == y) && decide (l = m)) = _
    by_cases e : x = y <;> by_cases e2 : l = m <;> simp [e, e2]
theorem eqv_tupI (l m : List Int) : PyData.eqv (.tuple (l.map PyData.int)) (.tuple (m.map PyData.int)) = decide (l = m) := eqvAll_ints l m
theorem eqv_lstI (l m : List Int) : PyData.eqv (.list (l.map PyData.int)) (.list (m.map PyData.int)) = decide (l = m) := eqvAll_ints l m
theorem dpAll_ints {K : PySem.W.Frag} {H : Hp} : ∀ l : List Int, DpAll K H (l.map V.int) (l.map PyData.int)
  | [] => .nil
  | x :: l => .cons (.int x) (dpAll_ints l)
theorem dp_tupI {K : PySem.W.Frag} {H : Hp} {a : Addr} {l : List Int} (h : SqT K H a (l.map V.int)) : Dp K H (.ref a) (.tuple (l.map PyData.int)) := .tup h (dpAll_ints l)
theorem dp_lstI {K : PySem.W.Frag} {H : Hp} {a : Addr} {l : List Int} (h : SqL K H a (l.map V.int)) : Dp K H (.ref a) (.list (l.map PyData.int)) := .lst h (dpAll_ints l)
theorem inV_ints (x : Int) : ∀ l : List Int, inV (.int x) (l.map V.int) = decide (x ∈ l)
  | [] => by simp [inV]
  | y :: l => by
    have ih := inV_ints x l
    unfold inV at ih ⊢
    rw [List.map_cons, List.any_cons, ih]
    show ((y == x) || decide (x ∈ l)) = _
    by_cases e : y = x
    · simp [e]
    · have e' : ¬ x = y := fun z => e z.symm
      simp [e, e']
theorem flat_ints (l : List Int) : (l.map V.int).all flatV = true := by
  rw [List.all_map]
  exact List.all_eq_true.mpr fun _ _ => rfl
end Vx
namespace Vx
open PySem PySem.Spec PyProof.Rows L2
theorem canAll_ints : ∀ l : List Int, PyData.canLayAll0 (l.map PyData.int) = true
  | [] => by simp [PyData.canLayAll0]
  | x :: l => by
    rw [List.map_cons]
    simp [PyData.canLayAll0, PyData.canLay0, canAll_ints l]
theorem depAll_ints : ∀ l : List Int, PyData.depthAll (l.map PyData.int) = 0
  | [] => by simp [PyData.depthAll]
  | x :: l => by
    rw [List.map_cons]
    simp [PyData.depthAll, PyData.depth, depAll_ints l]
theorem shaped_tupI (l : List Int) : SeqAt.shaped (.tuple (l.map PyData.int)) = true := by
  unfold SeqAt.shaped
  simp [PyData.canLay0, PyData.depth, canAll_ints, depAll_ints]
theorem shaped_lstI (l : List Int) : SeqAt.shaped (.list (l.map PyData.int)) = true := by
  unfold SeqAt.shaped
  simp [PyData.canLay0, PyData.depth, canAll_ints, depAll_ints]
theorem tyesT {σ : L2.St} {H : Hp} {A B : Hp → Prop} (h : A H) : tYes σ H (fun b H3 => if b = true then A H3 else B H3) := h
theorem item_ints {xs : List Int} {i : Nat} {x : V} (h : (xs.map V.int)[i]? = some x) : ∃ z, x = .int z ∧ xs[i]? = some z ∧ z ∈ xs := by
  rw [List.getElem?_map] at h
  cases e : xs[i]? with
  | none => rw [e] at h; cases h
  | some z =>
    rw [e] at h
    exact ⟨z, (Option.some.inj h).symm, rfl, List.mem_of_getElem? e⟩
theorem at_ints {xs : List Int} {k : Int} (h0 : 0 ≤ k) (h1 : k < (xs.length : Int)) : ∃ z, z ∈ xs ∧ atI (xs.map V.int) k = some (.int z) := by
  have hj : k.toNat < xs.length := by omega
  refine ⟨xs[k.toNat], List.getElem_mem hj, ?_⟩
  refine at_of (j := k.toNat) (by omega) ?_
  rw [List.getElem?_map, List.getElem?_eq_getElem hj]
  rfl
theorem mem_ins {ys : List Int} {j : Nat} {y k : Int} (hy : y ∈ ys) : k ∈ ys.take j ++ [y] ++ ys.drop j ↔ k ∈ ys := by
  have e : k ∈ ys ↔ k ∈ ys.take j ∨ k ∈ ys.drop j := by rw [← List.mem_append, List.take_append_drop]
  rw [List.mem_append, List.mem_append, List.mem_singleton, e]
  constructor
  · rintro ((h | h) | h)
    · exact .inl h
    · subst h
      exact e.mp hy
    · exact .inr h
  · rintro (h | h)
    · exact .inl (.inl h)
    · exact .inr h
theorem madeS {C : Addr} {H : Hp} {x dx : Addr} (nx : H x = none) (nd : H dx = none) : Same H (upd (upd H dx (.own x)) x (.ins C dx [])) := fun b o e => by
  rw [upd_ne (ne_of_none e nx), upd_ne (ne_of_none e nd)]
  exact e
theorem pe_gcx {X : Cx} {x : Str} {pos : Pos} {v : V} (hg : Gl X x) (h : ∃ u, X.mg x = some u ∧ RelV v u) (hd : (x == ("__debug__" : Str)) = false := by decide +kernel) : PE X (.Name x pos) (tC v) := by
  obtain ⟨u, h, r⟩ := h
  exact pe_glob hg h r hd
theorem call_intB {X : Cx} : CallR X (.type "int") (fun xs H Q => ∃ k, xs = [.bl k] ∧ Q (.int (if k = true then 1 else 0)) H) := fun pins s σ H xs us Q I r h => call_int1 pins s σ H xs us Q I r (.inr h)
theorem cut_lo_len (z : Str) {k : Int} (h : 0 ≤ k) : (cutS z none (some k)).length ≤ k.toNat := by
  show (List.toArray _).size ≤ _
  rw [List.size_toArray, List.length_take]
  show min (HT.sIx z.length z.length (some k) - 0) _ ≤ _
  have e : HT.sIx z.length z.length (some k) = min k.toNat z.length := by
    show (if k < 0 then (k + (z.length : Int)).toNat else min k.toNat z.length) = _
    rw [if_neg (by omega)]
  omega
theorem cut_hi_len (z : Str) {k : Int} (h : 0 ≤ k) : (cutS z (some k) none).length ≤ z.length - k.toNat := by
  show (List.toArray _).size ≤ _
  have e : HT.sIx z.length 0 (some k) = min k.toNat z.length := by
    show (if k < 0 then (k + (z.length : Int)).toNat else min k.toNat z.length) = _
    rw [if_neg (by omega)]
  rw [List.size_toArray, List.length_take, List.length_drop, e]
  show min (z.length - min k.toNat z.length) (z.cps.toList.length - min k.toNat z.length) ≤ _
  have : z.cps.toList.length = z.length := Array.length_toList
  omega
end Vx
namespace Vx
open PySem PySem.Spec PyProof.Rows L2
/-! ### pairs and lists of them -/
abbrev Pr := Int × Int
def pr (l : List Int) : Pr := (l.getD 0 0, l.getD 1 0)
def Cells (H : Hp) (l : Addr) (ps : List Pr) : Prop :=
  ∃ ts : List (Addr × Pr), H l = some (.lst (ts.map fun t => V.ref t.1)) ∧ (∀ t ∈ ts, H t.1 = some (.tup [.int t.2.1, .int t.2.2])) ∧ ts.map (·.2) = ps
theorem Cells.up {H H' : Hp} {l : Addr} {ps : List Pr} (e : Same H H') (h : Cells H l ps) : Cells H' l ps := by
  obtain ⟨ts, h1, h2, h3⟩ := h
  exact ⟨ts, e _ _ h1, fun t m => e _ _ (h2 t m), h3⟩
def SetP (P : Program) (w : World) (H : Hp) (a : Addr) (ps : List Pr) : Prop :=
  ∃ L : List (Addr × List Int), H a = some (SetTO P w a L) ∧ (∀ q ∈ L, q.2.length = 2 ∧ H q.1 = some (.tup (q.2.map V.int))) ∧ ∀ x, x ∈ L.map (fun q => pr q.2) ↔ x ∈ ps
abbrev ltP (p q : Pr) : Prop := SrtO.lexB p q = true
theorem pr_inj : ∀ {l m : List Int}, l.length = 2 → m.length = 2 → pr l = pr m → l = m
  | [a, b], [c, d], _, _, h => by
    have h1 : a = c := congrArg Prod.fst h
    have h2 : b = d := congrArg Prod.snd h
    rw [h1, h2]
theorem len2 : ∀ {l : List Int}, l.length = 2 → l = [(pr l).1, (pr l).2]
  | [a, b], _ => rfl
section
variable {P : Program} {w : World} {A : Around} {E : Value → Shared → Prop} {s : Shared}
def adr : Value → Addr
  | .ref a => a
  | _ => 0
/-- the set's members, sorted -/
theorem sorted_pairs {a : Addr} {L : List (Addr × List Int)} {es : Array (Int × Value)} {ep : Nat} {t : SetTable} {Q : Value → Shared → Prop} (R : SetTR P w s.heap a L es ep t) (hh : A.handled = none) (h2 : ∀ q ∈ L, q.2.length = 2)
    (hQ : ∀ s' p (ts : List (Addr × Pr)) (c : Nat), (∀ b o, s.heap.get? b = some o → s'.heap.get? b = some o) → s'.gens = s.gens → s'.os = s.os → s.heap.objs.size ≤ p →
      s'.heap.get? p = some (seqObj "list" (ts.map fun q => Value.ref q.1).toArray c) → (∀ q ∈ ts, ∃ r ∈ L, r.1 = q.1 ∧ pr r.2 = q.2) → (∀ x, x ∈ ts.map (·.2) ↔ x ∈ L.map fun q => pr q.2) → (ts.map (·.2)).Pairwise ltP → ts.length = L.length → Q (.ref p) s') :
    wpAny (model P w) A (call (.builtin "sorted") [.ref a]) Q E s := by
  have few := R.few
  obtain ⟨o, go, xo, dat⟩ := R.ob
  refine Calls.call_function_entry kind_sorted plain_sorted entry_sorted (args_sorted1 _) ?_
  unfold Builtin.«sorted»
  refine wpAny_bind (m := checkCount "sorted" 1 1 _) (wpAny_pure ?_)
  refine wpAny_bind (collect_set (A := A.in1) hh ⟨o, go, xo.1, dat⟩ R.fits (by rw [R.size]; unfold scanBound; omega) R.tab.ris R.led fun s1 vs keep sz gg oo pm => ?_)
  have em : es.toList.map (·.2) = L.map fun q => Value.ref q.1 := by
    rw [R.rows]
    show (L.map fun q => (thash P w q.2, Value.ref q.1)).map (·.2) = _
    rw [List.map_map] <;> rfl
  rw [em] at pm
  have vl : vs.length = L.length := by rw [pm.length_eq, List.length_map]
  have lim : vs.length ≤ sizeLine := by
    rw [sizeLine_eq]
    omega
  refine wpAny_bind (wpAny_newList ?_ lim)
  have gl : (s1.heap.push (seqObj "list" vs.toArray 0)).get? s1.heap.objs.size = some (seqObj "list" vs.toArray 0) := Heap.get?_push_size _ rfl
  generalize hh1 : s1.heap.push (seqObj "list" vs.toArray 0) = h1 at gl
  have keep1 : ∀ b u, s1.heap.get? b = some u → h1.get? b = some u := fun b u e => by
    rw [← hh1]
    exact Heap.get?_push_of_some _ e
  have tin : ∀ q ∈ L, TS.TupInts h1 (.ref q.1) q.2 := fun q m => tupInts_of (P := P) (w := w) (isT_keep (R.tup q m) fun b u e => keep1 b u (keep b u e))
  have mem : ∀ v ∈ vs, ∃ q ∈ L, v = Value.ref q.1 := fun v m => by
    obtain ⟨q, m1, e⟩ := List.mem_map.mp (pm.mem_iff.mp m)
    exact ⟨q, m1, e.symm⟩
  have key : ∀ q ∈ L, pr (TS.intsOf h1 (.ref q.1)) = pr q.2 := fun q m => by rw [(tin q m).ints]
  have isP : ∀ v ∈ vs, Srt.IsPair h1 v (pr (TS.intsOf h1 v)).1 (pr (TS.intsOf h1 v)).2 := fun v m => by
    obtain ⟨q, m1, rfl⟩ := mem v m
    rw [key q m1]
    have i := tin q m1
    have l2 := len2 (h2 q m1)
    rw [l2] at i
    obtain ⟨b, items, eb, ⟨o1, go1, co1, n1, do1⟩, ia⟩ := i
    cases eb
    obtain ⟨xs⟩ := items
    cases ia with
    | cons _ t1 ia =>
      cases ia with
      | cons _ t2 ia =>
        cases ia
        exact ⟨_, o1, t1, t2, n1, rfl, go1, co1, do1⟩
  refine wpAny_bind (wpAny_holding (wpAny_call_entry (s := { s1 with heap := h1 }) slot_list_sort ⟨_, gl, rfl⟩ entry_list_sort (SrtO.list_sort_ord (s := { s1 with heap := h1 }) (SrtO.swo_lex fun v => pr (TS.intsOf h1 v)) gl lim (fun two => SrtO.pairs_sortableO (by omega) isP fun o1 e => ?_) fun out srt stb => ⟨_, rfl, ?_⟩) (args_list_sort _)))
  · have e' : some o1 = some (seqObj "list" vs.toArray 0) := e.symm.trans gl
    cases e'
    intro c
    exact absurd (Value.type.inj c) (by decide)
  · obtain ⟨c, gc⟩ := sortedHeap_at (vs := vs) (out := out.toArray) gl
    have omem : ∀ v ∈ out, ∃ q ∈ L, v = Value.ref q.1 := fun v m => mem v (stb.perm.mem_iff.mp m)
    refine wpAny_pure ⟨_, rfl, hQ _ s1.heap.objs.size (out.map fun v => (adr v, pr (TS.intsOf h1 v))) c (fun b u e => ?_) gg oo sz ?_ ?_ ?_ ?_ ?_⟩
    · have g1 := keep b u e
      have lt1 := Heap.lt_size g1
      show (sortedHeap h1 s1.heap.objs.size vs out.toArray).get? b = some u
      rw [sortedHeap_old (Nat.ne_of_lt lt1) (Heap.lt_size (keep1 b u g1))]
      exact keep1 b u g1
    · have eo : (out.map fun v => (adr v, pr (TS.intsOf h1 v))).map (fun q => Value.ref q.1) = out := by
        rw [List.map_map]
        refine (List.map_congr_left fun v m => ?_).trans (List.map_id _)
        obtain ⟨q, _, rfl⟩ := omem v m
        rfl
      rw [eo]
      exact gc
    · intro q m
      obtain ⟨v, m1, rfl⟩ := List.mem_map.mp m
      obtain ⟨r, mr, rfl⟩ := omem v m1
      exact ⟨r, mr, rfl, (key r mr).symm⟩
    · intro x
      rw [List.map_map]
      constructor
      · intro m
        obtain ⟨v, m1, rfl⟩ := List.mem_map.mp m
        obtain ⟨r, mr, rfl⟩ := omem v m1
        exact List.mem_map.mpr ⟨r, mr, (key r mr).symm⟩
      · intro m
        obtain ⟨r, mr, rfl⟩ := List.mem_map.mp m
        exact List.mem_map.mpr ⟨.ref r.1, stb.perm.mem_iff.mpr (pm.mem_iff.mpr (List.mem_map.mpr ⟨r, mr, rfl⟩)), key r mr⟩
    · rw [List.map_map]
      have nd : ((L.map fun q => Value.ref q.1).map fun v => pr (TS.intsOf h1 v)).Nodup := by
        rw [List.map_map]
        refine List.pairwise_map.mpr ((List.pairwise_map.mp R.nd).imp_of_mem fun {q r} mq mr ne e => ne ?_)
        refine pr_inj (h2 q mq) (h2 r mr) ?_
        rw [← key q mq, ← key r mr]
        exact e
      have nd2 : (out.map fun v => pr (TS.intsOf h1 v)).Nodup := ((stb.perm.trans pm).map _).nodup_iff.mpr nd
      refine List.pairwise_map.mpr ((srt.and (List.pairwise_map.mp nd2)).imp fun {u v} h => ?_)
      have a1 := SrtO.lexB_no.mp h.1
      refine SrtO.lexB_iff.mpr ?_
      have a2 : ¬ ((pr (TS.intsOf h1 u)).1 = (pr (TS.intsOf h1 v)).1 ∧ (pr (TS.intsOf h1 u)).2 = (pr (TS.intsOf h1 v)).2) := fun e => h.2 (Prod.ext e.1 e.2)
      show (pr (TS.intsOf h1 u)).1 < (pr (TS.intsOf h1 v)).1 ∨ (pr (TS.intsOf h1 u)).1 = (pr (TS.intsOf h1 v)).1 ∧ (pr (TS.intsOf h1 u)).2 < (pr (TS.intsOf h1 v)).2
      omega
    · rw [List.length_map, stb.perm.length_eq, vl]
end
section
variable {X : Cx}
theorem cr_setP (hc : X.calm = true) (hu : X.A.units + 64 < cLine) : CallR X (.type "set") (fun xs H Q => ∃ l ps, xs = [V.ref l] ∧ Cells H l ps ∧ ps.length < 64 ∧
    ∀ a H', Same H H' → H a = none → SetP X.prog X.w H' a ps → Q (.ref a) H') := by
  intro pins s σ H xs us Q I r h
  obtain ⟨l, ps, rfl, ⟨ts, hl, ht, rfl⟩, few, q⟩ := h
  rw [List.length_map] at few
  refine cr_setOfT hc hu pins s σ H [V.ref l] us Q I r ⟨l, ts.map fun t => (t.1, [t.2.1, t.2.2]), rfl, ?_, ?_, by rw [List.length_map]; exact few, fun a L n sub all => ?_⟩
  · rw [List.map_map]
    exact lst_of hl
  · intro p m
    obtain ⟨t, m1, rfl⟩ := List.mem_map.mp m
    exact tup_of (ht t m1)
  · refine q a _ (newS n) n ⟨L, upd_same, fun p m => ?_, fun x => ⟨fun m => ?_, fun m => ?_⟩⟩
    · obtain ⟨t, m1, rfl⟩ := List.mem_map.mp (sub p m)
      exact ⟨rfl, newS n _ _ (ht t m1)⟩
    · obtain ⟨p, m1, rfl⟩ := List.mem_map.mp m
      obtain ⟨t, m2, rfl⟩ := List.mem_map.mp (sub p m1)
      exact List.mem_map.mpr ⟨t, m2, rfl⟩
    · obtain ⟨t, m1, rfl⟩ := List.mem_map.mp m
      obtain ⟨p, m2, e⟩ := List.mem_map.mp (all _ (List.mem_map.mpr ⟨t, m1, rfl⟩))
      refine List.mem_map.mpr ⟨p, m2, ?_⟩
      rw [e]
      rfl
theorem cr_sortedP (hc : X.calm = true) : CallR X (.builtin "sorted") (fun xs H Q => ∃ a ps, xs = [V.ref a] ∧ SetP X.prog X.w H a ps ∧
    ∀ p H' qs, Same H H' → H p = none → Cells H' p qs → qs.Pairwise ltP → (∀ x, x ∈ qs ↔ x ∈ ps) → qs.length < 64 → Q (.ref p) H') := by
  intro pins s σ H vs us Q I r h
  obtain ⟨a, ps, rfl, ⟨L, ha, hL, mem⟩, q⟩ := h
  have R0 : SetT0 X.prog X.w s.heap a L := (I.hok a _ ha).1
  obtain ⟨es, ep, t, R⟩ := R0.full fun p hp => I.isT (tup_of (hL p hp).2)
  rw [Vals.ref1 r]
  refine sorted_pairs R (I.ok.hd hc) (fun q m => (hL q m).1) fun s' p ts c k g o hp hg own all pw le => ?_
  have few := R.few
  have lim : (ts.map fun q => V.ref q.1).length ≤ sizeLine := by
    rw [List.length_map, sizeLine_eq]
    omega
  have n : H p = none := I.hok.fresh hp
  have vals : ∀ ts : List (Addr × Pr), Vals (ts.map fun q => V.ref q.1) (ts.map fun q => Value.ref q.1) := fun ts => by
    induction ts with
    | nil => exact .nil
    | cons t ts ih => exact .cons rfl ih
  have J : Inv X pins σ (upd H p (.lst (ts.map fun q => V.ref q.1))) { s with heap := s'.heap, gens := s'.gens, drawn := s'.drawn, toks := s'.toks } :=
    I.call (ch := []) (Un.laid k hp n) (I.hok.laid k hp ⟨lim, _, c, vals ts, hg⟩) (by rw [g]; exact I.bare) (fun _ z => nomatch z)
  have e : s' = { s with heap := s'.heap, gens := s'.gens, drawn := s'.drawn, toks := s'.toks } := by
    obtain ⟨_, _, _, _, _⟩ := s'
    obtain ⟨_, _, _, _, _⟩ := s
    cases o
    rfl
  rw [e]
  have sm : Same H (upd H p (.lst (ts.map fun q => V.ref q.1))) := newS n
  refine ⟨.ref p, _, J, rfl, q p _ (ts.map (·.2)) sm n ⟨ts, upd_same, fun t m => ?_, rfl⟩ pw (fun x => (all x).trans (mem x)) (by rw [List.length_map, le]; exact few)⟩
  obtain ⟨r, mr, e1, e2⟩ := own t m
  have z := sm _ _ (hL r mr).2
  rw [len2 (hL r mr).1, e1, e2] at z
  exact z
end
section
variable {X : Cx}
theorem pg_tupK {K : PySem.W.Frag} {es : List Expr} {k : Nat} {t : TGs} {n : Nat} {pos : Pos} (hK : X.K = K) (hc : X.calm = true) (h : PGs X es t)
    (hn : (assignEach es X.env).length = n := by rfl) (hst : (assignEach es X.env).findIdx? (·.1) = none := by rfl) : PG X (.Tuple es k pos) (gTup K n t) := by
  subst hK
  exact pg_tup hc h hn hst
theorem ix_tupK {K : PySem.W.Frag} (hK : X.K = K) : IxR X (rIxT K) := by
  subst hK
  exact ix_tup
end
/-! ### comprehensions over such a list -/
theorem item_cells {H : Hp} {ts : List (Addr × Pr)} {ps : List Pr} {i : Nat} {x : V} (h : (ts.map fun t => V.ref t.1)[i]? = some x) (e : ts.map (·.2) = ps) :
    ∃ t ∈ ts, x = .ref t.1 ∧ ps[i]? = some t.2 := by
  rw [List.getElem?_map] at h
  cases q : ts[i]? with
  | none => rw [q] at h; cases h
  | some t =>
    rw [q] at h
    refine ⟨t, List.mem_of_getElem? q, (Option.some.inj h).symm, ?_⟩
    rw [← e, List.getElem?_map, q]
    rfl
theorem lc_cells {K : PySem.W.Frag} {l : Addr} {ps : List Pr} {g : TG} {tt : TT} {te : TE} {vs : List Nat} {σ : L2.St} {H1 : Hp} {D : Addr} {Qd : Hp → Prop} (f : Pr → Pr) (hC : Cells H1 l ps) (nD : H1 D = none) (few : ps.length < sizeLine)
    (hs : ∀ (t : Addr) (x : Pr) (H' : Hp) (Po : V → Hp → Prop) (Pn : Hp → Prop), Same H1 H' → H' t = some (.tup [.int x.1, .int x.2]) → (∀ t2, H' t2 = none → Po (.ref t2) (upd H' t2 (.tup [.int (f x).1, .int (f x).2]))) →
      g (.ref t) (wipe σ vs) H' fun σ2 H2 => wipe σ2 vs = wipe σ vs ∧ tt σ2 H2 fun b H3 => if b = true then te σ2 H3 Po else Pn H3)
    (hd : ∀ H', Same H1 H' → Cells H' D (ps.map f) → Qd H') :
    ∃ W : Nat → Nat → Hp → Prop, (∃ m, W 0 m (upd H1 D (.lst []))) ∧ ∀ i m H, W i m H →
      ((Itl K l).stop i H ∧ Qd H) ∨ ((Itl K l).go i H ∧ ∃ Nx : Hp → Prop, (∀ H', Nx H' → ∃ m', m' < m ∧ W (i + 1) m' H') ∧ ∀ x H', (Itl K l).yld i H x H' → g x (wipe σ vs) H' fun σ2 H2 => wipe σ2 vs = wipe σ vs ∧ tt σ2 H2 fun b H3 =>
        if b = true then te σ2 H3 fun y H4 => ∃ acc, H4 D = some (.lst acc) ∧ acc.length < sizeLine ∧ Nx (upd H4 D (.lst (acc ++ [y]))) else Nx H3) := by
  obtain ⟨ts, hl, ht, rfl⟩ := hC
  rw [List.length_map] at few
  refine lc_list (K := K) (a := l) (xs := ts.map fun t => V.ref t.1) (fun i H' => Same H1 H' ∧ ∃ us : List (Addr × Pr), H' D = some (.lst (us.map fun t => V.ref t.1)) ∧ (∀ t ∈ us, H' t.1 = some (.tup [.int t.2.1, .int t.2.2])) ∧ us.map (·.2) = ((ts.map (·.2)).take i).map f)
    ⟨newS nD, [], upd_same, fun _ m => (by cases m), rfl⟩ (fun i H' _ p => lst_of (p.1 _ _ hl)) ?_ ?_
  · rintro i x H' hi ⟨sm, us, h1, h2, h3⟩
    obtain ⟨t, mt, rfl, hp⟩ := item_cells (H := H') hi rfl
    have ul : us.length = i := by
      have z := congrArg List.length h3
      rw [List.length_map, List.length_map, List.length_take, List.length_map] at z
      have := (List.getElem?_eq_some_iff.mp hi).1
      rw [List.length_map] at this
      omega
    refine hs t.1 t.2 H' _ _ sm (sm _ _ (ht t mt)) fun t2 n2 => ⟨us.map fun t => V.ref t.1, ?_, ?_, ?_, us ++ [(t2, f t.2)], ?_, ?_, ?_⟩
    · exact newS n2 _ _ h1
    · rw [List.length_map, ul]
      have := (List.getElem?_eq_some_iff.mp hi).1
      rw [List.length_map] at this
      omega
    · exact mutS (sm.trans (newS n2)) nD
    · rw [upd_same, List.map_append]
      rfl
    · have nD2 : t2 ≠ D := fun e => by
        rw [e, h1] at n2
        cases n2
      intro u m
      rcases List.mem_append.mp m with m | m
      · have z := h2 u m
        rw [upd_ne (fun e => ?_)]
        · exact newS n2 _ _ z
        · rw [e, h1] at z
          cases z
      · rw [List.mem_singleton.mp m, upd_ne nD2, upd_same]
    · rw [List.map_append, h3, take_next hp, List.map_append]
      rfl
  · rintro H' ⟨sm, us, h1, h2, h3⟩
    refine hd H' sm ⟨us, h1, h2, ?_⟩
    rw [h3, List.length_map, List.take_of_length_le (by rw [List.length_map]; exact Nat.le_refl _)]
theorem lc_nums {K : PySem.W.Frag} {l : Addr} {ps : List Pr} {g : TG} {tt : TT} {te : TE} {vs : List Nat} {σ : L2.St} {H1 : Hp} {D : Addr} {Qd : Hp → Prop} (f : Pr → Int) (hC : Cells H1 l ps) (nD : H1 D = none) (few : ps.length < sizeLine)
    (hs : ∀ (t : Addr) (x : Pr) (H' : Hp) (Po : V → Hp → Prop) (Pn : Hp → Prop), Same H1 H' → H' t = some (.tup [.int x.1, .int x.2]) → Po (.int (f x)) H' →
      g (.ref t) (wipe σ vs) H' fun σ2 H2 => wipe σ2 vs = wipe σ vs ∧ tt σ2 H2 fun b H3 => if b = true then te σ2 H3 Po else Pn H3)
    (hd : ∀ H', Same H1 H' → H' D = some (.lst ((ps.map f).map V.int)) → Qd H') :
    ∃ W : Nat → Nat → Hp → Prop, (∃ m, W 0 m (upd H1 D (.lst []))) ∧ ∀ i m H, W i m H →
      ((Itl K l).stop i H ∧ Qd H) ∨ ((Itl K l).go i H ∧ ∃ Nx : Hp → Prop, (∀ H', Nx H' → ∃ m', m' < m ∧ W (i + 1) m' H') ∧ ∀ x H', (Itl K l).yld i H x H' → g x (wipe σ vs) H' fun σ2 H2 => wipe σ2 vs = wipe σ vs ∧ tt σ2 H2 fun b H3 =>
        if b = true then te σ2 H3 fun y H4 => ∃ acc, H4 D = some (.lst acc) ∧ acc.length < sizeLine ∧ Nx (upd H4 D (.lst (acc ++ [y]))) else Nx H3) := by
  obtain ⟨ts, hl, ht, rfl⟩ := hC
  rw [List.length_map] at few
  refine lc_list (K := K) (a := l) (xs := ts.map fun t => V.ref t.1) (fun i H' => Same H1 H' ∧ H' D = some (.lst ((((ts.map (·.2)).take i).map f).map V.int)))
    ⟨newS nD, upd_same⟩ (fun i H' _ p => lst_of (p.1 _ _ hl)) ?_ ?_
  · rintro i x H' hi ⟨sm, h1⟩
    obtain ⟨t, mt, rfl, hp⟩ := item_cells (H := H') hi rfl
    refine hs t.1 t.2 H' _ _ sm (sm _ _ (ht t mt)) ⟨_, h1, ?_, mutS sm nD, ?_⟩
    · rw [List.length_map, List.length_map, List.length_take, List.length_map]
      omega
    · rw [upd_same, take_next hp, List.map_append, List.map_append]
      rfl
  · rintro H' ⟨sm, h1⟩
    rw [List.length_map, List.take_of_length_le (by rw [List.length_map]; exact Nat.le_refl _)] at h1
    exact hd H' sm h1
/-! ### one such list -/
def CanP (ps qs : List Pr) : Prop := qs.Pairwise ltP ∧ ∀ x, x ∈ qs ↔ x ∈ ps
theorem ltP_iff {p q : Pr} : ltP p q ↔ p.1 < q.1 ∨ (p.1 = q.1 ∧ p.2 < q.2) := SrtO.lexB_iff
theorem ascP_eq : ∀ {l m : List Pr}, l.Pairwise ltP → m.Pairwise ltP → (∀ k, k ∈ l ↔ k ∈ m) → l = m
  | [], [], _, _, _ => rfl
  | [], y :: m, _, _, h => absurd ((h y).mpr List.mem_cons_self) (by simp)
  | x :: l, [], _, _, h => absurd ((h x).mp List.mem_cons_self) (by simp)
  | x :: l, y :: m, hl, hm, h => by
    obtain ⟨h1, h2⟩ := List.pairwise_cons.mp hl
    obtain ⟨h3, h4⟩ := List.pairwise_cons.mp hm
    have irr : ∀ a b : Pr, ltP a b → ltP b a → False := fun a b p q => by
      have p := ltP_iff.mp p
      have q := ltP_iff.mp q
      omega
    have e : x = y := by
      rcases List.mem_cons.mp ((h x).mp List.mem_cons_self) with e | e
      · exact e
      · rcases List.mem_cons.mp ((h y).mpr List.mem_cons_self) with e2 | e2
        · exact e2.symm
        · exact (irr _ _ (h3 _ e) (h1 _ e2)).elim
    subst e
    rw [ascP_eq h2 h4 fun k => ?_]
    have q := h k
    constructor
    · intro hk
      rcases List.mem_cons.mp (q.mp (List.mem_cons_of_mem _ hk)) with e | e
      · have z := h1 _ hk
        rw [e] at z
        exact (irr _ _ z z).elim
      · exact e
    · intro hk
      rcases List.mem_cons.mp (q.mpr (List.mem_cons_of_mem _ hk)) with e | e
      · have z := h3 _ hk
        rw [e] at z
        exact (irr _ _ z z).elim
      · exact e
theorem canP_eq {ps qs m : List Pr} (h : CanP ps qs) (h2 : m.Pairwise ltP) (h3 : ∀ k, k ∈ ps ↔ k ∈ m) : qs = m := ascP_eq h.1 h2 fun k => (h.2 k).trans (h3 k)
/-! ### as data -/
def pd (p : Pr) : PyData := .tuple [.int p.1, .int p.2]
theorem eqv_pd (p q : Pr) : PyData.eqv (pd p) (pd q) = decide (p = q) := by
  show ((p.1 == q.1) && ((p.2 == q.2) && true)) = _
  obtain ⟨a, b⟩ := p
  obtain ⟨c, d⟩ := q
  by_cases e1 : a = c <;> by_cases e2 : b = d <;> simp [e1, e2]
theorem eqvAll_pd : ∀ (l m : List Pr), PyData.eqvAll (l.map pd) (m.map pd) = decide (l = m)
  | [], [] => by simp [PyData.eqvAll]
  | [], y :: m => by simp [PyData.eqvAll]
  | x :: l, [] => by simp [PyData.eqvAll]
  | x :: l, y :: m => by
    show (PyData.eqv (pd x) (pd y) && PyData.eqvAll (l.map pd) (m.map pd)) = _
    rw [eqvAll_pd l m, eqv_pd]
    by_cases e : x = y <;> by_cases e2 : l = m <;> simp [e, e2]
theorem eqv_cells (l m : List Pr) : PyData.eqv (.list (l.map pd)) (.list (m.map pd)) = decide (l = m) := eqvAll_pd l m
theorem canAll_pd : ∀ l : List Pr, PyData.canLayAll0 (l.map pd) = true
  | [] => by simp [PyData.canLayAll0]
  | x :: l => by
    rw [List.map_cons]
    simp [PyData.canLayAll0, PyData.canLay0, pd, canAll_pd l]
theorem depAll_pd : ∀ l : List Pr, PyData.depthAll (l.map pd) ≤ 1
  | [] => by simp [PyData.depthAll]
  | x :: l => by
    rw [List.map_cons]
    have := depAll_pd l
    simp only [PyData.depthAll, PyData.depth, pd]
    omega
theorem shaped_cells (l : List Pr) : SeqAt.shaped (.list (l.map pd)) = true := by
  unfold SeqAt.shaped
  have := depAll_pd l
  simp only [PyData.canLay0, PyData.depth, canAll_pd]
  simp
  omega
theorem dp_cells {K : PySem.W.Frag} {H : Hp} {a : Addr} {ps : List Pr} (h : Cells H a ps) : Dp K H (.ref a) (.list (ps.map pd)) := by
  obtain ⟨ts, hl, ht, rfl⟩ := h
  refine .lst (lst_of hl) ?_
  have go : ∀ us : List (Addr × Pr), (∀ t ∈ us, H t.1 = some (.tup [.int t.2.1, .int t.2.2])) → DpAll K H (us.map fun t => V.ref t.1) ((us.map (·.2)).map pd) := fun us => by
    induction us with
    | nil => exact fun _ => .nil
    | cons t us ih => exact fun h => .cons (.tup (tup_of (h t List.mem_cons_self)) (.cons (.int _) (.cons (.int _) .nil))) (ih fun u m => h u (List.mem_cons_of_mem _ m))
  exact go ts ht
/-! ### sorted, of such a list -/
def kH (H : Hp) : V → Pr
  | .ref a => match H a with
    | some (.tup [.int x, .int y]) => (x, y)
    | _ => (0, 0)
  | _ => (0, 0)
def adV : V → Addr
  | .ref a => a
  | _ => 0
theorem kH_at {H : Hp} {a : Addr} {x : Pr} (h : H a = some (.tup [.int x.1, .int x.2])) : kH H (.ref a) = x := by
  show (match H a with
    | some (.tup [.int x, .int y]) => (x, y)
    | _ => (0, 0)) = x
  rw [h]
theorem ltP_irr {a b : Pr} (p : ltP a b) (q : ltP b a) : False := by
  have p := ltP_iff.mp p
  have q := ltP_iff.mp q
  omega
theorem nodup_lt {l : List Pr} (h : l.Pairwise ltP) : l.Nodup := h.imp fun {a b} q e => by
  subst e
  exact ltP_irr q q
theorem cr_sortedC {X : Cx} : CallR X (.builtin "sorted") (fun xs H Q => ∃ l ps, xs = [V.ref l] ∧ Cells H l ps ∧ ps.Nodup ∧
    ∀ p H' qs, Same H H' → H p = none → Cells H' p qs → CanP ps qs → qs.length = ps.length → Q (.ref p) H') := by
  intro pins s σ H xs us Q I r h
  obtain ⟨l, ps, rfl, ⟨ts, hl, ht, rfl⟩, nd, q⟩ := h
  refine cr_sortedPO pins s σ H [V.ref l] us Q I r ⟨l, ts.map fun t => V.ref t.1, kH H, rfl, lst_of hl, fun x m => ?_, fun ys p srt stb n => ?_⟩
  · obtain ⟨t, m1, rfl⟩ := List.mem_map.mp m
    have g := ht t m1
    refine ⟨t.1, rfl, ?_⟩
    rw [kH_at g]
    exact g
  · have own : ∀ y ∈ ys, ∃ t ∈ ts, y = V.ref t.1 := fun y m => by
      obtain ⟨t, m1, e⟩ := List.mem_map.mp (stb.perm.mem_iff.mp m)
      exact ⟨t, m1, e.symm⟩
    have key : ∀ t ∈ ts, kH H (.ref t.1) = t.2 := fun t m => kH_at (ht t m)
    have pm : (ys.map (kH H)).Perm (ts.map (·.2)) := by
      have z := stb.perm.map (kH H)
      rw [List.map_map] at z
      rw [show ts.map (·.2) = ts.map (kH H ∘ fun t => V.ref t.1) from List.map_congr_left fun t m => (key t m).symm]
      exact z
    have sm : Same H (upd H p (.lst ys)) := newS n
    have eo : (ys.map fun v => (adV v, kH H v)).map (fun t => V.ref t.1) = ys := by
      rw [List.map_map]
      refine (List.map_congr_left fun v m => ?_).trans (List.map_id _)
      obtain ⟨t, _, rfl⟩ := own v m
      rfl
    refine q p _ (ys.map (kH H)) sm n ⟨ys.map fun v => (adV v, kH H v), ?_, fun u m => ?_, ?_⟩ ⟨?_, fun x => pm.mem_iff⟩ pm.length_eq
    · rw [eo, upd_same]
    · obtain ⟨v, m1, rfl⟩ := List.mem_map.mp m
      obtain ⟨t, m2, rfl⟩ := own v m1
      refine sm _ _ ?_
      show H t.1 = _
      rw [key t m2]
      exact ht t m2
    · rw [List.map_map]
      rfl
    · have nd2 : (ys.map (kH H)).Nodup := pm.nodup_iff.mpr nd
      refine List.pairwise_map.mpr ((srt.and (List.pairwise_map.mp nd2)).imp fun {u v} h => ?_)
      have a1 := SrtO.lexB_no.mp h.1
      have a2 : ¬ ((kH H u).1 = (kH H v).1 ∧ (kH H u).2 = (kH H v).2) := fun e => h.2 (Prod.ext e.1 e.2)
      refine ltP_iff.mpr ?_
      omega
/-! ### dicts whose keys are such pairs -/
def keyP (x : Pr) : List L2.Key := [Sum.inl x.1, Sum.inl x.2]
theorem keyP_inj {x y : Pr} (h : keyP x = keyP y) : x = y := by
  injection h with h1 h2
  injection h2 with h2 _
  exact Prod.ext (Sum.inl.inj h1) (Sum.inl.inj h2)
def KeysP (kvs : List (List L2.Key × V)) (ps : List Pr) : Prop := kvs.map (·.1) = ps.map keyP ∧ ps.Nodup
theorem KeysP.put {kvs : List (List L2.Key × V)} {ps : List Pr} (h : KeysP kvs ps) (x : Pr) (v : V) :
    ∃ qs, KeysP (putK kvs (keyP x) v) qs ∧ qs.length ≤ ps.length + 1 ∧ ∀ y, y ∈ qs ↔ y ∈ ps ∨ y = x := by
  have mem : (kvs.any fun kv => decide (kv.1 = keyP x)) = true ↔ x ∈ ps := by
    rw [List.any_eq_true]
    constructor
    · rintro ⟨kv, m, e⟩
      have m2 : kv.1 ∈ ps.map keyP := by
        rw [← h.1]
        exact List.mem_map.mpr ⟨kv, m, rfl⟩
      obtain ⟨y, my, ey⟩ := List.mem_map.mp m2
      rw [← keyP_inj (ey.trans (of_decide_eq_true e))]
      exact my
    · intro m
      have m2 : keyP x ∈ kvs.map (·.1) := by
        rw [h.1]
        exact List.mem_map.mpr ⟨x, m, rfl⟩
      obtain ⟨kv, mk, e⟩ := List.mem_map.mp m2
      exact ⟨kv, mk, decide_eq_true e⟩
  by_cases c : x ∈ ps
  · refine ⟨ps, ⟨?_, h.2⟩, by omega, fun y => ⟨.inl, fun z => z.elim id fun e => e ▸ c⟩⟩
    unfold putK
    rw [if_pos (mem.mpr c), List.map_map, ← h.1]
    refine List.map_congr_left fun kv _ => ?_
    show (if kv.1 = keyP x then (kv.1, v) else kv).1 = kv.1
    by_cases e : kv.1 = keyP x
    · rw [if_pos e]
    · rw [if_neg e]
  · refine ⟨ps ++ [x], ⟨?_, ?_⟩, by rw [List.length_append]; exact Nat.le_refl _, fun y => by rw [List.mem_append, List.mem_singleton]⟩
    · unfold putK
      rw [if_neg (fun z => c (mem.mp z)), List.map_append, List.map_append, h.1]
      rfl
    · refine List.pairwise_append.mpr ⟨h.2, List.pairwise_cons.mpr ⟨fun _ m => (by cases m), List.Pairwise.nil⟩, fun a ma b mb e => ?_⟩
      rw [List.mem_singleton.mp mb] at e
      exact c (e ▸ ma)
theorem KeysP.len {kvs : List (List L2.Key × V)} {ps : List Pr} (h : KeysP kvs ps) : kvs.length = ps.length := by
  have z := congrArg List.length h.1
  rw [List.length_map, List.length_map] at z
  exact z
theorem KeysP.at {kvs : List (List L2.Key × V)} {ps : List Pr} (h : KeysP kvs ps) {i : Nat} {k : List L2.Key} {v : V} (e : kvs[i]? = some (k, v)) : ∃ x, ps[i]? = some x ∧ k.map kV = [.int x.1, .int x.2] := by
  have z := congrArg (fun l => l[i]?) h.1
  simp only [List.getElem?_map] at z
  rw [e] at z
  cases q : ps[i]? with
  | none => rw [q] at z; cases z
  | some x =>
    rw [q] at z
    refine ⟨x, rfl, ?_⟩
    have : k = keyP x := Option.some.inj z
    rw [this]
    rfl
/-- the keys of such a dict, listed -/
theorem lc_keysP {d : Addr} {od : Obj} {kvs : List (List L2.Key × V)} {ps : List Pr} {vs : List Nat} {σ : L2.St} {H1 : Hp} {D : Addr} {Qd : Hp → Prop} {g : TG} {tt : TT} {te : TE} (hK : KeysP kvs ps) (hD : H1 d = some (.frz od (.dT kvs))) (nD : H1 D = none) (few : ps.length < sizeLine)
    (hs : ∀ (t : Addr) (x : Pr) (H' : Hp) (Po : V → Hp → Prop) (Pn : Hp → Prop), H' t = some (.tup [.int x.1, .int x.2]) → Po (.ref t) H' →
      g (.ref t) (wipe σ vs) H' fun σ2 H2 => wipe σ2 vs = wipe σ vs ∧ tt σ2 H2 fun b H3 => if b = true then te σ2 H3 Po else Pn H3)
    (hd : ∀ H', Same H1 H' → Cells H' D ps → Qd H') :
    ∃ W : Nat → Nat → Hp → Prop, (∃ m, W 0 m (upd H1 D (.lst []))) ∧ ∀ i m H, W i m H →
      ((Itkt d od kvs).stop i H ∧ Qd H) ∨ ((Itkt d od kvs).go i H ∧ ∃ Nx : Hp → Prop, (∀ H', Nx H' → ∃ m', m' < m ∧ W (i + 1) m' H') ∧ ∀ x H', (Itkt d od kvs).yld i H x H' → g x (wipe σ vs) H' fun σ2 H2 => wipe σ2 vs = wipe σ vs ∧ tt σ2 H2 fun b H3 =>
        if b = true then te σ2 H3 fun y H4 => ∃ acc, H4 D = some (.lst acc) ∧ acc.length < sizeLine ∧ Nx (upd H4 D (.lst (acc ++ [y]))) else Nx H3) := by
  have len := hK.len
  refine lc_it walk_keysT (fun i H' => Same H1 H' ∧ ∃ us : List (Addr × Pr), H' D = some (.lst (us.map fun t => V.ref t.1)) ∧ (∀ t ∈ us, H' t.1 = some (.tup [.int t.2.1, .int t.2.2])) ∧ us.map (·.2) = ps.take i)
    ⟨newS nD, [], upd_same, fun _ m => (by cases m), rfl⟩ (fun i H' _ p => p.1 _ _ hD) ?_ ?_
  · rintro i x H' H2 hi ⟨sm, us, h1, h2, h3⟩ ⟨rfl, k, v, q, e, rfl, hq⟩
    obtain ⟨y, hy, ek⟩ := hK.at e
    rw [ek] at hq
    have ul : us.length = i := by
      have z := congrArg List.length h3
      rw [List.length_map, List.length_take] at z
      omega
    refine hs q y _ _ _ hq ⟨_, h1, ?_, mutS sm nD, us ++ [(q, y)], ?_, ?_, ?_⟩
    · rw [List.length_map]
      omega
    · rw [upd_same, List.map_append]
      rfl
    · intro u m
      have off : ∀ z : Addr × Pr, H2 z.1 = some (.tup [.int z.2.1, .int z.2.2]) → upd H2 D (.lst ((us.map fun t => V.ref t.1) ++ [V.ref q])) z.1 = some (.tup [.int z.2.1, .int z.2.2]) := fun z g => by
        rw [upd_ne (fun e => ?_)]
        · exact g
        · rw [e, h1] at g
          cases g
      rcases List.mem_append.mp m with m | m
      · exact off u (h2 u m)
      · rw [List.mem_singleton.mp m]
        exact off (q, y) hq
    · rw [List.map_append, h3, take_next hy]
      rfl
  · rintro H' ⟨sm, us, h1, h2, h3⟩
    refine hd H' sm ⟨us, h1, h2, ?_⟩
    rw [h3, List.take_of_length_le (by omega)]
/-- such a list outlives a change of an object that is no tuple and not the list -/
theorem Cells.mut {H : Hp} {l d : Addr} {ps : List Pr} {o : HO} (h : Cells H l ps) (ne : l ≠ d) (nt : ∀ xs, H d ≠ some (.tup xs)) : Cells (upd H d o) l ps := by
  obtain ⟨ts, h1, h2, h3⟩ := h
  refine ⟨ts, by rw [upd_ne ne]; exact h1, fun t m => ?_, h3⟩
  rw [upd_ne (fun e => nt _ (e ▸ h2 t m))]
  exact h2 t m
theorem cells_mk {H : Hp} {l : Addr} (us : List (Addr × Pr)) (h : H l = some (.lst (us.map fun t => V.ref t.1))) (ht : ∀ u ∈ us, H u.1 = some (.tup [.int u.2.1, .int u.2.2])) : Cells H l (us.map (·.2)) := ⟨us, h, ht, rfl⟩
def cutT {α : Type} (ts : List α) (lo hi : Option Int) : List α := (ts.drop (HT.sIx ts.length 0 lo)).take (HT.sIx ts.length ts.length hi - HT.sIx ts.length 0 lo)
theorem cutV_map {α : Type} (f : α → V) (ts : List α) (lo hi : Option Int) : cutV (ts.map f) lo hi = (cutT ts lo hi).map f := by
  unfold cutV cutT
  rw [List.length_map, List.map_take, List.map_drop]
theorem cutT_mem {α : Type} {ts : List α} {lo hi : Option Int} {x : α} (h : x ∈ cutT ts lo hi) : x ∈ ts := List.mem_of_mem_drop (List.mem_of_mem_take h)
theorem cutT_len {α : Type} (ts : List α) (lo hi : Option Int) : (cutT ts lo hi).length ≤ ts.length := by
  unfold cutT
  rw [List.length_take, List.length_drop]
  omega
theorem eq_cells {l m : List Pr} (h : l = m) : V.bl (PyData.eqv (.list (l.map pd)) (.list (m.map pd))) = V.bl true := by
  rw [eqv_cells, decide_eq_true h]
theorem ne_cells {l m : List Pr} (h : l = m) : V.bl (!PyData.eqv (.list (l.map pd)) (.list (m.map pd))) = V.bl false := by
  rw [eqv_cells, decide_eq_true h] <;> rfl
theorem pw_map {f : Pr → Pr} (hf : ∀ x y, ltP x y → ltP (f x) (f y)) {l : List Pr} (h : l.Pairwise ltP) : (l.map f).Pairwise ltP := List.pairwise_map.mpr (h.imp fun {x y} q => hf x y q)
theorem nodup_map {f : Pr → Pr} (hf : ∀ x y, f x = f y → x = y) {l : List Pr} (h : l.Nodup) : (l.map f).Nodup := List.pairwise_map.mpr (h.imp fun {x y} q e => q (hf x y e))
theorem mem_map2 {f : Pr → Pr} {l m : List Pr} (h : ∀ x, x ∈ l ↔ x ∈ m) (k : Pr) : k ∈ l.map f ↔ k ∈ m.map f := by
  rw [List.mem_map, List.mem_map]
  exact ⟨fun ⟨x, m1, e⟩ => ⟨x, (h x).mp m1, e⟩, fun ⟨x, m1, e⟩ => ⟨x, (h x).mpr m1, e⟩⟩
theorem wipe2 (σ : L2.St) (i j : Nat) (a b : Option V) : wipe (((wipe σ [i, j]).set i a).set j b) [i, j] = wipe σ [i, j] := by
  refine List.ext_getElem? fun k => ?_
  show ((((((σ.set j none).set i none).set i a).set j b).set j none).set i none)[k]? = ((σ.set j none).set i none)[k]?
  simp only [List.getElem?_set, List.length_set]
  by_cases e1 : i = k <;> by_cases e2 : j = k <;> by_cases e3 : k < σ.length <;> simp [e1, e2, e3]
end Vx
namespace Vx
open PySem PySem.Spec PyProof.Rows L2
/-! ### sets of many tuples: i -> 5 i + 1 meets every slot of a table of 2 ^ n slots -/
def S5 : Nat → Nat
  | 0 => 0
  | n + 1 => 5 * S5 n + 1
def T5 (i : Nat) : Nat → Nat
  | 0 => i
  | n + 1 => 5 * T5 i n + 1
theorem T5_S5 (i : Nat) : ∀ d, T5 i d = i + S5 d * (4 * i + 1)
  | 0 => by simp [T5, S5]
  | d + 1 => by
    show 5 * T5 i d + 1 = i + (5 * S5 d + 1) * (4 * i + 1)
    rw [T5_S5 i d, Nat.add_mul, Nat.mul_assoc]
    generalize S5 d * (4 * i + 1) = z
    omega
theorem T5_add (i d : Nat) : ∀ a, T5 i (d + a) = T5 i a + 5 ^ a * (S5 d * (4 * i + 1))
  | 0 => by
    show T5 i d = i + 5 ^ 0 * _
    rw [T5_S5, Nat.pow_zero, Nat.one_mul]
  | a + 1 => by
    show 5 * T5 i (d + a) + 1 = 5 * T5 i a + 1 + 5 ^ (a + 1) * _
    rw [T5_add i d a, Nat.pow_succ, Nat.mul_comm (5 ^ a) 5, Nat.mul_assoc]
    omega
theorem S5_two (e : Nat) : S5 (2 * e) = (5 ^ e + 1) * S5 e := by
  have h := T5_add 0 e e
  have z : ∀ n, T5 0 n = S5 n := fun n => by rw [T5_S5]; simp
  rw [z, z] at h
  rw [show 2 * e = e + e by omega, h, Nat.add_mul]
  simp
  omega
theorem S5_par : ∀ d, S5 d % 2 = d % 2
  | 0 => rfl
  | d + 1 => by
    have := S5_par d
    show (5 * S5 d + 1) % 2 = (d + 1) % 2
    omega
theorem five4 : ∀ e, ∃ q, 5 ^ e = 4 * q + 1
  | 0 => ⟨0, rfl⟩
  | e + 1 => by
    obtain ⟨q, h⟩ := five4 e
    refine ⟨5 * q + 1, ?_⟩
    rw [Nat.pow_succ, h]
    omega
/-- an odd factor is of no help -/
theorem strip_odd {o : Nat} (ho : o % 2 = 1) : ∀ (k x : Nat), 2 ^ k ∣ o * x → 2 ^ k ∣ x
  | 0, x, _ => by simp
  | k + 1, x, h => by
    have h2 : 2 ∣ o * x := Nat.dvd_trans ⟨2 ^ k, by rw [Nat.pow_succ, Nat.mul_comm]⟩ h
    have hx : x % 2 = 0 := by
      have : (o * x) % 2 = 0 := Nat.mod_eq_zero_of_dvd h2
      rw [Nat.mul_mod, ho, Nat.one_mul, Nat.mod_mod] at this
      exact this
    obtain ⟨y, rfl⟩ : ∃ y, x = 2 * y := ⟨x / 2, by omega⟩
    rw [show o * (2 * y) = 2 * (o * y) by rw [Nat.mul_left_comm], Nat.pow_succ, Nat.mul_comm (2 ^ k) 2] at h
    rw [Nat.pow_succ, Nat.mul_comm (2 ^ k) 2]
    exact Nat.mul_dvd_mul_left 2 (strip_odd ho k y (Nat.dvd_of_mul_dvd_mul_left (by decide) h))
theorem S5_dvd : ∀ (k d : Nat), 2 ^ k ∣ S5 d → 2 ^ k ∣ d
  | 0, d, _ => by simp
  | k + 1, d, h => by
    have h2 : 2 ∣ S5 d := Nat.dvd_trans ⟨2 ^ k, by rw [Nat.pow_succ, Nat.mul_comm]⟩ h
    have hd : d % 2 = 0 := by
      rw [← S5_par]
      exact Nat.mod_eq_zero_of_dvd h2
    obtain ⟨e, rfl⟩ : ∃ e, d = 2 * e := ⟨d / 2, by omega⟩
    obtain ⟨q, hq⟩ := five4 e
    rw [S5_two, hq, show 4 * q + 1 + 1 = 2 * (2 * q + 1) by omega, Nat.mul_assoc, Nat.pow_succ, Nat.mul_comm (2 ^ k) 2] at h
    rw [Nat.pow_succ, Nat.mul_comm (2 ^ k) 2]
    exact Nat.mul_dvd_mul_left 2 (S5_dvd k e (strip_odd (by omega) k _ (Nat.dvd_of_mul_dvd_mul_left (by decide) h)))
/-- the masks -/
def Mk (m : Nat) : Prop := ∃ k, m + 1 = 2 ^ k ∧ 3 ≤ k ∧ k ≤ 13
theorem lcgI_T5 {m i : Nat} (hi : i ≤ m) : ∀ n, lcgI m i n = T5 i n % (m + 1)
  | 0 => (Nat.mod_eq_of_lt (Nat.lt_succ_of_le hi)).symm
  | n + 1 => by
    show (lcgI m i n * 5 + 1) % (m + 1) = (5 * T5 i n + 1) % (m + 1)
    rw [lcgI_T5 hi n, Nat.add_mod, Nat.mul_mod, Nat.mod_mod, ← Nat.mul_mod, ← Nat.add_mod, Nat.mul_comm]
theorem lcgI_ne {m i a d : Nat} (hm : Mk m) (hi : i ≤ m) (d0 : 0 < d) (hd : d ≤ m) : lcgI m i (d + a) ≠ lcgI m i a := fun e => by
  obtain ⟨k, ek, _⟩ := hm
  rw [lcgI_T5 hi, lcgI_T5 hi] at e
  have z := Nat.sub_mod_eq_zero_of_mod_eq e
  rw [T5_add, Nat.add_sub_cancel_left, ek] at z
  obtain ⟨q, hq⟩ := five4 a
  have z1 := strip_odd (show 5 ^ a % 2 = 1 by omega) k _ (Nat.dvd_of_mod_eq_zero z)
  rw [Nat.mul_comm] at z1
  have z2 := S5_dvd k d (strip_odd (show (4 * i + 1) % 2 = 1 by omega) k _ z1)
  have := Nat.le_of_dvd d0 z2
  omega
theorem lcgI_lt {m i : Nat} (hi : i ≤ m) : ∀ n, lcgI m i n ≤ m
  | 0 => hi
  | n + 1 => Nat.le_of_lt_succ (Nat.mod_lt _ (Nat.succ_pos _))
theorem lcgI_on {m i j : Nat} (hm : Mk m) (hi : i ≤ m) (hj : j ≤ m) : ∃ n, n ≤ m ∧ lcgI m i n = j := by
  refine Classical.byContradiction fun no => ?_
  have nd : (j :: (List.range (m + 1)).map (lcgI m i)).Nodup := by
    refine List.nodup_cons.mpr ⟨fun mj => ?_, ?_⟩
    · obtain ⟨n, mn, e⟩ := List.mem_map.mp mj
      exact no ⟨n, Nat.le_of_lt_succ (List.mem_range.mp mn), e⟩
    · refine List.pairwise_map.mpr (List.Pairwise.imp_of_mem (fun {a b} ma mb ab e => ?_) List.pairwise_lt_range)
      have := List.mem_range.mp mb
      have ab : a < b := ab
      refine lcgI_ne (a := a) (d := b - a) hm hi (by omega) (by omega) ?_
      rw [show b - a + a = b by omega]
      exact e.symm
  have := nat_nodup_len _ (List.range (m + 1)) nd fun x mx => by
    rcases List.mem_cons.mp mx with e | mx
    · rw [e]
      exact List.mem_range.mpr (Nat.lt_succ_of_le hj)
    · obtain ⟨n, _, rfl⟩ := List.mem_map.mp mx
      exact List.mem_range.mpr (Nat.lt_succ_of_le (lcgI_lt hi n))
  rw [List.length_cons, List.length_map, List.length_range] at this
  omega
theorem runs_on {m j : Nat} (hm : Mk m) (h : Int) (hj : j ≤ m) : ∃ n, n ≤ m + 12 ∧ runI m (SetTable.bits h) n = j := by
  obtain ⟨n, ln, e⟩ := lcgI_on hm (runI_le m (SetTable.bits h) 12) hj
  refine ⟨12 + n, by omega, ?_⟩
  rw [runI_tail (bits_lt h)]
  exact e
theorem way_top {m : Nat} (h : Int) (c : Nat) : way m h c ≤ m := by
  have b := runEnd_bd (m := m) (i := SetTable.bits h % (m + 1)) (Nat.le_of_lt_succ (Nat.mod_lt _ (Nat.succ_pos _)))
  have z := nth_in (m := m) c (runAt m (SetTable.bits h % (m + 1)) (SetTable.bits h)) (by
    show _ % (m + 1) + (SetTable.runEnd m _ - _) ≤ m
    omega)
  have z : way m h c + _ ≤ m := z
  omega
theorem way_on {m j : Nat} (hm : Mk m) (h : Int) (hj : j ≤ m) : ∃ c, c < 10 * SetTable.turns m ∧ way m h c = j := by
  obtain ⟨n, ln, e⟩ := runs_on hm h hj
  obtain ⟨c, lc, e2⟩ := run_nth m (SetTable.bits h) n
  refine ⟨c, ?_, ?_⟩
  · have : SetTable.turns m = m + 15 := rfl
    omega
  · show (nth m _ c).j = j
    rw [e2]
    exact e
/-! ### the table -/
structure Tab (t : SetTable) (hs : List Int) : Prop where
  up : Ris t.place.toList
  nodum : t.dummies = #[]
  size : t.place.size = hs.length
  pow : Mk t.mask
  top : ∀ x ∈ t.place.toList, x ≤ t.mask
  met : ∀ (i : Nat) (g : Int) (j : Nat), hs[i]? = some g → t.place.toList[i]? = some j → ∃ c, way t.mask g c = j ∧ ∀ d < c, way t.mask g d ∈ t.place.toList
theorem Tab.len {t : SetTable} {hs : List Int} (T : Tab t hs) : t.place.toList.length = hs.length := Array.length_toList.trans T.size
theorem Mk.odd {m : Nat} (h : Mk m) : m % 2 = 1 := by
  obtain ⟨k, e, k3, _⟩ := h
  obtain ⟨j, rfl⟩ : ∃ j, k = j + 1 := ⟨k - 1, by omega⟩
  rw [Nat.pow_succ] at e
  omega
theorem Mk.le {m : Nat} (h : Mk m) : m ≤ 8191 := by
  obtain ⟨k, e, _, k13⟩ := h
  have : 2 ^ k ≤ 2 ^ 13 := Nat.pow_le_pow_right (by decide) k13
  omega
/-- where a search ends -/
theorem Tab.gap {t : SetTable} {hs : List Int} (T : Tab t hs) (l : hs.length ≤ t.mask) (g : Int) : ∃ c, c < 10 * SetTable.turns t.mask ∧ way t.mask g c ∉ t.place.toList ∧ ∀ d < c, way t.mask g d ∈ t.place.toList := by
  obtain ⟨j, lj, nj⟩ := st_missing t.place.toList (t.mask + 1) (by rw [T.len]; omega)
  obtain ⟨c0, l0, e0⟩ := way_on T.pow g (Nat.le_of_lt_succ lj)
  obtain ⟨c, lc, hc, low⟩ := st_least (p := fun c => way t.mask g c ∉ t.place.toList) c0 (by rw [e0]; exact nj)
  exact ⟨c, by omega, hc, fun d ld => Classical.not_not.mp (low d ld)⟩
/-- what is in the table is met before that -/
theorem Tab.ahead {t : SetTable} {hs : List Int} (T : Tab t hs) {g : Int} {c i j : Nat} (hc : way t.mask g c ∉ t.place.toList) (hi : hs[i]? = some g) (hj : t.place.toList[i]? = some j) : ∃ d < c, way t.mask g d = j := by
  obtain ⟨d, e, low⟩ := T.met i g j hi hj
  refine ⟨d, Nat.lt_of_not_le fun le => ?_, e⟩
  rcases Nat.eq_or_lt_of_le le with q | q
  · refine hc ?_
    rw [q, e]
    exact List.mem_of_getElem? hj
  · exact hc (low c q)
/-- one more -/
theorem Tab.more {t : SetTable} {hs : List Int} (T : Tab t hs) {g : Int} {c : Nat} (hc : way t.mask g c ∉ t.place.toList) (low : ∀ d < c, way t.mask g d ∈ t.place.toList) :
    ∃ p, (t.put (way t.mask g c)).2 = p ∧ p ≤ hs.length ∧ Tab (t.put (way t.mask g c)).1 (hs.take p ++ g :: hs.drop p) ∧ (t.put (way t.mask g c)).1.fill = hs.length + 1 := by
  obtain ⟨j, hj⟩ : ∃ j, way t.mask g c = j := ⟨_, rfl⟩
  have jt : j ≤ t.mask := hj ▸ way_top g c
  rw [hj] at hc ⊢
  have cut := (below_cut T.up j).1
  refine ⟨SetTable.below t.place j, rfl, T.size ▸ cut, ?_, ?_⟩
  · have lh : SetTable.below t.place j ≤ hs.length := T.size ▸ cut
    have lp : SetTable.below t.place j ≤ t.place.toList.length := T.len ▸ lh
    have pl := put_place t j
    have into : ∀ {x : Nat}, x ∈ t.place.toList → x ∈ (t.put j).1.place.toList := fun h => by
      rw [pl]
      exact L2.mem_ins.mpr (.inr h)
    constructor
    · exact ris_insert T.up fun e => hc (List.mem_of_getElem? ((Array.getElem?_toList).trans e))
    · exact put_dm T.nodum j
    · rw [len_ins hs lh, ← T.len, ← len_ins _ lp j, ← pl, Array.length_toList]
    · exact T.pow
    · intro x mx
      rw [pl] at mx
      exact (L2.mem_ins.mp mx).elim (fun e => e ▸ jt) (T.top x)
    · intro i g' j' hg' hj'
      show ∃ c', way t.mask g' c' = j' ∧ ∀ d < c', way t.mask g' d ∈ (t.put j).1.place.toList
      rw [tins_get hs lh] at hg'
      rw [pl, tins_get _ lp] at hj'
      have old : ∀ n, hs[n]? = some g' → t.place.toList[n]? = some j' → ∃ c', way t.mask g' c' = j' ∧ ∀ d < c', way t.mask g' d ∈ (t.put j).1.place.toList := fun n a b => by
        obtain ⟨c', e, low'⟩ := T.met n g' j' a b
        exact ⟨c', e, fun d ld => into (low' d ld)⟩
      rcases Nat.lt_trichotomy i (SetTable.below t.place j) with z | z | z
      · rw [if_pos z] at hg' hj'
        exact old i hg' hj'
      · have nz : ¬ i < SetTable.below t.place j := by omega
        rw [if_neg nz, if_pos z] at hg' hj'
        cases hg'
        cases hj'
        exact ⟨c, hj, fun d ld => into (low d ld)⟩
      · have nz : ¬ i < SetTable.below t.place j := by omega
        have ne : ¬ i = SetTable.below t.place j := by omega
        rw [if_neg nz, if_neg ne] at hg' hj'
        exact old (i - 1) hg' hj'
  · have lh : SetTable.below t.place j ≤ hs.length := T.size ▸ cut
    have lp : SetTable.below t.place j ≤ t.place.toList.length := T.len ▸ lh
    show (t.put j).1.place.size + (t.put j).1.dummies.size = _
    rw [put_dm T.nodum j, ← Array.length_toList, put_place, len_ins _ lp, T.len]
    rfl
/-! ### laid anew -/
theorem gap_free {m : Nat} (hm : Mk m) (ow : Array (Option Nat)) (g : Int) {j : Nat} (hj : j ≤ m) (fr : oAt ow j = none) :
    ∃ c, SetTable.layClean.free m ow (SetTable.turns m) (SetTable.bits g % (m + 1)) (SetTable.bits g) = some (way m g c) ∧ oAt ow (way m g c) = none ∧ ∀ d < c, oAt ow (way m g d) ≠ none := by
  obtain ⟨n, ln, e⟩ := runs_on hm g hj
  have at_n : way m g (off m (SetTable.bits g % (m + 1)) (SetTable.bits g) n) = j := by
    unfold way
    rw [nth_off, itL_run]
    exact e
  obtain ⟨c, lc, hc, low⟩ := st_least (p := fun c => oAt ow (way m g c) = none) _ (by rw [at_n]; exact fr)
  have t15 : SetTable.turns m = m + 15 := rfl
  refine ⟨c, free_spec m ow _ n _ _ c (by omega) lc (fun d ld => ?_) ?_, hc, low⟩
  · show (oAt ow (way m g d)).isNone = false
    cases z : oAt ow (way m g d) with
    | none => exact (low d ld z).elim
    | some _ => rfl
  · show (oAt ow (way m g c)).isNone = true
    rw [hc]
    rfl
theorem own_next {m : Nat} (hm : Mk m) {hs : List Int} {ow : Array (Option Nat)} (W : Own m hs ow) (l : hs.length ≤ m) (g : Int) :
    ∃ j, SetTable.layClean.free m ow (SetTable.turns m) (SetTable.bits g % (m + 1)) (SetTable.bits g) = some j ∧ Own m (hs ++ [g]) (ow.setIfInBounds j (some hs.length)) := by
  obtain ⟨us, lu, hu⟩ := W.ps
  obtain ⟨j0, l0, n0⟩ := st_missing us (m + 1) (by omega)
  have f0 : oAt ow j0 = none := Classical.byContradiction fun z => n0 (hu j0 (Nat.le_of_lt_succ l0) z)
  obtain ⟨c, e, hc, low⟩ := gap_free hm ow g (Nat.le_of_lt_succ l0) f0
  obtain ⟨j, ej⟩ : ∃ j, way m g c = j := ⟨_, rfl⟩
  have jm : j ≤ m := ej ▸ way_top g c
  rw [ej] at e hc
  have js : j < ow.size := by
    rw [W.sz]
    omega
  refine ⟨j, e, ?_⟩
  have here := oAt_set_self (some hs.length) js
  have there : ∀ {i : Nat}, i ≠ j → oAt (ow.setIfInBounds j (some hs.length)) i = oAt ow i := fun ne => oAt_set_ne _ ne
  have keep : ∀ {i : Nat}, oAt ow i ≠ none → oAt (ow.setIfInBounds j (some hs.length)) i ≠ none := fun {i} h => by
    by_cases z : i = j
    · rw [z, here]
      intro y
      cases y
    · rwa [there z]
  constructor
  · rw [Array.size_setIfInBounds, W.sz]
  · intro i k li hk
    by_cases z : i = j
    · rw [z, here] at hk
      cases hk
      exact ⟨g, c, by simp, ej.trans z.symm, fun d ld => keep (low d ld)⟩
    · rw [there z] at hk
      obtain ⟨g', c', a1, a2, a3⟩ := W.at_ i k li hk
      exact ⟨g', c', by rw [List.getElem?_append_left (List.getElem?_eq_some_iff.mp a1).1, a1], a2, fun d ld => keep (a3 d ld)⟩
  · intro k lk
    by_cases z : k = hs.length
    · subst z
      exact ⟨j, jm, here⟩
    · obtain ⟨i, li, hi⟩ := W.all k (by rw [List.length_append, List.length_singleton] at lk; omega)
      refine ⟨i, li, ?_⟩
      rwa [there fun y => ?_]
      rw [y, hc] at hi
      cases hi
  · refine ⟨j :: us, by simp [lu], fun i li hi => ?_⟩
    by_cases z : i = j
    · rw [z]
      exact List.mem_cons_self
    · rw [there z] at hi
      exact List.mem_cons_of_mem _ (hu i li hi)
theorem own_all {m : Nat} (hm : Mk m) : ∀ (gs hs : List Int) (ow : Array (Option Nat)), Own m hs ow → hs.length + gs.length ≤ m →
    ∃ ow', gs.foldl (stepF m) (some (ow, hs.length)) = some (ow', hs.length + gs.length) ∧ Own m (hs ++ gs) ow'
  | [], hs, ow, W, _ => ⟨ow, rfl, by rwa [List.append_nil]⟩
  | g :: gs, hs, ow, W, l => by
    rw [List.length_cons] at l ⊢
    obtain ⟨j, e, W1⟩ := own_next hm W (by omega) g
    have l1 : (hs ++ [g]).length = hs.length + 1 := by simp
    obtain ⟨ow', f, W2⟩ := own_all hm gs _ _ W1 (by omega)
    rw [l1] at f
    rw [List.append_assoc] at W2
    refine ⟨ow', ?_, W2⟩
    rw [List.foldl_cons, stepF_some e, f]
    congr 2
    omega
theorem lay_all {m : Nat} (hm : Mk m) {hs : Array Int} (l : hs.size ≤ m) : ∃ ow, SetTable.layClean m hs = some ow ∧ Own m hs.toList ow := by
  obtain ⟨ow, f, W⟩ := own_all hm hs.toList [] _ (Own.init m) (by rw [Array.length_toList]; show 0 + hs.size ≤ m; omega)
  rw [List.nil_append] at W
  refine ⟨ow, ?_, W⟩
  rw [layClean_eq]
  have f : hs.toList.foldl (stepF m) (some (Array.replicate (m + 1) none, 0)) = some (ow, _) := f
  rw [f]
  rfl
theorem relaid_tab (t : SetTable) {hs : Array Int} {wt m : Nat} (hw : SetTable.sizeAbove wt = m + 1) (hm : Mk m) (l : hs.size ≤ m) :
    ∃ t' od, t.relaid hs wt = some (t', od) ∧ od.toList.Perm (List.range hs.size) ∧ Tab t' (od.toList.map fun i => hs.getD i 0) ∧ t'.mask = m ∧ t'.led = t.led ∧ t'.plain = t.plain := by
  obtain ⟨ow, e, W⟩ := lay_all hm l
  have hw' : SetTable.sizeAbove wt - 1 = m := by omega
  have live := @mem_live m ow W.sz
  have ris := ris_live (fun j => ow.getD j none) (List.range (m + 1)) (show List.Pairwise (· < ·) _ from List.pairwise_lt_range)
  have nd : ((liveOf m ow).map (·.1)).Nodup := List.Pairwise.imp (fun {a b} (h : a < b) => Nat.ne_of_lt h) (show List.Pairwise (· < ·) ((liveOf m ow).map (·.1)) from ris.1)
  have size : (liveOf m ow).length = hs.size := by
    refine Nat.le_antisymm ?_ ?_
    · obtain ⟨us, lu, hu⟩ := W.ps
      have := nat_nodup_len _ us nd fun x mx => by
        obtain ⟨⟨y, k⟩, my, rfl⟩ := List.mem_map.mp mx
        obtain ⟨z1, z2⟩ := live.mp my
        exact hu y z1 (by rw [z2]; intro q; cases q)
      rwa [List.length_map, lu, Array.length_toList] at this
    · have := nat_nodup_len (List.range hs.size) ((liveOf m ow).map (·.2)) List.nodup_range fun k mk => by
        obtain ⟨j, z1, z2⟩ := W.all k (by rw [Array.length_toList]; exact List.mem_range.mp mk)
        exact List.mem_map.mpr ⟨(j, k), live.mpr ⟨z1, z2⟩, rfl⟩
      rwa [List.length_range, List.length_map] at this
  refine ⟨tabOf t m ow, ((liveOf m ow).map (·.2)).toArray, ?_, ?_, ?_, rfl, rfl, rfl⟩
  · rw [relaid_eq, hw', e]
    rfl
  · refine perm_range _ _ (by simp [size]) fun k lk => ?_
    obtain ⟨j, z1, z2⟩ := W.all k (by rw [Array.length_toList]; exact lk)
    exact List.mem_map.mpr ⟨(j, k), live.mpr ⟨z1, z2⟩, rfl⟩
  · refine ⟨ris.1, rfl, ?_, hm, fun x mx => Nat.le_of_lt_succ (List.mem_range.mp (ris.2 x mx)), fun i g j hg hj => ?_⟩
    · show ((liveOf m ow).map (·.1)).toArray.size = _
      simp
    · have hg : (((liveOf m ow).map (·.2)).map fun i => hs.getD i 0)[i]? = some g := hg
      have hj : ((liveOf m ow).map (·.1))[i]? = some j := hj
      rw [List.getElem?_map] at hj
      obtain ⟨⟨y, k⟩, hq, rfl⟩ := Option.map_eq_some_iff.mp hj
      rw [List.getElem?_map, List.getElem?_map, hq] at hg
      have hg : hs.getD k 0 = g := Option.some.inj hg
      obtain ⟨z1, z2⟩ := live.mp (List.mem_of_getElem? hq)
      obtain ⟨g', c, a1, a2, a3⟩ := W.at_ y k z1 z2
      have eg : g' = g := by
        rw [← hg, Array.getD_eq_getD_getElem?, ← Array.getElem?_toList, a1]
        rfl
      subst eg
      refine ⟨c, a2, fun d ld => ?_⟩
      show way m g' d ∈ (liveOf m ow).map (·.1)
      cases q : oAt ow (way m g' d) with
      | none => exact (a3 d ld q).elim
      | some k' => exact List.mem_map.mpr ⟨(_, k'), live.mpr ⟨way_top g' d, q⟩, rfl⟩
end Vx
namespace Vx
open PySem PySem.Spec PyProof.Rows L2
/-! ### a set of up to some thousand tuples -/
def seat (m : Nat) (g : Int) (c : Nat) : SetTable.Probe := nth m (runAt m (SetTable.bits g % (m + 1)) (SetTable.bits g)) c
theorem seat_j (m : Nat) (g : Int) (c : Nat) : (seat m g c).j = way m g c := rfl
theorem seat_add (m : Nat) (g : Int) (c q : Nat) : nth m (seat m g c) q = seat m g (c + q) := (nth_add m c _ q).symm
theorem nth_dummy (m : Nat) : ∀ (n : Nat) (p : SetTable.Probe), p.dummy = none → (nth m p n).dummy = none
  | 0, _, h => h
  | n + 1, p, h => nth_dummy m n (adv m p) (by unfold adv; split <;> exact h)
theorem seat_dummy (m : Nat) (g : Int) (c : Nat) : (seat m g c).dummy = none := nth_dummy m c _ rfl
abbrev hashes (P : Program) (w : World) (L : List (Addr × List Int)) : List Int := L.map fun p => thash P w p.2
structure MT (P : Program) (w : World) (h : Heap) (a : Addr) (L : List (Addr × List Int)) (es : Array (Int × Value)) (ep : Nat) (t : SetTable) : Prop where
  obj : ∃ o, h.get? a = some o ∧ o.ExactSet ∧ o.data = .set es ep t
  rws : es.toList = rowsOf P w L
  tb : Tab t (hashes P w L)
  ndp : (L.map (·.2)).Nodup
  tps : ∀ p ∈ L, IsT P w h p.2 p.1
  pln : t.plain = true
  ld : w.params.followText "set-order" = true ∨ t.led = true
  roomy : L.length * 5 < t.mask * 3
section
variable {P : Program} {w : World} {A : Around} {E : Value → Shared → Prop} {s : Shared} {a : Addr} {L : List (Addr × List Int)} {es : Array (Int × Value)} {ep : Nat} {t : SetTable}
theorem rows_size (h : es.toList = rowsOf P w L) : es.size = L.length := by
  rw [← Array.length_toList, h]
  exact List.length_map _
theorem MT.sz (R : MT P w s.heap a L es ep t) : es.size = L.length := rows_size R.rws
theorem MT.place (R : MT P w s.heap a L es ep t) : t.place.size = L.length := R.tb.size.trans (List.length_map _)
theorem fits_of {n : Nat} (h1 : t.place.size = n) (h2 : t.dummies = #[]) (h3 : n ≤ t.mask) : t.fits n = true := by
  unfold SetTable.fits SetTable.fill
  rw [h2, h1]
  simp [h3]
theorem MT.fit (R : MT P w s.heap a L es ep t) : t.fits es.size = true := by
  have := R.roomy
  have := R.sz
  exact fits_of (R.place.trans R.sz.symm) R.tb.nodum (by omega)
theorem MT.row (R : MT P w s.heap a L es ep t) {i : Nat} {p : Addr × List Int} (h : L[i]? = some p) : es[i]? = some (thash P w p.2, .ref p.1) := by
  rw [← Array.getElem?_toList, R.rws, rowsOf, List.getElem?_map, h]
  rfl
theorem MT.stays (R : MT P w s.heap a L es ep t) : ¬ t.gaveWay = true := by
  have := R.tb.pow.odd
  unfold SetTable.gaveWay
  simp [this]
/-- the search, from the c-th seat on; C is the first free one -/
theorem MT.seek (R : MT P w s.heap a L es ep t) {x : Addr} {k : List Int} (hx : IsT P w s.heap k x) (hu : A.units < cLine) {C : Nat} (hC : C < 10 * SetTable.turns t.mask)
    (free : way t.mask (thash P w k) C ∉ t.place.toList) (full : ∀ d < C, way t.mask (thash P w k) d ∈ t.place.toList) {Q : SetFound → Shared → Prop}
    (yes : k ∈ L.map (·.2) → Q (.there none) s) (no : k ∉ L.map (·.2) → Q (.free (way t.mask (thash P w k) C) false) s) : ∀ (f c : Nat) (st : Option SetTable.Probe),
      st.getD (t.probeStart (thash P w k)) = seat t.mask (thash P w k) c → c ≤ C → C < c + f →
      (∀ (i : Nat) (p : Addr × List Int), L[i]? = some p → p.2 = k → ∃ d, c ≤ d ∧ d < C ∧ t.place.toList[i]? = some (way t.mask (thash P w k) d)) →
      wpAny (model P w) A (setSearchFrom a (.ref x) (thash P w k) true f st) Q E s := by
  obtain ⟨o, go, xo, dat⟩ := R.obj
  obtain ⟨g, eg⟩ : ∃ g, thash P w k = g := ⟨_, rfl⟩
  rw [eg] at free full no ⊢
  intro f
  induction f with
  | zero => intro c st _ _ lt; omega
  | succ f ih =>
    intro c st hst le lt ahead
    rw [setSearchFrom_succ]
    refine wpAny_bind (wpAny_setState_of go dat R.fit ?_)
    dsimp only
    refine wp_if_neg R.stays ?_
    try refine wpAny_bind (wpAny_pure ?_)
    have lookup := go_spec t R.tb.up R.tb.nodum (fun i => (es[i]?.map (·.1)).getD 0) g (10 * SetTable.turns t.mask) (C - c) (seat t.mask g c) (seat_dummy _ _ _) (by omega)
      (fun d ld => by rw [seat_add]; exact full _ (by omega)) (by rw [seat_add, show c + (C - c) = C by omega]; exact free)
    simp only [seat_add, seat_j] at lookup
    have hash : ∀ (i : Nat) (p : Addr × List Int), L[i]? = some p → p.2 = k → ((es[i]?.map (·.1)).getD 0) = g := fun i p h e => by
      rw [R.row h, e]
      exact eg
    have probe : t.probe (fun i => (es[i]?.map (·.1)).getD 0) g (st.getD (t.probeStart g)) = SetTable.probe.go t (fun i => (es[i]?.map (·.1)).getD 0) g (10 * SetTable.turns t.mask) (seat t.mask g c) := by rw [hst]; rfl
    rw [probe]
    rcases lookup with ⟨q, i, lq, hi, _, before, res⟩ | ⟨none', res⟩
    · rw [res]
      dsimp only
      obtain ⟨p, hp⟩ : ∃ p, L[i]? = some p := by
        have li := (List.getElem?_eq_some_iff.mp hi).1
        rw [Array.length_toList, R.place] at li
        exact ⟨_, List.getElem?_eq_getElem li⟩
      have mp := List.mem_of_getElem? hp
      have hsl := slot_live R.tb.up hi
      have go_on : wpAny (model P w) A (searchRest a (.ref x) g true f es t (way t.mask g (c + q)) i (seat t.mask g (c + (q + 1)))) Q E s := by
        unfold searchRest
        rw [R.row hp]
        dsimp only
        refine wpAny_bind (wpAny_holding (wpAny_eqBool_tuple hu (R.tps p mp) hx ?_))
        refine wpAny_bind (wpAny_setState_of go dat R.fit ?_)
        dsimp only
        by_cases same : p.2 = k
        · exact wp_if_pos (by simp [same]) (wpAny_pure (yes (List.mem_map.mpr ⟨p, mp, same⟩)))
        · refine wp_if_neg (by simp [same]) ?_
          try refine wpAny_bind (wpAny_pure ?_)
          rw [sameMem]
          dsimp only
          simp only [if_true, hsl, R.row hp]
          refine wpAny_bind (wpAny_isSame_ref_self (wpAny_bind (wpAny_pure ?_)))
          simp only [if_true]
          refine wp_if_neg (by simp [same]) (ih (c + (q + 1)) _ rfl (by omega) (by omega) fun i' p' h' e' => ?_)
          obtain ⟨d, b1, b2, b3⟩ := ahead i' p' h' e'
          refine ⟨d, Nat.lt_of_not_le fun le' => ?_, b2, b3⟩
          rcases Nat.eq_or_lt_of_le le' with e | l
          · rw [e] at b3
            have z := (slot_live R.tb.up b3).symm.trans hsl
            injection z with z
            rw [z, hp] at h'
            cases h'
            exact same e'
          · have l : d < c + q := l
            exact before (d - c) i' (by omega) (by rw [show c + (d - c) = d by omega]; exact b3) (hash i' p' h' e')
      by_cases lead : t.led = true
      · refine wp_if_neg (by simp [lead]) ?_
        try refine wpAny_bind (wpAny_pure ?_)
        exact go_on
      · refine wp_if_pos (by simp [lead]) (wpAny_bind (seen_tup hx (fun y my => ?_) (wp_if_neg (by decide) ?_)))
        · obtain ⟨e, me, rfl⟩ := List.mem_map.mp my
          have me : e ∈ es.toList := by
            have : e ∈ es ∧ e.1 = g := by simpa using me
            simpa using this.1
          rw [R.rws] at me
          obtain ⟨p', mp', rfl⟩ := List.mem_map.mp me
          exact ⟨_, _, rfl, R.tps p' mp'⟩
        · try refine wpAny_bind (wpAny_pure ?_)
          exact go_on
    · rw [res, show c + (C - c) = C by omega]
      dsimp only
      refine wpAny_pure (no fun m => ?_)
      obtain ⟨p, mp, e⟩ := List.mem_map.mp m
      obtain ⟨i, li, ei⟩ := List.getElem_of_mem mp
      have h' : L[i]? = some p := by rw [List.getElem?_eq_getElem li, ei]
      obtain ⟨d, b1, b2, b3⟩ := ahead i p h' e
      exact none' (d - c) i (by omega) (by rw [show c + (d - c) = d by omega]; exact b3) (hash i p h' e)
theorem MT.search (R : MT P w s.heap a L es ep t) {x : Addr} {k : List Int} (hx : IsT P w s.heap k x) (hu : A.units < cLine) {Q : SetFound → Shared → Prop} (yes : k ∈ L.map (·.2) → Q (.there none) s)
    (no : ∀ C, k ∉ L.map (·.2) → way t.mask (thash P w k) C ∉ t.place.toList → (∀ d < C, way t.mask (thash P w k) d ∈ t.place.toList) → Q (.free (way t.mask (thash P w k) C) false) s) :
    wpAny (model P w) A (setSearch a (.ref x) (thash P w k) true) Q E s := by
  have rm := R.roomy
  have big := R.tb.pow.le
  obtain ⟨C, hC, free, full⟩ := R.tb.gap (by rw [hashes, List.length_map]; omega) (thash P w k)
  have t15 : SetTable.turns t.mask = t.mask + 15 := rfl
  unfold setSearch
  refine R.seek hx hu hC free full yes (fun n => no C n free full) 100000 0 none rfl (Nat.zero_le _) (by omega) fun i p hp e => ?_
  have li : i < t.place.toList.length := by
    rw [Array.length_toList, R.place]
    exact (List.getElem?_eq_some_iff.mp hp).1
  obtain ⟨d, ld, e2⟩ := R.tb.ahead (i := i) free (by rw [hashes, List.getElem?_map, hp, ← e]; rfl) (List.getElem?_eq_getElem li)
  exact ⟨d, Nat.zero_le _, ld, by rw [e2]; exact List.getElem?_eq_getElem li⟩
theorem MT.relay {o : Obj} (go : s.heap.get? a = some o) (xo : o.ExactSet) (dat : o.data = .set es ep t) (rws : es.toList = rowsOf P w L) (pl : t.place.size = es.size) (dm : t.dummies = #[]) (fl : es.size ≤ t.mask)
    (nd : (L.map (·.2)).Nodup) (tps : ∀ p ∈ L, IsT P w s.heap p.2 p.1) (pn : t.plain = true) (led : w.params.followText "set-order" = true ∨ t.led = true) {wt m : Nat} (hw : SetTable.sizeAbove wt = m + 1) (hm : Mk m) (rm : L.length * 5 < m * 3)
    {Q : Unit → Shared → Prop} (hQ : ∀ h' L' es' ep' t', Heap.SameBut a s.heap h' → MT P w h' a L' es' ep' t' → t'.mask = m → L'.Perm L → Q () { s with heap := h' }) : wpAny (model P w) A (setRelay a wt) Q E s := by
  have sz := rows_size rws
  have big := hm.le
  obtain ⟨t', od, e, pm, T, em, el, ep'⟩ := relaid_tab t (hs := es.map (·.1)) hw hm (by rw [Array.size_map, sz]; omega)
  rw [Array.size_map, sz] at pm
  obtain ⟨L2, r1, r2, r3⟩ := order_rows L es od rws pm
  rw [← r3] at T
  have sz2 : (od.filterMap (es[·]?)).size = es.size := (rows_size r1).trans (r2.length_eq.trans sz.symm)
  have line := sizeLine_eq
  rw [setRelay_eq]
  refine wpAny_bind (wpAny_setState_of go dat (fits_of pl dm fl) ?_)
  dsimp only
  refine wp_if_neg (by omega) ?_
  try refine wpAny_bind (wpAny_pure ?_)
  rw [e]
  dsimp only
  refine wpAny_bind (wp_if_neg (by simp [sz2]) ?_)
  try refine wpAny_bind (wpAny_pure ?_)
  refine wpAny_pure ?_
  dsimp only
  have but : Heap.SameBut a s.heap (s.heap.update a (Obj.putSet (od.filterMap (es[·]?)) t')) := Heap.SameBut.update ..
  refine wpAny_storeSet_of go dat (hQ _ L2 _ (ep + 1) t' but ⟨⟨_, store_at go dat, ⟨xo.1, xo.2.1, xo.2.2⟩, rfl⟩, r1, T, (r2.map (·.2)).nodup_iff.mpr nd, fun p mp => isT_same (tps p (r2.mem_iff.mp mp)) go dat but, ep' ▸ pn, el ▸ led, ?_⟩ em r2) (by omega)
  rw [r2.length_eq, em]
  exact rm
theorem mk7 : Mk 7 := ⟨3, rfl, by decide, by decide⟩
/-- the next size of a table -/
theorem next_size {n m : Nat} (hm : m = 7 ∨ m = 31 ∨ m = 127 ∨ m = 511 ∨ m = 2047) (l : n * 5 < m * 3) (u : (n + 1) * 5 ≥ m * 3) : ∃ m', SetTable.sizeAbove (SetTable.grown (n + 1)) = m' + 1 ∧ Mk m' ∧ (n + 1) * 5 < m' * 3 ∧ (m' = 31 ∨ m' = 127 ∨ m' = 511 ∨ m' = 2047 ∨ m' = 8191) := by
  rcases hm with e | e | e | e | e <;> subst e
  · obtain rfl : n = 4 := by omega
    exact ⟨31, by decide +kernel, ⟨5, rfl, by decide, by decide⟩, by decide, .inl rfl⟩
  · obtain rfl : n = 18 := by omega
    exact ⟨127, by decide +kernel, ⟨7, rfl, by decide, by decide⟩, by decide, .inr (.inl rfl)⟩
  · obtain rfl : n = 76 := by omega
    exact ⟨511, by decide +kernel, ⟨9, rfl, by decide, by decide⟩, by decide, .inr (.inr (.inl rfl))⟩
  · obtain rfl : n = 306 := by omega
    exact ⟨2047, by decide +kernel, ⟨11, rfl, by decide, by decide⟩, by decide, .inr (.inr (.inr (.inl rfl)))⟩
  · obtain rfl : n = 1228 := by omega
    exact ⟨8191, by decide +kernel, ⟨13, rfl, by decide, by decide⟩, by decide, .inr (.inr (.inr (.inr rfl)))⟩
end
end Vx
namespace Vx
open PySem PySem.Spec PyProof.Rows L2
section
variable {P : Program} {w : World} {A : Around} {E : Value → Shared → Prop} {s : Shared} {a : Addr} {L : List (Addr × List Int)} {es : Array (Int × Value)} {ep : Nat} {t : SetTable}
def Size6 (m : Nat) : Prop := m = 7 ∨ m = 31 ∨ m = 127 ∨ m = 511 ∨ m = 2047 ∨ m = 8191
/-- one tuple added -/
theorem MT.add (R : MT P w s.heap a L es ep t) (z6 : Size6 t.mask) {x : Addr} {k : List Int} (hx : IsT P w s.heap k x) (hu : A.units < cLine) (few : L.length < 4500) {Q : Bool → Shared → Prop}
    (hQ : ∀ b h' L' es' ep' t', Heap.SameBut a s.heap h' → MT P w h' a L' es' ep' t' → Size6 t'.mask → ((k ∈ L.map (·.2) ∧ L' = L) ∨ (k ∉ L.map (·.2) ∧ L'.Perm ((x, k) :: L))) → Q b { s with heap := h' }) :
    wpAny (model P w) A (setAddHashed a (.ref x) (thash P w k)) Q E s := by
  obtain ⟨o, go, xo, dat⟩ := R.obj
  have sz := R.sz
  have rm := R.roomy
  have line := sizeLine_eq
  unfold setAddHashed
  rw [show (100000 : Nat) = 99999 + 1 from rfl]
  refine wpAny_holding ?_
  rw [setAddHashedIn_succ]
  refine wpAny_bind (wpAny_setState_of go dat R.fit ?_)
  dsimp only
  refine wp_if_neg (by simp [byScan, Value.scannable]) ?_
  try refine wpAny_bind (wpAny_pure ?_)
  refine wpAny_bind (R.search hx hu (fun m => ?_) fun C m free full => ?_)
  · dsimp only
    exact wpAny_pure (hQ false s.heap L es ep t (Heap.SameBut.refl a s.heap) R z6 (.inl ⟨m, rfl⟩))
  · dsimp only
    refine wpAny_bind (wpAny_setState_of go dat R.fit ?_)
    dsimp only
    obtain ⟨p, ep1, lp, T1, fl⟩ := R.tb.more free full
    have pn1 : (t.put (way t.mask (thash P w k) C)).1.plain = true := R.pln
    have ld1 : w.params.followText "set-order" = true ∨ (t.put (way t.mask (thash P w k) C)).1.led = true := R.ld
    have mk1 : (t.put (way t.mask (thash P w k) C)).1.mask = t.mask := rfl
    generalize hpt : t.put (way t.mask (thash P w k) C) = pt at ep1 T1 fl pn1 ld1 mk1 ⊢
    obtain ⟨t1, p1⟩ := pt
    dsimp only at ep1 T1 fl pn1 ld1 mk1 ⊢
    subst ep1
    first
      | (refine wpAny_bind ?_; refine wp_if_pos pn1 ?_; refine hashBy_tup hx ?_)
      | refine wp_if_pos pn1 (wpAny_bind (hashBy_tup hx ?_))
    simp only [if_true]
    have ins : (SetTable.insertAt es p1 (thash P w k, Value.ref x)).toList = rowsOf P w (L.take p1 ++ (x, k) :: L.drop p1) := by
      rw [SetTable.toList_insertAt, R.rws, rows_put]
    have pm := put_perm L p1 (x, k)
    have hh : (hashes P w L).take p1 ++ thash P w k :: (hashes P w L).drop p1 = hashes P w (L.take p1 ++ (x, k) :: L.drop p1) := by
      unfold hashes
      rw [List.map_append, List.map_cons, List.map_take, List.map_drop]
    rw [hh] at T1
    rw [hashes, List.length_map] at fl
    generalize SetTable.insertAt es p1 (thash P w k, Value.ref x) = es1 at ins ⊢
    generalize L.take p1 ++ (x, k) :: L.drop p1 = L1 at pm T1 ins
    have l1 : L1.length = L.length + 1 := pm.length_eq
    have sz1 : es1.size = L.length + 1 := (rows_size ins).trans l1
    have nd1 : (L1.map (·.2)).Nodup := (pm.map (·.2)).nodup_iff.mpr (List.nodup_cons.mpr ⟨m, R.ndp⟩)
    refine wpAny_bind (wpAny_storeSet_of go dat ?_ (by omega))
    have but : Heap.SameBut a s.heap (s.heap.update a (Obj.putSet es1 t1)) := Heap.SameBut.update ..
    have go1 := store_at (es' := es1) (t' := t1) go dat
    generalize s.heap.update a (Obj.putSet es1 t1) = h1 at but go1 ⊢
    have tps1 : ∀ p ∈ L1, IsT P w h1 p.2 p.1 := fun p mp => (List.mem_cons.mp (pm.mem_iff.mp mp)).elim (fun e => e ▸ isT_same hx go dat but) fun mp => isT_same (R.tps p mp) go dat but
    have pl1 : t1.place.size = L1.length := T1.size.trans (List.length_map _)
    by_cases full1 : t1.tooFull = true
    · first
        | (refine wpAny_bind ?_; refine wp_if_pos (by simp [full1]) ?_)
        | (refine wp_if_pos (by simp [full1]) ?_; refine wpAny_bind ?_)
      have up : (L.length + 1) * 5 ≥ t.mask * 3 := by
        unfold SetTable.tooFull at full1
        rw [decide_eq_true_eq, fl, mk1] at full1
        exact full1
      have z5 : t.mask = 7 ∨ t.mask = 31 ∨ t.mask = 127 ∨ t.mask = 511 ∨ t.mask = 2047 := by
        rcases z6 with z | z | z | z | z | z
        · exact .inl z
        · exact .inr (.inl z)
        · exact .inr (.inr (.inl z))
        · exact .inr (.inr (.inr (.inl z)))
        · exact .inr (.inr (.inr (.inr z)))
        · omega
      obtain ⟨m', e1, e2, e3, e4⟩ := next_size z5 rm up
      rw [sz]
      refine MT.relay (s := { s with heap := h1 }) (L := L1) go1 ⟨xo.1, xo.2.1, xo.2.2⟩ rfl ins (by omega) T1.nodum (by omega) nd1 tps1 pn1 ld1 e1 e2 (by rw [l1]; exact e3) fun h2 L2 es2 ep2 t2 but2 R2 em2 pm2 => ?_
      have l2 : L2.length = L.length + 1 := pm2.length_eq.trans l1
      have z2 : Size6 t2.mask := by
        rw [em2]
        exact .inr e4
      exact wpAny_pure (hQ true h2 L2 es2 ep2 t2 (but.trans but2) R2 z2 (.inr ⟨m, pm2.trans pm⟩))
    · first
        | refine wp_if_neg (by simp [full1]) ?_
        | (refine wpAny_bind ?_; refine wp_if_neg (by simp [full1]) ?_; refine wpAny_pure ?_)
      refine wpAny_pure (hQ true h1 L1 es1 (ep + 1) t1 but ⟨⟨_, go1, ⟨xo.1, xo.2.1, xo.2.2⟩, rfl⟩, ins, T1, nd1, tps1, pn1, ld1, ?_⟩ (mk1 ▸ z6) (.inr ⟨m, pm⟩))
      unfold SetTable.tooFull at full1
      rw [decide_eq_true_eq, fl] at full1
      omega
theorem MT.up {h h' : Heap} (R : MT P w h a L es ep t) (ha : ∀ o, h.get? a = some o → h'.get? a = some o) (ht : ∀ p ∈ L, IsT P w h' p.2 p.1) : MT P w h' a L es ep t := by
  obtain ⟨⟨o, g, r⟩, r1, r2, r3, _, r5, r6, r7⟩ := R
  exact ⟨⟨o, ha o g, r⟩, r1, r2, r3, ht, r5, r6, r7⟩
theorem MT.empty {h : Heap} (ho : h.get? a = some (bareSet w)) : MT P w h a [] #[] 0 (.fresh 0 0 (!w.params.followText "set-order")) := by
  refine ⟨⟨_, ho, ⟨rfl, rfl, rfl⟩, rfl⟩, rfl, ⟨List.Pairwise.nil, rfl, rfl, mk7, fun x m => (by cases m), fun i g j e => (by simp at e)⟩, List.nodup_nil, fun p m => (by cases m), rfl, ?_, (by show 0 * 5 < 7 * 3; decide)⟩
  cases z : w.params.followText "set-order"
  · exact .inr rfl
  · exact .inl rfl
/-- all of them, one after the other -/
theorem add_all {I : Addr} {fp wr : List Addr} {G : Array GenState → Array GenState → Prop} {n : Nat} {Pv : Nat → Value → Prop} {St : Nat → Shared → Prop} {Z : Result → Shared → Prop} (W : WalksS P w A.in1 I fp wr G n Pv St) (S : Addr) (out : S ∉ fp)
    (ks : List (Addr × List Int)) (hn : n = ks.length) (few : ks.length ≤ 4500) (val : ∀ i v, Pv i v → ∃ p, ks[i]? = some p ∧ v = .ref p.1) (h0 : Heap) (hk : ∀ p ∈ ks, IsT P w h0 p.2 p.1) (nS : h0.get? S = none) (nw : ∀ b ∈ wr, h0.get? b = none) (hu : A.in1.units < cLine) :
    ∀ (d i : Nat) (s : Shared), i + d = n → St i s → (∀ b o, h0.get? b = some o → s.heap.get? b = some o) → (∃ L es ep t, MT P w s.heap S L es ep t ∧ Size6 t.mask ∧ Got ks i L) →
      (∀ s' L es ep t, Moved (S :: wr) G s s' → MT P w s'.heap S L es ep t → Size6 t.mask → Got ks n L → Z (.ok (.ret .none)) s') →
      codeAny (model P w) A (.builtin "set.update.loop" ⟨[.ref S, .ref I], []⟩) Z s := by
  have offw : S ∉ wr := fun m => out (W.sub _ m)
  have wider : ∀ b ∈ wr, b ∈ S :: wr := fun b m => List.mem_cons_of_mem _ m
  have still : ∀ {s s' : Shared}, Moved wr G s s' → (∀ b o, h0.get? b = some o → s.heap.get? b = some o) → ∀ b o, h0.get? b = some o → s'.heap.get? b = some o := fun mv kp b o e =>
    mv.heap b o (fun m => by rw [nw b m] at e; cases e) (kp b o e)
  intro d
  induction d with
  | zero =>
    intro i s hi st kp ⟨L, es, ep, t, hS, z6, g⟩ fin
    obtain rfl : i = n := hi
    refine codeAny_builtin F.entry_set_update_loop ?_
    rw [Around.under_plainId F.plain_set_update_loop _]
    show wpAny _ A.in1 (pyNext (.ref I) >>= _) _ _ s
    refine wpAny_bind (W.done s _ _ st fun s' mv => ?_)
    exact wpAny_pure (fin s' L es ep t (mv.mono wider) (hS.up (fun o e => mv.heap S o offw e) fun p mp => isT_keep (hk p (List.mem_of_mem_take (g.sub p mp))) (still mv kp)) z6 g)
  | succ d ih =>
    intro i s hi st kp ⟨L, es, ep, t, hS, z6, g⟩ fin
    refine codeAny_builtin F.entry_set_update_loop ?_
    rw [Around.under_plainId F.plain_set_update_loop _]
    show wpAny _ A.in1 (pyNext (.ref I) >>= _) _ _ s
    refine wpAny_bind (W.item i s _ _ (by omega) st fun v s' pv st' mv => ?_)
    obtain ⟨p, hp, rfl⟩ := val i v pv
    have kp' := still mv kp
    have hS' : MT P w s'.heap S L es ep t := hS.up (fun o e => mv.heap S o offw e) fun q mq => isT_keep (hk q (List.mem_of_mem_take (g.sub q mq))) kp'
    have hx : IsT P w s'.heap p.2 p.1 := isT_keep (hk p (List.mem_of_getElem? hp)) kp'
    show wpAny _ A.in1 (holding [Value.ref p.1] (setAdd S (.ref p.1)) >>= _) _ _ s'
    unfold setAdd
    refine wpAny_bind (wpAny_holding (wpAny_holding (wpAny_bind (wpAny_pyHash_tuple hu hx ?_))))
    have gl := g.len
    have li := (List.getElem?_eq_some_iff.mp hp).1
    refine MT.add (s := { s' with toks := s'.toks + (p.2.length + 1) }) hS' z6 hx hu (by omega) fun b h' L' es' ep' t' but hS2 z6' which => ?_
    have g' : Got ks (i + 1) L' := by
      rcases which with ⟨m, rfl⟩ | ⟨_, pm⟩
      · exact g.same hp m
      · exact g.more hp pm
    have kp2 : ∀ b o, h0.get? b = some o → h'.get? b = some o := fun b o e => by
      rw [but.2 b fun z => by rw [z, nS] at e; cases e]
      exact kp' b o e
    refine wpAny_pure ⟨plainId_quiet F.plain_set_update_loop _, ih (i + 1) _ (by omega) (W.frame _ s' _ _ st' (Nat.le_add_right _ _) fun b mb o e => ?_) kp2 ⟨L', es', ep', t', hS2, z6', g'⟩ fun s2 L2 es2 ep2 t2 mv2 r2 z2 g2 => ?_⟩
    · show h'.get? b = some o
      rw [but.2 b fun z : b = S => out (z ▸ mb)]
      exact e
    · refine fin s2 L2 es2 ep2 t2 (Moved.trans W.gtrans ((mv.mono wider).then_heap (Nat.le_add_right _ _) fun b o mb e => ?_) mv2) r2 z2 g2
      show h'.get? b = some o
      rw [but.2 b fun z : b = S => mb (z ▸ List.mem_cons_self)]
      exact e
theorem set_of_tups {l : Addr} {its : Array Value} (ks : List (Addr × List Int)) {Q : Value → Shared → Prop} (calm : A.handled = none) (hl : s.heap.IsList l its) (hi : its.toList = ks.map fun p => Value.ref p.1) (hk : ∀ p ∈ ks, IsT P w s.heap p.2 p.1) (few : ks.length ≤ 4500) (hu : A.units + 3 < cLine)
    (k : ∀ (g : Heap) (tk : Nat) L es ep t, MT P w g s.heap.objs.size L es ep t → Size6 t.mask → Got ks ks.length L → (∀ b o, s.heap.get? b = some o → g.get? b = some o) → Q (.ref s.heap.objs.size) { s with heap := g, toks := tk }) :
    wpAny (model P w) A (call (.type "set") [.ref l]) Q E s := by
  have len : its.size = ks.length := by rw [← Array.length_toList, hi, List.length_map]
  obtain ⟨c0, tl, hmro⟩ := F.called_set.mro
  have hmade := F.called_set.made
  have hsub := F.called_set.sub
  refine wpAny_call (codeAny_of_tree ?_)
  show wpAny _ _ (callAny (.type "set") _) _ _ _
  refine wpAny_pure ⟨Code.quiet_builtin _ (by decide +kernel), codeAny_builtin F.entry_type_call ?_⟩
  rw [Around.under_plain (weight_type_call_type "set" [.ref l] []) rfl]
  have n1 := F.called_set.notType
  have n2 := F.called_set.canCreate
  have n3 := F.typeCall_set_1 (.ref l)
  repeat (any_goals (first | assumption | wp_step))
  refine codeAny_mono (code_set_led1 (.ref l) (E := E) (Q₁ := fun ob s1 => ob = .ref s.heap.objs.size ∧ s1 = { s with heap := s.heap.push (bareSet w) }) ⟨rfl, rfl⟩) fun r s1 hr => ?_
  rcases r with e | fl
  · exact hr
  cases fl with
  | ret ob =>
    obtain ⟨rfl, rfl⟩ := hr
    have at0 : (s.heap.push (bareSet w)).get? s.heap.objs.size = some (bareSet w) := Heap.get?_push_size _ rfl
    have ty0 : Shared.TypeIs { s with heap := s.heap.push (bareSet w) } (.ref s.heap.objs.size) "set" := ⟨_, at0, rfl⟩
    have i1 := F.called_set.init.lookup
    have i2 := F.called_set.init.bind (.ref s.heap.objs.size)
    repeat (any_goals (first | assumption | wp_step))
    refine codeAny_mono (codeAny_call_builtin (R := wants (fun v s2 => v = .none ∧ ∃ g tk L es ep t, s2 = { s with heap := g, toks := tk } ∧ MT P w g s.heap.objs.size L es ep t ∧ Size6 t.mask ∧ Got ks ks.length L ∧
        (∀ b o, s.heap.get? b = some o → g.get? b = some o)) E) F.called_set.init.plain F.entry_set_init (check_set_init_1 ty0 ?_)) fun r2 s2 hr2 => ?_
    · obtain ⟨⟨oc, od, ob, osl⟩, hol, hcl, nl, hdl⟩ := hl
      simp only at hcl hdl
      subst hcl hdl
      have at1 : (s.heap.push (bareSet w)).get? l = some { cls := .type "list", dict := od, data := .seq its nl, slots := osl } := Heap.get?_push_of_some _ hol
      have q1 := F.sub_list_set
      have q2 := F.sub_list_frozenset
      have q3 : (Value.type "list" == Value.type "dict") = false := by decide
      have isl : (s.heap.push (bareSet w)).IsList l its := ⟨_, at1, rfl, nl, rfl⟩
      unfold Builtin.«set.__init__» noKeywords Builtin.Frozenset.updateFrom
      generalize hPI : pyIter = PI
      wp_walk
      subst hPI
      refine wpAny_pyIter_list isl ?_
      refine wpAny_bind (wpAny_runValue ?_)
      have lS : l < s.heap.objs.size := Heap.lt_size hol
      have calm3 : A.in1.in1.in1.handled = none := by simp [calm]
      have neI : l ≠ (s.heap.push (bareSet w)).objs.size := by
        rw [Heap.size_push]
        exact Nat.ne_of_lt (Nat.lt_succ_of_lt lS)
      have noS : s.heap.objs.size ∉ [(s.heap.push (bareSet w)).objs.size, l] := by
        rw [Heap.size_push]
        simp only [List.mem_cons, List.mem_singleton, List.not_mem_nil, or_false, not_or]
        exact ⟨Nat.ne_of_lt (Nat.lt_succ_self _), Nat.ne_of_gt lS⟩
      have item : ∀ (i : Nat) (v : Value), its[i]? = some v → ∃ p, ks[i]? = some p ∧ v = .ref p.1 := fun i v hv => by
        rw [← Array.getElem?_toList, hi, List.getElem?_map] at hv
        obtain ⟨p, hp, rfl⟩ := Option.map_eq_some_iff.mp hv
        exact ⟨p, hp, rfl⟩
      have bare : ∀ b, s.heap.objs.size ≤ b → s.heap.get? b = none := fun b le => Option.eq_none_iff_forall_ne_some.mpr fun o e => by
        exact Nat.lt_irrefl _ (Nat.lt_of_lt_of_le (Heap.lt_size e) le)
      refine add_all ((Walks.list calm3 _ l neI its).toS) s.heap.objs.size noS ks len few item s.heap hk (bare _ (Nat.le_refl _)) (fun b mb => bare b (by
          rw [List.mem_singleton.mp mb, Heap.size_push]
          exact Nat.le_succ _)) hu its.size 0 _ (Nat.zero_add _) ⟨⟨_, Heap.get?_push_size _ rfl, rfl, rfl⟩, (isl.push _)⟩ (fun b o e => Heap.get?_push_of_some _ (Heap.get?_push_of_some _ e)) ?s0 ?fin
      case s0 => exact ⟨[], #[], 0, _, MT.empty (Heap.get?_push_of_some _ at0), .inl rfl, Got.zero ks⟩
      case fin =>
        intro s3 L es ep t mv hS3 z6 g3
        obtain ⟨g, ge, dr, t3, os3⟩ := s3
        cases (show ge = s.gens from mv.gens)
        cases (show dr = s.drawn from mv.drawn)
        cases (show os3 = s.os from mv.os)
        show wpAny _ _ _ _ _ _
        refine wpAny_pure ?_
        show wpAny _ _ (ret Value.none) _ _ _
        rw [len] at g3
        refine wpAny_pure ⟨rfl, g, t3, L, es, ep, t, rfl, hS3, z6, g3, fun b o e => ?_⟩
        have b0 : b < s.heap.objs.size := Heap.lt_size e
        have b2 : b ≠ (s.heap.push (bareSet w)).objs.size := by
          rw [Heap.size_push]
          exact Nat.ne_of_lt (Nat.lt_succ_of_lt b0)
        exact mv.heap b o (by simp only [List.mem_cons, List.mem_singleton, List.not_mem_nil, or_false, not_or]; exact ⟨Nat.ne_of_lt b0, b2⟩) (Heap.get?_push_of_some _ (Heap.get?_push_of_some _ e))
    · rcases r2 with e | fl2
      · exact hr2
      cases fl2 with
      | ret v =>
        obtain ⟨rfl, g, tk, L, es, ep, t, rfl, hS, z6, hg, hk'⟩ := hr2
        repeat (any_goals (first | assumption | wp_step))
        exact k _ _ _ _ _ _ hS z6 hg hk'
      | _ => exact hr2.elim
  | _ => exact hr.elim
end
/-- such a set, its tuples told apart from it -/
def SetM (P : Program) (w : World) (a : Addr) (L : List (Addr × List Int)) : HO := .ext fun h => ∃ es ep t, (∃ o, h.get? a = some o ∧ o.ExactSet ∧ o.data = .set es ep t) ∧ es.toList = rowsOf P w L ∧ Tab t (hashes P w L) ∧ (L.map (·.2)).Nodup ∧ t.plain = true ∧
  (w.params.followText "set-order" = true ∨ t.led = true) ∧ L.length * 5 < t.mask * 3
theorem setM_new {P : Program} {w : World} {H : Hp} {h : Heap} {a : Addr} {L : List (Addr × List Int)} {es : Array (Int × Value)} {ep : Nat} {t : SetTable} (R : MT P w h a L es ep t) : ObjOk P w H h a (SetM P w a L) := by
  obtain ⟨⟨o, g, r⟩, r1, r2, r3, _, r5, r6, r7⟩ := R
  refine ⟨⟨es, ep, t, ⟨o, g, r⟩, r1, r2, r3, r5, r6, r7⟩, ⟨o, g⟩, fun h1 h2 p k => ?_⟩
  obtain ⟨es', ep', t', ⟨o', g', r'⟩, q⟩ := p
  exact ⟨es', ep', t', ⟨o', k o' g', r'⟩, q⟩
def SetB (P : Program) (w : World) (H : Hp) (a : Addr) (ps : List Pr) : Prop :=
  ∃ L : List (Addr × List Int), H a = some (SetM P w a L) ∧ L.length ≤ 4000 ∧ (∀ q ∈ L, q.2.length = 2 ∧ H q.1 = some (.tup (q.2.map V.int))) ∧ ∀ x, x ∈ L.map (fun q => pr q.2) ↔ x ∈ ps
section
variable {X : Cx}
theorem cr_setB (hc : X.calm = true) (hu : X.A.units + 64 < cLine) : CallR X (.type "set") (fun xs H Q => ∃ l ps, xs = [V.ref l] ∧ Cells H l ps ∧ ps.length ≤ 4000 ∧
    ∀ a H', Same H H' → H a = none → SetB X.prog X.w H' a ps → Q (.ref a) H') := by
  intro pins s σ H xs us Q I r h
  obtain ⟨l, ps, rfl, ⟨ts, hl, ht, rfl⟩, few, q⟩ := h
  rw [List.length_map] at few
  rw [Vals.ref1 r]
  obtain ⟨its, rv, pl, hz⟩ := I.list (lst_of hl)
  have n : H s.heap.objs.size = none := I.hok.fresh (Nat.le_refl _)
  have each : ∀ t ∈ ts, H t.1 = some (.tup (([t.2.1, t.2.2] : List Int).map V.int)) := ht
  have er : its = ts.map fun t => Value.ref t.1 := by
    refine refs_of_vals (ks := ts.map fun t => (t.1, ([t.2.1, t.2.2] : List Int))) ?_ |>.trans ?_
    · rw [List.map_map]
      exact rv
    · rw [List.map_map]
      rfl
  refine set_of_tups (P := X.prog) (w := X.w) (ts.map fun t => (t.1, [t.2.1, t.2.2])) (I.ok.hd hc) pl.isList (by simp [er]) (fun p mp => ?_) (by rw [List.length_map]; omega) (by omega) fun g tk L es ep t R _ got k => ?_
  · obtain ⟨t, mt, rfl⟩ := List.mem_map.mp mp
    exact I.isT (tup_of (each t mt))
  · have sub : ∀ p ∈ L, ∃ t ∈ ts, p = (t.1, [t.2.1, t.2.2]) := fun p mp => by
      obtain ⟨t, mt, e⟩ := List.mem_map.mp (List.mem_of_mem_take (got.sub p mp))
      exact ⟨t, mt, e.symm⟩
    have gl := got.len
    rw [List.length_map] at gl
    refine ⟨.ref s.heap.objs.size, upd H s.heap.objs.size (SetM X.prog X.w s.heap.objs.size L), I.laid (t' := tk) k (Nat.le_refl _) (setM_new R), rfl, q _ _ (newS n) n ⟨L, upd_same, by omega, fun p mp => ?_, fun x => ⟨fun m => ?_, fun m => ?_⟩⟩⟩
    · obtain ⟨t, mt, rfl⟩ := sub p mp
      exact ⟨rfl, newS n _ _ (each t mt)⟩
    · obtain ⟨p, mp, rfl⟩ := List.mem_map.mp m
      obtain ⟨t, mt, rfl⟩ := sub p mp
      exact List.mem_map.mpr ⟨t, mt, rfl⟩
    · obtain ⟨t, mt, rfl⟩ := List.mem_map.mp m
      obtain ⟨p, mp, e⟩ := List.mem_map.mp (got.all (t.1, [t.2.1, t.2.2]) (by rw [List.take_length]; exact List.mem_map.mpr ⟨t, mt, rfl⟩))
      exact List.mem_map.mpr ⟨p, mp, by rw [e]; rfl⟩
end
end Vx
namespace Vx
open PySem PySem.Spec PyProof.Rows L2
section
variable {P : Program} {w : World} {A : Around} {E : Value → Shared → Prop} {s : Shared}
/-- the set's members, sorted -/
theorem sorted_pairsB {a : Addr} {L : List (Addr × List Int)} {es : Array (Int × Value)} {ep : Nat} {t : SetTable} {Q : Value → Shared → Prop} (R : MT P w s.heap a L es ep t) (few : L.length ≤ 4000) (hh : A.handled = none) (h2 : ∀ q ∈ L, q.2.length = 2)
    (hQ : ∀ s' p (ts : List (Addr × Pr)) (c : Nat), (∀ b o, s.heap.get? b = some o → s'.heap.get? b = some o) → s'.gens = s.gens → s'.os = s.os → s.heap.objs.size ≤ p →
      s'.heap.get? p = some (seqObj "list" (ts.map fun q => Value.ref q.1).toArray c) → (∀ q ∈ ts, ∃ r ∈ L, r.1 = q.1 ∧ pr r.2 = q.2) → (∀ x, x ∈ ts.map (·.2) ↔ x ∈ L.map fun q => pr q.2) → (ts.map (·.2)).Pairwise ltP → ts.length = L.length → Q (.ref p) s') :
    wpAny (model P w) A (call (.builtin "sorted") [.ref a]) Q E s := by
  obtain ⟨o, go, xo, dat⟩ := R.obj
  refine Calls.call_function_entry kind_sorted plain_sorted entry_sorted (args_sorted1 _) ?_
  unfold Builtin.«sorted»
  refine wpAny_bind (m := checkCount "sorted" 1 1 _) (wpAny_pure ?_)
  refine wpAny_bind (collect_set (A := A.in1) hh ⟨o, go, xo.1, dat⟩ R.fit (by rw [R.sz]; unfold scanBound; omega) R.tb.up R.ld fun s1 vs keep sz gg oo pm => ?_)
  have em : es.toList.map (·.2) = L.map fun q => Value.ref q.1 := by
    rw [R.rws]
    show (L.map fun q => (thash P w q.2, Value.ref q.1)).map (·.2) = _
    rw [List.map_map] <;> rfl
  rw [em] at pm
  have vl : vs.length = L.length := by rw [pm.length_eq, List.length_map]
  have lim : vs.length ≤ sizeLine := by
    rw [sizeLine_eq]
    omega
  refine wpAny_bind (wpAny_newList ?_ lim)
  have gl : (s1.heap.push (seqObj "list" vs.toArray 0)).get? s1.heap.objs.size = some (seqObj "list" vs.toArray 0) := Heap.get?_push_size _ rfl
  generalize hh1 : s1.heap.push (seqObj "list" vs.toArray 0) = h1 at gl
  have keep1 : ∀ b u, s1.heap.get? b = some u → h1.get? b = some u := fun b u e => by
    rw [← hh1]
    exact Heap.get?_push_of_some _ e
  have tin : ∀ q ∈ L, TS.TupInts h1 (.ref q.1) q.2 := fun q m => tupInts_of (P := P) (w := w) (isT_keep (R.tps q m) fun b u e => keep1 b u (keep b u e))
  have mem : ∀ v ∈ vs, ∃ q ∈ L, v = Value.ref q.1 := fun v m => by
    obtain ⟨q, m1, e⟩ := List.mem_map.mp (pm.mem_iff.mp m)
    exact ⟨q, m1, e.symm⟩
  have key : ∀ q ∈ L, pr (TS.intsOf h1 (.ref q.1)) = pr q.2 := fun q m => by rw [(tin q m).ints]
  have isP : ∀ v ∈ vs, Srt.IsPair h1 v (pr (TS.intsOf h1 v)).1 (pr (TS.intsOf h1 v)).2 := fun v m => by
    obtain ⟨q, m1, rfl⟩ := mem v m
    rw [key q m1]
    have i := tin q m1
    have l2 := len2 (h2 q m1)
    rw [l2] at i
    obtain ⟨b, items, eb, ⟨o1, go1, co1, n1, do1⟩, ia⟩ := i
    cases eb
    obtain ⟨xs⟩ := items
    cases ia with
    | cons _ t1 ia =>
      cases ia with
      | cons _ t2 ia =>
        cases ia
        exact ⟨_, o1, t1, t2, n1, rfl, go1, co1, do1⟩
  refine wpAny_bind (wpAny_holding (wpAny_call_entry (s := { s1 with heap := h1 }) slot_list_sort ⟨_, gl, rfl⟩ entry_list_sort (SrtO.list_sort_ord (s := { s1 with heap := h1 }) (SrtO.swo_lex fun v => pr (TS.intsOf h1 v)) gl lim (fun two => SrtO.pairs_sortableO (by omega) isP fun o1 e => ?_) fun out srt stb => ⟨_, rfl, ?_⟩) (args_list_sort _)))
  · have e' : some o1 = some (seqObj "list" vs.toArray 0) := e.symm.trans gl
    cases e'
    intro c
    exact absurd (Value.type.inj c) (by decide)
  · obtain ⟨c, gc⟩ := sortedHeap_at (vs := vs) (out := out.toArray) gl
    have omem : ∀ v ∈ out, ∃ q ∈ L, v = Value.ref q.1 := fun v m => mem v (stb.perm.mem_iff.mp m)
    refine wpAny_pure ⟨_, rfl, hQ _ s1.heap.objs.size (out.map fun v => (adr v, pr (TS.intsOf h1 v))) c (fun b u e => ?_) gg oo sz ?_ ?_ ?_ ?_ ?_⟩
    · have g1 := keep b u e
      have lt1 := Heap.lt_size g1
      show (sortedHeap h1 s1.heap.objs.size vs out.toArray).get? b = some u
      rw [sortedHeap_old (Nat.ne_of_lt lt1) (Heap.lt_size (keep1 b u g1))]
      exact keep1 b u g1
    · have eo : (out.map fun v => (adr v, pr (TS.intsOf h1 v))).map (fun q => Value.ref q.1) = out := by
        rw [List.map_map]
        refine (List.map_congr_left fun v m => ?_).trans (List.map_id _)
        obtain ⟨q, _, rfl⟩ := omem v m
        rfl
      rw [eo]
      exact gc
    · intro q m
      obtain ⟨v, m1, rfl⟩ := List.mem_map.mp m
      obtain ⟨r, mr, rfl⟩ := omem v m1
      exact ⟨r, mr, rfl, (key r mr).symm⟩
    · intro x
      rw [List.map_map]
      constructor
      · intro m
        obtain ⟨v, m1, rfl⟩ := List.mem_map.mp m
        obtain ⟨r, mr, rfl⟩ := omem v m1
        exact List.mem_map.mpr ⟨r, mr, (key r mr).symm⟩
      · intro m
        obtain ⟨r, mr, rfl⟩ := List.mem_map.mp m
        exact List.mem_map.mpr ⟨.ref r.1, stb.perm.mem_iff.mpr (pm.mem_iff.mpr (List.mem_map.mpr ⟨r, mr, rfl⟩)), key r mr⟩
    · rw [List.map_map]
      have nd : ((L.map fun q => Value.ref q.1).map fun v => pr (TS.intsOf h1 v)).Nodup := by
        rw [List.map_map]
        refine List.pairwise_map.mpr ((List.pairwise_map.mp R.ndp).imp_of_mem fun {q r} mq mr ne e => ne ?_)
        refine pr_inj (h2 q mq) (h2 r mr) ?_
        rw [← key q mq, ← key r mr]
        exact e
      have nd2 : (out.map fun v => pr (TS.intsOf h1 v)).Nodup := ((stb.perm.trans pm).map _).nodup_iff.mpr nd
      refine List.pairwise_map.mpr ((srt.and (List.pairwise_map.mp nd2)).imp fun {u v} h => ?_)
      have a1 := SrtO.lexB_no.mp h.1
      refine SrtO.lexB_iff.mpr ?_
      have a2 : ¬ ((pr (TS.intsOf h1 u)).1 = (pr (TS.intsOf h1 v)).1 ∧ (pr (TS.intsOf h1 u)).2 = (pr (TS.intsOf h1 v)).2) := fun e => h.2 (Prod.ext e.1 e.2)
      show (pr (TS.intsOf h1 u)).1 < (pr (TS.intsOf h1 v)).1 ∨ (pr (TS.intsOf h1 u)).1 = (pr (TS.intsOf h1 v)).1 ∧ (pr (TS.intsOf h1 u)).2 < (pr (TS.intsOf h1 v)).2
      omega
    · rw [List.length_map, stb.perm.length_eq, vl]
end
section
variable {X : Cx}
theorem cr_sortedB (hc : X.calm = true) : CallR X (.builtin "sorted") (fun xs H Q => ∃ a ps, xs = [V.ref a] ∧ SetB X.prog X.w H a ps ∧
    ∀ p H' qs, Same H H' → H p = none → Cells H' p qs → qs.Pairwise ltP → (∀ x, x ∈ qs ↔ x ∈ ps) → qs.length ≤ 4000 → Q (.ref p) H') := by
  intro pins s σ H vs us Q I r h
  obtain ⟨a, ps, rfl, ⟨L, ha, few, hL, mem⟩, q⟩ := h
  obtain ⟨es, ep, t, r1, r2, r3, r4, r5, r6, r7⟩ := (I.hok a _ ha).1
  have R : MT X.prog X.w s.heap a L es ep t := ⟨r1, r2, r3, r4, fun p hp => I.isT (tup_of (hL p hp).2), r5, r6, r7⟩
  rw [Vals.ref1 r]
  refine sorted_pairsB R few (I.ok.hd hc) (fun q m => (hL q m).1) fun s' p ts c k g o hp hg own all pw le => ?_
  have lim : (ts.map fun q => V.ref q.1).length ≤ sizeLine := by
    rw [List.length_map, sizeLine_eq]
    omega
  have n : H p = none := I.hok.fresh hp
  have vals : ∀ ts : List (Addr × Pr), Vals (ts.map fun q => V.ref q.1) (ts.map fun q => Value.ref q.1) := fun ts => by
    induction ts with
    | nil => exact .nil
    | cons t ts ih => exact .cons rfl ih
  have J : Inv X pins σ (upd H p (.lst (ts.map fun q => V.ref q.1))) { s with heap := s'.heap, gens := s'.gens, drawn := s'.drawn, toks := s'.toks } :=
    I.call (ch := []) (Un.laid k hp n) (I.hok.laid k hp ⟨lim, _, c, vals ts, hg⟩) (by rw [g]; exact I.bare) (fun _ z => nomatch z)
  have e : s' = { s with heap := s'.heap, gens := s'.gens, drawn := s'.drawn, toks := s'.toks } := by
    obtain ⟨_, _, _, _, _⟩ := s'
    obtain ⟨_, _, _, _, _⟩ := s
    cases o
    rfl
  rw [e]
  have sm : Same H (upd H p (.lst (ts.map fun q => V.ref q.1))) := newS n
  refine ⟨.ref p, _, J, rfl, q p _ (ts.map (·.2)) sm n ⟨ts, upd_same, fun t m => ?_, rfl⟩ pw (fun x => (all x).trans (mem x)) (by rw [List.length_map, le]; exact few)⟩
  obtain ⟨r, mr, e1, e2⟩ := own t m
  have z := sm _ _ (hL r mr).2
  rw [len2 (hL r mr).1, e1, e2] at z
  exact z
end
end Vx
namespace Vx
open PySem PySem.Spec PyProof.Rows L2
section
variable {X : Cx}
/-- xs[j], read for xs[j] op= v -/
theorem pget_list : PGet X (fun o i H Q => ∃ p xs j v, o = .ref p ∧ i = .int ((j : Nat) : Int) ∧ SqL X.K H p xs ∧ xs[j]? = some v ∧ Q v H) := by
  intro pins s σ H o i ov iv Q I ro ri h
  obtain ⟨p, xs, j, v, rfl, rfl, hs, hv, q⟩ := h
  cases ro
  obtain ⟨t, rfl⟩ := ri
  obtain ⟨its, r, pl, hz⟩ := I.list hs
  obtain ⟨w, ew, rw'⟩ := r.get hv
  exact getItem_listL pl.isList (by omega) (by have := line63; have := (List.getElem?_eq_some_iff.mp hv).1; omega) (by simpa using ew) ⟨v, H, I, rw', q⟩
theorem ip_addS : PIp X .Add (fun x y H Q => ∃ i j, x = .str i ∧ y = .str j ∧ i.length + j.length ≤ sizeLine ∧ Q (.str (i ++ j)) H) := fun pins s σ H x y v u Q I r1 r2 h => iop_add_str pins s σ H x y v u Q I r1 r2 h
end
theorem lc_pairs {lo : Int} {n : Nat} {g : TG} {tt : TT} {te : TE} {vs : List Nat} {σ : L2.St} {H1 : Hp} {D : Addr} {Qd : Hp → Prop} (f : Nat → Pr) (nD : H1 D = none) (few : n < sizeLine)
    (hs : ∀ (i : Nat) (H' : Hp) (Po : V → Hp → Prop) (Pn : Hp → Prop), i < n → Same H1 H' → (∀ t2, H' t2 = none → Po (.ref t2) (upd H' t2 (.tup [.int (f i).1, .int (f i).2]))) →
      g (.int (lo + i)) (wipe σ vs) H' fun σ2 H2 => wipe σ2 vs = wipe σ vs ∧ tt σ2 H2 fun b H3 => if b = true then te σ2 H3 Po else Pn H3)
    (hd : ∀ (H' : Hp) (us : List (Addr × Pr)), Same H1 H' → H' D = some (.lst (us.map fun t => V.ref t.1)) → (∀ t ∈ us, H' t.1 = some (.tup [.int t.2.1, .int t.2.2])) → us.map (·.2) = (List.range n).map f → Qd H') :
    ∃ W : Nat → Nat → Hp → Prop, (∃ m, W 0 m (upd H1 D (.lst []))) ∧ ∀ i m H, W i m H →
      ((Itr lo n).stop i H ∧ Qd H) ∨ ((Itr lo n).go i H ∧ ∃ Nx : Hp → Prop, (∀ H', Nx H' → ∃ m', m' < m ∧ W (i + 1) m' H') ∧ ∀ x H', (Itr lo n).yld i H x H' → g x (wipe σ vs) H' fun σ2 H2 => wipe σ2 vs = wipe σ vs ∧ tt σ2 H2 fun b H3 =>
        if b = true then te σ2 H3 fun y H4 => ∃ acc, H4 D = some (.lst acc) ∧ acc.length < sizeLine ∧ Nx (upd H4 D (.lst (acc ++ [y]))) else Nx H3) := by
  refine lc_range (lo := lo) (n := n) (fun i H' => Same H1 H' ∧ ∃ us : List (Addr × Pr), H' D = some (.lst (us.map fun t => V.ref t.1)) ∧ (∀ t ∈ us, H' t.1 = some (.tup [.int t.2.1, .int t.2.2])) ∧ us.map (·.2) = (List.range i).map f)
    ⟨newS nD, [], upd_same, fun _ m => (by cases m), rfl⟩ ?_ ?_
  · rintro i H' hi ⟨sm, us, h1, h2, h3⟩
    have ul : us.length = i := by
      have z := congrArg List.length h3
      rw [List.length_map, List.length_map, List.length_range] at z
      exact z
    refine hs i H' _ _ hi sm fun t2 n2 => ⟨us.map fun t => V.ref t.1, newS n2 _ _ h1, ?_, mutS (sm.trans (newS n2)) nD, us ++ [(t2, f i)], ?_, ?_, ?_⟩
    · rw [List.length_map, ul]
      omega
    · rw [upd_same, List.map_append]
      rfl
    · have nD2 : t2 ≠ D := fun e => by
        rw [e, h1] at n2
        cases n2
      intro u m
      rcases List.mem_append.mp m with m | m
      · have z := h2 u m
        rw [upd_ne (fun e => ?_)]
        · exact newS n2 _ _ z
        · rw [e, h1] at z
          cases z
      · rw [List.mem_singleton.mp m, upd_ne nD2, upd_same]
    · rw [List.map_append, h3, List.range_succ, List.map_append]
      rfl
  · rintro H' ⟨sm, us, h1, h2, h3⟩
    exact hd H' us sm h1 h2 h3
/-- a pair in a list of pairs -/
theorem any_pd (p : Pr) : ∀ ps : List Pr, (ps.map pd).any (fun z => PyData.eqv z (pd p)) = decide (p ∈ ps)
  | [] => by simp
  | q :: ps => by
    rw [List.map_cons, List.any_cons, any_pd p ps, eqv_pd]
    by_cases e : q = p
    · subst e
      simp
    · have e2 : ¬ p = q := fun z => e z.symm
      simp [e, e2]
theorem shaped_pd (p : Pr) : SeqAt.shaped (pd p) = true := by
  unfold SeqAt.shaped pd
  simp [PyData.canLay0, PyData.canLayAll0, PyData.depth, PyData.depthAll]
theorem op_inP {X : Cx} (hu : X.A.units + 65 < cLine) : OpR X (compareOp .In) (fun x y H Q => ∃ (t a : Addr) (p : Pr) (ps : List Pr), x = .ref t ∧ y = .ref a ∧ H t = some (.tup [.int p.1, .int p.2]) ∧ Cells H a ps ∧ Q (.bl (decide (p ∈ ps))) H) := by
  intro pins s σ H x y v u Q I rx ry h
  obtain ⟨t, a, p, ps, rfl, rfl, ht, hc, q⟩ := h
  refine op_inD hu pins s σ H _ _ v u Q I rx ry ⟨pd p, ps.map pd, .tup (tup_of ht) (.cons (.int _) (.cons (.int _) .nil)), dp_cells hc, shaped_pd p, shaped_cells ps, ?_⟩
  rw [any_pd]
  exact q
/-- sorted, of a list of pairs that may hold one several times -/
theorem cr_sortedN {X : Cx} : CallR X (.builtin "sorted") (fun xs H Q => ∃ l ps, xs = [V.ref l] ∧ Cells H l ps ∧
    ∀ p H' qs, Same H H' → H p = none → Cells H' p qs → qs.Perm ps → qs.Pairwise (fun x y => ¬ ltP y x) → Q (.ref p) H') := by
  intro pins s σ H xs us Q I r h
  obtain ⟨l, ps, rfl, ⟨ts, hl, ht, rfl⟩, q⟩ := h
  refine cr_sortedPO pins s σ H [V.ref l] us Q I r ⟨l, ts.map fun t => V.ref t.1, kH H, rfl, lst_of hl, fun x m => ?_, fun ys p srt stb n => ?_⟩
  · obtain ⟨t, m1, rfl⟩ := List.mem_map.mp m
    have g := ht t m1
    refine ⟨t.1, rfl, ?_⟩
    rw [kH_at g]
    exact g
  · have own : ∀ y ∈ ys, ∃ t ∈ ts, y = V.ref t.1 := fun y m => by
      obtain ⟨t, m1, e⟩ := List.mem_map.mp (stb.perm.mem_iff.mp m)
      exact ⟨t, m1, e.symm⟩
    have key : ∀ t ∈ ts, kH H (.ref t.1) = t.2 := fun t m => kH_at (ht t m)
    have pm : (ys.map (kH H)).Perm (ts.map (·.2)) := by
      have z := stb.perm.map (kH H)
      rw [List.map_map] at z
      rw [show ts.map (·.2) = ts.map (kH H ∘ fun t => V.ref t.1) from List.map_congr_left fun t m => (key t m).symm]
      exact z
    have sm : Same H (upd H p (.lst ys)) := newS n
    have eo : (ys.map fun v => (adV v, kH H v)).map (fun t => V.ref t.1) = ys := by
      rw [List.map_map]
      refine (List.map_congr_left fun v m => ?_).trans (List.map_id _)
      obtain ⟨t, _, rfl⟩ := own v m
      rfl
    refine q p _ (ys.map (kH H)) sm n ⟨ys.map fun v => (adV v, kH H v), ?_, fun u m => ?_, ?_⟩ pm ?_
    · rw [eo, upd_same]
    · obtain ⟨v, m1, rfl⟩ := List.mem_map.mp m
      obtain ⟨t, m2, rfl⟩ := own v m1
      refine sm _ _ ?_
      show H t.1 = _
      rw [key t m2]
      exact ht t m2
    · rw [List.map_map]
      rfl
    · refine List.pairwise_map.mpr (srt.imp fun {u v} h z => ?_)
      have h : SrtO.lexB (kH H v) (kH H u) = false := h
      have z : SrtO.lexB (kH H v) (kH H u) = true := z
      rw [h] at z
      cases z
end Vx
namespace Vx
open PySem PySem.Spec PyProof.Rows L2
/-! ### the items of a dict whose keys are tuples -/
section
variable {X : Cx} {pins : List (Addr × Obj)} {σ : L2.St} {H : Hp} {s : Shared} {d : Addr} {o : Obj}
theorem frzT2 {kvs : List (List L2.Key × V)} (I : Inv X pins σ H s) (h : H d = some (.frz o (.dT kvs))) :
    (d == sysModules) = false ∧ s.heap.get? d = some o ∧ o.ExactDict ∧ ∃ (es : Array DictEntry) (ep : Nat), o.data = .dict es ep ∧ es.size = kvs.length ∧
      ∀ (i : Nat) (k : List L2.Key) (v : V), kvs[i]? = some (k, v) → ∃ (en : DictEntry) (q : Addr), es[i]? = some en ∧ en.key = .ref q ∧ H q = some (.tup (k.map kV)) ∧ RelV v en.val := by
  obtain ⟨hd, z, hs, xs, pr, o', es, ep, ho, hx, hdt, he, _⟩ := I.hok d _ h
  have eo : o = o' := Option.some.inj (hd.symm.trans ho)
  subst eo
  refine ⟨hs, hd, hx, es, ep, hdt, (size_of_entries he).trans (Paired.length pr).symm, fun i k v e => ?_⟩
  obtain ⟨b, hb, _, e2, e3⟩ := paired_get pr e
  refine ⟨entryOfKey (tupleKind (mixKind X.prog X.w)) b, b.2.1, ?_, rfl, e2, e3⟩
  rw [entry_at he i, hb]
  rfl
end
/-- its items, each a new pair of the key's tuple and the value -/
def ItiT (d : Addr) (o : Obj) (kvs : List (List L2.Key × V)) : It where
  go i H := H d = some (.frz o (.dT kvs)) ∧ i < kvs.length
  yld i H x H' := ∃ (T : Addr) (k : List L2.Key) (v : V) (q : Addr), kvs[i]? = some (k, v) ∧ x = .ref T ∧ H q = some (.tup (k.map kV)) ∧ H T = none ∧ H' = upd H T (.tup [.ref q, v])
  stop i H := H d = some (.frz o (.dT kvs)) ∧ kvs.length ≤ i
section
variable {P : Program} {w : World} {K : PySem.W.Frag} {d : Addr} {o : Obj} {es : Array DictEntry} {ep : Nat}
theorem turn_itemsT {kvs : List (List L2.Key × V)} {elts : List Expr} {kk : Nat} {tpos : Pos} (it : Addr) (hod : o.data = .dict es ep) :
    Turn P w K (.Tuple elts kk tpos) (ItiT d o kvs) [it] it (fun i h => ∃ ok ov, IsItemIter h it d i kvs.length ep ok ov) where
  mem := List.mem_singleton.mpr rfl
  obj := fun i h st b hb => by
    obtain ⟨ok, ov, e⟩ := st
    rw [List.mem_singleton.mp hb]
    exact ⟨_, e, fun v z => nomatch z⟩
  keep := fun i h h' st k => by
    obtain ⟨ok, ov, e⟩ := st
    exact ⟨ok, ov, k it (List.mem_singleton.mpr rfl) _ e⟩
  item := by
    intro X hP hw hK hc i pins s σ H E I hf st hg
    subst hP hw hK
    obtain ⟨hd, hi⟩ := hg
    obtain ⟨hs, hgd, hx, es', ep', hdt, hsz, ent⟩ := frzT2 I hd
    obtain ⟨rfl, rfl⟩ := dict_ep hod hdt
    obtain ⟨⟨k, v⟩, hkv⟩ : ∃ p, kvs[i]? = some p := ⟨kvs[i], List.getElem?_eq_getElem hi⟩
    obtain ⟨en, q, hen, hkey, hq, rv⟩ := ent i k v hkv
    obtain ⟨ok, ov, he⟩ := st
    have hlt : it < s.heap.objs.size := Heap.lt_size he
    have hi' : i < es'.size := by
      rw [hsz]
      exact hi
    have een : es'[i] = en := by
      rw [Array.getElem?_eq_getElem hi'] at hen
      exact Option.some.inj hen
    rw [← hsz] at he
    refine DT.nextI he ⟨o, hgd, hx, hdt⟩ hi' fun h' ho hT hz hk => ?_
    rw [een, hkey] at ho hT
    refine ⟨_, rfl, wpAny_letOwnedTupleGo_items (s := { s with heap := h' }) ho fun h'' he' sb => ?_⟩
    have hT2 : h''.get? s.heap.objs.size = some { cls := .type "tuple", data := .seq #[.ref q, en.val] } := (sb.2 _ (Nat.ne_of_gt hlt)).trans hT
    have new : ObjOk X.prog X.w (upd H s.heap.objs.size (.tup [.ref q, v])) h'' s.heap.objs.size (.tup [.ref q, v]) :=
      ⟨by show 2 ≤ sizeLine; decide, [.ref q, en.val], .cons rfl (.cons rv .nil), ⟨_, hT2, rfl, _, rfl⟩⟩
    have I1 : Inv X pins σ (upd H s.heap.objs.size (.tup [.ref q, v])) { s with heap := h'' } :=
      I.turnedNew (t' := s.toks) (ch := [it]) (fun b ob hb e => (sb.2 b (by simpa using hb)).trans (hk b ob (by simpa using hb) e)) hf (Nat.le_refl _) new
    refine ⟨.ref s.heap.objs.size, _, I1, rfl, ⟨_, k, v, q, hkv, rfl, hq, I.hok.fresh (Nat.le_refl _), rfl⟩, ⟨.ref q, en.val, ?_⟩, fun b hb => ?_⟩
    · rw [← hsz]
      exact he'
    · rw [List.mem_singleton.mp hb, upd_ne (Nat.ne_of_lt hlt)]
      exact (hf it (List.mem_singleton.mpr rfl)).1
  done := by
    intro X hP hw hK hc i pins s σ H E I hf st hg
    subst hP hw hK
    obtain ⟨hd, hi⟩ := hg
    obtain ⟨f0, f1, f2, f3, f4, f5⟩ := hf it (List.mem_singleton.mpr rfl)
    obtain ⟨hs, hgd, hx, es', ep', hdt, hsz, ent⟩ := frzT2 I hd
    obtain ⟨rfl, rfl⟩ := dict_ep hod hdt
    obtain ⟨ok, ov, he⟩ := st
    rw [← hsz] at he
    exact DT.endI (I.ok.hd hc) he ⟨o, hgd, hx, hdt⟩ (by omega) fun h' eb => ⟨rfl, I.turned (t' := s.toks) (fun b ob hb e => eb b ob hb e) f0 f1 f3 f4 f5⟩
  self := fun A i s Q E st h => by
    obtain ⟨_, _, e⟩ := st
    exact PySem.W.kcp_self e h
end
def iItemsT (td : TE) : TI := fun σ H R => td σ H fun x H1 => ∃ d o kvs, x = .ref d ∧ H1 d = some (.frz o (.dT kvs)) ∧ R (ItiT d o kvs) H1
theorem pi_itemsT {X : Cx} {e : Expr} {td : TE} {apos cpos tpos : Pos} {elts : List Expr} {kk : Nat} (he : PE X e td) (hbase : attributeBase e "items" X.env (eval e X.env) = eval e X.env := by rfl) (hline : (apos.endLine == cpos.line) = true := by rfl) :
    PI X (.Tuple elts kk tpos) (.Call (.Attribute e "items" apos) [] [] cpos) (iItemsT td) := by
  refine ⟨fun pins s σ H R I h => ?_⟩
  refine wpAny_Call_method (T := "dict") (id := "dict.items") hbase rfl hline F.plainAttrs_dict F.slot_dict_items F.type_dict_items (thn (he.run pins s σ H _ I h) fun u s1 ⟨x, H1, I1, rx, d, o, kvs, ex, hd, q⟩ => ?_)
  subst ex
  obtain rfl : u = Value.ref d := rx
  obtain ⟨hs, hgd, hx, es, ep, hdt, hsz, ent⟩ := frzT2 I1 hd
  have raw : DT.Raw s1.heap d es ep := ⟨o, hgd, hx, hdt⟩
  refine ⟨raw.typeIs, (fun a ea => by cases ea; exact ⟨o, hgd, hx.2.1⟩), ?_⟩
  have I2 : Inv X pins σ H1 { s1 with heap := s1.heap.push { cls := .type "dict_items", data := .fields #[.ref d] } } := I1.kept (t' := s1.toks) fun b ob q => Heap.get?_push_of_some _ q
  have fin : wpAny (model X.prog X.w) X.A (pyIter (.ref s1.heap.objs.size)) (PIE X pins σ (.Tuple elts kk tpos) R) X.xe { s1 with heap := s1.heap.push { cls := .type "dict_items", data := .fields #[.ref d] } } := by
    refine DT.iterI (d := d) (es := es) (ep := ep) ⟨_, Heap.get?_push_size _ rfl, rfl, rfl⟩ (raw.push _) (pi_one (tk := s1.toks) I2 _ (turn_itemsT _ hdt) ⟨.none, .none, ?_⟩ q)
    rw [hsz]
    exact Heap.get?_push_size _ rfl
  show wpAny _ _ (callWith cpos (.builtin "dict.items") [.ref d] [] []) _ X.xe s1
  exact method_meetsIn F.slot_dict_items F.entry_dict_items rfl (PySem.evalArgs_none ⟨rfl, raw.typeIs, F.args_dict_items_1 _, _, DT.meetsItems (es := es) (ep := ep) hs, ⟨raw, fin⟩⟩)
theorem walk_itemsT {d : Addr} {o : Obj} {kvs : List (List L2.Key × V)} : Walk (ItiT d o kvs) kvs.length (fun H => H d = some (.frz o (.dT kvs)))
    (fun i H x H' => ∃ (T : Addr) (k : List L2.Key) (v : V) (q : Addr), kvs[i]? = some (k, v) ∧ x = .ref T ∧ H q = some (.tup (k.map kV)) ∧ H T = none ∧ H' = upd H T (.tup [.ref q, v])) :=
  ⟨fun _ _ hi q => ⟨q, hi⟩, fun _ q => ⟨q, Nat.le_refl _⟩, fun _ _ _ _ _ _ y => y⟩
end Vx
namespace Vx
open PySem PySem.Spec PyProof.Rows L2
/-! ### bits of numbers from 0 on -/
theorem xor_and_add : ∀ a b : Nat, (a ^^^ b) + 2 * (a &&& b) = a + b := by
  intro a
  induction a using Nat.strongRecOn with
  | _ a ih =>
    intro b
    by_cases h : a = 0
    · subst h
      simp
    · have e := ih (a / 2) (by omega) (b / 2)
      have x1 : (a ^^^ b) / 2 = (a / 2) ^^^ (b / 2) := Nat.xor_div_two
      have x2 : (a &&& b) / 2 = (a / 2) &&& (b / 2) := Nat.and_div_two
      have t1 := Nat.testBit_xor a b 0
      have t2 := Nat.testBit_and a b 0
      rw [Nat.testBit_zero, Nat.testBit_zero, Nat.testBit_zero] at t1 t2
      have y1 : (a ^^^ b) % 2 = (a % 2 + b % 2) % 2 := by
        by_cases p : a % 2 = 1 <;> by_cases q : b % 2 = 1
        · rw [decide_eq_true p, decide_eq_true q] at t1
          have := of_decide_eq_false t1
          omega
        · rw [decide_eq_true p, decide_eq_false q] at t1
          have := of_decide_eq_true t1
          omega
        · rw [decide_eq_false p, decide_eq_true q] at t1
          have := of_decide_eq_true t1
          omega
        · rw [decide_eq_false p, decide_eq_false q] at t1
          have := of_decide_eq_false t1
          omega
      have y2 : (a &&& b) % 2 = if a % 2 = 1 ∧ b % 2 = 1 then 1 else 0 := by
        by_cases p : a % 2 = 1 <;> by_cases q : b % 2 = 1
        · rw [decide_eq_true p, decide_eq_true q] at t2
          rw [if_pos ⟨p, q⟩]
          exact of_decide_eq_true t2
        · rw [decide_eq_true p, decide_eq_false q] at t2
          rw [if_neg fun z => q z.2]
          have := of_decide_eq_false t2
          omega
        · rw [decide_eq_false p, decide_eq_true q] at t2
          rw [if_neg fun z => p z.1]
          have := of_decide_eq_false t2
          omega
        · rw [decide_eq_false p, decide_eq_false q] at t2
          rw [if_neg fun z => p z.1]
          have := of_decide_eq_false t2
          omega
      have z1 := Nat.div_add_mod (a ^^^ b) 2
      have z2 := Nat.div_add_mod (a &&& b) 2
      rw [x1, y1] at z1
      rw [x2, y2] at z2
      by_cases p : a % 2 = 1 ∧ b % 2 = 1
      · rw [if_pos p] at z2
        omega
      · rw [if_neg p] at z2
        omega
theorem or_and_xor (a b : Nat) : (a ||| b) = (a ^^^ b) + (a &&& b) := by
  have d : (a ^^^ b) &&& (a &&& b) = 0 := by
    refine Nat.eq_of_testBit_eq fun i => ?_
    simp only [Nat.testBit_and, Nat.testBit_xor, Nat.zero_testBit]
    cases a.testBit i <;> cases b.testBit i <;> rfl
  have e := xor_and_add (a ^^^ b) (a &&& b)
  rw [d] at e
  have f : (a ^^^ b) ^^^ (a &&& b) = a ||| b := by
    refine Nat.eq_of_testBit_eq fun i => ?_
    simp only [Nat.testBit_and, Nat.testBit_xor, Nat.testBit_or]
    cases a.testBit i <;> cases b.testBit i <;> rfl
  omega
theorem bAnd (a b : Nat) : Builtin.bitAnd (a : Int) (b : Int) = ((a &&& b : Nat) : Int) := PySem.W.os_band a b
theorem bOr (a b : Nat) : Builtin.bitOr (a : Int) (b : Int) = ((a ||| b : Nat) : Int) := by
  rw [bitOr_nn (Int.natCast_nonneg a) (Int.natCast_nonneg b), Int.toNat_natCast, Int.toNat_natCast]
theorem bXor (a b : Nat) : Builtin.bitXor (a : Int) (b : Int) = ((a ^^^ b : Nat) : Int) := by
  show Builtin.bitOr (a : Int) (b : Int) - Builtin.bitAnd (a : Int) (b : Int) = _
  rw [bAnd, bOr, or_and_xor]
  omega
section
variable {X : Cx}
theorem op_andNN : OpR X (binaryOp .BitAnd) (fun x y H Q => ∃ a b : Nat, x = .int (a : Int) ∧ y = .int (b : Int) ∧ Q (.int ((a &&& b : Nat) : Int)) H) := by
  intro pins s σ H x y v u Q I r1 r2 h
  obtain ⟨a, b, rfl, rfl, q⟩ := h
  exact op_and pins s σ H _ _ v u Q I r1 r2 ⟨_, _, rfl, rfl, (by show Q (V.int (Builtin.bitAnd (a : Int) (b : Int))) H; rw [bAnd]; exact q)⟩
theorem op_orNN : OpR X (binaryOp .BitOr) (fun x y H Q => ∃ a b : Nat, x = .int (a : Int) ∧ y = .int (b : Int) ∧ Q (.int ((a ||| b : Nat) : Int)) H) := by
  intro pins s σ H x y v u Q I r1 r2 h
  obtain ⟨a, b, rfl, rfl, q⟩ := h
  exact op_or pins s σ H _ _ v u Q I r1 r2 ⟨_, _, rfl, rfl, (by show Q (V.int (Builtin.bitOr (a : Int) (b : Int))) H; rw [bOr]; exact q)⟩
theorem op_xorNN : OpR X (binaryOp .BitXor) (fun x y H Q => ∃ a b : Nat, x = .int (a : Int) ∧ y = .int (b : Int) ∧ Q (.int ((a ^^^ b : Nat) : Int)) H) := by
  intro pins s σ H x y v u Q I r1 r2 h
  obtain ⟨a, b, rfl, rfl, q⟩ := h
  exact op_xor pins s σ H _ _ v u Q I r1 r2 ⟨_, _, rfl, rfl, (by show Q (V.int (Builtin.bitXor (a : Int) (b : Int))) H; rw [bXor]; exact q)⟩
theorem ip_orNN : PIp X .BitOr (fun x y H Q => ∃ a b : Nat, x = .int (a : Int) ∧ y = .int (b : Int) ∧ Q (.int ((a ||| b : Nat) : Int)) H) := by
  intro pins s σ H x y v u Q I r1 r2 h
  obtain ⟨a, b, rfl, rfl, q⟩ := h
  exact iop_or pins s σ H _ _ v u Q I r1 r2 ⟨_, _, rfl, rfl, (by show Q (V.int (Builtin.bitOr (a : Int) (b : Int))) H; rw [bOr]; exact q)⟩
theorem ip_xorNN : PIp X .BitXor (fun x y H Q => ∃ a b : Nat, x = .int (a : Int) ∧ y = .int (b : Int) ∧ Q (.int ((a ^^^ b : Nat) : Int)) H) := by
  intro pins s σ H x y v u Q I r1 r2 h
  obtain ⟨a, b, rfl, rfl, q⟩ := h
  exact iop_xor pins s σ H _ _ v u Q I r1 r2 ⟨_, _, rfl, rfl, (by show Q (V.int (Builtin.bitXor (a : Int) (b : Int))) H; rw [bXor]; exact q)⟩
theorem op_shrNN : OpR X (binaryOp .RShift) (fun x y H Q => ∃ a k : Nat, x = .int (a : Int) ∧ y = .int (k : Int) ∧ Q (.int ((a >>> k : Nat) : Int)) H) := by
  intro pins s σ H x y v u Q I r1 r2 h
  obtain ⟨a, k, rfl, rfl, q⟩ := h
  refine op_shrN pins s σ H _ _ v u Q I r1 r2 ⟨_, k, rfl, rfl, ?_⟩
  rw [show (a : Int) / 2 ^ k = ((a >>> k : Nat) : Int) by rw [Nat.shiftRight_eq_div_pow]; exact (by push_cast; rfl)]
  exact q
theorem op_shlNN : OpR X (binaryOp .LShift) (fun x y H Q => ∃ (a k n : Nat), x = .int (a : Int) ∧ y = .int (k : Int) ∧ a < 2 ^ n ∧ n + k ≤ 134217728 ∧ Q (.int ((a <<< k : Nat) : Int)) H) := by
  intro pins s σ H x y v u Q I r1 r2 h
  obtain ⟨a, k, n, rfl, rfl, la, lk, q⟩ := h
  refine op_shlN pins s σ H _ _ v u Q I r1 r2 ⟨_, k, rfl, rfl, shl_ok (n := n) la lk, ?_⟩
  rw [show (a : Int) * 2 ^ k = ((a <<< k : Nat) : Int) by rw [Nat.shiftLeft_eq]; exact (by push_cast; rfl)]
  exact q
end
/-! ### the bits that are set, ascending -/
def bitsB (N n : Nat) : List Nat := (List.range N).filter fun j => n.testBit j
theorem mem_bitsB {N n j : Nat} : j ∈ bitsB N n ↔ j < N ∧ n.testBit j = true := by
  unfold bitsB
  rw [List.mem_filter, List.mem_range]
theorem low_bit : ∀ n : Nat, n ≠ 0 → ∃ k a, n = 2 ^ k * (2 * a + 1) := by
  intro n
  induction n using Nat.strongRecOn with
  | _ n ih =>
    intro h
    by_cases e : n % 2 = 1
    · exact ⟨0, n / 2, by omega⟩
    · obtain ⟨k, a, q⟩ := ih (n / 2) (by omega) (by omega)
      refine ⟨k + 1, a, ?_⟩
      have : n = 2 * (n / 2) := by omega
      rw [this, q, Nat.pow_succ, Nat.mul_comm (2 ^ k) 2, Nat.mul_assoc]
theorem low_test {k a j : Nat} : (2 ^ k * (2 * a + 1)).testBit j = (decide (j = k) || (decide (k < j) && (2 ^ k * (2 * a)).testBit j)) := by
  rw [Nat.testBit_two_pow_mul, Nat.testBit_two_pow_mul]
  by_cases h : k ≤ j
  · by_cases e : j = k
    · subst e
      simp [Nat.testBit_zero]
    · have e2 : k < j := by omega
      have e3 : j - k = (j - k - 1) + 1 := by omega
      rw [e3, Nat.testBit_succ, Nat.testBit_succ]
      have e4 : (2 * a + 1) / 2 = 2 * a / 2 := by omega
      rw [e4]
      simp [h, e, e2]
  · have e : j ≠ k := by omega
    have e2 : ¬ k < j := by omega
    simp [h, e, e2]
theorem low_xor (k a : Nat) : 2 ^ k * (2 * a + 1) ^^^ 2 ^ k = 2 ^ k * (2 * a) := by
  refine Nat.eq_of_testBit_eq fun j => ?_
  rw [Nat.testBit_xor, low_test, Nat.testBit_two_pow]
  by_cases e : k = j
  · subst e
    simp [Nat.testBit_two_pow_mul, Nat.testBit_zero]
  · have e' : j ≠ k := fun z => e z.symm
    simp only [e, e', decide_false, Bool.false_or, Bool.xor_false]
    by_cases h : k < j
    · simp [h]
    · have : ¬ k ≤ j := by omega
      simp [h, this, Nat.testBit_two_pow_mul]
theorem bits_low {N k a : Nat} (h : 2 ^ k * (2 * a + 1) < 2 ^ N) : bitsB N (2 ^ k * (2 * a + 1)) = k :: bitsB N (2 ^ k * (2 * a)) := by
  have hk : k < N := by
    have : 2 ^ k < 2 ^ N := Nat.lt_of_le_of_lt (Nat.le_mul_of_pos_right _ (by omega)) h
    exact (Nat.pow_lt_pow_iff_right (by decide)).mp this
  have e : List.range N = List.range k ++ k :: (List.range (N - k - 1)).map (fun j => k + 1 + j) := by
    have e1 := List.range_add (n := k) (m := N - k)
    rw [show k + (N - k) = N by omega] at e1
    rw [e1, show N - k = (N - k - 1) + 1 by omega, List.range_succ_eq_map, List.map_cons, List.map_map]
    simp
    intro j _
    omega
  have z : ∀ m, (List.range k).filter (fun j => (2 ^ k * m).testBit j) = [] := fun m => by
    refine List.filter_eq_nil_iff.mpr fun j hj => ?_
    have := List.mem_range.mp hj
    rw [Nat.testBit_two_pow_mul]
    have : ¬ k ≤ j := by omega
    simp [this]
  unfold bitsB
  rw [e, List.filter_append, List.filter_append, z, z, List.nil_append, List.nil_append, List.filter_cons, List.filter_cons]
  rw [if_pos (by rw [low_test]; simp), if_neg (by rw [Nat.testBit_two_pow_mul]; simp [Nat.testBit_zero])]
  refine congrArg _ (List.filter_congr fun j hj => ?_)
  obtain ⟨i, _, rfl⟩ := List.mem_map.mp hj
  rw [low_test]
  have e1 : ¬ k + 1 + i = k := by omega
  have e2 : k < k + 1 + i := by omega
  simp [e1, e2]
theorem bits_zero (N : Nat) : bitsB N 0 = [] := by
  unfold bitsB
  exact List.filter_eq_nil_iff.mpr fun j _ => by simp
theorem low_and (k a : Nat) : Builtin.bitAnd ((2 ^ k * (2 * a + 1) : Nat) : Int) (-((2 ^ k * (2 * a + 1) : Nat) : Int)) = ((2 ^ k : Nat) : Int) := by
  have e := PySem.W.kbt_low k (a : Int)
  push_cast
  exact e
theorem intBits_pow (k : Nat) : Builtin.Int.intBits ((2 ^ k : Nat) : Int) = k + 1 := by
  unfold Builtin.Int.intBits
  have h : ¬ ((((2 ^ k : Nat) : Int)) == 0) = true := by
    have : 0 < 2 ^ k := Nat.two_pow_pos k
    simp only [beq_iff_eq]
    omega
  rw [if_neg h, Int.natAbs_natCast, Nat.log2_two_pow]
end Vx
namespace Vx
open PySem PySem.Spec PyProof.Rows L2
/-! ### dicts whose keys are pairs, told by the list of the keys and a function -/
def MapP (kvs : List (List L2.Key × V)) (ps : List Pr) (g : Pr → V) : Prop := kvs = ps.map (fun x => (keyP x, g x)) ∧ ps.Nodup
def addK (ps : List Pr) (x : Pr) : List Pr := if x ∈ ps then ps else ps ++ [x]
def setG (g : Pr → V) (x : Pr) (v : V) : Pr → V := fun y => if y = x then v else g y
theorem mem_addK {ps : List Pr} {x y : Pr} : y ∈ addK ps x ↔ y ∈ ps ∨ y = x := by
  unfold addK
  by_cases h : x ∈ ps
  · rw [if_pos h]
    exact ⟨.inl, fun q => q.elim id fun e => e ▸ h⟩
  · rw [if_neg h, List.mem_append, List.mem_singleton]
theorem addK_len {ps : List Pr} {x : Pr} : (addK ps x).length ≤ ps.length + 1 := by
  unfold addK
  by_cases h : x ∈ ps
  · rw [if_pos h]
    omega
  · rw [if_neg h, List.length_append]
    exact Nat.le_refl _
theorem addK_new {ps : List Pr} {x : Pr} (h : x ∉ ps) : addK ps x = ps ++ [x] := if_neg h
theorem addK_old {ps : List Pr} {x : Pr} (h : x ∈ ps) : addK ps x = ps := if_pos h
theorem MapP.nil (g : Pr → V) : MapP [] [] g := ⟨rfl, List.nodup_nil⟩
theorem MapP.keys {kvs : List (List L2.Key × V)} {ps : List Pr} {g : Pr → V} (h : MapP kvs ps g) : KeysP kvs ps := by
  refine ⟨?_, h.2⟩
  rw [h.1, List.map_map]
  rfl
theorem MapP.len {kvs : List (List L2.Key × V)} {ps : List Pr} {g : Pr → V} (h : MapP kvs ps g) : kvs.length = ps.length := by rw [h.1, List.length_map]
theorem MapP.congr {kvs : List (List L2.Key × V)} {ps : List Pr} {g g' : Pr → V} (h : MapP kvs ps g) (e : ∀ x ∈ ps, g x = g' x) : MapP kvs ps g' := by
  refine ⟨?_, h.2⟩
  rw [h.1]
  exact List.map_congr_left fun x m => by rw [e x m]
theorem MapP.at {kvs : List (List L2.Key × V)} {ps : List Pr} {g : Pr → V} (h : MapP kvs ps g) {i : Nat} {k : List L2.Key} {v : V} (e : kvs[i]? = some (k, v)) : ∃ x, ps[i]? = some x ∧ k = keyP x ∧ v = g x := by
  rw [h.1, List.getElem?_map] at e
  cases q : ps[i]? with
  | none => rw [q] at e; cases e
  | some x =>
    rw [q] at e
    injection e with e
    injection e with e1 e2
    exact ⟨x, rfl, e1.symm, e2.symm⟩
theorem MapP.get {kvs : List (List L2.Key × V)} {ps : List Pr} {g : Pr → V} (h : MapP kvs ps g) (x : Pr) : valV kvs (keyP x) = if x ∈ ps then some (g x) else none := by
  rw [h.1]
  have go : ∀ qs : List Pr, valV (qs.map fun x => (keyP x, g x)) (keyP x) = if x ∈ qs then some (g x) else none := fun qs => by
    induction qs with
    | nil => rfl
    | cons y qs ih =>
      rw [List.map_cons]
      by_cases e : y = x
      · subst e
        rw [valV_pos rfl, if_pos List.mem_cons_self]
      · rw [valV_neg (fun z => e (keyP_inj z)), ih]
        have e' : ¬ x = y := fun z => e z.symm
        by_cases m : x ∈ qs <;> simp [m, e']
  exact go ps
theorem MapP.put {kvs : List (List L2.Key × V)} {ps : List Pr} {g : Pr → V} (h : MapP kvs ps g) (x : Pr) (v : V) : MapP (putK kvs (keyP x) v) (addK ps x) (setG g x v) := by
  have any : (kvs.any fun kv => decide (kv.1 = keyP x)) = decide (x ∈ ps) := by
    rw [valV_any, h.get]
    by_cases m : x ∈ ps <;> simp [m]
  unfold putK
  rw [any]
  by_cases m : x ∈ ps
  · rw [if_pos (decide_eq_true m), addK_old m]
    refine ⟨?_, h.2⟩
    rw [h.1, List.map_map]
    refine List.map_congr_left fun y _ => ?_
    show (if keyP y = keyP x then (keyP y, v) else (keyP y, g y)) = (keyP y, if y = x then v else g y)
    by_cases e : y = x
    · rw [if_pos (by rw [e]), if_pos e]
    · rw [if_neg fun z => e (keyP_inj z), if_neg e]
  · rw [if_neg (by simp [m]), addK_new m]
    refine ⟨?_, ?_⟩
    · rw [h.1, List.map_append]
      congr 1
      · refine List.map_congr_left fun y my => ?_
        have e : ¬ y = x := fun e => m (e ▸ my)
        show (keyP y, g y) = (keyP y, if y = x then v else g y)
        rw [if_neg e]
      · show [(keyP x, v)] = [(keyP x, if x = x then v else g x)]
        rw [if_pos rfl]
    · refine List.pairwise_append.mpr ⟨h.2, List.pairwise_cons.mpr ⟨fun _ m => (by cases m), List.Pairwise.nil⟩, fun a ma b mb e => ?_⟩
      rw [List.mem_singleton.mp mb] at e
      exact m (e ▸ ma)
theorem MapP.drop {kvs : List (List L2.Key × V)} {ps : List Pr} {g : Pr → V} (h : MapP kvs ps g) (x : Pr) : MapP (dropK kvs (keyP x)) (ps.filter fun y => decide (y ≠ x)) g := by
  refine ⟨?_, h.2.filter _⟩
  unfold dropK
  rw [h.1, List.filter_map]
  congr 1
  refine List.filter_congr fun y _ => ?_
  show decide (keyP y ≠ keyP x) = decide (y ≠ x)
  by_cases e : y = x
  · simp [e]
  · have : keyP y ≠ keyP x := fun z => e (keyP_inj z)
    simp [e, this]
/-- at d: such a dict -/
def Dct (H : Hp) (d : Addr) (ps : List Pr) (g : Pr → V) : Prop := ∃ kvs, H d = some (.dT kvs) ∧ MapP kvs ps g
theorem Dct.up {H H' : Hp} {d : Addr} {ps : List Pr} {g : Pr → V} (e : Same H H') (h : Dct H d ps g) : Dct H' d ps g := by
  obtain ⟨kvs, h1, h2⟩ := h
  exact ⟨kvs, e _ _ h1, h2⟩
theorem Dct.new {H : Hp} {d : Addr} (g : Pr → V) (h : H d = some (.dT [])) : Dct H d [] g := ⟨[], h, .nil g⟩
theorem Dct.ne {H : Hp} {d p : Addr} {ps : List Pr} {g : Pr → V} (h : Dct H d ps g) (n : H p = none) : p ≠ d := fun e => by
  obtain ⟨kvs, h1, _⟩ := h
  rw [e, h1] at n
  cases n
theorem Dct.isD {H : Hp} {d : Addr} {ps : List Pr} {g : Pr → V} (h : Dct H d ps g) : IsD H d := by
  obtain ⟨kvs, h1, _⟩ := h
  exact .inr ⟨kvs, .inl h1⟩
theorem Dct.dget {H : Hp} {d b : Addr} {ps : List Pr} {g : Pr → V} {x : Pr} (h : Dct H d ps g) (e : H b = some (.tup [.int x.1, .int x.2])) : DGet H d (.ref b) (if x ∈ ps then some (g x) else none) := by
  obtain ⟨kvs, h1, h2⟩ := h
  rw [← h2.get x]
  exact .t (k := keyP x) h1 e
/-- the answer of d.get(x, z) -/
def orG (ps : List Pr) (g : Pr → V) (z : V) (x : Pr) : V := if x ∈ ps then g x else z
theorem getD_or {ps : List Pr} {g : Pr → V} {z : V} {x : Pr} : (if x ∈ ps then some (g x) else none : Option V).getD z = orG ps g z x := by
  unfold orG
  by_cases h : x ∈ ps <;> simp [h]
/-- what stands elsewhere stays, d's dict grows -/
def PutAt (H : Hp) (d : Addr) (ps : List Pr) (g : Pr → V) (x : Pr) (v : V) (H' : Hp) : Prop := Dct H' d (addK ps x) (setG g x v) ∧ ∀ b, b ≠ d → H' b = H b
theorem Dct.dput {H : Hp} {d b : Addr} {ps : List Pr} {g : Pr → V} {x : Pr} (h : Dct H d ps g) (few : ps.length < sizeLine) (e : H b = some (.tup [.int x.1, .int x.2])) (v : V) : ∃ H', DPut H d (.ref b) v H' ∧ PutAt H d ps g x v H' := by
  obtain ⟨kvs, h1, h2⟩ := h
  exact ⟨_, .t (k := keyP x) h1 e (by rw [h2.len]; exact few), ⟨_, upd_same, h2.put x v⟩, fun b n => upd_ne n⟩
theorem PutAt.mut {H0 H H' : Hp} {d : Addr} {ps : List Pr} {g : Pr → V} {x : Pr} {v : V} (p : PutAt H d ps g x v H') (sm : Same H0 H) (n : H0 d = none) : Same H0 H' := fun b o e => by
  rw [p.2 b fun z => by rw [z, n] at e; cases e]
  exact sm b o e
theorem Dct.congr {H : Hp} {d : Addr} {ps : List Pr} {g g' : Pr → V} (h : Dct H d ps g) (e : ∀ x ∈ ps, g x = g' x) : Dct H d ps g' := by
  obtain ⟨kvs, h1, h2⟩ := h
  exact ⟨kvs, h1, h2.congr e⟩
theorem updS {H H' : Hp} {d : Addr} {o : HO} (e : Same H H') : Same (upd H d o) (upd H' d o) := fun b u h => by
  by_cases c : b = d
  · rw [c, upd_same] at h
    rw [c, upd_same]
    exact h
  · rw [upd_ne c] at h
    rw [upd_ne c]
    exact e b u h
theorem Dct.off {H : Hp} {d e : Addr} {ps : List Pr} {g : Pr → V} {o : HO} (h : Dct H d ps g) (n : d ≠ e) : Dct (upd H e o) d ps g := by
  obtain ⟨kvs, h1, h2⟩ := h
  exact ⟨kvs, by rw [upd_ne n]; exact h1, h2⟩
theorem nodup_next {α : Type} {ps : List α} {i : Nat} {x : α} (nd : ps.Nodup) (h : ps[i]? = some x) : x ∉ ps.take i := fun m => by
  obtain ⟨j, hj, e⟩ := List.getElem_of_mem m
  rw [List.length_take] at hj
  obtain ⟨li, ei⟩ := List.getElem?_eq_some_iff.mp h
  rw [List.getElem_take] at e
  have := (List.getElem_inj nd (h₀ := by omega) (h₁ := li)).mp (e.trans ei.symm)
  omega
theorem addK_take {ps : List Pr} {i : Nat} {x : Pr} (nd : ps.Nodup) (h : ps[i]? = some x) : addK (ps.take i) x = ps.take (i + 1) := by
  rw [addK_new (nodup_next nd h), take_next h]
theorem unlock {H H' : Hp} {d : Addr} {od : Obj} {u : HO} (hd : H d = some u) (sm : Same (upd H d (.frz od u)) H') : Same H (upd H' d u) := fun b o e => by
  by_cases c : b = d
  · rw [c] at e ⊢
    rw [hd] at e
    rw [upd_same]
    exact e
  · rw [upd_ne c]
    exact sm b o (by rw [upd_ne c]; exact e)
/-! ### the program's lists of such keys -/
theorem isKeys_cells {H : Hp} {p : Addr} : ∀ {kvs : List (List L2.Key × V)} {ps : List Pr} {g : Pr → V} {bs : List Addr}, MapP kvs ps g → IsKeys H kvs bs → H p = some (.lst (bs.map V.ref)) → Cells H p ps := by
  have go : ∀ (ps : List Pr) (g : Pr → V) (bs : List Addr), IsKeys H (ps.map fun x => (keyP x, g x)) bs → ∃ ts : List (Addr × Pr), bs.map V.ref = ts.map (fun t => V.ref t.1) ∧ (∀ t ∈ ts, H t.1 = some (.tup [.int t.2.1, .int t.2.2])) ∧ ts.map (·.2) = ps := by
    intro ps g
    induction ps with
    | nil =>
      intro bs h
      cases h
      exact ⟨[], rfl, fun _ m => (by cases m), rfl⟩
    | cons x ps ih =>
      intro bs h
      cases h with
      | @cons _ b _ bs h1 h2 =>
        obtain ⟨ts, a1, a2, a3⟩ := ih bs h2
        refine ⟨(b, x) :: ts, ?_, ?_, ?_⟩
        · rw [List.map_cons, List.map_cons, a1]
        · intro t m
          rcases List.mem_cons.mp m with e | m
          · rw [e]
            exact h1
          · exact a2 t m
        · rw [List.map_cons, a3]
  intro kvs ps g bs h k e
  rw [h.1] at k
  obtain ⟨ts, a1, a2, a3⟩ := go ps g bs k
  exact ⟨ts, by rw [e, a1], a2, a3⟩
theorem cr_listP {X : Cx} (hc : X.calm = true) : CallR X (.type "list") (fun xs H Q => ∃ d ps g, xs = [V.ref d] ∧ Dct H d ps g ∧ ∀ H' p, Same H H' → H p = none → Cells H' p ps → Q (.ref p) H') := by
  intro pins s σ H xs us Q I r h
  obtain ⟨d, ps, g, rfl, ⟨kvs, h1, h2⟩, q⟩ := h
  refine call_list_dT hc pins s σ H _ us Q I r ⟨d, kvs, rfl, .inl h1, fun p bs n k => q _ p (newS n) n ?_⟩
  refine isKeys_cells (bs := bs) h2 ?_ upd_same
  exact Paired.mapP k fun a b e => newS n _ _ e
theorem truC {K : PySem.W.Frag} {H : Hp} {l : Addr} {ps : List Pr} (h : Cells H l ps) : TruV K (.ref l) H (!ps.isEmpty) := by
  obtain ⟨ts, h1, _, rfl⟩ := h
  exact .inl ⟨_, lst_of h1, by cases ts <;> rfl⟩
/-- sorted(d) -/
theorem cr_sortedDT {X : Cx} (hcalm : X.calm = true) : CallR X (.builtin "sorted") (fun xs H Q => ∃ d ps g, xs = [V.ref d] ∧ Dct H d ps g ∧ ∀ p H' qs, Same H H' → H p = none → Cells H' p qs → CanP ps qs → qs.length = ps.length → Q (.ref p) H') := by
  intro pins s σ H xs us Q I r h
  obtain ⟨d, ps, g, rfl, ⟨kvs, hd, hm⟩, q⟩ := h
  obtain ⟨u, rfl, rx⟩ := r.one
  cases rx
  obtain ⟨z, hs, ks, prd, o, es, ep, ho, hx, hdt, he, hn⟩ := (show ObjOk X.prog X.w H s.heap d (.dT kvs) from (Rd.of hd).ok I.hok)
  have l1 : es.size = ks.length := size_of_entries he
  have l2 : kvs.length = ks.length := Paired.length prd
  have lim : es.size ≤ sizeLine := by omega
  refine Calls.call_function_entry kind_sorted plain_sorted entry_sorted (args_sorted1 _) ?_
  unfold Builtin.«sorted»
  refine wpAny_bind (m := checkCount "sorted" 1 1 _) (wpAny_pure ?_)
  refine wpAny_bind (PySem.W.kdu_collect (A := X.A.in1) (kdl_raw hs hx hdt) (I.ok.hd hcalm) ho lim fun h' tk acc kp it => ?_)
  -- the key tuples
  have keyAt : ∀ (i : Nat) (x : Pr), ps[i]? = some x → ∃ b, acc.toList[i]? = some (.ref b) ∧ H b = some (.tup [.int x.1, .int x.2]) := fun i x e => by
    have e1 : kvs[i]? = some (keyP x, g x) := by rw [hm.1, List.getElem?_map, e]; rfl
    obtain ⟨b, hb, _, e2, _⟩ := paired_get prd e1
    have q1 := entry_at he i
    rw [hb] at q1
    have li : i < acc.toList.length := by
      rw [Array.length_toList, it.1, l1]
      exact (List.getElem?_eq_some_iff.mp hb).1
    obtain ⟨en, q2, q3⟩ := it.2 i acc.toList[i] (by rw [← Array.getElem?_toList]; exact List.getElem?_eq_getElem li)
    rw [q1] at q2
    have q4 : entryOfKey (tupleKind (mixKind X.prog X.w)) b = en := Option.some.inj q2
    refine ⟨b.2.1, ?_, e2⟩
    rw [List.getElem?_eq_getElem li, q3, ← q4]
    rfl
  have al : acc.toList.length = ps.length := by rw [Array.length_toList, it.1, l1, ← l2, hm.len]
  have lacc : acc.toList.length ≤ sizeLine := by rw [Array.length_toList, it.1]; exact lim
  have I1 : Inv X pins σ H { s with heap := h', toks := tk } := I.kept kp
  refine wpAny_bind (wpAny_newList ?_ lacc)
  have gl : (h'.push (seqObj "list" acc.toList.toArray 0)).get? h'.objs.size = some (seqObj "list" acc.toList.toArray 0) := Heap.get?_push_size _ rfl
  show wpAny _ _ _ _ _ { s with heap := h'.push (seqObj "list" acc.toList.toArray 0), toks := tk }
  generalize hh1 : h'.push (seqObj "list" acc.toList.toArray 0) = h1 at gl ⊢
  generalize acc.toList = vs at *
  have keep1 : ∀ b u, h'.get? b = some u → h1.get? b = some u := fun b u e => by
    rw [← hh1]
    exact Heap.get?_push_of_some _ e
  have own : ∀ v ∈ vs, ∃ b x, v = .ref b ∧ H b = some (.tup [.int x.1, .int x.2]) ∧ (x : Pr) ∈ ps := fun v m => by
    obtain ⟨i, li, e⟩ := List.getElem_of_mem m
    have lp : i < ps.length := by omega
    obtain ⟨b, e1, e2⟩ := keyAt i ps[i] (List.getElem?_eq_getElem lp)
    rw [List.getElem?_eq_getElem li] at e1
    exact ⟨b, ps[i], by rw [← e]; exact Option.some.inj e1, e2, List.getElem_mem lp⟩
  have tin : ∀ b (x : Pr), H b = some (.tup [.int x.1, .int x.2]) → TS.TupInts h1 (.ref b) [x.1, x.2] := fun b x e => tupInts_of (P := X.prog) (w := X.w) (isT_keep (Inv.isT (k := [x.1, x.2]) I1 (tup_of e)) keep1)
  have key : ∀ b (x : Pr), H b = some (.tup [.int x.1, .int x.2]) → pr (TS.intsOf h1 (.ref b)) = x := fun b x e => by
    rw [(tin b x e).ints]
    rfl
  have isP : ∀ v ∈ vs, Srt.IsPair h1 v (pr (TS.intsOf h1 v)).1 (pr (TS.intsOf h1 v)).2 := fun v m => by
    obtain ⟨b, x, rfl, e, _⟩ := own v m
    rw [key b x e]
    have i := tin b x e
    obtain ⟨b2, items, eb, ⟨o1, go1, co1, n1, do1⟩, ia⟩ := i
    cases eb
    obtain ⟨xs⟩ := items
    cases ia with
    | cons _ t1 ia =>
      cases ia with
      | cons _ t2 ia =>
        cases ia
        exact ⟨_, o1, t1, t2, n1, rfl, go1, co1, do1⟩
  have mapK : vs.map (fun v => pr (TS.intsOf h1 v)) = ps := by
    refine List.ext_getElem? fun i => ?_
    rw [List.getElem?_map]
    by_cases li : i < ps.length
    · obtain ⟨b, e1, e2⟩ := keyAt i ps[i] (List.getElem?_eq_getElem li)
      rw [e1, List.getElem?_eq_getElem li]
      exact congrArg some (key b _ e2)
    · rw [List.getElem?_eq_none (by omega), List.getElem?_eq_none (by omega)]
      rfl
  refine wpAny_bind (wpAny_holding (wpAny_call_entry (s := { s with heap := h1, toks := tk }) slot_list_sort ⟨_, gl, rfl⟩ entry_list_sort (SrtO.list_sort_ord (s := { s with heap := h1, toks := tk }) (SrtO.swo_lex fun v => pr (TS.intsOf h1 v)) gl lacc (fun two => SrtO.pairs_sortableO (by omega) isP fun o1 e => ?_) fun out srt stb => ⟨_, rfl, ?_⟩) (args_list_sort _)))
  · have e' : some o1 = some (seqObj "list" vs.toArray 0) := e.symm.trans gl
    cases e'
    intro c
    exact absurd (Value.type.inj c) (by decide)
  · obtain ⟨c, gc⟩ := sortedHeap_at (vs := vs) (out := out.toArray) gl
    have oown : ∀ v ∈ out, ∃ b x, v = Value.ref b ∧ H b = some (.tup [.int x.1, .int x.2]) ∧ (x : Pr) ∈ ps := fun v m => own v (stb.perm.mem_iff.mp m)
    have keepAll : ∀ b u, h'.get? b = some u → (sortedHeap h1 h'.objs.size vs out.toArray).get? b = some u := fun b u g1 => by
      have lt1 := Heap.lt_size g1
      rw [sortedHeap_old (Nat.ne_of_lt lt1) (Heap.lt_size (keep1 b u g1))]
      exact keep1 b u g1
    have nF : H h'.objs.size = none := I1.hok.fresh (Nat.le_refl _)
    let ts : List (Addr × Pr) := out.map fun v => (adr v, pr (TS.intsOf h1 v))
    have eo : ts.map (fun t => Value.ref t.1) = out := by
      rw [List.map_map]
      refine (List.map_congr_left fun v m => ?_).trans (List.map_id _)
      obtain ⟨b, x, rfl, _⟩ := oown v m
      rfl
    have vals : ∀ ts : List (Addr × Pr), Vals (ts.map fun q => V.ref q.1) (ts.map fun q => Value.ref q.1) := fun ts => by
      induction ts with
      | nil => exact .nil
      | cons t ts ih => exact .cons rfl ih
    have lo : ts.length ≤ sizeLine := by
      rw [List.length_map, stb.perm.length_eq]
      exact lacc
    have new : ObjOk X.prog X.w (upd H h'.objs.size (.lst (ts.map fun q => V.ref q.1))) (sortedHeap h1 h'.objs.size vs out.toArray) h'.objs.size (.lst (ts.map fun q => V.ref q.1)) := by
      refine ⟨by rw [List.length_map]; exact lo, ts.map fun q => Value.ref q.1, c, vals ts, ?_⟩
      rw [eo]
      exact gc
    have J := I1.laid (t' := tk) keepAll (Nat.le_refl _) new
    have pmk : (ts.map (·.2)).Perm ps := by
      rw [List.map_map, ← mapK]
      exact stb.perm.map fun v => pr (TS.intsOf h1 v)
    refine wpAny_pure ⟨_, rfl, .ref h'.objs.size, _, J, rfl, q _ _ (ts.map (·.2)) (newS nF) nF ⟨ts, upd_same, fun t m => ?_, rfl⟩ ⟨?_, fun x => pmk.mem_iff⟩ pmk.length_eq⟩
    · obtain ⟨v, m1, rfl⟩ := List.mem_map.mp m
      obtain ⟨b, x, rfl, e, _⟩ := oown v m1
      refine newS nF _ _ ?_
      show H b = some (.tup [.int (pr (TS.intsOf h1 (.ref b))).1, .int (pr (TS.intsOf h1 (.ref b))).2])
      rw [key b x e]
      exact e
    · have nd : (ts.map (·.2)).Nodup := pmk.nodup_iff.mpr hm.2
      rw [List.map_map] at nd ⊢
      refine List.pairwise_map.mpr ((srt.and (List.pairwise_map.mp nd)).imp fun {u v} h => ?_)
      have a1 := SrtO.lexB_no.mp h.1
      have a2 : ¬ ((pr (TS.intsOf h1 u)).1 = (pr (TS.intsOf h1 v)).1 ∧ (pr (TS.intsOf h1 u)).2 = (pr (TS.intsOf h1 v)).2) := fun e => h.2 (Prod.ext e.1 e.2)
      refine ltP_iff.mpr ?_
      show (pr (TS.intsOf h1 u)).1 < (pr (TS.intsOf h1 v)).1 ∨ (pr (TS.intsOf h1 u)).1 = (pr (TS.intsOf h1 v)).1 ∧ (pr (TS.intsOf h1 u)).2 < (pr (TS.intsOf h1 v)).2
      omega
end Vx
namespace Vx
open PySem PySem.Spec PyProof.Rows L2
theorem op_notInP {X : Cx} (hu : X.A.units + 65 < cLine) : OpR X (compareOp .NotIn) (fun x y H Q => ∃ (t a : Addr) (p : Pr) (ps : List Pr), x = .ref t ∧ y = .ref a ∧ H t = some (.tup [.int p.1, .int p.2]) ∧ Cells H a ps ∧ Q (.bl (!decide (p ∈ ps))) H) := by
  intro pins s σ H x y v u Q I rx ry h
  obtain ⟨t, a, p, ps, rfl, rfl, ht, hc, q⟩ := h
  refine op_notInD hu pins s σ H _ _ v u Q I rx ry ⟨pd p, ps.map pd, .tup (tup_of ht) (.cons (.int _) (.cons (.int _) .nil)), dp_cells hc, shaped_pd p, shaped_cells ps, ?_⟩
  rw [any_pd]
  exact q
/-! ### lists of lists of pairs -/
def lp (ps : List Pr) : PyData := .list (ps.map pd)
def CellsL (H : Hp) (l : Addr) (pss : List (List Pr)) : Prop :=
  ∃ ts : List (Addr × List Pr), H l = some (.lst (ts.map fun t => V.ref t.1)) ∧ (∀ t ∈ ts, Cells H t.1 t.2) ∧ ts.map (·.2) = pss
theorem CellsL.up {H H' : Hp} {l : Addr} {pss : List (List Pr)} (e : Same H H') (h : CellsL H l pss) : CellsL H' l pss := by
  obtain ⟨ts, h1, h2, h3⟩ := h
  exact ⟨ts, e _ _ h1, fun t m => (h2 t m).up e, h3⟩
theorem CellsL.lst {H : Hp} {l : Addr} {pss : List (List Pr)} (h : CellsL H l pss) : ∃ xs, H l = some (.lst xs) ∧ xs.length = pss.length := by
  obtain ⟨ts, h1, h2, h3⟩ := h
  exact ⟨_, h1, by rw [← h3, List.length_map, List.length_map]⟩
theorem CellsL.at {H : Hp} {l : Addr} {pss : List (List Pr)} {i : Nat} {ps : List Pr} (h : CellsL H l pss) (e : pss[i]? = some ps) : ∃ xs a, H l = some (.lst xs) ∧ xs[i]? = some (.ref a) ∧ Cells H a ps := by
  obtain ⟨ts, h1, h2, rfl⟩ := h
  rw [List.getElem?_map] at e
  cases q : ts[i]? with
  | none => rw [q] at e; cases e
  | some t =>
    rw [q] at e
    refine ⟨_, t.1, h1, by rw [List.getElem?_map, q]; rfl, ?_⟩
    rw [← Option.some.inj e]
    exact h2 t (List.mem_of_getElem? q)
theorem CellsL.mut {H : Hp} {l d : Addr} {pss : List (List Pr)} {o : HO} (h : CellsL H l pss) (ne : l ≠ d) (nl : ∀ xs, H d ≠ some (.lst xs)) (nt : ∀ xs, H d ≠ some (.tup xs)) : CellsL (upd H d o) l pss := by
  obtain ⟨ts, h1, h2, h3⟩ := h
  refine ⟨ts, by rw [upd_ne ne]; exact h1, fun t m => (h2 t m).mut (fun e => ?_) nt, h3⟩
  obtain ⟨us, z, _⟩ := h2 t m
  rw [e] at z
  exact nl _ z
theorem eqv_lp (a b : List Pr) : PyData.eqv (lp a) (lp b) = decide (a = b) := eqv_cells a b
theorem eqvAll_lp : ∀ (l m : List (List Pr)), PyData.eqvAll (l.map lp) (m.map lp) = decide (l = m)
  | [], [] => by simp [PyData.eqvAll]
  | [], y :: m => by simp [PyData.eqvAll]
  | x :: l, [] => by simp [PyData.eqvAll]
  | x :: l, y :: m => by
    show (PyData.eqv (lp x) (lp y) && PyData.eqvAll (l.map lp) (m.map lp)) = _
    rw [eqvAll_lp l m, eqv_lp]
    by_cases e : x = y <;> by_cases e2 : l = m <;> simp [e, e2]
theorem eqv_lps (l m : List (List Pr)) : PyData.eqv (.list (l.map lp)) (.list (m.map lp)) = decide (l = m) := eqvAll_lp l m
theorem canAll_lp : ∀ l : List (List Pr), PyData.canLayAll0 (l.map lp) = true
  | [] => by simp [PyData.canLayAll0]
  | x :: l => by
    rw [List.map_cons]
    simp [PyData.canLayAll0, PyData.canLay0, lp, canAll_pd, canAll_lp l]
theorem depAll_lp : ∀ l : List (List Pr), PyData.depthAll (l.map lp) ≤ 2
  | [] => by simp [PyData.depthAll]
  | x :: l => by
    rw [List.map_cons]
    have := depAll_lp l
    have := depAll_pd x
    simp only [PyData.depthAll, PyData.depth, lp]
    omega
theorem shaped_lp (l : List Pr) : SeqAt.shaped (lp l) = true := shaped_cells l
theorem shaped_lps (l : List (List Pr)) : SeqAt.shaped (.list (l.map lp)) = true := by
  unfold SeqAt.shaped
  have := depAll_lp l
  simp only [PyData.canLay0, PyData.depth, canAll_lp]
  simp
  omega
theorem any_lp (p : List Pr) : ∀ ps : List (List Pr), (ps.map lp).any (fun z => PyData.eqv z (lp p)) = decide (p ∈ ps)
  | [] => by simp
  | q :: ps => by
    rw [List.map_cons, List.any_cons, any_lp p ps, eqv_lp]
    by_cases e : q = p
    · subst e
      simp
    · have e2 : ¬ p = q := fun z => e z.symm
      simp [e, e2]
theorem dp_cellsL {K : PySem.W.Frag} {H : Hp} {a : Addr} {pss : List (List Pr)} (h : CellsL H a pss) : Dp K H (.ref a) (.list (pss.map lp)) := by
  obtain ⟨ts, hl, ht, rfl⟩ := h
  refine .lst (lst_of hl) ?_
  have go : ∀ us : List (Addr × List Pr), (∀ t ∈ us, Cells H t.1 t.2) → DpAll K H (us.map fun t => V.ref t.1) ((us.map (·.2)).map lp) := fun us => by
    induction us with
    | nil => exact fun _ => .nil
    | cons t us ih => exact fun h => .cons (dp_cells (h t List.mem_cons_self)) (ih fun u m => h u (List.mem_cons_of_mem _ m))
  exact go ts ht
theorem op_inL {X : Cx} (hu : X.A.units + 65 < cLine) : OpR X (compareOp .In) (fun x y H Q => ∃ (t a : Addr) (p : List Pr) (ps : List (List Pr)), x = .ref t ∧ y = .ref a ∧ Cells H t p ∧ CellsL H a ps ∧ Q (.bl (decide (p ∈ ps))) H) := by
  intro pins s σ H x y v u Q I rx ry h
  obtain ⟨t, a, p, ps, rfl, rfl, ht, hc, q⟩ := h
  refine op_inD hu pins s σ H _ _ v u Q I rx ry ⟨lp p, ps.map lp, dp_cells ht, dp_cellsL hc, shaped_lp p, shaped_lps ps, ?_⟩
  rw [any_lp]
  exact q
theorem mt_indexL {X : Cx} (hu : X.A.units + 65 < cLine) : MtR X "list.index" (fun x xs H Q => ∃ (a t : Addr) (p : List Pr) (ps : List (List Pr)), x = .ref a ∧ xs = [.ref t] ∧ Cells H t p ∧ CellsL H a ps ∧
    ∃ j, ps[j]? = some p ∧ (∀ m p', m < j → ps[m]? = some p' → p' ≠ p) ∧ Q (.int (j : Nat)) H) := by
  intro pins s σ H x xs v us Q I rx rxs h
  obtain ⟨a, t, p, ps, rfl, rfl, ht, hc, j, hj, hno, q⟩ := h
  refine mt_indexD hu pins s σ H _ _ v us Q I rx rxs ⟨a, .ref t, lp p, ps.map lp, j, lp p, rfl, rfl, dp_cellsL hc, dp_cells ht, shaped_lps ps, shaped_lp p, by rw [List.getElem?_map, hj]; rfl, by rw [eqv_lp]; exact decide_eq_true rfl, fun m z' hm hz => ?_, q⟩
  rw [List.getElem?_map] at hz
  obtain ⟨p', hp, rfl⟩ := Option.map_eq_some_iff.mp hz
  rw [eqv_lp]
  exact decide_eq_false (hno m p' hm hp)
theorem CellsL.add {H : Hp} {l t : Addr} {pss : List (List Pr)} {ps : List Pr} {vs : List V} (h : CellsL H l pss) (hv : H l = some (.lst vs)) (hc : Cells H t ps) (ne : t ≠ l) : CellsL (upd H l (.lst (vs ++ [.ref t]))) l (pss ++ [ps]) := by
  obtain ⟨ts, h1, h2, rfl⟩ := h
  have e : vs = ts.map fun t => V.ref t.1 := by
    rw [h1] at hv
    injection hv with hv
    injection hv with hv
    exact hv.symm
  subst e
  have nt : ∀ xs, H l ≠ some (.tup xs) := fun xs z => by
    rw [h1] at z
    cases z
  have nl : ∀ u ∈ ts, u.1 ≠ l := fun u m e => by
    obtain ⟨us, g1, g2, _⟩ := h2 u m
    rw [e, h1] at g1
    injection g1 with g1
    injection g1 with g1
    have mu : V.ref u.1 ∈ ts.map fun t => V.ref t.1 := List.mem_map.mpr ⟨u, m, rfl⟩
    rw [g1] at mu
    obtain ⟨y, my, ey⟩ := List.mem_map.mp mu
    have ey : y.1 = u.1 := V.ref.inj ey
    have z := g2 y my
    rw [ey, e, h1] at z
    cases z
  refine ⟨ts ++ [(t, ps)], by rw [upd_same, List.map_append]; rfl, fun u m => ?_, by rw [List.map_append]; rfl⟩
  rcases List.mem_append.mp m with m | m
  · exact (h2 u m).mut (nl u m) nt
  · rw [List.mem_singleton.mp m]
    exact hc.mut ne nt
theorem CellsL.one {H : Hp} {l t : Addr} {ps : List Pr} (h : H l = some (.lst [.ref t])) (hc : Cells H t ps) : CellsL H l [ps] := ⟨[(t, ps)], h, fun u m => by rw [List.mem_singleton.mp m]; exact hc, rfl⟩
/-- a statement with a word of one's own behind it -/
def tMid (t : TS) : TS := fun D σ H => ∃ P : L2.St → Hp → Prop, t { D with nx := P } σ H ∧ ∀ σ' H', P σ' H' → D.nx σ' H'
theorem ps_mid {X : Cx} {st : Stmt} {t : TS} (h : PS X st t) : PS X st (tMid t) := by
  refine ⟨fun pins s σ H D I hw => ?_⟩
  obtain ⟨P, h1, h2⟩ := hw
  refine thn (h.run pins s σ H _ I h1) fun f s1 q => ?_
  cases f with
  | next =>
    obtain ⟨σ', H', I2, q⟩ := q
    exact ⟨σ', H', I2, h2 _ _ q⟩
  | brk => exact q
  | cont => exact q
  | ret v => exact q
/-- an expression with a word of one's own behind it -/
def tMidE (t : TE) : TE := fun σ H Q => ∃ P : V → Hp → Prop, t σ H P ∧ ∀ v H', P v H' → Q v H'
theorem pe_mid {X : Cx} {e : Expr} {t : TE} (h : PE X e t) : PE X e (tMidE t) := by
  refine ⟨fun pins s σ H Q I hw => ?_⟩
  obtain ⟨P, h1, h2⟩ := hw
  exact thn (h.run pins s σ H _ I h1) fun v s1 ⟨x, H1, I2, r, q⟩ => ⟨x, H1, I2, r, h2 _ _ q⟩
end Vx
namespace Vx
open PySem PySem.Spec PyProof.Rows L2
/-! ### the least one of some lists of pairs -/
def ltL (a b : List Pr) : Bool := W.dataLt (lp a) (lp b)
theorem toksAll_inj : ∀ (a b : List Pr), W.keyToksAll (a.map pd) = W.keyToksAll (b.map pd) → a = b
  | [], [], _ => rfl
  | [], y :: b, h => by simp [W.keyToksAll] at h
  | x :: a, [], h => by simp [W.keyToksAll] at h
  | x :: a, y :: b, h => by
    obtain ⟨x1, x2⟩ := x
    obtain ⟨y1, y2⟩ := y
    simp [W.keyToksAll, W.keyToks, pd] at h
    obtain ⟨h1, h2, h3⟩ := h
    rw [h1, h2, toksAll_inj a b h3]
theorem lp_inj {a b : List Pr} (h : lp a = lp b) : a = b := by
  have : PyData.eqv (lp a) (lp b) = true := by
    rw [h, eqv_lp]
    exact decide_eq_true rfl
  rw [eqv_lp] at this
  exact of_decide_eq_true this
theorem ltL_irr (a : List Pr) : ltL a a = false := lex_irrefl _
theorem ltL_trans {a b c : List Pr} (h : ltL a b = true) (h2 : ltL b c = true) : ltL a c = true := lex_trans _ _ _ h h2
theorem ltL_neg {a b c : List Pr} (h : ltL a c = true) : ltL a b = true ∨ ltL b c = true := lex_negTrans _ _ _ h
theorem ltL_total {a b : List Pr} (h : ltL a b = false) (h2 : ltL b a = false) : a = b := by
  have e := lex_total _ _ h h2
  exact toksAll_inj a b e
def minL (x : List Pr) (xs : List (List Pr)) : List Pr := xs.foldl (fun a y => if ltL y a then y else a) x
def LeastL (m : List Pr) (xs : List (List Pr)) : Prop := m ∈ xs ∧ ∀ y ∈ xs, ltL y m = false
theorem minL_least : ∀ (xs : List (List Pr)) (x : List Pr), LeastL (minL x xs) (x :: xs)
  | [], x => ⟨List.mem_cons_self, fun y m => by rw [List.mem_singleton.mp m]; exact ltL_irr x⟩
  | y :: xs, x => by
    show LeastL (minL (if ltL y x then y else x) xs) (x :: y :: xs)
    have ih := minL_least xs (if ltL y x then y else x)
    generalize minL (if ltL y x then y else x) xs = m at ih
    obtain ⟨h1, h2⟩ := ih
    by_cases c : ltL y x = true
    · rw [if_pos c] at h1 h2
      refine ⟨List.mem_cons_of_mem _ h1, fun z mz => ?_⟩
      rcases List.mem_cons.mp mz with e | mz
      · rw [e]
        refine Bool.eq_false_iff.mpr fun t => ?_
        have := h2 y List.mem_cons_self
        rw [ltL_trans c t] at this
        cases this
      · exact h2 z mz
    · rw [if_neg c] at h1 h2
      have c := Bool.eq_false_iff.mpr c
      refine ⟨?_, fun z mz => ?_⟩
      · rcases List.mem_cons.mp h1 with e | m1
        · rw [e]
          exact List.mem_cons_self
        · exact List.mem_cons_of_mem _ (List.mem_cons_of_mem _ m1)
      · rcases List.mem_cons.mp mz with e | mz
        · exact h2 z (e ▸ List.mem_cons_self)
        · rcases List.mem_cons.mp mz with e | mz
          · rw [e]
            refine Bool.eq_false_iff.mpr fun t => ?_
            rcases ltL_neg (b := x) t with t | t
            · rw [c] at t
              cases t
            · rw [h2 x List.mem_cons_self] at t
              cases t
          · exact h2 z (List.mem_cons_of_mem _ mz)
theorem LeastL.uniq {a b : List Pr} {xs ys : List (List Pr)} (h : LeastL a xs) (h2 : LeastL b ys) (e : ∀ x, x ∈ xs ↔ x ∈ ys) : a = b :=
  ltL_total (h2.2 a ((e a).mp h.1)) (h.2 b ((e b).mpr h2.1))
theorem minD_lp (x : List Pr) : ∀ xs : List (List Pr), W.minD (lp x) (xs.map lp) = lp (minL x xs) := by
  intro xs
  unfold W.minD minL
  induction xs generalizing x with
  | nil => rfl
  | cons y xs ih =>
    rw [List.map_cons, List.foldl_cons, List.foldl_cons, ← ih]
    congr 1
    show (if ltL y x = true then lp y else lp x) = _
    split <;> rfl
theorem alike_pd (x y : Pr) : W.alike (pd x) (pd y) = true := rfl
theorem alikeAll_pd : ∀ a b : List Pr, W.alikeAll (a.map pd) (b.map pd) = true
  | [], _ => by simp [W.alikeAll]
  | _ :: _, [] => by simp [W.alikeAll]
  | x :: a, y :: b => by
    rw [List.map_cons, List.map_cons, W.alikeAll, alike_pd, alikeAll_pd a b]
    rfl
theorem alike_lp (a b : List Pr) : W.alike (lp a) (lp b) = true := by
  unfold lp
  rw [W.alike]
  exact alikeAll_pd a b
theorem plainAll_pd : ∀ l : List Pr, PyData.plainAll (l.map pd) = true
  | [] => by simp [PyData.plainAll]
  | x :: l => by
    rw [List.map_cons]
    simp [PyData.plainAll, PyData.plain, pd, plainAll_pd l]
theorem plain_lp (l : List Pr) : PyData.plain (lp l) = true := by
  unfold lp
  rw [PyData.plain]
  exact plainAll_pd l
theorem plainAll_lp : ∀ l : List (List Pr), PyData.plainAll (l.map lp) = true
  | [] => by simp [PyData.plainAll]
  | x :: l => by
    rw [List.map_cons, PyData.plainAll, plain_lp, plainAll_lp l]
    rfl
section
variable {X : Cx}
theorem cr_minL (hc : X.calm = true) (hu : X.A.units + 65 < cLine) : CallR X (.builtin "min") (fun xs H Q => ∃ l x xss, xs = [V.ref l] ∧ CellsL H l (x :: xss) ∧ ∀ a, Cells H a (minL x xss) → Q (.ref a) H) := by
  intro pins s σ H xs us Q I r h
  obtain ⟨l, x, xss, rfl, ⟨ts, hl, ht, ets⟩, q⟩ := h
  obtain ⟨its, rv, pl, hz⟩ := I.list (lst_of hl)
  rw [Vals.ref1 r]
  have dpa : DpAll X.K H (ts.map fun t => V.ref t.1) ((x :: xss).map lp) := by
    rw [← ets]
    have go : ∀ us : List (Addr × List Pr), (∀ t ∈ us, Cells H t.1 t.2) → DpAll X.K H (us.map fun t => V.ref t.1) ((us.map (·.2)).map lp) := fun us => by
      induction us with
      | nil => exact fun _ => .nil
      | cons t us ih => exact fun h => .cons (dp_cells (h t List.mem_cons_self)) (ih fun u m => h u (List.mem_cons_of_mem _ m))
    exact go ts ht
  obtain ⟨as, hr⟩ := Dp.readsAll I _ _ its dpa rv
  have dep := depAll_lp (x :: xss)
  have er : its = ts.map fun t => Value.ref t.1 := by
    have go : ∀ (us : List (Addr × List Pr)) (vs : List Value), Vals (us.map fun t => V.ref t.1) vs → vs = us.map fun t => Value.ref t.1 := fun us => by
      induction us with
      | nil => intro vs h; cases h; rfl
      | cons u us ih =>
        intro vs h
        cases h with
        | cons r1 r2 =>
          cases r1
          rw [ih _ r2]
          rfl
    exact go ts its rv
  refine W.min_list_data (x := lp x) (xs := xss.map lp) (I.ok.hd hc) pl.isList hr ⟨fun a ma b mb => ?_, fun a ma => ?_⟩ (by rw [← List.map_cons]; omega) fun i v h' tk bs hv rd k => ?_
  · obtain ⟨a, _, rfl⟩ := List.mem_map.mp (show a ∈ (x :: xss).map lp from ma)
    obtain ⟨b, _, rfl⟩ := List.mem_map.mp (show b ∈ (x :: xss).map lp from mb)
    exact alike_lp a b
  · obtain ⟨a, _, rfl⟩ := List.mem_map.mp (show a ∈ (x :: xss).map lp from ma)
    intro z
    cases z
  · rw [minD_lp] at rd
    have hv' : its[i]? = some v := by simpa using hv
    rw [er, List.getElem?_map] at hv'
    obtain ⟨t, et, rfl⟩ := Option.map_eq_some_iff.mp hv'
    have mt := List.mem_of_getElem? et
    obtain ⟨as2, r2⟩ := Dp.reads I (lp t.2) (.ref t.1) (.ref t.1) (dp_cells (ht t mt)) rfl
    have e := W.alike_unique _ _ _ _ _ (alike_lp _ _) rd (Reads.keeps k r2)
    refine ⟨.ref t.1, H, I.kept k, rfl, q t.1 ?_⟩
    rw [lp_inj e]
    exact ht t mt
theorem count_lp (p : List Pr) : ∀ pss : List (List Pr), (pss.map lp).countP (fun y => PyData.eqv y (lp p)) = pss.count p
  | [] => rfl
  | x :: pss => by
    rw [List.map_cons, List.countP_cons, List.count_cons, count_lp p pss, eqv_lp]
    by_cases e : x = p
    · simp [e]
    · simp [e]
theorem mt_countL (hu : X.A.units + 65 < cLine) : MtR X "list.count" (fun x xs H Q => ∃ (a t : Addr) (p : List Pr) (pss : List (List Pr)), x = .ref a ∧ xs = [.ref t] ∧ Cells H t p ∧ CellsL H a pss ∧ Q (.int (pss.count p : Nat)) H) := by
  intro pins s σ H x xs v us Q I rx rxs h
  obtain ⟨a, t, p, pss, rfl, rfl, hp, hl, q⟩ := h
  cases rx
  obtain ⟨u, rfl, ru⟩ := rxs.one
  obtain ⟨as, r1⟩ := Dp.reads I (lp p) (.ref t) u (dp_cells hp) ru
  have dl := dp_cellsL (K := X.K) hl
  have dep := depAll_lp pss
  cases dl with
  | lst hs ha =>
    obtain ⟨its, rv, pl, hz⟩ := I.list hs
    obtain ⟨bs, hr⟩ := Dp.readsAll I _ _ its ha rv
    refine SeqAt.count_list_data pl.isList hr r1 (plainAll_lp pss) (plain_lp p) (by have := Nat.min_le_left (PyData.depthAll (pss.map lp)) (lp p).depth; omega) ?_
    rw [count_lp]
    exact ⟨.int (pss.count p : Nat), H, I.tok _, ⟨_, rfl⟩, q⟩
end
theorem ix_listK {X : Cx} {K : PySem.W.Frag} (hK : X.K = K) : IxR X (rIxL K) := by
  subst hK
  exact ix_list
theorem op_eqDK {X : Cx} {K : PySem.W.Frag} (hK : X.K = K) (hu : X.A.units + 64 < cLine) : OpR X (compareOp .Eq) (rEqD K) := by
  subst hK
  exact op_eqD hu
/-- a comprehension over such a list, a new list of pairs for each -/
theorem lc_lists {K : PySem.W.Frag} {l : Addr} {pss : List (List Pr)} {g : TG} {tt : TT} {te : TE} {vs : List Nat} {σ : L2.St} {H1 : Hp} {D : Addr} {Qd : Hp → Prop} (f : List Pr → List Pr) (hC : CellsL H1 l pss) (nD : H1 D = none) (few : pss.length < sizeLine)
    (hs : ∀ (t : Addr) (ps : List Pr) (H' : Hp) (Po : V → Hp → Prop) (Pn : Hp → Prop), ps ∈ pss → Same H1 H' → Cells H' t ps → (∀ H2 t2, Same H' H2 → H' t2 = none → Cells H2 t2 (f ps) → Po (.ref t2) H2) →
      g (.ref t) (wipe σ vs) H' fun σ2 H2 => wipe σ2 vs = wipe σ vs ∧ tt σ2 H2 fun b H3 => if b = true then te σ2 H3 Po else Pn H3)
    (hd : ∀ H', Same H1 H' → CellsL H' D (pss.map f) → Qd H') :
    ∃ W : Nat → Nat → Hp → Prop, (∃ m, W 0 m (upd H1 D (.lst []))) ∧ ∀ i m H, W i m H →
      ((Itl K l).stop i H ∧ Qd H) ∨ ((Itl K l).go i H ∧ ∃ Nx : Hp → Prop, (∀ H', Nx H' → ∃ m', m' < m ∧ W (i + 1) m' H') ∧ ∀ x H', (Itl K l).yld i H x H' → g x (wipe σ vs) H' fun σ2 H2 => wipe σ2 vs = wipe σ vs ∧ tt σ2 H2 fun b H3 =>
        if b = true then te σ2 H3 fun y H4 => ∃ acc, H4 D = some (.lst acc) ∧ acc.length < sizeLine ∧ Nx (upd H4 D (.lst (acc ++ [y]))) else Nx H3) := by
  obtain ⟨ts, hl, ht, rfl⟩ := hC
  rw [List.length_map] at few
  refine lc_list (K := K) (a := l) (xs := ts.map fun t => V.ref t.1) (fun i H' => Same H1 H' ∧ ∃ us : List (Addr × List Pr), H' D = some (.lst (us.map fun t => V.ref t.1)) ∧ (∀ t ∈ us, t.1 ≠ D ∧ Cells H' t.1 t.2) ∧ us.map (·.2) = ((ts.map (·.2)).take i).map f)
    ⟨newS nD, [], upd_same, fun _ m => (by cases m), rfl⟩ (fun i H' _ p => lst_of (p.1 _ _ hl)) ?_ ?_
  · rintro i x H' hi ⟨sm, us, h1, h2, h3⟩
    rw [List.getElem?_map] at hi
    obtain ⟨t, et, rfl⟩ := Option.map_eq_some_iff.mp hi
    have mt := List.mem_of_getElem? et
    have ei : (ts.map (·.2))[i]? = some t.2 := by rw [List.getElem?_map, et]; rfl
    have li := (List.getElem?_eq_some_iff.mp et).1
    have ul : us.length = i := by
      have z := congrArg List.length h3
      rw [List.length_map, List.length_map, List.length_take, List.length_map] at z
      omega
    refine hs t.1 t.2 H' _ _ (List.mem_map.mpr ⟨t, mt, rfl⟩) sm ((ht t mt).up sm) fun H2 t2 e2 n2 hc => ⟨us.map fun t => V.ref t.1, e2 _ _ h1, by rw [List.length_map]; omega, mutS (sm.trans e2) nD, us ++ [(t2, f t.2)], ?_, ?_, ?_⟩
    · rw [upd_same, List.map_append]
      rfl
    · have nD2 : t2 ≠ D := fun e => by
        rw [e, h1] at n2
        cases n2
      have nt : ∀ xs, H2 D ≠ some (.tup xs) := fun xs e => by
        rw [e2 _ _ h1] at e
        cases e
      intro u m
      rcases List.mem_append.mp m with m | m
      · exact ⟨(h2 u m).1, ((h2 u m).2.up e2).mut (h2 u m).1 nt⟩
      · rw [List.mem_singleton.mp m]
        exact ⟨nD2, hc.mut nD2 nt⟩
    · rw [List.map_append, h3, take_next ei, List.map_append]
      rfl
  · rintro H' ⟨sm, us, h1, h2, h3⟩
    refine hd H' sm ⟨us, h1, fun t m => (h2 t m).2, ?_⟩
    rw [h3, List.length_map, List.take_of_length_le (by rw [List.length_map]; exact Nat.le_refl _)]
end Vx
namespace Vx
open PySem PySem.Spec PyProof.Rows L2
/-- isinstance of the caught error, its class told by the reading -/
theorem call_isE2 {X : Cx} {a D : Addr} {oe : Obj} {cls : Value} {d : Option Addr} {pn : List (Addr × Obj)} (C : ExcC X.K D) (hz : Zc cls d oe) (hf : ∃ vs, oe.data = .fields vs) :
    CallR (X.suite a ((a, oe) :: pn)) (.builtin "isinstance") (fun xs H Q => cls = .ref D ∧ d = none ∧ rIsE X.K D a xs H Q) := fun pins s σ H xs us Q I r h => by
  obtain ⟨h1, h2, h3⟩ := h
  subst h1 h2
  exact call_isE C hz hf pins s σ H xs us Q I r h3
theorem kit_sub {K : PySem.W.Frag} {D C : Addr} {b : Bool} (hc : PySem.W.isClsIn K C = true) (ht : PySem.W.typeIn K (.ref C) = some (.type "type")) (h1 : PySem.W.subIn K (.ref D) (.ref D) = some true) (h2 : PySem.W.subIn K (.ref D) (.ref C) = some b) :
    PySem.W.kitOne K (.ref D) (.ref C) = some b := by
  unfold PySem.W.kitOne
  by_cases e : D = C
  · subst e
    rw [h1] at h2
    rw [if_pos (beq_self_eq_true _)]
    exact h2
  · rw [if_neg (by intro q; exact e (Value.ref.inj (beq_iff_eq.mp q)))]
    unfold PySem.W.kitCls
    have hc' : (PySem.W.clsIn K C).isSome = true := hc
    have e2 : ((PySem.W.clsIn K C).isSome && PySem.W.typeIn K (.ref C) == some (.type "type")) = true := by rw [hc', ht]; rfl
    show (if ((PySem.W.clsIn K C).isSome && PySem.W.typeIn K (.ref C) == some (.type "type")) = true then PySem.W.subIn K (.ref D) (.ref C) else none) = some b
    rw [if_pos e2]
    exact h2
theorem kit_ve {K : PySem.W.Frag} {D : Addr} {b : Bool} (h2 : PySem.W.subIn K (.ref D) (.type "ValueError") = some b) : PySem.W.kitOne K (.ref D) (.type "ValueError") = some b := by
  unfold PySem.W.kitOne
  rw [if_neg (by intro q; cases (beq_iff_eq.mp q))]
  show (if PySem.W.kitMeta "ValueError" = true then PySem.W.subIn K (.ref D) (.type "ValueError") else none) = some b
  rw [if_pos (by decide +kernel)]
  exact h2
end Vx
namespace Vx
open PySem PySem.Spec PyProof.Rows L2
/-! ### a number in binary digits -/
def binL (n : Nat) : List Nat := (Nat.toDigits 2 n).map Char.toNat
def binT (n : Nat) : Str := ⟨(binL n).toArray⟩
section
open PySem.Builtin PySem.Builtin.Int PySem.Builtin.Float
variable {prog : Program} {w : World} {A : Around} {E : Value → Shared → Prop} {s : Shared} {t : Tok}
def fB : FormatSpec := { align := 62, type := some 98 }
theorem parse_b : parseFormatSpec (Str.ofString "b").cps.toList "int" 62 = .ok fB := by rfl
theorem field_b {n : Nat} {Q : Value → Shared → Prop} (hl : (binT n).length ≤ sizeLine) (h : ∀ t' k, Q (.str (binT n) t') { s with toks := k }) : wpAny (model prog w) A (formatField (.int (n : Int) t) (Str.ofString "b")) Q E s := by
  refine PySem.W.KXf.field_int (spec' := Str.ofString "b") (y := binT n) rfl (by decide +kernel) (by decide +kernel) (fun u => ?_) h
  apply PySem.W.KPc.meets_of
  intro prog w A s P E k
  unfold Builtin.«int.__format__»
  have hne : ((Str.ofString "b").length == 0) = false := by decide +kernel
  have hasc : (((Str.ofString "b").cps.toList.drop 1).any (· ≥ 128) || ((Str.ofString "b").cps.getD 0 0 ≥ 128 && !([60, 62, 61, 94] : List Nat).contains ((Str.ofString "b").cps.getD 1 0))) = false := by decide +kernel
  simp only [selfAndOne, noKeywords, Int.intOfSelf, asInt?, asStr?, List.isEmpty_nil, if_true, pure_bind, bind_pure, bind_assoc, hne, hasc, Bool.false_eq_true, if_false,
    show (Value.str (Str.ofString "b") u == Value.none) = false from rfl]
  refine wpAny_bind (wpAny_typeNameOf (T := "str") (typeIs_str _ _ _) (by decide) fun _ => ?_)
  refine wpAny_bind (wpAny_typeNameOfCut_int ?_)
  simp only [parse_b]
  rw [if_pos (by decide +kernel)]
  have ne : Nat.toDigits 2 n ≠ [] := Nat.toDigits_ne_nil
  have main : intField' fB (decide ((n : Int) < 0)) [] ((Nat.toDigits 2 ((n : Int)).natAbs).map Char.toNat) [] 4 = binT n := by
    rw [decide_eq_false (show ¬ (n : Int) < 0 by omega), Int.natAbs_natCast]
    unfold binT binL
    cases hd : Nat.toDigits 2 n with
    | nil => exact absurd hd ne
    | cons c cs =>
      have go : ∀ L : List Nat, L.isEmpty = false → intField' fB false [] L [] 4 = ⟨L.toArray⟩ := fun L hL => by
        unfold intField'
        rw [hL]
        show (⟨(List.replicate (((-1 : Int) - (0 + 0 + 0) - ((List.replicate ((0 : Int).toNat - L.length) 48 ++ L).length : Int)).toNat) 32 ++ [] ++ [] ++ List.replicate 0 32 ++ (List.replicate ((0 : Int).toNat - L.length) 48 ++ L) ++ [] ++ List.replicate 0 32).toArray⟩ : Str) = ⟨L.toArray⟩
        have r0 : (0 : Int).toNat - L.length = 0 := Nat.zero_sub _
        have r1 : ((-1 : Int) - (((0 : Nat) : Int) + ((0 : Nat) : Int) + ((0 : Nat) : Int)) - (L.length : Int)).toNat = 0 := by omega
        rw [r0, List.replicate_zero, List.replicate_zero, List.nil_append, r1]
        simp
      exact go _ rfl
  show wpAny (model prog w) A (retStr _) P E s
  refine PySem.W.KXf.ret_text (T := binT n) ?_ ?_ k
  · exact main
  · refine Nat.le_trans (Nat.le_of_eq ?_) hl
    exact congrArg Str.length main
end
section
variable {X : Cx}
/-- f"{n:b}" -/
theorem pe_fmtB {e spec : Expr} {te : TE} {pos : Pos} (he : PE X e te) (hs : PE X spec (tC (.str (Str.ofString "b")))) : PE X (.FormattedValue e (-1) (some spec) pos) (fun σ H Q => te σ H fun x H1 => ∃ n : Nat, x = .int (n : Int) ∧ (binT n).length ≤ sizeLine ∧ Q (.str (binT n)) H1) := by
  refine ⟨fun pins s σ H Q I h => ?_⟩
  refine wpAny_FormattedValue_spec (thn (he.run pins s σ H _ I h) fun v s1 hv => ?_)
  obtain ⟨x, H1, I1, r1, n, rfl, hl, q⟩ := hv
  obtain ⟨t, rfl⟩ := r1
  refine thn (hs.run pins s1 σ H1 (fun y H2 => y = .str (Str.ofString "b") ∧ Q (.str (binT n)) H2) I1 ⟨rfl, q⟩) fun r s2 hr => ?_
  obtain ⟨y, H2, I2, r2, rfl, q2⟩ := hr
  obtain ⟨t2, rfl⟩ := r2
  exact ⟨_, _, rfl, field_b hl fun t' k => ⟨.str (binT n), H2, I2.tok k, ⟨_, rfl⟩, q2⟩⟩
end
theorem cnt_nat (c : Nat) : ∀ l : List Nat, cnt c l = ((l.count c : Nat) : Int)
  | [] => by rfl
  | x :: l => by
    have ih : countIn (.str ⟨#[c]⟩) (l.map fun n => PyData.str ⟨#[n]⟩) = _ := cnt_nat c l
    show (if same (PyData.str ⟨#[x]⟩) (.str ⟨#[c]⟩) = true then 1 else 0) + countIn (.str ⟨#[c]⟩) (l.map fun n => PyData.str ⟨#[n]⟩) = _
    rw [ih, List.count_cons]
    have e : same (PyData.str ⟨#[x]⟩) (PyData.str ⟨#[c]⟩) = (x == c) := by
      show ((⟨#[x]⟩ : Str) == ⟨#[c]⟩) = _
      by_cases h : x = c
      · subst h
        simp
      · have h2 : ((⟨#[x]⟩ : Str) == ⟨#[c]⟩) = false := beq_eq_false_iff_ne.mpr fun z => h (by injection z with z; injection z with z; injection z with z)
        rw [h2]
        exact (beq_eq_false_iff_ne.mpr h).symm
    rw [e]
    by_cases h : (x == c) = true
    · rw [if_pos h, if_pos h]
      omega
    · rw [if_neg h, if_neg h]
      omega
theorem bitsB_half (N n : Nat) : (bitsB (N + 1) n).length = n % 2 + (bitsB N (n / 2)).length := by
  unfold bitsB
  have e : ((fun j => n.testBit j) ∘ Nat.succ) = fun j => (n / 2).testBit j := funext fun j => Nat.testBit_succ n j
  rw [List.range_succ_eq_map, List.filter_cons, List.filter_map, e, Nat.testBit_zero]
  by_cases h : n % 2 = 1
  · rw [if_pos (decide_eq_true h), List.length_cons, List.length_map]
    omega
  · rw [if_neg (by simpa using h), List.length_map]
    omega
theorem binL_big {n : Nat} (h : 2 ≤ n) : binL n = binL (n / 2) ++ [n % 2 + 48] := by
  unfold binL
  rw [Nat.toDigits_of_base_le (by decide) h, List.map_append]
  congr 1
  have : n % 2 < 2 := Nat.mod_lt _ (by decide)
  rcases (show n % 2 = 0 ∨ n % 2 = 1 by omega) with e | e <;> rw [e] <;> rfl
theorem binL_small {n : Nat} (h : n < 2) : binL n = [n + 48] := by
  unfold binL
  rw [Nat.toDigits_of_lt_base h]
  rcases (show n = 0 ∨ n = 1 by omega) with e | e <;> rw [e] <;> rfl
/-- so many ones as there are bits -/
theorem ones_bits : ∀ (N n : Nat), n < 2 ^ N → (binL n).count 49 = (bitsB N n).length
  | 0, n, h => by
    have : n = 0 := by simpa using h
    subst this
    rw [binL_small (by decide), bits_zero]
    rfl
  | N + 1, n, h => by
    rw [bitsB_half]
    have h2 : n / 2 < 2 ^ N := by
      rw [Nat.pow_succ] at h
      omega
    by_cases b : 2 ≤ n
    · rw [binL_big b, List.count_append, ones_bits N (n / 2) h2, List.count_singleton]
      rcases (show n % 2 = 0 ∨ n % 2 = 1 by omega) with e | e <;> rw [e] <;> simp <;> omega
    · rw [binL_small (by omega), show n / 2 = 0 by omega, bits_zero]
      rcases (show n = 0 ∨ n = 1 by omega) with e | e <;> subst e <;> rfl
theorem bin_len : ∀ (N n : Nat), n < 2 ^ N → (binL n).length ≤ N + 1
  | 0, n, h => by
    have : n = 0 := by simpa using h
    subst this
    rw [binL_small (by decide)]
    exact Nat.le_refl _
  | N + 1, n, h => by
    have h2 : n / 2 < 2 ^ N := by
      rw [Nat.pow_succ] at h
      omega
    by_cases b : 2 ≤ n
    · rw [binL_big b, List.length_append]
      have := bin_len N (n / 2) h2
      simp
      omega
    · rw [binL_small (by omega)]
      simp
theorem count_bin {N n : Nat} (h : n < 2 ^ N) : Txt.count (binT n) (Str.ofString "1") = (((bitsB N n).length : Nat) : Int) := by
  have e : (Str.ofString "1") = ⟨#[49]⟩ := by decide +kernel
  rw [e, count_cnt, cnt_nat]
  show (((binL n).toArray.toList.count 49 : Nat) : Int) = _
  rw [ones_bits N n h]
theorem binT_len {N n : Nat} (h : n < 2 ^ N) (hN : N < 16000000) : (binT n).length ≤ sizeLine := by
  have := bin_len N n h
  show (binL n).toArray.size ≤ _
  rw [List.size_toArray, sizeLine_eq]
  omega
end Vx
namespace Vx
open PySem PySem.Spec PyProof.Rows L2
/-! ### a dict comprehension whose keys are tuples of ints -/
theorem set_compT {X : Cx} {pins : List (Addr × Obj)} {σ : L2.St} {H : Hp} {s : Shared} {E : Value → Shared → Prop} {D b : Addr} {kvs : List (List L2.Key × V)} {k : List L2.Key} {v : V} {r : Value} {Q : Unit → Shared → Prop} (hu : X.A.units < cLine) (I : Inv X pins σ H s)
    (hD : H D = some (.dT kvs)) (few : kvs.length < sizeLine) (eb : H b = some (.tup (k.map kV))) (rv : RelV v r) (h : ∀ s', Inv X pins σ (upd H D (.dT (putK kvs k v))) s' → Q () s') : wpAny (model X.prog X.w) X.A (dictSet D (.ref b) r) Q E s := by
  obtain ⟨lim, notSys, xs, rel, at_⟩ := dt_of I.hok hD
  have lx : xs.length ≤ sizeLine := Paired.length rel ▸ lim
  have lp := length_putK kvs k v
  refine wpAny_dictSet_heap (hsz := lx) (knd := tupleKind (mixKind X.prog X.w)) hu (key_of I.hok eb) at_ fun h' after same => h _ ?_
  obtain ⟨q, es, ep, gq, a1, a2, a3, _, a4⟩ := after
  have other : ∀ c ys, H c = some (.tup ys) → upd H D (.dT (putK kvs k v)) c = some (.tup ys) := fun c ys ec => by
    rw [upd_ne fun e => ?_]
    · exact ec
    · rw [e, hD] at ec
      cases ec
  exact d_write I (by rw [hD]; exact True.intro) same ⟨q, gq⟩ ⟨by omega, notSys, _, (rel.put k eb rv).keeps other, q, es, ep, gq, a1, a2, a3, a4⟩
/-- what one turn of the comprehension asks -/
def AskT (g : TG) (tt : TT) (tk tv : TE) (vs : List Nat) (σ0 : L2.St) (D : Addr) (Nx : Hp → Prop) (x : V) (H' : Hp) : Prop :=
  g x σ0 H' fun σ2 H2 => wipe σ2 vs = σ0 ∧ tt σ2 H2 fun b H3 =>
    if b = true then tk σ2 H3 fun y H4 => tv σ2 H4 fun z H5 => ∃ (kvs : List (List L2.Key × V)) (k : List L2.Key) (b : Addr), y = .ref b ∧ H5 b = some (.tup (k.map kV)) ∧ H5 D = some (.dT kvs) ∧ kvs.length < sizeLine ∧ Nx (upd H5 D (.dT (putK kvs k z))) else Nx H3
/-- one turn, in the comprehension's own block Y -/
theorem turnT {Y : Cx} {tg kx vx : Expr} {ifs : List Expr} {g : TG} {tt : TT} {tk tv : TE} {vs : List Nat} {σ0 : L2.St} {J : It} {fp : List Addr} {it D : Addr} {tn : Nat → Heap → Prop} {Nx : Hp → Prop} {R : Result → Shared → Prop} {Ex : Value → Shared → Prop} {G : Shared → Prop} {i : Nat} {H0 : Hp} {s0 : Shared}
    (hu : Y.A.units < cLine) (calm : Y.calm = true) (quiet : Y.xe = fun _ _ => False) (pg : PG Y tg g) (pt : PTs Y ifs tt) (pk : PE Y kx tk) (pv : PE Y vx tv) (T : Turn Y.prog Y.w Y.K tg J fp it tn)
    (own : ∀ {σ' : L2.St} {H' : Hp} {s' : Shared}, Inv Y [] σ' H' s' → (∀ b ∈ fp, H' b = none) → ∀ b ∈ fp, FpOk Y [] H' b)
    (I0 : Inv Y [] σ0 H0 s0) (st0 : tn i s0.heap) (no0 : ∀ b ∈ fp, H0 b = none) (go : J.go i H0) (ask : ∀ x H', J.yld i H0 x H' → AskT g tt tk tv vs σ0 D Nx x H')
    (fin : ∀ {s' : Shared} {H' : Hp}, Inv Y [] σ0 H' s' → tn (i + 1) s'.heap → (∀ b ∈ fp, H' b = none) → Nx H' → G s') :
    wpAny (model Y.prog Y.w) Y.A (pyNext (.ref it)) (fun r s₁ => match r with
      | none => R (.ok .next) s₁
      | some v => wpAny (model Y.prog Y.w) Y.A (letOwnedTupleGo tg (.ref it) v) (fun _ s₁' => wpAny (model Y.prog Y.w) Y.A (assign tg Y.env v) (fun _ s₂ =>
          wpAny (model Y.prog Y.w) Y.A (forIn ifs true fun c r => if r = true then do let ok ← isTrue c Y.env (eval c Y.env); pure (ForInStep.yield ok) else pure (ForInStep.yield r)) (fun ok s₃ =>
            if ok = true then wpAny (model Y.prog Y.w) Y.A (eval kx Y.env) (fun kv s₄ => wpAny (model Y.prog Y.w) Y.A (eval vx Y.env) (fun vv s₅ =>
              wpAny (model Y.prog Y.w) Y.A (dictSet D kv vv) (fun _ s₆ => G s₆) Ex s₅) Ex s₄) Ex s₃
            else G s₃) Ex s₂) Ex s₁') Ex s₁) Ex s0 := by
  have first := T.item Y rfl rfl rfl calm i [] s0 _ H0 (fun _ _ => False) I0 (own I0 no0) st0 go
  refine thnF first fun r s1 ⟨u, er, took⟩ => ?_
  subst er
  refine thnF took fun _ s2 ⟨x, H1, I1, rx, yx, st1, no1⟩ => ?_
  have J1 := I1.pinned (own I1 no1) (T.obj _ _ st1)
  have rg := pg.run _ s2 _ H1 x u _ J1 rx (ask x H1 yx)
  rw [quiet] at rg
  refine thnF rg fun _ s3 ⟨σ2, H2, I2, back, q2⟩ => ?_
  have rt := pt.run _ s3 σ2 H2 _ I2 q2
  rw [quiet] at rt
  refine thnF rt fun b s4 ⟨H3, I3, q3⟩ => ?_
  -- the end of the turn
  have close : ∀ {s' : Shared} {H' : Hp}, Inv Y ([] ++ pinsAt fp s2.heap) σ2 H' s' → Nx H' → G s' := fun {s' H'} I' nx => by
    have kept : ∀ c ∈ fp, ∀ o, s2.heap.get? c = some o → s'.heap.get? c = some o ∧ H' c = none := fun c hc o e => by
      have z := I'.pin (c, o) (List.mem_append_right _ (List.mem_append_right _ (mem_pinsAt hc e)))
      exact ⟨z.1, z.2.1⟩
    have len : σ0.length = σ2.length := by rw [← back, wipe_length]
    refine fin ((I'.unpinned (pins := [])).weak len fun j v e => ?_) (T.keep _ _ _ st1 fun c hc o e => (kept c hc o e).1) (fun c hc => ?_) nx
    · rw [← back] at e
      exact (wipe_some e).1
    · obtain ⟨o, e, _⟩ := T.obj _ _ st1 c hc
      exact (kept c hc o e).2
  cases b with
  | false => exact close I3 q3
  | true =>
    have rk := pk.run _ s4 σ2 H3 _ I3 q3
    rw [quiet] at rk
    refine thnF rk fun z s5 ⟨yk, H4, I4, ry, q4⟩ => ?_
    have rv := pv.run _ s5 σ2 H4 _ I4 q4
    rw [quiet] at rv
    refine thnF rv fun z2 s6 ⟨yv, H5, I5, rz, kvs, k, c, ek, hc, hD, few, nx⟩ => ?_
    subst ek
    cases ry
    exact set_compT hu I5 hD few hc rz fun s7 I7 => close I7 nx
section
variable {X : Cx}
/-- {k: v for target in iter if ..}: D the new dict -/
def tDcT (wi : TI) (g : TG) (tt : TT) (tk tv : TE) (vs : List Nat) : TE := fun σ H Q => wi σ H fun J H1 => ∀ D, H1 D = none → ∃ W : Nat → Nat → Hp → Prop, (∃ m, W 0 m (upd H1 D (.dT []))) ∧ ∀ i m H, W i m H →
  (J.stop i H ∧ Q (.ref D) H) ∨ (J.go i H ∧ ∃ Nx : Hp → Prop, (∀ H', Nx H' → ∃ m', m' < m ∧ W (i + 1) m' H') ∧ ∀ x H', J.yld i H x H' → AskT g tt tk tv vs (wipe σ vs) D Nx x H')
theorem dc_core {pins : List (Addr × Obj)} {s : Shared} {σ : L2.St} {H : Hp} {Q : VK} {kx vx tg iter : Expr} {ifs : List Expr} {scope : Scope} {own : List (Str × Nat)} {pos pos' : Pos} {wi : TI} {g : TG} {tt : TT} {tk tv : TE} {use : Option (Value → Sem Unit)} {Qf : Value → Shared → Prop} (calm : X.calm = true) (hu : X.A.units < cLine) (hN : X.N.Nodup) (I : Inv X pins σ H s) (hi : PI X tg iter wi) (ok : BlkOk X.N X.env.scope scope own)
    (hg : ∀ (s : Shared) (H : Hp) (C : Addr) (cl : List (Str × Addr)) (fp : List Addr), PG (X.blk s H scope (compEnvC scope cl C X.env) fp) tg g) (ht : ∀ (s : Shared) (H : Hp) (C : Addr) (cl : List (Str × Addr)) (fp : List Addr), PTs (X.blk s H scope (compEnvC scope cl C X.env) fp) ifs tt)
    (hk : ∀ (s : Shared) (H : Hp) (C : Addr) (cl : List (Str × Addr)) (fp : List Addr), PE (X.blk s H scope (compEnvC scope cl C X.env) fp) kx tk)
    (hv : ∀ (s : Shared) (H : Hp) (C : Addr) (cl : List (Str × Addr)) (fp : List Addr), PE (X.blk s H scope (compEnvC scope cl C X.env) fp) vx tv) (hs : ∀ x, foldedSetIterable iter X.env x = pure x) (h : tDcT wi g tt tk tv (own.map (·.2)) σ H Q)
    (hRR : ∀ D C s' m H', Inv X pins σ H' s' → Q (.ref D) H' → s'.heap.Ns C m → FpOk X pins H' C → compPost (model X.prog X.w) X.A X.xe use Qf (.ref D) C (.ok .next) s') :
    wpAny (model X.prog X.w) X.A (comprehension (.DictComp kx vx [⟨tg, iter, ifs, 0⟩] scope pos) scope X.env pos' newDict false (eval iter X.env) use) Qf X.xe s := by
  have hfree : ∀ y ∈ scope.names, y.2 = .free → ∃ c, X.env.cells.lookup y.1 = some c := fun y hy e => (ok.free y hy e).elim (fun k => I.ok.has _ (.inl k)) fun k => I.ok.has _ (.inr k)
  refine wpAny_comprehension_free (use := use) rfl hs (closure_ok hfree) ok.kind (fun y hy e => by rw [ok.uniq y hy, e]) (thn (hi.run pins s σ H _ I h) fun xv s1 hx => thn hx fun itv sI got => ?_)
  obtain ⟨it, fp, tn, J, HI, rfl, II, T, stI, fpI, q⟩ := got
  refine wpAny_newObj_type (newEnv_comp ?_)
  -- the new dict
  obtain ⟨D, eD⟩ : ∃ D, D = sI.heap.objs.size := ⟨_, rfl⟩
  have nD : HI D = none := II.hok.fresh (Nat.le_of_eq eD.symm)
  obtain ⟨W, ⟨m0, w0⟩, turns⟩ := q D nD
  have hE : ∃ sE : Shared, sE = { sI with heap := sI.heap.push { cls := .type "dict", data := .dict #[] } } := ⟨_, rfl⟩
  obtain ⟨sE, eE⟩ := hE
  have pushE : sE.heap = sI.heap.push { cls := .type "dict", data := .dict #[] } := by rw [eE]
  have IE : Inv X pins σ (upd HI D (.dT [])) sE := by
    rw [eE]
    refine II.laid (t' := sI.toks) (fun b o e => Heap.get?_push_of_some _ e) (Nat.le_of_eq eD.symm) ?_
    rw [eD]
    exact dt_empty sI.heap II.big
  have fpE : ∀ b ∈ fp, FpOk X pins (upd HI D (.dT [])) b ∧ b < sE.heap.objs.size := fun b hb => by
    obtain ⟨o, e, _⟩ := T.obj _ _ stI b hb
    have lb := Heap.lt_size e
    obtain ⟨no, more⟩ := fpI b hb
    refine ⟨⟨?_, more⟩, by rw [pushE, Heap.size_push]; exact Nat.lt_succ_of_lt lb⟩
    rw [upd_ne (Nat.ne_of_lt (by rw [eD]; exact lb))]
    exact no
  have stE : tn 0 sE.heap := T.keep _ _ _ stI fun b _ o e => by rw [pushE]; exact Heap.get?_push_of_some _ e
  -- the block
  have IB := block_start IE ok hN fpE
  have pgB := hg sE (upd HI D (.dT [])) sE.heap.objs.size (cellsFrom (sE.heap.objs.size + 1) scope.names (cloFrom X.env.cells scope.names [])) fp
  have ptB := ht sE (upd HI D (.dT [])) sE.heap.objs.size (cellsFrom (sE.heap.objs.size + 1) scope.names (cloFrom X.env.cells scope.names [])) fp
  have pkB := hk sE (upd HI D (.dT [])) sE.heap.objs.size (cellsFrom (sE.heap.objs.size + 1) scope.names (cloFrom X.env.cells scope.names [])) fp
  have pvB := hv sE (upd HI D (.dT [])) sE.heap.objs.size (cellsFrom (sE.heap.objs.size + 1) scope.names (cloFrom X.env.cells scope.names [])) fp
  rw [← eD]
  have eS : ({ sI with heap := sI.heap.push { cls := .type "dict", data := .dict #[] } } : Shared) = sE := eE.symm
  rw [eS]
  show codeAny _ _ (.compStart (.DictComp kx vx [⟨tg, iter, ifs, 0⟩] scope pos) 0 (.ref it) (.ref D) (compEnvC scope (cellsFrom (sE.heap.objs.size + 1) scope.names (cloFrom X.env.cells scope.names [])) sE.heap.objs.size X.env)) _ _
  have noE : ∀ b ∈ fp, upd HI D (.dT []) b = none := fun b hb => (fpE b hb).1.1
  obtain ⟨env, eEnv⟩ : ∃ env, env = compEnvC scope (cellsFrom (sE.heap.objs.size + 1) scope.names (cloFrom X.env.cells scope.names [])) sE.heap.objs.size X.env := ⟨_, rfl⟩
  have locE : env.locals = sE.heap.objs.size := by rw [eEnv]; rfl
  rw [← eEnv] at IB pgB ptB pkB pvB ⊢
  obtain ⟨HE, eHE⟩ : ∃ HE, HE = upd HI D (.dT []) := ⟨_, rfl⟩
  rw [← eHE] at IE IB pgB ptB pkB pvB w0 noE fpE
  obtain ⟨sB, eB⟩ : ∃ sB : Shared, sB = { sE with heap := pushCells (sE.heap.push { cls := .type "dict", data := .dict #[] }) scope.names } := ⟨_, rfl⟩
  rw [← eB] at IB ⊢
  have stB : tn 0 sB.heap := T.keep _ _ _ stE fun b _ o e => by rw [eB]; exact pushCells_keeps _ _ _ _ (Heap.get?_push_of_some _ e)
  have ownB : ∀ {σ' : L2.St} {H' : Hp} {s' : Shared}, Inv (X.blk sE HE scope env fp) [] σ' H' s' → (∀ b ∈ fp, H' b = none) → ∀ b ∈ fp, FpOk (X.blk sE HE scope env fp) [] H' b := fun {σ' H' s'} I' no b hb =>
    ⟨no b hb, (I'.ok.exf b hb).1, I'.ok.exfs b hb, .inl hb, fun x c e => (I'.ok.exf b hb).2 x c e, fun p hp => absurd (show p ∈ ([] : List (Addr × Obj)) ++ [] from hp) (by simp)⟩
  have loop : codeAny (model X.prog X.w) X.A (.compLoop (.DictComp kx vx [⟨tg, iter, ifs, 0⟩] scope pos) 0 (.ref it) (.ref D) env) (compPost (model X.prog X.w) X.A X.xe use Qf (.ref D) sE.heap.objs.size) sB := by
    refine compLoop_anyD (fun n s' => ∃ i H', Inv (X.blk sE HE scope env fp) [] (wipe σ (own.map (·.2))) H' s' ∧ tn i s'.heap ∧ (∀ b ∈ fp, H' b = none) ∧ W i n H') ?_ m0 ⟨0, HE, IB, stB, noE, w0⟩
    rintro n s5 ⟨i, H5, I5, st5, no5, w5⟩
    rcases turns i n H5 w5 with ⟨stop, done⟩ | ⟨go, Nx, less, ask⟩
    · refine thnF (T.done (X.blk sE HE scope env fp) rfl rfl rfl calm i [] s5 _ H5 (fun _ _ => False) I5 (ownB I5 no5) st5 stop) fun r s6 ⟨er, I6⟩ => ?_
      subst er
      have IX : Inv X pins σ H5 s6 := IE.call' (ch := fp) I6.os I6.base I6.hok I6.bare fun b hb => by
        obtain ⟨_, f1, _, f3, f4, f5⟩ := (fpE b hb).1
        exact ⟨f3, f1, f4, f5⟩
      have nC : H5 sE.heap.objs.size = none := by
        rw [← locE]
        exact I6.free
      obtain ⟨m, hn, _⟩ := I6.loc
      have hn : s6.heap.Ns env.locals m := hn
      rw [locE] at hn
      exact hRR D _ s6 m H5 IX done hn (IE.fpOk (Nat.le_refl _) nC)
    · refine turnT (Y := X.blk sE HE scope env fp) (G := fun s' => ∃ m, m < n ∧ ∃ i H', Inv (X.blk sE HE scope env fp) [] (wipe σ (own.map (·.2))) H' s' ∧ tn i s'.heap ∧ (∀ b ∈ fp, H' b = none) ∧ W i m H') hu calm rfl pgB ptB pkB pvB T ownB I5 st5 no5 go ask fun {s' H'} I' st' no' nx => ?_
      obtain ⟨m, lm, w'⟩ := less H' nx
      exact ⟨m, lm, i + 1, H', I', st', no', w'⟩
  exact codeAny_compStart_dict loop (T.self X.A 0 _ _ _ stB loop)
theorem pe_dcT {kx vx tg iter : Expr} {ifs : List Expr} {scope : Scope} {own : List (Str × Nat)} {pos : Pos} {wi : TI} {g : TG} {tt : TT} {tk tv : TE} (calm : X.calm = true) (hu : X.A.units < cLine) (hN : X.N.Nodup) (hi : PI X tg iter wi) (ok : BlkOk X.N X.env.scope scope own)
    (hg : ∀ (s : Shared) (H : Hp) (C : Addr) (cl : List (Str × Addr)) (fp : List Addr), PG (X.blk s H scope (compEnvC scope cl C X.env) fp) tg g) (ht : ∀ (s : Shared) (H : Hp) (C : Addr) (cl : List (Str × Addr)) (fp : List Addr), PTs (X.blk s H scope (compEnvC scope cl C X.env) fp) ifs tt)
    (hk : ∀ (s : Shared) (H : Hp) (C : Addr) (cl : List (Str × Addr)) (fp : List Addr), PE (X.blk s H scope (compEnvC scope cl C X.env) fp) kx tk)
    (hv : ∀ (s : Shared) (H : Hp) (C : Addr) (cl : List (Str × Addr)) (fp : List Addr), PE (X.blk s H scope (compEnvC scope cl C X.env) fp) vx tv) (hs : ∀ x, foldedSetIterable iter X.env x = pure x := by intro _; rfl) :
    PE X (.DictComp kx vx [⟨tg, iter, ifs, 0⟩] scope pos) (tDcT wi g tt tk tv (own.map (·.2))) := by
  refine ⟨fun pins s σ H Q I h => ?_⟩
  rw [arm_eval_DictComp]
  refine dc_core (use := none) calm hu hN I hi ok hg ht hk hv hs h fun D C s' m H' I' q hn f => ?_
  obtain ⟨f0, f1, f2, f3, f4, f5⟩ := f
  exact ⟨m, hn, fun h'' sb => ⟨.ref D, H', I'.turned (t' := s'.toks) (fun b o hb e => (sb.2 b hb).trans e) f0 f1 f3 f4 f5, rfl, q⟩⟩
theorem sw_dict {kx vx : Expr} {gs : List Comprehension} {scope : Scope} {pos py : Pos} {y : Str} {l : Nat} {env : Env} (hk : env.scope.kind = .function) (hy : env.scope.names.lookup y = some .local) (hl : (py.line == pos.line) = true)
    (ha : (scope.names.any fun (n, k) => n == y && (k == .local || k == .cell)) = false) : swapsWith (.DictComp kx vx gs scope pos) (some (.Name y py)) l env = pure true := by
  have ky : env.kindOf y = some .local := hy
  have hb : env.blockKind = .function := by unfold Env.blockKind; rw [hk]; rfl
  unfold swapsWith
  simp only [hb, ky, ha, Expr.pos, hl]
  rfl
theorem ps_setDcT {i : Nat} {y : Str} {py : Pos} {kx vx tg iter : Expr} {ifs : List Expr} {scope : Scope} {own : List (Str × Nat)} {pos spos : Pos} {wi : TI} {g : TG} {tt : TT} {tk tv : TE} (calm : X.calm = true) (hu : X.A.units < cLine) (hN : X.N.Nodup) (hy : X.N[i]? = some y) (hyl : X.env.scope.names.lookup y = some .local)
    (hsw : swapsWith (.DictComp kx vx [⟨tg, iter, ifs, 0⟩] scope pos) (some (.Name y py)) spos.line X.env = pure true) (hi : PI X tg iter wi) (ok : BlkOk X.N X.env.scope scope own)
    (hg : ∀ (s : Shared) (H : Hp) (C : Addr) (cl : List (Str × Addr)) (fp : List Addr), PG (X.blk s H scope (compEnvC scope cl C X.env) fp) tg g) (ht : ∀ (s : Shared) (H : Hp) (C : Addr) (cl : List (Str × Addr)) (fp : List Addr), PTs (X.blk s H scope (compEnvC scope cl C X.env) fp) ifs tt)
    (hk : ∀ (s : Shared) (H : Hp) (C : Addr) (cl : List (Str × Addr)) (fp : List Addr), PE (X.blk s H scope (compEnvC scope cl C X.env) fp) kx tk)
    (hv : ∀ (s : Shared) (H : Hp) (C : Addr) (cl : List (Str × Addr)) (fp : List Addr), PE (X.blk s H scope (compEnvC scope cl C X.env) fp) vx tv) (hs : ∀ x, foldedSetIterable iter X.env x = pure x := by intro _; rfl) :
    PS X (.Assign [.Name y py] (.DictComp kx vx [⟨tg, iter, ifs, 0⟩] scope pos) spos) (tAsg (tDcT wi g tt tk tv (own.map (·.2))) (gName i)) := by
  refine ⟨fun pins s σ H D I h => ?_⟩
  rw [exec_Assign_Name_used _ _ _ _ hsw]
  refine wpAny_bind (wpAny_standAt (wpAny_bind ?_))
  show wpAny _ X.A (do let _ ← comprehension (.DictComp kx vx [⟨tg, iter, ifs, 0⟩] scope pos) scope X.env (firstIterPos [⟨tg, iter, ifs, 0⟩] pos) newDict false (eval iter X.env) (some (assign (.Name y py) X.env))) _ _ s
  have h : tDcT wi g tt tk tv (own.map (·.2)) σ H (fun x H1 => gName i x σ H1 D.nx) := h
  refine wpAny_bind (thn (dc_core (Qf := fun _ s' => SP X pins D .next s') calm hu hN I hi ok hg ht hk hv hs h fun L C s' m H' I' q hn f => ?_) fun _ s' hq => wpAny_pure (wpAny_pure hq))
  show wpAny _ _ (assign (.Name y py) X.env (.ref L)) _ _ _
  refine wpAny_assign_Name (store_ok2 (v := V.ref L) I' hN hy (.inl hyl) rfl (fun s2 I2 ⟨a, sb, ha⟩ => ?_) (.inr hyl))
  obtain ⟨f0, f1, f2, f3, f4, f5⟩ := f
  have haC : C ≠ a := by
    rcases ha with z | z
    · rw [z]; exact f1
    · exact fun e => f4 y a z e.symm
  refine ⟨m, hn.sameBut sb haC, fun h3 sb3 => ?_⟩
  exact ⟨_, H', I2.turned (t' := s2.toks) (fun b o hb e => (sb3.2 b hb).trans e) f0 f1 f3 f4 f5, q⟩
/-- over a walk -/
theorem dcT_it {J : It} {n : Nat} {G : Hp → Prop} {Y : Nat → Hp → V → Hp → Prop} (w : Walk J n G Y) {g : TG} {tt : TT} {tk tv : TE} {vs : List Nat} {σ : L2.St} {H1 : Hp} {D : Addr} {Qd : Hp → Prop} (Pv : Nat → Hp → Prop) (h0 : Pv 0 (upd H1 D (.dT []))) (hG : ∀ i H, i ≤ n → Pv i H → G H)
    (hs : ∀ i x H H', i < n → Pv i H → Y i H x H' → AskT g tt tk tv vs (wipe σ vs) D (Pv (i + 1)) x H') (hd : ∀ H, Pv n H → Qd H) :
    ∃ W : Nat → Nat → Hp → Prop, (∃ m, W 0 m (upd H1 D (.dT []))) ∧ ∀ i m H, W i m H →
      (J.stop i H ∧ Qd H) ∨ (J.go i H ∧ ∃ Nx : Hp → Prop, (∀ H', Nx H' → ∃ m', m' < m ∧ W (i + 1) m' H') ∧ ∀ x H', J.yld i H x H' → AskT g tt tk tv vs (wipe σ vs) D Nx x H') := by
  refine ⟨fun i m H => m + i = n ∧ Pv i H, ⟨n, rfl, h0⟩, ?_⟩
  rintro i m H ⟨e, p⟩
  have st := hG i H (by omega) p
  by_cases lt : i < n
  · exact .inr ⟨w.goes i H lt st, Pv (i + 1), fun H' p' => ⟨m - 1, by omega, by omega, p'⟩, fun x H' y => hs i x H H' lt p (w.yields i H x H' lt st y)⟩
  · have : i = n := by omega
    subst this
    exact .inl ⟨w.stops H st, hd H p⟩
end
end Vx
namespace Vx
open PySem PySem.Spec PyProof.Rows L2
/-! ### enumerate(v), v a tuple -/
set_option maxHeartbeats 1000000 in
theorem meets_enumerate_new1 {v : Value} {o : Obj} {H : Heap → Prop} (B : Begins v o H) :
    Meets (Builtin.«enumerate.__new__» ⟨[.type "enumerate", v], []⟩) (fun _ R s => H s.heap ∧
      R (.ok (.ret (.ref (s.heap.push o).objs.size))) { s with heap := (s.heap.push o).push { cls := .type "enumerate", data := .fields #[.none, .bool false, .ref s.heap.objs.size, rawInt 0, .none, .none] } }) :=
  .of_wp fun prog w A R s h => by
    obtain ⟨hp, g, d, tk, os⟩ := s; obtain ⟨h1, h⟩ := h
    have hsub := sub_enumerate
    have q1 : ∀ {A' : Around} {E : Value → Shared → Prop} {Q : Value → Shared → Prop}, Q (.ref hp.objs.size) ⟨hp.push o, g, d, tk, os⟩ → wpAny (model prog w) A' (pyIter v) Q E ⟨hp, g, d, tk, os⟩ :=
      fun q => B.iter prog w _ _ ⟨hp, g, d, tk, os⟩ _ h1 q
    wp_walk using q1
    refine wpAny_stack_any fun st => wpAny_pure ?_
    split
    · rename_i c _ _ _ _ _
      cases (c == Value.type "enumerate")
      · wp_walk using q1
        exact ⟨_, rfl, h⟩
      · wp_walk using q1
        exact ⟨_, rfl, h⟩
    · wp_walk using q1
      exact ⟨_, rfl, h⟩
theorem call_enumerate1 {prog : Program} {w : World} {A : Around} {E : Value → Shared → Prop} {s : Shared} {v : Value} {o : Obj} {H : Heap → Prop} {Q : Value → Shared → Prop} (B : Begins v o H) (h1 : H s.heap)
    (h : ∀ h', IsEnum h' (s.heap.objs.size + 1) s.heap.objs.size 0 .none → h'.get? s.heap.objs.size = some o → h'.objs.size = s.heap.objs.size + 2 →
      (∀ b o, s.heap.get? b = some o → h'.get? b = some o) → Q (.ref (s.heap.objs.size + 1)) { s with heap := h' }) :
    wpAny (model prog w) A (call (.type "enumerate") [v]) Q E s := by
  refine callType_new F.called_enumerate (by decide) (F.typeCall_enumerate_1 _) (F.newCall_enumerate_1 _) (fun obj => F.args_object_init_2 obj _) F.entry_enumerate_new
    (meets_enumerate_new1 B) ⟨h1, ?_⟩
  have hz : (s.heap.push o).objs.size = s.heap.objs.size + 1 := Heap.size_push ..
  show _ ∧ _
  rw [hz]
  have he : IsEnum ((s.heap.push o).push { cls := .type "enumerate", data := .fields #[.none, .bool false, .ref s.heap.objs.size, rawInt 0, .none, .none] }) (s.heap.objs.size + 1) s.heap.objs.size 0 .none := by
    have := Heap.get?_push_size (s.heap.push o) (o := { cls := .type "enumerate", data := .fields #[.none, .bool false, .ref s.heap.objs.size, rawInt 0, .none, .none] }) rfl
    rw [hz] at this; exact this
  refine ⟨⟨_, he, rfl⟩, h _ he (Heap.get?_push_of_some _ (Heap.get?_push_size _ B.free)) (by rw [Heap.size_push, hz]) fun b o x => Heap.get?_push_of_some _ (Heap.get?_push_of_some _ x)⟩
def IteT (K : PySem.W.Frag) (a : Addr) : It :=
  ⟨fun i H => ∃ (xs : List V) (x : V), SqT K H a xs ∧ xs[i]? = some x, fun i H v H' => ∃ T x, v = .ref T ∧ H T = none ∧ H' = upd H T (.tup [.int (i : Nat), x]) ∧ ∀ xs, SqT K H a xs → xs[i]? = some x, fun i H => ∃ xs : List V, SqT K H a xs ∧ xs.length = i⟩
theorem turn_enumT {P : Program} {w : World} {K : PySem.W.Frag} {elts : List Expr} {kk : Nat} {tpos : Pos} (a e it : Addr) (nae : a ≠ e) (nai : a ≠ it) :
    Turn P w K (.Tuple elts kk tpos) (IteT K a) [e, it] e (fun i h => (∃ old, IsEnum h e it ((i : Nat) : Int) old) ∧ h.IsTupleIter it a i ∧ e ≠ it) where
  mem := by simp
  obj := fun i h st b hb => by
    obtain ⟨⟨old, he⟩, ⟨o, ho, hc, hd⟩, _⟩ := st
    have e' : b = e ∨ b = it := by simpa using hb
    rcases e' with z | z
    · rw [z]; exact ⟨_, he, fun v q => nomatch q⟩
    · rw [z]; exact ⟨o, ho, fun v q => by rw [hd] at q; cases q⟩
  keep := fun i h h' st k => let ⟨⟨old, he⟩, hi, hne⟩ := st; ⟨⟨old, k e (by simp) _ he⟩, hi.at fun o q => k it (by simp) o q, hne⟩
  item := by
    intro X hP hw hK hc i pins s σ H E I hf st hg
    subst hP hw hK
    obtain ⟨⟨old, he⟩, hit, hne⟩ := st
    obtain ⟨xs, x, hq, hx⟩ := hg
    obtain ⟨its, rv, p, hz⟩ := I.tuple hq
    obtain ⟨u, hu, ru⟩ := rv.get hx
    have hel : e < s.heap.objs.size := Heap.lt_size he
    have hil : it < s.heap.objs.size := by obtain ⟨_, q, _⟩ := hit; exact Heap.lt_size q
    have D := Draws.tuple (prog := X.prog) (w := X.w) (A := X.A.in1) (I.ok.hd hc) it a nai its.toArray
    have li : i < its.toArray.size := by
      have := List.getElem?_eq_some_iff.mp hu
      obtain ⟨q, _⟩ := this
      simpa using q
    refine wpAny_pyNext_enum_itemC D he ⟨hit, p⟩ li hne (by simp; exact ⟨hne, fun z => nae z.symm⟩) fun x' h' tk hx' ho hit' hT hsz hk => ?_
    have ex : x' = u := by
      have z : its.toArray[i]? = some x' := hx'
      rw [List.getElem?_toArray, hu] at z
      exact (Option.some.inj z).symm
    subst ex
    refine ⟨_, rfl, wpAny_letOwnedTupleGo_enum (s := { s with heap := h', toks := tk + 1 }) ho fun h'' he' sb => ?_⟩
    have hT2 : h''.get? s.heap.objs.size = some { cls := .type "tuple", data := .seq #[.int i tk, x'] } := (sb.2 _ (Nat.ne_of_gt hel)).trans hT
    have new : ObjOk X.prog X.w (upd H s.heap.objs.size (.tup [.int (i : Nat), x])) h'' s.heap.objs.size (.tup [.int (i : Nat), x]) :=
      ⟨by show 2 ≤ sizeLine; decide, [.int i tk, x'], .cons ⟨_, rfl⟩ (.cons ru .nil), ⟨_, hT2, rfl, _, rfl⟩⟩
    have I1 : Inv X pins σ (upd H s.heap.objs.size (.tup [.int (i : Nat), x])) { s with heap := h'', toks := tk + 1 } :=
      I.turnedNew (ch := [e, it]) (fun b ob hb q => (sb.2 b (fun z => hb (by simp [z]))).trans (hk b ob (fun z => hb (by simp [z])) (fun z => hb (by simp [z])) q)) hf (Nat.le_refl _) new
    refine ⟨.ref s.heap.objs.size, _, I1, rfl, ⟨_, x, rfl, I.hok.fresh (Nat.le_refl _), rfl, fun ys hy => by rw [I.tuple_inj hy hq]; exact hx⟩, ⟨⟨x', ?_⟩, hit'.1.at fun o q => (sb.2 it (Ne.symm hne)).trans q, hne⟩, fun b hb => ?_⟩
    · have e1 : ((i + 1 : Nat) : Int) = (i : Int) + 1 := by omega
      rw [e1]; exact he'
    · have hb' : b < s.heap.objs.size := by
        have e' : b = e ∨ b = it := by simpa using hb
        rcases e' with z | z
        · rw [z]; exact hel
        · rw [z]; exact hil
      rw [upd_ne (Nat.ne_of_lt hb')]
      exact (hf b hb).1
  done := by
    intro X hP hw hK hc i pins s σ H E I hf st hg
    subst hP hw hK
    obtain ⟨⟨old, he⟩, hit, hne⟩ := st
    obtain ⟨xs, hq, hx⟩ := hg
    obtain ⟨its, rv, p, hz⟩ := I.tuple hq
    obtain ⟨f0, f1, f2, f3, f4, f5⟩ := hf it (by simp)
    have hl := rv.length
    have D := Draws.tuple (prog := X.prog) (w := X.w) (A := X.A.in1) (I.ok.hd hc) it a nai its.toArray
    have en : i = its.toArray.size := by simp; omega
    refine wpAny_pyNext_enum_endD D he ?_ fun h' eb => ⟨rfl, I.turned (t' := s.toks) (fun b o hb q => eb b o hb q) f0 f1 f3 f4 f5⟩
    rw [← en]
    exact ⟨hit, p⟩
  self := fun A i s Q E st h => let ⟨⟨_, he⟩, _⟩ := st; wpAny_pyIter_enum he h
def iEnumT (K : PySem.W.Frag) (ta : TA) : TI := fun σ H R => ta σ H fun vs H1 => ∃ a xs, vs = [.ref a] ∧ SqT K H1 a xs ∧ R (IteT K a) H1
theorem pi_enumT {X : Cx} {e : Expr} {ta : TA} {p pos tpos : Pos} {elts : List Expr} {kk : Nat} (hg : Gl X "enumerate") (hm : X.mg "enumerate" = none) (ha : PA X [e] ta) (hs : starEach [e] X.env = [(false, eval e X.env)] := by rfl) :
    PI X (.Tuple elts kk tpos) (.Call (.Name "enumerate" p) [e] [] pos) (iEnumT X.K ta) := by
  refine ⟨fun pins s σ H R I h => ?_⟩
  refine Call_ (ld_blt I hg hm boot_enumerate (PyProof.Rows.callWith_type1 (thn (ha.run pos pins s σ H _ I h) fun us s1 ⟨vs, H1, I1, r1, q1⟩ => ?_) hs rfl))
  obtain ⟨a, xs, ex, hq, q⟩ := q1
  subst ex
  cases r1 with
  | cons r rr =>
    cases rr
    cases r
    obtain ⟨its, rv, p', hz⟩ := I1.tuple hq
    have la : a < s1.heap.objs.size := by obtain ⟨o, e, _⟩ := p'; exact Heap.lt_size e
    refine call_enumerate1 (begins_tuple a its.toArray) (show s1.heap.IsTuple a its.toArray from p') fun h' he hit hsz hk => wpAny_pyIter_enum he ?_
    have I2 : Inv X pins σ H1 { s1 with heap := h' } := I1.kept (t' := s1.toks) hk
    refine ⟨s1.heap.objs.size + 1, [s1.heap.objs.size + 1, s1.heap.objs.size], _, _, H1, rfl, I2, turn_enumT a (s1.heap.objs.size + 1) s1.heap.objs.size (Nat.ne_of_lt (Nat.lt_succ_of_lt la)) (Nat.ne_of_lt la), ⟨⟨.none, he⟩, ⟨_, hit, rfl, rfl⟩, Nat.succ_ne_self _⟩, fun b hb => ?_, q⟩
    have e' : b = s1.heap.objs.size + 1 ∨ b = s1.heap.objs.size := by simpa using hb
    have hle : s1.heap.objs.size ≤ b := by
      rcases e' with z | z
      · rw [z]; exact Nat.le_add_right _ _
      · rw [z]; exact Nat.le_refl _
    exact I1.fpOk hle (I1.hok.fresh hle)
theorem walk_enumT {K : PySem.W.Frag} {a : Addr} {xs : List V} : Walk (IteT K a) xs.length (fun H => SqT K H a xs) (YPair (fun i => some (.int (i : Nat))) (fun i => xs[i]?)) := by
  refine ⟨fun i _ hi q => ⟨xs, xs[i], q, by simp [hi]⟩, fun _ q => ⟨xs, q, rfl⟩, fun i H v H' _ q y => ?_⟩
  obtain ⟨T, x, h1, h2, h3, h4⟩ := y
  exact ⟨T, .int (i : Nat), x, h1, h2, h3, rfl, h4 xs q⟩
end Vx
namespace Vx
open PySem PySem.Spec PyProof.Rows L2
/-! ### comprehensions with any number of loops: one loop -/
def turnF (p : Pos) (tg : Expr) (ifs : List Expr) (em : (Unit → Sem PySem.Fin) → Sem PySem.Fin) (c : Code) (it : Value) (env : Env) : Sem PySem.Fin := do
  standAt p
  let r ← pyNext it
  match r with
  | none => pure (Fin.done Flow.next)
  | some v => do
    letOwnedTupleGo tg it v
    assign tg env v
    let s ← forIn ifs true fun c r => if r = true then do
        let ok ← PySem.isTrue c env (eval c env)
        pure (ForInStep.yield ok)
      else pure (ForInStep.yield r)
    if s = true then em fun _ => again c else again c
def finP (R : Result → Shared → Prop) (c : Code) (I : Nat → Shared → Prop) (n : Nat) : PySem.Fin → Shared → Prop := fun fin s' => match fin with
  | Fin.done f => R (Except.ok f) s'
  | Fin.again c' => c' = c ∧ ∃ m, m < n ∧ I m s'
theorem loopG {prog : Program} {w : World} {A : Around} {R : Result → Shared → Prop} {s : Shared} {e : Expr} {d : Nat} {it acc : Value} {env : Env} {p : Pos} {tg : Expr} {ifs : List Expr} {em : (Unit → Sem PySem.Fin) → Sem PySem.Fin}
    (hq : (Code.compLoop e d it acc env).quiet = true) (hun : A.under (Code.compLoop e d it acc env) = A) (hden : (model prog w).den (Code.compLoop e d it acc env) = Sem.onRaise (compTurn e d it acc env) fun x => do
      noteFrame x env
      theTreesLotGoes x)
    (ht : compTurn e d it acc env = turnF p tg ifs em (Code.compLoop e d it acc env) it env) (I : Nat → Shared → Prop)
    (turn : ∀ n s, I n s → wpAny (model prog w) A (pyNext it) (fun r s1 => match r with
        | none => R (Except.ok Flow.next) s1
        | some v => wpAny (model prog w) A (letOwnedTupleGo tg it v) (fun _ s2 => wpAny (model prog w) A (assign tg env v) (fun _ s3 =>
            wpAny (model prog w) A (forIn ifs true fun c r => if r = true then do
                let ok ← PySem.isTrue c env (eval c env)
                pure (ForInStep.yield ok)
              else pure (ForInStep.yield r)) (fun ok s4 => if ok = true then wpAny (model prog w) A (em fun _ => again (Code.compLoop e d it acc env)) (finP R (Code.compLoop e d it acc env) I n) (notedBy (model prog w) A env fun e s' => R (Except.error e) s') s4 else ∃ m, m < n ∧ I m s4)
              (notedBy (model prog w) A env fun e s' => R (Except.error e) s') s3)
            (notedBy (model prog w) A env fun e s' => R (Except.error e) s') s2)
          (notedBy (model prog w) A env fun e s' => R (Except.error e) s') s1)
      (notedBy (model prog w) A env fun e s' => R (Except.error e) s') s) (n : Nat) (h : I n s) : codeAny (model prog w) A (Code.compLoop e d it acc env) R s := by
  refine codeAny_loop hq I (fun n s hI => ?_) n h
  rw [hun, hden]
  refine wpAny_noted ?_
  rw [ht]
  unfold turnF
  refine wpAny_bind (wpAny_standAt (wpAny_bind (wpAny_mono (turn n s hI) (fun r s1 h1 => ?_) fun _ _ z => z)))
  cases r with
  | none => exact wpAny_pure h1
  | some v =>
    refine wpAny_bind (wpAny_mono h1 (fun _ s2 h2 => ?_) fun _ _ z => z)
    refine wpAny_bind (wpAny_mono h2 (fun _ s3 h3 => ?_) fun _ _ z => z)
    refine wpAny_bind (wpAny_mono h3 (fun ok s4 h4 => ?_) fun _ _ z => z)
    cases ok with
    | true =>
      rw [if_pos rfl] at h4 ⊢
      exact h4
    | false =>
      rw [if_neg (by decide)] at h4 ⊢
      exact wpAny_pure ⟨rfl, h4⟩
theorem startG {prog : Program} {w : World} {A : Around} {R : Result → Shared → Prop} {s : Shared} {e : Expr} {d : Nat} {it acc : Value} {env : Env} {g : Comprehension}
    (hq : ∀ it', (Code.compLoop e d it' acc env).quiet = true) (hun : A.under (Code.compStart e d it acc env) = A) (hden : (model prog w).den (Code.compStart e d it acc env) = Sem.onRaise (compStart e d it acc env) fun x => do
      noteFrame x env
      standAt theWindowsPlace)
    (hg : (clausesOf e)[d]? = some g) (ha : g.is_async = 0)
    (h0 : codeAny (model prog w) A (Code.compLoop e d it acc env) R s)
    (h : wpAny (model prog w) A (pyIter it) (fun it' s' => codeAny (model prog w) A (Code.compLoop e d it' acc env) R s') (notedBy (model prog w) A env fun x s' => R (Except.error x) s') s) :
    codeAny (model prog w) A (Code.compStart e d it acc env) R s := by
  refine codeAny_of_tree ?_
  rw [hun, hden]
  refine wpAny_notedAt ?_
  unfold compStart
  rw [hg]
  have z : ((some g).elim false fun x : Comprehension => x.is_async != 0) = false := by
    show (g.is_async != 0) = false
    rw [ha]
    rfl
  rw [z, if_neg (by decide)]
  refine wpAny_bind (wpAny_askSetting (wpAny_ite ?_))
  by_cases c : ({ program := (model prog w).prog, params := (model prog w).w.params } : Setting).params.followText "comprehension-iter-twice" = true
  · rw [if_pos c]
    exact wpAny_pure ⟨hq it, h0⟩
  · rw [if_neg c]
    refine wpAny_bind (wpAny_rule (wpAny_bind (wpAny_standAt (wpAny_bind (wpAny_mono h (fun it' s' h' => wpAny_pure ⟨hq it', h'⟩) fun _ _ z => z)))))
theorem lvl {Y : Cx} {pins : List (Addr × Obj)} {tg : Expr} {g : TG} {ifs : List Expr} {tt : TT} {J : It} {fp : List Addr} {it : Addr} {tn : Nat → Heap → Prop} (hc : Y.calm = true) (xe0 : Y.xe = fun _ _ => False) (T : Turn Y.prog Y.w Y.K tg J fp it tn) (pg : PG Y tg g) (pt : PTs Y ifs tt)
    {e : Expr} {d : Nat} {acc : Value} {p : Pos} {em : (Unit → Sem PySem.Fin) → Sem PySem.Fin} {R : Result → Shared → Prop}
    (hq : (Code.compLoop e d (.ref it) acc Y.env).quiet = true) (hun : Y.A.under (Code.compLoop e d (.ref it) acc Y.env) = Y.A) (hden : (model Y.prog Y.w).den (Code.compLoop e d (.ref it) acc Y.env) = Sem.onRaise (compTurn e d (.ref it) acc Y.env) fun x => do
      noteFrame x Y.env
      theTreesLotGoes x)
    (ht : compTurn e d (.ref it) acc Y.env = turnF p tg ifs em (Code.compLoop e d (.ref it) acc Y.env) (.ref it) Y.env)
    {EM : L2.St → Hp → (Hp → Prop) → Prop} {vs : List Nat} {σ0 : L2.St}
    (hem : ∀ (pins : List (Addr × Obj)) (s : Shared) (σ : L2.St) (H : Hp) (Nx : Hp → Prop) (Post : PySem.Fin → Shared → Prop) (E : Value → Shared → Prop), L2.Inv Y pins σ H s → EM σ H Nx → (∀ s' H', L2.Inv Y pins (wipe σ vs) H' s' → Nx H' → Post (Fin.again (Code.compLoop e d (.ref it) acc Y.env)) s') →
      wpAny (model Y.prog Y.w) Y.A (em fun _ => again (Code.compLoop e d (.ref it) acc Y.env)) Post E s)
    {W : Nat → Nat → Hp → Prop} {Qe : Hp → Prop}
    (turn : ∀ i m H, W i m H → (J.stop i H ∧ Qe H) ∨ (J.go i H ∧ ∃ Nx : Hp → Prop, (∀ H', Nx H' → ∃ m', m' < m ∧ W (i + 1) m' H') ∧ ∀ x H', J.yld i H x H' → g x (wipe σ0 vs) H' fun σ2 H2 => wipe σ2 vs = wipe σ0 vs ∧ tt σ2 H2 fun b H3 => if b = true then EM σ2 H3 Nx else Nx H3))
    (hR : ∀ s1 H, L2.Inv Y pins (wipe σ0 vs) H s1 → Qe H → R (Except.ok Flow.next) s1)
    {s : Shared} {H : Hp} {m : Nat} (I : L2.Inv Y pins (wipe σ0 vs) H s) (t0 : tn 0 s.heap) (hfp : ∀ b ∈ fp, FpOk Y pins H b) (w0 : W 0 m H) :
    codeAny (model Y.prog Y.w) Y.A (Code.compLoop e d (.ref it) acc Y.env) R s := by
  refine loopG hq hun hden ht (fun n s => ∃ i H, L2.Inv Y pins (wipe σ0 vs) H s ∧ tn i s.heap ∧ (∀ b ∈ fp, H b = none) ∧ W i n H) ?_ m ⟨0, H, I, t0, fun b hb => (hfp b hb).1, w0⟩
  rintro n s ⟨i, H1, I1, t1, nn, w1⟩
  have fpo : ∀ {H' : Hp}, (∀ b ∈ fp, H' b = none) → ∀ b ∈ fp, FpOk Y pins H' b := fun z b hb => ⟨z b hb, (hfp b hb).2⟩
  have no : ∀ {E : Value → Shared → Prop} (a : Value) (s : Shared), (fun _ _ => False : Value → Shared → Prop) a s → E a s := fun _ _ z => z.elim
  rcases turn i n H1 w1 with ⟨st, qe⟩ | ⟨go, Nx, nx, y⟩
  · refine wpAny_mono (T.done Y rfl rfl rfl hc i pins s _ H1 (fun _ _ => False) I1 (fpo nn) t1 st) (fun r s1 h1 => ?_) no
    obtain ⟨rfl, I2⟩ := h1
    exact hR s1 H1 I2 qe
  · refine wpAny_mono (T.item Y rfl rfl rfl hc i pins s _ H1 (fun _ _ => False) I1 (fpo nn) t1 go) (fun r s1 h1 => ?_) no
    obtain ⟨u, rfl, h1⟩ := h1
    refine wpAny_mono h1 (fun _ s2 h2 => ?_) no
    obtain ⟨x, H2, I2, rx, yl, t2, nn2⟩ := h2
    have P2 := I2.pinned (fpo nn2) (T.obj _ _ t2)
    have r3 := pg.run _ s2 _ H2 x u _ P2 rx (y x H2 yl)
    rw [xe0] at r3
    refine wpAny_mono r3 (fun _ s3 h3 => ?_) no
    obtain ⟨σ3, H3, I3, ew, h3⟩ := h3
    have r4 := pt.run _ s3 σ3 H3 _ I3 h3
    rw [xe0] at r4
    refine wpAny_mono r4 (fun ok s4 h4 => ?_) no
    obtain ⟨H4, I4, h4⟩ := h4
    have back : ∀ {s' : Shared} {H' : Hp}, L2.Inv Y (pins ++ pinsAt fp s2.heap) (wipe σ3 vs) H' s' → Nx H' → ∃ m, m < n ∧ ∃ i H, L2.Inv Y pins (wipe σ0 vs) H s' ∧ tn i s'.heap ∧ (∀ b ∈ fp, H b = none) ∧ W i m H := fun {s' H'} I' nx' => by
      obtain ⟨m', lm, w'⟩ := nx H' nx'
      have pin : ∀ b ∈ fp, ∀ o, s2.heap.get? b = some o → s'.heap.get? b = some o ∧ H' b = none := fun b hb o ho => by
        have := I'.pin (b, o) (List.mem_append.mpr (.inr (List.mem_append.mpr (.inr (mem_pinsAt hb ho)))))
        exact ⟨this.1, this.2.1⟩
      refine ⟨m', lm, i + 1, H', ?_, T.keep _ _ _ t2 fun b hb o ho => (pin b hb o ho).1, fun b hb => ?_, w'⟩
      · rw [← ew]
        exact I'.unpinned
      · obtain ⟨o, ho, _⟩ := T.obj _ _ t2 b hb
        exact (pin b hb o ho).2
    cases ok with
    | true =>
      rw [if_pos rfl] at h4 ⊢
      exact hem _ s4 σ3 H4 Nx _ _ I4 h4 fun s' H' I' n' => ⟨rfl, back I' n'⟩
    | false =>
      rw [if_neg (by decide)] at h4 ⊢
      exact back (I4.weak (wipe_length ..) fun _ _ z => (wipe_some z).1) h4
/-! ### what stands within a loop -/
def emL0 (elt : Expr) (acc : Value) (env : Env) : Sem Unit := do
  let x ← eval elt env
  let _ ← call (Value.builtin "list.append") [acc, x]
  pure ()
def emL (elt : Expr) (acc : Value) (env : Env) (k : Unit → Sem PySem.Fin) : Sem PySem.Fin := emL0 elt acc env >>= k
def emI (e : Expr) (d : Nat) (i1 : Expr) (acc : Value) (env : Env) (k : Unit → Sem PySem.Fin) : Sem PySem.Fin := do
  let x ← eval i1 env
  standAt i1.pos
  let x ← foldedSetIterable i1 env x
  let it ← holding [x] (pyIter x)
  let _ ← runOwn (Code.compStart e d it acc env) env
  k ()
abbrev EMT := L2.St → Hp → (Hp → Prop) → Prop
def tEm (te : TE) (D : Addr) : EMT := fun σ H Nx => te σ H fun y H4 => ∃ acc, H4 D = some (.lst acc) ∧ acc.length < sizeLine ∧ Nx (upd H4 D (.lst (acc ++ [y])))
def tTurns (J : It) (g : TG) (tt : TT) (vs : List Nat) (EM : EMT) (σ : L2.St) (Qe : Hp → Prop) (W : Nat → Nat → Hp → Prop) : Prop :=
  ∀ i m H, W i m H → (J.stop i H ∧ Qe H) ∨ (J.go i H ∧ ∃ Nx : Hp → Prop, (∀ H', Nx H' → ∃ m', m' < m ∧ W (i + 1) m' H') ∧ ∀ x H', J.yld i H x H' → g x (wipe σ vs) H' fun σ2 H2 => wipe σ2 vs = wipe σ vs ∧ tt σ2 H2 fun b H3 => if b = true then EM σ2 H3 Nx else Nx H3)
def tIn (wi : TI) (g : TG) (tt : TT) (vs : List Nat) (EM : EMT) : EMT := fun σ H Nx => wi σ H fun J H4 => ∃ W, (∃ m, W 0 m H4) ∧ tTurns J g tt vs EM σ Nx W
/-- an inner part runs -/
def Runs (Y : Cx) (vs : List Nat) (EM : EMT) (em : (Unit → Sem PySem.Fin) → Sem PySem.Fin) : Prop :=
  ∀ (pins : List (Addr × Obj)) (s : Shared) (σ : L2.St) (H : Hp) (Nx : Hp → Prop) (c : Code) (Post : PySem.Fin → Shared → Prop) (E : Value → Shared → Prop), L2.Inv Y pins σ H s → EM σ H Nx → (∀ s' H', L2.Inv Y pins (wipe σ vs) H' s' → Nx H' → Post (Fin.again c) s') →
    wpAny (model Y.prog Y.w) Y.A (em fun _ => again c) Post E s
theorem wipe_weak {Y : Cx} {pins : List (Addr × Obj)} {σ : L2.St} {H : Hp} {s : Shared} {vs vs1 : List Nat} (h : L2.Inv Y pins (wipe σ vs1) H s) (sub : ∀ i ∈ vs1, i ∈ vs) : L2.Inv Y pins (wipe σ vs) H s :=
  h.weak (by rw [wipe_length, wipe_length]) fun i v z => by
    obtain ⟨a, b⟩ := wipe_some z
    rw [wipe_out fun m => b (sub i m)]
    exact a
theorem runs_app {Y : Cx} (xe0 : Y.xe = fun _ _ => False) {elt : Expr} {te : TE} {D : Addr} (vs : List Nat) (pe : PE Y elt te) : Runs Y vs (tEm te D) (emL elt (.ref D) Y.env) := by
  intro pins s σ H Nx c Post E I h k
  unfold emL emL0
  have r := pe.run pins s σ H _ I h
  rw [xe0] at r
  refine wpAny_bind (wpAny_bind (wpAny_mono r (fun v s1 h1 => ?_) fun _ _ z => z.elim))
  obtain ⟨y, H1, I1, ry, acc, hD, few, nx⟩ := h1
  refine wpAny_bind (app_ok I1 hD few ry fun s2 I2 => ?_)
  refine wpAny_pure (wpAny_pure (k s2 _ (I2.weak (wipe_length ..) fun _ _ z => (wipe_some z).1) nx))
theorem runs_in {Y : Cx} (hc : Y.calm = true) (xe0 : Y.xe = fun _ _ => False) {e : Expr} {d : Nat} {acc : Value} {tg i1 : Expr} {ifs : List Expr} {wi : TI} {g : TG} {tt : TT} {vs vs1 : List Nat} {EM : EMT} {p : Pos} {em : (Unit → Sem PySem.Fin) → Sem PySem.Fin} {gc : Comprehension}
    (sub : ∀ i ∈ vs1, i ∈ vs) (pi : PI Y tg i1 wi) (pg : PG Y tg g) (pt : PTs Y ifs tt) (hem : Runs Y vs1 EM em) (hs : ∀ x, foldedSetIterable i1 Y.env x = pure x)
    (hq : ∀ it, (Code.compLoop e d it acc Y.env).quiet = true) (hun : ∀ it, Y.A.under (Code.compLoop e d it acc Y.env) = Y.A) (hden : ∀ it, (model Y.prog Y.w).den (Code.compLoop e d it acc Y.env) = Sem.onRaise (compTurn e d it acc Y.env) fun x => do
      noteFrame x Y.env
      theTreesLotGoes x)
    (hunS : ∀ it, Y.A.under (Code.compStart e d it acc Y.env) = Y.A) (hdenS : ∀ it, (model Y.prog Y.w).den (Code.compStart e d it acc Y.env) = Sem.onRaise (compStart e d it acc Y.env) fun x => do
      noteFrame x Y.env
      standAt theWindowsPlace)
    (hg : (clausesOf e)[d]? = some gc) (ha : gc.is_async = 0)
    (ht : ∀ it, compTurn e d it acc Y.env = turnF p tg ifs em (Code.compLoop e d it acc Y.env) it Y.env) : Runs Y vs (tIn wi g tt vs1 EM) (emI e d i1 acc Y.env) := by
  intro pins s σ H Nx c Post E I h k
  unfold emI
  have r := pi.run pins s σ H _ I h
  rw [xe0] at r
  refine wpAny_bind (wpAny_mono r (fun v s1 h1 => ?_) fun _ _ z => z.elim)
  refine wpAny_bind (wpAny_standAt ?_)
  rw [hs]
  refine wpAny_bind (wpAny_pure (wpAny_bind (wpAny_holding (wpAny_mono h1 (fun itv s2 h2 => ?_) fun _ _ z => z.elim))))
  obtain ⟨it, fp, tn, J, H2, rfl, I2, T, t0, hfp, W, ⟨m0, w0⟩, turns⟩ := h2
  refine wpAny_bind (wpAny_runOwn ?_)
  have loop := lvl (R := fun r s' => match r with | Except.ok f => wpAny (model Y.prog Y.w) Y.A (again c) Post E s' | Except.error e => False) hc xe0 T pg pt (hq _) (hun _) (hden _) (ht _) (EM := EM) (vs := vs1) (σ0 := σ) (fun pins s σ H Nx Post E I h k => hem pins s σ H Nx _ Post E I h k) turns
    (fun s1 H1 I1 q1 => wpAny_pure (k s1 H1 (wipe_weak I1 sub) q1)) (I2.weak (wipe_length ..) fun _ _ z => (wipe_some z).1) t0 hfp w0
  show codeAny _ Y.A _ _ _
  refine codeAny_mono (startG hq (hunS _) (hdenS _) hg ha loop (T.self Y.A 0 s2 _ _ t0 loop)) fun r s3 h3 => ?_
  cases r with
  | ok f => exact h3
  | error e => exact h3.elim
def tLcG (wi : TI) (g : TG) (tt : TT) (EM : Addr → EMT) (vs : List Nat) : TE := fun σ H Q => wi σ H fun J H1 => ∀ D : Addr, H1 D = none → ∃ W, (∃ m, W 0 m (upd H1 D (.lst []))) ∧ tTurns J g tt vs (EM D) σ (fun H => Q (.ref D) H) W
theorem pe_lcG {X : Cx} {elt tg iter : Expr} {ifs : List Expr} {rest : List Comprehension} {scope : Scope} {own : List (Str × Nat)} {pos p : Pos} {wi : TI} {g : TG} {tt : TT} {EM : Addr → EMT} {em : Value → Env → (Unit → Sem PySem.Fin) → Sem PySem.Fin}
    (hc : X.calm = true) (hN : X.N.Nodup) (hi : PI X tg iter wi) (ok : BlkOk X.N X.env.scope scope own)
    (hg : ∀ (s : Shared) (H : Hp) (C : Addr) (cl : List (Str × Addr)) (fp : List Addr), PG (X.blk s H scope (compEnvC scope cl C X.env) fp) tg g)
    (ht : ∀ (s : Shared) (H : Hp) (C : Addr) (cl : List (Str × Addr)) (fp : List Addr), PTs (X.blk s H scope (compEnvC scope cl C X.env) fp) ifs tt)
    (hem : ∀ (s : Shared) (H : Hp) (C : Addr) (cl : List (Str × Addr)) (fp : List Addr) (D : Addr), Runs (X.blk s H scope (compEnvC scope cl C X.env) fp) (own.map (·.2)) (EM D) (em (.ref D) (compEnvC scope cl C X.env)))
    (turn : ∀ it acc env, compTurn (.ListComp elt (⟨tg, iter, ifs, 0⟩ :: rest) scope pos) 0 it acc env = turnF p tg ifs (em acc env) (Code.compLoop (.ListComp elt (⟨tg, iter, ifs, 0⟩ :: rest) scope pos) 0 it acc env) it env)
    (hs : ∀ x, foldedSetIterable iter X.env x = pure x) : PE X (.ListComp elt (⟨tg, iter, ifs, 0⟩ :: rest) scope pos) (tLcG wi g tt EM (own.map (·.2))) := by
  refine ⟨fun pins s σ H Q I h => ?_⟩
  rw [eval_ListComp]
  have hfree : ∀ y ∈ scope.names, y.2 = NameKind.free → ∃ c, List.lookup y.1 X.env.cells = some c := fun y hy e => (ok.free y hy e).elim (fun k => I.ok.has y.1 (.inl k)) fun k => I.ok.has y.1 (.inr k)
  refine wpAny_comprehension_free rfl hs (closure_ok hfree) ok.kind (fun y hy e => by rw [ok.uniq y hy, e]) ?_
  refine wpAny_mono (hi.run pins s σ H _ I h) (fun xv s1 hx => ?_) fun _ _ z => z
  refine wpAny_mono hx (fun itv s2 h2 => ?_) fun _ _ z => z
  obtain ⟨it, fp, tn, J, H2, rfl, I2, T, t2, f2, q⟩ := h2
  refine wpAny_newObj_type (newEnv_comp ?_)
  have hDn : H2 s2.heap.objs.size = none := I2.hok.fresh (Nat.le_refl _)
  obtain ⟨W, ⟨m0, w0⟩, turns⟩ := q _ hDn
  have I3 : L2.Inv X pins σ (upd H2 s2.heap.objs.size (.lst [])) { s2 with heap := s2.heap.push { cls := .type "list", data := .seq #[] } } :=
    I2.laid (fun b o e => Heap.get?_push_of_some _ e) (Nat.le_refl _) ⟨Nat.zero_le _, [], 0, .nil, Heap.get?_push_size _ rfl⟩
  generalize es3 : ({ s2 with heap := s2.heap.push { cls := .type "list", data := .seq #[] } } : Shared) = s3 at I3 ⊢
  have h3 : s3.heap = s2.heap.push { cls := .type "list", data := .seq #[] } := by rw [← es3]
  have f3 : ∀ b ∈ fp, FpOk X pins (upd H2 s2.heap.objs.size (.lst [])) b ∧ b < s3.heap.objs.size := fun b hb => by
    obtain ⟨o, ho, _⟩ := T.obj 0 _ t2 b hb
    have lt := Heap.lt_size ho
    refine ⟨⟨?_, (f2 b hb).2⟩, ?_⟩
    · rw [upd_ne (Nat.ne_of_lt lt)]
      exact (f2 b hb).1
    · rw [h3, Heap.size_push]
      exact Nat.lt_succ_of_lt lt
  have st3 : tn 0 s3.heap := T.keep 0 _ _ t2 fun b _ o e => by
    rw [h3]
    exact Heap.get?_push_of_some _ e
  have I4 := block_start I3 ok hN f3
  have st4 := T.keep 0 _ (pushCells (s3.heap.push { cls := .type "dict", data := .dict #[] }) scope.names) st3 fun b _ o e => pushCells_keeps scope.names _ b o (Heap.get?_push_of_some _ e)
  clear es3
  generalize s2.heap.objs.size = D at *
  show codeAny (model X.prog X.w) X.A (Code.compStart _ 0 (.ref it) (.ref D) (compEnvC scope (cellsFrom (s3.heap.objs.size + 1) scope.names (cloFrom X.env.cells scope.names [])) s3.heap.objs.size X.env)) _ _
  have loop := lvl (Y := X.blk s3 (upd H2 D (.lst [])) scope (compEnvC scope (cellsFrom (s3.heap.objs.size + 1) scope.names (cloFrom X.env.cells scope.names [])) s3.heap.objs.size X.env) fp) (R := compPost (model X.prog X.w) X.A X.xe none (EP X pins σ Q) (.ref D) s3.heap.objs.size) (e := .ListComp elt (⟨tg, iter, ifs, 0⟩ :: rest) scope pos) (d := 0) (acc := .ref D) hc rfl T (hg _ _ _ _ _) (ht _ _ _ _ _) rfl rfl rfl (turn _ _ _) (EM := EM D) (vs := List.map (fun x : Str × Nat => x.2) own) (σ0 := σ) (W := W) (Qe := fun H => Q (.ref D) H)
    (fun pins s σ H Nx Post E I h k => hem _ _ _ _ _ D pins s σ H Nx _ Post E I h k) turns (fun s6 H5 I6 q6 => ?_) I4 st4 (fun b hb => ⟨(f3 b hb).1.1, (I4.ok.exf b hb).1, I4.ok.exfs b hb, .inl hb, (I4.ok.exf b hb).2, fun p hp => by cases hp⟩) w0
  · exact codeAny_compStart_list loop (T.self X.A 0 _ _ _ st4 loop)
  · have I7 := Inv.call' I3 I6.os I6.base I6.hok I6.bare fun b hb => ⟨(f3 b hb).1.2.2.2.1, (f3 b hb).1.2.1, (f3 b hb).1.2.2.2.2.1, (f3 b hb).1.2.2.2.2.2⟩
    obtain ⟨m, hn, _⟩ := I6.loc
    obtain ⟨a0, a1, a2, a3, a4, a5⟩ := Inv.fpOk I3 (Nat.le_refl _) I6.free
    exact ⟨m, hn, fun h' sb => ⟨.ref D, H5, Inv.turned I7 (fun b o hb e => (sb.2 b hb).trans e) a0 a1 a3 a4 a5, rfl, q6⟩⟩
/-- [e for a in xs for b in ys for c in zs] -/
theorem pe_lc3 {X : Cx} {elt tg iter tg1 iter1 tg2 iter2 : Expr} {ifs ifs1 ifs2 : List Expr} {scope : Scope} {own : List (Str × Nat)} {vs1 vs2 : List Nat} {pos : Pos} {wi wi1 wi2 : TI} {g g1 g2 : TG} {tt tt1 tt2 : TT} {te : TE}
    (hc : X.calm = true) (hN : X.N.Nodup) (hi : PI X tg iter wi) (ok : BlkOk X.N X.env.scope scope own) (hv1 : ∀ i ∈ vs1, i ∈ List.map (fun x : Str × Nat => x.2) own) (hv2 : ∀ i ∈ vs2, i ∈ vs1)
    (hg : ∀ (s : Shared) (H : Hp) (C : Addr) (cl : List (Str × Addr)) (fp : List Addr), PG (X.blk s H scope (compEnvC scope cl C X.env) fp) tg g)
    (ht : ∀ (s : Shared) (H : Hp) (C : Addr) (cl : List (Str × Addr)) (fp : List Addr), PTs (X.blk s H scope (compEnvC scope cl C X.env) fp) ifs tt)
    (hi1 : ∀ (s : Shared) (H : Hp) (C : Addr) (cl : List (Str × Addr)) (fp : List Addr), PI (X.blk s H scope (compEnvC scope cl C X.env) fp) tg1 iter1 wi1)
    (hg1 : ∀ (s : Shared) (H : Hp) (C : Addr) (cl : List (Str × Addr)) (fp : List Addr), PG (X.blk s H scope (compEnvC scope cl C X.env) fp) tg1 g1)
    (ht1 : ∀ (s : Shared) (H : Hp) (C : Addr) (cl : List (Str × Addr)) (fp : List Addr), PTs (X.blk s H scope (compEnvC scope cl C X.env) fp) ifs1 tt1)
    (hi2 : ∀ (s : Shared) (H : Hp) (C : Addr) (cl : List (Str × Addr)) (fp : List Addr), PI (X.blk s H scope (compEnvC scope cl C X.env) fp) tg2 iter2 wi2)
    (hg2 : ∀ (s : Shared) (H : Hp) (C : Addr) (cl : List (Str × Addr)) (fp : List Addr), PG (X.blk s H scope (compEnvC scope cl C X.env) fp) tg2 g2)
    (ht2 : ∀ (s : Shared) (H : Hp) (C : Addr) (cl : List (Str × Addr)) (fp : List Addr), PTs (X.blk s H scope (compEnvC scope cl C X.env) fp) ifs2 tt2)
    (he : ∀ (s : Shared) (H : Hp) (C : Addr) (cl : List (Str × Addr)) (fp : List Addr), PE (X.blk s H scope (compEnvC scope cl C X.env) fp) elt te)
    (hs : ∀ x, foldedSetIterable iter X.env x = pure x := by intro _; rfl) (hs1 : ∀ env x, foldedSetIterable iter1 env x = pure x := by intro _ _; rfl) (hs2 : ∀ env x, foldedSetIterable iter2 env x = pure x := by intro _ _; rfl) :
    PE X (.ListComp elt [⟨tg, iter, ifs, 0⟩, ⟨tg1, iter1, ifs1, 0⟩, ⟨tg2, iter2, ifs2, 0⟩] scope pos) (tLcG wi g tt (fun D => tIn wi1 g1 tt1 vs1 (tIn wi2 g2 tt2 vs2 (tEm te D))) (own.map (·.2))) := by
  refine pe_lcG (em := fun acc env => emI (.ListComp elt [⟨tg, iter, ifs, 0⟩, ⟨tg1, iter1, ifs1, 0⟩, ⟨tg2, iter2, ifs2, 0⟩] scope pos) 1 iter1 acc env) hc hN hi ok hg ht (fun s H C cl fp D => ?_) (fun _ _ _ => rfl) hs
  refine runs_in (Y := X.blk s H scope (compEnvC scope cl C X.env) fp) (gc := ⟨tg1, iter1, ifs1, 0⟩) hc rfl hv1 (hi1 s H C cl fp) (hg1 s H C cl fp) (ht1 s H C cl fp) (em := fun k => emI (.ListComp elt [⟨tg, iter, ifs, 0⟩, ⟨tg1, iter1, ifs1, 0⟩, ⟨tg2, iter2, ifs2, 0⟩] scope pos) 2 iter2 (.ref D) (compEnvC scope cl C X.env) k) ?_ (hs1 _) (fun _ => rfl) (fun _ => rfl) (fun _ => rfl) (fun _ => rfl) (fun _ => rfl) rfl rfl (fun _ => rfl)
  refine runs_in (Y := X.blk s H scope (compEnvC scope cl C X.env) fp) (gc := ⟨tg2, iter2, ifs2, 0⟩) hc rfl hv2 (hi2 s H C cl fp) (hg2 s H C cl fp) (ht2 s H C cl fp) (em := fun k => emL elt (.ref D) (compEnvC scope cl C X.env) k) ?_ (hs2 _) (fun _ => rfl) (fun _ => rfl) (fun _ => rfl) (fun _ => rfl) (fun _ => rfl) rfl rfl (fun _ => rfl)
  exact runs_app rfl vs2 (he s H C cl fp)
/-- [e for a in xs for b in ys] -/
theorem pe_lcD {X : Cx} {elt tg iter tg1 iter1 : Expr} {ifs ifs1 : List Expr} {scope : Scope} {own : List (Str × Nat)} {vs1 : List Nat} {pos : Pos} {wi wi1 : TI} {g g1 : TG} {tt tt1 : TT} {te : TE}
    (hc : X.calm = true) (hN : X.N.Nodup) (hi : PI X tg iter wi) (ok : BlkOk X.N X.env.scope scope own) (hv1 : ∀ i ∈ vs1, i ∈ List.map (fun x : Str × Nat => x.2) own)
    (hg : ∀ (s : Shared) (H : Hp) (C : Addr) (cl : List (Str × Addr)) (fp : List Addr), PG (X.blk s H scope (compEnvC scope cl C X.env) fp) tg g)
    (ht : ∀ (s : Shared) (H : Hp) (C : Addr) (cl : List (Str × Addr)) (fp : List Addr), PTs (X.blk s H scope (compEnvC scope cl C X.env) fp) ifs tt)
    (hi1 : ∀ (s : Shared) (H : Hp) (C : Addr) (cl : List (Str × Addr)) (fp : List Addr), PI (X.blk s H scope (compEnvC scope cl C X.env) fp) tg1 iter1 wi1)
    (hg1 : ∀ (s : Shared) (H : Hp) (C : Addr) (cl : List (Str × Addr)) (fp : List Addr), PG (X.blk s H scope (compEnvC scope cl C X.env) fp) tg1 g1)
    (ht1 : ∀ (s : Shared) (H : Hp) (C : Addr) (cl : List (Str × Addr)) (fp : List Addr), PTs (X.blk s H scope (compEnvC scope cl C X.env) fp) ifs1 tt1)
    (he : ∀ (s : Shared) (H : Hp) (C : Addr) (cl : List (Str × Addr)) (fp : List Addr), PE (X.blk s H scope (compEnvC scope cl C X.env) fp) elt te)
    (hs : ∀ x, foldedSetIterable iter X.env x = pure x := by intro _; rfl) (hs1 : ∀ env x, foldedSetIterable iter1 env x = pure x := by intro _ _; rfl) :
    PE X (.ListComp elt [⟨tg, iter, ifs, 0⟩, ⟨tg1, iter1, ifs1, 0⟩] scope pos) (tLcG wi g tt (fun D => tIn wi1 g1 tt1 vs1 (tEm te D)) (own.map (·.2))) := by
  refine pe_lcG (em := fun acc env => emI (.ListComp elt [⟨tg, iter, ifs, 0⟩, ⟨tg1, iter1, ifs1, 0⟩] scope pos) 1 iter1 acc env) hc hN hi ok hg ht (fun s H C cl fp D => ?_) (fun _ _ _ => rfl) hs
  refine runs_in (Y := X.blk s H scope (compEnvC scope cl C X.env) fp) (gc := ⟨tg1, iter1, ifs1, 0⟩) hc rfl hv1 (hi1 s H C cl fp) (hg1 s H C cl fp) (ht1 s H C cl fp) (em := fun k => emL elt (.ref D) (compEnvC scope cl C X.env) k) ?_ (hs1 _) (fun _ => rfl) (fun _ => rfl) (fun _ => rfl) (fun _ => rfl) (fun _ => rfl) rfl rfl (fun _ => rfl)
  exact runs_app rfl vs1 (he s H C cl fp)
theorem pi_tupK {X : Cx} {tg l : Expr} {tl : TE} {K : PySem.W.Frag} (hk : X.K = K) (h : PE X l tl) : PI X tg l (iTup K tl) := by
  subst hk
  exact pi_tup h
/-! ### readings -/
theorem turns_range {lo : Int} {n : Nat} {g : TG} {tt : TT} {vs : List Nat} {EM : EMT} {σ : L2.St} {H0 : Hp} {Qe : Hp → Prop} (Z : Nat → Hp → Prop) (z0 : Z 0 H0)
    (step : ∀ (i : Nat) (H : Hp), i < n → Z i H → g (.int (lo + (i : Int))) (wipe σ vs) H fun σ2 H2 => wipe σ2 vs = wipe σ vs ∧ tt σ2 H2 fun b H3 => if b = true then EM σ2 H3 (Z (i + 1)) else Z (i + 1) H3)
    (done : ∀ H, Z n H → Qe H) : ∃ W, (∃ m, W 0 m H0) ∧ tTurns (Itr lo n) g tt vs EM σ Qe W := by
  refine ⟨fun i m H => i ≤ n ∧ m = n - i ∧ Z i H, ⟨n, Nat.zero_le _, rfl, z0⟩, ?_⟩
  rintro i m H ⟨le, rfl, z⟩
  by_cases e : i = n
  · exact .inl ⟨Nat.le_of_eq e.symm, done H (e ▸ z)⟩
  · have lt : i < n := by omega
    refine .inr ⟨lt, Z (i + 1), fun H' z' => ⟨n - (i + 1), by omega, by omega, rfl, z'⟩, ?_⟩
    rintro x H' ⟨rfl, rfl⟩
    exact step i H' lt z
theorem turns_list {K : PySem.W.Frag} {a : Addr} {xs : List V} {g : TG} {tt : TT} {vs : List Nat} {EM : EMT} {σ : L2.St} {H0 : Hp} {Qe : Hp → Prop} (Z : Nat → Hp → Prop) (z0 : Z 0 H0) (keep : ∀ (i : Nat) (H : Hp), i ≤ xs.length → Z i H → SqL K H a xs)
    (step : ∀ (i : Nat) (x : V) (H : Hp), xs[i]? = some x → Z i H → g x (wipe σ vs) H fun σ2 H2 => wipe σ2 vs = wipe σ vs ∧ tt σ2 H2 fun b H3 => if b = true then EM σ2 H3 (Z (i + 1)) else Z (i + 1) H3)
    (done : ∀ H, Z xs.length H → Qe H) : ∃ W, (∃ m, W 0 m H0) ∧ tTurns (Itl K a) g tt vs EM σ Qe W := by
  refine ⟨fun i m H => i ≤ xs.length ∧ m = xs.length - i ∧ Z i H, ⟨_, Nat.zero_le _, rfl, z0⟩, ?_⟩
  rintro i m H ⟨le, rfl, z⟩
  by_cases e : i = xs.length
  · exact .inl ⟨⟨xs, keep i H le z, Nat.le_of_eq e.symm⟩, done H (e ▸ z)⟩
  · have lt : i < xs.length := by omega
    refine .inr ⟨⟨xs, xs[i], keep i H le z, List.getElem?_eq_getElem lt⟩, Z (i + 1), fun H' z' => ⟨xs.length - (i + 1), by omega, by omega, rfl, z'⟩, ?_⟩
    rintro x H' ⟨rfl, hx⟩
    exact step i x H' (hx xs (keep i H' le z)) z
theorem turns_tup {K : PySem.W.Frag} {a : Addr} {xs : List V} {g : TG} {tt : TT} {vs : List Nat} {EM : EMT} {σ : L2.St} {H0 : Hp} {Qe : Hp → Prop} (Z : Nat → Hp → Prop) (z0 : Z 0 H0) (keep : ∀ (i : Nat) (H : Hp), i ≤ xs.length → Z i H → SqT K H a xs)
    (step : ∀ (i : Nat) (x : V) (H : Hp), xs[i]? = some x → Z i H → g x (wipe σ vs) H fun σ2 H2 => wipe σ2 vs = wipe σ vs ∧ tt σ2 H2 fun b H3 => if b = true then EM σ2 H3 (Z (i + 1)) else Z (i + 1) H3)
    (done : ∀ H, Z xs.length H → Qe H) : ∃ W, (∃ m, W 0 m H0) ∧ tTurns (Itt K a) g tt vs EM σ Qe W := by
  refine ⟨fun i m H => i ≤ xs.length ∧ m = xs.length - i ∧ Z i H, ⟨_, Nat.zero_le _, rfl, z0⟩, ?_⟩
  rintro i m H ⟨le, rfl, z⟩
  by_cases e : i = xs.length
  · exact .inl ⟨⟨xs, keep i H le z, Nat.le_of_eq e.symm⟩, done H (e ▸ z)⟩
  · have lt : i < xs.length := by omega
    refine .inr ⟨⟨xs, xs[i], keep i H le z, List.getElem?_eq_getElem lt⟩, Z (i + 1), fun H' z' => ⟨xs.length - (i + 1), by omega, by omega, rfl, z'⟩, ?_⟩
    rintro x H' ⟨rfl, hx⟩
    exact step i x H' (hx xs (keep i H' le z)) z
end Vx
namespace PySem
open Sem (wp)
section
variable {prog : Program} {w : World} {K : Type} [DecidableEq K] {knd : HeapKind prog w K} {A : Around} {E : Value → Shared → Prop} {s : Shared}
theorem wpAny_truthy_dictH {d : Addr} {xs : List (K × Addr × Value)} {Q : Bool → Shared → Prop} (hd : (d == sysModules) = false) (hm : s.heap.DictOfH knd d xs) (hfit : (xs.length : Int) < 2 ^ 63)
    (h : Q (!xs.isEmpty) { s with toks := s.toks + 1 + 1 }) : wpAny (model prog w) A (truthy (.ref d)) Q E s := by
  have hne : ((xs.length : Int) != 0) = !xs.isEmpty := by cases xs <;> simp <;> omega
  have key : wpAny (model prog w) A (runValue (.builtin "len" ⟨[.ref d], []⟩)) (fun r s' => r = .int xs.length (s.toks + 1) ∧ Q (!xs.isEmpty) s') E s := by
    refine wpAny_runValue (codeAny_builtin entry_len ?_)
    rw [Around.under_plainId plain_len _]
    exact wpAny_mono (wpAny_len_body_dictH (Q := fun r s' => r = .int xs.length (s.toks + 1) ∧ Q (!xs.isEmpty) s') hd hm hfit ⟨rfl, h⟩)
      (fun fin s' h' => by obtain ⟨r, rfl, hq⟩ := h'; exact hq) fun _ _ e => e
  unfold truthy
  first
    | refine wpAny_bind (wpAny_callSpecial?_none (name := Str.ofString "__bool__") hm.typeIs noBool_dict ?_)
    | refine wpAny_bind (wpAny_pure (wpAny_bind (wpAny_callSpecial?_none (name := Str.ofString "__bool__") hm.typeIs noBool_dict ?_)))
  first
    | refine wpAny_bind (wpAny_specialOf (name := Str.ofString "__len__") hm.typeIs F.slot_dict_len.lookup ?_)
    | refine wpAny_bind (wpAny_pure (wpAny_bind (wpAny_specialOf (name := Str.ofString "__len__") hm.typeIs F.slot_dict_len.lookup ?_)))
  first
    | exact wpAny_bind (wpAny_mono key (fun r s' h' => by obtain ⟨rfl, hq⟩ := h'; exact wpAny_pure (hne ▸ hq)) fun _ _ e => e)
    | exact wpAny_bind (wpAny_pure (wpAny_bind (wpAny_mono key (fun r s' h' => by obtain ⟨rfl, hq⟩ := h'; exact wpAny_pure (hne ▸ hq)) fun _ _ e => e)))
end
end PySem
namespace Vx
open PySem PySem.Spec PyProof.Rows L2
theorem gName_go {i : Nat} {v : V} {σ : L2.St} {H : Hp} {Q : L2.St → Hp → Prop} (h : Q (σ.set i (some v)) H) : gName i v σ H Q := h
/-! ### min, max with a default, of ints -/
theorem foldl_min_mem : ∀ (ns : List Int) (n : Int), ns.foldl min n ∈ n :: ns ∧ ∀ y ∈ n :: ns, ns.foldl min n ≤ y
  | [], n => ⟨List.mem_cons_self, fun y m => by rw [List.mem_singleton.mp m]; exact Int.le_refl n⟩
  | k :: ns, n => by
    obtain ⟨h1, h2⟩ := foldl_min_mem ns (min n k)
    show ns.foldl min (min n k) ∈ _ ∧ ∀ y ∈ _, ns.foldl min (min n k) ≤ y
    have h0 := h2 _ List.mem_cons_self
    refine ⟨?_, fun y m => ?_⟩
    · rcases List.mem_cons.mp h1 with e | m
      · rw [e]
        rcases Int.le_total n k with c | c
        · rw [Int.min_eq_left c]; exact List.mem_cons_self
        · rw [Int.min_eq_right c]; exact List.mem_cons_of_mem _ List.mem_cons_self
      · exact List.mem_cons_of_mem _ (List.mem_cons_of_mem _ m)
    · rcases List.mem_cons.mp m with e | m
      · rw [e]; exact Int.le_trans h0 (Int.min_le_left _ _)
      · rcases List.mem_cons.mp m with e | m
        · rw [e]; exact Int.le_trans h0 (Int.min_le_right _ _)
        · exact h2 y (List.mem_cons_of_mem _ m)
theorem foldl_max_mem : ∀ (ns : List Int) (n : Int), ns.foldl max n ∈ n :: ns ∧ ∀ y ∈ n :: ns, y ≤ ns.foldl max n
  | [], n => ⟨List.mem_cons_self, fun y m => by rw [List.mem_singleton.mp m]; exact Int.le_refl n⟩
  | k :: ns, n => by
    obtain ⟨h1, h2⟩ := foldl_max_mem ns (max n k)
    show ns.foldl max (max n k) ∈ _ ∧ ∀ y ∈ _, y ≤ ns.foldl max (max n k)
    have h0 := h2 _ List.mem_cons_self
    refine ⟨?_, fun y m => ?_⟩
    · rcases List.mem_cons.mp h1 with e | m
      · rw [e]
        rcases Int.le_total n k with c | c
        · rw [Int.max_eq_right c]; exact List.mem_cons_of_mem _ List.mem_cons_self
        · rw [Int.max_eq_left c]; exact List.mem_cons_self
      · exact List.mem_cons_of_mem _ (List.mem_cons_of_mem _ m)
    · rcases List.mem_cons.mp m with e | m
      · rw [e]; exact Int.le_trans (Int.le_max_left _ _) h0
      · rcases List.mem_cons.mp m with e | m
        · rw [e]; exact Int.le_trans (Int.le_max_right _ _) h0
        · exact h2 y (List.mem_cons_of_mem _ m)
theorem alike_ints (ns : List Int) : W.AlikeAll (ns.map PyData.int) := ⟨fun a ma b mb => by
    obtain ⟨x, _, rfl⟩ := List.mem_map.mp ma
    obtain ⟨y, _, rfl⟩ := List.mem_map.mp mb
    simp [W.alike], fun a ma => by
    obtain ⟨x, _, rfl⟩ := List.mem_map.mp ma
    intro z
    cases z⟩
section
variable {X : Cx}
def rDflt (K : PySem.W.Frag) (le : Int → Int → Prop) : List V → List V → Hp → VK → Prop := fun vs zs H Q => ∃ (a : Addr) (ns : List Int) (d : V), vs = [V.ref a] ∧ zs = [d] ∧ SqL K H a (ns.map V.int) ∧ (ns = [] → Q d H) ∧ ∀ m, m ∈ ns → (∀ y ∈ ns, le m y) → Q (.int m) H
theorem cr_minD (hc : X.calm = true) (hu : X.A.units + 2 < cLine) : CallRK X (.builtin "min") [Str.ofString "default"] (rDflt X.K (fun m y => m ≤ y)) := by
  intro pins s σ H vs zs us ws Q I r rz h
  obtain ⟨a, ns, d, rfl, rfl, hs, q0, q⟩ := h
  obtain rfl := Vals.ref1 r
  obtain ⟨w1, rfl, e1⟩ := vals1 rz
  obtain ⟨its, rv, pl, hz⟩ := I.list hs
  obtain ⟨as, hr⟩ := Dp.readsAll I _ _ its (dpAll_ints ns) rv
  refine W.min_list_default (I.ok.hd hc) pl.isList hr (alike_ints ns) (by rw [depAll_ints]; omega) (fun z h' tk k => ?_) fun y ys i v h' tk bs e hv rd k => ?_
  · exact ⟨d, H, I.kept k, e1, q0 (List.map_eq_nil_iff.mp z)⟩
  · cases ns with
    | nil => cases e
    | cons n ns =>
      injection e with e1 e2
      subst e1 e2
      rw [W.minD_ints] at rd
      obtain ⟨h1, h2⟩ := foldl_min_mem ns n
      cases rd
      exact ⟨.int _, H, I.kept k, ⟨_, rfl⟩, q _ h1 h2⟩
theorem cr_maxD (hc : X.calm = true) (hu : X.A.units + 2 < cLine) : CallRK X (.builtin "max") [Str.ofString "default"] (rDflt X.K (fun m y => y ≤ m)) := by
  intro pins s σ H vs zs us ws Q I r rz h
  obtain ⟨a, ns, d, rfl, rfl, hs, q0, q⟩ := h
  obtain rfl := Vals.ref1 r
  obtain ⟨w1, rfl, e1⟩ := vals1 rz
  obtain ⟨its, rv, pl, hz⟩ := I.list hs
  obtain ⟨as, hr⟩ := Dp.readsAll I _ _ its (dpAll_ints ns) rv
  refine W.max_list_default (I.ok.hd hc) pl.isList hr (alike_ints ns) (by rw [depAll_ints]; omega) (fun z h' tk k => ?_) fun y ys i v h' tk bs e hv rd k => ?_
  · exact ⟨d, H, I.kept k, e1, q0 (List.map_eq_nil_iff.mp z)⟩
  · cases ns with
    | nil => cases e
    | cons n ns =>
      injection e with e1 e2
      subst e1 e2
      rw [W.maxD_ints] at rd
      obtain ⟨h1, h2⟩ := foldl_max_mem ns n
      cases rd
      exact ⟨.int _, H, I.kept k, ⟨_, rfl⟩, q _ h1 h2⟩
/-- if d: of a dict with tuple keys -/
theorem pt_truT {a : Expr} {ta : TE} (ha : PE X a ta) (he : ∀ whole, isTrue a X.env whole = (do let v ← whole; standAt a.pos; holding [v] (truthy v))) :
    PT X a (fun σ H Q => ta σ H fun x H' => ∃ (p : Addr) (kvs : List (List L2.Key × V)), x = .ref p ∧ H' p = some (.dT kvs) ∧ Q (!kvs.isEmpty) H') := by
  refine ⟨fun pins s σ H Q I h => ?_⟩
  refine isTrue_plain (thn (ha.run pins s σ H _ I h) fun v s1 ⟨x, H1, I1, r1, q1⟩ => ?_) (he _)
  obtain ⟨p, kvs, rfl, hp, q⟩ := q1
  obtain rfl : v = .ref p := r1
  obtain ⟨z, hd, ys, rel, dd⟩ := dt_of I1.hok hp
  have hl : kvs.length = ys.length := Paired.length rel
  have hi : (!ys.isEmpty) = !kvs.isEmpty := by
    cases ys <;> cases kvs <;> first | rfl | (simp at hl)
  refine PySem.wpAny_truthy_dictH hd dd (by rw [← hl]; rw [sizeLine_eq] at z; omega) ?_
  rw [hi]
  exact ⟨H1, I1.tok _, q⟩
end
/-- the keys of such a dict, a number of each -/
theorem lc_keysN {d : Addr} {od : Obj} {kvs : List (List L2.Key × V)} {ps : List Pr} {vs : List Nat} {σ : L2.St} {H1 : Hp} {D : Addr} {Qd : Hp → Prop} {g : TG} {tt : TT} {te : TE} (f : Pr → Int) (hK : KeysP kvs ps) (hD : H1 d = some (.frz od (.dT kvs))) (nD : H1 D = none) (few : ps.length < sizeLine)
    (hs : ∀ (t : Addr) (x : Pr) (H' : Hp) (Po : V → Hp → Prop) (Pn : Hp → Prop), x ∈ ps → H' t = some (.tup [.int x.1, .int x.2]) → Po (.int (f x)) H' →
      g (.ref t) (wipe σ vs) H' fun σ2 H2 => wipe σ2 vs = wipe σ vs ∧ tt σ2 H2 fun b H3 => if b = true then te σ2 H3 Po else Pn H3)
    (hd : ∀ H', Same H1 H' → H' D = some (.lst ((ps.map f).map V.int)) → Qd H') :
    ∃ W : Nat → Nat → Hp → Prop, (∃ m, W 0 m (upd H1 D (.lst []))) ∧ ∀ i m H, W i m H →
      ((Itkt d od kvs).stop i H ∧ Qd H) ∨ ((Itkt d od kvs).go i H ∧ ∃ Nx : Hp → Prop, (∀ H', Nx H' → ∃ m', m' < m ∧ W (i + 1) m' H') ∧ ∀ x H', (Itkt d od kvs).yld i H x H' → g x (wipe σ vs) H' fun σ2 H2 => wipe σ2 vs = wipe σ vs ∧ tt σ2 H2 fun b H3 =>
        if b = true then te σ2 H3 fun y H4 => ∃ acc, H4 D = some (.lst acc) ∧ acc.length < sizeLine ∧ Nx (upd H4 D (.lst (acc ++ [y]))) else Nx H3) := by
  have len := hK.len
  refine lc_it walk_keysT (fun i H' => Same H1 H' ∧ H' D = some (.lst (((ps.take i).map f).map V.int)))
    ⟨newS nD, upd_same⟩ (fun i H' _ p => p.1 _ _ hD) ?_ ?_
  · rintro i x H' H2 hi ⟨sm, h1⟩ ⟨rfl, k, v, q, e, rfl, hq⟩
    obtain ⟨y, hy, ek⟩ := hK.at e
    rw [ek] at hq
    refine hs q y _ _ _ (List.mem_of_getElem? hy) hq ⟨_, h1, ?_, mutS sm nD, ?_⟩
    · rw [List.length_map, List.length_map, List.length_take]
      omega
    · rw [upd_same, take_next hy, List.map_append, List.map_append]
      rfl
  · rintro H' ⟨sm, h1⟩
    rw [List.take_of_length_le (by omega)] at h1
    exact hd H' sm h1
end Vx
namespace Vx
open PySem PySem.Spec PyProof.Rows L2
/-! ### dict comprehensions with two loops -/
def emD0 (kx vx : Expr) (acc : Value) (env : Env) : Sem Unit := do
  let kv ← eval kx env
  let vv ← holding [kv] (eval vx env)
  match acc with
  | .ref d => do
    standAt { kx.pos with endLine := vx.pos.endLine, endCol := vx.pos.endCol }
    holding [kv, vv] (dictSet d kv vv)
  | _ => unsupported "internal:dictcomp"
def emD (kx vx : Expr) (acc : Value) (env : Env) (k : Unit → Sem PySem.Fin) : Sem PySem.Fin := emD0 kx vx acc env >>= k
def tEmD (tk tv : TE) (D : Addr) : EMT := fun σ H Nx => tk σ H fun y H4 => tv σ H4 fun z H5 => ∃ (kvs : List (List L2.Key × V)) (k : List L2.Key) (b : Addr), y = .ref b ∧ H5 b = some (.tup (k.map kV)) ∧ H5 D = some (.dT kvs) ∧ kvs.length < sizeLine ∧ Nx (upd H5 D (.dT (putK kvs k z)))
theorem runs_put {Y : Cx} (hu : Y.A.units < cLine) (xe0 : Y.xe = fun _ _ => False) {kx vx : Expr} {tk tv : TE} {D : Addr} (vs : List Nat) (pk : PE Y kx tk) (pv : PE Y vx tv) : Runs Y vs (tEmD tk tv D) (emD kx vx (.ref D) Y.env) := by
  intro pins s σ H Nx c Post E I h k
  unfold emD emD0
  have r := pk.run pins s σ H _ I h
  rw [xe0] at r
  refine wpAny_bind (wpAny_bind (wpAny_mono r (fun v s1 h1 => ?_) fun _ _ z => z.elim))
  obtain ⟨y, H1, I1, ry, h1⟩ := h1
  have r2 := pv.run pins s1 σ H1 _ I1 h1
  rw [xe0] at r2
  refine wpAny_bind (wpAny_holding (wpAny_mono r2 (fun v2 s2 h2 => ?_) fun _ _ z => z.elim))
  obtain ⟨z, H2, I2, rz, kvs, kk, b, rfl, hb, hD, few, nx⟩ := h2
  cases ry
  refine wpAny_bind (wpAny_standAt (wpAny_holding ?_))
  exact set_compT hu I2 hD few hb rz fun s3 I3 => wpAny_pure (k s3 _ (I3.weak (wipe_length ..) fun _ _ z => (wipe_some z).1) nx)
def tDcG (wi : TI) (g : TG) (tt : TT) (EM : Addr → EMT) (vs : List Nat) : TE := fun σ H Q => wi σ H fun J H1 => ∀ D : Addr, H1 D = none → ∃ W, (∃ m, W 0 m (upd H1 D (.dT []))) ∧ tTurns J g tt vs (EM D) σ (fun H => Q (.ref D) H) W
theorem pe_dcG {X : Cx} {kx vx tg iter : Expr} {ifs : List Expr} {rest : List Comprehension} {scope : Scope} {own : List (Str × Nat)} {pos p : Pos} {wi : TI} {g : TG} {tt : TT} {EM : Addr → EMT} {em : Value → Env → (Unit → Sem PySem.Fin) → Sem PySem.Fin}
    (hc : X.calm = true) (hN : X.N.Nodup) (hi : PI X tg iter wi) (ok : BlkOk X.N X.env.scope scope own)
    (hg : ∀ (s : Shared) (H : Hp) (C : Addr) (cl : List (Str × Addr)) (fp : List Addr), PG (X.blk s H scope (compEnvC scope cl C X.env) fp) tg g)
    (ht : ∀ (s : Shared) (H : Hp) (C : Addr) (cl : List (Str × Addr)) (fp : List Addr), PTs (X.blk s H scope (compEnvC scope cl C X.env) fp) ifs tt)
    (hem : ∀ (s : Shared) (H : Hp) (C : Addr) (cl : List (Str × Addr)) (fp : List Addr) (D : Addr), Runs (X.blk s H scope (compEnvC scope cl C X.env) fp) (own.map (·.2)) (EM D) (em (.ref D) (compEnvC scope cl C X.env)))
    (turn : ∀ it acc env, compTurn (.DictComp kx vx (⟨tg, iter, ifs, 0⟩ :: rest) scope pos) 0 it acc env = turnF p tg ifs (em acc env) (Code.compLoop (.DictComp kx vx (⟨tg, iter, ifs, 0⟩ :: rest) scope pos) 0 it acc env) it env)
    (hs : ∀ x, foldedSetIterable iter X.env x = pure x) : PE X (.DictComp kx vx (⟨tg, iter, ifs, 0⟩ :: rest) scope pos) (tDcG wi g tt EM (own.map (·.2))) := by
  refine ⟨fun pins s σ H Q I h => ?_⟩
  rw [arm_eval_DictComp]
  have hfree : ∀ y ∈ scope.names, y.2 = NameKind.free → ∃ c, List.lookup y.1 X.env.cells = some c := fun y hy e => (ok.free y hy e).elim (fun k => I.ok.has y.1 (.inl k)) fun k => I.ok.has y.1 (.inr k)
  refine wpAny_comprehension_free (use := none) rfl hs (closure_ok hfree) ok.kind (fun y hy e => by rw [ok.uniq y hy, e]) ?_
  refine wpAny_mono (hi.run pins s σ H _ I h) (fun xv s1 hx => ?_) fun _ _ z => z
  refine wpAny_mono hx (fun itv s2 h2 => ?_) fun _ _ z => z
  obtain ⟨it, fp, tn, J, H2, rfl, I2, T, t2, f2, q⟩ := h2
  refine wpAny_newObj_type (newEnv_comp ?_)
  have hDn : H2 s2.heap.objs.size = none := I2.hok.fresh (Nat.le_refl _)
  obtain ⟨W, ⟨m0, w0⟩, turns⟩ := q _ hDn
  have I3 : L2.Inv X pins σ (upd H2 s2.heap.objs.size (.dT [])) { s2 with heap := s2.heap.push { cls := .type "dict", data := .dict #[] } } :=
    I2.laid (t' := s2.toks) (fun b o e => Heap.get?_push_of_some _ e) (Nat.le_refl _) (dt_empty s2.heap I2.big)
  generalize es3 : ({ s2 with heap := s2.heap.push { cls := .type "dict", data := .dict #[] } } : Shared) = s3 at I3 ⊢
  have h3 : s3.heap = s2.heap.push { cls := .type "dict", data := .dict #[] } := by rw [← es3]
  have f3 : ∀ b ∈ fp, FpOk X pins (upd H2 s2.heap.objs.size (.dT [])) b ∧ b < s3.heap.objs.size := fun b hb => by
    obtain ⟨o, ho, _⟩ := T.obj 0 _ t2 b hb
    have lt := Heap.lt_size ho
    refine ⟨⟨?_, (f2 b hb).2⟩, ?_⟩
    · rw [upd_ne (Nat.ne_of_lt lt)]
      exact (f2 b hb).1
    · rw [h3, Heap.size_push]
      exact Nat.lt_succ_of_lt lt
  have st3 : tn 0 s3.heap := T.keep 0 _ _ t2 fun b _ o e => by
    rw [h3]
    exact Heap.get?_push_of_some _ e
  have I4 := block_start I3 ok hN f3
  have st4 := T.keep 0 _ (pushCells (s3.heap.push { cls := .type "dict", data := .dict #[] }) scope.names) st3 fun b _ o e => pushCells_keeps scope.names _ b o (Heap.get?_push_of_some _ e)
  clear es3
  generalize s2.heap.objs.size = D at *
  show codeAny (model X.prog X.w) X.A (Code.compStart _ 0 (.ref it) (.ref D) (compEnvC scope (cellsFrom (s3.heap.objs.size + 1) scope.names (cloFrom X.env.cells scope.names [])) s3.heap.objs.size X.env)) _ _
  have loop := lvl (Y := X.blk s3 (upd H2 D (.dT [])) scope (compEnvC scope (cellsFrom (s3.heap.objs.size + 1) scope.names (cloFrom X.env.cells scope.names [])) s3.heap.objs.size X.env) fp) (R := compPost (model X.prog X.w) X.A X.xe none (EP X pins σ Q) (.ref D) s3.heap.objs.size) (e := .DictComp kx vx (⟨tg, iter, ifs, 0⟩ :: rest) scope pos) (d := 0) (acc := .ref D) hc rfl T (hg _ _ _ _ _) (ht _ _ _ _ _) rfl rfl rfl (turn _ _ _) (EM := EM D) (vs := List.map (fun x : Str × Nat => x.2) own) (σ0 := σ) (W := W) (Qe := fun H => Q (.ref D) H)
    (fun pins s σ H Nx Post E I h k => hem _ _ _ _ _ D pins s σ H Nx _ Post E I h k) turns (fun s6 H5 I6 q6 => ?_) I4 st4 (fun b hb => ⟨(f3 b hb).1.1, (I4.ok.exf b hb).1, I4.ok.exfs b hb, .inl hb, (I4.ok.exf b hb).2, fun p hp => by cases hp⟩) w0
  · exact codeAny_compStart_dict loop (T.self X.A 0 _ _ _ st4 loop)
  · have I7 := Inv.call' I3 I6.os I6.base I6.hok I6.bare fun b hb => ⟨(f3 b hb).1.2.2.2.1, (f3 b hb).1.2.1, (f3 b hb).1.2.2.2.2.1, (f3 b hb).1.2.2.2.2.2⟩
    obtain ⟨m, hn, _⟩ := I6.loc
    obtain ⟨a0, a1, a2, a3, a4, a5⟩ := Inv.fpOk I3 (Nat.le_refl _) I6.free
    exact ⟨m, hn, fun h' sb => ⟨.ref D, H5, Inv.turned I7 (fun b o hb e => (sb.2 b hb).trans e) a0 a1 a3 a4 a5, rfl, q6⟩⟩
/-- {k: v for a in xs for b in ys} -/
theorem pe_dcD {X : Cx} {kx vx tg iter tg1 iter1 : Expr} {ifs ifs1 : List Expr} {scope : Scope} {own : List (Str × Nat)} {vs1 : List Nat} {pos : Pos} {wi wi1 : TI} {g g1 : TG} {tt tt1 : TT} {tk tv : TE}
    (hc : X.calm = true) (hu : X.A.units < cLine) (hN : X.N.Nodup) (hi : PI X tg iter wi) (ok : BlkOk X.N X.env.scope scope own) (hv1 : ∀ i ∈ vs1, i ∈ List.map (fun x : Str × Nat => x.2) own)
    (hg : ∀ (s : Shared) (H : Hp) (C : Addr) (cl : List (Str × Addr)) (fp : List Addr), PG (X.blk s H scope (compEnvC scope cl C X.env) fp) tg g)
    (ht : ∀ (s : Shared) (H : Hp) (C : Addr) (cl : List (Str × Addr)) (fp : List Addr), PTs (X.blk s H scope (compEnvC scope cl C X.env) fp) ifs tt)
    (hi1 : ∀ (s : Shared) (H : Hp) (C : Addr) (cl : List (Str × Addr)) (fp : List Addr), PI (X.blk s H scope (compEnvC scope cl C X.env) fp) tg1 iter1 wi1)
    (hg1 : ∀ (s : Shared) (H : Hp) (C : Addr) (cl : List (Str × Addr)) (fp : List Addr), PG (X.blk s H scope (compEnvC scope cl C X.env) fp) tg1 g1)
    (ht1 : ∀ (s : Shared) (H : Hp) (C : Addr) (cl : List (Str × Addr)) (fp : List Addr), PTs (X.blk s H scope (compEnvC scope cl C X.env) fp) ifs1 tt1)
    (hk : ∀ (s : Shared) (H : Hp) (C : Addr) (cl : List (Str × Addr)) (fp : List Addr), PE (X.blk s H scope (compEnvC scope cl C X.env) fp) kx tk)
    (hv : ∀ (s : Shared) (H : Hp) (C : Addr) (cl : List (Str × Addr)) (fp : List Addr), PE (X.blk s H scope (compEnvC scope cl C X.env) fp) vx tv)
    (hs : ∀ x, foldedSetIterable iter X.env x = pure x := by intro _; rfl) (hs1 : ∀ env x, foldedSetIterable iter1 env x = pure x := by intro _ _; rfl) :
    PE X (.DictComp kx vx [⟨tg, iter, ifs, 0⟩, ⟨tg1, iter1, ifs1, 0⟩] scope pos) (tDcG wi g tt (fun D => tIn wi1 g1 tt1 vs1 (tEmD tk tv D)) (own.map (·.2))) := by
  refine pe_dcG (em := fun acc env => emI (.DictComp kx vx [⟨tg, iter, ifs, 0⟩, ⟨tg1, iter1, ifs1, 0⟩] scope pos) 1 iter1 acc env) hc hN hi ok hg ht (fun s H C cl fp D => ?_) (fun _ _ _ => rfl) hs
  refine runs_in (Y := X.blk s H scope (compEnvC scope cl C X.env) fp) (gc := ⟨tg1, iter1, ifs1, 0⟩) hc rfl hv1 (hi1 s H C cl fp) (hg1 s H C cl fp) (ht1 s H C cl fp) (em := fun k => emD kx vx (.ref D) (compEnvC scope cl C X.env) k) ?_ (hs1 _) (fun _ => rfl) (fun _ => rfl) (fun _ => rfl) (fun _ => rfl) (fun _ => rfl) rfl rfl (fun _ => rfl)
  exact runs_put (Y := X.blk s H scope (compEnvC scope cl C X.env) fp) hu rfl vs1 (hk s H C cl fp) (hv s H C cl fp)
/-! ### sorted of any alike data -/
theorem each_zip {R : Value → V × PyData → Prop} : ∀ {xs : List V} {us : List Value} {ds : List PyData}, Vals xs us → xs.length = ds.length → (∀ x u d, (x, d) ∈ xs.zip ds → RelV x u → R u (x, d)) → W.EachIs R us (xs.zip ds)
  | [], _, [], .nil, _, _ => .nil
  | x :: xs, _, d :: ds, .cons r rs, h, g => .cons (g x _ d List.mem_cons_self r) (each_zip rs (by simpa using h) fun y u e m => g y u e (List.mem_cons_of_mem _ m))
theorem vals_each : ∀ {us : List Value} {bs : List (V × PyData)}, W.EachIs (fun u (b : V × PyData) => RelV b.1 u) us bs → Vals (bs.map (·.1)) us
  | [], [], .nil => .nil
  | _ :: _, _ :: _, .cons r rs => .cons r (vals_each rs)
def srtD (xs : List V) (ds : List PyData) : List (V × PyData) := (xs.zip ds).mergeSort (W.dataLe false fun b => b.2)
theorem dpAll_len {K : PySem.W.Frag} {H : Hp} : ∀ {xs : List V} {ds : List PyData}, DpAll K H xs ds → xs.length = ds.length
  | [], [], _ => rfl
  | x :: xs, [], h => by cases h
  | [], d :: ds, h => by cases h
  | x :: xs, d :: ds, h => by
    cases h with
    | cons a b => rw [List.length_cons, List.length_cons, dpAll_len b]
theorem dpAll_zip {K : PySem.W.Frag} {H : Hp} : ∀ {xs : List V} {ds : List PyData}, DpAll K H xs ds → ∀ x d, (x, d) ∈ xs.zip ds → Dp K H x d
  | [], _, _, x, d, m => by cases m
  | x :: xs, [], h, y, e, m => by cases m
  | x :: xs, d :: ds, h, y, e, m => by
    cases h with
    | cons a b =>
      rcases List.mem_cons.mp m with m | m
      · injection m with m1 m2
        rw [m1, m2]
        exact a
      · exact dpAll_zip b y e m
theorem dpAll_of {K : PySem.W.Frag} {H : Hp} : ∀ {bs : List (V × PyData)}, (∀ b ∈ bs, Dp K H b.1 b.2) → DpAll K H (bs.map (·.1)) (bs.map (·.2))
  | [], _ => .nil
  | b :: bs, h => .cons (h b List.mem_cons_self) (dpAll_of fun c m => h c (List.mem_cons_of_mem _ m))
theorem srtD_dp {K : PySem.W.Frag} {H : Hp} {xs : List V} {ds : List PyData} (h : DpAll K H xs ds) : DpAll K H ((srtD xs ds).map (·.1)) ((srtD xs ds).map (·.2)) :=
  dpAll_of fun b m => dpAll_zip h b.1 b.2 ((List.mergeSort_perm _ _).mem_iff.mp m)
theorem srtD_data {xs : List V} {ds : List PyData} (h : xs.length = ds.length) : (srtD xs ds).map (·.2) = ds.mergeSort (W.dataLe false id) := by
  unfold srtD
  have e := List.map_mergeSort (r := W.dataLe false fun b : V × PyData => b.2) (s := W.dataLe false id) (f := fun b : V × PyData => b.2) (l := xs.zip ds) (fun a _ b _ => rfl)
  have z : (xs.zip ds).map (fun b : V × PyData => b.2) = ds := by
    show (xs.zip ds).map Prod.snd = ds
    rw [List.map_snd_zip]
    omega
  rw [z] at e
  exact e
section
variable {X : Cx}
theorem cr_sortedD (hu : X.A.units + 64 < cLine) : CallR X (.builtin "sorted") (fun us H Q => ∃ (a : Addr) (xs : List V) (ds : List PyData), us = [.ref a] ∧ SqL X.K H a xs ∧ DpAll X.K H xs ds ∧ W.AllAlike ds ∧ W.Sortable ds ∧ (∀ d ∈ ds, d.depth ≤ 60) ∧
    ∀ p, H p = none → Q (.ref p) (upd H p (.lst ((srtD xs ds).map (·.1))))) := by
  intro pins s σ H vs us Q I r h
  obtain ⟨a, xs, ds, rfl, hs, dp, al, so, dep, q⟩ := h
  obtain ⟨its, rv, hl, hz⟩ := I.list hs
  rw [Vals.ref1 r]
  have len := dpAll_len dp
  have lz : (xs.zip ds).map (·.2) = ds := by
    rw [List.map_snd_zip]
    omega
  have lb : (xs.zip ds).length = xs.length := by rw [List.length_zip, len, Nat.min_self]
  refine W.sorted_data (R := fun u (b : V × PyData) => RelV b.1 u) (enc := fun b : V × PyData => b.2) (bs := xs.zip ds) hl.isList (each_zip rv len fun _ _ _ _ r => r) (each_zip rv len fun x u d m r => Dp.reads I d x u (dpAll_zip dp x d m) r) (by rw [lz]; exact al) (by rw [lz]; exact so) (by rw [lb]; exact hz) (fun b m => ?_) fun out ho eo => ?_
  · have := dep b.2 (by rw [← lz]; exact List.mem_map.mpr ⟨b, m, rfl⟩)
    omega
  · obtain ⟨ep, he'⟩ := PyProof.Rows.sortedAll_at s.heap its (List.toArray out)
    have vo := vals_each eo
    exact ⟨.ref _, upd H (s.heap.objs.size + 1) (.lst ((srtD xs ds).map (·.1))), I.laid (t' := s.toks) (fun _ _ => PyProof.Rows.sortedAll_old) (Nat.le_succ _) ⟨by
      have hl2 : (srtD xs ds).length = xs.length := by unfold srtD; rw [List.length_mergeSort, lb]
      rw [List.length_map, hl2]
      exact hz, out, ep, vo, he'⟩, rfl, q _ (I.hok.fresh (Nat.le_succ _))⟩
/-! ### math.comb -/
theorem cr_comb : CallR X (.builtin "math.comb") (fun vs H Q => ∃ a b : Nat, vs = [.int (a : Int), .int (b : Int)] ∧ a ≤ 1000 ∧ b ≤ a ∧ ∀ c : Nat, 0 < c → Q (.int (c : Int)) H) := by
  intro pins s σ H vs us Q I r h
  obtain ⟨a, b, rfl, ha, hb, q⟩ := h
  obtain ⟨t, u, rfl⟩ := Vals.int2 r
  refine PySem.W.mc_comb (by omega) (by omega) (by omega) (.inl (by omega)) fun m => ?_
  obtain ⟨m1, m2, _⟩ := m
  have m2 := m2 (by omega)
  obtain ⟨c, ec⟩ := Int.eq_ofNat_of_zero_le m1
  have c0 : 0 < c := by omega
  refine ⟨.int _, H, I.tok _, ⟨_, rfl⟩, ?_⟩
  rw [ec]
  exact q c c0
end
end Vx
namespace Vx
open PySem PySem.Spec PyProof.Rows L2
/-! ### enumerate(s), s a text -/
def IteS (x : Str) : It :=
  ⟨fun i _ => i < x.cps.size, fun i H v H' => ∃ T c, v = .ref T ∧ H T = none ∧ x.cps[i]? = some c ∧ H' = upd H T (.tup [.int (i : Nat), .str ⟨#[c]⟩]), fun i _ => x.cps.size = i⟩
theorem turn_enumS {P : Program} {w : World} {K : PySem.W.Frag} {elts : List Expr} {kk : Nat} {tpos : Pos} (x : Str) (t : Tok) (e it : Addr) :
    Turn P w K (.Tuple elts kk tpos) (IteS x) [e, it] e (fun i h => (∃ old, IsEnum h e it ((i : Nat) : Int) old) ∧ h.IsStrIter it (strIterType x) x t i ∧ e ≠ it) where
  mem := by simp
  obj := fun i h st b hb => by
    obtain ⟨⟨old, he⟩, ⟨o, ho, hc, hd⟩, _⟩ := st
    have e' : b = e ∨ b = it := by simpa using hb
    rcases e' with z | z
    · rw [z]; exact ⟨_, he, fun v q => nomatch q⟩
    · rw [z]; exact ⟨o, ho, fun v q => by rw [hd] at q; cases q⟩
  keep := fun i h h' st k => let ⟨⟨old, he⟩, ⟨o, ho, r⟩, hne⟩ := st; ⟨⟨old, k e (by simp) _ he⟩, ⟨o, k it (by simp) o ho, r⟩, hne⟩
  item := by
    intro X hP hw hK hc i pins s σ H E I hf st hg
    subst hP hw hK
    obtain ⟨⟨old, he⟩, hit, hne⟩ := st
    have hel : e < s.heap.objs.size := Heap.lt_size he
    have hil : it < s.heap.objs.size := by obtain ⟨_, q, _⟩ := hit; exact Heap.lt_size q
    have D := Draws.text (prog := X.prog) (w := X.w) (A := X.A.in1) (I.ok.hd hc) it x t
    refine wpAny_pyNext_enum_itemC D he hit hg hne (by simp; exact hne) fun x' h' tk hx' ho hit' hT hsz hk => ?_
    obtain ⟨c, u, hcx, rfl⟩ := hx'
    have ru : RelV (.str ⟨#[c]⟩) (Value.str ⟨#[c]⟩ u) := ⟨u, rfl⟩
    refine ⟨_, rfl, wpAny_letOwnedTupleGo_enum (s := { s with heap := h', toks := tk + 1 }) ho fun h'' he' sb => ?_⟩
    have hT2 := (sb.2 _ (Nat.ne_of_gt hel)).trans hT
    have new : ObjOk X.prog X.w (upd H s.heap.objs.size (.tup [.int (i : Nat), .str ⟨#[c]⟩])) h'' s.heap.objs.size (.tup [.int (i : Nat), .str ⟨#[c]⟩]) :=
      ⟨by show 2 ≤ sizeLine; decide, [.int i tk, .str ⟨#[c]⟩ u], .cons ⟨_, rfl⟩ (.cons ru .nil), ⟨_, hT2, rfl, _, rfl⟩⟩
    have I1 : Inv X pins σ (upd H s.heap.objs.size (.tup [.int (i : Nat), .str ⟨#[c]⟩])) { s with heap := h'', toks := tk + 1 } :=
      I.turnedNew (ch := [e, it]) (fun b ob hb q => (sb.2 b (fun z => hb (by simp [z]))).trans (hk b ob (fun z => hb (by simp [z])) (fun z => hb (by simp [z])) q)) hf (Nat.le_refl _) new
    refine ⟨.ref s.heap.objs.size, _, I1, rfl, ⟨_, c, rfl, I.hok.fresh (Nat.le_refl _), hcx, rfl⟩, ⟨⟨.str ⟨#[c]⟩ u, ?_⟩, ?_, hne⟩, fun b hb => ?_⟩
    · have e1 : ((i + 1 : Nat) : Int) = (i : Int) + 1 := by omega
      rw [e1]; exact he'
    · obtain ⟨o, ho2, r⟩ := hit'
      exact ⟨o, (sb.2 it (Ne.symm hne)).trans ho2, r⟩
    · have hb' : b < s.heap.objs.size := by
        have e' : b = e ∨ b = it := by simpa using hb
        rcases e' with z | z
        · rw [z]; exact hel
        · rw [z]; exact hil
      rw [upd_ne (Nat.ne_of_lt hb')]
      exact (hf b hb).1
  done := by
    intro X hP hw hK hc i pins s σ H E I hf st hg
    subst hP hw hK
    obtain ⟨⟨old, he⟩, hit, hne⟩ := st
    obtain ⟨f0, f1, f2, f3, f4, f5⟩ := hf it (by simp)
    have D := Draws.text (prog := X.prog) (w := X.w) (A := X.A.in1) (I.ok.hd hc) it x t
    subst hg
    refine wpAny_pyNext_enum_endD D he hit fun h' eb => ⟨rfl, I.turned (t' := s.toks) (fun b o hb q => eb b o hb q) f0 f1 f3 f4 f5⟩
  self := fun A i s Q E st h => let ⟨⟨_, he⟩, _⟩ := st; wpAny_pyIter_enum he h
def iEnumS (ta : TA) : TI := fun σ H R => ta σ H fun vs H1 => ∃ x, vs = [.str x] ∧ R (IteS x) H1
theorem pi_enumS {X : Cx} {e : Expr} {ta : TA} {p pos tpos : Pos} {elts : List Expr} {kk : Nat} (hg : Gl X "enumerate") (hm : X.mg "enumerate" = none) (ha : PA X [e] ta) (hs : starEach [e] X.env = [(false, eval e X.env)] := by rfl) :
    PI X (.Tuple elts kk tpos) (.Call (.Name "enumerate" p) [e] [] pos) (iEnumS ta) := by
  refine ⟨fun pins s σ H R I h => ?_⟩
  refine Call_ (ld_blt I hg hm boot_enumerate (PyProof.Rows.callWith_type1 (thn (ha.run pos pins s σ H _ I h) fun us s1 ⟨vs, H1, I1, r1, q1⟩ => ?_) hs rfl))
  obtain ⟨x, ex, q⟩ := q1
  subst ex
  cases r1 with
  | cons r rr =>
    cases rr
    obtain ⟨t, rfl⟩ := r
    refine call_enumerate1 (begins_text x t) trivial fun h' he hit hsz hk => wpAny_pyIter_enum he ?_
    have I2 : Inv X pins σ H1 { s1 with heap := h' } := I1.kept (t' := s1.toks) hk
    refine ⟨s1.heap.objs.size + 1, [s1.heap.objs.size + 1, s1.heap.objs.size], _, _, H1, rfl, I2, turn_enumS x t (s1.heap.objs.size + 1) s1.heap.objs.size, ⟨⟨.none, he⟩, ⟨_, hit, rfl, rfl⟩, Nat.succ_ne_self _⟩, fun b hb => ?_, q⟩
    have e' : b = s1.heap.objs.size + 1 ∨ b = s1.heap.objs.size := by simpa using hb
    have hle : s1.heap.objs.size ≤ b := by
      rcases e' with z | z
      · rw [z]; exact Nat.le_add_right _ _
      · rw [z]; exact Nat.le_refl _
    exact I1.fpOk hle (I1.hok.fresh hle)
theorem turns_enumS {x : Str} {g : TG} {tt : TT} {vs : List Nat} {EM : EMT} {σ : L2.St} {H0 : Hp} {Qe : Hp → Prop} (Z : Nat → Hp → Prop) (z0 : Z 0 H0)
    (step : ∀ (i : Nat) (c : Nat) (H : Hp) (T : Addr), x.cps[i]? = some c → Z i H → H T = none → g (.ref T) (wipe σ vs) (upd H T (.tup [.int (i : Nat), .str ⟨#[c]⟩])) fun σ2 H2 => wipe σ2 vs = wipe σ vs ∧ tt σ2 H2 fun b H3 => if b = true then EM σ2 H3 (Z (i + 1)) else Z (i + 1) H3)
    (done : ∀ H, Z x.cps.size H → Qe H) : ∃ W, (∃ m, W 0 m H0) ∧ tTurns (IteS x) g tt vs EM σ Qe W := by
  refine ⟨fun i m H => i ≤ x.cps.size ∧ m = x.cps.size - i ∧ Z i H, ⟨_, Nat.zero_le _, rfl, z0⟩, ?_⟩
  rintro i m H ⟨le, rfl, z⟩
  by_cases e : i = x.cps.size
  · exact .inl ⟨e.symm, done H (e ▸ z)⟩
  · have lt : i < x.cps.size := by omega
    refine .inr ⟨lt, Z (i + 1), fun H' z' => ⟨x.cps.size - (i + 1), by omega, by omega, rfl, z'⟩, ?_⟩
    rintro v H' ⟨T, c, rfl, hT, hc, rfl⟩
    exact step i c H T hc z hT
theorem turns_enum {K : PySem.W.Frag} {a : Addr} {xs : List V} {g : TG} {tt : TT} {vs : List Nat} {EM : EMT} {σ : L2.St} {H0 : Hp} {Qe : Hp → Prop} (Z : Nat → Hp → Prop) (z0 : Z 0 H0) (keep : ∀ (i : Nat) (H : Hp), i ≤ xs.length → Z i H → SqL K H a xs)
    (step : ∀ (i : Nat) (x : V) (H : Hp) (T : Addr), xs[i]? = some x → Z i H → H T = none → g (.ref T) (wipe σ vs) (upd H T (.tup [.int (i : Nat), x])) fun σ2 H2 => wipe σ2 vs = wipe σ vs ∧ tt σ2 H2 fun b H3 => if b = true then EM σ2 H3 (Z (i + 1)) else Z (i + 1) H3)
    (done : ∀ H, Z xs.length H → Qe H) : ∃ W, (∃ m, W 0 m H0) ∧ tTurns (Ite K a) g tt vs EM σ Qe W := by
  refine ⟨fun i m H => i ≤ xs.length ∧ m = xs.length - i ∧ Z i H, ⟨_, Nat.zero_le _, rfl, z0⟩, ?_⟩
  rintro i m H ⟨le, rfl, z⟩
  by_cases e : i = xs.length
  · subst e
    exact .inl ⟨walk_enum.stops H (keep _ H le z), done H z⟩
  · have lt : i < xs.length := by omega
    refine .inr ⟨walk_enum.goes i H lt (keep i H le z), Z (i + 1), fun H' z' => ⟨xs.length - (i + 1), by omega, by omega, rfl, z'⟩, ?_⟩
    intro v H' y
    obtain ⟨T, u, x, rfl, hT, rfl, hu, hx⟩ := walk_enum.yields i H v H' lt (keep i H le z) y
    obtain rfl := Option.some.inj hu
    exact step i x H T hx z hT
/-- a dict that an expression gives, kept as it is from then on -/
theorem pe_frz {X : Cx} {e : Expr} {t : TE} (h : PE X e t) : PE X e (fun σ H Q => t σ H fun x H1 => ∃ (d : Addr) (kvs : List (List L2.Key × V)), x = .ref d ∧ H1 d = some (.dT kvs) ∧ ∀ od, Q x (upd H1 d (.frz od (.dT kvs)))) := by
  refine ⟨fun pins s σ H Q I hw => ?_⟩
  refine thn (h.run pins s σ H _ I hw) fun v s1 ⟨x, H1, I1, r, d, kvs, ex, hd, q⟩ => ?_
  obtain ⟨od, I2⟩ := I1.lock hd trivial
  exact ⟨x, _, I2, r, q od⟩
/-! ### lists of True, False and None -/
def nv : Option Bool → V
  | none => .non
  | some b => .bl b
def nd : Option Bool → PyData
  | none => .none
  | some b => .bool b
theorem dpAll_nv {K : PySem.W.Frag} {H : Hp} : ∀ os : List (Option Bool), DpAll K H (os.map nv) (os.map nd)
  | [] => .nil
  | none :: os => .cons .non (dpAll_nv os)
  | some b :: os => .cons (.bl b) (dpAll_nv os)
theorem eqv_nd (a b : Option Bool) : PyData.eqv (nd a) (nd b) = decide (a = b) := by
  cases a <;> cases b <;> simp [nd, PyData.eqv]
  rename_i x y
  cases x <;> cases y <;> rfl
theorem count_nd (o : Option Bool) : ∀ os : List (Option Bool), (os.map nd).countP (fun y => PyData.eqv y (nd o)) = os.count o
  | [] => rfl
  | x :: os => by
    rw [List.map_cons, List.countP_cons, List.count_cons, count_nd o os, eqv_nd]
    by_cases e : x = o
    · simp [e]
    · simp [e]
theorem plainAll_nd : ∀ os : List (Option Bool), PyData.plainAll (os.map nd) = true
  | [] => by simp [PyData.plainAll]
  | x :: os => by
    rw [List.map_cons]
    cases x <;> simp [PyData.plainAll, PyData.plain, nd, plainAll_nd os]
theorem depAll_nd : ∀ os : List (Option Bool), PyData.depthAll (os.map nd) = 0
  | [] => by simp [PyData.depthAll]
  | x :: os => by
    rw [List.map_cons]
    cases x <;> simp [PyData.depthAll, PyData.depth, nd, depAll_nd os]
theorem mt_countO {X : Cx} (hu : X.A.units + 65 < cLine) : MtR X "list.count" (fun x xs H Q => ∃ (a : Addr) (o : Option Bool) (os : List (Option Bool)), x = .ref a ∧ xs = [nv o] ∧ SqL X.K H a (os.map nv) ∧ Q (.int (os.count o : Nat)) H) := by
  intro pins s σ H x xs v us Q I rx rxs h
  obtain ⟨a, o, os, rfl, rfl, hl, q⟩ := h
  cases rx
  obtain ⟨u, rfl, ru⟩ := rxs.one
  have dpo : Dp X.K H (nv o) (nd o) := by
    cases o with
    | none => exact .non
    | some b => exact .bl b
  obtain ⟨as, r1⟩ := Dp.reads I (nd o) (nv o) u dpo ru
  obtain ⟨its, rv, pl, hz⟩ := I.list hl
  obtain ⟨bs, hr⟩ := Dp.readsAll I _ _ its (dpAll_nv os) rv
  refine SeqAt.count_list_data pl.isList hr r1 (plainAll_nd os) (by cases o <;> simp [nd, PyData.plain]) (by rw [depAll_nd]; omega) ?_
  rw [count_nd]
  exact ⟨.int (os.count o : Nat), H, I.tok _, ⟨_, rfl⟩, q⟩
end Vx
/-! where a token must be out before: list comprehensions, names set, texts replaced -/
namespace Vx
open PySem PySem.Spec PyProof.Rows L2
/-- what comes behind, a token being out -/
theorem thT {α : Type} {t : Sem α} {Q Q' : α → Shared → Prop} {M : Model} {A : Around} {E : Value → Shared → Prop} {s : Shared} (h0 : 1 ≤ s.toks) (h : wpAny M A t Q E s) (hQ : ∀ a s', 1 ≤ s'.toks → Q a s' → Q' a s') : wpAny M A t Q' E s :=
  wpAny_mono (PySem.wpAny_toks_of h0 h) (fun a s' q => hQ a s' q.1 q.2) fun _ _ q => q.2
theorem thTF {α : Type} {t : Sem α} {Q Q' : α → Shared → Prop} {M : Model} {A : Around} {E : Value → Shared → Prop} {s : Shared} (h0 : 1 ≤ s.toks) (h : wpAny M A t Q (fun _ _ => False) s) (hQ : ∀ a s', 1 ≤ s'.toks → Q a s' → Q' a s') : wpAny M A t Q' E s :=
  wpAny_mono (PySem.wpAny_toks_of h0 h) (fun a s' q => hQ a s' q.1 q.2) fun _ _ q => q.2.elim
section
variable {X : Cx}
/-- a list comprehension of one loop whose element wants a token out; what becomes of the list is told behind -/
theorem lcT_core {pins : List (Addr × Obj)} {s : Shared} {σ : L2.St} {H : Hp} {Q : VK} {elt tg iter : Expr} {ifs : List Expr} {scope : Scope} {own : List (Str × Nat)} {pos pos' : Pos} {wi : TI} {g : TG} {tt : TT} {te : TE} {use : Option (Value → Sem Unit)} {Qf : Value → Shared → Prop}
    (h0 : 1 ≤ s.toks) (hc : X.calm = true) (hN : X.N.Nodup) (I : L2.Inv X pins σ H s) (hi : PI X tg iter wi) (ok : BlkOk X.N X.env.scope scope own)
    (hg : ∀ (s : Shared) (H : Hp) (C : Addr) (cl : List (Str × Addr)) (fp : List Addr), PG (X.blk s H scope (compEnvC scope cl C X.env) fp) tg g) (ht : ∀ (s : Shared) (H : Hp) (C : Addr) (cl : List (Str × Addr)) (fp : List Addr), PTs (X.blk s H scope (compEnvC scope cl C X.env) fp) ifs tt)
    (he : ∀ (s : Shared) (H : Hp) (C : Addr) (cl : List (Str × Addr)) (fp : List Addr), PET (X.blk s H scope (compEnvC scope cl C X.env) fp) elt te) (hs : ∀ x, foldedSetIterable iter X.env x = pure x)
    (h : tLc wi g tt te (own.map (·.2)) σ H Q)
    (hRR : ∀ D C s' m H', 1 ≤ s'.toks → L2.Inv X pins σ H' s' → Q (.ref D) H' → s'.heap.Ns C m → FpOk X pins H' C → compPost (model X.prog X.w) X.A X.xe use Qf (.ref D) C (.ok .next) s') :
    wpAny (model X.prog X.w) X.A (comprehension (.ListComp elt [⟨tg, iter, ifs, 0⟩] scope pos) scope X.env pos' (newList []) false (eval iter X.env) use) Qf X.xe s := by
  have cells : ∀ y ∈ scope.names, y.2 = .free → ∃ c, X.env.cells.lookup y.1 = some c := fun y hy e => (ok.free y hy e).elim (fun k => I.ok.has _ (.inl k)) fun k => I.ok.has _ (.inr k)
  refine wpAny_comprehension_free (use := use) rfl hs (closure_ok cells) ok.kind (fun y hy e => by rw [ok.uniq y hy, e]) (thT h0 (hi.run pins s σ H _ I h) fun xv s1 k1 hx => thT k1 hx fun itv s2 k2 h2 => ?_)
  obtain ⟨it, fp, tn, J, H2, rfl, I2, T, st2, f2, q⟩ := h2
  refine wpAny_newObj_type (newEnv_comp ?_) (Nat.zero_le _)
  obtain ⟨D, hD⟩ : ∃ D, D = s2.heap.objs.size := ⟨_, rfl⟩
  rw [← hD]
  have nD : H2 D = none := I2.hok.fresh (Nat.le_of_eq hD.symm)
  obtain ⟨W, ⟨m0, w0⟩, turn⟩ := q D nD
  obtain ⟨s3, e3⟩ : ∃ s3 : Shared, s3 = { s2 with heap := s2.heap.push { cls := .type "list", data := .seq ([] : List Value).toArray } } := ⟨_, rfl⟩
  have k3 : 1 ≤ s3.toks := by rw [e3]; exact k2
  have p3 : s3.heap = s2.heap.push { cls := .type "list", data := .seq ([] : List Value).toArray } := by rw [e3]
  have I3 : Inv X pins σ (upd H2 D (.lst [])) s3 := by
    rw [e3]
    refine I2.laid (t' := s2.toks) (fun b o e => Heap.get?_push_of_some _ e) (Nat.le_of_eq hD.symm) ⟨Nat.zero_le _, [], 0, .nil, ?_⟩
    rw [hD]
    exact Heap.get?_push_size _ rfl
  have f3 : ∀ b ∈ fp, FpOk X pins (upd H2 D (.lst [])) b ∧ b < s3.heap.objs.size := fun b hb => by
    obtain ⟨o, e, _⟩ := T.obj _ _ st2 b hb
    have lt := Heap.lt_size e
    refine ⟨⟨?_, (f2 b hb).2⟩, by rw [p3, Heap.size_push]; exact Nat.lt_succ_of_lt lt⟩
    rw [upd_ne (by rw [hD]; exact Nat.ne_of_lt lt)]
    exact (f2 b hb).1
  have st3 : tn 0 s3.heap := T.keep _ _ _ st2 fun b _ o e => by rw [p3]; exact Heap.get?_push_of_some _ e
  rw [← e3]
  obtain ⟨H3, e4⟩ : ∃ H3, H3 = upd H2 D (.lst []) := ⟨_, rfl⟩
  rw [← e4] at I3 f3 w0
  have I4 := block_start I3 ok hN f3
  obtain ⟨C, eC⟩ : ∃ C, C = s3.heap.objs.size := ⟨_, rfl⟩
  obtain ⟨ce, ece⟩ : ∃ ce, ce = compEnvC scope (cellsFrom (s3.heap.objs.size + 1) scope.names (cloFrom X.env.cells scope.names [])) s3.heap.objs.size X.env := ⟨_, rfl⟩
  have pg := hg s3 H3 s3.heap.objs.size (cellsFrom (s3.heap.objs.size + 1) scope.names (cloFrom X.env.cells scope.names [])) fp
  have pt := ht s3 H3 s3.heap.objs.size (cellsFrom (s3.heap.objs.size + 1) scope.names (cloFrom X.env.cells scope.names [])) fp
  have pe := he s3 H3 s3.heap.objs.size (cellsFrom (s3.heap.objs.size + 1) scope.names (cloFrom X.env.cells scope.names [])) fp
  show codeAny _ _ (.compStart (.ListComp elt [⟨tg, iter, ifs, 0⟩] scope pos) 0 (.ref it) (.ref D) (compEnvC scope (cellsFrom (s3.heap.objs.size + 1) scope.names (cloFrom X.env.cells scope.names [])) s3.heap.objs.size X.env)) (compPost (model X.prog X.w) X.A X.xe use Qf (.ref D) s3.heap.objs.size) { s3 with heap := pushCells (s3.heap.push { cls := .type "dict", data := .dict #[] }) scope.names }
  rw [← ece] at I4 pg pt pe ⊢
  have cC : ce.locals = C := by rw [ece, eC]; rfl
  rw [← eC]
  obtain ⟨s4, e5⟩ : ∃ s4 : Shared, s4 = { s3 with heap := pushCells (s3.heap.push { cls := .type "dict", data := .dict #[] }) scope.names } := ⟨_, rfl⟩
  have k4 : 1 ≤ s4.toks := by rw [e5]; exact k3
  have st4 : tn 0 s4.heap := T.keep _ _ _ st3 fun b _ o e => by rw [e5]; exact pushCells_keeps _ _ _ _ (Heap.get?_push_of_some _ e)
  rw [← e5] at I4 ⊢
  have still : ∀ {σ' : L2.St} {H' : Hp} {s' : Shared}, L2.Inv (X.blk s3 H3 scope ce fp) [] σ' H' s' → (∀ b ∈ fp, H' b = none) → ∀ b ∈ fp, FpOk (X.blk s3 H3 scope ce fp) [] H' b := fun I' hn b hb =>
    ⟨hn b hb, (I'.ok.exf b hb).1, I'.ok.exfs b hb, .inl hb, fun x c e => (I'.ok.exf b hb).2 x c e, fun p hp => absurd (show p ∈ ([] : List (Addr × Obj)) ++ [] from hp) (by simp)⟩
  have loop : codeAny (model X.prog X.w) X.A (.compLoop (.ListComp elt [⟨tg, iter, ifs, 0⟩] scope pos) 0 (.ref it) (.ref D) ce) (compPost (model X.prog X.w) X.A X.xe use Qf (.ref D) C) s4 := by
    refine compLoop_any (fun n s' => 1 ≤ s'.toks ∧ ∃ i H', L2.Inv (X.blk s3 H3 scope ce fp) [] (wipe σ (own.map (·.2))) H' s' ∧ tn i s'.heap ∧ (∀ b ∈ fp, H' b = none) ∧ W i n H') ?_ m0 ⟨k4, 0, H3, I4, st4, fun b hb => (f3 b hb).1.1, w0⟩
    rintro n s5 ⟨k5, i, H5, I5, st5, n5, w5⟩
    rcases turn i n H5 w5 with ⟨stop, qq⟩ | ⟨go, Nx, hNx, step⟩
    · refine thTF k5 (T.done (X.blk s3 H3 scope ce fp) rfl rfl rfl hc i [] s5 _ H5 (fun _ _ => False) I5 (still I5 n5) st5 stop) fun r s6 k6 ⟨hr, I6⟩ => ?_
      subst hr
      have I7 : L2.Inv X pins σ H5 s6 := I3.call' (ch := fp) I6.os I6.base I6.hok I6.bare fun b hb => ⟨(f3 b hb).1.2.2.2.1, (f3 b hb).1.2.1, (f3 b hb).1.2.2.2.2.1, (f3 b hb).1.2.2.2.2.2⟩
      have nC : H5 C = none := by
        have z : H5 ce.locals = none := I6.free
        rw [cC] at z
        exact z
      obtain ⟨m, hn, _⟩ := I6.loc
      have hn : s6.heap.Ns ce.locals m := hn
      rw [cC] at hn
      exact hRR D C s6 m H5 k6 I7 qq hn (I3.fpOk (Nat.le_of_eq eC.symm) nC)
    · refine thTF k5 (T.item (X.blk s3 H3 scope ce fp) rfl rfl rfl hc i [] s5 _ H5 (fun _ _ => False) I5 (still I5 n5) st5 go) fun r s6 k6 ⟨u, hr, h6⟩ => ?_
      subst hr
      refine thTF k6 h6 fun _ s7 k7 ⟨x, H7, I7, r7, y7, st7, n7⟩ => ?_
      have I7' := I7.pinned (still I7 n7) (T.obj _ _ st7)
      refine thTF k7 (pg.run _ s7 _ H7 x u _ I7' r7 (step x H7 y7)) fun _ s8 k8 ⟨σ8, H8, I8, hw8, q8⟩ => ?_
      refine thTF k8 (pt.run _ s8 σ8 H8 _ I8 q8) fun b s9 k9 ⟨H9, I9, q9⟩ => ?_
      have fin : ∀ {s' : Shared} {H' : Hp}, 1 ≤ s'.toks → L2.Inv (X.blk s3 H3 scope ce fp) ([] ++ pinsAt fp s7.heap) σ8 H' s' → Nx H' → ∃ m, m < n ∧ 1 ≤ s'.toks ∧ ∃ i H', L2.Inv (X.blk s3 H3 scope ce fp) [] (wipe σ (own.map (·.2))) H' s' ∧ tn i s'.heap ∧ (∀ b ∈ fp, H' b = none) ∧ W i m H' := fun {s' H'} k' I' nx => by
        obtain ⟨m', hm, w'⟩ := hNx H' nx
        have pinned : ∀ b ∈ fp, ∀ o, s7.heap.get? b = some o → s'.heap.get? b = some o ∧ H' b = none := fun b hb o e =>
          have z := I'.pin (b, o) (List.mem_append_right _ (List.mem_append_right _ (mem_pinsAt hb e)))
          ⟨z.1, z.2.1⟩
        refine ⟨m', hm, k', i + 1, H', (I'.unpinned (pins := [])).weak (by rw [← hw8, wipe_length]) (fun j v e => ?_), T.keep _ _ _ st7 fun b hb o e => (pinned b hb o e).1, fun b hb => ?_, w'⟩
        · rw [← hw8] at e
          exact (wipe_some e).1
        · obtain ⟨o, e, _⟩ := T.obj _ _ st7 b hb
          exact (pinned b hb o e).2
      cases b with
      | false => exact fin k9 I9 q9
      | true =>
        refine thTF k9 (pe _ s9 σ8 H9 _ k9 I9 q9) fun z s10 k10 ⟨yv, H10, I10, r10, acc, hD10, hz10, nx⟩ => ?_
        exact thT k10 (app_ok (X := X.blk s3 H3 scope ce fp) (Q := fun _ s' => L2.Inv (X.blk s3 H3 scope ce fp) ([] ++ pinsAt fp s7.heap) σ8 (upd H10 D (.lst (acc ++ [yv]))) s') I10 hD10 hz10 r10 fun s11 I11 => I11) fun _ s11 k11 I11 => fin k11 I11 nx
  exact codeAny_compStart_list loop (T.self X.A 0 _ _ _ st4 loop)
/-- name = [..] on one line, its element wanting a token -/
theorem pst_setLc {i : Nat} {y : Str} {py : Pos} {elt tg iter : Expr} {ifs : List Expr} {scope : Scope} {own : List (Str × Nat)} {pos spos : Pos} {wi : TI} {g : TG} {tt : TT} {te : TE} (hc : X.calm = true) (hN : X.N.Nodup) (hy : X.N[i]? = some y) (hyl : X.env.scope.names.lookup y = some .local)
    (hsw : swapsWith (.ListComp elt [⟨tg, iter, ifs, 0⟩] scope pos) (some (.Name y py)) spos.line X.env = pure true) (hi : PI X tg iter wi) (ok : BlkOk X.N X.env.scope scope own)
    (hg : ∀ (s : Shared) (H : Hp) (C : Addr) (cl : List (Str × Addr)) (fp : List Addr), PG (X.blk s H scope (compEnvC scope cl C X.env) fp) tg g) (ht : ∀ (s : Shared) (H : Hp) (C : Addr) (cl : List (Str × Addr)) (fp : List Addr), PTs (X.blk s H scope (compEnvC scope cl C X.env) fp) ifs tt)
    (he : ∀ (s : Shared) (H : Hp) (C : Addr) (cl : List (Str × Addr)) (fp : List Addr), PET (X.blk s H scope (compEnvC scope cl C X.env) fp) elt te) (hs : ∀ x, foldedSetIterable iter X.env x = pure x := by intro _; rfl) :
    PST X (.Assign [.Name y py] (.ListComp elt [⟨tg, iter, ifs, 0⟩] scope pos) spos) (tAsg (tLc wi g tt te (own.map (·.2))) (gName i)) := by
  intro pins s σ H D h0 I h
  rw [exec_Assign_Name_used _ _ _ _ hsw]
  refine wpAny_bind (wpAny_standAt (wpAny_bind ?_))
  have h : tLc wi g tt te (own.map (·.2)) σ H (fun x H1 => gName i x σ H1 D.nx) := h
  refine wpAny_bind (thn (lcT_core (use := some (assign (.Name y py) X.env)) (Qf := fun _ s' => SP X pins D .next s') h0 hc hN I hi ok hg ht he hs h fun L C s' m H' k' I' q hn f => ?_) fun _ s' hq => wpAny_pure (wpAny_pure hq))
  obtain ⟨f0, f1, f2, f3, f4, f5⟩ := f
  refine wpAny_assign_Name (store_ok2 (v := V.ref L) I' hN hy (.inl hyl) rfl (fun s2 I2 ⟨a, sb, ha⟩ => ?_) (.inr hyl))
  have off : C ≠ a := ha.elim (fun z => z ▸ f1) fun z e => f4 y a z e.symm
  exact ⟨m, hn.sameBut sb off, fun h3 sb3 => ⟨_, H', I2.turned (t' := s2.toks) (fun b o hb e => (sb3.2 b hb).trans e) f0 f1 f3 f4 f5, q⟩⟩
/-- behind such an expression, such a statement, a token is out -/
def PE1 (X : Cx) (e : Expr) (t : TE) : Prop :=
  ∀ (pins : List (Addr × Obj)) (s : Shared) (σ : L2.St) (H : Hp) (Q : VK), L2.Inv X pins σ H s → t σ H Q → wpAny (model X.prog X.w) X.A (eval e X.env) (fun v s' => 1 ≤ s'.toks ∧ EP X pins σ Q v s') X.xe s
def PS1 (X : Cx) (st : Stmt) (t : TS) : Prop :=
  ∀ (pins : List (Addr × Obj)) (s : Shared) (σ : L2.St) (H : Hp) (D : Ends), L2.Inv X pins σ H s → t D σ H → wpAny (model X.prog X.w) X.A (exec st X.env) (fun f s' => 1 ≤ s'.toks ∧ SP X pins D f s') X.xe s
theorem wp1 {α : Type} {t : Sem α} {Q : α → Shared → Prop} {M : Model} {A : Around} {E : Value → Shared → Prop} {s : Shared} (h0 : 1 ≤ s.toks) (h : wpAny M A t Q E s) : wpAny M A t (fun a s' => 1 ≤ s'.toks ∧ Q a s') E s := thT h0 h fun _ _ k q => ⟨k, q⟩
theorem pe1_op {op : Operator} {r : R2} {c : Int} {j : Nat} {cp pos : Pos} {b : Expr} {tb : TE} (ho : OpR X (binaryOp op) r) (hb : PE X b tb) : PE1 X (.BinOp (.Constant (.int c) j cp) op b pos) (tOp r (tC (.int c)) tb) := by
  intro pins s σ H Q I h
  refine wpAny_BinOp (wpAny_Constant_int ?_)
  refine thT (by show 1 ≤ s.toks + 1; omega) (hb.run pins { s with toks := s.toks + 1 } σ H _ (I.tok _) h) fun u s2 k2 ⟨y, H2, I2, r2, q2⟩ => ?_
  exact wp1 k2 (ho pins s2 σ H2 (.int c) y _ u Q I2 ⟨_, rfl⟩ r2 q2)
theorem ps1_set {i : Nat} {x : Str} {e : Expr} {te : TE} {pos pos' : Pos} (hN : X.N.Nodup) (hi : X.N[i]? = some x) (hx : Loc X.env.scope x) (he : PE1 X e te) (hs : swapsWith e (some (.Name x pos')) pos.line X.env = pure false := by rfl) (hf : X.fn x = true ∨ X.env.scope.names.lookup x = some .local := by first | exact .inl rfl | exact .inr rfl | assumption) :
    PS1 X (.Assign [.Name x pos'] e pos) (tAsg te (gName i)) := by
  intro pins s σ H D I h
  refine wpAny_Assign_Name (thn (he pins s σ H _ I h) fun v s1 ⟨k, y, H1, I1, r1, q1⟩ => ?_) hs
  exact thT k (store_ok (Q := fun _ s2 => L2.Inv X pins (σ.set i (some y)) H1 s2) I1 hN hi hx r1 (fun s2 I2 => I2) hf) fun _ s2 k2 I2 => ⟨k2, _, H1, I2, q1⟩
theorem pss_consT {st : Stmt} {rest : List Stmt} {t u : TS} (h1 : PS1 X st t) (h2 : PSsT X rest u) : PSs X (st :: rest) (tSeq t u) := by
  refine ⟨fun pins s σ H D I h => ?_⟩
  refine wpAny_execs_cons (thn (h1 pins s σ H { D with nx := u D } I h) fun f s1 ⟨k, q⟩ => ?_)
  cases f with
  | next =>
    obtain ⟨σ', H', I', q⟩ := q
    exact h2 pins s1 σ' H' D k I' q
  | brk => exact q
  | cont => exact q
  | ret v => exact q
/-- text.replace(y, c), c a sign of a text -/
def tReplS (to : TE) (y : Str) (w : Str) (ti : TE) : TE := fun σ H Q => to σ H fun v H1 => ∃ x, v = .str x ∧ ti σ H1 fun n H2 => ∃ (i : Int) (c : Nat), n = .int i ∧ w.length ≤ sizeLine ∧ atI w.cps.toList i = some c ∧ (y == ⟨#[c]⟩) = false ∧ x.length + (x.length + 1) * 1 ≤ 16777216 ∧ Q (.str (Txt.replace x y ⟨#[c]⟩)) H2
theorem pet_replS {o ix : Expr} {to ti : TE} {y w : Str} {j k : Nat} {c0 c1 sp apos pos : Pos} (ho : PE X o to) (hi : PE X ix ti) (hx : PlainIx ix)
    (hst : starEach [.Constant (.str y) j c0, .Subscript (.Constant (.str w) k c1) ix sp] X.env = [(false, eval (.Constant (.str y) j c0) X.env), (false, eval (.Subscript (.Constant (.str w) k c1) ix sp) X.env)] := by rfl)
    (hbase : attributeBase o "replace" X.env (eval o X.env) = eval o X.env := by rfl) (hline : (apos.endLine == pos.line) = true := by rfl) :
    PET X (.Call (.Attribute o "replace" apos) [.Constant (.str y) j c0, .Subscript (.Constant (.str w) k c1) ix sp] [] pos) (tReplS to y w ti) := by
  intro pins s σ H Q h0 I h
  refine PySem.Call_method2 hbase hst hline (thT h0 (ho.run pins s σ H _ I h) fun v s1 k1 ⟨v', H1, I1, r1, x, e1, q⟩ => ?_)
  subst e1
  obtain ⟨tx, e2⟩ := r1
  subst e2
  refine ⟨"str", _, PySem.F.plainAttrs_str, PySem.F.slot_str_replace, PySem.F.type_str_replace, typeIs_str _ _ _, (fun _ e => nomatch e), Calls.callWith_builtin rfl (Calls.evalArgs_plain (Calls.spliced_cons ?_))⟩
  refine Calls.Constant_str (Calls.spliced_cons (Subscript_ (Calls.Constant_str ?_)))
  have k3 : s1.toks + 2 ≤ ({ s1 with toks := s1.toks + 1 + 1 } : Shared).toks := Nat.le_refl _
  refine wpAny_mono (PySem.wpAny_toks_of k3 (hi.run pins { s1 with toks := s1.toks + 1 + 1 } σ H1 _ (I1.tok _) q)) (fun u s2 z => ?_) fun _ _ z => z.2
  obtain ⟨k2, n, H2, I2, r2, i, c, e3, hz, ha, hy, hb, q⟩ := z
  subst e3
  obtain ⟨ti', e4⟩ := r2
  subst e4
  obtain ⟨jj, h1, h2, h3, h4, h5⟩ := atI_get ha
  have hl : w.cps.toList.length = w.length := by simp [Str.length]
  rw [hl] at h1 h4 h5
  have hn := line63
  refine tail_any (typeIs_str s2 w _) slot_str_getitem.lookup (getItem_str (c := c) (by
    have e1 : decide (i < -(2 ^ 63 : Int)) = false := decide_eq_false (by omega)
    have e2 : decide (i ≥ 2 ^ 63) = false := decide_eq_false (by omega)
    rw [e1, e2, Bool.or_false]) (by rw [h1]; simpa using h2) (Calls.spliced_nil ?_)) (hx _ _)
  exact PySem.SC.replace (by show s1.toks ≠ 0; omega) (by show s2.toks ≠ 0; omega) (by show s1.toks ≠ s2.toks; omega) hy hb fun t' k => ⟨.str (Txt.replace x y ⟨#[c]⟩), H2, I2.tok k, ⟨t', rfl⟩, q⟩
end
end Vx
namespace My
open PySem PySem.Spec PyProof.Rows L2 Vx
def topS (i : Nat) : Stmt := PySem.Challenge.pw_longlife_k24_stills_and_failing_places.main.body.getD i (.Pass ⟨0, 0, 0, 0⟩)
abbrev s_states_of : Stmt := topS 5
abbrev N_states_of : List Str := ["picture", "row", "signs", "column", "sign"]
theorem sc_states_of : FnScope N_states_of ["picture"] (defScope s_states_of) := ⟨rfl, rfl, rfl, by decide +kernel, rfl, by decide +kernel, by decide +kernel⟩
abbrev s_size_of : Stmt := topS 6
abbrev N_size_of : List Str := ["picture", "signs"]
theorem sc_size_of : FnScope N_size_of ["picture"] (defScope s_size_of) := ⟨rfl, rfl, rfl, by decide +kernel, rfl, by decide +kernel, by decide +kernel⟩
abbrev s_cells_around : Stmt := topS 7
abbrev N_cells_around : List Str := ["row", "column", "down", "beside"]
theorem sc_cells_around : FnScope N_cells_around ["row", "column"] (defScope s_cells_around) := ⟨rfl, rfl, rfl, by decide +kernel, rfl, by decide +kernel, by decide +kernel⟩
abbrev s_nine_fail : Stmt := topS 8
abbrev N_nine_fail : List Str := ["rule", "wanted", "nine", "neighbours"]
theorem sc_nine_fail : FnScope N_nine_fail ["rule", "wanted", "nine"] (defScope s_nine_fail) := ⟨rfl, rfl, rfl, by decide +kernel, rfl, by decide +kernel, by decide +kernel⟩
abbrev s_count_ways : Stmt := topS 9
abbrev N_count_ways : List Str := ["rule", "wanted", "middle", "alive", "unsaid", "ways", "middles", "state", "later", "fitting", "more"]
theorem sc_count_ways : FnScope N_count_ways ["rule", "wanted", "middle", "alive", "unsaid"] (defScope s_count_ways) := ⟨rfl, rfl, rfl, by decide +kernel, rfl, by decide +kernel, by decide +kernel⟩
abbrev s_is_still : Stmt := topS 11
abbrev N_is_still : List Str := ["picture", "rule", "row", "column"]
theorem sc_is_still : FnScope N_is_still ["picture", "rule"] (defScope s_is_still) := ⟨rfl, rfl, rfl, by decide +kernel, rfl, by decide +kernel, by decide +kernel⟩
abbrev s_place_fails : Stmt := topS 12
abbrev N_place_fails : List Str := ["wishes", "rule", "case", "row", "column", "height", "width", "wished", "nine", "cell", "inside"]
theorem sc_place_fails : FnScope N_place_fails ["wishes", "rule", "case", "row", "column"] (defScope s_place_fails) := ⟨rfl, rfl, rfl, by decide +kernel, rfl, by decide +kernel, by decide +kernel⟩
abbrev s_places : Stmt := topS 13
abbrev N_places : List Str := ["wishes", "height", "width", "row", "column"]
theorem sc_places : FnScope N_places ["wishes"] (defScope s_places) := ⟨rfl, rfl, rfl, by decide +kernel, rfl, by decide +kernel, by decide +kernel⟩
abbrev s_Rule_init : Stmt := inClass (topS 15) 0
abbrev N_Rule_init : List Str := ["self", "births", "survival"]
theorem sc_Rule_init : FnScope N_Rule_init ["self", "births", "survival"] (defScope s_Rule_init) := ⟨rfl, rfl, rfl, by decide +kernel, rfl, by decide +kernel, by decide +kernel⟩
abbrev s_Rule_lives : Stmt := inClass (topS 15) 1
abbrev N_Rule_lives : List Str := ["self", "alive", "count", "numbers"]
theorem sc_Rule_lives : FnScope N_Rule_lives ["self", "alive", "count"] (defScope s_Rule_lives) := ⟨rfl, rfl, rfl, by decide +kernel, rfl, by decide +kernel, by decide +kernel⟩
abbrev s_law_cell : Stmt := topS 17
abbrev N_law_cell : List Str := ["script", "k"]
theorem sc_law_cell : FnScope N_law_cell ["script", "k"] (defScope s_law_cell) := ⟨rfl, rfl, rfl, by decide +kernel, rfl, by decide +kernel, by decide +kernel⟩
abbrev s_law_row : Stmt := topS 18
abbrev N_law_row : List Str := ["cell", "count", "bound", "rest", "mixed", "row", "k"]
theorem sc_law_row : FnScope N_law_row ["cell", "count", "bound"] (defScope s_law_row) := ⟨rfl, rfl, rfl, by decide +kernel, rfl, by decide +kernel, by decide +kernel⟩
abbrev s_law_numbers : Stmt := topS 19
abbrev N_law_numbers : List Str := ["cell", "x", "births", "survival", "k"]
theorem sc_law_numbers : FnScope N_law_numbers ["cell"] (defScope s_law_numbers) := ⟨rfl, rfl, rfl, by decide +kernel, rfl, by decide +kernel, by decide +kernel⟩
abbrev s_law_next : Stmt := topS 21
abbrev N_law_next : List Str := ["cells", "births", "survival", "counts", "alive", "r", "c", "i", "j", "found", "place"]
theorem sc_law_next : FnScope N_law_next ["cells", "births", "survival"] (defScope s_law_next) := ⟨rfl, rfl, rfl, by decide +kernel, rfl, by decide +kernel, by decide +kernel⟩
abbrev s_law_wishes : Stmt := topS 22
abbrev N_law_wishes : List Str := ["cell", "most", "x", "h", "w", "strings", "drawn", "r", "y", "string"]
theorem sc_law_wishes : FnScope N_law_wishes ["cell", "most"] (defScope s_law_wishes) := ⟨rfl, rfl, rfl, by decide +kernel, rfl, by decide +kernel, by decide +kernel⟩
abbrev s_law_said : Stmt := topS 23
abbrev N_law_said : List Str := ["wishes", "case", "r", "c"]
theorem sc_law_said : FnScope N_law_said ["wishes", "case", "r", "c"] (defScope s_law_said) := ⟨rfl, rfl, rfl, by decide +kernel, rfl, by decide +kernel, by decide +kernel⟩
abbrev s_law_still : Stmt := topS 24
abbrev N_law_still : List Str := ["picture", "births", "survival", "cells", "r", "c"]
theorem sc_law_still : FnScope N_law_still ["picture", "births", "survival"] (defScope s_law_still) := ⟨rfl, rfl, rfl, by decide +kernel, rfl, by decide +kernel, by decide +kernel⟩
abbrev s_law_tried : Stmt := topS 25
abbrev N_law_tried : List Str := ["wishes", "births", "survival", "case", "r", "c", "free", "alive", "middle", "i", "j", "told", "number", "count", "center", "k"]
theorem sc_law_tried : FnScope N_law_tried ["wishes", "births", "survival", "case", "r", "c"] (defScope s_law_tried) := ⟨rfl, rfl, rfl, by decide +kernel, rfl, by decide +kernel, by decide +kernel⟩
abbrev s_law : Stmt := topS 26
abbrev N_law : List Str := ["script", "births", "survival", "rule", "wishes", "h", "w", "case", "x", "drawn", "k", "before", "r", "c", "told", "picture", "key"]
theorem sc_law : FnScope N_law ["script"] (defScope s_law) := ⟨rfl, rfl, rfl, by decide +kernel, rfl, by decide +kernel, by decide +kernel⟩
structure Txt (K : PySem.W.Frag) (mg : Str → Option Value) where
  C_Rule : Addr
  g_Rule : mg "Rule" = some (.ref C_Rule)
  cl_Rule : Cls K C_Rule
  na_Rule_births : NoAttr K C_Rule "births"
  na_Rule_survival : NoAttr K C_Rule "survival"
  f_states_of : Addr
  d_states_of : FuncData
  F_states_of : Fun K "states_of" "states_of" s_states_of f_states_of d_states_of
  b_states_of : Binds K d_states_of ["picture"] []
  g_states_of : mg "states_of" = some (.ref f_states_of)
  f_size_of : Addr
  d_size_of : FuncData
  F_size_of : Fun K "size_of" "size_of" s_size_of f_size_of d_size_of
  b_size_of : Binds K d_size_of ["picture"] []
  g_size_of : mg "size_of" = some (.ref f_size_of)
  f_cells_around : Addr
  d_cells_around : FuncData
  F_cells_around : Fun K "cells_around" "cells_around" s_cells_around f_cells_around d_cells_around
  b_cells_around : Binds K d_cells_around ["row", "column"] []
  g_cells_around : mg "cells_around" = some (.ref f_cells_around)
  f_nine_fail : Addr
  d_nine_fail : FuncData
  F_nine_fail : Fun K "nine_fail" "nine_fail" s_nine_fail f_nine_fail d_nine_fail
  b_nine_fail : Binds K d_nine_fail ["rule", "wanted", "nine"] []
  g_nine_fail : mg "nine_fail" = some (.ref f_nine_fail)
  f_count_ways : Addr
  d_count_ways : FuncData
  F_count_ways : Fun K "_count_ways" "_count_ways" s_count_ways f_count_ways d_count_ways
  b_count_ways : Binds K d_count_ways ["rule", "wanted", "middle", "alive", "unsaid"] []
  g_count_ways : mg "_count_ways" = some (.ref f_count_ways)
  f_is_still : Addr
  d_is_still : FuncData
  F_is_still : Fun K "is_still" "is_still" s_is_still f_is_still d_is_still
  b_is_still : Binds K d_is_still ["picture", "rule"] []
  g_is_still : mg "is_still" = some (.ref f_is_still)
  f_place_fails : Addr
  d_place_fails : FuncData
  F_place_fails : Fun K "place_fails" "place_fails" s_place_fails f_place_fails d_place_fails
  b_place_fails : Binds K d_place_fails ["wishes", "rule", "case", "row", "column"] []
  g_place_fails : mg "place_fails" = some (.ref f_place_fails)
  f_places : Addr
  d_places : FuncData
  F_places : Fun K "_places" "_places" s_places f_places d_places
  b_places : Binds K d_places ["wishes"] []
  g_places : mg "_places" = some (.ref f_places)
  f_Rule_init : Addr
  d_Rule_init : FuncData
  F_Rule_init : Fun K "__init__" "Rule.__init__" s_Rule_init f_Rule_init d_Rule_init
  b_Rule_init : Binds K d_Rule_init ["self", "births", "survival"] []
  M_Rule : Mk K C_Rule f_Rule_init
  f_Rule_lives : Addr
  d_Rule_lives : FuncData
  F_Rule_lives : Fun K "lives" "Rule.lives" s_Rule_lives f_Rule_lives d_Rule_lives
  b_Rule_lives : Binds K d_Rule_lives ["self", "alive", "count"] []
  m_Rule_lives : Meth K C_Rule "lives" f_Rule_lives
  f_law_cell : Addr
  d_law_cell : FuncData
  F_law_cell : Fun K "_law_cell" "_law_cell" s_law_cell f_law_cell d_law_cell
  b_law_cell : Binds K d_law_cell ["script", "k"] []
  g_law_cell : mg "_law_cell" = some (.ref f_law_cell)
  f_law_row : Addr
  d_law_row : FuncData
  F_law_row : Fun K "_law_row" "_law_row" s_law_row f_law_row d_law_row
  b_law_row : Binds K d_law_row ["cell", "count", "bound"] []
  g_law_row : mg "_law_row" = some (.ref f_law_row)
  f_law_numbers : Addr
  d_law_numbers : FuncData
  F_law_numbers : Fun K "_law_numbers" "_law_numbers" s_law_numbers f_law_numbers d_law_numbers
  b_law_numbers : Binds K d_law_numbers ["cell"] []
  g_law_numbers : mg "_law_numbers" = some (.ref f_law_numbers)
  f_law_next : Addr
  d_law_next : FuncData
  F_law_next : Fun K "_law_next" "_law_next" s_law_next f_law_next d_law_next
  b_law_next : Binds K d_law_next ["cells", "births", "survival"] []
  g_law_next : mg "_law_next" = some (.ref f_law_next)
  f_law_wishes : Addr
  d_law_wishes : FuncData
  F_law_wishes : Fun K "_law_wishes" "_law_wishes" s_law_wishes f_law_wishes d_law_wishes
  b_law_wishes : Binds K d_law_wishes ["cell", "most"] []
  g_law_wishes : mg "_law_wishes" = some (.ref f_law_wishes)
  f_law_said : Addr
  d_law_said : FuncData
  F_law_said : Fun K "_law_said" "_law_said" s_law_said f_law_said d_law_said
  b_law_said : Binds K d_law_said ["wishes", "case", "r", "c"] []
  g_law_said : mg "_law_said" = some (.ref f_law_said)
  f_law_still : Addr
  d_law_still : FuncData
  F_law_still : Fun K "_law_still" "_law_still" s_law_still f_law_still d_law_still
  b_law_still : Binds K d_law_still ["picture", "births", "survival"] []
  g_law_still : mg "_law_still" = some (.ref f_law_still)
  f_law_tried : Addr
  d_law_tried : FuncData
  F_law_tried : Fun K "_law_tried" "_law_tried" s_law_tried f_law_tried d_law_tried
  b_law_tried : Binds K d_law_tried ["wishes", "births", "survival", "case", "r", "c"] []
  g_law_tried : mg "_law_tried" = some (.ref f_law_tried)
  f_law : Addr
  d_law : FuncData
  F_law : Fun K "law" "law" s_law f_law d_law
  b_law : Binds K d_law ["script"] []
  g_law : mg "law" = some (.ref f_law)
  z_enumerate : mg "enumerate" = none
  z_len : mg "len" = none
  z_max : mg "max" = none
  z_sum : mg "sum" = none
  z_range : mg "range" = none
  z_any : mg "any" = none
  z_tuple : mg "tuple" = none
  z_sorted : mg "sorted" = none
  z_set : mg "set" = none
  z_int : mg "int" = none
  z_abs : mg "abs" = none
  z_isinstance : mg "isinstance" = none
  z_bool : mg "bool" = none
  a_AROUND : Addr
  t_AROUND : ∀ H : Hp, SqT K H a_AROUND ([(-1), (0), (1)].map V.int)
  c_ALIVE : ∃ u, mg "ALIVE" = some u ∧ RelV (.str (Str.ofString "O")) u
  c_ANY : ∃ u, mg "ANY" = some u ∧ RelV (.str (Str.ofString "?")) u
  c_AROUND : ∃ u, mg "AROUND" = some u ∧ RelV (.ref a_AROUND) u
  i_comb : mg "comb" = some (.builtin "math.comb")
end My
namespace My
open PySem PySem.Spec PyProof.Rows L2 Vx
open TL
local macro_rules | `(tactic| k_invariant "new" ($n, $H:ident, $e:ident, $h:ident)) => `(tactic| (generalize hE : upd _ _ _ = $H; obtain ⟨$e:ident, $h:ident⟩ := gen_e hE $n; clear hE))
local macro_rules | `(tactic| k_places) => `(tactic| first
  | assumption
  | exact lst_of (by assumption)
  | exact tup_of (by assumption)
  | (refine getS (by assumption) ?_; k_places)
  | (refine Same.seq (by assumption) ?_; k_places)
  | (refine tupS (by assumption) ?_; k_places)
  | (refine lst_of ?_; k_places)
  | (refine tup_of ?_; k_places))
local macro_rules | `(tactic| k_subL) => `(tactic| first
  | k_places
  | solve_by_elim (maxDepth := 10) [getS, lst_of, tup_of, Same.seq, tupS])
local macro_rules | `(tactic| k_offL) => `(tactic| first
  | (show (0 : Int) < _; first | omega | decide)
  | (refine ⟨?_, ?_⟩ <;> first | omega | decide)
  | exact .inr ⟨by decide, by decide⟩
  | exact .inl ⟨by decide, by decide⟩
  | exact .inl ⟨by omega, by omega⟩
  | omega)
local macro_rules | `(tactic| k_clsL) => `(tactic| exact Nat.le_of_ble_eq_true rfl)
local macro_rules | `(tactic| k_upd) => `(tactic| simp only [L2.start, List.map_cons, List.map_nil, List.length_cons, List.length_nil, List.replicate_succ, List.replicate_zero, List.cons_append, List.nil_append, List.set_cons_zero, List.set_cons_succ])
section
variable {P : Program} {w : World} {K : PySem.W.Frag} {mg : Str → Option Value} {base : Heap}
/-! ### pictures and what is said of cells -/
def sgn : Option Bool → Nat
  | none => 63
  | some true => 79
  | some false => 46
theorem sgn_inj {a b : Option Bool} (h : sgn a = sgn b) : a = b := by
  match a, b with
  | none, none => rfl
  | none, some true => cases h
  | none, some false => cases h
  | some true, none => cases h
  | some true, some true => rfl
  | some true, some false => cases h
  | some false, none => cases h
  | some false, some true => cases h
  | some false, some false => rfl
def rowW (w : Nat) (f : Nat → Option Bool) : Str := ⟨((List.range w).map fun c => sgn (f c)).toArray⟩
theorem rowW_size (w : Nat) (f : Nat → Option Bool) : (rowW w f).cps.size = w := by
  unfold rowW
  simp
theorem rowW_at {w c : Nat} (f : Nat → Option Bool) (h : c < w) : (rowW w f).cps[c]? = some (sgn (f c)) := by
  unfold rowW
  simp [h]
theorem rowW_atI {w c : Nat} (f : Nat → Option Bool) (h : c < w) : atI (rowW w f).cps.toList (c : Int) = some (sgn (f c)) := by
  refine atI_nat ?_
  unfold rowW
  simp [h]
theorem rowW_len {w : Nat} (f : Nat → Option Bool) : (rowW w f).length = w := rowW_size w f
def PicAt (H : Hp) (l : Addr) (h w : Nat) (A : Nat → Nat → Option Bool) : Prop := H l = some (.lst ((List.range h).map fun r => V.str (rowW w (A r))))
theorem pic_at {h w : Nat} {A : Nat → Nat → Option Bool} {r : Nat} (hr : r < h) : ((List.range h).map fun r => V.str (rowW w (A r)))[r]? = some (.str (rowW w (A r))) := by
  rw [List.getElem?_map, List.getElem?_range hr]
  rfl
/-- what a picture says of a cell -/
def said (h w : Nat) (A : Nat → Nat → Option Bool) (x : Pr) : Option Bool := if 0 ≤ x.1 ∧ x.1 < (h : Int) ∧ 0 ≤ x.2 ∧ x.2 < (w : Int) then A x.1.toNat x.2.toNat else none
def CaseAt (H : Hp) (d : Addr) (C : Pr → Option Bool) : Prop := ∃ (ps : List Pr) (g : Pr → Bool), Dct H d ps (fun x => .bl (g x)) ∧ ps.length ≤ 5000 ∧ ∀ x, C x = if x ∈ ps then some (g x) else none
theorem CaseAt.up {H H' : Hp} {d : Addr} {C : Pr → Option Bool} (e : Same H H') (h : CaseAt H d C) : CaseAt H' d C := by
  obtain ⟨ps, g, h1, h2⟩ := h
  exact ⟨ps, g, h1.up e, h2⟩
theorem CaseAt.isD {H : Hp} {d : Addr} {C : Pr → Option Bool} (h : CaseAt H d C) : IsD H d := h.choose_spec.choose_spec.1.isD
theorem CaseAt.get {H : Hp} {d b : Addr} {C : Pr → Option Bool} {x : Pr} (h : CaseAt H d C) (e : H b = some (.tup [.int x.1, .int x.2])) : DGet H d (.ref b) ((C x).map V.bl) := by
  obtain ⟨ps, g, h1, _, h2⟩ := h
  have := h1.dget e
  rw [h2]
  by_cases m : x ∈ ps
  · rw [if_pos m] at this ⊢
    exact this
  · rw [if_neg m] at this ⊢
    exact this
theorem sgnS_ne (a b : Option Bool) : decide (V.str ⟨#[sgn a]⟩ = V.str ⟨#[sgn b]⟩) = decide (a = b) := by
  by_cases e : a = b
  · rw [e, decide_eq_true rfl, decide_eq_true rfl]
  · rw [decide_eq_false e, decide_eq_false]
    intro z
    injection z with z
    injection z with z
    have := congrArg (fun a => a[0]?) z
    simp at this
    exact e (sgn_inj this)
def sp_states_of : Sp := fun vs H Q _ => ∃ (l : Addr) (h w : Nat) (P : Nat → Nat → Option Bool), vs = [.ref l] ∧ PicAt H l h w P ∧ h * w ≤ 2000 ∧
  ∀ (H' : Hp) (d : Addr), H d = none → Same H H' → CaseAt H' d (said h w P) → Q (.ref d) H'
theorem ok_states_of (T : Txt K mg) : FnOk P w K mg base CX0 1 T.f_states_of T.d_states_of ["picture"] sp_states_of := by
  refine T.F_states_of.ok sc_states_of (fun vs H Q E h => ?_) (fun cdv A outer s H vs Q E hr h => ?_)
  · obtain ⟨_, _, _, _, rfl, _⟩ := h
    rfl
  · obtain ⟨l, h, wd, P, rfl, hl, few, q⟩ := h
    have hu : (A.deeper (envOfC (Str.ofString "states_of") (defScope s_states_of) s.heap.objs.size T.f_states_of cdv)).units + 1 < cLine := by
      have := hr.units
      omega
    refine ⟨_, (pss_one (ps_ret (pe_dcD (own := [("row", 1), ("signs", 2), ("column", 3), ("sign", 4)]) (vs1 := [3, 4]) rfl (Nat.lt_of_succ_lt hu) sc_states_of.nd (pi_enum (by rfl) T.z_enumerate (pa_cons (pv 0) pa_nil)) (blkOk_by (own := [("row", 1), ("signs", 2), ("column", 3), ("sign", 4)]) (N := N_states_of) (sc := defScope s_states_of) (by decide +kernel)) (by decide) (fun _ _ _ _ _ => (pg_tupK (K := K) (n := 2) rfl rfl (pgs_cons (pg_name (i := 1) sc_states_of.nd rfl (.inl rfl)) (pgs_cons (pg_name (i := 2) sc_states_of.nd rfl (.inl rfl)) pgs_nil)))) (fun _ _ _ _ _ => pts_nil) (fun _ _ _ _ _ => (pi_enumS (by rfl) T.z_enumerate (pa_cons (pv 2) pa_nil))) (fun _ _ _ _ _ => (pg_tupK (K := K) (n := 2) rfl rfl (pgs_cons (pg_name (i := 3) sc_states_of.nd rfl (.inl rfl)) (pgs_cons (pg_name (i := 4) sc_states_of.nd rfl (.inl rfl)) pgs_nil)))) (fun _ _ _ _ _ => (pts_one (pt_cmpR op_ne (pv 4) (pe_gcx (by rfl) T.c_ANY) (nomark _)))) (fun _ _ _ _ _ => (pe_tup (pa_cons (pv 1) (pa_cons (pv 3) pa_nil)))) (fun _ _ _ _ _ => (pe_cmpR op_eq (pv 4) (pe_gcx (by rfl) T.c_ALIVE) (nomark _)))))), ?_⟩
    refine ⟨_, rfl, l, _, rfl, lst_of hl, fun D nD => turns_enum (K := K) (a := l) (xs := (List.range h).map fun r => V.str (rowW wd (P r)))
      (fun i H' => Same H H' ∧ ∃ (ks : List Pr) (g : Pr → Bool), Dct H' D ks (fun x => .bl (g x)) ∧ ks.length ≤ i * wd ∧ ∀ x, (if x ∈ ks then some (g x) else none) = said i wd P x)
      ⟨newS nD, [], fun _ => true, Dct.new _ upd_same, Nat.zero_le _, fun x => ?_⟩ (fun i H' _ p => lst_of (p.1 _ _ hl)) ?_ ?_⟩
    · unfold said
      rw [if_neg (by intro z; cases z), if_neg (by omega)]
    · rintro i x H1 T1 hi ⟨s1, ks, g, hK, lk, hg⟩ n1
      have li : i < h := by
        have := (List.getElem?_eq_some_iff.mp hi).1
        rw [List.length_map, List.length_range] at this
        exact this
      rw [pic_at li] at hi
      obtain rfl := Option.some.inj hi
      k_invariant "new" (n1, H2, e2, g2)
      refine ⟨T1, _, rfl, tup_of g2, rfl, _, _, rfl, _, _, rfl, rfl, rfl, tyesT ?_⟩
      refine ⟨_, rfl, _, rfl, turns_enumS (fun j H' => Same H H' ∧ ∃ (ks : List Pr) (g : Pr → Bool), Dct H' D ks (fun x => .bl (g x)) ∧ ks.length ≤ i * wd + j ∧ ∀ x, (if x ∈ ks then some (g x) else none) = if x.1 = (i : Int) then (if 0 ≤ x.2 ∧ x.2 < (j : Int) then P i x.2.toNat else none) else said i wd P x)
        ⟨s1.trans e2, ks, g, hK.up e2, lk, fun x => ?_⟩ ?_ ?_⟩
      · rw [hg]
        by_cases c : x.1 = (i : Int)
        · rw [if_pos c, if_neg (by omega)]
          unfold said
          rw [if_neg (by omega)]
        · rw [if_neg c]
      · rintro j c H3 T3 hj ⟨s3, ks3, g3, hK3, lk3, hg3⟩ n3
        have lj : j < wd := by
          have := (Array.getElem?_eq_some_iff.mp hj).1
          rw [rowW_size] at this
          exact this
        rw [rowW_at _ lj] at hj
        obtain rfl := Option.some.inj hj
        k_invariant "new" (n3, H4, e4, g4)
        refine ⟨T3, _, rfl, tup_of g4, rfl, _, _, rfl, _, _, rfl, rfl, rfl, ?_⟩
        have s4 := s3.trans e4
        have eANY : (Str.ofString "?") = (⟨#[sgn none]⟩ : Str) := by decide +kernel
        have eO : (Str.ofString "O") = (⟨#[sgn (some true)]⟩ : Str) := by decide +kernel
        have ec : decide (V.str ⟨#[sgn (P i j)]⟩ = V.str (Str.ofString "?")) = decide (P i j = none) := by rw [eANY]; exact sgnS_ne _ _
        have eo : decide (V.str ⟨#[sgn (P i j)]⟩ = V.str (Str.ofString "O")) = decide (P i j = some true) := by rw [eO]; exact sgnS_ne _ _
        refine ⟨_, rfl, rfl, _, rfl, ?_⟩
        dsimp only
        rw [ec]
        cases pc : P i j with
        | none =>
          rw [decide_eq_true rfl]
          refine iteF ⟨s4, ks3, g3, hK3.up e4, by omega, fun x => ?_⟩
          rw [hg3]
          by_cases c : x.1 = (i : Int)
          · rw [if_pos c, if_pos c]
            by_cases c2 : 0 ≤ x.2 ∧ x.2 < (j : Int)
            · rw [if_pos c2, if_pos (by omega)]
            · rw [if_neg c2]
              by_cases c3 : 0 ≤ x.2 ∧ x.2 < ((j + 1 : Nat) : Int)
              · rw [if_pos c3, show x.2.toNat = j by omega, pc]
              · rw [if_neg c3]
          · rw [if_neg c, if_neg c]
        | some b =>
          rw [decide_eq_false (by intro z; cases z)]
          refine iteT ?_
          rw [pc] at eo
          refine ⟨_, rfl, _, rfl, by k_clsL, fun p5 n5 => ?_⟩
          have D5 : D ≠ p5 := fun z => by
            obtain ⟨kvs, k1, _⟩ := hK3.up e4
            rw [← z, k1] at n5
            cases n5
          k_invariant "new" (n5, H5, e5, g5)
          obtain ⟨kvs, k1, k2⟩ := hK3.up (e4.trans e5)
          refine ⟨_, rfl, rfl, kvs, keyP ((i : Int), (j : Int)), p5, rfl, g5, k1, by have := Nat.mul_le_mul_right wd (show i + 1 ≤ h from li); rw [Nat.succ_mul] at this; rw [k2.len, sizeLine_eq]; omega, mutS (s4.trans e5) nD, addK ks3 ((i : Int), (j : Int)), fun x => if x = ((i : Int), (j : Int)) then b else g3 x, ⟨_, upd_same, (k2.put _ _).congr fun x m => ?_⟩, by have := addK_len (ps := ks3) (x := ((i : Int), (j : Int))); omega, fun x => ?_⟩
          · unfold setG
            by_cases e : x = ((i : Int), (j : Int))
            · rw [if_pos e]
              dsimp only
              rw [if_pos e, eo]
              cases b <;> rfl
            · rw [if_neg e]
              dsimp only
              rw [if_neg e]
          · dsimp only
            by_cases e : x = ((i : Int), (j : Int))
            · rw [if_pos (mem_addK.mpr (.inr e)), if_pos e, e, if_pos rfl, if_pos (by omega), Int.toNat_natCast, pc]
            · have m : x ∈ addK ks3 ((i : Int), (j : Int)) ↔ x ∈ ks3 := by
                rw [mem_addK]
                exact ⟨fun h => h.elim id fun z => absurd z e, .inl⟩
              rw [if_neg e]
              have := hg3 x
              by_cases mx : x ∈ ks3
              · rw [if_pos (m.mpr mx)]
                rw [if_pos mx] at this
                rw [this]
                by_cases c : x.1 = (i : Int)
                · rw [if_pos c, if_pos c]
                  by_cases c2 : 0 ≤ x.2 ∧ x.2 < (j : Int)
                  · rw [if_pos c2, if_pos (by omega)]
                  · rw [if_neg c2, if_neg fun z => e (Prod.ext c (by dsimp only; omega))]
                · rw [if_neg c, if_neg c]
              · rw [if_neg fun z => mx (m.mp z)]
                rw [if_neg mx] at this
                rw [this]
                by_cases c : x.1 = (i : Int)
                · rw [if_pos c, if_pos c]
                  by_cases c2 : 0 ≤ x.2 ∧ x.2 < (j : Int)
                  · rw [if_pos c2, if_pos (by omega)]
                  · rw [if_neg c2, if_neg fun z => e (Prod.ext c (by dsimp only; omega))]
                · rw [if_neg c, if_neg c]
      · rintro H3 ⟨s3, ks3, g3, hK3, lk3, hg3⟩
        rw [rowW_size] at lk3 hg3
        refine ⟨s3, ks3, g3, hK3, by rw [Nat.succ_mul]; exact lk3, fun x => ?_⟩
        rw [hg3]
        unfold said
        by_cases c : x.1 = (i : Int)
        · rw [if_pos c]
          by_cases c2 : 0 ≤ x.2 ∧ x.2 < (wd : Int)
          · rw [if_pos c2, if_pos (by omega), c, Int.toNat_natCast]
          · rw [if_neg c2, if_neg (by omega)]
        · rw [if_neg c]
          by_cases c2 : 0 ≤ x.1 ∧ x.1 < (i : Int) ∧ 0 ≤ x.2 ∧ x.2 < (wd : Int)
          · rw [if_pos c2, if_pos (by omega)]
          · rw [if_neg c2, if_neg (by omega)]
    · rintro H1 ⟨s1, ks, g, hK, lk, hg⟩
      rw [List.length_map, List.length_range] at lk hg
      exact q H1 D nD s1 ⟨ks, g, hK, by omega, fun x => (hg x).symm⟩
end
end My
namespace My
open PySem PySem.Spec PyProof.Rows L2 Vx
open TL
local macro_rules | `(tactic| k_invariant "new" ($n, $H:ident, $e:ident, $h:ident)) => `(tactic| (generalize hE : upd _ _ _ = $H; obtain ⟨$e:ident, $h:ident⟩ := gen_e hE $n; clear hE))
local macro_rules | `(tactic| k_places) => `(tactic| first
  | assumption
  | exact lst_of (by assumption)
  | exact tup_of (by assumption)
  | (refine getS (by assumption) ?_; k_places)
  | (refine Same.seq (by assumption) ?_; k_places)
  | (refine tupS (by assumption) ?_; k_places)
  | (refine lst_of ?_; k_places)
  | (refine tup_of ?_; k_places))
local macro_rules | `(tactic| k_subL) => `(tactic| first
  | k_places
  | solve_by_elim (maxDepth := 10) [getS, lst_of, tup_of, Same.seq, tupS])
local macro_rules | `(tactic| k_offL) => `(tactic| first
  | (show (0 : Int) < _; first | omega | decide)
  | (refine ⟨?_, ?_⟩ <;> first | omega | decide)
  | exact .inr ⟨by decide, by decide⟩
  | exact .inl ⟨by decide, by decide⟩
  | exact .inl ⟨by omega, by omega⟩
  | omega)
local macro_rules | `(tactic| k_clsL) => `(tactic| exact Nat.le_of_ble_eq_true rfl)
local macro_rules | `(tactic| k_upd) => `(tactic| simp only [L2.start, List.map_cons, List.map_nil, List.length_cons, List.length_nil, List.replicate_succ, List.replicate_zero, List.cons_append, List.nil_append, List.set_cons_zero, List.set_cons_succ])
section
variable {P : Program} {w : World} {K : PySem.W.Frag} {mg : Str → Option Value} {base : Heap}
/-! ### rules -/
theorem bs_ne : ¬ (("births" : Str) = "survival") := by decide +kernel
theorem sb_ne : ¬ (("survival" : Str) = "births") := by decide +kernel
def rf (tb ts : Addr) : List (Str × V) := putF "survival" (.ref ts) (putF "births" (.ref tb) [])
theorem rf_b (tb ts : Addr) : (rf tb ts).lookup ("births" : Str) = some (.ref tb) := by
  unfold rf
  rw [lookup_putF, if_neg bs_ne, lookup_putF, if_pos rfl]
theorem rf_s (tb ts : Addr) : (rf tb ts).lookup ("survival" : Str) = some (.ref ts) := by
  unfold rf
  rw [lookup_putF, if_pos rfl]
theorem rf_no (tb ts : Addr) {m : Str} (h1 : ¬ m = "survival") (h2 : ¬ m = "births") : (rf tb ts).lookup m = none := by
  unfold rf
  rw [lookup_putF, if_neg h1, lookup_putF, if_neg h2]
  rfl
def RuleAt (C : Addr) (H : Hp) (r : Addr) (bs ss : List Int) : Prop :=
  ∃ dx tb ts, H r = some (.ins C dx (rf tb ts)) ∧ H tb = some (.tup (bs.map V.int)) ∧ H ts = some (.tup (ss.map V.int))
theorem RuleAt.up {C : Addr} {H H' : Hp} {r : Addr} {bs ss : List Int} (e : Same H H') (h : RuleAt C H r bs ss) : RuleAt C H' r bs ss := by
  obtain ⟨dx, tb, ts, h1, h2, h3⟩ := h
  exact ⟨dx, tb, ts, e _ _ h1, e _ _ h2, e _ _ h3⟩
def Canon (ns l : List Int) : Prop := l.Pairwise (· < ·) ∧ ∀ k, k ∈ l ↔ k ∈ ns
theorem canon_eq {ns l m : List Int} (h : Canon ns l) (h2 : m.Pairwise (· < ·)) (h3 : ∀ k, k ∈ ns ↔ k ∈ m) : l = m := asc_eq h.1 h2 fun k => (h.2 k).trans (h3 k)
def sp_Rule_init (K : PySem.W.Frag) (C : Addr) : Sp := fun vs H Q _ => ∃ (H0 : Hp) (r lb ls dx : Addr) (nb ns : List Int), vs = [.ref r, .ref lb, .ref ls] ∧ Same H0 H ∧ H0 r = none ∧ H r = some (.ins C dx []) ∧
  SqL K H0 lb (nb.map V.int) ∧ SqL K H0 ls (ns.map V.int) ∧ nb.length ≤ 63 ∧ ns.length ≤ 63 ∧
  ∀ (H' : Hp) (bs ss : List Int), Same H0 H' → RuleAt C H' r bs ss → Canon nb bs → Canon ns ss → Q .non H'
theorem ok_Rule_init (T : Txt K mg) : FnOk P w K mg base CX0 1 T.f_Rule_init T.d_Rule_init ["self", "births", "survival"] (sp_Rule_init K T.C_Rule) := by
  refine T.F_Rule_init.ok sc_Rule_init (fun vs H Q E h => ?_) (fun cdv A outer s H vs Q E hr h => ?_)
  · obtain ⟨_, _, _, _, _, _, _, rfl, _⟩ := h
    rfl
  · obtain ⟨H0, r, lb, ls, dx, nb, ns, rfl, s0, r0, hr0, hb, hs, l1, l2, q⟩ := h
    refine ⟨_, (pss_cons (ps_fld (pv 0) (pe_callTy call_tupL (by rfl) T.z_tuple (by decide +kernel) (pa_cons (pe_callB (cr_sortedSet rfl) (by rfl) T.z_sorted (by decide +kernel) (pa_cons (pe_callTy (cr_setL rfl) (by rfl) T.z_set (by decide +kernel) (pa_cons (pv 1) pa_nil)) pa_nil)) pa_nil)) rfl)
      (pss_one (ps_fld (pv 0) (pe_callTy call_tupL (by rfl) T.z_tuple (by decide +kernel) (pa_cons (pe_callB (cr_sortedSet rfl) (by rfl) T.z_sorted (by decide +kernel) (pa_cons (pe_callTy (cr_setL rfl) (by rfl) T.z_set (by decide +kernel) (pa_cons (pv 2) pa_nil)) pa_nil)) pa_nil)) rfl))), ?_⟩
    refine ⟨_, rfl, lb, nb, rfl, s0.seq hb, Nat.lt_of_le_of_lt (Nat.add_le_add_right l1 1) (by decide), fun p1 c1 n1 hc1 => ?_⟩
    k_invariant "new" (n1, H1, e1, h1)
    refine ⟨_, _, _, rfl, h1, by omega, fun bs p2 pw1 mem1 len1 n2 => ?_⟩
    k_invariant "new" (n2, H2, e2, h2)
    refine ⟨_, _, rfl, lst_of h2, fun p3 n3 => ?_⟩
    k_invariant "new" (n3, H3, e3, h3)
    refine ⟨_, rfl, r, T.C_Rule, dx, [], rfl, by k_subL, T.cl_Rule, T.na_Rule_births, (by show 0 < 1000; decide), ?_⟩
    have s3 : Same H0 H3 := s0.trans (e1.trans (e2.trans e3))
    have r3 : p3 ≠ r := fun e => by
      have : H3 r = some (.ins T.C_Rule dx []) := by k_subL
      rw [e] at h3
      rw [h3] at this
      cases this
    have s4 : Same H0 (upd H3 r (.ins T.C_Rule dx (putF "births" (.ref p3) []))) := mutS s3 r0
    have g4 : upd H3 r (.ins T.C_Rule dx (putF "births" (.ref p3) [])) r = some (.ins T.C_Rule dx (putF "births" (.ref p3) [])) := upd_same
    have g3 : upd H3 r (.ins T.C_Rule dx (putF "births" (.ref p3) [])) p3 = some (.tup (bs.map V.int)) := by rw [upd_ne r3]; exact h3
    generalize upd H3 r (.ins T.C_Rule dx (putF "births" (.ref p3) [])) = H4 at s4 g4 g3
    refine ⟨_, rfl, ls, ns, rfl, s4.seq hs, Nat.lt_of_le_of_lt (Nat.add_le_add_right l2 1) (by decide), fun p5 c2 n5 hc2 => ?_⟩
    k_invariant "new" (n5, H5, e5, h5)
    refine ⟨_, _, _, rfl, h5, by omega, fun ss p6 pw2 mem2 len2 n6 => ?_⟩
    k_invariant "new" (n6, H6, e6, h6)
    refine ⟨_, _, rfl, lst_of h6, fun p7 n7 => ?_⟩
    k_invariant "new" (n7, H7, e7, h7)
    have g8 : H7 r = some (.ins T.C_Rule dx (putF "births" (.ref p3) [])) := by k_subL
    refine ⟨_, rfl, r, T.C_Rule, dx, _, rfl, g8, T.cl_Rule, T.na_Rule_survival, (by show 1 < 1000; decide), ?_⟩
    have r7 : p7 ≠ r := fun e => by
      have : H7 r = some (.ins T.C_Rule dx (putF "births" (.ref p3) [])) := by k_subL
      rw [e] at h7
      rw [h7] at this
      cases this
    have g7 : H7 p3 = some (.tup (bs.map V.int)) := by k_subL
    refine q _ bs ss (mutS (s4.trans (e5.trans (e6.trans e7))) r0) ⟨dx, p3, p7, upd_same, ?_, ?_⟩ ⟨pw1, fun k => (mem1 k).trans (by simp)⟩ ⟨pw2, fun k => (mem2 k).trans (by simp)⟩
    · rw [upd_ne r3]; exact g7
    · rw [upd_ne r7]; exact h7
def sp_Rule_lives (C : Addr) : Sp := fun vs H Q _ => ∃ (r : Addr) (al : Bool) (n : Int) (bs ss : List Int), vs = [.ref r, .bl al, .int n] ∧ RuleAt C H r bs ss ∧ Q (.bl (decide (n ∈ if al = true then ss else bs))) H
theorem ok_Rule_lives (T : Txt K mg) : FnOk P w K mg base CX0 1 T.f_Rule_lives T.d_Rule_lives ["self", "alive", "count"] (sp_Rule_lives T.C_Rule) := by
  refine T.F_Rule_lives.ok sc_Rule_lives (fun vs H Q E h => ?_) (fun cdv A outer s H vs Q E hr h => ?_)
  · obtain ⟨_, _, _, _, _, rfl, _⟩ := h
    rfl
  · obtain ⟨r, al, n, bs, ss, rfl, ⟨dx, tb, ts, h1, h2, h3⟩, q⟩ := h
    refine ⟨_, (pss_cons (ps_set (i := 3) sc_Rule_lives.nd rfl (.inl rfl) (pe_ifExp (pt_val (pv 1)) (pe_fld (pv 0) rfl) (pe_fld (pv 0) rfl)))
      (pss_one (ps_ret (pe_cmpR op_in_seq (pv 2) (pv 3) rfl)))), ?_⟩
    refine ⟨_, rfl, _, rfl, ?_⟩
    cases al with
    | true =>
      refine iteT ⟨_, rfl, r, _, _, _, _, rfl, h1, T.cl_Rule, T.na_Rule_survival, rf_s _ _, _, rfl, _, rfl, _, _, rfl, .inr (tup_of h3), rfl, flat_ints _, ?_⟩
      rw [if_neg Bool.false_ne_true, inV_ints]
      exact q
    | false =>
      refine iteF ⟨_, rfl, r, _, _, _, _, rfl, h1, T.cl_Rule, T.na_Rule_births, rf_b _ _, _, rfl, _, rfl, _, _, rfl, .inr (tup_of h2), rfl, flat_ints _, ?_⟩
      rw [if_neg Bool.false_ne_true, inV_ints]
      exact q
theorem no_lives' (tb ts : Addr) : (rf tb ts).lookup ("lives" : Str) = none := rf_no tb ts (by decide +kernel) (by decide +kernel)
/-! ### whether a place fails -/
def n3 : List Int := [-1, 0, 1]
def n9 (r c : Int) : List Pr := n3.flatMap fun d => n3.map fun b => (r + d, c + b)
theorem flat_len3 {r c : Int} : ∀ {l : List Int}, (l.flatMap fun d => n3.map fun b => ((r + d, c + b) : Pr)).length = l.length * 3
  | [] => rfl
  | x :: l => by
    rw [List.flatMap_cons, List.length_append, flat_len3, List.length_map, List.length_cons, Nat.succ_mul, Nat.add_comm]
    rfl
def sp_cells_around : Sp := fun vs H Q _ => ∃ (r c : Int), vs = [.int r, .int c] ∧ ∀ (H' : Hp) (p : Addr), H p = none → Same H H' → Cells H' p (n9 r c) → Q (.ref p) H'
theorem take_nextB {ns : List Bool} {i : Nat} {d : Bool} (h : ns[i]? = some d) : ns.take (i + 1) = ns.take i ++ [d] := by rw [List.take_succ, h]; rfl
theorem take_nextJ {ns : List Int} {i : Nat} {d : Int} (h : ns[i]? = some d) : ns.take (i + 1) = ns.take i ++ [d] := by rw [List.take_succ, h]; rfl
theorem ok_cells_around (T : Txt K mg) : FnOk P w K mg base CX0 1 T.f_cells_around T.d_cells_around ["row", "column"] sp_cells_around := by
  refine T.F_cells_around.ok sc_cells_around (fun vs H Q E h => ?_) (fun cdv A outer s H vs Q E hr h => ?_)
  · obtain ⟨_, _, rfl, _⟩ := h
    rfl
  · obtain ⟨r, c, rfl, q⟩ := h
    refine ⟨_, (pss_one (ps_ret (pe_lcD (own := [("down", 2), ("beside", 3)]) (vs1 := [3]) rfl sc_cells_around.nd (pi_tup (pe_gcx (by rfl) T.c_AROUND)) (blkOk_by (own := [("down", 2), ("beside", 3)]) (N := N_cells_around) (sc := defScope s_cells_around) (by decide +kernel)) (by decide) (fun _ _ _ _ _ => (pg_name (i := 2) sc_cells_around.nd rfl (Or.inl rfl))) (fun _ _ _ _ _ => pts_nil) (fun _ _ _ _ _ => (pi_tupK (K := K) rfl (pe_gcx (by rfl) T.c_AROUND))) (fun _ _ _ _ _ => (pg_name (i := 3) sc_cells_around.nd rfl (Or.inl rfl))) (fun _ _ _ _ _ => pts_nil) (fun _ _ _ _ _ => (pe_tup (pa_cons (pe_op op_add (pv 0) (pv 2)) (pa_cons (pe_op op_add (pv 1) (pv 3)) pa_nil))))))), ?_⟩
    refine ⟨T.a_AROUND, rfl, ⟨_, T.t_AROUND _⟩, fun N nN => turns_tup (K := K) (a := T.a_AROUND) (xs := n3.map V.int) (fun j H' => Same H H' ∧ Cells H' N ((n3.take j).flatMap fun d => n3.map fun b => (r + d, c + b)))
      ⟨newS nN, [], upd_same, (fun t m => by cases m), rfl⟩ (fun j H' _ _ => T.t_AROUND H') ?_ ?_⟩
    · rintro j v H11 hj ⟨s11, hN11⟩
      rw [List.getElem?_map] at hj
      obtain ⟨d, ed, rfl⟩ := Option.map_eq_some_iff.mp hj
      refine ⟨rfl, tyesT ?_⟩
      refine ⟨T.a_AROUND, rfl, ⟨_, T.t_AROUND _⟩, turns_tup (K := K) (a := T.a_AROUND) (xs := n3.map V.int) (fun k H' => Same H H' ∧ Cells H' N (((n3.take j).flatMap fun d => n3.map fun b => (r + d, c + b)) ++ (n3.take k).map fun b => (r + d, c + b)))
        ⟨s11, by rw [List.take_zero, List.map_nil, List.append_nil]; exact hN11⟩ (fun j H' _ _ => T.t_AROUND H') ?_ ?_⟩
      · rintro k v H12 hk ⟨s12, ns, hN, hns, ens⟩
        rw [List.getElem?_map] at hk
        obtain ⟨b, eb, rfl⟩ := Option.map_eq_some_iff.mp hk
        refine ⟨rfl, tyesT ?_⟩
        refine ⟨_, rfl, _, rfl, _, _, rfl, rfl, _, rfl, _, rfl, _, _, rfl, rfl, by k_clsL, fun t2 n2 => ?_⟩
        have n2N : t2 ≠ N := fun z => by rw [z, hN] at n2; cases n2
        k_invariant "new" (n2, H13, e13, g13)
        refine ⟨_, e13 _ _ hN, ?_, mutS (s12.trans e13) nN, ns ++ [(t2, (r + d, c + b))], by rw [upd_same, List.map_append]; rfl, fun u m => ?_, ?_⟩
        · have z := congrArg List.length ens
          rw [List.length_map, List.length_append, List.length_map, flat_len3] at z
          have h1 : (n3.take j).length ≤ 3 := by rw [List.length_take]; exact Nat.min_le_right _ _
          have h2 : (n3.take k).length ≤ 3 := by rw [List.length_take]; exact Nat.min_le_right _ _
          rw [List.length_map, z, sizeLine_eq]
          omega
        · rcases List.mem_append.mp m with m | m
          · rw [upd_ne fun z => by have := hns u m; rw [z, hN] at this; cases this]
            exact e13 _ _ (hns u m)
          · rw [List.mem_singleton.mp m, upd_ne n2N]
            exact g13
        · rw [List.map_append, ens, take_nextJ eb, List.map_append, List.append_assoc]
          rfl
      · rintro H12 ⟨s12, hN12⟩
        refine ⟨s12, ?_⟩
        rw [take_nextJ ed, List.flatMap_append, List.flatMap_cons, List.flatMap_nil, List.append_nil]
        exact hN12
    · rintro H11 ⟨s11, hN11⟩
      exact q H11 N nN s11 hN11
def lvN (bs ss : List Int) (st : Bool) (k : Nat) : Bool := decide ((k : Int) ∈ if st = true then ss else bs)
def FitsN (bs ss : List Int) (wanted : Option Bool) (al un : Nat) (st : Bool) (m : Nat) : Prop := m ≤ un ∧ lvN bs ss st (al + m) = wanted.getD st
def NoFit (bs ss : List Int) (wanted middle : Option Bool) (al un : Nat) : Prop := ∀ st : Bool, (middle = none ∨ middle = some st) → ∀ m, ¬ FitsN bs ss wanted al un st m
def midL : Option Bool → List Bool
  | none => [false, true]
  | some b => [b]
theorem mem_midL {o : Option Bool} {b : Bool} : b ∈ midL o ↔ o = none ∨ o = some b := by
  cases o with
  | none => cases b <;> simp [midL]
  | some c => cases b <;> cases c <;> simp [midL]
theorem nv_getD (w : Option Bool) (st : Bool) : (if decide (nv w = V.non) = true then V.bl st else nv w) = V.bl (w.getD st) := by
  cases w <;> simp [nv]
def sp_count_ways (C : Addr) : Sp := fun vs H Q _ => ∃ (r : Addr) (wanted middle : Option Bool) (al un : Nat) (bs ss : List Int), vs = [.ref r, nv wanted, nv middle, .int (al : Int), .int (un : Int)] ∧ RuleAt C H r bs ss ∧ un ≤ 20 ∧
  ∀ (H' : Hp) (ways : Nat), Same H H' → (ways = 0 ↔ NoFit bs ss wanted middle al un) → Q (.int (ways : Int)) H'
theorem ok_count_ways (T : Txt K mg) : FnOk P w K mg base CX0 2 T.f_count_ways T.d_count_ways ["rule", "wanted", "middle", "alive", "unsaid"] (sp_count_ways T.C_Rule) := by
  refine T.F_count_ways.ok sc_count_ways (fun vs H Q E h => ?_) (fun cdv A outer s H vs Q E hr h => ?_)
  · obtain ⟨_, _, _, _, _, _, _, rfl, _⟩ := h
    rfl
  · obtain ⟨r, wanted, middle, al, un, bs, ss, rfl, hR, un9, q⟩ := h
    refine ⟨_, (pss_cons (ps_set (i := 5) sc_count_ways.nd rfl (.inl rfl) pe_int)
      (pss_cons (ps_mid (ps_set (i := 6) sc_count_ways.nd rfl (.inl rfl) (pe_ifExp (pt_cmpR op_isN (pv 2) pe_non (nomark _)) (pe_tup (pa_cons pe_bl (pa_cons pe_bl pa_nil))) (pe_tup (pa_cons (pv 2) pa_nil)))))
      (pss_cons (ps_for PassesOwn.never rfl (pi_tup (pv 6)) (pg_name (i := 7) sc_count_ways.nd rfl (.inr rfl))
      (pss_cons (ps_mid (ps_set (i := 8) sc_count_ways.nd rfl (.inr rfl) (pe_ifExp (pt_cmpR op_isN (pv 1) pe_non (nomark _)) (pv 7) (pv 1))))
      (pss_cons (ps_setLc (i := 9) (own := [("more", 10)]) (g := gName 10) rfl sc_count_ways.nd rfl rfl (sw_true rfl rfl rfl (by decide +kernel)) (pi_range1 (by rfl) T.z_range (pa_cons (pe_op op_add (pv 4) pe_int) pa_nil)) (blkOk_by (own := [("more", 10)]) (N := N_count_ways) (sc := defScope s_count_ways) (by decide +kernel)) (fun _ _ _ _ _ => pg_name (i := 10) sc_count_ways.nd rfl (Or.inl rfl)) (fun _ _ _ _ _ => pts_one (pt_cmpR op_eq (pe_meth (pv 0) T.cl_Rule T.m_Rule_lives (ok_Rule_lives T) (hr.mono (by decide)) T.b_Rule_lives .nil pass0 (pa_cons (pv 7) (pa_cons (pe_op op_add (pv 3) (pv 10)) pa_nil))) (pv 8) (nomark _))) (fun _ _ _ _ _ => (pv 10)))
      (pss_one (ps_aug (i := 5) sc_count_ways.nd rfl (.inl rfl) (pe_callB (cr_sum rfl) (by rfl) T.z_sum (by decide +kernel) (pa_cons (pe_lc (own := [("more", 10)]) (g := gName 10) (tt := tYes) rfl sc_count_ways.nd (pi_list (pv 9)) (blkOk_by (own := [("more", 10)]) (N := N_count_ways) (sc := defScope s_count_ways) (by decide +kernel)) (fun _ _ _ _ _ => pg_name (i := 10) sc_count_ways.nd rfl (Or.inl rfl)) (fun _ _ _ _ _ => pts_nil) (fun _ _ _ _ _ => (pe_callBfun cr_comb (by rfl) T.i_comb (pa_cons (pv 4) (pa_cons (pv 10) pa_nil))))) pa_nil)) ip_add)))))
      (pss_one (ps_ret (pv 5)))))), ?_⟩
    k_upd
    refine gName_go ?_
    k_upd
    refine ⟨fun σ' H' => ∃ t : Addr, σ' = [some (.ref r), some (nv wanted), some (nv middle), some (.int (al : Int)), some (.int (un : Int)), some (.int 0), some (.ref t), none, none, none, none] ∧ Same H H' ∧ H' t = some (.tup ((midL middle).map V.bl)), ?_, ?_⟩
    · cases middle with
      | none =>
        refine ⟨_, rfl, rfl, _, rfl, iteT ?_⟩
        exact ⟨by k_clsL, fun t nt => ⟨t, rfl, newS nt, upd_same⟩⟩
      | some b =>
        refine ⟨_, rfl, rfl, _, rfl, iteF ?_⟩
        exact ⟨_, rfl, by k_clsL, fun t nt => ⟨t, rfl, newS nt, upd_same⟩⟩
    rintro σ H1 ⟨t, rfl, e1, gt⟩
    refine ⟨_, rfl, t, rfl, ⟨_, tup_of gt⟩, for_tup (K := K) (a := t) (xs := (midL middle).map V.bl) (fun i σ H' => Same H H' ∧ H' t = some (.tup ((midL middle).map V.bl)) ∧ ∃ (x7 x8 x9 x10 : Option V) (ways : Nat), σ = [some (.ref r), some (nv wanted), some (nv middle), some (.int (al : Int)), some (.int (un : Int)), some (.int (ways : Int)), some (.ref t), x7, x8, x9, x10] ∧ (ways = 0 ↔ ∀ st ∈ (midL middle).take i, ∀ m, ¬ FitsN bs ss wanted al un st m))
      ⟨e1, gt, _, _, _, _, 0, rfl, ⟨fun _ st z => (by cases z), fun _ => rfl⟩⟩ (fun i σ H' _ p => tup_of p.2.1) ?_ ?_⟩
    · rintro i x σ H2 hi ⟨s2, gt2, x7, x8, x9, x10, ways, rfl, hw⟩
      rw [List.getElem?_map] at hi
      obtain ⟨st, est, rfl⟩ := Option.map_eq_some_iff.mp hi
      refine gName_go ?_
      k_upd
      refine ⟨fun σ' H' => σ' = [some (.ref r), some (nv wanted), some (nv middle), some (.int (al : Int)), some (.int (un : Int)), some (.int (ways : Int)), some (.ref t), some (.bl st), some (.bl (wanted.getD st)), x9, x10] ∧ H' = H2, ?_, ?_⟩
      · cases wanted with
        | none => exact ⟨_, rfl, rfl, _, rfl, iteT ⟨_, rfl, rfl, rfl⟩⟩
        | some b => exact ⟨_, rfl, rfl, _, rfl, iteF ⟨_, rfl, rfl, rfl⟩⟩
      rintro σ H2' ⟨rfl, rfl⟩
      obtain ⟨dx, tb, ts, i1, i2, i3⟩ := id (hR.up s2)
      refine ⟨_, rfl, _, _, rfl, rfl, _, rfl, by omega, by omega, fun D nD => lc_range (lo := 0) (n := ((un : Int) + 1).toNat) (fun i H' => Same H2' H' ∧ H' D = some (.lst (((List.range i).filter fun m => lvN bs ss st (al + m) == wanted.getD st).map fun (m : Nat) => V.int (m : Int)))) ⟨newS nD, upd_same⟩ ?_ ?_⟩
      · rintro m H3 hm ⟨s3, g3⟩
        rw [Int.zero_add]
        refine ⟨rfl, _, rfl, r, _, _, rfl, s3 _ _ i1, no_lives' _ _, _, rfl, _, rfl, _, rfl, _, _, rfl, rfl, ?_⟩
        refine ⟨r, st, (al : Int) + (m : Int), bs, ss, rfl, (hR.up s2).up s3, ?_⟩
        rw [show (al : Int) + (m : Int) = ((al + m : Nat) : Int) by omega]
        have el : decide (((al + m : Nat) : Int) ∈ if st = true then ss else bs) = lvN bs ss st (al + m) := rfl
        rw [el]
        refine ⟨_, rfl, rfl, _, rfl, ite2 (fun c => ?_) (fun c => ?_)⟩
        · have c : (lvN bs ss st (al + m) == wanted.getD st) = true := by
            have c := of_decide_eq_true c
            injection c with c
            rw [c]
            exact beq_self_eq_true _
          refine ⟨_, rfl, _, g3, ?_, mutS s3 nD, ?_⟩
          · rw [List.length_map, sizeLine_eq]
            have := List.length_filter_le (fun m => lvN bs ss st (al + m) == wanted.getD st) (List.range m)
            rw [List.length_range] at this
            omega
          · rw [upd_same, List.range_succ, List.filter_append, List.filter_cons_of_pos (p := fun m => lvN bs ss st (al + m) == wanted.getD st) c, List.map_append]
            rfl
        · have c : ¬ (lvN bs ss st (al + m) == wanted.getD st) = true := fun z => c (decide_eq_true (by rw [eq_of_beq z]))
          refine ⟨s3, ?_⟩
          rw [List.range_succ, List.filter_append, List.filter_cons_of_neg (p := fun m => lvN bs ss st (al + m) == wanted.getD st) c, List.filter_nil, List.append_nil]
          exact g3
      rintro H3 ⟨s3, g3⟩
      rw [show ((un : Int) + 1).toNat = un + 1 by omega] at g3
      obtain ⟨fs, efs⟩ : ∃ fs, fs = (List.range (un + 1)).filter fun m => lvN bs ss st (al + m) == wanted.getD st := ⟨_, rfl⟩
      rw [← efs] at g3
      have lfs : fs.length ≤ 21 := by
        rw [efs]
        have := List.length_filter_le (fun m => lvN bs ss st (al + m) == wanted.getD st) (List.range (un + 1))
        rw [List.length_range] at this
        omega
      have mfs : ∀ m, m ∈ fs ↔ FitsN bs ss wanted al un st m := fun m => by
        rw [efs, List.mem_filter, List.mem_range]
        unfold FitsN
        exact ⟨fun h => ⟨by omega, eq_of_beq h.2⟩, fun h => ⟨by omega, by rw [h.2]; exact beq_self_eq_true _⟩⟩
      k_upd
      refine ⟨_, rfl, _, rfl, D, rfl, ⟨_, lst_of g3⟩, fun D2 nD2 => lc_list (K := K) (a := D) (xs := fs.map fun (m : Nat) => V.int (m : Int)) (fun i H' => Same H3 H' ∧ ∃ cs : List Nat, H' D2 = some (.lst ((cs.map fun (c : Nat) => (c : Int)).map V.int)) ∧ cs.length = i ∧ ∀ c ∈ cs, 0 < c) ⟨newS nD2, [], upd_same, rfl, fun c z => by cases z⟩ (fun i H' _ p => lst_of (p.1 _ _ g3)) ?_ ?_⟩
      · rintro i x H4 hi ⟨s4, cs, g4, lc, pc⟩
        rw [List.getElem?_map] at hi
        obtain ⟨m, em, rfl⟩ := Option.map_eq_some_iff.mp hi
        have mm := (mfs m).mp (List.mem_of_getElem? em)
        have li := (List.getElem?_eq_some_iff.mp em).1
        refine ⟨rfl, tyesT ⟨_, rfl, _, rfl, un, m, rfl, by omega, mm.1, fun c c0 => ?_⟩⟩
        refine ⟨_, g4, ?_, mutS s4 nD2, cs ++ [c], ?_, by rw [List.length_append, lc]; rfl, fun d md => ?_⟩
        · rw [List.length_map, List.length_map, sizeLine_eq]
          omega
        · rw [upd_same, List.map_append, List.map_append]
          rfl
        · rcases List.mem_append.mp md with md | md
          · exact pc d md
          · rw [List.mem_singleton.mp md]
            exact c0
      rintro H4 ⟨s4, cs, g4, lc, pc⟩
      rw [List.length_map] at lc
      refine ⟨D2, _, rfl, lst_of g4, _, _, rfl, rfl, ?_⟩
      have es : (cs.map fun (c : Nat) => (c : Int)).sum = ((cs.sum : Nat) : Int) := by
        clear g4 lc pc
        induction cs with
        | nil => rfl
        | cons c cs ih =>
          rw [List.map_cons, List.sum_cons, List.sum_cons, ih]
          omega
      rw [es]
      have s24 := s2.trans (s3.trans s4)
      refine ⟨s24, (s3.trans s4) _ _ gt2, _, _, _, _, ways + cs.sum, rfl, ?_⟩
      have es0 : cs.sum = 0 ↔ fs = [] := by
        constructor
        · intro z
          cases cs with
          | nil => exact List.eq_nil_of_length_eq_zero lc.symm
          | cons c cs =>
            have := pc c List.mem_cons_self
            rw [List.sum_cons] at z
            omega
        · intro z
          rw [z] at lc
          rw [List.eq_nil_of_length_eq_zero lc]
          rfl
      rw [take_nextB est]
      constructor
      · intro z st' m' mm'
        rcases List.mem_append.mp m' with m' | m'
        · exact hw.mp (by omega) st' m' mm'
        · rw [List.mem_singleton.mp m']
          intro f
          have := (mfs mm').mpr f
          rw [es0.mp (by omega)] at this
          cases this
      · intro z
        have h1 := hw.mpr fun st' m' => z st' (List.mem_append.mpr (.inl m'))
        have h2 : fs = [] := List.eq_nil_iff_forall_not_mem.mpr fun m mm => z st (List.mem_append.mpr (.inr List.mem_cons_self)) m ((mfs m).mp mm)
        have h3 := es0.mpr h2
        omega
    · rintro σ H2 ⟨s2, gt2, x7, x8, x9, x10, ways, rfl, hw⟩
      rw [List.length_map, List.take_of_length_le (Nat.le_refl _)] at hw
      refine ⟨_, rfl, q H2 ways s2 (hw.trans ⟨fun h st z => h st (mem_midL.mpr z), fun h st z => h st (mem_midL.mp z)⟩)⟩
end
end My
namespace My
open PySem PySem.Spec PyProof.Rows L2 Vx
open TL
local macro_rules | `(tactic| k_invariant "new" ($n, $H:ident, $e:ident, $h:ident)) => `(tactic| (generalize hE : upd _ _ _ = $H; obtain ⟨$e:ident, $h:ident⟩ := gen_e hE $n; clear hE))
local macro_rules | `(tactic| k_places) => `(tactic| first
  | assumption
  | exact lst_of (by assumption)
  | exact tup_of (by assumption)
  | (refine getS (by assumption) ?_; k_places)
  | (refine Same.seq (by assumption) ?_; k_places)
  | (refine tupS (by assumption) ?_; k_places)
  | (refine lst_of ?_; k_places)
  | (refine tup_of ?_; k_places))
local macro_rules | `(tactic| k_subL) => `(tactic| first
  | k_places
  | solve_by_elim (maxDepth := 10) [getS, lst_of, tup_of, Same.seq, tupS])
local macro_rules | `(tactic| k_offL) => `(tactic| first
  | (show (0 : Int) < _; first | omega | decide)
  | (refine ⟨?_, ?_⟩ <;> first | omega | decide)
  | exact .inr ⟨by decide, by decide⟩
  | exact .inl ⟨by decide, by decide⟩
  | exact .inl ⟨by omega, by omega⟩
  | omega)
local macro_rules | `(tactic| k_clsL) => `(tactic| exact Nat.le_of_ble_eq_true rfl)
local macro_rules | `(tactic| k_upd) => `(tactic| simp only [L2.start, List.map_cons, List.map_nil, List.length_cons, List.length_nil, List.replicate_succ, List.replicate_zero, List.cons_append, List.nil_append, List.set_cons_zero, List.set_cons_succ])
section
variable {P : Program} {w : World} {K : PySem.W.Frag} {mg : Str → Option Value} {base : Heap}
/-- what is said of nine cells: the place fails -/
def NineF (bs ss : List Int) (wanted : Option Bool) (nine : List (Option Bool)) : Prop :=
  NoFit bs ss wanted (nine.getD 4 none) ((nine.take 4 ++ nine.drop 5).count (some true)) ((nine.take 4 ++ nine.drop 5).count none)
theorem cut4 {os : List (Option Bool)} (h : os.length = 9) : cutV (os.map nv) none (some 4) = (os.take 4).map nv := by
  rw [cutV_map]
  unfold cutT
  rw [h]
  rfl
theorem cut5 {os : List (Option Bool)} (h : os.length = 9) : cutV (os.map nv) (some 5) none = (os.drop 5).map nv := by
  rw [cutV_map]
  unfold cutT
  rw [h]
  show ((os.drop 5).take (9 - 5)).map nv = _
  rw [List.take_of_length_le (by rw [List.length_drop]; omega)]
def sp_nine_fail (C : Addr) : Sp := fun vs H Q _ => ∃ (r l : Addr) (wanted : Option Bool) (nine : List (Option Bool)) (bs ss : List Int), vs = [.ref r, nv wanted, .ref l] ∧ H l = some (.lst (nine.map nv)) ∧ nine.length = 9 ∧ RuleAt C H r bs ss ∧
  ∀ (H' : Hp) (b : Bool), Same H H' → (b = true ↔ NineF bs ss wanted nine) → Q (.bl b) H'
theorem ok_nine_fail (T : Txt K mg) : FnOk P w K mg base CX0 3 T.f_nine_fail T.d_nine_fail ["rule", "wanted", "nine"] (sp_nine_fail T.C_Rule) := by
  refine T.F_nine_fail.ok sc_nine_fail (fun vs H Q E h => ?_) (fun cdv A outer s H vs Q E hr h => ?_)
  · obtain ⟨_, _, _, _, _, _, rfl, _⟩ := h
    rfl
  · obtain ⟨r, l, wanted, nine, bs, ss, rfl, hl, l9, hR, q⟩ := h
    have hu65 : (A.deeper (envOfC (Str.ofString "nine_fail") (defScope s_nine_fail) s.heap.objs.size T.f_nine_fail cdv)).units + 65 < cLine := by
      have := hr.un
      omega
    refine ⟨_, (pss_cons (ps_set (i := 3) sc_nine_fail.nd rfl (.inl rfl) (pe_op op_cat (pe_slice sl_list (pv 2) po_none (po_some pe_int)) (pe_slice sl_list (pv 2) (po_some pe_int) po_none)))
      (pss_one (ps_ret (pe_notT (pe_call (ok_count_ways T) (hr.mono (by decide)) (by rfl) T.g_count_ways T.F_count_ways.kp T.b_count_ways .nil pass0 (pa_cons (pv 0) (pa_cons (pv 1) (pa_cons (pe_ix ix_list (pv 2) pe_int (fun _ _ => rfl)) (pa_cons (pe_bm PySem.F.plainAttrs_list PySem.F.slot_list_count PySem.F.type_list_count (mt_countO hu65) (pv 3) (pa_cons pe_bl pa_nil)) (pa_cons (pe_bm PySem.F.plainAttrs_list PySem.F.slot_list_count PySem.F.type_list_count (mt_countO hu65) (pv 3) (pa_cons pe_non pa_nil)) pa_nil)))))))))), ?_⟩
    k_upd
    refine ⟨_, rfl, _, rfl, _, _, rfl, lst_of hl, fun p1 n1 => ?_⟩
    rw [cut4 l9]
    k_invariant "new" (n1, H1, e1, g1)
    refine ⟨_, rfl, _, rfl, _, _, rfl, lst_of (e1 _ _ hl), fun p2 n2 => ?_⟩
    rw [cut5 l9]
    k_invariant "new" (n2, H2, e2, g2)
    refine ⟨p1, p2, _, _, rfl, rfl, e2 _ _ g1, g2, ?_, fun p3 n3 => ?_⟩
    · rw [List.length_map, List.length_map, List.length_take, List.length_drop, sizeLine_eq]
      omega
    rw [← List.map_append]
    k_invariant "new" (n3, H3, e3, g3)
    k_upd
    have s3 := e1.trans (e2.trans e3)
    have at4 : (nine.map nv)[4]? = some (nv (nine.getD 4 none)) := by
      rw [List.getElem?_map, List.getD_eq_getElem?_getD, List.getElem?_eq_getElem (show 4 < nine.length by omega)]
      rfl
    refine ⟨_, rfl, _, rfl, _, rfl, l, _, _, _, rfl, rfl, lst_of (s3 _ _ hl), atI_nat at4, ?_⟩
    refine ⟨_, rfl, .inl ⟨rfl, _, lst_of g3⟩, p3, some true, _, rfl, rfl, lst_of g3, ?_⟩
    refine ⟨_, rfl, .inl ⟨rfl, _, lst_of g3⟩, p3, none, _, rfl, rfl, lst_of g3, ?_⟩
    refine ⟨r, wanted, nine.getD 4 none, _, _, bs, ss, rfl, hR.up s3, ?_, fun H4 ways e4 hw => ?_⟩
    · have := List.count_le_length (a := none) (l := nine.take 4 ++ nine.drop 5)
      rw [List.length_append, List.length_take, List.length_drop] at this
      omega
    refine ⟨_, rfl, q H4 _ (s3.trans e4) ?_⟩
    show (!((ways : Int) != 0)) = true ↔ NoFit _ _ _ _ _ _
    rw [← hw]
    have : (!((ways : Int) != 0)) = decide (ways = 0) := by
      by_cases z : ways = 0
      · rw [z]
        rfl
      · have : ((ways : Int) != 0) = true := by
          rw [bne_iff_ne]
          omega
        rw [this, decide_eq_false z]
        rfl
    rw [this, decide_eq_true_iff]
end
end My
namespace My
open PySem PySem.Spec PyProof.Rows L2 Vx
open TL
local macro_rules | `(tactic| k_invariant "new" ($n, $H:ident, $e:ident, $h:ident)) => `(tactic| (generalize hE : upd _ _ _ = $H; obtain ⟨$e:ident, $h:ident⟩ := gen_e hE $n; clear hE))
local macro_rules | `(tactic| k_places) => `(tactic| first
  | assumption
  | exact lst_of (by assumption)
  | exact tup_of (by assumption)
  | (refine getS (by assumption) ?_; k_places)
  | (refine Same.seq (by assumption) ?_; k_places)
  | (refine tupS (by assumption) ?_; k_places)
  | (refine lst_of ?_; k_places)
  | (refine tup_of ?_; k_places))
local macro_rules | `(tactic| k_subL) => `(tactic| first
  | k_places
  | solve_by_elim (maxDepth := 10) [getS, lst_of, tup_of, Same.seq, tupS])
local macro_rules | `(tactic| k_offL) => `(tactic| first
  | (show (0 : Int) < _; first | omega | decide)
  | (refine ⟨?_, ?_⟩ <;> first | omega | decide)
  | exact .inr ⟨by decide, by decide⟩
  | exact .inl ⟨by decide, by decide⟩
  | exact .inl ⟨by omega, by omega⟩
  | omega)
local macro_rules | `(tactic| k_clsL) => `(tactic| exact Nat.le_of_ble_eq_true rfl)
local macro_rules | `(tactic| k_upd) => `(tactic| simp only [L2.start, List.map_cons, List.map_nil, List.length_cons, List.length_nil, List.replicate_succ, List.replicate_zero, List.cons_append, List.nil_append, List.set_cons_zero, List.set_cons_succ])
section
variable {P : Program} {w : World} {K : PySem.W.Frag} {mg : Str → Option Value} {base : Heap}
def nineOf (C : Pr → Option Bool) (r c : Int) : List (Option Bool) := (n9 r c).map C
/-! ### the law's own trial of all that may be -/
theorem lvN_congr {bs ss bs' ss' : List Int} (hb : ∀ x, x ∈ bs ↔ x ∈ bs') (hs : ∀ x, x ∈ ss ↔ x ∈ ss') (st : Bool) (k : Nat) : lvN bs ss st k = lvN bs' ss' st k := by
  unfold lvN
  refine decide_eq_decide.mpr ?_
  by_cases h : st = true
  · rw [if_pos h, if_pos h]
    exact hs _
  · rw [if_neg h, if_neg h]
    exact hb _
theorem NineF_congr {bs ss bs' ss' : List Int} (hb : ∀ x, x ∈ bs ↔ x ∈ bs') (hs : ∀ x, x ∈ ss ↔ x ∈ ss') (wanted : Option Bool) (nine : List (Option Bool)) : NineF bs ss wanted nine ↔ NineF bs' ss' wanted nine := by
  unfold NineF NoFit FitsN
  constructor
  · intro h st m k f
    rw [← lvN_congr hb hs] at f
    exact h st m k f
  · intro h st m k f
    rw [lvN_congr hb hs] at f
    exact h st m k f
def cntK (fl : List Bool) (n : Nat) : Nat → Nat
  | 0 => 0
  | k + 1 => cntK fl n k + if n.testBit k = true ∧ fl.getD k false = false then 1 else 0
def cenK (fl : List Bool) (s0 : Bool) (n : Nat) : Nat → Bool
  | 0 => s0
  | k + 1 => if n.testBit k = true ∧ fl.getD k false = true then true else cenK fl s0 n k
theorem cntK_low {fl : List Bool} {n k : Nat} : ∀ {j : Nat}, j ≤ k → cntK fl (2 ^ k + n) j = cntK fl n j
  | 0, _ => rfl
  | j + 1, h => by
    unfold cntK
    rw [cntK_low (by omega), Nat.testBit_two_pow_add_gt (by omega)]
theorem cenK_low {fl : List Bool} {s0 : Bool} {n k : Nat} : ∀ {j : Nat}, j ≤ k → cenK fl s0 (2 ^ k + n) j = cenK fl s0 n j
  | 0, _ => rfl
  | j + 1, h => by
    unfold cenK
    rw [cenK_low (by omega), Nat.testBit_two_pow_add_gt (by omega)]
theorem take_getD {fl : List Bool} {k : Nat} (h : k < fl.length) : fl.take (k + 1) = fl.take k ++ [fl.getD k false] := by
  rw [List.take_succ, List.getD_eq_getElem?_getD, List.getElem?_eq_getElem h]
  rfl
theorem cntK_le {fl : List Bool} {n : Nat} : ∀ {k : Nat}, k ≤ fl.length → cntK fl n k ≤ (fl.take k).count false
  | 0, _ => Nat.zero_le _
  | k + 1, h => by
    have ih := cntK_le (fl := fl) (n := n) (k := k) (by omega)
    unfold cntK
    rw [take_getD (by omega), List.count_append]
    by_cases c : fl.getD k false = false
    · rw [c]
      have : List.count false [false] = 1 := rfl
      split <;> omega
    · rw [if_neg fun z => c z.2]
      omega
theorem cenK_or {fl : List Bool} {s0 : Bool} {n : Nat} : ∀ {k : Nat}, k ≤ fl.length → cenK fl s0 n k = s0 ∨ (true ∈ fl ∧ cenK fl s0 n k = true)
  | 0, _ => .inl rfl
  | k + 1, h => by
    unfold cenK
    split
    · rename_i c
      refine .inr ⟨?_, rfl⟩
      rw [← c.2, List.getD_eq_getElem?_getD, List.getElem?_eq_getElem (by omega)]
      exact List.getElem_mem _
    · exact cenK_or (by omega)
theorem attain {fl : List Bool} {s0 : Bool} : ∀ {k : Nat}, k ≤ fl.length → ∀ m b, m ≤ (fl.take k).count false → (b = s0 ∨ (true ∈ fl.take k ∧ b = true)) → ∃ n, n < 2 ^ k ∧ cntK fl n k = m ∧ cenK fl s0 n k = b
  | 0, _, m, b, hm, hb => ⟨0, by decide, by
      have : m ≤ 0 := hm
      have : m = 0 := by omega
      rw [this]; rfl, by
      rcases hb with rfl | ⟨z, _⟩
      · rfl
      · cases z⟩
  | k + 1, h, m, b, hm, hb => by
    have ih := attain (fl := fl) (s0 := s0) (k := k) (by omega)
    rw [take_getD (by omega)] at hm hb
    rw [List.count_append] at hm
    have p2 : 2 ^ (k + 1) = 2 ^ k * 2 := Nat.pow_succ ..
    have lowbit : ∀ n, n < 2 ^ k → n.testBit k = false := fun n hn => Nat.testBit_lt_two_pow hn
    have hib : ∀ n, n < 2 ^ k → (2 ^ k + n).testBit k = true := fun n hn => by rw [Nat.testBit_two_pow_add_eq, lowbit n hn]; rfl
    cases c : fl.getD k false with
    | false =>
      rw [c] at hm hb
      have hb : b = s0 ∨ (true ∈ fl.take k ∧ b = true) := by
        rcases hb with e | ⟨e, f⟩
        · exact .inl e
        · refine .inr ⟨?_, f⟩
          rcases List.mem_append.mp e with e | e
          · exact e
          · cases List.mem_singleton.mp e
      have one : List.count false [false] = 1 := rfl
      by_cases g : m ≤ (fl.take k).count false
      · obtain ⟨n, hn, h1, h2⟩ := ih m b g hb
        refine ⟨n, by omega, ?_, ?_⟩
        · unfold cntK
          rw [h1, lowbit n hn, if_neg (by intro z; cases z.1)]
          rfl
        · unfold cenK
          rw [h2, lowbit n hn, if_neg (by intro z; cases z.1)]
      · obtain ⟨n, hn, h1, h2⟩ := ih (m - 1) b (by omega) hb
        refine ⟨2 ^ k + n, by omega, ?_, ?_⟩
        · unfold cntK
          rw [cntK_low (Nat.le_refl _), h1, hib n hn, c, if_pos ⟨rfl, rfl⟩]
          omega
        · unfold cenK
          rw [cenK_low (Nat.le_refl _), h2, c, if_neg (by intro z; cases z.2)]
    | true =>
      rw [c] at hm hb
      have zero : List.count false [true] = 0 := rfl
      obtain ⟨n, hn, h1, h2⟩ := ih m s0 (by omega) (.inl rfl)
      by_cases e : b = s0
      · refine ⟨n, by omega, ?_, ?_⟩
        · unfold cntK
          rw [h1, lowbit n hn, if_neg (by intro z; cases z.1)]
          rfl
        · unfold cenK
          rw [h2, lowbit n hn, if_neg (by intro z; cases z.1), e]
      · have bt : b = true := hb.elim (fun z => absurd z e) fun z => z.2
        refine ⟨2 ^ k + n, by omega, ?_, ?_⟩
        · unfold cntK
          rw [cntK_low (Nat.le_refl _), h1, c, if_neg (by intro z; cases z.2)]
          rfl
        · unfold cenK
          rw [hib n hn, c, if_pos ⟨rfl, rfl⟩, bt]
/-- what the law gathers of nine cells -/
def freeL (C : Pr → Option Bool) (P : List Pr) : List Pr := P.filter fun x => decide (C x = none)
def aliveL (C : Pr → Option Bool) (cen : Pr) (P : List Pr) : Nat := P.countP fun x => decide (x ≠ cen ∧ C x = some true)
theorem nine_split (r c : Int) : ∃ A D : List Pr, n9 r c = A ++ (r, c) :: D ∧ A.length = 4 ∧ D.length = 4 ∧ (r, c) ∉ A ∧ (r, c) ∉ D := by
  refine ⟨(n9 r c).take 4, (n9 r c).drop 5, ?_, rfl, rfl, ?_, ?_⟩
  · show [(r + -1, c + -1), (r + -1, c + 0), (r + -1, c + 1), (r + 0, c + -1), (r + 0, c + 0), (r + 0, c + 1), (r + 1, c + -1), (r + 1, c + 0), (r + 1, c + 1)] = [(r + -1, c + -1), (r + -1, c + 0), (r + -1, c + 1), (r + 0, c + -1), (r, c), (r + 0, c + 1), (r + 1, c + -1), (r + 1, c + 0), (r + 1, c + 1)]
    rw [show (r + 0 : Int) = r by omega, show (c + 0 : Int) = c by omega]
  · show (r, c) ∉ [(r + -1, c + -1), (r + -1, c + 0), (r + -1, c + 1), (r + 0, c + -1)]
    simp only [List.mem_cons, Prod.mk.injEq, List.not_mem_nil, or_false]
    omega
  · show (r, c) ∉ [(r + 0, c + 1), (r + 1, c + -1), (r + 1, c + 0), (r + 1, c + 1)]
    simp only [List.mem_cons, Prod.mk.injEq, List.not_mem_nil, or_false]
    omega
theorem count_others (C : Pr → Option Bool) {cen : Pr} : ∀ {A : List Pr}, cen ∉ A → aliveL C cen A = (A.map C).count (some true)
  | [], _ => rfl
  | x :: A, h => by
    have h1 : x ≠ cen := fun z => h (by rw [z]; exact List.mem_cons_self)
    have ih := count_others C fun z => h (List.mem_cons_of_mem (a := cen) x z)
    unfold aliveL at ih ⊢
    rw [List.countP_cons, ih, List.map_cons, List.count_cons]
    by_cases e : C x = some true
    · rw [if_pos (decide_eq_true ⟨h1, e⟩), e]
      rfl
    · rw [if_neg (by rw [decide_eq_true_iff]; exact fun z => e z.2), if_neg (by rw [beq_iff_eq]; exact e)]
theorem flags_others (C : Pr → Option Bool) {cen : Pr} : ∀ {A : List Pr}, cen ∉ A → ((freeL C A).map fun x => decide (x = cen)).count false = (A.map C).count none ∧ true ∉ ((freeL C A).map fun x => decide (x = cen))
  | [], _ => ⟨rfl, by intro z; cases z⟩
  | x :: A, h => by
    have h1 : x ≠ cen := fun z => h (by rw [z]; exact List.mem_cons_self)
    obtain ⟨i1, i2⟩ := flags_others C fun z => h (List.mem_cons_of_mem (a := cen) x z)
    unfold freeL at i1 i2 ⊢
    rw [List.map_cons, List.count_cons, List.filter_cons]
    by_cases e : C x = none
    · rw [if_pos (decide_eq_true e), List.map_cons, List.count_cons, i1, decide_eq_false h1, e]
      refine ⟨rfl, fun z => ?_⟩
      rcases List.mem_cons.mp z with z | z
      · cases z
      · exact i2 z
    · rw [if_neg (by rw [decide_eq_true_iff]; exact e), if_neg (by rw [beq_iff_eq]; exact e)]
      exact ⟨i1, i2⟩
theorem tried_nine (bs ss : List Int) (wanted : Option Bool) (C : Pr → Option Bool) (r c : Int) {fl : List Bool} (efl : fl = (freeL C (n9 r c)).map fun x => decide (x = (r, c))) :
    NineF bs ss wanted (nineOf C r c) ↔ ∀ n, n < 2 ^ fl.length → lvN bs ss (cenK fl ((C (r, c)).getD false) n fl.length) (aliveL C (r, c) (n9 r c) + cntK fl n fl.length) ≠ wanted.getD (cenK fl ((C (r, c)).getD false) n fl.length) := by
  obtain ⟨A, D, e, lA, lD, nA, nD⟩ := nine_split r c
  have hmid : (nineOf C r c).getD 4 none = C (r, c) := by
    unfold nineOf
    rw [e, List.map_append, List.getD_eq_getElem?_getD, List.getElem?_append_right (by rw [List.length_map]; omega), List.length_map, lA]
    rfl
  have hoth : (nineOf C r c).take 4 ++ (nineOf C r c).drop 5 = A.map C ++ D.map C := by
    unfold nineOf
    rw [e, List.map_append, List.map_cons, List.take_left' (by rw [List.length_map]; exact lA)]
    congr 1
    rw [show A.map C ++ C (r, c) :: D.map C = (A.map C ++ [C (r, c)]) ++ D.map C by rw [List.append_assoc]; rfl, List.drop_left' (by rw [List.length_append, List.length_map, lA]; rfl)]
  have hal : aliveL C (r, c) (n9 r c) = (A.map C ++ D.map C).count (some true) := by
    rw [List.count_append, ← count_others C nA, ← count_others C nD, e]
    unfold aliveL
    rw [List.countP_append, List.countP_cons, if_neg (by rw [decide_eq_true_iff]; exact fun z => z.1 rfl)]
    rfl
  have hfl : fl.count false = (A.map C ++ D.map C).count none ∧ (true ∈ fl ↔ C (r, c) = none) := by
    obtain ⟨a1, a2⟩ := flags_others C nA
    obtain ⟨d1, d2⟩ := flags_others C nD
    rw [efl, e]
    unfold freeL at *
    rw [List.filter_append, List.filter_cons, List.map_append, List.count_append, List.count_append, a1, List.mem_append]
    by_cases z : C (r, c) = none
    · rw [if_pos (decide_eq_true z), List.map_cons, List.count_cons, d1, decide_eq_true rfl]
      exact ⟨rfl, fun _ => z, fun _ => .inr List.mem_cons_self⟩
    · rw [if_neg (by rw [decide_eq_true_iff]; exact z), d1]
      exact ⟨rfl, fun h => (h.elim a2 d2).elim, fun h => absurd h z⟩
  unfold NineF
  rw [hmid, hoth, hal, ← hfl.1]
  have tl : fl.take fl.length = fl := List.take_of_length_le (Nat.le_refl _)
  constructor
  · intro h n hn f
    have c1 := cntK_le (fl := fl) (n := n) (k := fl.length) (Nat.le_refl _)
    rw [tl] at c1
    refine h (cenK fl ((C (r, c)).getD false) n fl.length) ?_ _ ⟨c1, f⟩
    rcases cenK_or (fl := fl) (s0 := (C (r, c)).getD false) (n := n) (k := fl.length) (Nat.le_refl _) with z | ⟨z, _⟩
    · rw [z]
      cases C (r, c) with
      | none => exact .inl rfl
      | some b => exact .inr rfl
    · exact .inl (hfl.2.mp z)
  · intro h st hm m ⟨f1, f2⟩
    obtain ⟨n, hn, h1, h2⟩ := attain (fl := fl) (s0 := (C (r, c)).getD false) (k := fl.length) (Nat.le_refl _) m st (by rw [tl]; exact f1) (by
      rw [tl, hfl.2]
      rcases hm with z | z
      · rw [z]
        cases st with
        | false => exact .inl rfl
        | true => exact .inr ⟨rfl, rfl⟩
      · rw [z]
        exact .inl rfl)
    have := h n hn
    rw [h1, h2] at this
    exact this f2
/-- the nine cells as the law goes through them -/
def gridP (r c : Int) (i : Nat) : List Pr := (List.range i).flatMap fun (a : Nat) => (List.range 3).map fun (b : Nat) => (r + (a : Int), c + (b : Int))
def partP (r c : Int) (i j : Nat) : List Pr := gridP r c i ++ (List.range j).map fun (b : Nat) => (r + (i : Int), c + (b : Int))
theorem partP_0 (r c : Int) (i : Nat) : partP r c i 0 = gridP r c i := List.append_nil _
theorem partP_s (r c : Int) (i j : Nat) : partP r c i (j + 1) = partP r c i j ++ [(r + (i : Int), c + (j : Int))] := by
  unfold partP
  rw [List.range_succ, List.map_append, List.append_assoc]
  rfl
theorem partP_3 (r c : Int) (i : Nat) : partP r c i 3 = gridP r c (i + 1) := by
  unfold partP gridP
  rw [List.range_succ (n := i), List.flatMap_append]
  congr 1
theorem gridP_3 (r c : Int) : gridP r c 3 = n9 (r + 1) (c + 1) := by
  show [(r + ((0 : Nat) : Int), c + ((0 : Nat) : Int)), (r + ((0 : Nat) : Int), c + ((1 : Nat) : Int)), (r + ((0 : Nat) : Int), c + ((2 : Nat) : Int)), (r + ((1 : Nat) : Int), c + ((0 : Nat) : Int)), (r + ((1 : Nat) : Int), c + ((1 : Nat) : Int)), (r + ((1 : Nat) : Int), c + ((2 : Nat) : Int)), (r + ((2 : Nat) : Int), c + ((0 : Nat) : Int)), (r + ((2 : Nat) : Int), c + ((1 : Nat) : Int)), (r + ((2 : Nat) : Int), c + ((2 : Nat) : Int))] = [(r + 1 + -1, c + 1 + -1), (r + 1 + -1, c + 1 + 0), (r + 1 + -1, c + 1 + 1), (r + 1 + 0, c + 1 + -1), (r + 1 + 0, c + 1 + 0), (r + 1 + 0, c + 1 + 1), (r + 1 + 1, c + 1 + -1), (r + 1 + 1, c + 1 + 0), (r + 1 + 1, c + 1 + 1)]
  simp only [List.cons.injEq, Prod.mk.injEq, and_true]
  omega
theorem partP_len (r c : Int) (i j : Nat) : (partP r c i j).length = i * 3 + j := by
  unfold partP gridP
  rw [List.length_append, List.length_map, List.length_range, List.length_flatMap]
  congr 1
  induction i with
  | zero => rfl
  | succ i ih =>
    rw [List.range_succ (n := i), List.map_append, List.sum_append, ih, Nat.succ_mul]
    rfl
theorem dp_two {K : PySem.W.Frag} {H : Hp} {p : Addr} {a b : Int} (h : H p = some (.tup [.int a, .int b])) : Dp K H (.ref p) (pd (a, b)) := .tup (tup_of h) (.cons (.int _) (.cons (.int _) .nil))
theorem freeL_app (C : Pr → Option Bool) (P : List Pr) (x : Pr) : freeL C (P ++ [x]) = if C x = none then freeL C P ++ [x] else freeL C P := by
  unfold freeL
  rw [List.filter_append, List.filter_cons]
  by_cases e : C x = none
  · rw [if_pos (decide_eq_true e), if_pos e]
    rfl
  · rw [if_neg (by rw [decide_eq_true_iff]; exact e), if_neg e]
    exact List.append_nil _
theorem aliveL_app (C : Pr → Option Bool) (cen : Pr) (P : List Pr) (x : Pr) : aliveL C cen (P ++ [x]) = aliveL C cen P + if x ≠ cen ∧ C x = some true then 1 else 0 := by
  unfold aliveL
  rw [List.countP_append, List.countP_cons]
  by_cases e : x ≠ cen ∧ C x = some true
  · rw [if_pos (decide_eq_true e), if_pos e]
    rfl
  · rw [if_neg (by rw [decide_eq_true_iff]; exact e), if_neg e]
    rfl
theorem cells_app {H : Hp} {p t : Addr} {P : List Pr} {x : Pr} (h : Cells H p P) (ht : H t = some (.tup [.int x.1, .int x.2])) : ∃ ys, H p = some (.lst ys) ∧ ys.length = P.length ∧ Cells (upd H p (.lst (ys ++ [V.ref t]))) p (P ++ [x]) := by
  obtain ⟨ns, h1, h2, h3⟩ := h
  refine ⟨_, h1, by rw [← h3, List.length_map, List.length_map], ns ++ [(t, x)], by rw [upd_same, List.map_append]; rfl, fun u m => ?_, by rw [List.map_append, h3]; rfl⟩
  rcases List.mem_append.mp m with m | m
  · rw [upd_ne fun z => by have := h2 u m; rw [z, h1] at this; cases this]
    exact h2 u m
  · rw [List.mem_singleton.mp m, upd_ne fun z => by have z : t = p := z; rw [z, h1] at ht; cases ht]
    exact ht
end
end My
namespace My
open PySem PySem.Spec PyProof.Rows L2 Vx
open TL
local macro_rules | `(tactic| k_invariant "new" ($n, $H:ident, $e:ident, $h:ident)) => `(tactic| (generalize hE : upd _ _ _ = $H; obtain ⟨$e:ident, $h:ident⟩ := gen_e hE $n; clear hE))
local macro_rules | `(tactic| k_places) => `(tactic| first
  | assumption
  | exact lst_of (by assumption)
  | exact tup_of (by assumption)
  | (refine getS (by assumption) ?_; k_places)
  | (refine Same.seq (by assumption) ?_; k_places)
  | (refine tupS (by assumption) ?_; k_places)
  | (refine lst_of ?_; k_places)
  | (refine tup_of ?_; k_places))
local macro_rules | `(tactic| k_subL) => `(tactic| first
  | k_places
  | solve_by_elim (maxDepth := 10) [getS, lst_of, tup_of, Same.seq, tupS])
local macro_rules | `(tactic| k_offL) => `(tactic| first
  | (show (0 : Int) < _; first | omega | decide)
  | (refine ⟨?_, ?_⟩ <;> first | omega | decide)
  | exact .inr ⟨by decide, by decide⟩
  | exact .inl ⟨by decide, by decide⟩
  | exact .inl ⟨by omega, by omega⟩
  | omega)
local macro_rules | `(tactic| k_clsL) => `(tactic| exact Nat.le_of_ble_eq_true rfl)
local macro_rules | `(tactic| k_upd) => `(tactic| simp only [L2.start, List.map_cons, List.map_nil, List.length_cons, List.length_nil, List.replicate_succ, List.replicate_zero, List.cons_append, List.nil_append, List.set_cons_zero, List.set_cons_succ])
section
variable {P : Program} {w : World} {K : PySem.W.Frag} {mg : Str → Option Value} {base : Heap}
theorem ok_law_cell (T : Txt K mg) : FnOk P w K mg base CX0 1 T.f_law_cell T.d_law_cell ["script", "k"] (spCell K) := by
  refine T.F_law_cell.ok sc_law_cell (fun vs H Q E h => ?_) (fun cdv A outer s H vs Q E hr h => ?_)
  · obtain ⟨l, ns, j, rfl, _⟩ := h
    rfl
  · obtain ⟨l, ns, j, rfl, hs, q⟩ := h
    refine ⟨_, (pss_cons (ps_if (pt_cmpR op_lt (pv 1) (pe_callB call_lenL (by rfl) T.z_len (by decide +kernel) (pa_cons (pv 0) pa_nil)) (nomark _))
      (pss_one (ps_ret (pe_callTy call_intI (by rfl) T.z_int (by decide +kernel) (pa_cons (pe_ix ix_list (pv 0) (pv 1) (fun _ _ => rfl)) pa_nil))))
      pss_nil)
      (pss_one (ps_ret pe_int))), ?_⟩
    refine ⟨_, rfl, _, rfl, _, _, rfl, hs, _, _, rfl, rfl, _, rfl, ite2 (fun c => ?_) (fun c => ?_)⟩
    · have hj : j < ns.length := by
        have z := of_decide_eq_true c
        rw [List.length_map] at z
        omega
      exact ⟨_, rfl, _, rfl, _, _, _, _, rfl, rfl, hs, atI_cell hj, _, rfl, q⟩
    · have hj : ¬ j < ns.length := fun z => c (decide_eq_true (by rw [List.length_map]; omega))
      rw [cell_out hj] at q
      exact q
/-! ### law_row: so many numbers from 0 to below the bound -/
def sp_law_row : Sp := fun vs H Q _ => ∃ (cell count bound : Int), vs = [.int cell, .int count, .int bound] ∧ 0 ≤ count ∧ count ≤ 100000 ∧ 0 < bound ∧ bound < 1000000000 ∧
  ∀ (H' : Hp) (p : Addr) (xs : List Int), H p = none → Same H H' → H' p = some (.lst (xs.map V.int)) → (xs.length : Int) = count → (∀ x ∈ xs, 0 ≤ x ∧ x < bound) → Q (.ref p) H'
theorem ok_law_row (T : Txt K mg) : FnOk P w K mg base CX0 1 T.f_law_row T.d_law_row ["cell", "count", "bound"] sp_law_row := by
  refine T.F_law_row.ok sc_law_row (fun vs H Q E h => ?_) (fun cdv A outer s H vs Q E hr h => ?_)
  · obtain ⟨_, _, _, rfl, _⟩ := h
    rfl
  · obtain ⟨cell, count, bound, rfl, c0, c1, b0, b1, q⟩ := h
    refine ⟨_, (pss_cons (ps_set (i := 3) sc_law_row.nd rfl (.inl rfl) (pe_callB call_abs (by rfl) T.z_abs (by decide +kernel) (pa_cons (pe_callTy call_intI (by rfl) T.z_int (by decide +kernel) (pa_cons (pv 0) pa_nil)) pa_nil)))
      (pss_cons (ps_set (i := 4) sc_law_row.nd rfl (.inl rfl) (pe_op op_add (pe_op op_mod (pe_callTy call_intI (by rfl) T.z_int (by decide +kernel) (pa_cons (pv 0) pa_nil)) pe_int) pe_int))
      (pss_cons (ps_set (i := 5) sc_law_row.nd rfl (.inl rfl) (pe_lst pa_nil))
      (pss_cons (ps_for PassesOwn.never rfl (pi_range1 (by rfl) T.z_range (pa_cons (pv 1) pa_nil)) (pg_name (i := 6) sc_law_row.nd rfl (.inl rfl))
      (pss_one (ps_if (pt_cmpR op_ge (pv 3) (pv 2) (nomark _))
      (pss_cons (ps_expr (pe_bm PySem.F.plainAttrs_list PySem.F.slot_list_append PySem.F.type_list_append mt_append (pv 5) (pa_cons (pe_op op_mod (pe_callTy call_intI (by rfl) T.z_int (by decide +kernel) (pa_cons (pv 3) pa_nil)) (pv 2)) pa_nil)))
      (pss_one (ps_set (i := 3) sc_law_row.nd rfl (.inl rfl) (pe_op op_fdiv (pv 3) (pv 2)))))
      (pss_cons (ps_set (i := 4) sc_law_row.nd rfl (.inl rfl) (pe_op op_mod (pe_callTy call_intI (by rfl) T.z_int (by decide +kernel) (pa_cons (pe_op op_add (pe_op op_add (pe_op op_mul (pv 4) pe_int) (pe_op op_mul pe_int (pv 6))) pe_int) pa_nil)) pe_int))
      (pss_one (ps_expr (pe_bm PySem.F.plainAttrs_list PySem.F.slot_list_append PySem.F.type_list_append mt_append (pv 5) (pa_cons (pe_op op_mod (pe_callTy call_intI (by rfl) T.z_int (by decide +kernel) (pa_cons (pe_op op_fdiv (pe_op op_mul (pv 4) pe_int) pe_int) pa_nil)) (pv 2)) pa_nil))))))))
      (pss_one (ps_ret (pv 5))))))), ?_⟩
    refine ⟨_, rfl, _, rfl, _, rfl, _, rfl, _, rfl, _, _, rfl, rfl, (by k_offL), _, _, rfl, rfl, Nat.zero_le _, fun p1 n1 => ?_⟩
    k_invariant "new" (n1, H1, e1, h1)
    refine ⟨_, rfl, _, rfl, by omega, by omega, for_range (lo := 0) (n := count.toNat) (fun i σ H' => ∃ (rest mixed : Int) (xs : List Int) (v : Option V), σ = [some (.int cell), some (.int count), some (.int bound), some (.int rest), some (.int mixed), some (.ref p1), v] ∧
      Same H H' ∧ H' p1 = some (.lst (xs.map V.int)) ∧ xs.length = i ∧ (∀ x ∈ xs, 0 ≤ x ∧ x < bound) ∧ 0 ≤ mixed ∧ mixed < 4294967296) ?_ ?_ ?_⟩
    · refine ⟨_, _, [], none, rfl, e1, h1, rfl, by simp, ?_, ?_⟩
      · have := Int.emod_nonneg cell (show (1000003 : Int) ≠ 0 by decide)
        omega
      · have := Int.emod_lt_of_pos cell (show (0 : Int) < 1000003 by decide)
        omega
    · rintro i σ H' hi ⟨rest, mixed, xs, v, rfl, sm, hp, hl, hx, m0, m1⟩
      refine ⟨_, rfl, _, rfl, _, _, rfl, rfl, _, rfl, ite2 (fun c => ?_) (fun c => ?_)⟩
      · refine ⟨_, rfl, .inl ⟨rfl, _, lst_of hp⟩, _, rfl, _, rfl, _, rfl, _, _, rfl, rfl, b0, _, _, _, rfl, rfl, hp, ?_, ?_⟩
        · rw [List.length_map]
          exact Nat.lt_of_lt_of_le (show xs.length < 100001 by omega) (by decide)
        · refine ⟨_, rfl, _, rfl, _, _, rfl, rfl, ⟨b0, by omega⟩, _, _, xs ++ [rest % bound], _, rfl, mutS sm n1, ?_, by simp [hl], fun x h => ?_, m0, m1⟩
          · rw [upd_same]
            simp
          · rcases List.mem_append.mp h with h | h
            · exact hx x h
            · rw [List.mem_singleton.mp h]
              exact ⟨Int.emod_nonneg _ (by omega), Int.emod_lt_of_pos _ b0⟩
      · refine ⟨_, rfl, _, _, rfl, rfl, .inr ⟨by decide, by decide⟩, _, rfl, _, _, rfl, rfl, .inl ⟨by decide, by decide⟩, _, _, rfl, rfl, _, _, rfl, rfl, _, rfl, _, _, rfl, rfl, (by k_offL), ?_⟩
        refine ⟨_, rfl, .inl ⟨rfl, _, lst_of hp⟩, _, rfl, _, _, rfl, rfl, .inr ⟨by decide, by decide⟩, _, _, rfl, rfl, ⟨by decide, by decide⟩, _, rfl, _, rfl, _, _, rfl, rfl, b0, _, _, _, rfl, rfl, hp, ?_, ?_⟩
        · rw [List.length_map]
          exact Nat.lt_of_lt_of_le (show xs.length < 100001 by omega) (by decide)
        · refine ⟨_, _, xs ++ [(mixed * 48271 + 11 * (0 + (i : Int)) + 7) % 2147483647 * 2862933555777941757 / 1024 % bound], _, rfl, mutS sm n1, ?_, by simp [hl], fun x h => ?_, Int.emod_nonneg _ (by decide), ?_⟩
          · rw [upd_same, List.map_append]
            rfl
          · rcases List.mem_append.mp h with h | h
            · exact hx x h
            · rw [List.mem_singleton.mp h]
              exact ⟨Int.emod_nonneg _ (by omega), Int.emod_lt_of_pos _ b0⟩
          · exact Int.lt_trans (Int.emod_lt_of_pos _ (by decide)) (by decide)
    · rintro σ H' ⟨rest, mixed, xs, v, rfl, sm, hp, hl, hx, _, _⟩
      exact ⟨_, rfl, q H' p1 xs n1 sm hp (by omega) hx⟩
/-! ### the law's own targets and cases -/
theorem joinL_flat : ∀ l : List (List Nat), joinL [] l = l.flatten
  | [] => rfl
  | [x] => by simp [joinL]
  | x :: y :: r => by
    show x ++ ([] ++ joinL [] (y :: r)) = _
    rw [joinL_flat (y :: r)]
    rfl
theorem tl_none : tl (Str.ofString "") = [] := by decide +kernel
theorem join_signs (cs : List Nat) : Txt.join (Str.ofString "") (cs.map fun c => (⟨#[c]⟩ : Str)) = ⟨cs.toArray⟩ := by
  have e : tl (Txt.join (Str.ofString "") (cs.map fun c => (⟨#[c]⟩ : Str))) = cs := by
    rw [join_eq, tl_join, tl_none, joinL_flat, List.map_map]
    induction cs with
    | nil => rfl
    | cons c cs ih =>
      rw [List.map_cons, List.flatten_cons, ih]
      rfl
  generalize Txt.join (Str.ofString "") (cs.map fun c => (⟨#[c]⟩ : Str)) = z at e
  obtain ⟨a⟩ := z
  have e : a.toList = cs := e
  rw [← e]
theorem signs_sum (cs : List Nat) : ((cs.map fun c => (⟨#[c]⟩ : Str)).map (·.length)).sum + (cs.map fun c => (⟨#[c]⟩ : Str)).length * (Str.ofString "").length = cs.length := by
  rw [show (Str.ofString "").length = 0 by decide +kernel, Nat.mul_zero, Nat.add_zero]
  induction cs with
  | nil => rfl
  | cons c cs ih =>
    rw [List.map_cons, List.map_cons, List.sum_cons, ih, List.length_cons]
    show 1 + cs.length = cs.length + 1
    omega
theorem cut_ints (xs : List Int) (a b : Nat) (h : a + b ≤ xs.length) : cutV (xs.map V.int) (some (a : Int)) (some ((a : Int) + (b : Int))) = ((xs.drop a).take b).map V.int := by
  rw [cutV_map]
  unfold cutT
  rw [show (a : Int) + (b : Int) = ((a + b : Nat) : Int) by omega, HT.sIx_nat, HT.sIx_nat, Nat.min_eq_left (by omega), Nat.min_eq_left (by omega), Nat.add_sub_cancel_left]
theorem dotO_at {y : Int} (h0 : 0 ≤ y) (h1 : y < 2) : atI (Str.ofString ".O").cps.toList y = some (sgn (some (decide (y = 1)))) := by
  have : y = 0 ∨ y = 1 := by omega
  rcases this with rfl | rfl <;> decide +kernel
theorem replL_one {z : Nat} : ∀ l : List Nat, StrLaws.replL [63] [z] l = l.map fun c => if c = 63 then z else c
  | [] => StrLaws.replL_nil
  | c :: l => by
    by_cases e : c = 63
    · rw [e, StrLaws.replL_hit (by intro h; cases h) rfl, List.map_cons, if_pos rfl]
      show [z] ++ StrLaws.replL [63] [z] l = _
      rw [replL_one l]
      rfl
    · rw [StrLaws.replL_miss (by intro h; injection h with h; exact e h), replL_one l, List.map_cons, if_neg e]
theorem replace_row (w : Nat) (f : Nat → Option Bool) (b : Bool) : Txt.replace (rowW w f) (Str.ofString "?") ⟨#[sgn (some b)]⟩ = rowW w fun c => some ((f c).getD b) := by
  have h := StrLaws.replace_list (x := rowW w f) (y := Str.ofString "?") (z := ⟨#[sgn (some b)]⟩) (by decide +kernel)
  rw [show (Str.ofString "?").cps.toList = [63] by decide +kernel] at h
  have e : (rowW w f).cps.toList = (List.range w).map fun c => sgn (f c) := rfl
  rw [e, replL_one, List.map_map] at h
  have h2 : (Txt.replace (rowW w f) (Str.ofString "?") ⟨#[sgn (some b)]⟩).cps.toList = (rowW w fun c => some ((f c).getD b)).cps.toList := by
    rw [h]
    show _ = (List.range w).map fun c => sgn (some ((f c).getD b))
    refine List.map_congr_left fun c _ => ?_
    show (if sgn (f c) = 63 then sgn (some b) else sgn (f c)) = _
    cases f c with
    | none => rfl
    | some a => cases a <;> rfl
  generalize Txt.replace (rowW w f) (Str.ofString "?") ⟨#[sgn (some b)]⟩ = z at h2
  obtain ⟨⟨l⟩⟩ := z
  have h2 : l = (rowW w fun c => some ((f c).getD b)).cps.toList := h2
  rw [h2]
def dr8 (y : Int) : Option Bool := if y < 6 then none else some (decide (y = 7))
theorem dr8_at {y : Int} (h0 : 0 ≤ y) (h1 : y < 8) : atI (Str.ofString "??????.O").cps.toList y = some (sgn (dr8 y)) := by
  have : y = 0 ∨ y = 1 ∨ y = 2 ∨ y = 3 ∨ y = 4 ∨ y = 5 ∨ y = 6 ∨ y = 7 := by omega
  rcases this with rfl | rfl | rfl | rfl | rfl | rfl | rfl | rfl <;> decide +kernel
def sp_law_wishes : Sp := fun vs H Q _ => ∃ (cell most : Int), vs = [.int cell, .int most] ∧ 1 ≤ most ∧ most ≤ 6 ∧
  ∀ (H' : Hp) (l : Addr) (h w : Nat) (B : Nat → Nat → Option Bool), H l = none → Same H H' → PicAt H' l h w B → 1 ≤ h → (h : Int) ≤ most → 1 ≤ w → (w : Int) ≤ most → Q (.ref l) H'
theorem ok_law_wishes (T : Txt K mg) : FnOk P w K mg base CX0 2 T.f_law_wishes T.d_law_wishes ["cell", "most"] sp_law_wishes := by
  refine T.F_law_wishes.ok sc_law_wishes (fun vs H Q E h => ?_) (fun cdv A outer s H vs Q E hr h => ?_)
  · obtain ⟨_, _, rfl, _⟩ := h
    rfl
  · obtain ⟨cell, most, rfl, m1, m6, q⟩ := h
    refine ⟨_, (pss_cons (ps_set (i := 2) sc_law_wishes.nd rfl (.inr rfl) (pe_callB call_abs (by rfl) T.z_abs (by decide +kernel) (pa_cons (pe_callTy call_intI (by rfl) T.z_int (by decide +kernel) (pa_cons (pv 0) pa_nil)) pa_nil))) (pss_consT (ps1_set (i := 3) sc_law_wishes.nd rfl (.inl rfl) (pe1_op op_add (pe_op op_mod (pv 2) (pv 1)))) (psst_cons (PST.of (ps_set (i := 4) sc_law_wishes.nd rfl (.inl rfl) (pe_op op_add pe_int (pe_op op_mod (pe_op op_fdiv (pv 2) (pv 1)) (pv 1))))) (psst_cons (PST.of (ps_set (i := 5) sc_law_wishes.nd rfl (.inl rfl) (pe_lst pa_nil))) (psst_cons (PST.of (ps_set (i := 6) sc_law_wishes.nd rfl (.inl rfl) (pe_call (ok_law_row T) (hr.mono (by decide)) (by rfl) T.g_law_row T.F_law_row.kp T.b_law_row .nil pass0 (pa_cons (pe_op op_fdiv (pv 2) (pe_op op_mul (pv 1) (pv 1))) (pa_cons (pe_op op_mul (pv 3) (pv 4)) (pa_cons pe_int pa_nil)))))) (psst_cons (PST.of (ps_for PassesOwn.never rfl (pi_range1 (by rfl) T.z_range (pa_cons (pv 3) pa_nil)) (pg_name (i := 7) sc_law_wishes.nd rfl (.inl rfl))       (pss_one (ps_expr (pe_bm PySem.F.plainAttrs_list PySem.F.slot_list_append PySem.F.type_list_append mt_append (pv 5) (pa_cons (pe_join pe_str (pe_lc (own := [("y", 8)]) (g := gName 8) (tt := tYes) rfl sc_law_wishes.nd (pi_list (pe_slice sl_list (pv 6) (po_some (pe_op op_mul (pv 7) (pv 4))) (po_some (pe_op op_add (pe_op op_mul (pv 7) (pv 4)) (pv 4))))) (blkOk_by (own := [("y", 8)]) (N := N_law_wishes) (sc := defScope s_law_wishes) (by decide +kernel)) (fun _ _ _ _ _ => pg_name (i := 8) sc_law_wishes.nd rfl (Or.inl rfl)) (fun _ _ _ _ _ => pts_nil) (fun _ _ _ _ _ => (pe_ix ix_str pe_str (pe_op op_mod (pv 8) pe_int) (fun _ _ => rfl))))) pa_nil)))))) (psst_cons (CwR.pst_if (pt_cmpR op_eq (pe_op op_mod (pe_op op_fdiv (pv 2) pe_int) pe_int) pe_int (nomark _)) (CwR.psst_one (pst_setLc (i := 5) (own := [("string", 9)]) (g := gName 9) (tt := tYes) rfl sc_law_wishes.nd rfl rfl (sw_true rfl rfl rfl (by decide +kernel)) (pi_list (pv 5)) (blkOk_by (own := [("string", 9)]) (N := N_law_wishes) (sc := defScope s_law_wishes) (by decide +kernel)) (fun _ _ _ _ _ => pg_name (i := 9) sc_law_wishes.nd rfl (Or.inl rfl)) (fun _ _ _ _ _ => pts_nil) (fun _ _ _ _ _ => (pet_replS (pv 9) (pe_op op_mod (pe_op op_fdiv (pv 2) pe_int) pe_int) (fun _ _ => rfl))))) CwR.psst_nil) (CwR.psst_one (PST.of (ps_ret (pv 5))))))))))), ?_⟩
    k_upd
    refine ⟨_, rfl, _, rfl, _, rfl, ?_⟩
    generalize (if cell < 0 then -cell else cell) = x
    k_upd
    have h0 := Int.emod_nonneg x (show most ≠ 0 by omega)
    have h1 := Int.emod_lt_of_pos x (show 0 < most by omega)
    obtain ⟨h, eh⟩ := Int.eq_ofNat_of_zero_le (show 0 ≤ 1 + x % most by omega)
    refine ⟨_, rfl, _, rfl, _, _, rfl, rfl, (by show (0 : Int) < _; omega), _, _, rfl, rfl, ?_⟩
    dsimp only
    rw [eh]
    refine gName_go ?_
    k_upd
    have w0 := Int.emod_nonneg (x / most) (show most ≠ 0 by omega)
    have w1 := Int.emod_lt_of_pos (x / most) (show 0 < most by omega)
    obtain ⟨wd, ew⟩ := Int.eq_ofNat_of_zero_le (show 0 ≤ 1 + x / most % most by omega)
    refine ⟨_, rfl, _, rfl, _, _, rfl, rfl, ⟨by omega, by omega⟩, _, rfl, _, _, rfl, rfl, (by show (0 : Int) < _; omega), _, _, rfl, rfl, ?_⟩
    dsimp only
    rw [ew]
    refine gName_go ?_
    k_upd
    refine ⟨by k_clsL, fun sl nsl => ?_⟩
    k_invariant "new" (nsl, H1, e1, g1)
    k_upd
    have hw36 : h * wd ≤ 6 * 6 := Nat.mul_le_mul (by omega) (by omega)
    have mm : most * most ≤ 6 * 6 := Int.mul_le_mul m6 m6 (by omega) (by decide)
    have mp : 0 < most * most := Int.mul_pos (by omega) (by omega)
    refine ⟨_, rfl, _, rfl, _, rfl, _, _, rfl, rfl, .inl ⟨by omega, by omega⟩, _, _, rfl, rfl, ⟨mp, by omega⟩, _, rfl, _, rfl, _, _, rfl, rfl, .inl ⟨by omega, by omega⟩, ?_⟩
    have ehw : (h : Int) * (wd : Int) = ((h * wd : Nat) : Int) := rfl
    refine ⟨_, _, _, rfl, by omega, by omega, by decide, by decide, fun H2 p2 xs n2 e2 g2 l2 m2 => ?_⟩
    have l2 : xs.length = h * wd := by omega
    k_upd
    have np : p2 ≠ sl := fun z => by rw [z, g1] at n2; cases n2
    obtain ⟨B, eB⟩ : ∃ B : Nat → Nat → Option Bool, B = fun r c => dr8 (xs.getD (r * wd + c) 0 % 8) := ⟨_, rfl⟩
    refine ⟨_, rfl, _, rfl, by omega, by omega, for_range (lo := 0) (n := ((h : Int)).toNat) (fun i σ H' => Same H H' ∧ H' p2 = some (.lst (xs.map V.int)) ∧ (∃ x7 x8 : Option V, σ = [some (.int cell), some (.int most), some (.int x), some (.int (h : Int)), some (.int (wd : Int)), some (.ref sl), some (.ref p2), x7, x8, none]) ∧ H' sl = some (.lst ((List.range i).map fun r => V.str (rowW wd (B r)))))
      ⟨e1.trans e2, g2, ⟨_, _, rfl⟩, e2 _ _ g1⟩ ?_ ?_⟩
    · rintro i σ H3 hi ⟨s3, g3, ⟨x7, x8, rfl⟩, gs⟩
      have hi : i < h := by omega
      refine gName_go ?_
      rw [Int.zero_add]
      k_upd
      refine ⟨_, rfl, .inl ⟨rfl, _, lst_of gs⟩, ?_⟩
      refine ⟨⟨_, rfl⟩, _, rfl, _, rfl, _, rfl, _, _, rfl, rfl, .inl ⟨by omega, by omega⟩, _, rfl, _, rfl, _, rfl, _, _, rfl, rfl, .inl ⟨by omega, by omega⟩, _, rfl, _, _, rfl, rfl, _, rfl, _, _, rfl, lst_of g3, fun p4 n4 => ?_⟩
      have ei : (i : Int) * (wd : Int) = ((i * wd : Nat) : Int) := rfl
      have fit : i * wd + wd ≤ xs.length := by
        have := Nat.mul_le_mul_right wd (show i + 1 ≤ h from hi)
        rw [Nat.succ_mul] at this
        omega
      rw [ei, cut_ints xs (i * wd) wd fit]
      k_invariant "new" (n4, H4, e4, g4)
      obtain ⟨ys, eys⟩ : ∃ ys, ys = (xs.drop (i * wd)).take wd := ⟨_, rfl⟩
      rw [← eys] at g4
      have lys : ys.length = wd := by
        rw [eys, List.length_take, List.length_drop]
        omega
      have aty : ∀ c, c < wd → ys[c]? = some (xs.getD (i * wd + c) 0) := fun c hc => by
        rw [eys, List.getElem?_take_of_lt hc, List.getElem?_drop, List.getD_eq_getElem?_getD, List.getElem?_eq_getElem (by omega)]
        rfl
      refine ⟨p4, rfl, ⟨_, lst_of g4⟩, fun D nD => lc_list (K := K) (a := p4) (xs := ys.map V.int) (fun c H' => Same H4 H' ∧ H' D = some (.lst ((((List.range c).map fun c => sgn (B i c)).map fun c => (⟨#[c]⟩ : Str)).map V.str))) ⟨newS nD, upd_same⟩ (fun i H' _ p => lst_of (p.1 _ _ g4)) ?_ ?_⟩
      · rintro c x H5 hc ⟨s5, g5⟩
        have lc : c < wd := by
          have := (List.getElem?_eq_some_iff.mp hc).1
          rw [List.length_map, lys] at this
          exact this
        rw [List.getElem?_map, aty c lc] at hc
        obtain rfl := Option.some.inj hc
        have y0 := Int.emod_nonneg (xs.getD (i * wd + c) 0) (show (8 : Int) ≠ 0 by decide)
        have y1 := Int.emod_lt_of_pos (xs.getD (i * wd + c) 0) (show (0 : Int) < 8 by decide)
        refine ⟨rfl, tyesT ⟨_, rfl, _, _, rfl, rfl, (by k_offL), _, _, _, rfl, rfl, by decide +kernel, dr8_at y0 y1, ?_⟩⟩
        refine ⟨_, g5, ?_, mutS s5 nD, ?_⟩
        · rw [List.length_map, List.length_map, List.length_map, List.length_range, sizeLine_eq]
          omega
        · rw [upd_same, List.range_succ, List.map_append, List.map_append, List.map_append, eB]
          rfl
      rintro H5 ⟨s5, g5⟩
      rw [List.length_map, lys] at g5
      refine ⟨_, D, _, rfl, rfl, .inl (lst_of g5), ?_, ?_⟩
      · rw [signs_sum, List.length_map, List.length_range]
        omega
      rw [join_signs]
      have s35 := e4.trans s5
      refine ⟨sl, _, _, rfl, rfl, s35 _ _ gs, by rw [List.length_map, List.length_range, sizeLine_eq]; omega, mutS (s3.trans s35) nsl, by rw [upd_ne np]; exact s35 _ _ g3, ⟨_, _, rfl⟩, ?_⟩
      rw [upd_same, List.range_succ, List.map_append]
      rfl
    · rintro σ H3 ⟨s3, g3, ⟨x7, x8, rfl⟩, gs⟩
      have gs : PicAt H3 sl h wd B := gs
      refine ⟨_, rfl, _, _, rfl, rfl, ⟨by decide, by decide⟩, _, _, rfl, rfl, (by show (0 : Int) < _; omega), rfl, _, rfl, ite2 (fun c => ?_) (fun c => ?_)⟩
      · obtain ⟨b, eb⟩ : ∃ b : Bool, b = decide (x / 35 % 2 = 1) := ⟨_, rfl⟩
        have y0 := Int.emod_nonneg (x / 35) (show (2 : Int) ≠ 0 by decide)
        have y1 := Int.emod_lt_of_pos (x / 35) (show (0 : Int) < 2 by decide)
        have b36 : wd ≤ 6 := by omega
        refine ⟨_, rfl, sl, rfl, ⟨_, lst_of gs⟩, fun D nD => lc_list (K := K) (a := sl) (xs := (List.range h).map fun r => V.str (rowW wd (B r))) (fun i H' => Same H3 H' ∧ H' D = some (.lst ((List.range i).map fun r => V.str (rowW wd fun c => some ((B r c).getD b))))) ⟨newS nD, upd_same⟩ (fun i H' _ p => lst_of (p.1 _ _ gs)) ?_ ?_⟩
        · rintro i v H4 hi ⟨s4, g4⟩
          have li : i < h := by
            have := (List.getElem?_eq_some_iff.mp hi).1
            rw [List.length_map, List.length_range] at this
            exact this
          rw [pic_at li] at hi
          obtain rfl := Option.some.inj hi
          refine ⟨rfl, tyesT ⟨_, rfl, _, rfl, _, rfl, _, _, rfl, rfl, ⟨by decide, by decide⟩, _, _, rfl, rfl, (by show (0 : Int) < _; omega), _, _, rfl, by decide +kernel, dotO_at y0 y1, ?_, by rw [rowW_len]; omega, ?_⟩⟩
          · rw [← eb]
            cases b <;> decide +kernel
          rw [← eb, replace_row]
          refine ⟨_, g4, by rw [List.length_map, List.length_range, sizeLine_eq]; omega, mutS s4 nD, ?_⟩
          rw [upd_same, List.range_succ, List.map_append]
          rfl
        rintro H4 ⟨s4, g4⟩
        rw [List.length_map, List.length_range] at g4
        refine gName_go ?_
        k_upd
        exact ⟨_, rfl, q H4 D h wd (fun r c => some ((B r c).getD b)) (backS s3 nD) (s3.trans s4) g4 (by omega) (by omega) (by omega) (by omega)⟩
      · exact ⟨_, rfl, q H3 sl h wd B nsl s3 gs (by omega) (by omega) (by omega) (by omega)⟩
/-- what is told of a cell, as the law counts -/
def sI : Option Bool → Int
  | none => -1
  | some false => 0
  | some true => 1
def S24 (h w : Nat) (A : Nat → Nat → Option Bool) (C : Pr → Option Bool) (x : Pr) : Option Bool := if 0 ≤ x.1 ∧ x.1 < (h : Int) ∧ 0 ≤ x.2 ∧ x.2 < (w : Int) then (A x.1.toNat x.2.toNat).or (C x) else some false
theorem occ_sign (o : Option Bool) : Builtin.Str.occurrences (Str.ofString "?.O") ⟨#[sgn o]⟩ 0 (Str.ofString "?.O").length 1 = [(sI o + 1).toNat] := by
  match o with
  | none => decide +kernel
  | some false => decide +kernel
  | some true => decide +kernel
theorem sI_at (o : Option Bool) : atI [V.int (-1), .int 0, .int 1] (((sI o + 1).toNat : Nat) : Int) = some (.int (sI o)) := by
  match o with
  | none => rfl
  | some false => rfl
  | some true => rfl
def sp_law_said : Sp := fun vs H Q _ => ∃ (l d : Addr) (h w : Nat) (r c : Int) (A : Nat → Nat → Option Bool) (C : Pr → Option Bool), vs = [.ref l, .ref d, .int r, .int c] ∧ PicAt H l h w A ∧ 1 ≤ h ∧ h ≤ 1000 ∧ w ≤ 1000 ∧ CaseAt H d C ∧ (∀ x, C x ≠ none → A x.1.toNat x.2.toNat = none) ∧
  ∀ (H' : Hp), Same H H' → Q (.int (sI (S24 h w A C (r, c)))) H'
theorem ok_law_said (T : Txt K mg) : FnOk P w K mg base CX0 2 T.f_law_said T.d_law_said ["wishes", "case", "r", "c"] sp_law_said := by
  refine T.F_law_said.ok sc_law_said (fun vs H Q E h => ?_) (fun cdv A outer s H vs Q E hr h => ?_)
  · obtain ⟨_, _, _, _, _, _, _, _, rfl, _⟩ := h
    rfl
  · obtain ⟨l, d, h, wd, r, c, A2, C, rfl, hl, h1, lh, lw, hC, hAC, q⟩ := h
    have hu : (A.deeper (envOfC (Str.ofString "_law_said") (defScope s_law_said) s.heap.objs.size T.f_law_said cdv)).units + 1 < cLine := by
      have := hr.units
      omega
    refine ⟨_, (pss_cons (ps_if (PW.pt (pw_or (pt_cmpR op_lt (pv 2) pe_int (nomark _)) (pw_or (pt_cmpR op_lt (pv 3) pe_int (nomark _)) (pw_or (pt_cmpR op_ge (pv 2) (pe_callB call_lenL (by rfl) T.z_len (by decide +kernel) (pa_cons (pv 0) pa_nil)) (nomark _)) (pw_or1 (pt_cmpR op_ge (pv 3) (pe_callB call_len_str (by rfl) T.z_len (by decide +kernel) (pa_cons (pe_ix ix_list (pv 0) pe_int (fun _ _ => rfl)) pa_nil)) (nomark _)))))))
      (pss_one (ps_ret pe_int))
      pss_nil)
      (pss_cons (ps_if (pt_cmp (pc_din hu (pe_tup (pa_cons (pv 2) (pa_cons (pv 3) pa_nil))) (pv 1)))
      (pss_one (ps_ret (pe_callTy call_intB (by rfl) T.z_int (by decide +kernel) (pa_cons (pe_dget hu (pv 1) (pe_tup (pa_cons (pv 2) (pa_cons (pv 3) pa_nil))) (fun _ _ => rfl)) pa_nil))))
      pss_nil)
      (pss_one (ps_ret (pe_ix ix_list (pe_lst (pa_cons (pe_un un_neg pe_int) (pa_cons pe_int (pa_cons pe_int pa_nil)))) (pe_m1 PySem.F.slot_str_index PySem.F.type_str_index mt_sindex pe_str (pe_ix ix_str (pe_ix ix_list (pv 0) (pv 2) (fun _ _ => rfl)) (pv 3) (fun _ _ => rfl))) (fun _ _ => rfl)))))), ?_⟩
    have off : ¬ (0 ≤ r ∧ r < (h : Int) ∧ 0 ≤ c ∧ c < (wd : Int)) → ∀ H', Same H H' → Q (.int 0) H' := fun n H' e => by
      have := q H' e
      unfold S24 at this
      rw [if_neg n] at this
      exact this
    refine ⟨_, rfl, _, _, rfl, rfl, _, rfl, ite2 (fun z => ?_) (fun z1 => ?_)⟩
    · have z := of_decide_eq_true z
      exact off (by omega) _ (Same.refl _)
    have z1 : ¬ r < 0 := by simpa using z1
    refine ⟨_, rfl, _, _, rfl, rfl, _, rfl, ite2 (fun z => ?_) (fun z2 => ?_)⟩
    · have z := of_decide_eq_true z
      exact off (by omega) _ (Same.refl _)
    have z2 : ¬ c < 0 := by simpa using z2
    refine ⟨_, rfl, _, rfl, l, _, rfl, lst_of hl, ?_⟩
    rw [List.length_map, List.length_range]
    refine ⟨_, _, rfl, rfl, _, rfl, ite2 (fun z => ?_) (fun z3 => ?_)⟩
    · have z := of_decide_eq_true z
      exact off (by omega) _ (Same.refl _)
    have z3 : ¬ (h : Int) ≤ r := by simpa using z3
    refine ⟨_, rfl, _, rfl, l, _, _, _, rfl, rfl, lst_of hl, atI_nat (pic_at (r := 0) h1), _, rfl, by rw [rowW_len, sizeLine_eq]; omega, ?_⟩
    rw [rowW_len]
    refine ⟨_, _, rfl, rfl, _, rfl, ite2 (fun z => ?_) (fun z4 => ?_)⟩
    · have z := of_decide_eq_true z
      exact off (by omega) _ (Same.refl _)
    have z4 : ¬ (wd : Int) ≤ c := by simpa using z4
    have q : ∀ (H' : Hp), Same H H' → Q (.int (sI ((A2 r.toNat c.toNat).or (C (r, c))))) H' := fun H' e => by
      have := q H' e
      unfold S24 at this
      rw [if_pos (by dsimp only; omega)] at this
      exact this
    clear off
    refine ⟨_, rfl, _, rfl, by k_clsL, fun t nt => ?_⟩
    k_invariant "new" (nt, H1, e1, g1)
    refine ⟨_, rfl, d, _, rfl, (hC.up e1).get (x := (r, c)) g1, _, rfl, ?_⟩
    have hx := hAC (r, c)
    cases eC : C (r, c) with
    | some b =>
      refine iteT ?_
      rw [eC, hx (by rw [eC]; intro z; cases z)] at q
      refine ⟨_, rfl, _, rfl, _, rfl, by k_clsL, fun t2 n2 => ?_⟩
      k_invariant "new" (n2, H2, e2, g2)
      have hg := (hC.up (e1.trans e2)).get (x := (r, c)) g2
      rw [eC] at hg
      refine ⟨d, _, rfl, hg, _, rfl, ?_⟩
      have := q H2 (e1.trans e2)
      cases b with
      | true => exact this
      | false => exact this
    | none =>
      refine iteF ?_
      rw [eC] at q
      obtain ⟨rn, rfl⟩ := Int.eq_ofNat_of_zero_le (show 0 ≤ r by omega)
      obtain ⟨cn, rfl⟩ := Int.eq_ofNat_of_zero_le (show 0 ≤ c by omega)
      refine ⟨_, rfl, by k_clsL, fun L nL => ?_⟩
      k_invariant "new" (nL, H2, e2, g2)
      refine ⟨⟨_, rfl⟩, _, rfl, _, rfl, l, _, _, _, rfl, rfl, lst_of ((e1.trans e2) _ _ hl), atI_nat (pic_at (r := rn) (by omega)), _, rfl, _, _, _, rfl, rfl, by rw [rowW_len, sizeLine_eq]; omega, rowW_atI (c := cn) _ (by omega), _, _, _, _, rfl, rfl, occ_sign _, ?_⟩
      refine ⟨L, _, _, _, rfl, rfl, lst_of g2, sI_at _, ?_⟩
      have := q H2 (e1.trans e2)
      rw [Option.or_none, Int.toNat_natCast, Int.toNat_natCast] at this
      exact this
end
end My
namespace My
open PySem PySem.Spec PyProof.Rows L2 Vx
open TL
local macro_rules | `(tactic| k_invariant "new" ($n, $H:ident, $e:ident, $h:ident)) => `(tactic| (generalize hE : upd _ _ _ = $H; obtain ⟨$e:ident, $h:ident⟩ := gen_e hE $n; clear hE))
local macro_rules | `(tactic| k_places) => `(tactic| first
  | assumption
  | exact lst_of (by assumption)
  | exact tup_of (by assumption)
  | (refine getS (by assumption) ?_; k_places)
  | (refine Same.seq (by assumption) ?_; k_places)
  | (refine tupS (by assumption) ?_; k_places)
  | (refine lst_of ?_; k_places)
  | (refine tup_of ?_; k_places))
local macro_rules | `(tactic| k_subL) => `(tactic| first
  | k_places
  | solve_by_elim (maxDepth := 10) [getS, lst_of, tup_of, Same.seq, tupS])
local macro_rules | `(tactic| k_offL) => `(tactic| first
  | (show (0 : Int) < _; first | omega | decide)
  | (refine ⟨?_, ?_⟩ <;> first | omega | decide)
  | exact .inr ⟨by decide, by decide⟩
  | exact .inl ⟨by decide, by decide⟩
  | exact .inl ⟨by omega, by omega⟩
  | omega)
local macro_rules | `(tactic| k_clsL) => `(tactic| exact Nat.le_of_ble_eq_true rfl)
local macro_rules | `(tactic| k_upd) => `(tactic| simp only [L2.start, List.map_cons, List.map_nil, List.length_cons, List.length_nil, List.replicate_succ, List.replicate_zero, List.cons_append, List.nil_append, List.set_cons_zero, List.set_cons_succ])
section
variable {P : Program} {w : World} {K : PySem.W.Frag} {mg : Str → Option Value} {base : Heap}
def bI (b : Bool) : Int := if b = true then 1 else 0
theorem sI_m1 (o : Option Bool) : decide (V.int (sI o) = V.int (-1)) = o.isNone := by
  match o with
  | none => exact decide_eq_true rfl
  | some false => exact decide_eq_false (by intro z; injection z with z; exact absurd z (by decide))
  | some true => exact decide_eq_false (by intro z; injection z with z; exact absurd z (by decide))
theorem sI_max (o : Option Bool) : (if sI o > 0 then sI o else 0) = bI (o.getD false) := by
  match o with
  | none => rfl
  | some false => rfl
  | some true => rfl
theorem sI_some (b : Bool) : sI (some b) = bI b := by cases b <;> rfl
def sp_law_tried : Sp := fun vs H Q _ => ∃ (l pb ps d : Addr) (h w : Nat) (r c : Int) (A : Nat → Nat → Option Bool) (C : Pr → Option Bool) (bs ss : List Int), vs = [.ref l, .ref pb, .ref ps, .ref d, .int r, .int c] ∧ PicAt H l h w A ∧ 1 ≤ h ∧ h ≤ 1000 ∧ w ≤ 1000 ∧ CaseAt H d C ∧ (∀ x, C x ≠ none → A x.1.toNat x.2.toNat = none) ∧ -5 ≤ r ∧ r < 1000 ∧ -5 ≤ c ∧ c < 1000 ∧ H pb = some (.lst (bs.map V.int)) ∧ H ps = some (.lst (ss.map V.int)) ∧
  ∀ (H' : Hp) (b : Bool), Same H H' → (b = true ↔ NineF bs ss none (nineOf (S24 h w A C) r c)) → Q (.bl b) H'
theorem ok_law_tried (T : Txt K mg) : FnOk P w K mg base CX0 3 T.f_law_tried T.d_law_tried ["wishes", "births", "survival", "case", "r", "c"] sp_law_tried := by
  refine T.F_law_tried.ok sc_law_tried (fun vs H Q E h => ?_) (fun cdv A outer s H vs Q E hr h => ?_)
  · obtain ⟨_, _, _, _, _, _, _, _, _, _, _, _, rfl, _⟩ := h
    rfl
  · obtain ⟨l, pb, ps, d, h, wd, r, c, A2, C, bs, ss, rfl, hl, h1, lh, lw, hC, hAC, r0, r1, c0, c1, hb, hs, q⟩ := h
    have hu : (A.deeper (envOfC (Str.ofString "_law_tried") (defScope s_law_tried) s.heap.objs.size T.f_law_tried cdv)).units + 1 < cLine := by
      have := hr.units
      omega
    refine ⟨_, (pss_cons (ps_set (i := 6) sc_law_tried.nd rfl (.inl rfl) (pe_lst pa_nil))
      (pss_cons (ps_set (i := 7) sc_law_tried.nd rfl (.inl rfl) pe_int)
      (pss_cons (ps_set (i := 8) sc_law_tried.nd rfl (.inl rfl) (pe_call (ok_law_said T) (hr.mono (by decide)) (by rfl) T.g_law_said T.F_law_said.kp T.b_law_said .nil pass0 (pa_cons (pv 0) (pa_cons (pv 3) (pa_cons (pv 4) (pa_cons (pv 5) pa_nil))))))
      (pss_cons (ps_for PassesOwn.never rfl (pi_range2 (by rfl) T.z_range (pa_cons (pe_op op_sub (pv 4) pe_int) (pa_cons (pe_op op_add (pv 4) pe_int) pa_nil))) (pg_name (i := 9) sc_law_tried.nd rfl (.inl rfl))
      (pss_one (ps_for PassesOwn.never rfl (pi_range2 (by rfl) T.z_range (pa_cons (pe_op op_sub (pv 5) pe_int) (pa_cons (pe_op op_add (pv 5) pe_int) pa_nil))) (pg_name (i := 10) sc_law_tried.nd rfl (.inl rfl))
      (pss_cons (ps_set (i := 11) sc_law_tried.nd rfl (.inl rfl) (pe_call (ok_law_said T) (hr.mono (by decide)) (by rfl) T.g_law_said T.F_law_said.kp T.b_law_said .nil pass0 (pa_cons (pv 0) (pa_cons (pv 3) (pa_cons (pv 9) (pa_cons (pv 10) pa_nil))))))
      (pss_one (ps_if (pt_cmpR op_eq (pv 11) (pe_un un_neg pe_int) (nomark _))
      (pss_one (ps_expr (pe_bm PySem.F.plainAttrs_list PySem.F.slot_list_append PySem.F.type_list_append mt_append (pv 6) (pa_cons (pe_tup (pa_cons (pv 9) (pa_cons (pv 10) pa_nil))) pa_nil))))
      (pss_one (ps_if (pt_cmpR (op_neD hr.units) (pe_tup (pa_cons (pv 9) (pa_cons (pv 10) pa_nil))) (pe_tup (pa_cons (pv 4) (pa_cons (pv 5) pa_nil))) (nomark _))
      (pss_one (ps_set (i := 7) sc_law_tried.nd rfl (.inl rfl) (pe_op op_add (pv 7) (pv 11))))
      pss_nil))))))))
      (pss_cons (ps_for PassesOwn.never rfl (pi_range1 (by rfl) T.z_range (pa_cons (pe_op op_shl pe_int (pe_callB call_lenL (by rfl) T.z_len (by decide +kernel) (pa_cons (pv 6) pa_nil))) pa_nil)) (pg_name (i := 12) sc_law_tried.nd rfl (.inl rfl))
      (pss_cons (ps_set (i := 13) sc_law_tried.nd rfl (.inl rfl) (pv 7))
      (pss_cons (ps_set (i := 14) sc_law_tried.nd rfl (.inl rfl) (pe_callB (call_max2 rfl) (by rfl) T.z_max (by decide +kernel) (pa_cons pe_int (pa_cons (pv 8) pa_nil))))
      (pss_cons (ps_for PassesOwn.never rfl (pi_range1 (by rfl) T.z_range (pa_cons (pe_callB call_lenL (by rfl) T.z_len (by decide +kernel) (pa_cons (pv 6) pa_nil)) pa_nil)) (pg_name (i := 15) sc_law_tried.nd rfl (.inl rfl))
      (pss_one (ps_if (pt_cmpR op_eq (pe_op op_mod (pe_op op_fdiv (pv 12) (pe_op op_shl pe_int (pv 15))) pe_int) pe_int (nomark _))
      (pss_one (ps_if (pt_cmpR (op_eqD hr.units) (pe_ix ix_list (pv 6) (pv 15) (fun _ _ => rfl)) (pe_tup (pa_cons (pv 4) (pa_cons (pv 5) pa_nil))) (nomark _))
      (pss_one (ps_set (i := 14) sc_law_tried.nd rfl (.inl rfl) pe_int))
      (pss_one (ps_set (i := 13) sc_law_tried.nd rfl (.inl rfl) (pe_op op_add (pv 13) pe_int)))))
      pss_nil)))
      (pss_one (ps_if (PW.pt (pw_or (PW.pt (pw_and (pt_cmpR op_eq (pv 14) pe_int (nomark _)) (pw_and1 (pt_cmpR op_in_seq (pv 13) (pv 2) rfl)))) (pw_or1 (PW.pt (pw_and (pt_cmpR op_eq (pv 14) pe_int (nomark _)) (pw_and1 (pt_cmpR op_notIn_seq (pv 13) (pv 1) rfl)))))))
      (pss_one (ps_ret pe_bl))
      pss_nil))))))
      (pss_one (ps_ret pe_bl))))))), ?_⟩
    k_upd
    refine ⟨Nat.zero_le _, fun sl nsl => ?_⟩
    k_invariant "new" (nsl, H1, e1, g1)
    k_upd
    obtain ⟨S, eS⟩ : ∃ S, S = S24 h wd A2 C := ⟨_, rfl⟩
    rw [← eS] at q
    refine ⟨_, rfl, _, rfl, _, rfl, _, rfl, l, d, h, wd, r, c, A2, C, rfl, e1 _ _ hl, h1, lh, lw, hC.up e1, hAC, fun H1' e1' => ?_⟩
    rw [← eS]
    k_upd
    have s1 := e1.trans e1'
    have g1 := e1' _ _ g1
    obtain ⟨rb, erb⟩ : ∃ rb, rb = r - 1 := ⟨_, rfl⟩
    obtain ⟨cb, ecb⟩ : ∃ cb, cb = c - 1 := ⟨_, rfl⟩
    have q36 : (r + 2 - rb).toNat = 3 := by omega
    have c36 : (c + 2 - cb).toNat = 3 := by omega
    obtain ⟨cen, ecen⟩ : ∃ cen : Pr, cen = (r, c) := ⟨_, rfl⟩
    obtain ⟨mid, emid⟩ : ∃ mid, mid = sI (S (r, c)) := ⟨_, rfl⟩
    rw [← emid]
    refine ⟨_, rfl, _, _, rfl, rfl, _, rfl, _, _, rfl, rfl, _, _, rfl, ⟨by omega, by omega, by omega, by omega⟩, ?_⟩
    rw [← erb, q36]
    refine for_range (lo := rb) (n := 3) (fun i σ H' => Same H H' ∧ Cells H' sl (freeL S (gridP rb cb i)) ∧ ∃ x9 x10 x11 : Option V, σ = [some (.ref l), some (.ref pb), some (.ref ps), some (.ref d), some (.int r), some (.int c), some (.ref sl), some (.int ((aliveL S cen (gridP rb cb i) : Nat) : Int)), some (.int mid), x9, x10, x11, none, none, none, none])
      ⟨s1, ⟨[], g1, (fun _ z => by cases z), rfl⟩, none, none, none, rfl⟩ ?_ ?_
    · rintro i σ H2 hi ⟨s2, g2, x9, x10, x11, rfl⟩
      refine gName_go ?_
      k_upd
      refine ⟨_, rfl, _, _, rfl, rfl, _, rfl, _, _, rfl, rfl, _, _, rfl, ⟨by omega, by omega, by omega, by omega⟩, ?_⟩
      rw [← ecb, c36]
      refine for_range (lo := cb) (n := 3) (fun j σ H' => Same H H' ∧ Cells H' sl (freeL S (partP rb cb i j)) ∧ ∃ x10 x11 : Option V, σ = [some (.ref l), some (.ref pb), some (.ref ps), some (.ref d), some (.int r), some (.int c), some (.ref sl), some (.int ((aliveL S cen (partP rb cb i j) : Nat) : Int)), some (.int mid), some (.int (rb + (i : Int))), x10, x11, none, none, none, none])
        ⟨s2, by rw [partP_0]; exact g2, x10, x11, by rw [partP_0]⟩ ?_ ?_
      · rintro j σ H3 hj ⟨s3, g3, y10, y11, rfl⟩
        refine gName_go ?_
        k_upd
        refine ⟨_, rfl, _, rfl, _, rfl, _, rfl, l, d, h, wd, rb + (i : Int), cb + (j : Int), A2, C, rfl, s3 _ _ hl, h1, lh, lw, hC.up s3, hAC, fun H4 e4 => ?_⟩
        rw [← eS]
        k_upd
        have s4 := s3.trans e4
        have fl3 : (freeL S (partP rb cb i j)).length ≤ 100 := by
          have := partP_len rb cb i j
          have := List.length_filter_le (fun x => decide (S x = none)) (partP rb cb i j)
          unfold freeL
          omega
        rw [partP_s, freeL_app, aliveL_app]
        obtain ⟨x, ex⟩ : ∃ x : Pr, x = (rb + (i : Int), cb + (j : Int)) := ⟨_, rfl⟩
        rw [← ex]
        refine ⟨_, rfl, _, rfl, rfl, _, rfl, ?_⟩
        rw [sI_m1]
        cases eSx : S x with
        | none =>
          refine iteT ?_
          rw [if_pos (show (none : Option Bool) = none from rfl), if_neg (show ¬ (x ≠ cen ∧ (none : Option Bool) = some true) by intro z; cases z.2)]
          obtain ⟨ys0, gys0, _⟩ := id (g3.up e4)
          refine ⟨_, rfl, .inl ⟨rfl, _, lst_of gys0⟩, _, rfl, _, rfl, by k_clsL, fun t2 n2 => ?_⟩
          k_invariant "new" (n2, H5, e5, g5)
          have g5 : H5 t2 = some (.tup [.int x.1, .int x.2]) := by rw [ex]; exact g5
          obtain ⟨ys, gys, lys, hcl⟩ := cells_app ((g3.up e4).up e5) g5
          exact ⟨sl, _, _, rfl, rfl, gys, by rw [lys, sizeLine_eq]; omega, mutS (s4.trans e5) nsl, hcl, _, _, rfl⟩
        | some b =>
          refine iteF ?_
          refine ⟨_, rfl, _, rfl, by k_clsL, fun t2 n2 => ?_⟩
          k_invariant "new" (n2, H5, e5, g5)
          refine ⟨_, rfl, _, rfl, by k_clsL, fun t3 n3 => ?_⟩
          k_invariant "new" (n3, H6, e6, g6)
          refine ⟨_, _, dp_two (e6 _ _ g5), dp_two g6, shaped_pd _, shaped_pd _, ?_⟩
          rw [eqv_pd, ← ex, ← ecen, if_neg (show ¬ (some b = none) by intro z; cases z)]
          have s6 := (s4.trans e5).trans e6
          refine ⟨_, rfl, ite2 (fun c => ?_) (fun c => ?_)⟩
          · have c : x ≠ cen := by simpa using c
            refine ⟨_, rfl, _, rfl, _, _, rfl, rfl, ?_⟩
            refine gName_go ?_
            k_upd
            refine ⟨s6, ((g3.up e4).up e5).up e6, some (.int (cb + (j : Int))), some (.int (sI (some b))), ?_⟩
            have eb : sI (some b) = ((if x ≠ cen ∧ some b = some true then 1 else 0 : Nat) : Int) := by
              cases b with
              | true => rw [if_pos ⟨c, rfl⟩]; rfl
              | false => rw [if_neg (by intro z; cases z.2)]; rfl
            rw [Int.natCast_add, ← eb]
          · have c : x = cen := by simpa using c
            rw [if_neg (fun z => z.1 c), Nat.add_zero]
            exact ⟨s6, ((g3.up e4).up e5).up e6, some (.int (cb + (j : Int))), some (.int (sI (some b))), rfl⟩
      · rintro σ H3 ⟨s3, g3, y10, y11, rfl⟩
        rw [partP_3] at g3 ⊢
        exact ⟨s3, g3, _, _, _, rfl⟩
    · rintro σ H2 ⟨s2, g2, x9, x10, x11, rfl⟩
      rw [gridP_3, show rb + 1 = r by omega, show cb + 1 = c by omega] at g2 ⊢
      obtain ⟨fr, efr⟩ : ∃ fr, fr = freeL S (n9 r c) := ⟨_, rfl⟩
      obtain ⟨al, eal⟩ : ∃ al, al = aliveL S cen (n9 r c) := ⟨_, rfl⟩
      obtain ⟨fl, efl⟩ : ∃ fl : List Bool, fl = fr.map fun x => decide (x = cen) := ⟨_, rfl⟩
      have lfl : fr.length = fl.length := by rw [efl, List.length_map]
      have l9 : fl.length ≤ 9 := by
        rw [← lfl, efr]
        exact List.length_filter_le _ _
      have key := tried_nine bs ss none S r c (fl := fl) (by rw [efl, efr, ecen])
      rw [← ecen, ← eal] at key
      have p512 : 2 ^ fl.length ≤ 512 := Nat.pow_le_pow_right (n := 2) (by decide) l9
      have p0 : 0 < 2 ^ fl.length := Nat.pow_pos (by decide)
      rw [← efr] at g2
      rw [← eal]
      have powI : ∀ k : Nat, (1 : Int) * 2 ^ ((k : Int)).toNat = ((2 ^ k : Nat) : Int) := fun k => by
        rw [Int.one_mul, Int.toNat_natCast, Int.natCast_pow]
        rfl
      obtain ⟨ts, hts, htt, ets⟩ := id g2
      refine ⟨_, rfl, sl, _, rfl, lst_of hts, _, _, rfl, rfl, ⟨by omega, ?_, by decide⟩, ?_⟩
      · rw [List.length_map, ← List.length_map (f := fun x : Addr × Pr => x.2), ets]
        omega
      have lts : (ts.map fun t => V.ref t.1).length = fl.length := by rw [List.length_map, ← lfl, ← ets, List.length_map]
      dsimp only
      rw [lts, powI]
      refine ⟨_, rfl, by omega, by omega, ?_⟩
      obtain ⟨c0', ec0⟩ : ∃ c0 : Bool, c0 = (S cen).getD false := ⟨_, rfl⟩
      rw [← ec0] at key
      refine for_range (lo := 0) (n := (((2 ^ fl.length : Nat) : Int)).toNat) (D := { nx := tRet (tC (V.bl true)) { nx := fun _ H' => Q V.non H', rt := Q }, rt := Q }) (fun i σ H' => Same H2 H' ∧ (∀ n, n < i → lvN bs ss (cenK fl c0' n fl.length) (al + cntK fl n fl.length) ≠ cenK fl c0' n fl.length) ∧ ∃ x12 x13 x14 x15 : Option V, σ = [some (.ref l), some (.ref pb), some (.ref ps), some (.ref d), some (.int r), some (.int c), some (.ref sl), some (.int (al : Int)), some (.int mid), x9, x10, x11, x12, x13, x14, x15])
        ⟨Same.refl _, (fun n h => absurd h (Nat.not_lt_zero n)), none, none, none, none, rfl⟩ ?_ ?_
      · rintro n σ H3 hn ⟨s3, hno, x12, x13, x14, x15, rfl⟩
        have hn : n < 2 ^ fl.length := by omega
        refine gName_go ?_
        k_upd
        refine ⟨_, rfl, ?_⟩
        k_upd
        refine gName_go ?_
        rw [Int.zero_add]
        k_upd
        refine ⟨_, rfl, _, _, rfl, ?_⟩
        dsimp only
        have ecm : (if mid > 0 then mid else 0) = bI c0' := by rw [emid, sI_max, ec0, ecen]
        rw [ecm]
        refine gName_go ?_
        k_upd
        have at3 := s3 _ _ hts
        refine ⟨_, rfl, sl, _, rfl, lst_of at3, _, rfl, by omega, by omega, ?_⟩
        rw [lts]
        refine for_range (lo := 0) (n := ((fl.length : Nat) : Int).toNat) (fun k σ H' => Same H2 H' ∧ ∃ x15 : Option V, σ = [some (.ref l), some (.ref pb), some (.ref ps), some (.ref d), some (.int r), some (.int c), some (.ref sl), some (.int (al : Int)), some (.int mid), x9, x10, x11, some (.int (n : Int)), some (.int ((al : Int) + ((cntK fl n k : Nat) : Int))), some (.int (bI (cenK fl c0' n k))), x15])
          ⟨s3, x15, ?_⟩ ?_ ?_
        · show _ = [_, _, _, _, _, _, _, _, _, _, _, _, _, some (V.int ((al : Int) + ((0 : Nat) : Int))), _, _]
          rw [show (al : Int) + ((0 : Nat) : Int) = (al : Int) by omega]
          rfl
        · rintro k σ H5 hk ⟨s5, y15, rfl⟩
          have hk : k < fl.length := by omega
          have p2k : 0 < 2 ^ k := Nat.pow_pos (by decide)
          have p2k2 : 2 ^ k ≤ 512 := Nat.pow_le_pow_right (n := 2) (i := k) (j := 9) (by decide) (by omega)
          refine gName_go ?_
          rw [Int.zero_add]
          k_upd
          refine ⟨_, rfl, _, rfl, _, _, rfl, rfl, ⟨by omega, by omega, by decide⟩, _, _, rfl, rfl, ?_, _, _, rfl, rfl, (by show (0 : Int) < _; omega), rfl, ?_⟩
          · rw [powI]
            exact ⟨by omega, by omega⟩
          dsimp only
          rw [powI]
          have ebit : decide (V.int ((n : Int) / ((2 ^ k : Nat) : Int) % 2) = V.int 1) = n.testBit k := by
            rw [Nat.testBit_eq_decide_div_mod_eq]
            refine decide_eq_decide.mpr ?_
            constructor
            · intro z
              injection z with z
              omega
            · intro z
              congr 1
              omega
          rw [ebit]
          refine ⟨_, rfl, ite2 (fun c => ?_) (fun c => ?_)⟩
          · obtain ⟨t, mt, etk⟩ : ∃ t, t ∈ ts ∧ ts[k]? = some t := by
              have : k < ts.length := by rw [List.length_map] at lts; omega
              exact ⟨ts[k], List.getElem_mem this, List.getElem?_eq_getElem this⟩
            have atk : (ts.map fun t => V.ref t.1)[k]? = some (.ref t.1) := by rw [List.getElem?_map, etk]; rfl
            have efk : fl.getD k false = decide (t.2 = cen) := by
              rw [efl, ← ets, List.map_map, List.getD_eq_getElem?_getD, List.getElem?_map, etk]
              rfl
            refine ⟨_, rfl, _, rfl, sl, _, _, _, rfl, rfl, lst_of (s5 _ _ hts), atI_nat atk, _, rfl, _, rfl, by k_clsL, fun t3 n3 => ?_⟩
            k_invariant "new" (n3, H6, e6, g6)
            refine ⟨_, _, dp_two ((s5.trans e6) _ _ (htt t mt)), dp_two g6, shaped_pd _, shaped_pd _, ?_⟩
            rw [eqv_pd, ← ecen, show ((t.2.1, t.2.2) : Pr) = t.2 from rfl, ← efk]
            refine ⟨_, rfl, ite2 (fun c2 => ?_) (fun c2 => ?_)⟩
            · refine ⟨s5.trans e6, some (.int (k : Int)), ?_⟩
              have e1 : cntK fl n (k + 1) = cntK fl n k := by
                show _ + ite _ _ _ = _
                rw [if_neg (by rw [c2]; intro z; cases z.2)]
                rfl
              have e2 : cenK fl c0' n (k + 1) = true := by
                show ite _ _ _ = _
                rw [if_pos ⟨c, c2⟩]
              rw [e1, e2]
              rfl
            · have c2 : fl.getD k false = false := by simpa using c2
              refine ⟨_, rfl, _, _, rfl, rfl, ?_⟩
              refine gName_go ?_
              k_upd
              refine ⟨s5.trans e6, some (.int (k : Int)), ?_⟩
              have e1 : cntK fl n (k + 1) = cntK fl n k + 1 := by
                show _ + ite _ _ _ = _
                rw [if_pos ⟨c, c2⟩]
              have e2 : cenK fl c0' n (k + 1) = cenK fl c0' n k := by
                show ite _ _ _ = _
                rw [if_neg (by rw [c2]; intro z; cases z.2)]
              rw [e1, e2, show (al : Int) + ((cntK fl n k + 1 : Nat) : Int) = (al : Int) + ((cntK fl n k : Nat) : Int) + 1 by omega]
          · refine ⟨s5, some (.int (k : Int)), ?_⟩
            have e1 : cntK fl n (k + 1) = cntK fl n k := by
              show _ + ite _ _ _ = _
              rw [if_neg fun z => c z.1]
              rfl
            have e2 : cenK fl c0' n (k + 1) = cenK fl c0' n k := by
              show ite _ _ _ = _
              rw [if_neg fun z => c z.1]
            rw [e1, e2]
        · rintro σ H5 ⟨s5, y15, rfl⟩
          rw [show ((fl.length : Nat) : Int).toNat = fl.length by omega]
          have s25 := s2.trans s5
          obtain ⟨cf, ecf⟩ : ∃ cf, cf = cenK fl c0' n fl.length := ⟨_, rfl⟩
          obtain ⟨ct, ect⟩ : ∃ ct, ct = cntK fl n fl.length := ⟨_, rfl⟩
          rw [← ecf, ← ect]
          have elvT : decide ((al : Int) + (ct : Int) ∈ ss) = lvN bs ss true (al + ct) := by
            unfold lvN
            rw [Int.natCast_add]
            rfl
          have elvF : decide ((al : Int) + (ct : Int) ∈ bs) = lvN bs ss false (al + ct) := by
            unfold lvN
            rw [Int.natCast_add]
            rfl
          have fin1 : ∀ c : lvN bs ss cf (al + ct) = cf, Q (.bl false) H5 := fun c => q H5 false s25 ⟨fun z => (by cases z), fun z => by
            rw [key] at z
            have := z n hn
            rw [← ecf, ← ect] at this
            exact absurd c this⟩
          have fin2 : ∀ c : lvN bs ss cf (al + ct) ≠ cf, ∀ m, m < n + 1 → lvN bs ss (cenK fl c0' m fl.length) (al + cntK fl m fl.length) ≠ cenK fl c0' m fl.length := fun c m hm => by
            by_cases e : m = n
            · rw [e, ← ecf, ← ect]
              exact c
            · exact hno m (by omega)
          refine ⟨_, rfl, rfl, _, rfl, ?_⟩
          cases cf with
          | true =>
            rw [show decide (V.int (bI true) = V.int 1) = true from decide_eq_true rfl]
            refine iteT ?_
            refine ⟨_, rfl, _, rfl, _, _, rfl, .inl (lst_of (s25 _ _ hs)), rfl, flat_ints _, ?_⟩
            rw [if_neg Bool.false_ne_true, inV_ints, elvT]
            refine ⟨_, rfl, ?_⟩
            cases ev : lvN bs ss true (al + ct) with
            | true => exact fin1 ev
            | false =>
              refine iteF ?_
              refine ⟨_, rfl, rfl, _, rfl, ?_⟩
              rw [show decide (V.int (bI true) = V.int 0) = false from decide_eq_false (by intro z; injection z with z; exact absurd z (by decide))]
              exact ⟨s5, fin2 (by rw [ev]; intro z; cases z), _, _, _, _, rfl⟩
          | false =>
            rw [show decide (V.int (bI false) = V.int 1) = false from decide_eq_false (by intro z; injection z with z; exact absurd z (by decide))]
            refine ⟨_, rfl, rfl, _, rfl, ?_⟩
            rw [show decide (V.int (bI false) = V.int 0) = true from decide_eq_true rfl]
            refine iteT ?_
            refine ⟨_, rfl, _, rfl, _, _, rfl, .inl (lst_of (s25 _ _ hb)), rfl, flat_ints _, ?_⟩
            rw [if_pos rfl, inV_ints, elvF]
            refine ⟨_, rfl, ?_⟩
            cases ev : lvN bs ss false (al + ct) with
            | false => exact fin1 ev
            | true => exact ⟨s5, fin2 (by rw [ev]; intro z; cases z), _, _, _, _, rfl⟩
      · rintro σ H3 ⟨s3, hno, x12, x13, x14, x15, rfl⟩
        refine q H3 true (s2.trans s3) ⟨fun _ => ?_, fun _ => rfl⟩
        rw [key]
        intro n hn
        exact hno n (by omega)
end
end My
namespace My
open PySem PySem.Spec PyProof.Rows L2 Vx
open TL
local macro_rules | `(tactic| k_invariant "new" ($n, $H:ident, $e:ident, $h:ident)) => `(tactic| (generalize hE : upd _ _ _ = $H; obtain ⟨$e:ident, $h:ident⟩ := gen_e hE $n; clear hE))
local macro_rules | `(tactic| k_places) => `(tactic| first
  | assumption
  | exact lst_of (by assumption)
  | exact tup_of (by assumption)
  | (refine getS (by assumption) ?_; k_places)
  | (refine Same.seq (by assumption) ?_; k_places)
  | (refine tupS (by assumption) ?_; k_places)
  | (refine lst_of ?_; k_places)
  | (refine tup_of ?_; k_places))
local macro_rules | `(tactic| k_subL) => `(tactic| first
  | k_places
  | solve_by_elim (maxDepth := 10) [getS, lst_of, tup_of, Same.seq, tupS])
local macro_rules | `(tactic| k_offL) => `(tactic| first
  | (show (0 : Int) < _; first | omega | decide)
  | (refine ⟨?_, ?_⟩ <;> first | omega | decide)
  | exact .inr ⟨by decide, by decide⟩
  | exact .inl ⟨by decide, by decide⟩
  | exact .inl ⟨by omega, by omega⟩
  | omega)
local macro_rules | `(tactic| k_clsL) => `(tactic| exact Nat.le_of_ble_eq_true rfl)
local macro_rules | `(tactic| k_upd) => `(tactic| simp only [L2.start, List.map_cons, List.map_nil, List.length_cons, List.length_nil, List.replicate_succ, List.replicate_zero, List.cons_append, List.nil_append, List.set_cons_zero, List.set_cons_succ])
section
variable {P : Program} {w : World} {K : PySem.W.Frag} {mg : Str → Option Value} {base : Heap}
def sp_size_of : Sp := fun vs H Q _ => ∃ (l : Addr) (h w : Nat) (A : Nat → Nat → Option Bool), vs = [.ref l] ∧ PicAt H l h w A ∧ 1 ≤ h ∧ h ≤ 1000 ∧ w ≤ 1000 ∧
  ∀ (H' : Hp) (p : Addr), Same H H' → H' p = some (.tup [.int (h : Int), .int (w : Int)]) → Q (.ref p) H'
theorem ok_size_of (T : Txt K mg) : FnOk P w K mg base CX0 1 T.f_size_of T.d_size_of ["picture"] sp_size_of := by
  refine T.F_size_of.ok sc_size_of (fun vs H Q E h => ?_) (fun cdv A outer s H vs Q E hr h => ?_)
  · obtain ⟨_, _, _, _, rfl, _⟩ := h
    rfl
  · obtain ⟨l, h, wd, A2, rfl, hl, h1, lh, lw, q⟩ := h
    have hu2 : (A.deeper (envOfC (Str.ofString "size_of") (defScope s_size_of) s.heap.objs.size T.f_size_of cdv)).units + 2 < cLine := by
      have := hr.units
      omega
    refine ⟨_, (pss_one (ps_ret (pe_tup (pa_cons (pe_callB call_lenL (by rfl) T.z_len (by decide +kernel) (pa_cons (pv 0) pa_nil)) (pa_cons (pe_callBK (cr_maxD rfl hu2) (by rfl) T.z_max (by decide +kernel) (pa_cons (pe_lc (own := [("signs", 1)]) (g := gName 1) (tt := tYes) rfl sc_size_of.nd (pi_list (pv 0)) (blkOk_by (own := [("signs", 1)]) (N := N_size_of) (sc := defScope s_size_of) (by decide +kernel)) (fun _ _ _ _ _ => pg_name (i := 1) sc_size_of.nd rfl (Or.inl rfl)) (fun _ _ _ _ _ => pts_nil) (fun _ _ _ _ _ => (pe_callB call_len_str (by rfl) T.z_len (by decide +kernel) (pa_cons (pv 1) pa_nil)))) pa_nil) (pk_cons pe_int pk_nil)) pa_nil))))), ?_⟩
    refine ⟨_, rfl, l, _, rfl, lst_of hl, ?_⟩
    rw [List.length_map, List.length_range]
    refine ⟨_, rfl, l, rfl, ⟨_, lst_of hl⟩, fun D nD => lc_list (K := K) (a := l) (xs := (List.range h).map fun r => V.str (rowW wd (A2 r))) (fun i H' => Same H H' ∧ H' D = some (.lst ((List.replicate i (wd : Int)).map V.int))) ⟨newS nD, upd_same⟩ (fun i H' _ p => lst_of (p.1 _ _ hl)) ?_ ?_⟩
    · rintro i v H4 hi ⟨s4, g4⟩
      have li : i < h := by
        have := (List.getElem?_eq_some_iff.mp hi).1
        rw [List.length_map, List.length_range] at this
        exact this
      rw [pic_at li] at hi
      obtain rfl := Option.some.inj hi
      refine ⟨rfl, tyesT ⟨_, rfl, _, rfl, by rw [rowW_len, sizeLine_eq]; omega, ?_⟩⟩
      rw [rowW_len]
      refine ⟨_, g4, by rw [List.length_map, List.length_replicate, sizeLine_eq]; omega, mutS s4 nD, ?_⟩
      rw [upd_same, List.replicate_succ', List.map_append]
      rfl
    rintro H4 ⟨s4, g4⟩
    rw [List.length_map, List.length_range] at g4
    refine ⟨D, _, _, rfl, rfl, lst_of g4, fun e => ?_, fun m hm _ => ?_⟩
    · have := congrArg List.length e
      rw [List.length_replicate] at this
      have : h = 0 := this
      omega
    rw [(List.mem_replicate.mp hm).2]
    exact ⟨by k_clsL, fun p np => q _ p (s4.trans (newS np)) upd_same⟩
def sp_place_fails (C0 : Addr) : Sp := fun vs H Q _ => ∃ (l r d : Addr) (h w : Nat) (row column : Int) (A : Nat → Nat → Option Bool) (C : Pr → Option Bool) (bs ss : List Int), vs = [.ref l, .ref r, .ref d, .int row, .int column] ∧ PicAt H l h w A ∧ 1 ≤ h ∧ h ≤ 1000 ∧ w ≤ 1000 ∧ h * w ≤ 2000 ∧ CaseAt H d C ∧ RuleAt C0 H r bs ss ∧
  ∀ (H' : Hp) (b : Bool), Same H H' → (b = true ↔ NineF bs ss none (nineOf (S24 h w A C) row column)) → Q (.bl b) H'
theorem ok_place_fails (T : Txt K mg) : FnOk P w K mg base CX0 4 T.f_place_fails T.d_place_fails ["wishes", "rule", "case", "row", "column"] (sp_place_fails T.C_Rule) := by
  refine T.F_place_fails.ok sc_place_fails (fun vs H Q E h => ?_) (fun cdv A outer s H vs Q E hr h => ?_)
  · obtain ⟨_, _, _, _, _, _, _, _, _, _, _, rfl, _⟩ := h
    rfl
  · obtain ⟨l, r, d, h, wd, row, column, A2, C, bs, ss, rfl, hl, h1, lh, lw, few, hC, hR, q⟩ := h
    have hu : (A.deeper (envOfC (Str.ofString "place_fails") (defScope s_place_fails) s.heap.objs.size T.f_place_fails cdv)).units + 1 < cLine := by
      have := hr.units
      omega
    refine ⟨_, (pss_cons (ps_asg (pe_call (ok_size_of T) (hr.mono (by decide)) (by rfl) T.g_size_of T.F_size_of.kp T.b_size_of .nil pass0 (pa_cons (pv 0) pa_nil)) (pg_tupK (K := K) (n := 2) rfl rfl (pgs_cons (pg_name (i := 5) sc_place_fails.nd rfl (.inl rfl)) (pgs_cons (pg_name (i := 6) sc_place_fails.nd rfl (.inl rfl)) pgs_nil))))
      (pss_cons (ps_set (i := 7) sc_place_fails.nd rfl (.inl rfl) (pe_call (ok_states_of T) (hr.mono (by decide)) (by rfl) T.g_states_of T.F_states_of.kp T.b_states_of .nil pass0 (pa_cons (pv 0) pa_nil)))
      (pss_cons (ps_set (i := 8) sc_place_fails.nd rfl (.inl rfl) (pe_lst pa_nil))
      (pss_cons (ps_for PassesOwn.never rfl (pi_list (pe_call (ok_cells_around T) (hr.mono (by decide)) (by rfl) T.g_cells_around T.F_cells_around.kp T.b_cells_around .nil pass0 (pa_cons (pv 3) (pa_cons (pv 4) pa_nil)))) (pg_name (i := 9) sc_place_fails.nd rfl (.inl rfl))
      (pss_cons (ps_mid (ps_set (i := 10) sc_place_fails.nd rfl (.inl rfl) (pe_and (pe_chain op_le op_lt pe_int (pe_ix (ix_tupK (K := K) rfl) (pv 9) pe_int (fun _ _ => rfl)) (pv 5)) (pe_one (pe_chain op_le op_lt pe_int (pe_ix (ix_tupK (K := K) rfl) (pv 9) pe_int (fun _ _ => rfl)) (pv 6))))))
      (pss_one (ps_expr (pe_bm PySem.F.plainAttrs_list PySem.F.slot_list_append PySem.F.type_list_append mt_append (pv 8) (pa_cons (pe_ifExp (pt_val (pv 10)) (pe_dget2 hu (pv 7) (pv 9) (pe_dget1 hu (pv 2) (pv 9) ⟨rfl, rfl, rfl, rfl⟩) ⟨rfl, rfl, rfl, rfl⟩) pe_bl) pa_nil))))))
      (pss_one (ps_ret (pe_call (ok_nine_fail T) (hr.mono (by decide)) (by rfl) T.g_nine_fail T.F_nine_fail.kp T.b_nine_fail .nil pass0 (pa_cons (pv 1) (pa_cons pe_non (pa_cons (pv 8) pa_nil)))))))))), ?_⟩
    obtain ⟨S, eS⟩ : ∃ S, S = S24 h wd A2 C := ⟨_, rfl⟩
    rw [← eS] at q
    refine ⟨_, rfl, l, h, wd, A2, rfl, hl, h1, lh, lw, fun H1 p1 e1 g1 => ?_⟩
    refine ⟨p1, _, rfl, tup_of g1, rfl, _, _, rfl, _, _, rfl, rfl, ?_⟩
    k_upd
    refine ⟨_, rfl, l, h, wd, A2, rfl, e1 _ _ hl, few, fun H2 ww n2 e2 hW => ?_⟩
    k_upd
    refine ⟨Nat.zero_le _, fun L nL => ?_⟩
    k_invariant "new" (nL, H3, e3, g3)
    k_upd
    refine ⟨_, rfl, _, rfl, row, column, rfl, fun H4 pc nc e4 hc => ?_⟩
    obtain ⟨ts, hts, htt, ets⟩ := id hc
    have s2 := e1.trans e2
    have g4 := e4 _ _ g3
    have pL : pc ≠ L := fun z => by rw [z, g3] at nc; cases nc
    have tL : ∀ t ∈ ts, t.1 ≠ L := fun t m z => by
      have := htt t m
      rw [z, g4] at this
      cases this
    refine ⟨pc, rfl, ⟨_, lst_of hts⟩, for_list (K := K) (a := pc) (xs := ts.map fun t => V.ref t.1) (fun i σ H' => (∀ b o, b ≠ L → H4 b = some o → H' b = some o) ∧ Same H2 H' ∧ H' L = some (.lst ((((n9 row column).take i).map S).map nv)) ∧ ∃ x9 x10 : Option V, σ = [some (.ref l), some (.ref r), some (.ref d), some (.int row), some (.int column), some (.int (h : Int)), some (.int (wd : Int)), some (.ref ww), some (.ref L), x9, x10])
      ⟨fun b o _ e => e, e3.trans e4, g4, none, none, rfl⟩ (fun i σ H' _ p => lst_of (p.1 _ _ pL hts)) ?_ ?_⟩
    · rintro i v σ H5 hi ⟨k5, s5, g5, x9, x10, rfl⟩
      obtain ⟨t, mt, rfl, hx⟩ := item_cells (H := H5) hi rfl
      rw [ets] at hx
      have ht := k5 _ _ (tL t mt) (htt t mt)
      refine gName_go ?_
      k_upd
      obtain ⟨x, ex⟩ : ∃ x, x = t.2 := ⟨_, rfl⟩
      rw [← ex] at ht hx
      refine ⟨fun σ' H' => H' = H5 ∧ σ' = [some (.ref l), some (.ref r), some (.ref d), some (.int row), some (.int column), some (.int (h : Int)), some (.int (wd : Int)), some (.ref ww), some (.ref L), some (.ref t.1), some (.bl (decide (0 ≤ x.1 ∧ x.1 < (h : Int) ∧ 0 ≤ x.2 ∧ x.2 < (wd : Int))))], ?_, ?_⟩
      · refine ⟨_, rfl, t.1, _, _, _, rfl, rfl, tup_of ht, rfl, _, _, rfl, rfl, _, rfl, ?_⟩
        by_cases a1 : (0 : Int) ≤ x.1
        · rw [decide_eq_true a1]
          refine iteT ⟨_, rfl, _, _, rfl, rfl, _, rfl, ?_⟩
          by_cases a2 : x.1 < (h : Int)
          · rw [decide_eq_true a2]
            refine iteT ⟨_, rfl, t.1, _, _, _, rfl, rfl, tup_of ht, rfl, _, _, rfl, rfl, _, rfl, ?_⟩
            by_cases a3 : (0 : Int) ≤ x.2
            · rw [decide_eq_true a3]
              refine iteT ⟨_, rfl, _, _, rfl, rfl, ?_⟩
              refine gName_go ⟨rfl, ?_⟩
              have : decide (x.2 < (wd : Int)) = decide (0 ≤ x.1 ∧ x.1 < (h : Int) ∧ 0 ≤ x.2 ∧ x.2 < (wd : Int)) := decide_eq_decide.mpr ⟨fun z => ⟨a1, a2, a3, z⟩, fun z => z.2.2.2⟩
              rw [← this]
              rfl
            · rw [decide_eq_false a3]
              refine iteF ⟨rfl, ?_⟩
              rw [decide_eq_false fun z => a3 z.2.2.1]
              rfl
          · rw [decide_eq_false a2]
            refine iteF ⟨rfl, ?_⟩
            rw [decide_eq_false fun z => a2 z.2.1]
            rfl
        · rw [decide_eq_false a1]
          refine iteF ⟨_, rfl, ?_⟩
          refine iteF ?_
          refine ⟨rfl, ?_⟩
          rw [decide_eq_false fun z => a1 z.1]
          rfl
      rintro σ H5' ⟨rfl, rfl⟩
      have hCx := (hC.up (s2.trans s5)).get (x := x) ht
      have hWx := (hW.up s5).get (x := x) ht
      have fin : ∀ acc, acc = ((((n9 row column).take i).map S).map nv) → ∃ acc', some (HO.lst acc') = H5' L ∧ acc'.length < sizeLine := fun _ _ => ⟨_, g5.symm, by
        rw [List.length_map, List.length_map, List.length_take, sizeLine_eq]
        have : (n9 row column).length = 9 := rfl
        omega⟩
      have lacc : ((((n9 row column).take i).map S).map nv).length < sizeLine := by
        rw [List.length_map, List.length_map, List.length_take, sizeLine_eq]
        have : (n9 row column).length = 9 := rfl
        omega
      have step : ∀ H6, H6 = upd H5' L (.lst (((((n9 row column).take i).map S).map nv) ++ [nv (S x)])) → (∀ b o, b ≠ L → H4 b = some o → H6 b = some o) ∧ Same H2 H6 ∧ H6 L = some (.lst ((((n9 row column).take (i + 1)).map S).map nv)) := fun H6 e6 => by
        rw [e6]
        refine ⟨fun b o nb hb => by rw [upd_ne nb]; exact k5 b o nb hb, mutS s5 nL, ?_⟩
        rw [upd_same, take_next hx, List.map_append, List.map_append]
        rfl
      refine ⟨_, rfl, .inl ⟨rfl, _, lst_of g5⟩, _, rfl, _, rfl, ?_⟩
      by_cases hin : 0 ≤ x.1 ∧ x.1 < (h : Int) ∧ 0 ≤ x.2 ∧ x.2 < (wd : Int)
      · rw [decide_eq_true hin]
        refine iteT ⟨_, rfl, ww, rfl, (hW.up s5).isD, _, rfl, _, rfl, d, rfl, (hC.up (s2.trans s5)).isD, _, rfl, _, hCx, _, hWx, ?_⟩
        have ev : ((said h wd A2 x).map V.bl).getD (((C x).map V.bl).getD .non) = nv (S x) := by
          rw [eS]
          unfold said S24
          rw [if_pos hin, if_pos hin]
          cases A2 x.1.toNat x.2.toNat with
          | none => cases C x <;> rfl
          | some b => rfl
        rw [ev]
        obtain ⟨f1, f2, f3⟩ := step _ rfl
        exact ⟨L, _, _, rfl, rfl, g5, lacc, f1, f2, f3, _, _, rfl⟩
      · rw [decide_eq_false hin]
        refine iteF ?_
        have ev : nv (S x) = .bl false := by
          rw [eS]
          unfold S24
          rw [if_neg hin]
          rfl
        rw [← ev]
        obtain ⟨f1, f2, f3⟩ := step _ rfl
        exact ⟨L, _, _, rfl, rfl, g5, lacc, f1, f2, f3, _, _, rfl⟩
    · rintro σ H5 ⟨k5, s5, g5, x9, x10, rfl⟩
      have ll : (ts.map fun t => V.ref t.1).length = (n9 row column).length := by rw [← ets, List.length_map, List.length_map]
      rw [ll, List.take_of_length_le (Nat.le_refl _)] at g5
      refine ⟨_, rfl, _, rfl, r, L, none, nineOf S row column, bs, ss, rfl, g5, rfl, hR.up (s2.trans s5), fun H6 b e6 hb => q H6 b ((s2.trans s5).trans e6) hb⟩
end
end My
namespace My
open PySem PySem.Spec PyProof.Rows L2 Vx
open TL
local macro_rules | `(tactic| k_invariant "new" ($n, $H:ident, $e:ident, $h:ident)) => `(tactic| (generalize hE : upd _ _ _ = $H; obtain ⟨$e:ident, $h:ident⟩ := gen_e hE $n; clear hE))
local macro_rules | `(tactic| k_places) => `(tactic| first
  | assumption
  | exact lst_of (by assumption)
  | exact tup_of (by assumption)
  | (refine getS (by assumption) ?_; k_places)
  | (refine Same.seq (by assumption) ?_; k_places)
  | (refine tupS (by assumption) ?_; k_places)
  | (refine lst_of ?_; k_places)
  | (refine tup_of ?_; k_places))
local macro_rules | `(tactic| k_subL) => `(tactic| first
  | k_places
  | solve_by_elim (maxDepth := 10) [getS, lst_of, tup_of, Same.seq, tupS])
local macro_rules | `(tactic| k_offL) => `(tactic| first
  | (show (0 : Int) < _; first | omega | decide)
  | (refine ⟨?_, ?_⟩ <;> first | omega | decide)
  | exact .inr ⟨by decide, by decide⟩
  | exact .inl ⟨by decide, by decide⟩
  | exact .inl ⟨by omega, by omega⟩
  | omega)
local macro_rules | `(tactic| k_clsL) => `(tactic| exact Nat.le_of_ble_eq_true rfl)
local macro_rules | `(tactic| k_upd) => `(tactic| simp only [L2.start, List.map_cons, List.map_nil, List.length_cons, List.length_nil, List.replicate_succ, List.replicate_zero, List.cons_append, List.nil_append, List.set_cons_zero, List.set_cons_succ])
section
variable {P : Program} {w : World} {K : PySem.W.Frag} {mg : Str → Option Value} {base : Heap}
def sp_places : Sp := fun vs H Q _ => ∃ (l : Addr) (h w : Nat) (A : Nat → Nat → Option Bool), vs = [.ref l] ∧ PicAt H l h w A ∧ 1 ≤ h ∧ h ≤ 30 ∧ w ≤ 30 ∧
  ∀ (H' : Hp) (d : Addr) (ps : List Pr), H d = none → Same H H' → Dct H' d ps (fun _ => .non) → ps.length ≤ 2000 → (∀ x : Pr, x ∈ ps ↔ -1 ≤ x.1 ∧ x.1 < (h : Int) + 1 ∧ -1 ≤ x.2 ∧ x.2 < (w : Int) + 1) → Q (.ref d) H'
theorem ok_places (T : Txt K mg) : FnOk P w K mg base CX0 2 T.f_places T.d_places ["wishes"] sp_places := by
  refine T.F_places.ok sc_places (fun vs H Q E h => ?_) (fun cdv A outer s H vs Q E hr h => ?_)
  · obtain ⟨_, _, _, _, rfl, _⟩ := h
    rfl
  · obtain ⟨l, h, wd, A2, rfl, hl, h1, lh, lw, q⟩ := h
    have hu : (A.deeper (envOfC (Str.ofString "_places") (defScope s_places) s.heap.objs.size T.f_places cdv)).units + 1 < cLine := by
      have := hr.units
      omega
    refine ⟨_, (pss_cons (ps_asg (pe_call (ok_size_of T) (hr.mono (by decide)) (by rfl) T.g_size_of T.F_size_of.kp T.b_size_of .nil pass0 (pa_cons (pv 0) pa_nil)) (pg_tupK (K := K) (n := 2) rfl rfl (pgs_cons (pg_name (i := 1) sc_places.nd rfl (.inl rfl)) (pgs_cons (pg_name (i := 2) sc_places.nd rfl (.inr rfl)) pgs_nil))))
      (pss_one (ps_ret (pe_dcD (own := [("row", 3), ("column", 4)]) (vs1 := [4]) rfl (Nat.lt_of_succ_lt hu) sc_places.nd (pi_range2 (by rfl) T.z_range (pa_cons (pe_un un_neg pe_int) (pa_cons (pe_op op_add (pv 1) pe_int) pa_nil))) (blkOk_by (own := [("row", 3), ("column", 4)]) (N := N_places) (sc := defScope s_places) (by decide +kernel)) (by decide) (fun _ _ _ _ _ => (pg_name (i := 3) sc_places.nd rfl (Or.inl rfl))) (fun _ _ _ _ _ => pts_nil) (fun _ _ _ _ _ => (pi_range2 (by rfl) T.z_range (pa_cons (pe_un un_neg pe_int) (pa_cons (pe_op op_add (pv 2) pe_int) pa_nil)))) (fun _ _ _ _ _ => (pg_name (i := 4) sc_places.nd rfl (Or.inl rfl))) (fun _ _ _ _ _ => pts_nil) (fun _ _ _ _ _ => (pe_tup (pa_cons (pv 3) (pa_cons (pv 4) pa_nil)))) (fun _ _ _ _ _ => pe_non))))), ?_⟩
    refine ⟨_, rfl, l, h, wd, A2, rfl, hl, h1, by omega, by omega, fun H1 p1 e1 g1 => ?_⟩
    refine ⟨p1, _, rfl, tup_of g1, rfl, _, _, rfl, _, _, rfl, rfl, ?_⟩
    k_upd
    refine ⟨_, rfl, _, rfl, _, _, rfl, rfl, _, _, rfl, ⟨by omega, by omega, by omega, by omega⟩, fun D nD => turns_range (lo := -1) (n := ((h : Int) + 1 - -1).toNat)
      (fun i H' => Same H1 H' ∧ ∃ ps : List Pr, Dct H' D ps (fun _ => .non) ∧ ps.length ≤ i * (wd + 2) ∧ ∀ x : Pr, x ∈ ps ↔ -1 ≤ x.1 ∧ x.1 < -1 + (i : Int) ∧ -1 ≤ x.2 ∧ x.2 < (wd : Int) + 1)
      ⟨newS nD, [], Dct.new _ upd_same, Nat.zero_le _, fun x => ⟨fun z => (by cases z), fun z => by omega⟩⟩ ?_ ?_⟩
    · rintro i H2 hi ⟨s2, ps, hD, lp, hp⟩
      refine ⟨rfl, tyesT ?_⟩
      refine ⟨_, rfl, _, rfl, _, _, rfl, rfl, _, _, rfl, ⟨by omega, by omega, by omega, by omega⟩, turns_range (lo := -1) (n := ((wd : Int) + 1 - -1).toNat)
        (fun j H' => Same H1 H' ∧ ∃ ps : List Pr, Dct H' D ps (fun _ => .non) ∧ ps.length ≤ i * (wd + 2) + j ∧ ∀ x : Pr, x ∈ ps ↔ (-1 ≤ x.1 ∧ x.1 < -1 + (i : Int) ∧ -1 ≤ x.2 ∧ x.2 < (wd : Int) + 1) ∨ (x.1 = -1 + (i : Int) ∧ -1 ≤ x.2 ∧ x.2 < -1 + (j : Int)))
        ⟨s2, ps, hD, lp, fun x => by rw [hp]; exact ⟨.inl, fun z => z.elim id fun z => by omega⟩⟩ ?_ ?_⟩
      · rintro j H3 hj ⟨s3, ps3, hD3, lp3, hp3⟩
        refine ⟨rfl, tyesT ?_⟩
        refine ⟨_, rfl, _, rfl, by k_clsL, fun p5 n5 => ?_⟩
        have D5 : D ≠ p5 := fun z => by
          obtain ⟨kvs, k1, _⟩ := hD3
          rw [← z, k1] at n5
          cases n5
        k_invariant "new" (n5, H5, e5, g5)
        obtain ⟨kvs, k1, k2⟩ := hD3.up e5
        have m32 : i * (wd + 2) ≤ 32 * 32 := Nat.mul_le_mul (by omega) (by omega)
        refine ⟨kvs, keyP (-1 + (i : Int), -1 + (j : Int)), p5, rfl, g5, k1, by rw [k2.len, sizeLine_eq]; omega, mutS (s3.trans e5) nD, addK ps3 (-1 + (i : Int), -1 + (j : Int)), ⟨_, upd_same, (k2.put _ _).congr fun x m => ?_⟩, by have := addK_len (ps := ps3) (x := (-1 + (i : Int), -1 + (j : Int))); omega, fun x => ?_⟩
        · unfold setG
          split <;> rfl
        · rw [mem_addK, hp3]
          constructor
          · rintro ((z | z) | z)
            · exact .inl z
            · exact .inr (by omega)
            · rw [z]
              refine .inr ⟨rfl, ?_, ?_⟩ <;> dsimp only <;> omega
          · rintro (z | z)
            · exact .inl (.inl z)
            · by_cases e : x.2 = -1 + (j : Int)
              · exact .inr (Prod.ext z.1 e)
              · exact .inl (.inr (by omega))
      · rintro H3 ⟨s3, ps3, hD3, lp3, hp3⟩
        refine ⟨s3, ps3, hD3, by rw [Nat.succ_mul]; omega, fun x => ?_⟩
        rw [hp3]
        omega
    · rintro H2 ⟨s2, ps, hD, lp, hp⟩
      have m32 : ((h : Int) + 1 - -1).toNat * (wd + 2) ≤ 32 * 32 := Nat.mul_le_mul (by omega) (by omega)
      refine q H2 D ps (backS e1 nD) (e1.trans s2) hD (by omega) fun x => ?_
      rw [hp]
      omega
def sp_is_still (C0 : Addr) : Sp := fun vs H Q _ => ∃ (l r : Addr) (h w : Nat) (A : Nat → Nat → Option Bool) (bs ss : List Int), vs = [.ref l, .ref r] ∧ PicAt H l h w A ∧ 1 ≤ h ∧ h ≤ 30 ∧ w ≤ 30 ∧ RuleAt C0 H r bs ss ∧
  ∀ (H' : Hp) (b : Bool), Same H H' → (b = true ↔ ∀ x : Pr, -1 ≤ x.1 → x.1 < (h : Int) + 1 → -1 ≤ x.2 → x.2 < (w : Int) + 1 → ¬ NineF bs ss none (nineOf (S24 h w A fun _ => none) x.1 x.2)) → Q (.bl b) H'
theorem ok_is_still (T : Txt K mg) : FnOk P w K mg base CX0 5 T.f_is_still T.d_is_still ["picture", "rule"] (sp_is_still T.C_Rule) := by
  refine T.F_is_still.ok sc_is_still (fun vs H Q E h => ?_) (fun cdv A outer s H vs Q E hr h => ?_)
  · obtain ⟨_, _, _, _, _, _, _, rfl, _⟩ := h
    rfl
  · obtain ⟨l, r, h, wd, A2, bs, ss, rfl, hl, h1, lh, lw, hR, q⟩ := h
    refine ⟨_, (pss_one (ps_ret (pe_not (pe_callB (cr_any rfl) (by rfl) T.z_any (by decide +kernel) (pa_cons (pe_lc (own := [("row", 2), ("column", 3)]) (tt := tYes) rfl sc_is_still.nd (pi_keys (pe_frz (pe_call (ok_places T) (hr.mono (by decide)) (by rfl) T.g_places T.F_places.kp T.b_places .nil pass0 (pa_cons (pv 0) pa_nil)))) (blkOk_by (own := [("row", 2), ("column", 3)]) (N := N_is_still) (sc := defScope s_is_still) (by decide +kernel)) (fun _ _ _ _ _ => (pg_tupK (K := K) (n := 2) rfl rfl (pgs_cons (pg_name (i := 2) sc_is_still.nd rfl (.inl rfl)) (pgs_cons (pg_name (i := 3) sc_is_still.nd rfl (.inl rfl)) pgs_nil)))) (fun _ _ _ _ _ => pts_nil) (fun _ _ _ _ _ => (pe_call (ok_place_fails T) (hr.mono (by decide)) (by rfl) T.g_place_fails T.F_place_fails.kp T.b_place_fails .nil pass0 (pa_cons (pv 0) (pa_cons (pv 1) (pa_cons pe_dnewT (pa_cons (pv 2) (pa_cons (pv 3) pa_nil)))))))) pa_nil))))), ?_⟩
    refine ⟨_, rfl, l, h, wd, A2, rfl, hl, h1, lh, lw, fun H2 k ks n2 e2 hK few kin => ?_⟩
    obtain ⟨kvs, hk, hm⟩ := id hK
    have m30 : h * wd ≤ 30 * 30 := Nat.mul_le_mul (by omega) (by omega)
    refine ⟨k, kvs, rfl, hk, fun od => ?_⟩
    obtain ⟨Hf, hHf⟩ : ∃ Hf, Hf = upd H2 k (.frz od (.dT kvs)) := ⟨_, rfl⟩
    have gf : Hf k = some (.frz od (.dT kvs)) := by rw [hHf, upd_same]
    have sf : Same H Hf := by rw [hHf]; exact mutS e2 n2
    rw [← hHf]
    refine ⟨k, od, rfl, .inr ⟨kvs, gf, fun D nD => lc_it walk_keysT (fun i H' => Same Hf H' ∧ ∃ bl : List Bool, H' D = some (.lst (bl.map V.bl)) ∧ bl.length = i ∧ (bl.any id = true ↔ ∃ x ∈ ks.take i, NineF bs ss none (nineOf (S24 h wd A2 fun _ => none) x.1 x.2)))
      ⟨newS nD, [], upd_same, rfl, by simp⟩ (fun i H' _ p => p.1 _ _ gf) ?_ ?_⟩⟩
    · rintro i x H3 H4 hi ⟨s3, bl, g3, lb, hb⟩ ⟨rfl, kk, v, q0, e, rfl, hq0⟩
      obtain ⟨z, hz, rfl, rfl⟩ := hm.at e
      have li := (List.getElem?_eq_some_iff.mp hz).1
      obtain ⟨row, col⟩ := z
      refine ⟨q0, _, rfl, tup_of hq0, rfl, _, _, rfl, _, _, rfl, rfl, wipe2 _ 2 3 _ _, tyesT ⟨_, rfl, _, rfl, fun dd ndd => ?_⟩⟩
      k_invariant "new" (ndd, H5, e5, g5)
      refine ⟨_, rfl, _, rfl, l, r, dd, h, wd, row, col, A2, fun _ => none, bs, ss, rfl, (sf.trans (s3.trans e5)) _ _ hl, h1, by omega, by omega, by omega, ⟨[], fun _ => true, Dct.new _ g5, Nat.zero_le _, fun x => rfl⟩, hR.up (sf.trans (s3.trans e5)), fun H6 b e6 hbb => ?_⟩
      refine ⟨_, e6 _ _ (e5 _ _ g3), ?_, mutS ((s3.trans e5).trans e6) nD, bl ++ [b], ?_, by rw [List.length_append, lb]; rfl, ?_⟩
      · rw [List.length_map, sizeLine_eq]
        omega
      · rw [upd_same, List.map_append]
        rfl
      · rw [List.any_append, Bool.or_eq_true, hb, take_next hz]
        constructor
        · rintro (⟨x, m, f⟩ | f)
          · exact ⟨x, List.mem_append.mpr (.inl m), f⟩
          · refine ⟨_, List.mem_append.mpr (.inr List.mem_cons_self), hbb.mp ?_⟩
            simpa using f
        · rintro ⟨x, m, f⟩
          rcases List.mem_append.mp m with m | m
          · exact .inl ⟨x, m, f⟩
          · rw [List.mem_singleton.mp m] at f
            refine .inr ?_
            have := hbb.mpr f
            simp [this]
    · rintro H3 ⟨s3, bl, g3, lb, hb⟩
      rw [hm.len, List.take_of_length_le (Nat.le_refl _)] at hb
      refine ⟨D, bl, rfl, lst_of g3, _, rfl, q H3 _ (sf.trans s3) ?_⟩
      rw [Bool.not_eq_true', ← Bool.not_eq_true, hb]
      constructor
      · intro no x x1 x2 x3 x4 f
        exact no ⟨x, (kin _).mpr ⟨x1, x2, x3, x4⟩, f⟩
      · rintro all ⟨x, m, f⟩
        obtain ⟨x1, x2, x3, x4⟩ := (kin x).mp m
        exact all x x1 x2 x3 x4 f
end
end My
namespace My
open PySem PySem.Spec PyProof.Rows L2 Vx
open TL
local macro_rules | `(tactic| k_invariant "new" ($n, $H:ident, $e:ident, $h:ident)) => `(tactic| (generalize hE : upd _ _ _ = $H; obtain ⟨$e:ident, $h:ident⟩ := gen_e hE $n; clear hE))
local macro_rules | `(tactic| k_places) => `(tactic| first
  | assumption
  | exact lst_of (by assumption)
  | exact tup_of (by assumption)
  | (refine getS (by assumption) ?_; k_places)
  | (refine Same.seq (by assumption) ?_; k_places)
  | (refine tupS (by assumption) ?_; k_places)
  | (refine lst_of ?_; k_places)
  | (refine tup_of ?_; k_places))
local macro_rules | `(tactic| k_subL) => `(tactic| first
  | k_places
  | solve_by_elim (maxDepth := 10) [getS, lst_of, tup_of, Same.seq, tupS])
local macro_rules | `(tactic| k_offL) => `(tactic| first
  | (show (0 : Int) < _; first | omega | decide)
  | (refine ⟨?_, ?_⟩ <;> first | omega | decide)
  | exact .inr ⟨by decide, by decide⟩
  | exact .inl ⟨by decide, by decide⟩
  | exact .inl ⟨by omega, by omega⟩
  | omega)
local macro_rules | `(tactic| k_clsL) => `(tactic| exact Nat.le_of_ble_eq_true rfl)
local macro_rules | `(tactic| k_upd) => `(tactic| simp only [L2.start, List.map_cons, List.map_nil, List.length_cons, List.length_nil, List.replicate_succ, List.replicate_zero, List.cons_append, List.nil_append, List.set_cons_zero, List.set_cons_succ])
section
variable {P : Program} {w : World} {K : PySem.W.Frag} {mg : Str → Option Value} {base : Heap}
def Good (lo : Int) (l : List Int) : Prop := l.Pairwise (· < ·) ∧ (∀ b ∈ l, lo ≤ b ∧ b ≤ 8) ∧ l.length ≤ 9
theorem pow9 : ∀ n : Nat, n ≤ 9 → 0 < (2 : Int) ^ n ∧ (2 : Int) ^ n ≤ 512 := by decide
theorem good_snoc {lo hi : Int} {l : List Int} (h1 : l.Pairwise (· < ·)) (h2 : ∀ b ∈ l, lo ≤ b ∧ b < hi) (h : lo ≤ hi) : (l ++ [hi]).Pairwise (· < ·) ∧ ∀ b ∈ l ++ [hi], lo ≤ b ∧ b < hi + 1 := by
  constructor
  · rw [List.pairwise_append]
    refine ⟨h1, by simp, fun a ha b hb => ?_⟩
    rw [List.mem_singleton.mp hb]
    exact (h2 a ha).2
  · intro b hb
    rcases List.mem_append.mp hb with hb | hb
    · have := h2 b hb
      omega
    · rw [List.mem_singleton.mp hb]
      omega
def sp_law_numbers : Sp := fun vs H Q _ => ∃ (cell : Int), vs = [.int cell] ∧
  ∀ (H' : Hp) (p pb ps : Addr) (bs ss : List Int), Same H H' → H' p = some (.tup [.ref pb, .ref ps]) → H' pb = some (.lst (bs.map V.int)) → H' ps = some (.lst (ss.map V.int)) → Good 1 bs → Good 0 ss → Q (.ref p) H'
theorem ok_law_numbers (T : Txt K mg) : FnOk P w K mg base CX0 1 T.f_law_numbers T.d_law_numbers ["cell"] sp_law_numbers := by
  refine T.F_law_numbers.ok sc_law_numbers (fun vs H Q E h => ?_) (fun cdv A outer s H vs Q E hr h => ?_)
  · obtain ⟨_, rfl, _⟩ := h
    rfl
  · obtain ⟨cell, rfl, q⟩ := h
    refine ⟨_, (pss_cons (ps_set (i := 1) sc_law_numbers.nd rfl (.inr rfl) (pe_callB call_abs (by rfl) T.z_abs (by decide +kernel) (pa_cons (pe_callTy call_intI (by rfl) T.z_int (by decide +kernel) (pa_cons (pv 0) pa_nil)) pa_nil)))
      (pss_cons (ps_setLc (i := 2) (own := [("k", 4)]) (g := gName 4) rfl sc_law_numbers.nd rfl rfl (sw_true rfl rfl rfl (by decide +kernel)) (pi_range2 (by rfl) T.z_range (pa_cons pe_int (pa_cons pe_int pa_nil))) (blkOk_by (own := [("k", 4)]) (N := N_law_numbers) (sc := defScope s_law_numbers) (by decide +kernel)) (fun _ _ _ _ _ => pg_name (i := 4) sc_law_numbers.nd rfl (Or.inl rfl)) (fun _ _ _ _ _ => pts_one (pt_cmpR op_eq (pe_op op_mod (pe_op op_fdiv (pv 1) (pe_op op_shl pe_int (pv 4))) pe_int) pe_int (nomark _))) (fun _ _ _ _ _ => (pv 4)))
      (pss_cons (ps_setLc (i := 3) (own := [("k", 4)]) (g := gName 4) rfl sc_law_numbers.nd rfl rfl (sw_true rfl rfl rfl (by decide +kernel)) (pi_range1 (by rfl) T.z_range (pa_cons pe_int pa_nil)) (blkOk_by (own := [("k", 4)]) (N := N_law_numbers) (sc := defScope s_law_numbers) (by decide +kernel)) (fun _ _ _ _ _ => pg_name (i := 4) sc_law_numbers.nd rfl (Or.inl rfl)) (fun _ _ _ _ _ => pts_one (pt_cmpR op_eq (pe_op op_mod (pe_op op_fdiv (pv 1) (pe_op op_shl pe_int (pv 4))) pe_int) pe_int (nomark _))) (fun _ _ _ _ _ => (pv 4)))
      (pss_cons (ps_if (pt_cmpR op_eq (pe_op op_mod (pe_op op_fdiv (pv 1) pe_int) pe_int) pe_int (nomark _))
      (pss_cons (ps_set (i := 2) sc_law_numbers.nd rfl (.inl rfl) (pe_ix ix_list (pe_lst (pa_cons (pe_lst (pa_cons pe_int pa_nil)) (pa_cons (pe_lst (pa_cons pe_int (pa_cons pe_int pa_nil))) (pa_cons (pe_lst (pa_cons pe_int pa_nil)) (pa_cons (pe_lst (pa_cons pe_int (pa_cons pe_int (pa_cons pe_int pa_nil)))) (pa_cons (pe_lst (pa_cons pe_int (pa_cons pe_int pa_nil))) pa_nil)))))) (pe_op op_mod (pe_op op_fdiv (pv 1) pe_int) pe_int) (fun _ _ => rfl)))
      (pss_one (ps_set (i := 3) sc_law_numbers.nd rfl (.inl rfl) (pe_ix ix_list (pe_lst (pa_cons (pe_lst (pa_cons pe_int (pa_cons pe_int pa_nil))) (pa_cons (pe_lst (pa_cons pe_int (pa_cons pe_int pa_nil))) (pa_cons (pe_lst pa_nil) (pa_cons (pe_lst (pa_cons pe_int (pa_cons pe_int (pa_cons pe_int (pa_cons pe_int pa_nil))))) (pa_cons (pe_lst (pa_cons pe_int (pa_cons pe_int (pa_cons pe_int pa_nil)))) pa_nil)))))) (pe_op op_mod (pe_op op_fdiv (pv 1) pe_int) pe_int) (fun _ _ => rfl)))))
      pss_nil)
      (pss_one (ps_ret (pe_tup (pa_cons (pv 2) (pa_cons (pv 3) pa_nil))))))))), ?_⟩
    refine ⟨_, rfl, _, rfl, _, rfl, ?_⟩
    generalize (if cell < 0 then -cell else cell) = x
    -- births
    refine ⟨1, 9, rfl, ⟨by decide, by decide, by decide, by decide⟩, fun p1 n1 => lc_range (lo := 1) (n := 8) (fun i H' => ∃ ys : List Int, Same H H' ∧ H' p1 = some (.lst (ys.map V.int)) ∧ ys.length ≤ i ∧ ys.Pairwise (· < ·) ∧ ∀ b ∈ ys, 1 ≤ b ∧ b < 1 + (i : Int))
      ⟨[], newS n1, upd_same, by simp, by simp, by simp⟩ ?_ ?_⟩
    · rintro i H' hi ⟨ys, sm, hp, hl, h1, h2⟩
      have pw := pow9 (1 + (i : Int)).toNat (by omega)
      refine ⟨rfl, _, rfl, _, rfl, _, _, rfl, rfl, ⟨by omega, by omega, by decide⟩, _, _, rfl, rfl, ⟨?_, ?_⟩, _, _, rfl, rfl, (by k_offL), rfl, _, rfl, ite2 (fun c => ?_) (fun c => ?_)⟩
      · show (0 : Int) < 1 * 2 ^ (1 + (i : Int)).toNat
        omega
      · show (1 : Int) * 2 ^ (1 + (i : Int)).toNat < 1073741824
        omega
      · have g := good_snoc h1 h2 (by omega)
        refine ⟨_, rfl, _, hp, ?_, ys ++ [1 + (i : Int)], mutS sm n1, ?_, by simp; omega, g.1, fun b hb => ?_⟩
        · rw [List.length_map]
          exact Nat.lt_of_lt_of_le (show ys.length < 100 by omega) (by decide)
        · rw [upd_same, List.map_append]
          rfl
        · have := g.2 b hb
          omega
      · exact ⟨ys, sm, hp, by omega, h1, fun b hb => by have := h2 b hb; omega⟩
    rintro H1 ⟨bs, e1, hb, lb, gb1, gb2⟩
    have gb : Good 1 bs := ⟨gb1, fun b h => by have := gb2 b h; omega, by omega⟩
    -- survival
    refine ⟨9, rfl, by decide, by decide, fun p2 n2 => lc_range (lo := 0) (n := 9) (fun i H' => ∃ ys : List Int, Same H1 H' ∧ H' p2 = some (.lst (ys.map V.int)) ∧ ys.length ≤ i ∧ ys.Pairwise (· < ·) ∧ ∀ b ∈ ys, 0 ≤ b ∧ b < 0 + (i : Int))
      ⟨[], newS n2, upd_same, by simp, by simp, by simp⟩ ?_ ?_⟩
    · rintro i H' hi ⟨ys, sm, hp, hl, h1, h2⟩
      have pw := pow9 (0 + (i : Int)).toNat (by omega)
      refine ⟨rfl, _, rfl, _, rfl, _, _, rfl, rfl, ⟨by omega, by omega, by decide⟩, _, _, rfl, rfl, ⟨?_, ?_⟩, _, _, rfl, rfl, (by k_offL), rfl, _, rfl, ite2 (fun c => ?_) (fun c => ?_)⟩
      · show (0 : Int) < 512 * 2 ^ (0 + (i : Int)).toNat
        omega
      · show (512 : Int) * 2 ^ (0 + (i : Int)).toNat < 1073741824
        omega
      · have g := good_snoc h1 h2 (by omega)
        refine ⟨_, rfl, _, hp, ?_, ys ++ [0 + (i : Int)], mutS sm n2, ?_, by simp; omega, g.1, fun b hb => ?_⟩
        · rw [List.length_map]
          exact Nat.lt_of_lt_of_le (show ys.length < 100 by omega) (by decide)
        · rw [upd_same, List.map_append]
          rfl
        · have := g.2 b hb
          omega
      · exact ⟨ys, sm, hp, by omega, h1, fun b hb => by have := h2 b hb; omega⟩
    rintro H2 ⟨ss, e2, hs, ls, gs1, gs2⟩
    have gs : Good 0 ss := ⟨gs1, fun b h => by have := gs2 b h; omega, by omega⟩
    have hb2 := getS e2 hb
    have e02 := e1.trans e2
    -- if
    refine ⟨_, rfl, _, _, rfl, rfl, ⟨by decide, by decide⟩, _, _, rfl, rfl, (by k_offL), rfl, _, rfl, ite2 (fun c => ?_) (fun c => ?_)⟩
    · refine ⟨by decide, fun a1 m1 => ?_⟩
      k_invariant "new" (m1, A1, ea1, h1)
      refine ⟨by decide, fun a2 m2 => ?_⟩
      k_invariant "new" (m2, A2, ea2, h2)
      refine ⟨by decide, fun a3 m3 => ?_⟩
      k_invariant "new" (m3, A3, ea3, h3)
      refine ⟨by decide, fun a4 m4 => ?_⟩
      k_invariant "new" (m4, A4, ea4, h4)
      refine ⟨by decide, fun a5 m5 => ?_⟩
      k_invariant "new" (m5, A5, ea5, h5)
      refine ⟨by k_clsL, fun a6 m6 => ?_⟩
      k_invariant "new" (m6, A6, ea6, h6)
      have pick : ∃ (pb : Addr) (l : List Int), atI [V.ref a1, .ref a2, .ref a3, .ref a4, .ref a5] (x / 786432 % 5) = some (.ref pb) ∧ A6 pb = some (.lst (l.map V.int)) ∧ Good 1 l := by
        have z0 := Int.emod_nonneg (x / 786432) (show (5 : Int) ≠ 0 by decide)
        have z1 := Int.emod_lt_of_pos (x / 786432) (show (0 : Int) < 5 by decide)
        generalize x / 786432 % 5 = j at z0 z1
        have : j = 0 ∨ j = 1 ∨ j = 2 ∨ j = 3 ∨ j = 4 := by omega
        rcases this with rfl | rfl | rfl | rfl | rfl
        · exact ⟨a1, [3], rfl, by k_subL, by unfold Good; decide⟩
        · exact ⟨a2, [3, 6], rfl, by k_subL, by unfold Good; decide⟩
        · exact ⟨a3, [2], rfl, by k_subL, by unfold Good; decide⟩
        · exact ⟨a4, [3, 7, 8], rfl, by k_subL, by unfold Good; decide⟩
        · exact ⟨a5, [2, 5], rfl, by k_subL, by unfold Good; decide⟩
      obtain ⟨pb, l, hpk, hl, gl⟩ := pick
      refine ⟨_, rfl, _, _, rfl, rfl, ⟨by decide, by decide⟩, _, _, rfl, rfl, (by k_offL), _, _, _, _, rfl, rfl, by k_subL, hpk, ?_⟩
      refine ⟨by decide, fun b1 m1 => ?_⟩
      k_invariant "new" (m1, B1, eb1, h1)
      refine ⟨by decide, fun b2 m2 => ?_⟩
      k_invariant "new" (m2, B2, eb2, h2)
      refine ⟨by decide, fun b3 m3 => ?_⟩
      k_invariant "new" (m3, B3, eb3, h3)
      refine ⟨by decide, fun b4 m4 => ?_⟩
      k_invariant "new" (m4, B4, eb4, h4)
      refine ⟨by decide, fun b5 m5 => ?_⟩
      k_invariant "new" (m5, B5, eb5, h5)
      refine ⟨by k_clsL, fun b6 m6 => ?_⟩
      k_invariant "new" (m6, B6, eb6, h6)
      have pick : ∃ (pb : Addr) (l : List Int), atI [V.ref b1, .ref b2, .ref b3, .ref b4, .ref b5] (x / 3932160 % 5) = some (.ref pb) ∧ B6 pb = some (.lst (l.map V.int)) ∧ Good 0 l := by
        have z0 := Int.emod_nonneg (x / 3932160) (show (5 : Int) ≠ 0 by decide)
        have z1 := Int.emod_lt_of_pos (x / 3932160) (show (0 : Int) < 5 by decide)
        generalize x / 3932160 % 5 = j at z0 z1
        have : j = 0 ∨ j = 1 ∨ j = 2 ∨ j = 3 ∨ j = 4 := by omega
        rcases this with rfl | rfl | rfl | rfl | rfl
        · exact ⟨b1, [2, 3], rfl, by k_subL, by unfold Good; decide⟩
        · exact ⟨b2, [2, 3], rfl, by k_subL, by unfold Good; decide⟩
        · exact ⟨b3, [], rfl, by k_subL, by unfold Good; decide⟩
        · exact ⟨b4, [2, 3, 4, 5], rfl, by k_subL, by unfold Good; decide⟩
        · exact ⟨b5, [3, 4, 6], rfl, by k_subL, by unfold Good; decide⟩
      obtain ⟨ps, m, hpk2, hm, gm⟩ := pick
      refine ⟨_, rfl, _, _, rfl, rfl, ⟨by decide, by decide⟩, _, _, rfl, rfl, (by k_offL), _, _, _, _, rfl, rfl, by k_subL, hpk2, ?_⟩
      refine ⟨_, rfl, _, rfl, by k_clsL, fun r nr => ?_⟩
      k_invariant "new" (nr, R1, er, hr1)
      exact q R1 r pb ps l m (e02.trans (ea1.trans (ea2.trans (ea3.trans (ea4.trans (ea5.trans (ea6.trans (eb1.trans (eb2.trans (eb3.trans (eb4.trans (eb5.trans (eb6.trans er))))))))))))) hr1 (by k_subL) (by k_subL) gl gm
    · refine ⟨_, rfl, _, rfl, by k_clsL, fun r nr => ?_⟩
      k_invariant "new" (nr, R1, er, hr1)
      exact q R1 r p1 p2 bs ss (e02.trans er) hr1 (by k_subL) (by k_subL) gb gs
end
end My
namespace My
open PySem PySem.Spec PyProof.Rows L2 Vx
open TL
local macro_rules | `(tactic| k_invariant "new" ($n, $H:ident, $e:ident, $h:ident)) => `(tactic| (generalize hE : upd _ _ _ = $H; obtain ⟨$e:ident, $h:ident⟩ := gen_e hE $n; clear hE))
local macro_rules | `(tactic| k_places) => `(tactic| first
  | assumption
  | exact lst_of (by assumption)
  | exact tup_of (by assumption)
  | (refine getS (by assumption) ?_; k_places)
  | (refine Same.seq (by assumption) ?_; k_places)
  | (refine tupS (by assumption) ?_; k_places)
  | (refine lst_of ?_; k_places)
  | (refine tup_of ?_; k_places))
local macro_rules | `(tactic| k_subL) => `(tactic| first
  | k_places
  | solve_by_elim (maxDepth := 10) [getS, lst_of, tup_of, Same.seq, tupS])
local macro_rules | `(tactic| k_offL) => `(tactic| first
  | (show (0 : Int) < _; first | omega | decide)
  | (refine ⟨?_, ?_⟩ <;> first | omega | decide)
  | exact .inr ⟨by decide, by decide⟩
  | exact .inl ⟨by decide, by decide⟩
  | exact .inl ⟨by omega, by omega⟩
  | omega)
local macro_rules | `(tactic| k_clsL) => `(tactic| exact Nat.le_of_ble_eq_true rfl)
local macro_rules | `(tactic| k_upd) => `(tactic| simp only [L2.start, List.map_cons, List.map_nil, List.length_cons, List.length_nil, List.replicate_succ, List.replicate_zero, List.cons_append, List.nil_append, List.set_cons_zero, List.set_cons_succ])
section
variable {P : Program} {w : World} {K : PySem.W.Frag} {mg : Str → Option Value} {base : Heap}
/-! ### what a dict holds, listed as pairs of key and value -/
def ItA (H : Hp) (D : Addr) (ps : List Pr) (g : Pr → Bool) : Prop := ∃ ts : List (Addr × Addr × Pr), H D = some (.lst (ts.map fun t => V.ref t.1)) ∧ (∀ t ∈ ts, H t.1 = some (.tup [.ref t.2.1, .bl (g t.2.2)]) ∧ H t.2.1 = some (.tup [.int t.2.2.1, .int t.2.2.2])) ∧ ts.map (·.2.2) = ps
theorem ItA.up {H H' : Hp} {D : Addr} {ps : List Pr} {g : Pr → Bool} (e : Same H H') (h : ItA H D ps g) : ItA H' D ps g := by
  obtain ⟨ts, h1, h2, h3⟩ := h
  exact ⟨ts, e _ _ h1, fun t m => ⟨e _ _ (h2 t m).1, e _ _ (h2 t m).2⟩, h3⟩
theorem ItA.mut {H : Hp} {D d : Addr} {ps : List Pr} {g : Pr → Bool} {u : HO} {o : Obj} {w : HO} (hd : H d = some (.frz o w)) (h : ItA H D ps g) : ItA (upd H d u) D ps g := by
  obtain ⟨ts, h1, h2, h3⟩ := h
  have off : ∀ b x, H b = some x → (∀ p q, x ≠ .frz p q) → upd H d u b = some x := fun b x e ne => by
    rw [upd_ne fun z => ?_]
    · exact e
    · rw [z, hd] at e
      exact ne _ _ (Option.some.inj e).symm
  exact ⟨ts, off _ _ h1 (fun _ _ z => by cases z), fun t m => ⟨off _ _ (h2 t m).1 (fun _ _ z => by cases z), off _ _ (h2 t m).2 (fun _ _ z => by cases z)⟩, h3⟩
def kvD (g : Pr → Bool) (x : Pr) : PyData := .tuple [pd x, .bool (g x)]
theorem dpAll_items {K : PySem.W.Frag} {H : Hp} {g : Pr → Bool} : ∀ {ts : List (Addr × Addr × Pr)}, (∀ t ∈ ts, H t.1 = some (.tup [.ref t.2.1, .bl (g t.2.2)]) ∧ H t.2.1 = some (.tup [.int t.2.2.1, .int t.2.2.2])) → DpAll K H (ts.map fun t => V.ref t.1) (ts.map fun t => kvD g t.2.2)
  | [], _ => .nil
  | t :: ts, h => .cons (.tup (tup_of (h t List.mem_cons_self).1) (.cons (.tup (tup_of (h t List.mem_cons_self).2) (.cons (.int _) (.cons (.int _) .nil))) (.cons (.bl _) .nil))) (dpAll_items fun u m => h u (List.mem_cons_of_mem _ m))
theorem ItA.dp {K : PySem.W.Frag} {H : Hp} {D : Addr} {ps : List Pr} {g : Pr → Bool} (h : ItA H D ps g) : ∃ xs, H D = some (.lst xs) ∧ DpAll K H xs (ps.map (kvD g)) := by
  obtain ⟨ts, h1, h2, h3⟩ := h
  refine ⟨_, h1, ?_⟩
  rw [← h3, List.map_map]
  exact dpAll_items h2
theorem kv_alike (g : Pr → Bool) (ps : List Pr) : W.AllAlike (ps.map (kvD g)) := fun d m e n => by
  obtain ⟨x, _, rfl⟩ := List.mem_map.mp m
  obtain ⟨y, _, rfl⟩ := List.mem_map.mp n
  rfl
theorem kv_sortable (g : Pr → Bool) (ps : List Pr) : W.Sortable (ps.map (kvD g)) := .inl fun d m => by
  obtain ⟨x, _, rfl⟩ := List.mem_map.mp m
  exact ⟨_, _, rfl⟩
theorem kv_depth (g : Pr → Bool) (ps : List Pr) : ∀ d ∈ ps.map (kvD g), d.depth ≤ 60 := fun d m => by
  obtain ⟨x, _, rfl⟩ := List.mem_map.mp m
  exact Nat.le_of_ble_eq_true rfl
theorem eqv_selfs : ∀ {l : List PyData}, (∀ d ∈ l, PyData.eqv d d = true) → PyData.eqvAll l l = true
  | [], _ => rfl
  | d :: l, h => by
    show (PyData.eqv d d && PyData.eqvAll l l) = true
    rw [h d List.mem_cons_self, eqv_selfs fun e m => h e (List.mem_cons_of_mem _ m)]
    rfl
/-- the pairs of what is held, sorted -/
def kvS (g : Pr → Bool) (ps : List Pr) : List PyData := (ps.map (kvD g)).mergeSort (W.dataLe false id)
theorem kvS_eqv (g : Pr → Bool) (ps : List Pr) : PyData.eqv (.list (kvS g ps)) (.list (kvS g ps)) = true := by
  show PyData.eqvAll (kvS g ps) (kvS g ps) = true
  refine eqv_selfs fun d m => ?_
  obtain ⟨x, _, rfl⟩ := List.mem_map.mp ((List.mergeSort_perm _ _).mem_iff.mp m)
  simp [kvD, pd, PyData.eqv, PyData.eqvAll]
theorem lc_items {d : Addr} {od : Obj} {kvs : List (List L2.Key × V)} {ps : List Pr} {w : Pr → Bool} {vs : List Nat} {σ : L2.St} {H1 : Hp} {D : Addr} {Qd : Hp → Prop} {g : TG} {tt : TT} {te : TE} (hm : MapP kvs ps fun x => .bl (w x)) (hD : H1 d = some (.frz od (.dT kvs))) (nD : H1 D = none) (few : ps.length < sizeLine)
    (hs : ∀ (t : Addr) (x : Pr) (H' : Hp) (Po : V → Hp → Prop) (Pn : Hp → Prop), H' t = some (.tup [.int x.1, .int x.2]) → DGet H' d (.ref t) (some (.bl (w x))) → (∀ t2, H' t2 = none → Po (.ref t2) (upd H' t2 (.tup [.ref t, .bl (w x)]))) →
      g (.ref t) (wipe σ vs) H' fun σ2 H2 => wipe σ2 vs = wipe σ vs ∧ tt σ2 H2 fun b H3 => if b = true then te σ2 H3 Po else Pn H3)
    (hd : ∀ H', Same H1 H' → ItA H' D ps w → Qd H') :
    ∃ W : Nat → Nat → Hp → Prop, (∃ m, W 0 m (upd H1 D (.lst []))) ∧ ∀ i m H, W i m H →
      ((Itkt d od kvs).stop i H ∧ Qd H) ∨ ((Itkt d od kvs).go i H ∧ ∃ Nx : Hp → Prop, (∀ H', Nx H' → ∃ m', m' < m ∧ W (i + 1) m' H') ∧ ∀ x H', (Itkt d od kvs).yld i H x H' → g x (wipe σ vs) H' fun σ2 H2 => wipe σ2 vs = wipe σ vs ∧ tt σ2 H2 fun b H3 =>
        if b = true then te σ2 H3 fun y H4 => ∃ acc, H4 D = some (.lst acc) ∧ acc.length < sizeLine ∧ Nx (upd H4 D (.lst (acc ++ [y]))) else Nx H3) := by
  have hK := hm.keys
  have len := hK.len
  refine lc_it walk_keysT (fun i H' => Same H1 H' ∧ ItA H' D (ps.take i) w)
    ⟨newS nD, [], upd_same, fun _ m => (by cases m), rfl⟩ (fun i H' _ p => p.1 _ _ hD) ?_ ?_
  · rintro i x H' H2 hi ⟨sm, us, h1, h2, h3⟩ ⟨rfl, k, v, q, e, rfl, hq⟩
    obtain ⟨y, hy, rfl, rfl⟩ := hm.at e
    have ul : us.length = i := by
      have z := congrArg List.length h3
      rw [List.length_map, List.length_take] at z
      omega
    have hg : DGet H2 d (.ref q) (some (.bl (w y))) := .inr ⟨kvs, keyP y, q, .inr ⟨od, sm _ _ hD⟩, rfl, hq, by rw [hm.get y, if_pos (List.mem_of_getElem? hy)]⟩
    refine hs q y _ _ _ hq hg fun t2 n2 => ?_
    have e2 : Same H2 (upd H2 t2 (.tup [.ref q, .bl (w y)])) := newS n2
    have g2 : upd H2 t2 (.tup [.ref q, .bl (w y)]) t2 = some (.tup [.ref q, .bl (w y)]) := upd_same
    generalize upd H2 t2 (.tup [.ref q, .bl (w y)]) = H3 at e2 g2 ⊢
    have h1' := e2 _ _ h1
    have off : ∀ (z : Addr) (ys xs : List V), H3 z = some (.tup ys) → upd H3 D (.lst xs) z = some (.tup ys) := fun z ys xs g => by
      rw [upd_ne (fun e => ?_)]
      · exact g
      · rw [e, h1'] at g
        cases g
    refine ⟨_, h1', ?_, mutS (sm.trans e2) nD, us ++ [(t2, q, y)], ?_, ?_, ?_⟩
    · rw [List.length_map]
      omega
    · rw [upd_same, List.map_append]
      rfl
    · intro u m
      rcases List.mem_append.mp m with m | m
      · exact ⟨off _ _ _ (e2 _ _ (h2 u m).1), off _ _ _ (e2 _ _ (h2 u m).2)⟩
      · rw [List.mem_singleton.mp m]
        exact ⟨off _ _ _ g2, off _ _ _ (e2 _ _ hq)⟩
    · rw [List.map_append, h3, take_next hy]
      rfl
  · rintro H' ⟨sm, h⟩
    refine hd H' sm ?_
    rw [List.take_of_length_le (by omega)] at h
    exact h
mutual
theorem dp_up {K : PySem.W.Frag} {H H' : Hp} (e : Same H H') : ∀ {v : V} {d : PyData}, Dp K H v d → Dp K H' v d
  | _, _, .non => .non
  | _, _, .bl b => .bl b
  | _, _, .int i => .int i
  | _, _, .str x => .str x
  | _, _, .lst h a => .lst (Same.seq e h) (dpAll_up e a)
  | _, _, .tup h a => .tup (tupS e h) (dpAll_up e a)
theorem dpAll_up {K : PySem.W.Frag} {H H' : Hp} (e : Same H H') : ∀ {xs : List V} {ds : List PyData}, DpAll K H xs ds → DpAll K H' xs ds
  | _, _, .nil => .nil
  | _, _, .cons a b => .cons (dp_up e a) (dpAll_up e b)
end
theorem depAll_of : ∀ {l : List PyData} {n : Nat}, (∀ d ∈ l, d.depth ≤ n) → PyData.depthAll l ≤ n
  | [], n, _ => Nat.zero_le n
  | d :: l, n, h => by
    show max d.depth (PyData.depthAll l) ≤ n
    exact Nat.max_le.mpr ⟨h d List.mem_cons_self, depAll_of fun e m => h e (List.mem_cons_of_mem _ m)⟩
theorem canAll_of : ∀ {l : List PyData}, (∀ d ∈ l, d.canLay0 = true) → PyData.canLayAll0 l = true
  | [], _ => rfl
  | d :: l, h => by
    show (d.canLay0 && PyData.canLayAll0 l) = true
    rw [h d List.mem_cons_self, canAll_of fun e m => h e (List.mem_cons_of_mem _ m)]
    rfl
theorem shaped_kvS (g : Pr → Bool) (ps : List Pr) : SeqAt.shaped (.list (kvS g ps)) = true := by
  have m : ∀ d ∈ kvS g ps, ∃ x, d = kvD g x := fun d m => by
    obtain ⟨x, _, e⟩ := List.mem_map.mp ((List.mergeSort_perm _ _).mem_iff.mp m)
    exact ⟨x, e.symm⟩
  have h1 : PyData.depthAll (kvS g ps) ≤ 10 := depAll_of fun d h => by
    obtain ⟨x, rfl⟩ := m d h
    exact Nat.le_of_ble_eq_true rfl
  have h2 : PyData.canLayAll0 (kvS g ps) = true := canAll_of fun d h => by
    obtain ⟨x, rfl⟩ := m d h
    rfl
  unfold SeqAt.shaped
  simp only [PyData.canLay0, PyData.depth, h2]
  simp
  omega
end
end My
namespace My
open PySem PySem.Spec PyProof.Rows L2 Vx
open TL
local macro_rules | `(tactic| k_invariant "new" ($n, $H:ident, $e:ident, $h:ident)) => `(tactic| (generalize hE : upd _ _ _ = $H; obtain ⟨$e:ident, $h:ident⟩ := gen_e hE $n; clear hE))
local macro_rules | `(tactic| k_places) => `(tactic| first
  | assumption
  | exact lst_of (by assumption)
  | exact tup_of (by assumption)
  | (refine getS (by assumption) ?_; k_places)
  | (refine Same.seq (by assumption) ?_; k_places)
  | (refine tupS (by assumption) ?_; k_places)
  | (refine lst_of ?_; k_places)
  | (refine tup_of ?_; k_places))
local macro_rules | `(tactic| k_subL) => `(tactic| first
  | k_places
  | solve_by_elim (maxDepth := 10) [getS, lst_of, tup_of, Same.seq, tupS])
local macro_rules | `(tactic| k_offL) => `(tactic| first
  | (show (0 : Int) < _; first | omega | decide)
  | (refine ⟨?_, ?_⟩ <;> first | omega | decide)
  | exact .inr ⟨by decide, by decide⟩
  | exact .inl ⟨by decide, by decide⟩
  | exact .inl ⟨by omega, by omega⟩
  | omega)
local macro_rules | `(tactic| k_clsL) => `(tactic| exact Nat.le_of_ble_eq_true rfl)
local macro_rules | `(tactic| k_upd) => `(tactic| simp only [L2.start, List.map_cons, List.map_nil, List.length_cons, List.length_nil, List.replicate_succ, List.replicate_zero, List.cons_append, List.nil_append, List.set_cons_zero, List.set_cons_succ])
section
variable {P : Program} {w : World} {K : PySem.W.Frag} {mg : Str → Option Value} {base : Heap}
def nb (L : Int → Int → Bool) (r c : Int) : Nat :=
  (L (r - 1) (c - 1)).toNat + (L (r - 1) c).toNat + (L (r - 1) (c + 1)).toNat + (L r (c - 1)).toNat + (L r (c + 1)).toNat + (L (r + 1) (c - 1)).toNat + (L (r + 1) c).toNat + (L (r + 1) (c + 1)).toNat
def stepL (bs ss : List Int) (L : Int → Int → Bool) (r c : Int) : Bool := if L r c = true then decide ((nb L r c : Int) ∈ ss) else decide ((nb L r c : Int) ∈ bs)
def genL (bs ss : List Int) (L : Int → Int → Bool) : Nat → Int → Int → Bool
  | 0 => L
  | n + 1 => stepL bs ss (genL bs ss L n)
def memL (ps : List Pr) (r c : Int) : Bool := decide ((r, c) ∈ ps)
theorem stepL_near {bs ss : List Int} {L : Int → Int → Bool} {r c : Int} (hb : ∀ b ∈ bs, 1 ≤ b ∧ b ≤ 8) (h : stepL bs ss L r c = true) : ∃ r' c', r - 1 ≤ r' ∧ r' ≤ r + 1 ∧ c - 1 ≤ c' ∧ c' ≤ c + 1 ∧ L r' c' = true := by
  by_cases z : L r c = true
  · exact ⟨r, c, by omega, by omega, by omega, by omega, z⟩
  · unfold stepL at h
    rw [if_neg z] at h
    have m := hb _ (of_decide_eq_true h)
    refine Classical.byContradiction fun no => ?_
    have off : ∀ r' c', r - 1 ≤ r' → r' ≤ r + 1 → c - 1 ≤ c' → c' ≤ c + 1 → L r' c' = false := fun r' c' a1 a2 a3 a4 => by
      cases e : L r' c' with
      | false => rfl
      | true => exact absurd ⟨r', c', a1, a2, a3, a4, e⟩ no
    have e : nb L r c = 0 := by
      unfold nb
      rw [off (r - 1) (c - 1), off (r - 1) c, off (r - 1) (c + 1), off r (c - 1), off r (c + 1), off (r + 1) (c - 1), off (r + 1) c, off (r + 1) (c + 1)] <;> first | rfl | omega
    rw [e] at m
    omega
theorem stepL_congr {bs ss : List Int} {L M : Int → Int → Bool} (h : ∀ r c, L r c = M r c) (r c : Int) : stepL bs ss L r c = stepL bs ss M r c := by
  have e : L = M := funext fun r => funext fun c => h r c
  rw [e]
theorem gen_box {bs ss : List Int} {L : Int → Int → Bool} {r0 r1 c0 c1 : Int} (hb : ∀ b ∈ bs, 1 ≤ b ∧ b ≤ 8) (h : ∀ r c, L r c = true → r0 ≤ r ∧ r ≤ r1 ∧ c0 ≤ c ∧ c ≤ c1) :
    ∀ n r c, genL bs ss L n r c = true → r0 - (n : Int) ≤ r ∧ r ≤ r1 + n ∧ c0 - (n : Int) ≤ c ∧ c ≤ c1 + n
  | 0, r, c, z => by
    have := h r c z
    omega
  | n + 1, r, c, z => by
    obtain ⟨r', c', a1, a2, a3, a4, z'⟩ := stepL_near hb z
    have := gen_box hb h n r' c' z'
    omega
theorem memL_congr {ps qs : List Pr} (h : ∀ x, x ∈ ps ↔ x ∈ qs) : memL ps = memL qs := funext fun r => funext fun c => by
  unfold memL
  rw [Bool.eq_iff_iff, decide_eq_true_iff, decide_eq_true_iff, h]
theorem box_lenN {ps : List Pr} {lo : Int} {w : Nat} (nd : ps.Nodup) (h : ∀ x ∈ ps, lo ≤ x.1 ∧ x.1 < lo + (w : Int) ∧ lo ≤ x.2 ∧ x.2 < lo + (w : Int)) : ps.length ≤ w * w := by
  have nd2 : (ps.map fun x => (x.1 - lo).toNat * w + (x.2 - lo).toNat).Nodup := by
    refine List.pairwise_map.mpr (nd.imp_of_mem fun {x y} mx my ne e => ne ?_)
    obtain ⟨a1, a2, a3, a4⟩ := h x mx
    obtain ⟨b1, b2, b3, b4⟩ := h y my
    have c1 : (x.2 - lo).toNat < w := by omega
    have c2 : (y.2 - lo).toNat < w := by omega
    have m1 : ((x.1 - lo).toNat * w + (x.2 - lo).toNat) / w = (x.1 - lo).toNat := by
      rw [Nat.mul_comm, Nat.mul_add_div (by omega), Nat.div_eq_of_lt c1, Nat.add_zero]
    have m2 : ((y.1 - lo).toNat * w + (y.2 - lo).toNat) / w = (y.1 - lo).toNat := by
      rw [Nat.mul_comm, Nat.mul_add_div (by omega), Nat.div_eq_of_lt c2, Nat.add_zero]
    have e1 : (x.1 - lo).toNat = (y.1 - lo).toNat := by rw [← m1, ← m2, e]
    rw [e1] at e
    exact Prod.ext (by omega) (by omega)
  have := nat_nodup_len _ (List.range (w * w)) nd2 fun k m => by
    obtain ⟨x, mx, rfl⟩ := List.mem_map.mp m
    obtain ⟨a1, a2, a3, a4⟩ := h x mx
    have c0 : (x.1 - lo).toNat + 1 ≤ w := by omega
    have c1 : (x.2 - lo).toNat < w := by omega
    rw [List.mem_range]
    have := Nat.mul_le_mul_right w c0
    rw [Nat.add_mul, Nat.one_mul] at this
    omega
  rwa [List.length_map, List.length_range] at this
/-! ### the law's own next generation -/
def nbq (qs : List Pr) (r c : Int) : Nat :=
  qs.count (r - 1, c - 1) + qs.count (r - 1, c) + qs.count (r - 1, c + 1) + qs.count (r, c - 1) + qs.count (r, c + 1) + qs.count (r + 1, c - 1) + qs.count (r + 1, c) + qs.count (r + 1, c + 1)
def nbr (y x : Pr) : Prop := y.1 - 1 ≤ x.1 ∧ x.1 ≤ y.1 + 1 ∧ y.2 - 1 ≤ x.2 ∧ x.2 ≤ y.2 + 1 ∧ x ≠ y
theorem nbq_nb {qs : List Pr} (nd : qs.Nodup) (r c : Int) : nbq qs r c = nb (memL qs) r c := by
  have e : ∀ p : Pr, qs.count p = (memL qs p.1 p.2).toNat := fun p => by
    unfold memL
    rw [List.Nodup.count nd]
    by_cases m : p ∈ qs
    · rw [if_pos m, decide_eq_true m]
      rfl
    · rw [if_neg m, decide_eq_false m]
      rfl
  unfold nbq nb
  rw [e, e, e, e, e, e, e, e]
theorem nbq_snoc (qs : List Pr) (y : Pr) (r c : Int) [Decidable (nbr y (r, c))] : nbq (qs ++ [y]) r c = nbq qs r c + if nbr y (r, c) then 1 else 0 := by
  have one : ∀ p : Pr, (qs ++ [y]).count p = qs.count p + if y = p then 1 else 0 := fun p => by
    rw [List.count_append, List.count_singleton]
    by_cases e : y = p
    · subst e
      simp
    · simp [e]
  obtain ⟨a, b⟩ := y
  unfold nbq
  rw [one, one, one, one, one, one, one, one]
  simp only [Prod.mk.injEq]
  by_cases h : nbr (a, b) (r, c)
  · rw [if_pos h]
    obtain ⟨h1, h2, h3, h4, h5⟩ := h
    have h5 : ¬ (r = a ∧ c = b) := fun z => h5 (Prod.ext z.1 z.2)
    dsimp only at h1 h2 h3 h4
    have c1 : a = r - 1 ∨ a = r ∨ a = r + 1 := by omega
    have c2 : b = c - 1 ∨ b = c ∨ b = c + 1 := by omega
    rcases c1 with e1 | e1 | e1 <;> rcases c2 with e2 | e2 | e2 <;> first
      | (exfalso; omega)
      | ((repeat (first | rw [if_neg (by omega)] | rw [if_pos (by omega)])); omega)
  · rw [if_neg h]
    have off : ∀ i j : Int, r - 1 ≤ i → i ≤ r + 1 → c - 1 ≤ j → j ≤ c + 1 → ¬ (i = r ∧ j = c) → ¬ (a = i ∧ b = j) := fun i j h1 h2 h3 h4 h5 h6 => h ⟨by dsimp only; omega, by dsimp only; omega, by dsimp only; omega, by dsimp only; omega, fun z => h5 (by
      have z1 : r = a := congrArg Prod.fst z
      have z2 : c = b := congrArg Prod.snd z
      omega)⟩
    rw [if_neg (off _ _ (by omega) (by omega) (by omega) (by omega) (by omega)), if_neg (off _ _ (by omega) (by omega) (by omega) (by omega) (by omega)), if_neg (off _ _ (by omega) (by omega) (by omega) (by omega) (by omega)), if_neg (off _ _ (by omega) (by omega) (by omega) (by omega) (by omega)),
      if_neg (off _ _ (by omega) (by omega) (by omega) (by omega) (by omega)), if_neg (off _ _ (by omega) (by omega) (by omega) (by omega) (by omega)), if_neg (off _ _ (by omega) (by omega) (by omega) (by omega) (by omega)), if_neg (off _ _ (by omega) (by omega) (by omega) (by omega) (by omega))]
    omega
end
end My
namespace My
open PySem PySem.Spec PyProof.Rows L2 Vx
open TL
local macro_rules | `(tactic| k_invariant "new" ($n, $H:ident, $e:ident, $h:ident)) => `(tactic| (generalize hE : upd _ _ _ = $H; obtain ⟨$e:ident, $h:ident⟩ := gen_e hE $n; clear hE))
local macro_rules | `(tactic| k_places) => `(tactic| first
  | assumption
  | exact lst_of (by assumption)
  | exact tup_of (by assumption)
  | (refine getS (by assumption) ?_; k_places)
  | (refine Same.seq (by assumption) ?_; k_places)
  | (refine tupS (by assumption) ?_; k_places)
  | (refine lst_of ?_; k_places)
  | (refine tup_of ?_; k_places))
local macro_rules | `(tactic| k_subL) => `(tactic| first
  | k_places
  | solve_by_elim (maxDepth := 10) [getS, lst_of, tup_of, Same.seq, tupS])
local macro_rules | `(tactic| k_offL) => `(tactic| first
  | (show (0 : Int) < _; first | omega | decide)
  | (refine ⟨?_, ?_⟩ <;> first | omega | decide)
  | exact .inr ⟨by decide, by decide⟩
  | exact .inl ⟨by decide, by decide⟩
  | exact .inl ⟨by omega, by omega⟩
  | omega)
local macro_rules | `(tactic| k_clsL) => `(tactic| exact Nat.le_of_ble_eq_true rfl)
local macro_rules | `(tactic| k_upd) => `(tactic| simp only [L2.start, List.map_cons, List.map_nil, List.length_cons, List.length_nil, List.replicate_succ, List.replicate_zero, List.cons_append, List.nil_append, List.set_cons_zero, List.set_cons_succ])
section
variable {P : Program} {w : World} {K : PySem.W.Frag} {mg : Str → Option Value} {base : Heap}
theorem nbq_zero {qs : List Pr} {x : Pr} (h : ∀ y ∈ qs, ¬ nbr y x) : nbq qs x.1 x.2 = 0 := by
  have z : ∀ p : Pr, nbr p x → qs.count p = 0 := fun p hp => List.count_eq_zero.mpr fun m => h p m hp
  obtain ⟨r, c⟩ := x
  have ne : ∀ i j : Int, ¬ (i = r ∧ j = c) → ((r, c) : Pr) ≠ (i, j) := fun i j h e => h ⟨(congrArg Prod.fst e).symm, (congrArg Prod.snd e).symm⟩
  have q : ∀ i j : Int, r - 1 ≤ i → i ≤ r + 1 → c - 1 ≤ j → j ≤ c + 1 → ¬ (i = r ∧ j = c) → qs.count ((i, j) : Pr) = 0 := fun i j a1 a2 a3 a4 a5 =>
    z (i, j) ⟨by dsimp only; omega, by dsimp only; omega, by dsimp only; omega, by dsimp only; omega, ne i j a5⟩
  unfold nbq
  dsimp only
  rw [q _ _ (by omega) (by omega) (by omega) (by omega) (by omega), q _ _ (by omega) (by omega) (by omega) (by omega) (by omega), q _ _ (by omega) (by omega) (by omega) (by omega) (by omega), q _ _ (by omega) (by omega) (by omega) (by omega) (by omega),
    q _ _ (by omega) (by omega) (by omega) (by omega) (by omega), q _ _ (by omega) (by omega) (by omega) (by omega) (by omega), q _ _ (by omega) (by omega) (by omega) (by omega) (by omega), q _ _ (by omega) (by omega) (by omega) (by omega) (by omega)]
theorem cnt_get {ks : List Pr} {g : Pr → Nat} {x : Pr} (h : x ∉ ks → g x = 0) : (if x ∈ ks then some (V.int ((g x : Nat) : Int)) else none).getD (.int 0) = .int ((g x : Nat) : Int) := by
  by_cases m : x ∈ ks
  · rw [if_pos m]
    rfl
  · rw [if_neg m, h m]
    rfl
theorem three {r : Int} {a : Nat} {v : V} (h : [V.int (r - 1), .int r, .int (r + 1)][a]? = some v) : v = .int (r - 1 + (a : Int)) ∧ a < 3 := by
  match a, h with
  | 0, h => exact ⟨(Option.some.inj h).symm.trans (by rw [show r - 1 + ((0 : Nat) : Int) = r - 1 by omega]), by decide⟩
  | 1, h => exact ⟨(Option.some.inj h).symm.trans (by rw [show r - 1 + ((1 : Nat) : Int) = r by omega]), by decide⟩
  | 2, h => exact ⟨(Option.some.inj h).symm.trans (by rw [show r - 1 + ((2 : Nat) : Int) = r + 1 by omega]), by decide⟩
  | _ + 3, h => cases h
theorem neT {i j : Int} (h : (!decide (V.int i = V.int j)) = true) : ¬ i = j := fun e => by
  rw [e] at h
  simp at h
theorem neF {i j : Int} (h : ¬ (!decide (V.int i = V.int j)) = true) : i = j := by
  simp at h
  exact h
def doneB (a b : Nat) (y x : Pr) : Prop := nbr y x ∧ (x.1 < y.1 - 1 + (a : Int) ∨ (x.1 = y.1 - 1 + (a : Int) ∧ x.2 < y.2 - 1 + (b : Int)))
instance (y x : Pr) : Decidable (nbr y x) := inferInstanceAs (Decidable (_ ∧ _))
instance (a b : Nat) (y x : Pr) : Decidable (doneB a b y x) := inferInstanceAs (Decidable (_ ∧ _))
def sp_law_next : Sp := fun vs H Q _ => ∃ (l lb ls : Addr) (ps : List Pr) (bs ss : List Int), vs = [.ref l, .ref lb, .ref ls] ∧ Cells H l ps ∧ H lb = some (.lst (bs.map V.int)) ∧ H ls = some (.lst (ss.map V.int)) ∧ (∀ b ∈ bs, 1 ≤ b ∧ b ≤ 8) ∧ ps.length < 100000 ∧
  ∀ (H' : Hp) (p : Addr) (qs : List Pr), H p = none → Same H H' → Cells H' p qs → qs.Pairwise ltP → (∀ x, x ∈ qs ↔ stepL bs ss (memL ps) x.1 x.2 = true) → Q (.ref p) H'
theorem ok_law_next (T : Txt K mg) : FnOk P w K mg base CX0 1 T.f_law_next T.d_law_next ["cells", "births", "survival"] sp_law_next := by
  refine T.F_law_next.ok sc_law_next (fun vs H Q E h => ?_) (fun cdv A outer s H vs Q E hr h => ?_)
  · obtain ⟨_, _, _, _, _, _, rfl, _⟩ := h
    rfl
  · obtain ⟨l, lb, ls, ps, bs, ss, rfl, hC, hB, hS, hb, few, q⟩ := h
    have hu : (A.deeper (envOfC (Str.ofString "_law_next") (defScope s_law_next) s.heap.objs.size T.f_law_next cdv)).units + 1 < cLine := by
      have := hr.units
      omega
    refine ⟨_, (pss_cons (ps_set (i := 3) sc_law_next.nd rfl (.inl rfl) pe_dnewT)
      (pss_cons (ps_set (i := 4) sc_law_next.nd rfl (.inl rfl) pe_dnewT)
      (pss_cons (ps_for PassesOwn.never rfl (pi_list (pv 0)) (pg_tupK (K := K) (n := 2) rfl rfl (pgs_cons (pg_name (i := 5) sc_law_next.nd rfl (.inl rfl)) (pgs_cons (pg_name (i := 6) sc_law_next.nd rfl (.inl rfl)) pgs_nil)))
      (pss_one (ps_dput hu (pv 4) (pe_tup (pa_cons (pv 5) (pa_cons (pv 6) pa_nil))) pe_bl rfl)))
      (pss_cons (ps_lock (ps_for PassesOwn.never rfl (pi_keys (pv 4)) (pg_tupK (K := K) (n := 2) rfl rfl (pgs_cons (pg_name (i := 5) sc_law_next.nd rfl (.inl rfl)) (pgs_cons (pg_name (i := 6) sc_law_next.nd rfl (.inl rfl)) pgs_nil)))
      (pss_cons (ps_dput hu (pv 3) (pe_tup (pa_cons (pv 5) (pa_cons (pv 6) pa_nil))) (pe_dget2 hu (pv 3) (pe_tup (pa_cons (pv 5) (pa_cons (pv 6) pa_nil))) pe_int ⟨rfl, rfl, rfl, rfl⟩) rfl)
      (pss_one (ps_for PassesOwn.never rfl (pi_list (pe_lst (pa_cons (pe_op op_sub (pv 5) pe_int) (pa_cons (pv 5) (pa_cons (pe_op op_add (pv 5) pe_int) pa_nil))))) (pg_name (i := 7) sc_law_next.nd rfl (.inl rfl))
      (pss_one (ps_for PassesOwn.never rfl (pi_list (pe_lst (pa_cons (pe_op op_sub (pv 6) pe_int) (pa_cons (pv 6) (pa_cons (pe_op op_add (pv 6) pe_int) pa_nil))))) (pg_name (i := 8) sc_law_next.nd rfl (.inl rfl))
      (pss_one (ps_if (PW.pt (pw_or (pt_cmpR op_ne (pv 7) (pv 5) (nomark _)) (pw_or1 (pt_cmpR op_ne (pv 8) (pv 6) (nomark _)))))
      (pss_one (ps_dput hu (pv 3) (pe_tup (pa_cons (pv 7) (pa_cons (pv 8) pa_nil))) (pe_op op_add (pe_dget2 hu (pv 3) (pe_tup (pa_cons (pv 7) (pa_cons (pv 8) pa_nil))) pe_int ⟨rfl, rfl, rfl, rfl⟩) pe_int) rfl))
      pss_nil)))))))))
      (pss_cons (ps_set (i := 9) sc_law_next.nd rfl (.inl rfl) (pe_lst pa_nil))
      (pss_cons (ps_lock (ps_for PassesOwn.never rfl (pi_keys (pv 3)) (pg_name (i := 10) sc_law_next.nd rfl (.inl rfl))
      (pss_one (ps_if (PW.pt (pw_or (PW.pt (pw_and (pt_cmp (pc_din hu (pv 10) (pv 4))) (pw_and1 (pt_cmpR op_in_seq (pe_dget hu (pv 3) (pv 10) (fun _ _ => rfl)) (pv 2) rfl)))) (pw_or1 (PW.pt (pw_and (pt_cmp (pc_dnotin hu (pv 10) (pv 4))) (pw_and1 (pt_cmpR op_in_seq (pe_dget hu (pv 3) (pv 10) (fun _ _ => rfl)) (pv 1) rfl)))))))
      (pss_one (ps_expr (pe_bm PySem.F.plainAttrs_list PySem.F.slot_list_append PySem.F.type_list_append mt_append (pv 9) (pa_cons (pv 10) pa_nil))))
      pss_nil))))
      (pss_one (ps_ret (pe_callB cr_sortedC (by rfl) T.z_sorted (by decide +kernel) (pa_cons (pv 9) pa_nil)))))))))), ?_⟩
    k_upd
    refine fun cd ncd => ?_
    k_invariant "new" (ncd, H1, e1, g1)
    k_upd
    refine fun ad nad => ?_
    k_invariant "new" (nad, H2, e2, g2)
    k_upd
    have ncad : cd ≠ ad := ne_of_none g1 nad
    have g1 := e2 _ _ g1
    obtain ⟨ts, hl, ht, ets⟩ := id hC
    have lts : ts.length = ps.length := by rw [← ets, List.length_map]
    have s02 := e1.trans e2
    refine ⟨_, rfl, l, rfl, ⟨_, lst_of (s02 _ _ hl)⟩, ?_⟩
    refine for_list (K := K) (a := l) (xs := ts.map fun t => V.ref t.1) (fun i σ H' => Same H1 H' ∧ (∃ x5 x6 : Option V, σ = [some (.ref l), some (.ref lb), some (.ref ls), some (.ref cd), some (.ref ad), x5, x6, none, none, none, none]) ∧
      ∃ qs, Dct H' ad qs (fun _ => .bl true) ∧ (∀ x, x ∈ qs ↔ x ∈ ps.take i) ∧ qs.length ≤ i)
      ⟨e2, ⟨_, _, rfl⟩, [], Dct.new _ g2, fun x => by simp, Nat.le_refl _⟩ (fun i σ H' _ p => lst_of (p.1 _ _ (e1 _ _ hl))) ?_ ?_
    · rintro i x σ H' hi ⟨sm, ⟨x5, x6, rfl⟩, qs, hD, mem, lq⟩
      obtain ⟨t, mt, rfl, hx⟩ := item_cells (H := H') hi rfl
      rw [ets] at hx
      have li : i < ps.length := (List.getElem?_eq_some_iff.mp hx).1
      have ht' := sm _ _ (e1 _ _ (ht t mt))
      refine ⟨t.1, _, rfl, tup_of ht', rfl, _, _, rfl, _, _, rfl, rfl, ?_⟩
      k_upd
      refine ⟨_, rfl, _, rfl, _, rfl, (by k_clsL), fun p4 n4 => ?_⟩
      k_invariant "new" (n4, H4, e4, g4)
      obtain ⟨H5, dp, pa⟩ := (hD.up e4).dput (x := t.2) (by rw [sizeLine_eq]; omega) g4 (.bl true)
      refine ⟨ad, H5, rfl, dp, pa.mut (sm.trans e4) nad, ⟨_, _, rfl⟩, addK qs t.2, pa.1.congr fun y _ => ?_, fun x => ?_, Nat.le_trans addK_len (Nat.add_le_add_right lq 1)⟩
      · unfold setG
        by_cases e : y = t.2
        · rw [if_pos e]
        · rw [if_neg e]
      · rw [mem_addK, mem, take_next hx, List.mem_append, List.mem_singleton]
    rintro σ H3 ⟨s13, ⟨x5, x6, rfl⟩, qs, hD, memq, lq⟩
    rw [List.length_map] at lq
    rw [List.length_map, List.take_of_length_le (by omega)] at memq
    have ndq : qs.Nodup := hD.choose_spec.2.2
    obtain ⟨kvs, gad, hm⟩ := hD
    have g1 := s13 _ _ (show H1 cd = _ from by assumption)
    refine ⟨ad, _, gad, trivial, fun od => ⟨_, rfl, ad, od, rfl, .inr ⟨kvs, upd_same, ?_⟩⟩⟩
    have h0 : Same H (upd H3 ad (.frz od (.dT kvs))) := mutS (e1.trans s13) (backS e1 nad)
    have h1 : upd H3 ad (.frz od (.dT kvs)) ad = some (.frz od (.dT kvs)) := upd_same
    have h2 : upd H3 ad (.frz od (.dT kvs)) cd = some (.dT []) := by rw [upd_ne ncad]; exact g1
    generalize upd H3 ad (.frz od (.dT kvs)) = Hf at h0 h1 h2 ⊢
    refine for_it walk_keysT (fun i σ H' => Same H H' ∧ H' ad = some (.frz od (.dT kvs)) ∧ (∃ x5 x6 x7 x8 : Option V, σ = [some (.ref l), some (.ref lb), some (.ref ls), some (.ref cd), some (.ref ad), x5, x6, x7, x8, none, none]) ∧
        ∃ ks, Dct H' cd ks (fun x => .int ((nbq (qs.take i) x.1 x.2 : Nat) : Int)) ∧ (∀ x, x ∈ ks ↔ ∃ y ∈ qs.take i, x = y ∨ nbr y x) ∧ ks.length ≤ 10 * i)
      ⟨h0, h1, ⟨_, _, _, _, rfl⟩, [], Dct.new _ h2, fun x => by simp, Nat.le_refl _⟩ (fun i σ H' _ p => p.2.1) ?_ ?_
    · rintro i x σ H2 H4 hi ⟨sm, had, ⟨x5, x6, x7, x8, rfl⟩, ks, hK, mk, lk⟩ ⟨rfl, k, v, q0, e, rfl, hq0⟩
      obtain ⟨y, hy, rfl, rfl⟩ := hm.at e
      have li : i < qs.length := (List.getElem?_eq_some_iff.mp hy).1
      obtain ⟨r, c⟩ := y
      have hq0 : _ = some (HO.tup [.int r, .int c]) := hq0
      refine ⟨q0, _, rfl, tup_of hq0, rfl, _, _, rfl, _, _, rfl, rfl, ?_⟩
      k_upd
      refine ⟨_, rfl, cd, rfl, hK.isD, _, rfl, _, rfl, (by k_clsL), fun p4 n4 => ?_⟩
      k_invariant "new" (n4, H5, e5, g5)
      refine ⟨_, (hK.up e5).dget (x := (r, c)) g5, ?_⟩
      rw [cnt_get (x := (r, c)) (g := fun x => nbq (qs.take i) x.1 x.2) fun nm => nbq_zero fun z mz nz => nm ((mk _).mpr ⟨z, mz, .inr nz⟩)]
      refine ⟨_, rfl, _, rfl, _, rfl, (by k_clsL), fun p6 n6 => ?_⟩
      k_invariant "new" (n6, H6, e6, g6)
      obtain ⟨H7, dp7, pa7⟩ := (hK.up (e5.trans e6)).dput (x := (r, c)) (by rw [sizeLine_eq]; omega) g6 (.int ((nbq (qs.take i) r c : Nat) : Int))
      have s7 := pa7.mut (sm.trans (e5.trans e6)) ncd
      refine ⟨cd, H7, rfl, dp7, ?_⟩
      have k7 : Dct H7 cd (addK ks (r, c)) (fun x => .int ((nbq (qs.take i) x.1 x.2 + (if doneB 0 0 (r, c) x then 1 else 0) : Nat) : Int)) := pa7.1.congr fun x m => by
        have n0 : ¬ doneB 0 0 (r, c) x := fun z => by
          obtain ⟨⟨a1, a2, a3, a4, a5⟩, b1⟩ := z
          dsimp only at a1 a2 a3 a4 b1
          omega
        rw [if_neg n0]
        unfold setG
        by_cases e : x = (r, c)
        · rw [if_pos e, e]
          rfl
        · rw [if_neg e]
          rfl
      have m7 : ∀ x, x ∈ addK ks (r, c) ↔ (∃ y ∈ qs.take i, x = y ∨ nbr y x) ∨ x = (r, c) ∨ doneB 0 0 (r, c) x := fun x => by
        rw [mem_addK, mk]
        refine ⟨fun z => z.elim .inl fun z => .inr (.inl z), fun z => z.elim .inl fun z => z.elim .inr fun z => ?_⟩
        obtain ⟨⟨a1, a2, a3, a4, a5⟩, b1⟩ := z
        dsimp only at a1 a2 a3 a4 b1
        omega
      have ad7 : H7 ad = some (.frz od (.dT kvs)) := by
        rw [pa7.2 ad fun e => ncad e.symm]
        exact e6 _ _ (e5 _ _ had)
      k_upd
      refine ⟨_, rfl, _, _, rfl, rfl, _, rfl, _, rfl, _, _, rfl, rfl, (by k_clsL), fun li1 nli1 => ?_⟩
      have ncl : li1 ≠ cd := k7.ne nli1
      k_invariant "new" (nli1, H8, e8, g8)
      have ad8 := e8 _ _ ad7
      have k8 := k7.up e8
      have l8 : (addK ks (r, c)).length ≤ 10 * i + 1 := Nat.le_trans addK_len (by omega)
      refine ⟨li1, rfl, ⟨_, lst_of g8⟩, ?_⟩
      refine for_list (K := K) (a := li1) (xs := [V.int (r - 1), .int r, .int (r + 1)]) (fun a σ H' => Same H H' ∧ H' ad = some (.frz od (.dT kvs)) ∧ H' li1 = some (.lst [.int (r - 1), .int r, .int (r + 1)]) ∧
          (∃ x7 x8 : Option V, σ = [some (.ref l), some (.ref lb), some (.ref ls), some (.ref cd), some (.ref ad), some (.int r), some (.int c), x7, x8, none, none]) ∧
          ∃ ks', Dct H' cd ks' (fun x => .int ((nbq (qs.take i) x.1 x.2 + (if doneB a 0 (r, c) x then 1 else 0) : Nat) : Int)) ∧ (∀ x, x ∈ ks' ↔ (∃ y ∈ qs.take i, x = y ∨ nbr y x) ∨ x = (r, c) ∨ doneB a 0 (r, c) x) ∧ ks'.length ≤ 10 * i + 1 + 3 * a)
        ⟨s7.trans e8, ad8, g8, ⟨_, _, rfl⟩, _, k8, m7, l8⟩ (fun a σ H' _ p => lst_of p.2.2.1) ?_ ?_
      · rintro a v σ H9 ha ⟨s9, ad9, g9, ⟨x7, x8, rfl⟩, ks9, k9, m9, l9⟩
        obtain ⟨rfl, a3⟩ := three ha
        k_upd
        refine ⟨_, rfl, _, _, rfl, rfl, _, rfl, _, rfl, _, _, rfl, rfl, (by k_clsL), fun li2 nli2 => ?_⟩
        k_invariant "new" (nli2, H10, e10, g10)
        have nl2 : li2 ≠ cd := k9.ne nli2
        refine ⟨li2, rfl, ⟨_, lst_of g10⟩, ?_⟩
        refine for_list (K := K) (a := li2) (xs := [V.int (c - 1), .int c, .int (c + 1)]) (fun b σ H' => Same H H' ∧ H' ad = some (.frz od (.dT kvs)) ∧ H' li1 = some (.lst [.int (r - 1), .int r, .int (r + 1)]) ∧ H' li2 = some (.lst [.int (c - 1), .int c, .int (c + 1)]) ∧
            (∃ x8 : Option V, σ = [some (.ref l), some (.ref lb), some (.ref ls), some (.ref cd), some (.ref ad), some (.int r), some (.int c), some (.int (r - 1 + (a : Int))), x8, none, none]) ∧
            ∃ ks', Dct H' cd ks' (fun x => .int ((nbq (qs.take i) x.1 x.2 + (if doneB a b (r, c) x then 1 else 0) : Nat) : Int)) ∧ (∀ x, x ∈ ks' ↔ (∃ y ∈ qs.take i, x = y ∨ nbr y x) ∨ x = (r, c) ∨ doneB a b (r, c) x) ∧ ks'.length ≤ 10 * i + 1 + 3 * a + b)
          ⟨s9.trans e10, e10 _ _ ad9, e10 _ _ g9, g10, ⟨_, rfl⟩, _, k9.up e10, m9, l9⟩ (fun b σ H' _ p => lst_of p.2.2.2.1) ?_ ?_
        · rintro b v σ H11 hb' ⟨s11, ad11, g11, g12, ⟨x8, rfl⟩, ks11, k11, m11, l11⟩
          obtain ⟨rfl, b3⟩ := three hb'
          k_upd
          refine ⟨_, rfl, _, rfl, rfl, _, rfl, ite2 (fun c1 => iteT ?_) (fun c1 => ⟨_, rfl, _, rfl, rfl, _, rfl, ite2 (fun c2 => ?_) (fun c2 => ?_)⟩)⟩
          rotate_left 2
          · have z1 := neF c1
            have z2 := neF c2
            have same : ∀ x, doneB a (b + 1) (r, c) x ↔ doneB a b (r, c) x := fun x => by
              unfold doneB nbr
              dsimp only
              refine ⟨fun ⟨h, h2⟩ => ⟨h, ?_⟩, fun ⟨h, h2⟩ => ⟨h, ?_⟩⟩
              · rcases h2 with h2 | ⟨h2, h3⟩
                · exact .inl h2
                · have n3 : ¬ x.2 = c - 1 + (b : Int) := fun e => h.2.2.2.2 (Prod.ext (by dsimp only; omega) (by dsimp only; omega))
                  exact .inr ⟨h2, by omega⟩
              · rcases h2 with h2 | ⟨h2, h3⟩
                · exact .inl h2
                · exact .inr ⟨h2, by omega⟩
            refine ⟨s11, ad11, g11, g12, ⟨_, rfl⟩, ks11, k11.congr fun x _ => ?_, fun x => ?_, by omega⟩
            · simp only [same]
            · rw [m11, same]
          all_goals
            have hne : ¬ (r - 1 + (a : Int) = r ∧ c - 1 + (b : Int) = c) := by
              first
                | exact fun z => neT c1 z.1
                | exact fun z => neT c2 z.2
            have nbx : nbr (r, c) (r - 1 + (a : Int), c - 1 + (b : Int)) := ⟨by dsimp only; omega, by dsimp only; omega, by dsimp only; omega, by dsimp only; omega, fun e => hne ⟨congrArg Prod.fst e, congrArg Prod.snd e⟩⟩
            have nd0 : ¬ doneB a b (r, c) (r - 1 + (a : Int), c - 1 + (b : Int)) := fun z => by
              obtain ⟨_, z⟩ := z
              dsimp only at z
              omega
            have step : ∀ x, doneB a (b + 1) (r, c) x ↔ doneB a b (r, c) x ∨ x = (r - 1 + (a : Int), c - 1 + (b : Int)) := fun x => by
              constructor
              · rintro ⟨h, h2⟩
                rcases h2 with h2 | ⟨h2, h3⟩
                · exact .inl ⟨h, .inl h2⟩
                · by_cases e : x.2 = c - 1 + (b : Int)
                  · exact .inr (Prod.ext h2 e)
                  · exact .inl ⟨h, .inr ⟨h2, by dsimp only at h3 ⊢; omega⟩⟩
              · rintro (⟨h, h2⟩ | e)
                · refine ⟨h, ?_⟩
                  rcases h2 with h2 | ⟨h2, h3⟩
                  · exact .inl h2
                  · exact .inr ⟨h2, by omega⟩
                · rw [e]
                  exact ⟨nbx, .inr ⟨rfl, by dsimp only; omega⟩⟩
            refine ⟨_, rfl, cd, rfl, k11.isD, _, rfl, _, rfl, (by k_clsL), fun p12 n12 => ?_⟩
            k_invariant "new" (n12, H12, e12, g13)
            refine ⟨_, (k11.up e12).dget (x := (r - 1 + (a : Int), c - 1 + (b : Int))) g13, ?_⟩
            rw [cnt_get (x := (r - 1 + (a : Int), c - 1 + (b : Int))) (g := fun x => nbq (qs.take i) x.1 x.2 + (if doneB a b (r, c) x then 1 else 0)) fun nm => ?_]
            rotate_left
            · dsimp only
              rw [if_neg nd0, nbq_zero (x := (r - 1 + (a : Int), c - 1 + (b : Int))) fun z mz nz => nm ((m11 _).mpr (.inl ⟨z, mz, .inr nz⟩))]
            dsimp only
            rw [if_neg nd0, Nat.add_zero]
            refine ⟨_, _, rfl, rfl, _, rfl, _, rfl, _, rfl, (by k_clsL), fun p14 n14 => ?_⟩
            k_invariant "new" (n14, H14, e14, g14)
            have fewk : ks11.length < sizeLine := by rw [sizeLine_eq]; omega
            obtain ⟨H15, dp15, pa15⟩ := (k11.up (e12.trans e14)).dput (x := (r - 1 + (a : Int), c - 1 + (b : Int))) fewk g14 (.int ((nbq (qs.take i) (r - 1 + (a : Int)) (c - 1 + (b : Int)) : Nat) + 1 : Int))
            have off : ∀ (p : Addr) (o : HO), H11 p = some o → p ≠ cd → H15 p = some o := fun p o e n => by
              rw [pa15.2 p n]
              exact e14 _ _ (e12 _ _ e)
            refine ⟨cd, H15, rfl, dp15, pa15.mut (s11.trans (e12.trans e14)) ncd, off _ _ ad11 (fun e => ncad e.symm), off _ _ g11 ncl, off _ _ g12 nl2, ⟨_, rfl⟩, addK ks11 (r - 1 + (a : Int), c - 1 + (b : Int)), pa15.1.congr fun x _ => ?_, fun x => ?_, ?_⟩
            · unfold setG
              by_cases e : x = (r - 1 + (a : Int), c - 1 + (b : Int))
              · rw [if_pos e, if_pos ((step x).mpr (.inr e)), e]
                rfl
              · rw [if_neg e]
                have : doneB a (b + 1) (r, c) x ↔ doneB a b (r, c) x := (step x).trans ⟨fun z => z.elim id fun z => absurd z e, .inl⟩
                simp only [this]
            · rw [mem_addK, m11, step]
              constructor
              · rintro ((h | h | h) | h)
                · exact .inl h
                · exact .inr (.inl h)
                · exact .inr (.inr (.inl h))
                · exact .inr (.inr (.inr h))
              · rintro (h | h | h | h)
                · exact .inl (.inl h)
                · exact .inl (.inr (.inl h))
                · exact .inl (.inr (.inr h))
                · exact .inr h
            · have := addK_len (ps := ks11) (x := (r - 1 + (a : Int), c - 1 + (b : Int)))
              omega
        · rintro σ H11 ⟨s11, ad11, g11, g12, ⟨x8, rfl⟩, ks11, k11, m11, l11⟩
          have same : ∀ x, doneB a 3 (r, c) x ↔ doneB (a + 1) 0 (r, c) x := fun x => by
            unfold doneB nbr
            dsimp only
            refine ⟨fun ⟨h, h2⟩ => ⟨h, ?_⟩, fun ⟨h, h2⟩ => ⟨h, ?_⟩⟩
            · omega
            · omega
          have k11 : Dct H11 cd ks11 (fun x => .int ((nbq (qs.take i) x.1 x.2 + (if doneB a 3 (r, c) x then 1 else 0) : Nat) : Int)) := k11
          have m11 : ∀ x, x ∈ ks11 ↔ (∃ y ∈ qs.take i, x = y ∨ nbr y x) ∨ x = (r, c) ∨ doneB a 3 (r, c) x := m11
          have l11 : ks11.length ≤ 10 * i + 1 + 3 * a + 3 := l11
          refine ⟨s11, ad11, g11, ⟨_, _, rfl⟩, ks11, k11.congr fun x _ => ?_, fun x => ?_, by omega⟩
          · simp only [same]
          · rw [m11, same]
      · rintro σ H9 ⟨s9, ad9, g9, ⟨x7, x8, rfl⟩, ks9, k9, m9, l9⟩
        have all : ∀ x, doneB 3 0 (r, c) x ↔ nbr (r, c) x := fun x => by
          unfold doneB nbr
          dsimp only
          refine ⟨fun h => h.1, fun h => ⟨h, .inl (by omega)⟩⟩
        have k9 : Dct H9 cd ks9 (fun x => .int ((nbq (qs.take i) x.1 x.2 + (if doneB 3 0 (r, c) x then 1 else 0) : Nat) : Int)) := k9
        have m9 : ∀ x, x ∈ ks9 ↔ (∃ y ∈ qs.take i, x = y ∨ nbr y x) ∨ x = (r, c) ∨ doneB 3 0 (r, c) x := m9
        have l9 : ks9.length ≤ 10 * i + 1 + 3 * 3 := l9
        refine ⟨s9, ad9, ⟨_, _, _, _, rfl⟩, ks9, k9.congr fun x _ => ?_, fun x => ?_, by omega⟩
        · rw [take_next hy, nbq_snoc]
          simp only [all]
        · rw [m9, all, take_next hy]
          constructor
          · rintro (⟨y, my, h⟩ | h | h)
            · exact ⟨y, List.mem_append.mpr (.inl my), h⟩
            · exact ⟨(r, c), List.mem_append.mpr (.inr (List.mem_singleton.mpr rfl)), .inl h⟩
            · exact ⟨(r, c), List.mem_append.mpr (.inr (List.mem_singleton.mpr rfl)), .inr h⟩
          · rintro ⟨y, my, h⟩
            rcases List.mem_append.mp my with my | my
            · exact .inl ⟨y, my, h⟩
            · rw [List.mem_singleton.mp my] at h
              exact .inr h
    · rintro σ H4 ⟨sm, had, ⟨x5, x6, x7, x8, rfl⟩, ks, hK, mk, lk⟩
      rw [hm.len] at lk
      rw [hm.len, List.take_of_length_le (Nat.le_refl _)] at hK mk
      have ndk : ks.Nodup := hK.choose_spec.2.2
      refine ⟨had, ?_⟩
      have sA : Same H (upd H4 ad (.dT kvs)) := mutS sm (backS e1 nad)
      have gA : upd H4 ad (.dT kvs) ad = some (.dT kvs) := upd_same
      have kA := hK.off (o := .dT kvs) ncad
      generalize upd H4 ad (.dT kvs) = H5 at sA gA kA ⊢
      k_upd
      refine ⟨by k_clsL, fun fl nfl => ?_⟩
      k_invariant "new" (nfl, H6, e6, g6)
      k_upd
      obtain ⟨kvc, gcd, hmc⟩ := kA.up e6
      have nfc : fl ≠ cd := fun e => by rw [e, gcd] at g6; cases g6
      have nfa : fl ≠ ad := fun e => by rw [e, e6 _ _ gA] at g6; cases g6
      refine ⟨cd, _, gcd, trivial, fun od2 => ⟨_, rfl, cd, od2, rfl, .inr ⟨kvc, upd_same, ?_⟩⟩⟩
      have b0 : Same H (upd H6 cd (.frz od2 (.dT kvc))) := mutS (sA.trans e6) ncd
      have b1 : upd H6 cd (.frz od2 (.dT kvc)) cd = some (.frz od2 (.dT kvc)) := upd_same
      have b2 : upd H6 cd (.frz od2 (.dT kvc)) ad = some (.dT kvs) := by rw [upd_ne fun e => ncad e.symm]; exact e6 _ _ gA
      have b3 : upd H6 cd (.frz od2 (.dT kvc)) fl = some (.lst []) := by rw [upd_ne nfc]; exact g6
      generalize upd H6 cd (.frz od2 (.dT kvc)) = Hg at b0 b1 b2 b3 ⊢
      have memE : ∀ x, memL ps x.1 x.2 = decide (x ∈ qs) := fun x => by
        unfold memL
        rw [Bool.eq_iff_iff, decide_eq_true_iff, decide_eq_true_iff, memq]
      have nbE : ∀ x : Pr, (nbq qs x.1 x.2 : Int) = (nb (memL ps) x.1 x.2 : Int) := fun x => by
        rw [nbq_nb ndq]
        have : memL qs = memL ps := funext fun r => funext fun c => by
          show decide ((r, c) ∈ qs) = _
          exact (memE (r, c)).symm
        rw [this]
      have nfl0 : H fl = none := backS sA nfl
      refine for_it walk_keysT (fun i σ H' => Same H H' ∧ H' cd = some (.frz od2 (.dT kvc)) ∧ H' ad = some (.dT kvs) ∧ (∃ x10 : Option V, σ = [some (.ref l), some (.ref lb), some (.ref ls), some (.ref cd), some (.ref ad), x5, x6, x7, x8, some (.ref fl), x10]) ∧
          ∃ us : List (Addr × Pr), H' fl = some (.lst (us.map fun t => V.ref t.1)) ∧ (∀ t ∈ us, H' t.1 = some (.tup [.int t.2.1, .int t.2.2])) ∧ us.map (·.2) = (ks.take i).filter fun x => stepL bs ss (memL ps) x.1 x.2)
        ⟨b0, b1, b2, ⟨_, rfl⟩, [], b3, fun _ m => (by cases m), by simp⟩ (fun i σ H' _ p => p.2.1) ?_ ?_
      · rintro i x σ H2 H7 hi ⟨sm, hcd, had, ⟨x10, rfl⟩, us, hus, htu, eus⟩ ⟨rfl, k, v, q0, e, rfl, hq0⟩
        obtain ⟨y, hy, rfl, rfl⟩ := hmc.at e
        have hq0 : _ = some (HO.tup [.int y.1, .int y.2]) := hq0
        have my := List.mem_of_getElem? hy
        have dgA := Dct.dget (H := H7) (d := ad) (g := fun _ => V.bl true) (x := y) ⟨kvs, had, hm⟩ hq0
        have dgC : DGet H7 cd (.ref q0) (some (.int ((nbq qs y.1 y.2 : Nat) : Int))) := .inr ⟨kvc, keyP y, q0, .inr ⟨od2, hcd⟩, rfl, hq0, by rw [hmc.get y, if_pos my]⟩
        have lu : us.length ≤ i := by
          have z := congrArg List.length eus
          rw [List.length_map] at z
          have := List.length_filter_le (fun x : Pr => stepL bs ss (memL ps) x.1 x.2) (ks.take i)
          rw [List.length_take] at this
          omega
        have lkc := hmc.len
        have hS' := sm _ _ hS
        have hB' := sm _ _ hB
        k_upd
        by_cases m : y ∈ qs
        · rw [if_pos m] at dgA
          have sE : stepL bs ss (memL ps) y.1 y.2 = decide ((nbq qs y.1 y.2 : Int) ∈ ss) := by
            unfold stepL
            rw [memE, if_pos (decide_eq_true m), nbE]
          refine ⟨_, rfl, _, rfl, ad, _, rfl, dgA, _, rfl, iteT ?_⟩
          refine ⟨_, rfl, _, rfl, cd, _, rfl, dgC, _, rfl, ls, _, rfl, .inl (lst_of hS'), rfl, flat_ints _, _, by rw [if_neg Bool.false_ne_true, inV_ints], ite2 (fun c => iteT ?_) (fun c => ?_)⟩
          · have sP : stepL bs ss (memL ps) y.1 y.2 = true := sE.trans c
            refine ⟨_, rfl, .inl ⟨rfl, _, lst_of hus⟩, _, rfl, _, _, _, rfl, rfl, hus, by rw [List.length_map, sizeLine_eq]; omega, ?_⟩
            have off : ∀ (b : Addr) (o : HO), H7 b = some o → (∀ xs, o ≠ .lst xs) → upd H7 fl (.lst ((us.map fun t => V.ref t.1) ++ [.ref q0])) b = some o := fun b o e ne => by
              rw [upd_ne fun z => ?_]
              · exact e
              · rw [z, hus] at e
                exact ne _ (Option.some.inj e).symm
            refine ⟨mutS sm nfl0, off _ _ hcd (fun _ z => by cases z), off _ _ had (fun _ z => by cases z), ⟨_, rfl⟩, us ++ [(q0, y)], by rw [upd_same, List.map_append]; rfl, fun t m => ?_, ?_⟩
            · rcases List.mem_append.mp m with m | m
              · exact off _ _ (htu t m) (fun _ z => by cases z)
              · rw [List.mem_singleton.mp m]
                exact off _ _ hq0 (fun _ z => by cases z)
            · rw [List.map_append, eus, take_next hy, List.filter_append, List.filter_cons, if_pos sP]
              rfl
          · have sP : stepL bs ss (memL ps) y.1 y.2 = false := by
              rw [sE]
              simpa using c
            refine ⟨_, rfl, _, rfl, ad, _, rfl, dgA, _, rfl, iteF ?_⟩
            refine iteF ?_
            refine ⟨sm, hcd, had, ⟨_, rfl⟩, us, hus, htu, ?_⟩
            rw [eus, take_next hy, List.filter_append, List.filter_cons, if_neg (by rw [sP]; decide)]
            exact (List.append_nil _).symm
        · rw [if_neg m] at dgA
          have sE : stepL bs ss (memL ps) y.1 y.2 = decide ((nbq qs y.1 y.2 : Int) ∈ bs) := by
            unfold stepL
            rw [memE, if_neg (by rw [decide_eq_false m]; decide), nbE]
          refine ⟨_, rfl, _, rfl, ad, _, rfl, dgA, _, rfl, iteF ?_⟩
          refine iteF ?_
          refine ⟨_, rfl, _, rfl, ad, _, rfl, dgA, _, rfl, iteT ?_⟩
          refine ⟨_, rfl, _, rfl, cd, _, rfl, dgC, _, rfl, lb, _, rfl, .inl (lst_of hB'), rfl, flat_ints _, _, by rw [if_neg Bool.false_ne_true, inV_ints], ite2 (fun c => ?_) (fun c => ?_)⟩
          · have sP : stepL bs ss (memL ps) y.1 y.2 = true := sE.trans c
            refine ⟨_, rfl, .inl ⟨rfl, _, lst_of hus⟩, _, rfl, _, _, _, rfl, rfl, hus, by rw [List.length_map, sizeLine_eq]; omega, ?_⟩
            have off : ∀ (b : Addr) (o : HO), H7 b = some o → (∀ xs, o ≠ .lst xs) → upd H7 fl (.lst ((us.map fun t => V.ref t.1) ++ [.ref q0])) b = some o := fun b o e ne => by
              rw [upd_ne fun z => ?_]
              · exact e
              · rw [z, hus] at e
                exact ne _ (Option.some.inj e).symm
            refine ⟨mutS sm nfl0, off _ _ hcd (fun _ z => by cases z), off _ _ had (fun _ z => by cases z), ⟨_, rfl⟩, us ++ [(q0, y)], by rw [upd_same, List.map_append]; rfl, fun t m => ?_, ?_⟩
            · rcases List.mem_append.mp m with m | m
              · exact off _ _ (htu t m) (fun _ z => by cases z)
              · rw [List.mem_singleton.mp m]
                exact off _ _ hq0 (fun _ z => by cases z)
            · rw [List.map_append, eus, take_next hy, List.filter_append, List.filter_cons, if_pos sP]
              rfl
          · have sP : stepL bs ss (memL ps) y.1 y.2 = false := by
              rw [sE]
              simpa using c
            refine ⟨sm, hcd, had, ⟨_, rfl⟩, us, hus, htu, ?_⟩
            rw [eus, take_next hy, List.filter_append, List.filter_cons, if_neg (by rw [sP]; decide)]
            exact (List.append_nil _).symm
      · rintro σ H7 ⟨sm, hcd, had, ⟨x10, rfl⟩, us, hus, htu, eus⟩
        rw [hmc.len, List.take_of_length_le (Nat.le_refl _)] at eus
        refine ⟨hcd, ?_⟩
        have sF : Same H (upd H7 cd (.dT kvc)) := mutS sm ncd
        have cF : Cells (upd H7 cd (.dT kvc)) fl (us.map (·.2)) := Cells.mut ⟨us, hus, htu, rfl⟩ nfc fun xs e => by
          rw [hcd] at e
          cases e
        have ndu : (us.map (·.2)).Nodup := by
          rw [eus]
          exact ndk.filter _
        refine ⟨_, rfl, fl, _, rfl, cF, ndu, fun p H8 rs e8 n8 c8 can l8 => q H8 p rs (backS sF n8) (sF.trans e8) c8 can.1 fun x => ?_⟩
        rw [can.2, eus, List.mem_filter]
        refine ⟨fun h => h.2, fun h => ⟨?_, h⟩⟩
        refine (mk x).mpr ?_
        by_cases m : x ∈ qs
        · exact ⟨x, m, .inl rfl⟩
        · refine Classical.byContradiction fun no => ?_
          have z := nbq_zero (qs := qs) (x := x) fun y my ny => no ⟨y, my, .inr ny⟩
          have h : stepL bs ss (memL ps) x.1 x.2 = true := h
          unfold stepL at h
          rw [memE, if_neg (by rw [decide_eq_false m]; decide), ← nbE, z] at h
          have := hb _ (of_decide_eq_true h)
          omega
end
end My
namespace My
open PySem PySem.Spec PyProof.Rows L2 Vx
open TL
local macro_rules | `(tactic| k_invariant "new" ($n, $H:ident, $e:ident, $h:ident)) => `(tactic| (generalize hE : upd _ _ _ = $H; obtain ⟨$e:ident, $h:ident⟩ := gen_e hE $n; clear hE))
local macro_rules | `(tactic| k_places) => `(tactic| first
  | assumption
  | exact lst_of (by assumption)
  | exact tup_of (by assumption)
  | (refine getS (by assumption) ?_; k_places)
  | (refine Same.seq (by assumption) ?_; k_places)
  | (refine tupS (by assumption) ?_; k_places)
  | (refine lst_of ?_; k_places)
  | (refine tup_of ?_; k_places))
local macro_rules | `(tactic| k_subL) => `(tactic| first
  | k_places
  | solve_by_elim (maxDepth := 10) [getS, lst_of, tup_of, Same.seq, tupS])
local macro_rules | `(tactic| k_offL) => `(tactic| first
  | (show (0 : Int) < _; first | omega | decide)
  | (refine ⟨?_, ?_⟩ <;> first | omega | decide)
  | exact .inr ⟨by decide, by decide⟩
  | exact .inl ⟨by decide, by decide⟩
  | exact .inl ⟨by omega, by omega⟩
  | omega)
local macro_rules | `(tactic| k_clsL) => `(tactic| exact Nat.le_of_ble_eq_true rfl)
local macro_rules | `(tactic| k_upd) => `(tactic| simp only [L2.start, List.map_cons, List.map_nil, List.length_cons, List.length_nil, List.replicate_succ, List.replicate_zero, List.cons_append, List.nil_append, List.set_cons_zero, List.set_cons_succ])
section
variable {P : Program} {w : World} {K : PySem.W.Frag} {mg : Str → Option Value} {base : Heap}
/-! ### nine cells of which all is said -/
theorem count_some : ∀ l : List Bool, (l.map some).count (some true) = (l.map Bool.toNat).sum
  | [] => rfl
  | b :: l => by
    rw [List.map_cons, List.count_cons, count_some l, List.map_cons, List.sum_cons]
    cases b
    · exact (Nat.add_comm _ _)
    · exact (Nat.add_comm _ _)
theorem count_non : ∀ l : List Bool, (l.map some).count (none : Option Bool) = 0
  | [] => rfl
  | b :: l => by
    rw [List.map_cons, List.count_cons, count_non l]
    rfl
theorem full_fails {bs ss : List Int} {wanted : Option Bool} {C : Pr → Option Bool} {r c : Int} (L : Int → Int → Bool) (hk : ∀ x ∈ n9 r c, C x = some (L x.1 x.2)) : NineF bs ss wanted (nineOf C r c) ↔ stepL bs ss L r c ≠ wanted.getD (L r c) := by
  have e9 : nineOf C r c = [L (r - 1) (c - 1), L (r - 1) c, L (r - 1) (c + 1), L r (c - 1), L r c, L r (c + 1), L (r + 1) (c - 1), L (r + 1) c, L (r + 1) (c + 1)].map some := by
    unfold nineOf
    rw [List.map_congr_left hk]
    show [some (L (r - 1) (c - 1)), some (L (r - 1) (c + 0)), some (L (r - 1) (c + 1)), some (L (r + 0) (c - 1)), some (L (r + 0) (c + 0)), some (L (r + 0) (c + 1)), some (L (r + 1) (c - 1)), some (L (r + 1) (c + 0)), some (L (r + 1) (c + 1))] = _
    rw [show (r + 0 : Int) = r by omega, show (c + 0 : Int) = c by omega]
    rfl
  unfold NineF
  rw [e9]
  have eo : (([L (r - 1) (c - 1), L (r - 1) c, L (r - 1) (c + 1), L r (c - 1), L r c, L r (c + 1), L (r + 1) (c - 1), L (r + 1) c, L (r + 1) (c + 1)].map some).take 4 ++ ([L (r - 1) (c - 1), L (r - 1) c, L (r - 1) (c + 1), L r (c - 1), L r c, L r (c + 1), L (r + 1) (c - 1), L (r + 1) c, L (r + 1) (c + 1)].map some).drop 5) = [L (r - 1) (c - 1), L (r - 1) c, L (r - 1) (c + 1), L r (c - 1), L r (c + 1), L (r + 1) (c - 1), L (r + 1) c, L (r + 1) (c + 1)].map some := rfl
  rw [eo, count_some, count_non]
  have en : ([L (r - 1) (c - 1), L (r - 1) c, L (r - 1) (c + 1), L r (c - 1), L r (c + 1), L (r + 1) (c - 1), L (r + 1) c, L (r + 1) (c + 1)].map Bool.toNat).sum = nb L r c := by
    unfold nb
    simp only [List.map_cons, List.map_nil, List.sum_cons, List.sum_nil]
    omega
  rw [en]
  show NoFit bs ss wanted (some (L r c)) (nb L r c) 0 ↔ _
  have es : stepL bs ss L r c = lvN bs ss (L r c) (nb L r c) := by
    unfold stepL lvN
    split <;> rfl
  rw [es]
  constructor
  · intro h f
    exact h (L r c) (.inr rfl) 0 ⟨Nat.le_refl _, f⟩
  · intro h st hst m ⟨f1, f2⟩
    have hst := hst.elim (fun z => by cases z) fun z => Option.some.inj z
    rw [← hst, show m = 0 by omega] at f2
    exact h f2
theorem mem_n9 {r c : Int} {x : Pr} (h : x ∈ n9 r c) : r - 1 ≤ x.1 ∧ x.1 ≤ r + 1 ∧ c - 1 ≤ x.2 ∧ x.2 ≤ c + 1 := by
  unfold n9 n3 at h
  rw [List.mem_flatMap] at h
  obtain ⟨d, hd, h⟩ := h
  obtain ⟨b, hb, rfl⟩ := List.mem_map.mp h
  have : d = -1 ∨ d = 0 ∨ d = 1 := by simpa using hd
  have : b = -1 ∨ b = 0 ∨ b = 1 := by simpa using hb
  dsimp only
  omega
end
end My
namespace My
open PySem PySem.Spec PyProof.Rows L2 Vx
open TL
local macro_rules | `(tactic| k_invariant "new" ($n, $H:ident, $e:ident, $h:ident)) => `(tactic| (generalize hE : upd _ _ _ = $H; obtain ⟨$e:ident, $h:ident⟩ := gen_e hE $n; clear hE))
local macro_rules | `(tactic| k_places) => `(tactic| first
  | assumption
  | exact lst_of (by assumption)
  | exact tup_of (by assumption)
  | (refine getS (by assumption) ?_; k_places)
  | (refine Same.seq (by assumption) ?_; k_places)
  | (refine tupS (by assumption) ?_; k_places)
  | (refine lst_of ?_; k_places)
  | (refine tup_of ?_; k_places))
local macro_rules | `(tactic| k_subL) => `(tactic| first
  | k_places
  | solve_by_elim (maxDepth := 10) [getS, lst_of, tup_of, Same.seq, tupS])
local macro_rules | `(tactic| k_offL) => `(tactic| first
  | (show (0 : Int) < _; first | omega | decide)
  | (refine ⟨?_, ?_⟩ <;> first | omega | decide)
  | exact .inr ⟨by decide, by decide⟩
  | exact .inl ⟨by decide, by decide⟩
  | exact .inl ⟨by omega, by omega⟩
  | omega)
local macro_rules | `(tactic| k_clsL) => `(tactic| exact Nat.le_of_ble_eq_true rfl)
local macro_rules | `(tactic| k_upd) => `(tactic| simp only [L2.start, List.map_cons, List.map_nil, List.length_cons, List.length_nil, List.replicate_succ, List.replicate_zero, List.cons_append, List.nil_append, List.set_cons_zero, List.set_cons_succ])
section
variable {P : Program} {w : World} {K : PySem.W.Frag} {mg : Str → Option Value} {base : Heap}
/-- the living cells of a picture -/
def aliveR (A : Nat → Nat → Option Bool) (r c : Nat) : List Pr := ((List.range c).filter fun c => decide (A r c = some true)).map fun (c : Nat) => ((r : Int), (c : Int))
def aliveP (A : Nat → Nat → Option Bool) (w i : Nat) : List Pr := (List.range i).flatMap fun r => aliveR A r w
theorem aliveR_s (A : Nat → Nat → Option Bool) (r c : Nat) : aliveR A r (c + 1) = if A r c = some true then aliveR A r c ++ [((r : Int), (c : Int))] else aliveR A r c := by
  unfold aliveR
  rw [List.range_succ, List.filter_append, List.filter_cons]
  by_cases e : A r c = some true
  · rw [if_pos (decide_eq_true e), if_pos e, List.map_append]
    rfl
  · rw [if_neg (by rw [decide_eq_true_iff]; exact e), if_neg e, List.filter_nil, List.append_nil]
theorem aliveR_len (A : Nat → Nat → Option Bool) (r c : Nat) : (aliveR A r c).length ≤ c := by
  unfold aliveR
  rw [List.length_map]
  have := List.length_filter_le (fun c => decide (A r c = some true)) (List.range c)
  rw [List.length_range] at this
  exact this
theorem aliveP_s (A : Nat → Nat → Option Bool) (w i : Nat) : aliveP A w (i + 1) = aliveP A w i ++ aliveR A i w := by
  unfold aliveP
  rw [List.range_succ, List.flatMap_append, List.flatMap_cons, List.flatMap_nil, List.append_nil]
theorem aliveP_len (A : Nat → Nat → Option Bool) (w : Nat) : ∀ i, (aliveP A w i).length ≤ i * w
  | 0 => Nat.zero_le _
  | i + 1 => by
    rw [aliveP_s, List.length_append, Nat.succ_mul]
    have := aliveP_len A w i
    have := aliveR_len A i w
    omega
theorem mem_aliveR {A : Nat → Nat → Option Bool} {r c : Nat} {x : Pr} : x ∈ aliveR A r c ↔ x.1 = (r : Int) ∧ 0 ≤ x.2 ∧ x.2 < (c : Int) ∧ A r x.2.toNat = some true := by
  unfold aliveR
  rw [List.mem_map]
  constructor
  · rintro ⟨k, m, rfl⟩
    rw [List.mem_filter, List.mem_range] at m
    refine ⟨rfl, by omega, by dsimp only; omega, ?_⟩
    rw [Int.toNat_natCast]
    exact of_decide_eq_true m.2
  · rintro ⟨h1, h2, h3, h4⟩
    refine ⟨x.2.toNat, List.mem_filter.mpr ⟨List.mem_range.mpr (by omega), decide_eq_true h4⟩, Prod.ext h1.symm ?_⟩
    dsimp only
    omega
theorem mem_aliveP {A : Nat → Nat → Option Bool} {w i : Nat} {x : Pr} : x ∈ aliveP A w i ↔ 0 ≤ x.1 ∧ x.1 < (i : Int) ∧ 0 ≤ x.2 ∧ x.2 < (w : Int) ∧ A x.1.toNat x.2.toNat = some true := by
  unfold aliveP
  rw [List.mem_flatMap]
  constructor
  · rintro ⟨r, m, h⟩
    rw [List.mem_range] at m
    rw [mem_aliveR] at h
    obtain ⟨h1, h2, h3, h4⟩ := h
    rw [h1, Int.toNat_natCast]
    exact ⟨by omega, by omega, h2, h3, h4⟩
  · rintro ⟨h1, h2, h3, h4, h5⟩
    exact ⟨x.1.toNat, List.mem_range.mpr (by omega), mem_aliveR.mpr ⟨by omega, h3, h4, h5⟩⟩
theorem aliveR_nodup (A : Nat → Nat → Option Bool) (r c : Nat) : (aliveR A r c).Nodup := by
  unfold aliveR
  refine List.Pairwise.map _ (fun a b h e => h ?_) ((List.nodup_range (n := c)).filter _)
  injection e with _ e
  omega
theorem aliveP_nodup (A : Nat → Nat → Option Bool) (w : Nat) : ∀ i, (aliveP A w i).Nodup
  | 0 => List.nodup_nil
  | i + 1 => by
    rw [aliveP_s]
    refine List.nodup_append.mpr ⟨aliveP_nodup A w i, aliveR_nodup A i w, fun x m y n e => ?_⟩
    rw [mem_aliveP] at m
    rw [mem_aliveR] at n
    rw [← e] at n
    omega
theorem cells_cat {H : Hp} {p q : Addr} {P Q : List Pr} (h : Cells H p P) (k : Cells H q Q) : ∃ xs ys, H p = some (.lst xs) ∧ H q = some (.lst ys) ∧ xs.length = P.length ∧ ys.length = Q.length ∧ ∀ (H' : Hp) (r : Addr), Same H H' → H' r = some (.lst (xs ++ ys)) → Cells H' r (P ++ Q) := by
  obtain ⟨ts, h1, h2, rfl⟩ := h
  obtain ⟨us, k1, k2, rfl⟩ := k
  refine ⟨_, _, h1, k1, by rw [List.length_map, List.length_map], by rw [List.length_map, List.length_map], fun H' r e g => ⟨ts ++ us, by rw [List.map_append]; exact g, fun t m => ?_, List.map_append⟩⟩
  rcases List.mem_append.mp m with m | m
  · exact e _ _ (h2 t m)
  · exact e _ _ (k2 t m)
theorem lc_rangeP {lo : Int} {n : Nat} {vs : List Nat} {σ : L2.St} {H1 : Hp} {D : Addr} {Qd : Hp → Prop} {g : TG} {tt : TT} {te : TE} (f : Nat → Pr) (nD : H1 D = none) (few : n < sizeLine)
    (hs : ∀ (k : Nat) (H' : Hp) (Po : V → Hp → Prop) (Pn : Hp → Prop), k < n → (∀ t, H' t = none → Po (.ref t) (upd H' t (.tup [.int (f k).1, .int (f k).2]))) →
      g (.int (lo + (k : Int))) (wipe σ vs) H' fun σ2 H2 => wipe σ2 vs = wipe σ vs ∧ tt σ2 H2 fun b H3 => if b = true then te σ2 H3 Po else Pn H3)
    (hd : ∀ H', Same H1 H' → Cells H' D ((List.range n).map f) → Qd H') :
    ∃ W : Nat → Nat → Hp → Prop, (∃ m, W 0 m (upd H1 D (.lst []))) ∧ ∀ i m H, W i m H →
      ((Itr lo n).stop i H ∧ Qd H) ∨ ((Itr lo n).go i H ∧ ∃ Nx : Hp → Prop, (∀ H', Nx H' → ∃ m', m' < m ∧ W (i + 1) m' H') ∧ ∀ x H', (Itr lo n).yld i H x H' → g x (wipe σ vs) H' fun σ2 H2 => wipe σ2 vs = wipe σ vs ∧ tt σ2 H2 fun b H3 =>
        if b = true then te σ2 H3 fun y H4 => ∃ acc, H4 D = some (.lst acc) ∧ acc.length < sizeLine ∧ Nx (upd H4 D (.lst (acc ++ [y]))) else Nx H3) := by
  refine lc_range (fun i H' => Same H1 H' ∧ Cells H' D ((List.range i).map f)) ⟨newS nD, [], upd_same, (fun _ z => by cases z), rfl⟩ ?_ ?_
  · rintro k H' hk ⟨sm, hc⟩
    refine hs k H' _ _ hk fun t nt => ?_
    have e2 : Same H' (upd H' t (.tup [.int (f k).1, .int (f k).2])) := newS nt
    have g2 : upd H' t (.tup [.int (f k).1, .int (f k).2]) t = some (.tup [.int (f k).1, .int (f k).2]) := upd_same
    generalize upd H' t (.tup [.int (f k).1, .int (f k).2]) = H3 at e2 g2 ⊢
    obtain ⟨ys, gys, lys, hcl⟩ := cells_app (hc.up e2) g2
    refine ⟨ys, gys, ?_, mutS (sm.trans e2) nD, ?_⟩
    · rw [lys, List.length_map, List.length_range]
      omega
    · rw [List.range_succ, List.map_append]
      exact hcl
  · rintro H' ⟨sm, hc⟩
    exact hd H' sm hc
theorem aliveR_pw (A : Nat → Nat → Option Bool) (r c : Nat) : (aliveR A r c).Pairwise ltP := by
  unfold aliveR
  refine List.Pairwise.map _ (fun a b h => ?_) ((List.pairwise_lt_range (n := c)).filter _)
  exact ltP_iff.mpr (.inr ⟨rfl, by dsimp only; omega⟩)
theorem aliveP_pw (A : Nat → Nat → Option Bool) (w : Nat) : ∀ i, (aliveP A w i).Pairwise ltP
  | 0 => .nil
  | i + 1 => by
    rw [aliveP_s]
    refine List.pairwise_append.mpr ⟨aliveP_pw A w i, aliveR_pw A i w, fun x m y n => ?_⟩
    rw [mem_aliveP] at m
    rw [mem_aliveR] at n
    exact ltP_iff.mpr (.inl (by omega))
def sp_law_still : Sp := fun vs H Q _ => ∃ (l pb ps : Addr) (h w : Nat) (A : Nat → Nat → Option Bool) (bs ss : List Int), vs = [.ref l, .ref pb, .ref ps] ∧ PicAt H l h w A ∧ h ≤ 30 ∧ w ≤ 30 ∧ H pb = some (.lst (bs.map V.int)) ∧ H ps = some (.lst (ss.map V.int)) ∧ (∀ b ∈ bs, 1 ≤ b ∧ b ≤ 8) ∧
  ∀ (H' : Hp) (b : Bool), Same H H' → (b = true ↔ ∀ x : Pr, stepL bs ss (memL (aliveP A w h)) x.1 x.2 = memL (aliveP A w h) x.1 x.2) → Q (.bl b) H'
theorem ok_law_still (T : Txt K mg) : FnOk P w K mg base CX0 2 T.f_law_still T.d_law_still ["picture", "births", "survival"] sp_law_still := by
  refine T.F_law_still.ok sc_law_still (fun vs H Q E h => ?_) (fun cdv A outer s H vs Q E hr h => ?_)
  · obtain ⟨_, _, _, _, _, _, _, _, rfl, _⟩ := h
    rfl
  · obtain ⟨l, pb, ps, h, wd, A2, bs, ss, rfl, hl, lh, lw, gb, gs, hb, q⟩ := h
    refine ⟨_, (pss_cons (ps_set (i := 3) sc_law_still.nd rfl (.inl rfl) (pe_lst pa_nil))
      (pss_cons (ps_for PassesOwn.never rfl (pi_range1 (by rfl) T.z_range (pa_cons (pe_callB call_lenL (by rfl) T.z_len (by decide +kernel) (pa_cons (pv 0) pa_nil)) pa_nil)) (pg_name (i := 4) sc_law_still.nd rfl (.inr rfl))
      (pss_one (ps_set (i := 3) sc_law_still.nd rfl (.inl rfl) (pe_op op_cat (pv 3) (pe_lc (own := [("c", 5)]) (g := gName 5) rfl sc_law_still.nd (pi_range1 (by rfl) T.z_range (pa_cons (pe_callB call_len_str (by rfl) T.z_len (by decide +kernel) (pa_cons (pe_ix ix_list (pv 0) (pv 4) (fun _ _ => rfl)) pa_nil)) pa_nil)) (blkOk_by (own := [("c", 5)]) (N := N_law_still) (sc := defScope s_law_still) (by decide +kernel)) (fun _ _ _ _ _ => pg_name (i := 5) sc_law_still.nd rfl (Or.inl rfl)) (fun _ _ _ _ _ => pts_one (pt_cmpR op_eq (pe_ix ix_str (pe_ix (ix_listK (K := K) rfl) (pv 0) (pv 4) (fun _ _ => rfl)) (pv 5) (fun _ _ => rfl)) pe_str (nomark _))) (fun _ _ _ _ _ => (pe_tup (pa_cons (pv 4) (pa_cons (pv 5) pa_nil)))))))))
      (pss_one (ps_ret (pe_cmpR (op_eqD hr.units) (pe_call (ok_law_next T) (hr.mono (by decide)) (by rfl) T.g_law_next T.F_law_next.kp T.b_law_next .nil pass0 (pa_cons (pv 3) (pa_cons (pv 1) (pa_cons (pv 2) pa_nil)))) (pv 3) (nomark _)))))), ?_⟩
    k_upd
    refine ⟨Nat.zero_le _, fun pc npc => ?_⟩
    k_invariant "new" (npc, H13, e13, g13)
    k_upd
    have m30 : h * wd ≤ 30 * 30 := Nat.mul_le_mul lh lw
    have eO : (Str.ofString "O") = (⟨#[sgn (some true)]⟩ : Str) := by decide +kernel
    refine ⟨_, rfl, l, _, rfl, lst_of (e13 _ _ hl), ?_⟩
    rw [List.length_map, List.length_range]
    refine ⟨_, rfl, by omega, by omega, for_range (lo := 0) (n := ((h : Int)).toNat) (fun i σ' H' => Same H H' ∧ ∃ (pc : Addr) (x4 x5 : Option V), H pc = none ∧ Cells H' pc (aliveP A2 wd i) ∧ σ' = [some (.ref l), some (.ref pb), some (.ref ps), some (.ref pc), x4, x5])
      ⟨e13, pc, none, none, npc, ⟨[], g13, (fun _ z => by cases z), rfl⟩, rfl⟩ ?_ ?_⟩
    · rintro i σ H14 hi ⟨s14, pc, z4, z5, npc, hpc, rfl⟩
      refine gName_go ?_
      rw [Int.zero_add]
      k_upd
      have li : i < h := by omega
      refine ⟨_, rfl, _, rfl, _, rfl, l, _, _, _, rfl, rfl, lst_of (s14 _ _ hl), atI_nat (pic_at li), _, rfl, by rw [rowW_len, sizeLine_eq]; omega, ?_⟩
      rw [rowW_len]
      refine ⟨_, rfl, by omega, by omega, fun D nD => lc_range (lo := 0) (n := ((wd : Int)).toNat) (fun c H' => Same H14 H' ∧ Cells H' D (aliveR A2 i c)) ⟨newS nD, ⟨[], upd_same, (fun _ z => by cases z), rfl⟩⟩ ?_ ?_⟩
      · rintro c H15 hc ⟨s15, g15⟩
        rw [Int.zero_add]
        have lc : c < wd := by omega
        have eo : decide (V.str ⟨#[sgn (A2 i c)]⟩ = V.str (Str.ofString "O")) = decide (A2 i c = some true) := by rw [eO]; exact sgnS_ne _ _
        refine ⟨rfl, _, rfl, _, rfl, l, _, _, _, rfl, rfl, lst_of ((s14.trans s15) _ _ hl), atI_nat (pic_at li), _, rfl, _, _, _, rfl, rfl, by rw [rowW_len, sizeLine_eq]; omega, rowW_atI _ lc, rfl, ?_⟩
        rw [eo]
        refine ⟨_, rfl, ite2 (fun c2 => ?_) (fun c2 => ?_)⟩
        · refine ⟨_, rfl, _, rfl, by k_clsL, fun t nt => ?_⟩
          k_invariant "new" (nt, H16, e16, g16)
          obtain ⟨ys, gys, lys, hcl⟩ := cells_app (x := ((i : Int), (c : Int))) (g15.up e16) g16
          refine ⟨_, gys, by rw [lys, sizeLine_eq]; have := aliveR_len A2 i c; omega, mutS (s15.trans e16) nD, ?_⟩
          rw [aliveR_s, if_pos (of_decide_eq_true c2)]
          exact hcl
        · refine ⟨s15, ?_⟩
          rw [aliveR_s, if_neg (fun z => c2 (decide_eq_true z))]
          exact g15
      rintro H15 ⟨s15, g15⟩
      rw [show ((wd : Int)).toNat = wd by omega] at g15
      obtain ⟨xs1, ys1, q1, q2, lq1, lq2, cat⟩ := cells_cat (hpc.up s15) g15
      refine ⟨pc, D, _, _, rfl, rfl, q1, q2, ?_, fun p n => ?_⟩
      · have := aliveP_len A2 wd i
        have := aliveR_len A2 i wd
        have := Nat.mul_le_mul_right wd (show i ≤ h by omega)
        rw [lq1, lq2, sizeLine_eq]
        omega
      k_invariant "new" (n, H16, e16, g16)
      refine gName_go ?_
      k_upd
      refine ⟨s14.trans (s15.trans e16), p, _, _, backS (s14.trans s15) n, ?_, rfl⟩
      rw [aliveP_s]
      exact cat _ _ e16 g16
    · rintro σ H14 ⟨s14, pc, z4, z5, npc, hpc, rfl⟩
      rw [show ((h : Int)).toNat = h by omega] at hpc
      have lp := aliveP_len A2 wd h
      refine ⟨_, rfl, _, rfl, _, rfl, pc, pb, ps, _, bs, ss, rfl, hpc, s14 _ _ gb, s14 _ _ gs, hb, by omega, fun H15 pn qs n15 e15 h15 pw15 mem15 => ?_⟩
      refine ⟨_, rfl, _, _, dp_cells h15, dp_cells (hpc.up e15), shaped_cells _, shaped_cells _, ?_⟩
      rw [eqv_cells]
      refine q H15 _ (s14.trans e15) ?_
      rw [decide_eq_true_iff]
      constructor
      · intro e x
        rw [Bool.eq_iff_iff, ← mem15, e]
        unfold memL
        rw [decide_eq_true_iff]
      · intro z
        refine ascP_eq pw15 (aliveP_pw A2 wd h) fun x => ?_
        rw [mem15, z x]
        unfold memL
        rw [decide_eq_true_iff]
end
end My
namespace My
open PySem PySem.Spec PyProof.Rows L2 Vx
open TL
local macro_rules | `(tactic| k_invariant "new" ($n, $H:ident, $e:ident, $h:ident)) => `(tactic| (generalize hE : upd _ _ _ = $H; obtain ⟨$e:ident, $h:ident⟩ := gen_e hE $n; clear hE))
local macro_rules | `(tactic| k_places) => `(tactic| first
  | assumption
  | exact lst_of (by assumption)
  | exact tup_of (by assumption)
  | (refine getS (by assumption) ?_; k_places)
  | (refine Same.seq (by assumption) ?_; k_places)
  | (refine tupS (by assumption) ?_; k_places)
  | (refine lst_of ?_; k_places)
  | (refine tup_of ?_; k_places))
local macro_rules | `(tactic| k_subL) => `(tactic| first
  | k_places
  | solve_by_elim (maxDepth := 10) [getS, lst_of, tup_of, Same.seq, tupS])
local macro_rules | `(tactic| k_offL) => `(tactic| first
  | (show (0 : Int) < _; first | omega | decide)
  | (refine ⟨?_, ?_⟩ <;> first | omega | decide)
  | exact .inr ⟨by decide, by decide⟩
  | exact .inl ⟨by decide, by decide⟩
  | exact .inl ⟨by omega, by omega⟩
  | omega)
local macro_rules | `(tactic| k_clsL) => `(tactic| exact Nat.le_of_ble_eq_true rfl)
local macro_rules | `(tactic| k_upd) => `(tactic| simp only [L2.start, List.map_cons, List.map_nil, List.length_cons, List.length_nil, List.replicate_succ, List.replicate_zero, List.cons_append, List.nil_append, List.set_cons_zero, List.set_cons_succ])
section
variable {P : Program} {w : World} {K : PySem.W.Frag} {mg : Str → Option Value} {base : Heap}
theorem dotO_max (o : Option Bool) : atI (Str.ofString ".O").cps.toList (if sI o > 0 then sI o else 0) = some (sgn (some (o.getD false))) := by
  match o with
  | none => decide +kernel
  | some false => decide +kernel
  | some true => decide +kernel
/-- a picture of which all is said: it is still -/
theorem still_iff {bs ss : List Int} {h w : Nat} {a : Nat → Nat → Bool} (hb : ∀ b ∈ bs, 1 ≤ b ∧ b ≤ 8) :
    (∀ x : Pr, -1 ≤ x.1 → x.1 < (h : Int) + 1 → -1 ≤ x.2 → x.2 < (w : Int) + 1 → ¬ NineF bs ss none (nineOf (S24 h w (fun r c => some (a r c)) fun _ => none) x.1 x.2)) ↔
      ∀ x : Pr, stepL bs ss (memL (aliveP (fun r c => some (a r c)) w h)) x.1 x.2 = memL (aliveP (fun r c => some (a r c)) w h) x.1 x.2 := by
  obtain ⟨L, eL⟩ : ∃ L, L = memL (aliveP (fun r c => some (a r c)) w h) := ⟨_, rfl⟩
  have hL : ∀ x : Pr, L x.1 x.2 = true ↔ 0 ≤ x.1 ∧ x.1 < (h : Int) ∧ 0 ≤ x.2 ∧ x.2 < (w : Int) ∧ a x.1.toNat x.2.toNat = true := fun x => by
    rw [eL]
    unfold memL
    rw [decide_eq_true_iff, mem_aliveP]
    simp only [Option.some.injEq]
  have hS : ∀ x : Pr, S24 h w (fun r c => some (a r c)) (fun _ => none) x = some (L x.1 x.2) := fun x => by
    unfold S24
    by_cases c : 0 ≤ x.1 ∧ x.1 < (h : Int) ∧ 0 ≤ x.2 ∧ x.2 < (w : Int)
    · rw [if_pos c]
      show some (a x.1.toNat x.2.toNat) = _
      refine congrArg some ?_
      rw [Bool.eq_iff_iff, hL]
      exact ⟨fun z => ⟨c.1, c.2.1, c.2.2.1, c.2.2.2, z⟩, fun z => z.2.2.2.2⟩
    · rw [if_neg c]
      refine congrArg some ?_
      cases e : L x.1 x.2 with
      | false => rfl
      | true =>
        have := (hL x).mp e
        exact absurd ⟨this.1, this.2.1, this.2.2.1, this.2.2.2.1⟩ c
  rw [← eL]
  have key : ∀ x : Pr, NineF bs ss none (nineOf (S24 h w (fun r c => some (a r c)) fun _ => none) x.1 x.2) ↔ stepL bs ss L x.1 x.2 ≠ L x.1 x.2 := fun x => full_fails L fun y _ => hS y
  constructor
  · intro z x
    by_cases c : -1 ≤ x.1 ∧ x.1 < (h : Int) + 1 ∧ -1 ≤ x.2 ∧ x.2 < (w : Int) + 1
    · have := z x c.1 c.2.1 c.2.2.1 c.2.2.2
      rw [key] at this
      exact Decidable.not_not.mp this
    · have l0 : L x.1 x.2 = false := by
        cases e : L x.1 x.2 with
        | false => rfl
        | true =>
          have := (hL x).mp e
          omega
      rw [l0]
      cases e : stepL bs ss L x.1 x.2 with
      | false => rfl
      | true =>
        obtain ⟨r', c', h1, h2, h3, h4, h5⟩ := stepL_near hb e
        have := (hL (r', c')).mp h5
        dsimp only at this
        omega
  · intro z x _ _ _ _ f
    exact (key x).mp f (z x)
def sp_law (K : PySem.W.Frag) : Sp := fun vs H Q _ => ∃ (a : Addr) (ns : List Int), vs = [.ref a] ∧ SqL K H a (ns.map V.int) ∧ ns.length ≤ 63 ∧ ∀ H', Q (.bl true) H'
theorem ok_law (T : Txt K mg) : FnOk P w K mg base CX0 12 T.f_law T.d_law ["script"] (sp_law K) := by
  refine T.F_law.ok sc_law (fun vs H Q E h => ?_) (fun cdv A outer s H vs Q E hr h => ?_)
  · obtain ⟨a, ns, rfl, _⟩ := h
    rfl
  · obtain ⟨a, ns, rfl, hS, hlen, q⟩ := h
    have hu65 : (A.deeper (envOfC (Str.ofString "law") (defScope s_law) s.heap.objs.size T.f_law cdv)).units + 65 < cLine := by
      have := hr.un
      omega
    have hu : (A.deeper (envOfC (Str.ofString "law") (defScope s_law) s.heap.objs.size T.f_law cdv)).units + 1 < cLine := by
      have := hr.units
      omega
    refine ⟨_, (pss_cons (ps_asg (pe_call (ok_law_numbers T) (hr.mono (by decide)) (by rfl) T.g_law_numbers T.F_law_numbers.kp T.b_law_numbers .nil pass0 (pa_cons (pe_call (ok_law_cell T) (hr.mono (by decide)) (by rfl) T.g_law_cell T.F_law_cell.kp T.b_law_cell .nil pass0 (pa_cons (pv 0) (pa_cons pe_int pa_nil))) pa_nil)) (pg_tupK (K := K) (n := 2) rfl rfl (pgs_cons (pg_name (i := 1) sc_law.nd rfl (.inl rfl)) (pgs_cons (pg_name (i := 2) sc_law.nd rfl (.inl rfl)) pgs_nil))))
      (pss_cons (ps_set (i := 3) sc_law.nd rfl (.inl rfl) (pe_make T.M_Rule (ok_Rule_init T) (hr.mono (by decide)) rfl T.g_Rule T.b_Rule_init .nil pass0 (pa_cons (pv 1) (pa_cons (pv 2) pa_nil))))
      (pss_cons (ps_set (i := 4) sc_law.nd rfl (.inr rfl) (pe_call (ok_law_wishes T) (hr.mono (by decide)) (by rfl) T.g_law_wishes T.F_law_wishes.kp T.b_law_wishes .nil pass0 (pa_cons (pe_call (ok_law_cell T) (hr.mono (by decide)) (by rfl) T.g_law_cell T.F_law_cell.kp T.b_law_cell .nil pass0 (pa_cons (pv 0) (pa_cons pe_int pa_nil))) (pa_cons pe_int pa_nil))))
      (pss_cons (ps_set (i := 5) sc_law.nd rfl (.inl rfl) (pe_callB call_lenL (by rfl) T.z_len (by decide +kernel) (pa_cons (pv 4) pa_nil)))
      (pss_cons (ps_set (i := 6) sc_law.nd rfl (.inl rfl) (pe_callB call_len_str (by rfl) T.z_len (by decide +kernel) (pa_cons (pe_ix ix_list (pv 4) pe_int (fun _ _ => rfl)) pa_nil)))
      (pss_cons (ps_set (i := 7) sc_law.nd rfl (.inr rfl) pe_dnewT)
      (pss_cons (ps_set (i := 8) sc_law.nd rfl (.inl rfl) (pe_callB call_abs (by rfl) T.z_abs (by decide +kernel) (pa_cons (pe_call (ok_law_cell T) (hr.mono (by decide)) (by rfl) T.g_law_cell T.F_law_cell.kp T.b_law_cell .nil pass0 (pa_cons (pv 0) (pa_cons pe_int pa_nil))) pa_nil)))
      (pss_cons (ps_set (i := 9) sc_law.nd rfl (.inl rfl) (pe_call (ok_law_row T) (hr.mono (by decide)) (by rfl) T.g_law_row T.F_law_row.kp T.b_law_row .nil pass0 (pa_cons (pv 8) (pa_cons (pe_op op_mul (pv 5) (pv 6)) (pa_cons pe_int pa_nil)))))
      (pss_cons (ps_for PassesOwn.never rfl (pi_range1 (by rfl) T.z_range (pa_cons (pe_op op_mul (pv 5) (pv 6)) pa_nil)) (pg_name (i := 10) sc_law.nd rfl (.inl rfl))
      (pss_one (ps_if (PW.pt (pw_and (pt_cmpR op_eq (pe_ix ix_str (pe_ix ix_list (pv 4) (pe_op op_fdiv (pv 10) (pv 6)) (fun _ _ => rfl)) (pe_op op_mod (pv 10) (pv 6)) (fun _ _ => rfl)) pe_str (nomark _)) (pw_and1 (pt_cmpR op_lt (pe_op op_mod (pe_ix ix_list (pv 9) (pv 10) (fun _ _ => rfl)) pe_int) (pe_op op_add pe_int (pe_op op_mod (pe_op op_fdiv (pv 8) pe_int) pe_int)) (nomark _)))))
      (pss_one (ps_dput hu (pv 7) (pe_tup (pa_cons (pe_op op_fdiv (pv 10) (pv 6)) (pa_cons (pe_op op_mod (pv 10) (pv 6)) pa_nil))) (pe_cmpR op_gt (pe_ix ix_list (pv 9) (pv 10) (fun _ _ => rfl)) pe_int (nomark _)) rfl))
      pss_nil)))
      (pss_cons (ps_set (i := 11) sc_law.nd rfl (.inl rfl) (pe_callB (cr_sortedD hr.units) (by rfl) T.z_sorted (by decide +kernel) (pa_cons (pe_lock (pe_lc (own := [("key", 16)]) (g := gName 16) (tt := tYes) rfl sc_law.nd (pi_keys (pv 7)) (blkOk_by (own := [("key", 16)]) (N := N_law) (sc := defScope s_law) (by decide +kernel)) (fun _ _ _ _ _ => pg_name (i := 16) sc_law.nd rfl (Or.inl rfl)) (fun _ _ _ _ _ => pts_nil) (fun _ _ _ _ _ => (pe_tup (pa_cons (pv 16) (pa_cons (pe_dget hu (pv 7) (pv 16) (fun _ _ => rfl)) pa_nil)))))) pa_nil)))
      (pss_cons (ps_for PassesOwn.never rfl (pi_range2 (by rfl) T.z_range (pa_cons (pe_un un_neg pe_int) (pa_cons (pe_op op_add (pv 5) pe_int) pa_nil))) (pg_name (i := 12) sc_law.nd rfl (.inr rfl))
      (pss_one (ps_for PassesOwn.never rfl (pi_range2 (by rfl) T.z_range (pa_cons (pe_un un_neg pe_int) (pa_cons (pe_op op_add (pv 6) pe_int) pa_nil))) (pg_name (i := 13) sc_law.nd rfl (.inl rfl))
      (pss_cons (ps_set (i := 14) sc_law.nd rfl (.inl rfl) (pe_call (ok_place_fails T) (hr.mono (by decide)) (by rfl) T.g_place_fails T.F_place_fails.kp T.b_place_fails .nil pass0 (pa_cons (pv 4) (pa_cons (pv 3) (pa_cons (pv 7) (pa_cons (pv 12) (pa_cons (pv 13) pa_nil)))))))
      (pss_one (ps_if (PW.pt (pw_or (pt_not (pt_val (pe_callB call_isi (by rfl) T.z_isinstance (by decide +kernel) (pa_cons (pv 14) (pa_cons (pe_bltn (v := .ty "bool") (by rfl) T.z_bool (by decide +kernel) rfl) pa_nil))))) (pw_or1 (pt_cmpR op_ne (pv 14) (pe_call (ok_law_tried T) (hr.mono (by decide)) (by rfl) T.g_law_tried T.F_law_tried.kp T.b_law_tried .nil pass0 (pa_cons (pv 4) (pa_cons (pv 1) (pa_cons (pv 2) (pa_cons (pv 7) (pa_cons (pv 12) (pa_cons (pv 13) pa_nil))))))) (nomark _)))))
      (pss_one (ps_ret pe_bl))
      pss_nil))))))
      (pss_cons (ps_if (pt_cmpR (op_neD hr.units) (pe_callB (cr_sortedD hr.units) (by rfl) T.z_sorted (by decide +kernel) (pa_cons (pe_lock (pe_lc (own := [("key", 16)]) (g := gName 16) (tt := tYes) rfl sc_law.nd (pi_keys (pv 7)) (blkOk_by (own := [("key", 16)]) (N := N_law) (sc := defScope s_law) (by decide +kernel)) (fun _ _ _ _ _ => pg_name (i := 16) sc_law.nd rfl (Or.inl rfl)) (fun _ _ _ _ _ => pts_nil) (fun _ _ _ _ _ => (pe_tup (pa_cons (pv 16) (pa_cons (pe_dget hu (pv 7) (pv 16) (fun _ _ => rfl)) pa_nil)))))) pa_nil)) (pv 11) (nomark _))
      (pss_one (ps_ret pe_bl))
      pss_nil)
      (pss_cons (ps_set (i := 15) sc_law.nd rfl (.inl rfl) (pe_lst pa_nil))
      (pss_cons (ps_for PassesOwn.never rfl (pi_range1 (by rfl) T.z_range (pa_cons (pv 5) pa_nil)) (pg_name (i := 12) sc_law.nd rfl (.inr rfl))
      (pss_one (ps_expr (pe_bm PySem.F.plainAttrs_list PySem.F.slot_list_append PySem.F.type_list_append mt_append (pv 15) (pa_cons (pe_join pe_str (pe_lc (own := [("c", 13)]) (g := gName 13) (tt := tYes) rfl sc_law.nd (pi_range1 (by rfl) T.z_range (pa_cons (pv 6) pa_nil)) (blkOk_by (own := [("c", 13)]) (N := N_law) (sc := defScope s_law) (by decide +kernel)) (fun _ _ _ _ _ => pg_name (i := 13) sc_law.nd rfl (Or.inl rfl)) (fun _ _ _ _ _ => pts_nil) (fun _ _ _ _ _ => (pe_ix ix_str pe_str (pe_callB (call_max2 rfl) (by rfl) T.z_max (by decide +kernel) (pa_cons pe_int (pa_cons (pe_call (ok_law_said T) (hr.mono (by decide)) (by rfl) T.g_law_said T.F_law_said.kp T.b_law_said .nil pass0 (pa_cons (pv 4) (pa_cons (pv 7) (pa_cons (pv 12) (pa_cons (pv 13) pa_nil))))) pa_nil))) (fun _ _ => rfl))))) pa_nil)))))
      (pss_cons (ps_set (i := 14) sc_law.nd rfl (.inl rfl) (pe_call (ok_is_still T) (hr.mono (by decide)) (by rfl) T.g_is_still T.F_is_still.kp T.b_is_still .nil pass0 (pa_cons (pv 15) (pa_cons (pv 3) pa_nil))))
      (pss_one (ps_ret (pe_and (pe_callB call_isi (by rfl) T.z_isinstance (by decide +kernel) (pa_cons (pv 14) (pa_cons (pe_bltn (v := .ty "bool") (by rfl) T.z_bool (by decide +kernel) rfl) pa_nil))) (pe_one (pe_cmpR op_eq (pv 14) (pe_call (ok_law_still T) (hr.mono (by decide)) (by rfl) T.g_law_still T.F_law_still.kp T.b_law_still .nil pass0 (pa_cons (pv 15) (pa_cons (pv 1) (pa_cons (pv 2) pa_nil)))) (nomark _))))))))))))))))))))), ?_⟩
    k_upd
    refine ⟨_, rfl, a, ns, 0, rfl, hS, ?_⟩
    generalize cellOf ns 0 = z0
    refine ⟨z0, rfl, fun H1 p1 pb pss bs ss e1 g1 gb gs' good1 good0 => ?_⟩
    refine ⟨p1, _, rfl, tup_of g1, rfl, _, _, rfl, _, _, rfl, rfl, ?_⟩
    k_upd
    refine ⟨_, rfl, _, rfl, ?_⟩
    intro r dx nx nd nex
    refine ⟨H1, r, pb, pss, dx, bs, ss, rfl, madeS nx nd, nx, upd_same, lst_of gb, lst_of gs', by have := good1.2.2; omega, by have := good0.2.2; omega, fun H2 bs' ss' e2 ra c1 c2 => ⟨rfl, ?_⟩⟩
    have eb : bs' = bs := canon_eq c1 good1.1 fun _ => Iff.rfl
    have es : ss' = ss := canon_eq c2 good0.1 fun _ => Iff.rfl
    subst eb es
    have hb := good1.2.1
    k_upd
    refine ⟨_, rfl, a, ns, 1, rfl, (e1.trans e2).seq hS, ?_⟩
    generalize cellOf ns 1 = z1
    refine ⟨_, _, rfl, by decide, by decide, fun H3 l h wd B n3 e3 hl h1 h4 w1 w4 => ?_⟩
    have h4 : h ≤ 4 := by omega
    have w4 : wd ≤ 4 := by omega
    k_upd
    refine ⟨_, rfl, l, _, rfl, lst_of hl, ?_⟩
    rw [List.length_map, List.length_range]
    k_upd
    refine ⟨_, rfl, l, _, _, _, rfl, rfl, lst_of hl, atI_nat (pic_at (r := 0) h1), _, rfl, by rw [rowW_len, sizeLine_eq]; omega, ?_⟩
    rw [rowW_len]
    k_upd
    have m16 : h * wd ≤ 4 * 4 := Nat.mul_le_mul h4 w4
    have em : (h : Int) * (wd : Int) = ((h * wd : Nat) : Int) := rfl
    have ra3 := ra.up e3
    have gb3 := e3 _ _ (e2 _ _ gb)
    have gs3 := e3 _ _ (e2 _ _ gs')
    have s3 := e1.trans (e2.trans e3)
    refine fun dc ndc => ?_
    k_invariant "new" (ndc, H4, e4, g4)
    k_upd
    refine ⟨_, rfl, a, ns, 2, rfl, (s3.trans e4).seq hS, ?_⟩
    generalize cellOf ns 2 = z2
    refine ⟨_, rfl, ?_⟩
    generalize (if z2 < 0 then -z2 else z2) = x
    k_upd
    refine ⟨_, rfl, _, rfl, _, rfl, _, _, rfl, rfl, .inl ⟨by omega, by omega⟩, ?_⟩
    refine ⟨_, _, _, rfl, by omega, by omega, by decide, by decide, fun H5 p9 xs n5 e5 g5 l5 m5 => ?_⟩
    have l5 : xs.length = h * wd := by omega
    k_upd
    have np : p9 ≠ dc := fun z => by rw [z, g4] at n5; cases n5
    clear ra gb gs' g1 e1 e2 e3 c1 c2 nx nd
    have eANY : (Str.ofString "?") = (⟨#[sgn none]⟩ : Str) := by decide +kernel
    have eO : (Str.ofString "O") = (⟨#[sgn (some true)]⟩ : Str) := by decide +kernel
    refine ⟨_, rfl, _, rfl, _, _, rfl, rfl, .inl ⟨by omega, by omega⟩, _, rfl, by omega, by omega, for_range (lo := 0) (n := ((h : Int) * (wd : Int)).toNat) (fun i σ H' => Same H3 H' ∧ H' p9 = some (.lst (xs.map V.int)) ∧ (∃ x10 : Option V, σ = [some (.ref a), some (.ref pb), some (.ref pss), some (.ref r), some (.ref l), some (.int (h : Int)), some (.int (wd : Int)), some (.ref dc), some (.int x), some (.ref p9), x10, none, none, none, none, none, none]) ∧ ∃ (ps : List Pr) (g : Pr → Bool), Dct H' dc ps (fun x => .bl (g x)) ∧ ps.length ≤ i ∧ ∀ y ∈ ps, B y.1.toNat y.2.toNat = none)
      ⟨e4.trans e5, g5, ⟨_, rfl⟩, [], fun _ => true, (Dct.new _ g4).up e5, Nat.zero_le _, fun y z => by cases z⟩ ?_ ?_⟩
    · rintro i σ H6 hi ⟨s6, g6, ⟨x10, rfl⟩, ps, g, hD, lp, hps⟩
      rw [Int.zero_add]
      refine gName_go ?_
      k_upd
      have hi : i < h * wd := by omega
      have ix : (xs.map V.int)[i]? = some (.int (xs.getD i 0)) := by
        rw [List.getElem?_map, List.getD_eq_getElem?_getD, List.getElem?_eq_getElem (by omega)]
        rfl
      have lr : i / wd < h := (Nat.div_lt_iff_lt_mul (by omega)).mpr hi
      have lc : i % wd < wd := Nat.mod_lt _ (by omega)
      have eq : decide (V.str ⟨#[sgn (B (i / wd) (i % wd))]⟩ = V.str (Str.ofString "?")) = decide (B (i / wd) (i % wd) = none) := by rw [eANY]; exact sgnS_ne _ _
      refine ⟨_, rfl, _, rfl, _, rfl, _, _, rfl, rfl, ⟨by omega, by omega⟩, l, _, _, _, rfl, rfl, lst_of (s6 _ _ hl), (show atI _ ((i : Int) / (wd : Int)) = _ from atI_nat (j := i / wd) (pic_at lr)), ?_⟩
      refine ⟨_, rfl, _, rfl, _, _, rfl, rfl, (by show (0 : Int) < _; omega), _, _, _, rfl, rfl, by rw [rowW_len, sizeLine_eq]; omega, (show atI _ ((i : Int) % (wd : Int)) = _ from rowW_atI (c := i % wd) _ lc), rfl, ?_⟩
      rw [eq]
      refine ⟨_, rfl, ?_⟩
      by_cases c0 : B (i / wd) (i % wd) = none
      · rw [decide_eq_true c0]
        refine iteT ?_
        refine ⟨_, rfl, _, rfl, p9, _, _, _, rfl, rfl, lst_of g6, atI_nat ix, _, _, rfl, rfl, (by show (0 : Int) < _; omega), _, rfl, _, _, rfl, rfl, ⟨by decide, by decide⟩, _, _, rfl, rfl, (by show (0 : Int) < _; omega), _, _, rfl, rfl, _, _, rfl, rfl, _, rfl, ite2 (fun c => ?_) (fun c => ?_)⟩
        · obtain ⟨b, eb⟩ : ∃ b : Bool, b = decide (4 < xs.getD i 0) := ⟨_, rfl⟩
          refine ⟨_, rfl, _, rfl, p9, _, _, _, rfl, rfl, lst_of g6, atI_nat ix, _, _, rfl, rfl, ?_⟩
          dsimp only
          rw [← eb]
          refine ⟨_, rfl, _, rfl, _, rfl, _, _, rfl, rfl, ⟨by omega, by omega⟩, _, rfl, _, rfl, _, _, rfl, rfl, (by show (0 : Int) < _; omega), by k_clsL, fun p5 n5 => ?_⟩
          obtain ⟨y, ey⟩ : ∃ y : Pr, y = ((i : Int) / (wd : Int), (i : Int) % (wd : Int)) := ⟨_, rfl⟩
          obtain ⟨kvs0, k0, _⟩ := id hD
          have D5 : dc ≠ p5 := fun z => by
            rw [← z, k0] at n5
            cases n5
          have np2 : p9 ≠ dc := fun z => by
            rw [z, k0] at g6
            cases g6
          k_invariant "new" (n5, H7, e7, g7)
          have g7 : H7 p5 = some (.tup [.int y.1, .int y.2]) := by rw [ey]; exact g7
          obtain ⟨kvs, k1, k2⟩ := hD.up e7
          refine ⟨dc, _, rfl, DPut.t (k := keyP y) k1 g7 (by rw [k2.len, sizeLine_eq]; omega), mutS (s6.trans e7) ndc, by rw [upd_ne np2]; exact e7 _ _ g6, ⟨_, rfl⟩, addK ps y, fun z => if z = y then b else g z, ⟨_, upd_same, (k2.put _ _).congr fun z m => ?_⟩, by have := addK_len (ps := ps) (x := y); omega, fun z m => ?_⟩
          · unfold setG
            by_cases e : z = y
            · rw [if_pos e]
              dsimp only
              rw [if_pos e]
            · rw [if_neg e]
              dsimp only
              rw [if_neg e]
          · rcases mem_addK.mp m with m | m
            · exact hps z m
            · rw [m, ey]
              exact c0
        · exact ⟨s6, g6, ⟨_, rfl⟩, ps, g, hD, by omega, hps⟩
      · rw [decide_eq_false c0]
        refine iteF ?_
        exact ⟨s6, g6, ⟨_, rfl⟩, ps, g, hD, by omega, hps⟩
    rintro σ H6 ⟨s6, g6, ⟨x10, rfl⟩, ps, g, hD, lp, hps⟩
    obtain ⟨kvs, hk, hm⟩ := id hD
    have lp : ps.length ≤ 16 := by omega
    have hl5 : PicAt H6 l h wd B := s6 _ _ hl
    have ra5 := ra3.up s6
    have gb5 := s6 _ _ gb3
    have gs5 := s6 _ _ gs3
    have S5 := s3.trans s6
    clear hl ra3 gb3 gs3 g6 m5 l5 e4 e5 g4 g5 np n5
    -- before
    refine ⟨dc, _, hk, trivial, fun od => ⟨_, rfl, dc, od, rfl, .inr ⟨kvs, upd_same, fun D nD => lc_items hm upd_same nD (by rw [sizeLine_eq]; omega) ?_ fun H7 e7 h7 => ?_⟩⟩⟩
    · intro t y H' Po Pn ht hg hq
      exact ⟨rfl, tyesT ⟨_, rfl, _, rfl, _, rfl, dc, _, rfl, hg, by k_clsL, fun t2 n2 => hq t2 n2⟩⟩
    have gd6 : H7 dc = some (.frz od (.dT kvs)) := e7 _ _ upd_same
    have s67 : Same H6 (upd H7 dc (.dT kvs)) := unlock hk e7
    have h7' := h7.mut (u := .dT kvs) gd6
    obtain ⟨xs6, gx6, dp6⟩ := h7'.dp (K := K)
    refine ⟨gd6, D, xs6, _, rfl, lst_of gx6, dp6, kv_alike _ _, kv_sortable _ _, kv_depth _ _, fun p7 n7 => ?_⟩
    have dps := srtD_dp dp6
    rw [srtD_data (dpAll_len dp6)] at dps
    k_invariant "new" (n7, H8, e8, g8)
    obtain ⟨C, eC⟩ : ∃ C : Pr → Option Bool, C = fun x => if x ∈ ps then some (g x) else none := ⟨_, rfl⟩
    have s68 := s67.trans e8
    have hC7 : CaseAt H8 dc C := ⟨ps, g, hD.up s68, by omega, fun x => by rw [eC]⟩
    have hAC : ∀ x, C x ≠ none → B x.1.toNat x.2.toNat = none := fun x z => by
      rw [eC] at z
      refine hps x (Classical.byContradiction fun n => z ?_)
      dsimp only
      rw [if_neg n]
    have hD7 := hD.up s68
    have hl7 : PicAt H8 l h wd B := s68 _ _ hl5
    have ra7 := ra5.up s68
    have gb7 := s68 _ _ gb5
    have gs7 := s68 _ _ gs5
    have S7 := S5.trans s68
    have dp7 := dpAll_up e8 dps
    have n7' : H8 p7 = some (.lst ((srtD xs6 (ps.map (kvD g))).map (·.1))) := g8
    clear hD hl5 ra5 gb5 gs5 S5 gd6 s67 e7 e8 h7 h7' gx6 dp6 dps n7 hk s68
    k_upd
    refine ⟨_, rfl, _, rfl, _, _, rfl, rfl, _, _, rfl, ⟨by omega, by omega, by omega, by omega⟩, for_range (lo := -1) (n := ((h : Int) + 1 - -1).toNat) (fun i σ' H' => Same H8 H' ∧ ∃ x12 x13 x14 : Option V, σ' = [some (.ref a), some (.ref pb), some (.ref pss), some (.ref r), some (.ref l), some (.int (h : Int)), some (.int (wd : Int)), some (.ref dc), some (.int x), some (.ref p9), x10, some (.ref p7), x12, x13, x14, none, none])
      ⟨Same.refl _, none, none, none, rfl⟩ ?_ ?_⟩
    · rintro row σ H9 hrow ⟨s9, x12, x13, x14, rfl⟩
      refine gName_go ?_
      k_upd
      refine ⟨_, rfl, _, rfl, _, _, rfl, rfl, _, _, rfl, ⟨by omega, by omega, by omega, by omega⟩, for_range (lo := -1) (n := ((wd : Int) + 1 - -1).toNat) (fun i σ' H' => Same H8 H' ∧ ∃ x13 x14 : Option V, σ' = [some (.ref a), some (.ref pb), some (.ref pss), some (.ref r), some (.ref l), some (.int (h : Int)), some (.int (wd : Int)), some (.ref dc), some (.int x), some (.ref p9), x10, some (.ref p7), some (.int (-1 + (row : Int))), x13, x14, none, none])
        ⟨s9, x13, x14, rfl⟩ ?_ ?_⟩
      · rintro col σ H10 hcol ⟨s10, y13, y14, rfl⟩
        refine gName_go ?_
        k_upd
        refine ⟨_, rfl, _, rfl, _, rfl, _, rfl, _, rfl, l, r, dc, h, wd, -1 + (row : Int), -1 + (col : Int), B, C, bs', ss', rfl, s10 _ _ hl7, h1, by omega, by omega, by omega, hC7.up s10, ra7.up s10, fun H11 b e11 hb1 => ?_⟩
        k_upd
        refine ⟨_, rfl, _, _, _, _, true, rfl, .ty "bool", .base (.bl _), kit_ty (by decide +kernel), _, rfl, iteF ?_⟩
        have s11 := s10.trans e11
        refine ⟨_, rfl, _, rfl, _, rfl, _, rfl, _, rfl, _, rfl, _, rfl, l, pb, pss, dc, h, wd, -1 + (row : Int), -1 + (col : Int), B, C, bs', ss', rfl, s11 _ _ hl7, h1, by omega, by omega, hC7.up s11, hAC, by omega, by omega, by omega, by omega, s11 _ _ gb7, s11 _ _ gs7, fun H12 b' e12 hb2 => ?_⟩
        have ebb : b = b' := by
          rw [Bool.eq_iff_iff, hb1, hb2]
        rw [ebb]
        refine ⟨rfl, _, rfl, ?_⟩
        rw [decide_eq_true rfl]
        exact iteF ⟨s11.trans e12, _, _, rfl⟩
      · rintro σ H10 ⟨s10, y13, y14, rfl⟩
        exact ⟨s10, _, _, _, rfl⟩
    rintro σ H9 ⟨s9, x12, x13, x14, rfl⟩
    obtain ⟨kvs8, hk8, hm8⟩ := hD7.up s9
    refine ⟨dc, _, hk8, trivial, fun od => ⟨_, rfl, dc, od, rfl, .inr ⟨kvs8, upd_same, fun D nD => lc_items hm8 upd_same nD (by rw [sizeLine_eq]; omega) ?_ fun H10 e10 h10 => ?_⟩⟩⟩
    · intro t y H' Po Pn ht hg hq
      exact ⟨rfl, tyesT ⟨_, rfl, _, rfl, _, rfl, dc, _, rfl, hg, by k_clsL, fun t2 n2 => hq t2 n2⟩⟩
    have gd9 : H10 dc = some (.frz od (.dT kvs8)) := e10 _ _ upd_same
    have s89 : Same H9 (upd H10 dc (.dT kvs8)) := unlock hk8 e10
    have h9' := h10.mut (u := .dT kvs8) gd9
    obtain ⟨xs9, gx9, dp9⟩ := h9'.dp (K := K)
    refine ⟨gd9, D, xs9, _, rfl, lst_of gx9, dp9, kv_alike _ _, kv_sortable _ _, kv_depth _ _, fun p10 n10 => ?_⟩
    have dps9 := srtD_dp dp9
    rw [srtD_data (dpAll_len dp9)] at dps9
    k_invariant "new" (n10, H11, e11, g11)
    have s11 := s9.trans (s89.trans e11)
    refine ⟨_, rfl, .list (kvS g ps), .list (kvS g ps), .lst (lst_of g11) (dpAll_up e11 dps9), .lst (lst_of (s11 _ _ n7')) (dpAll_up s11 dp7), shaped_kvS _ _, shaped_kvS _ _, ?_⟩
    rw [kvS_eqv]
    refine ⟨_, rfl, iteF ?_⟩
    have hl10 : PicAt H11 l h wd B := s11 _ _ hl7
    have ra10 := ra7.up s11
    have hC10 := hC7.up s11
    have gb10 := s11 _ _ gb7
    have gs10 := s11 _ _ gs7
    have S10 := S7.trans s11
    clear hl7 ra7 hC7 gb7 gs7 S7 dp7 n7' s11 e11 dps9 g11 n10 dp9 gx9 h9' s89 gd9 h10 e10 hk8 hm8 s9 hD7
    -- picture
    k_upd
    refine ⟨Nat.zero_le _, fun pp npp => ?_⟩
    k_invariant "new" (npp, H12, e12, g12)
    k_upd
    obtain ⟨av, eav⟩ : ∃ av : Nat → Nat → Bool, av = fun (r c : Nat) => (S24 h wd B C ((r : Int), (c : Int))).getD false := ⟨_, rfl⟩
    refine ⟨_, rfl, _, rfl, by omega, by omega, for_range (lo := 0) (n := ((h : Int)).toNat) (fun i σ' H' => Same H11 H' ∧ H' pp = some (.lst ((List.range i).map fun r => V.str (rowW wd fun c => some (av r c)))) ∧ ∃ x12 x13 : Option V, σ' = [some (.ref a), some (.ref pb), some (.ref pss), some (.ref r), some (.ref l), some (.int (h : Int)), some (.int (wd : Int)), some (.ref dc), some (.int x), some (.ref p9), x10, some (.ref p7), x12, x13, x14, some (.ref pp), none])
      ⟨e12, g12, x12, x13, rfl⟩ ?_ ?_⟩
    · rintro i σ H13 hi ⟨s13, g13, y12, y13, rfl⟩
      refine gName_go ?_
      rw [Int.zero_add]
      k_upd
      refine ⟨_, rfl, .inl ⟨rfl, _, lst_of g13⟩, ?_⟩
      refine ⟨⟨_, rfl⟩, _, rfl, _, rfl, by omega, by omega, fun D nD => lc_range (lo := 0) (n := ((wd : Int)).toNat) (fun c H' => Same H13 H' ∧ H' D = some (.lst ((((List.range c).map fun c => sgn (some (av i c))).map fun c => (⟨#[c]⟩ : Str)).map V.str))) ⟨newS nD, upd_same⟩ ?_ ?_⟩
      · rintro c H14 hc ⟨s14, g14⟩
        rw [Int.zero_add]
        refine ⟨rfl, tyesT ⟨_, rfl, _, rfl, _, rfl, _, rfl, l, dc, h, wd, (i : Int), (c : Int), B, C, rfl, (s13.trans s14) _ _ hl10, h1, by omega, by omega, hC10.up (s13.trans s14), hAC, fun H15 e15 => ?_⟩⟩
        refine ⟨_, _, rfl, _, _, _, rfl, rfl, by decide +kernel, dotO_max _, ?_⟩
        refine ⟨_, e15 _ _ g14, ?_, mutS (s14.trans e15) nD, ?_⟩
        · rw [List.length_map, List.length_map, List.length_map, List.length_range, sizeLine_eq]
          omega
        · rw [upd_same, List.range_succ (n := c), List.map_append, List.map_append, List.map_append, eav]
          rfl
      rintro H14 ⟨s14, g14⟩
      rw [show ((wd : Int)).toNat = wd by omega] at g14
      refine ⟨_, D, _, rfl, rfl, .inl (lst_of g14), ?_, ?_⟩
      · rw [signs_sum, List.length_map, List.length_range]
        omega
      rw [join_signs]
      refine ⟨pp, _, _, rfl, rfl, s14 _ _ g13, by rw [List.length_map, List.length_range, sizeLine_eq]; omega, mutS (s13.trans s14) npp, ?_, _, _, rfl⟩
      rw [upd_same, List.range_succ (n := i), List.map_append]
      rfl
    rintro σ H13 ⟨s13, g13, y12, y13, rfl⟩
    rw [show ((h : Int)).toNat = h by omega] at g13
    have hp13 : PicAt H13 pp h wd (fun r c => some (av r c)) := g13
    refine ⟨_, rfl, _, rfl, pp, r, h, wd, fun r c => some (av r c), bs', ss', rfl, hp13, h1, by omega, by omega, ra10.up s13, fun H14 b e14 hb14 => ?_⟩
    refine gName_go ?_
    k_upd
    rw [still_iff hb] at hb14
    refine ⟨_, rfl, _, _, _, _, true, rfl, .ty "bool", .base (.bl _), kit_ty (by decide +kernel), _, rfl, iteT ?_⟩
    have s14 := s13.trans e14
    refine ⟨_, rfl, _, rfl, _, rfl, _, rfl, pp, pb, pss, h, wd, fun r c => some (av r c), bs', ss', rfl, e14 _ _ hp13, by omega, by omega, s14 _ _ gb10, s14 _ _ gs10, hb, fun H15 b2 e15 hb15 => ?_⟩
    have ebb : b = b2 := by
      rw [Bool.eq_iff_iff, hb14, hb15]
    rw [ebb]
    refine ⟨rfl, ?_⟩
    rw [decide_eq_true rfl]
    exact q _
end
end My
namespace My
open PySem PySem.Spec PyProof.Rows L2 Vx
theorem all_mk {l : PySem.W.OpenLaw} {w : World} {K : PySem.W.Frag} {h : Heap} {mg : Str → Option Value} {fa : Addr} (X : K.In h) (G : h.Ns mainGlobals mg) (hfa : mg "law" = some (.ref fa))
    {C_Rule : Addr}
    {f_states_of : Addr} {odstates_of anstates_of : Option Addr} {slstates_of : Array (Option Value)} {ocstates_of kVstates_of dcstates_of pmstates_of cdstates_of ctstates_of : Value}
    {f_size_of : Addr} {odsize_of ansize_of : Option Addr} {slsize_of : Array (Option Value)} {ocsize_of kVsize_of dcsize_of pmsize_of cdsize_of ctsize_of : Value}
    {f_cells_around : Addr} {odcells_around ancells_around : Option Addr} {slcells_around : Array (Option Value)} {occells_around kVcells_around dccells_around pmcells_around cdcells_around ctcells_around : Value}
    {f_nine_fail : Addr} {odnine_fail annine_fail : Option Addr} {slnine_fail : Array (Option Value)} {ocnine_fail kVnine_fail dcnine_fail pmnine_fail cdnine_fail ctnine_fail : Value}
    {f_count_ways : Addr} {odcount_ways ancount_ways : Option Addr} {slcount_ways : Array (Option Value)} {occount_ways kVcount_ways dccount_ways pmcount_ways cdcount_ways ctcount_ways : Value}
    {f_is_still : Addr} {odis_still anis_still : Option Addr} {slis_still : Array (Option Value)} {ocis_still kVis_still dcis_still pmis_still cdis_still ctis_still : Value}
    {f_place_fails : Addr} {odplace_fails anplace_fails : Option Addr} {slplace_fails : Array (Option Value)} {ocplace_fails kVplace_fails dcplace_fails pmplace_fails cdplace_fails ctplace_fails : Value}
    {f_places : Addr} {odplaces anplaces : Option Addr} {slplaces : Array (Option Value)} {ocplaces kVplaces dcplaces pmplaces cdplaces ctplaces : Value}
    {f_Rule_init : Addr} {odRule_init anRule_init : Option Addr} {slRule_init : Array (Option Value)} {ocRule_init kVRule_init dcRule_init pmRule_init cdRule_init ctRule_init : Value}
    {f_Rule_lives : Addr} {odRule_lives anRule_lives : Option Addr} {slRule_lives : Array (Option Value)} {ocRule_lives kVRule_lives dcRule_lives pmRule_lives cdRule_lives ctRule_lives : Value}
    {f_law_cell : Addr} {odlaw_cell anlaw_cell : Option Addr} {sllaw_cell : Array (Option Value)} {oclaw_cell kVlaw_cell dclaw_cell pmlaw_cell cdlaw_cell ctlaw_cell : Value}
    {f_law_row : Addr} {odlaw_row anlaw_row : Option Addr} {sllaw_row : Array (Option Value)} {oclaw_row kVlaw_row dclaw_row pmlaw_row cdlaw_row ctlaw_row : Value}
    {f_law_numbers : Addr} {odlaw_numbers anlaw_numbers : Option Addr} {sllaw_numbers : Array (Option Value)} {oclaw_numbers kVlaw_numbers dclaw_numbers pmlaw_numbers cdlaw_numbers ctlaw_numbers : Value}
    {f_law_next : Addr} {odlaw_next anlaw_next : Option Addr} {sllaw_next : Array (Option Value)} {oclaw_next kVlaw_next dclaw_next pmlaw_next cdlaw_next ctlaw_next : Value}
    {f_law_wishes : Addr} {odlaw_wishes anlaw_wishes : Option Addr} {sllaw_wishes : Array (Option Value)} {oclaw_wishes kVlaw_wishes dclaw_wishes pmlaw_wishes cdlaw_wishes ctlaw_wishes : Value}
    {f_law_said : Addr} {odlaw_said anlaw_said : Option Addr} {sllaw_said : Array (Option Value)} {oclaw_said kVlaw_said dclaw_said pmlaw_said cdlaw_said ctlaw_said : Value}
    {f_law_still : Addr} {odlaw_still anlaw_still : Option Addr} {sllaw_still : Array (Option Value)} {oclaw_still kVlaw_still dclaw_still pmlaw_still cdlaw_still ctlaw_still : Value}
    {f_law_tried : Addr} {odlaw_tried anlaw_tried : Option Addr} {sllaw_tried : Array (Option Value)} {oclaw_tried kVlaw_tried dclaw_tried pmlaw_tried cdlaw_tried ctlaw_tried : Value}
    {f_law : Addr} {odlaw anlaw : Option Addr} {sllaw : Array (Option Value)} {oclaw kVlaw dclaw pmlaw cdlaw ctlaw : Value}
    {uALIVE : Tok}
    {uANY : Tok}
    {aAROUND : Addr} {nAROUND : Nat} {uAROUND0 uAROUND1 uAROUND2 : Tok} {slAROUND : Array (Option Value)}
    (aCRule : PySem.W.nsIn K mainGlobals "Rule" = some (some (.ref C_Rule)))
    (pgRule : PySem.W.plainGet K C_Rule Str.empty = true)
    (hdRule : PySem.W.hasDictIn K C_Rule = true)
    (poRule : PySem.W.plainOver K C_Rule = true)
    (saRule : PySem.W.findIn K (.ref C_Rule) "__setattr__" = some (some (.builtin "object.__setattr__")))
    (mkRule : PySem.W.makesIn K C_Rule = true)
    (kcRule : PySem.W.keepIn K (.ref C_Rule) = true)
    (nRulebirths : PySem.W.findIn K (.ref C_Rule) "births" = some none)
    (nRulesurvival : PySem.W.findIn K (.ref C_Rule) "survival" = some none)
    (astates_of : PySem.W.nsIn K mainGlobals "states_of" = some (some (.ref f_states_of)))
    (lstates_of : K.lookup f_states_of = some ⟨ocstates_of, odstates_of, .func (PySem.W.fnOf "states_of" "states_of" (defArgs s_states_of) (defBody s_states_of) (defScope s_states_of) .none kVstates_of dcstates_of pmstates_of anstates_of cdstates_of ctstates_of), slstates_of⟩)
    (cstates_of : PySem.W.codeIn K cdstates_of "states_of" = true)
    (kstates_of : PySem.W.keepIn K (.ref f_states_of) = true)
    (asize_of : PySem.W.nsIn K mainGlobals "size_of" = some (some (.ref f_size_of)))
    (lsize_of : K.lookup f_size_of = some ⟨ocsize_of, odsize_of, .func (PySem.W.fnOf "size_of" "size_of" (defArgs s_size_of) (defBody s_size_of) (defScope s_size_of) .none kVsize_of dcsize_of pmsize_of ansize_of cdsize_of ctsize_of), slsize_of⟩)
    (csize_of : PySem.W.codeIn K cdsize_of "size_of" = true)
    (ksize_of : PySem.W.keepIn K (.ref f_size_of) = true)
    (acells_around : PySem.W.nsIn K mainGlobals "cells_around" = some (some (.ref f_cells_around)))
    (lcells_around : K.lookup f_cells_around = some ⟨occells_around, odcells_around, .func (PySem.W.fnOf "cells_around" "cells_around" (defArgs s_cells_around) (defBody s_cells_around) (defScope s_cells_around) .none kVcells_around dccells_around pmcells_around ancells_around cdcells_around ctcells_around), slcells_around⟩)
    (ccells_around : PySem.W.codeIn K cdcells_around "cells_around" = true)
    (kcells_around : PySem.W.keepIn K (.ref f_cells_around) = true)
    (anine_fail : PySem.W.nsIn K mainGlobals "nine_fail" = some (some (.ref f_nine_fail)))
    (lnine_fail : K.lookup f_nine_fail = some ⟨ocnine_fail, odnine_fail, .func (PySem.W.fnOf "nine_fail" "nine_fail" (defArgs s_nine_fail) (defBody s_nine_fail) (defScope s_nine_fail) .none kVnine_fail dcnine_fail pmnine_fail annine_fail cdnine_fail ctnine_fail), slnine_fail⟩)
    (cnine_fail : PySem.W.codeIn K cdnine_fail "nine_fail" = true)
    (knine_fail : PySem.W.keepIn K (.ref f_nine_fail) = true)
    (acount_ways : PySem.W.nsIn K mainGlobals "_count_ways" = some (some (.ref f_count_ways)))
    (lcount_ways : K.lookup f_count_ways = some ⟨occount_ways, odcount_ways, .func (PySem.W.fnOf "_count_ways" "_count_ways" (defArgs s_count_ways) (defBody s_count_ways) (defScope s_count_ways) .none kVcount_ways dccount_ways pmcount_ways ancount_ways cdcount_ways ctcount_ways), slcount_ways⟩)
    (ccount_ways : PySem.W.codeIn K cdcount_ways "_count_ways" = true)
    (kcount_ways : PySem.W.keepIn K (.ref f_count_ways) = true)
    (ais_still : PySem.W.nsIn K mainGlobals "is_still" = some (some (.ref f_is_still)))
    (lis_still : K.lookup f_is_still = some ⟨ocis_still, odis_still, .func (PySem.W.fnOf "is_still" "is_still" (defArgs s_is_still) (defBody s_is_still) (defScope s_is_still) .none kVis_still dcis_still pmis_still anis_still cdis_still ctis_still), slis_still⟩)
    (cis_still : PySem.W.codeIn K cdis_still "is_still" = true)
    (kis_still : PySem.W.keepIn K (.ref f_is_still) = true)
    (aplace_fails : PySem.W.nsIn K mainGlobals "place_fails" = some (some (.ref f_place_fails)))
    (lplace_fails : K.lookup f_place_fails = some ⟨ocplace_fails, odplace_fails, .func (PySem.W.fnOf "place_fails" "place_fails" (defArgs s_place_fails) (defBody s_place_fails) (defScope s_place_fails) .none kVplace_fails dcplace_fails pmplace_fails anplace_fails cdplace_fails ctplace_fails), slplace_fails⟩)
    (cplace_fails : PySem.W.codeIn K cdplace_fails "place_fails" = true)
    (kplace_fails : PySem.W.keepIn K (.ref f_place_fails) = true)
    (aplaces : PySem.W.nsIn K mainGlobals "_places" = some (some (.ref f_places)))
    (lplaces : K.lookup f_places = some ⟨ocplaces, odplaces, .func (PySem.W.fnOf "_places" "_places" (defArgs s_places) (defBody s_places) (defScope s_places) .none kVplaces dcplaces pmplaces anplaces cdplaces ctplaces), slplaces⟩)
    (cplaces : PySem.W.codeIn K cdplaces "_places" = true)
    (kplaces : PySem.W.keepIn K (.ref f_places) = true)
    (aRule_init : PySem.W.findIn K (.ref C_Rule) "__init__" = some (some (.ref f_Rule_init)))
    (iRule_init : PySem.W.isFn K (.ref f_Rule_init) = true)
    (lRule_init : K.lookup f_Rule_init = some ⟨ocRule_init, odRule_init, .func (PySem.W.fnOf "__init__" "Rule.__init__" (defArgs s_Rule_init) (defBody s_Rule_init) (defScope s_Rule_init) .none kVRule_init dcRule_init pmRule_init anRule_init cdRule_init ctRule_init), slRule_init⟩)
    (cRule_init : PySem.W.codeIn K cdRule_init "Rule.__init__" = true)
    (kRule_init : PySem.W.keepIn K (.ref f_Rule_init) = true)
    (aRule_lives : PySem.W.findIn K (.ref C_Rule) "lives" = some (some (.ref f_Rule_lives)))
    (iRule_lives : PySem.W.isFn K (.ref f_Rule_lives) = true)
    (lRule_lives : K.lookup f_Rule_lives = some ⟨ocRule_lives, odRule_lives, .func (PySem.W.fnOf "lives" "Rule.lives" (defArgs s_Rule_lives) (defBody s_Rule_lives) (defScope s_Rule_lives) .none kVRule_lives dcRule_lives pmRule_lives anRule_lives cdRule_lives ctRule_lives), slRule_lives⟩)
    (cRule_lives : PySem.W.codeIn K cdRule_lives "Rule.lives" = true)
    (kRule_lives : PySem.W.keepIn K (.ref f_Rule_lives) = true)
    (alaw_cell : PySem.W.nsIn K mainGlobals "_law_cell" = some (some (.ref f_law_cell)))
    (llaw_cell : K.lookup f_law_cell = some ⟨oclaw_cell, odlaw_cell, .func (PySem.W.fnOf "_law_cell" "_law_cell" (defArgs s_law_cell) (defBody s_law_cell) (defScope s_law_cell) .none kVlaw_cell dclaw_cell pmlaw_cell anlaw_cell cdlaw_cell ctlaw_cell), sllaw_cell⟩)
    (claw_cell : PySem.W.codeIn K cdlaw_cell "_law_cell" = true)
    (klaw_cell : PySem.W.keepIn K (.ref f_law_cell) = true)
    (alaw_row : PySem.W.nsIn K mainGlobals "_law_row" = some (some (.ref f_law_row)))
    (llaw_row : K.lookup f_law_row = some ⟨oclaw_row, odlaw_row, .func (PySem.W.fnOf "_law_row" "_law_row" (defArgs s_law_row) (defBody s_law_row) (defScope s_law_row) .none kVlaw_row dclaw_row pmlaw_row anlaw_row cdlaw_row ctlaw_row), sllaw_row⟩)
    (claw_row : PySem.W.codeIn K cdlaw_row "_law_row" = true)
    (klaw_row : PySem.W.keepIn K (.ref f_law_row) = true)
    (alaw_numbers : PySem.W.nsIn K mainGlobals "_law_numbers" = some (some (.ref f_law_numbers)))
    (llaw_numbers : K.lookup f_law_numbers = some ⟨oclaw_numbers, odlaw_numbers, .func (PySem.W.fnOf "_law_numbers" "_law_numbers" (defArgs s_law_numbers) (defBody s_law_numbers) (defScope s_law_numbers) .none kVlaw_numbers dclaw_numbers pmlaw_numbers anlaw_numbers cdlaw_numbers ctlaw_numbers), sllaw_numbers⟩)
    (claw_numbers : PySem.W.codeIn K cdlaw_numbers "_law_numbers" = true)
    (klaw_numbers : PySem.W.keepIn K (.ref f_law_numbers) = true)
    (alaw_next : PySem.W.nsIn K mainGlobals "_law_next" = some (some (.ref f_law_next)))
    (llaw_next : K.lookup f_law_next = some ⟨oclaw_next, odlaw_next, .func (PySem.W.fnOf "_law_next" "_law_next" (defArgs s_law_next) (defBody s_law_next) (defScope s_law_next) .none kVlaw_next dclaw_next pmlaw_next anlaw_next cdlaw_next ctlaw_next), sllaw_next⟩)
    (claw_next : PySem.W.codeIn K cdlaw_next "_law_next" = true)
    (klaw_next : PySem.W.keepIn K (.ref f_law_next) = true)
    (alaw_wishes : PySem.W.nsIn K mainGlobals "_law_wishes" = some (some (.ref f_law_wishes)))
    (llaw_wishes : K.lookup f_law_wishes = some ⟨oclaw_wishes, odlaw_wishes, .func (PySem.W.fnOf "_law_wishes" "_law_wishes" (defArgs s_law_wishes) (defBody s_law_wishes) (defScope s_law_wishes) .none kVlaw_wishes dclaw_wishes pmlaw_wishes anlaw_wishes cdlaw_wishes ctlaw_wishes), sllaw_wishes⟩)
    (claw_wishes : PySem.W.codeIn K cdlaw_wishes "_law_wishes" = true)
    (klaw_wishes : PySem.W.keepIn K (.ref f_law_wishes) = true)
    (alaw_said : PySem.W.nsIn K mainGlobals "_law_said" = some (some (.ref f_law_said)))
    (llaw_said : K.lookup f_law_said = some ⟨oclaw_said, odlaw_said, .func (PySem.W.fnOf "_law_said" "_law_said" (defArgs s_law_said) (defBody s_law_said) (defScope s_law_said) .none kVlaw_said dclaw_said pmlaw_said anlaw_said cdlaw_said ctlaw_said), sllaw_said⟩)
    (claw_said : PySem.W.codeIn K cdlaw_said "_law_said" = true)
    (klaw_said : PySem.W.keepIn K (.ref f_law_said) = true)
    (alaw_still : PySem.W.nsIn K mainGlobals "_law_still" = some (some (.ref f_law_still)))
    (llaw_still : K.lookup f_law_still = some ⟨oclaw_still, odlaw_still, .func (PySem.W.fnOf "_law_still" "_law_still" (defArgs s_law_still) (defBody s_law_still) (defScope s_law_still) .none kVlaw_still dclaw_still pmlaw_still anlaw_still cdlaw_still ctlaw_still), sllaw_still⟩)
    (claw_still : PySem.W.codeIn K cdlaw_still "_law_still" = true)
    (klaw_still : PySem.W.keepIn K (.ref f_law_still) = true)
    (alaw_tried : PySem.W.nsIn K mainGlobals "_law_tried" = some (some (.ref f_law_tried)))
    (llaw_tried : K.lookup f_law_tried = some ⟨oclaw_tried, odlaw_tried, .func (PySem.W.fnOf "_law_tried" "_law_tried" (defArgs s_law_tried) (defBody s_law_tried) (defScope s_law_tried) .none kVlaw_tried dclaw_tried pmlaw_tried anlaw_tried cdlaw_tried ctlaw_tried), sllaw_tried⟩)
    (claw_tried : PySem.W.codeIn K cdlaw_tried "_law_tried" = true)
    (klaw_tried : PySem.W.keepIn K (.ref f_law_tried) = true)
    (alaw : PySem.W.nsIn K mainGlobals "law" = some (some (.ref f_law)))
    (llaw : K.lookup f_law = some ⟨oclaw, odlaw, .func (PySem.W.fnOf "law" "law" (defArgs s_law) (defBody s_law) (defScope s_law) .none kVlaw dclaw pmlaw anlaw cdlaw ctlaw), sllaw⟩)
    (claw : PySem.W.codeIn K cdlaw "law" = true)
    (klaw : PySem.W.keepIn K (.ref f_law) = true)
    (zenumerate : PySem.W.nsIn K mainGlobals "enumerate" = some none)
    (zlen : PySem.W.nsIn K mainGlobals "len" = some none)
    (zmax : PySem.W.nsIn K mainGlobals "max" = some none)
    (zsum : PySem.W.nsIn K mainGlobals "sum" = some none)
    (zrange : PySem.W.nsIn K mainGlobals "range" = some none)
    (zany : PySem.W.nsIn K mainGlobals "any" = some none)
    (ztuple : PySem.W.nsIn K mainGlobals "tuple" = some none)
    (zsorted : PySem.W.nsIn K mainGlobals "sorted" = some none)
    (zset : PySem.W.nsIn K mainGlobals "set" = some none)
    (zint : PySem.W.nsIn K mainGlobals "int" = some none)
    (zabs : PySem.W.nsIn K mainGlobals "abs" = some none)
    (zisinstance : PySem.W.nsIn K mainGlobals "isinstance" = some none)
    (zbool : PySem.W.nsIn K mainGlobals "bool" = some none)
    (xALIVE : PySem.W.nsIn K mainGlobals "ALIVE" = some (some (.str (Str.ofString "O") uALIVE)))
    (xANY : PySem.W.nsIn K mainGlobals "ANY" = some (some (.str (Str.ofString "?") uANY)))
    (xAROUND : PySem.W.nsIn K mainGlobals "AROUND" = some (some (.ref aAROUND)))
    (lAROUND : K.lookup aAROUND = some ⟨.type "tuple", none, .seq #[.int (-1) uAROUND0, .int (0) uAROUND1, .int (1) uAROUND2] nAROUND, slAROUND⟩)
    (icomb : PySem.W.nsIn K mainGlobals "comb" = some (some (.builtin "math.comb"))) :
    ∃ fd : FuncData, (∀ (s : Shared) (v : Value), BindsTo s fd ⟨[v], []⟩ [("script", v)]) ∧ ∀ base : Heap, K.In base → base.Ns mainGlobals mg → FnOk l.prog w K mg base CX0 12 fa fd ["script"] (sp_law K) := by
  have e := hfa.symm.trans (PySem.W.mg_of X G alaw)
  cases e
  have F_states_of := fun_mk (st := s_states_of) lstates_of cstates_of kstates_of
  have b_states_of := F_states_of.binds (ps := ["picture"]) fun _ _ _ _ _ _ us hl => match us, hl with | [_], _ => rfl
  have F_size_of := fun_mk (st := s_size_of) lsize_of csize_of ksize_of
  have b_size_of := F_size_of.binds (ps := ["picture"]) fun _ _ _ _ _ _ us hl => match us, hl with | [_], _ => rfl
  have F_cells_around := fun_mk (st := s_cells_around) lcells_around ccells_around kcells_around
  have b_cells_around := F_cells_around.binds (ps := ["row", "column"]) fun _ _ _ _ _ _ us hl => match us, hl with | [_, _], _ => rfl
  have F_nine_fail := fun_mk (st := s_nine_fail) lnine_fail cnine_fail knine_fail
  have b_nine_fail := F_nine_fail.binds (ps := ["rule", "wanted", "nine"]) fun _ _ _ _ _ _ us hl => match us, hl with | [_, _, _], _ => rfl
  have F_count_ways := fun_mk (st := s_count_ways) lcount_ways ccount_ways kcount_ways
  have b_count_ways := F_count_ways.binds (ps := ["rule", "wanted", "middle", "alive", "unsaid"]) fun _ _ _ _ _ _ us hl => match us, hl with | [_, _, _, _, _], _ => rfl
  have F_is_still := fun_mk (st := s_is_still) lis_still cis_still kis_still
  have b_is_still := F_is_still.binds (ps := ["picture", "rule"]) fun _ _ _ _ _ _ us hl => match us, hl with | [_, _], _ => rfl
  have F_place_fails := fun_mk (st := s_place_fails) lplace_fails cplace_fails kplace_fails
  have b_place_fails := F_place_fails.binds (ps := ["wishes", "rule", "case", "row", "column"]) fun _ _ _ _ _ _ us hl => match us, hl with | [_, _, _, _, _], _ => rfl
  have F_places := fun_mk (st := s_places) lplaces cplaces kplaces
  have b_places := F_places.binds (ps := ["wishes"]) fun _ _ _ _ _ _ us hl => match us, hl with | [_], _ => rfl
  have F_Rule_init := fun_mk (st := s_Rule_init) lRule_init cRule_init kRule_init
  have b_Rule_init := F_Rule_init.binds (ps := ["self", "births", "survival"]) fun _ _ _ _ _ _ us hl => match us, hl with | [_, _, _], _ => rfl
  have F_Rule_lives := fun_mk (st := s_Rule_lives) lRule_lives cRule_lives kRule_lives
  have b_Rule_lives := F_Rule_lives.binds (ps := ["self", "alive", "count"]) fun _ _ _ _ _ _ us hl => match us, hl with | [_, _, _], _ => rfl
  have F_law_cell := fun_mk (st := s_law_cell) llaw_cell claw_cell klaw_cell
  have b_law_cell := F_law_cell.binds (ps := ["script", "k"]) fun _ _ _ _ _ _ us hl => match us, hl with | [_, _], _ => rfl
  have F_law_row := fun_mk (st := s_law_row) llaw_row claw_row klaw_row
  have b_law_row := F_law_row.binds (ps := ["cell", "count", "bound"]) fun _ _ _ _ _ _ us hl => match us, hl with | [_, _, _], _ => rfl
  have F_law_numbers := fun_mk (st := s_law_numbers) llaw_numbers claw_numbers klaw_numbers
  have b_law_numbers := F_law_numbers.binds (ps := ["cell"]) fun _ _ _ _ _ _ us hl => match us, hl with | [_], _ => rfl
  have F_law_next := fun_mk (st := s_law_next) llaw_next claw_next klaw_next
  have b_law_next := F_law_next.binds (ps := ["cells", "births", "survival"]) fun _ _ _ _ _ _ us hl => match us, hl with | [_, _, _], _ => rfl
  have F_law_wishes := fun_mk (st := s_law_wishes) llaw_wishes claw_wishes klaw_wishes
  have b_law_wishes := F_law_wishes.binds (ps := ["cell", "most"]) fun _ _ _ _ _ _ us hl => match us, hl with | [_, _], _ => rfl
  have F_law_said := fun_mk (st := s_law_said) llaw_said claw_said klaw_said
  have b_law_said := F_law_said.binds (ps := ["wishes", "case", "r", "c"]) fun _ _ _ _ _ _ us hl => match us, hl with | [_, _, _, _], _ => rfl
  have F_law_still := fun_mk (st := s_law_still) llaw_still claw_still klaw_still
  have b_law_still := F_law_still.binds (ps := ["picture", "births", "survival"]) fun _ _ _ _ _ _ us hl => match us, hl with | [_, _, _], _ => rfl
  have F_law_tried := fun_mk (st := s_law_tried) llaw_tried claw_tried klaw_tried
  have b_law_tried := F_law_tried.binds (ps := ["wishes", "births", "survival", "case", "r", "c"]) fun _ _ _ _ _ _ us hl => match us, hl with | [_, _, _, _, _, _], _ => rfl
  have F_law := fun_mk (st := s_law) llaw claw klaw
  have b_law := F_law.binds (ps := ["script"]) fun _ _ _ _ _ _ us hl => match us, hl with | [_], _ => rfl
  let T : Txt K mg := {
    C_Rule := C_Rule,
    g_Rule := PySem.W.mg_of X G aCRule,
    cl_Rule := ⟨pgRule, hdRule, poRule, saRule⟩,
    na_Rule_births := nRulebirths,
    na_Rule_survival := nRulesurvival,
    f_states_of := f_states_of,
    d_states_of := _,
    F_states_of := F_states_of,
    b_states_of := b_states_of,
    g_states_of := PySem.W.mg_of X G astates_of,
    f_size_of := f_size_of,
    d_size_of := _,
    F_size_of := F_size_of,
    b_size_of := b_size_of,
    g_size_of := PySem.W.mg_of X G asize_of,
    f_cells_around := f_cells_around,
    d_cells_around := _,
    F_cells_around := F_cells_around,
    b_cells_around := b_cells_around,
    g_cells_around := PySem.W.mg_of X G acells_around,
    f_nine_fail := f_nine_fail,
    d_nine_fail := _,
    F_nine_fail := F_nine_fail,
    b_nine_fail := b_nine_fail,
    g_nine_fail := PySem.W.mg_of X G anine_fail,
    f_count_ways := f_count_ways,
    d_count_ways := _,
    F_count_ways := F_count_ways,
    b_count_ways := b_count_ways,
    g_count_ways := PySem.W.mg_of X G acount_ways,
    f_is_still := f_is_still,
    d_is_still := _,
    F_is_still := F_is_still,
    b_is_still := b_is_still,
    g_is_still := PySem.W.mg_of X G ais_still,
    f_place_fails := f_place_fails,
    d_place_fails := _,
    F_place_fails := F_place_fails,
    b_place_fails := b_place_fails,
    g_place_fails := PySem.W.mg_of X G aplace_fails,
    f_places := f_places,
    d_places := _,
    F_places := F_places,
    b_places := b_places,
    g_places := PySem.W.mg_of X G aplaces,
    f_Rule_init := f_Rule_init,
    d_Rule_init := _,
    F_Rule_init := F_Rule_init,
    b_Rule_init := b_Rule_init,
    M_Rule := ⟨mkRule, aRule_init, iRule_init, kcRule⟩,
    f_Rule_lives := f_Rule_lives,
    d_Rule_lives := _,
    F_Rule_lives := F_Rule_lives,
    b_Rule_lives := b_Rule_lives,
    m_Rule_lives := ⟨aRule_lives, iRule_lives, kRule_lives⟩,
    f_law_cell := f_law_cell,
    d_law_cell := _,
    F_law_cell := F_law_cell,
    b_law_cell := b_law_cell,
    g_law_cell := PySem.W.mg_of X G alaw_cell,
    f_law_row := f_law_row,
    d_law_row := _,
    F_law_row := F_law_row,
    b_law_row := b_law_row,
    g_law_row := PySem.W.mg_of X G alaw_row,
    f_law_numbers := f_law_numbers,
    d_law_numbers := _,
    F_law_numbers := F_law_numbers,
    b_law_numbers := b_law_numbers,
    g_law_numbers := PySem.W.mg_of X G alaw_numbers,
    f_law_next := f_law_next,
    d_law_next := _,
    F_law_next := F_law_next,
    b_law_next := b_law_next,
    g_law_next := PySem.W.mg_of X G alaw_next,
    f_law_wishes := f_law_wishes,
    d_law_wishes := _,
    F_law_wishes := F_law_wishes,
    b_law_wishes := b_law_wishes,
    g_law_wishes := PySem.W.mg_of X G alaw_wishes,
    f_law_said := f_law_said,
    d_law_said := _,
    F_law_said := F_law_said,
    b_law_said := b_law_said,
    g_law_said := PySem.W.mg_of X G alaw_said,
    f_law_still := f_law_still,
    d_law_still := _,
    F_law_still := F_law_still,
    b_law_still := b_law_still,
    g_law_still := PySem.W.mg_of X G alaw_still,
    f_law_tried := f_law_tried,
    d_law_tried := _,
    F_law_tried := F_law_tried,
    b_law_tried := b_law_tried,
    g_law_tried := PySem.W.mg_of X G alaw_tried,
    f_law := fa,
    d_law := _,
    F_law := F_law,
    b_law := b_law,
    g_law := PySem.W.mg_of X G alaw,
    z_enumerate := PySem.W.mg_none_of X G zenumerate,
    z_len := PySem.W.mg_none_of X G zlen,
    z_max := PySem.W.mg_none_of X G zmax,
    z_sum := PySem.W.mg_none_of X G zsum,
    z_range := PySem.W.mg_none_of X G zrange,
    z_any := PySem.W.mg_none_of X G zany,
    z_tuple := PySem.W.mg_none_of X G ztuple,
    z_sorted := PySem.W.mg_none_of X G zsorted,
    z_set := PySem.W.mg_none_of X G zset,
    z_int := PySem.W.mg_none_of X G zint,
    z_abs := PySem.W.mg_none_of X G zabs,
    z_isinstance := PySem.W.mg_none_of X G zisinstance,
    z_bool := PySem.W.mg_none_of X G zbool,
    c_ALIVE := ⟨_, PySem.W.mg_of X G xALIVE, ⟨_, rfl⟩⟩,
    c_ANY := ⟨_, PySem.W.mg_of X G xANY, ⟨_, rfl⟩⟩,
    a_AROUND := aAROUND,
    t_AROUND := fun H => .inr ⟨_, _, _, lAROUND, rfl, rfl, (by show 3 ≤ sizeLine; decide), (.cons ⟨_, rfl⟩ (.cons ⟨_, rfl⟩ (.cons ⟨_, rfl⟩ .nil)))⟩,
    c_AROUND := ⟨_, PySem.W.mg_of X G xAROUND, rfl⟩,
    i_comb := PySem.W.mg_of X G icomb }
  exact ⟨_, fun s v => .of_eq rfl, fun base _ _ => ok_law T⟩
end My
open PySem PySem.W PyProof.Rows
set_option maxHeartbeats 0 in
theorem PySem.Challenge.cw_longlife_k24_stills_and_failing_places_holds : PySem.Challenge.rw_longlife_k24_stills_and_failing_places.Holds := by
  w_on; o_law; k_head; (case hw => w_witness2)
  k_fill
  refine L2.walk_of (l := PySem.Challenge.rw_longlife_k24_stills_and_failing_places) (n := 63) (k := 12) (x := "script") (CX := fun _ => L2.CX0) (sp := fun w => My.sp_law _) rfl (by decide) rfl ⟨rfl, by decide, by decide⟩ (fun w h Y => PySem.W.kIn_of Y) ?F (fun _ _ a ns hl _ hS => ⟨a, ns, rfl, hS, hl, fun _ => rfl⟩) (fun _ _ _ _ _ h => h)
  case F =>
    intro w mg fa h KX G hmg
    refine' My.all_mk KX G hmg ?aCRule ?pgRule ?hdRule ?poRule ?saRule ?mkRule ?kcRule ?nRulebirths ?nRulesurvival ?astates_of ?lstates_of ?cstates_of ?kstates_of ?asize_of ?lsize_of ?csize_of ?ksize_of ?acells_around ?lcells_around ?ccells_around ?kcells_around ?anine_fail ?lnine_fail ?cnine_fail ?knine_fail ?acount_ways ?lcount_ways ?ccount_ways ?kcount_ways ?ais_still ?lis_still ?cis_still ?kis_still ?aplace_fails ?lplace_fails ?cplace_fails ?kplace_fails ?aplaces ?lplaces ?cplaces ?kplaces ?aRule_init ?iRule_init ?lRule_init ?cRule_init ?kRule_init ?aRule_lives ?iRule_lives ?lRule_lives ?cRule_lives ?kRule_lives ?alaw_cell ?llaw_cell ?claw_cell ?klaw_cell ?alaw_row ?llaw_row ?claw_row ?klaw_row ?alaw_numbers ?llaw_numbers ?claw_numbers ?klaw_numbers ?alaw_next ?llaw_next ?claw_next ?klaw_next ?alaw_wishes ?llaw_wishes ?claw_wishes ?klaw_wishes ?alaw_said ?llaw_said ?claw_said ?klaw_said ?alaw_still ?llaw_still ?claw_still ?klaw_still ?alaw_tried ?llaw_tried ?claw_tried ?klaw_tried ?alaw ?llaw ?claw ?klaw ?zenumerate ?zlen ?zmax ?zsum ?zrange ?zany ?ztuple ?zsorted ?zset ?zint ?zabs ?zisinstance ?zbool ?xALIVE ?xANY ?xAROUND ?lAROUND ?icomb
    (case aCRule => k_is)
    (case pgRule => k_is)
    (case hdRule => k_is)
    (case poRule => k_is)
    (case saRule => k_is)
    (case mkRule => k_is)
    (case kcRule => k_is)
    (case nRulebirths => k_is)
    (case nRulesurvival => k_is)
    (case astates_of => k_is)
    (case lstates_of => k_is)
    (case cstates_of => k_is)
    (case kstates_of => k_is)
    (case asize_of => k_is)
    (case lsize_of => k_is)
    (case csize_of => k_is)
    (case ksize_of => k_is)
    (case acells_around => k_is)
    (case lcells_around => k_is)
    (case ccells_around => k_is)
    (case kcells_around => k_is)
    (case anine_fail => k_is)
    (case lnine_fail => k_is)
    (case cnine_fail => k_is)
    (case knine_fail => k_is)
    (case acount_ways => k_is)
    (case lcount_ways => k_is)
    (case ccount_ways => k_is)
    (case kcount_ways => k_is)
    (case ais_still => k_is)
    (case lis_still => k_is)
    (case cis_still => k_is)
    (case kis_still => k_is)
    (case aplace_fails => k_is)
    (case lplace_fails => k_is)
    (case cplace_fails => k_is)
    (case kplace_fails => k_is)
    (case aplaces => k_is)
    (case lplaces => k_is)
    (case cplaces => k_is)
    (case kplaces => k_is)
    (case aRule_init => k_is)
    (case iRule_init => k_is)
    (case lRule_init => k_is)
    (case cRule_init => k_is)
    (case kRule_init => k_is)
    (case aRule_lives => k_is)
    (case iRule_lives => k_is)
    (case lRule_lives => k_is)
    (case cRule_lives => k_is)
    (case kRule_lives => k_is)
    (case alaw_cell => k_is)
    (case llaw_cell => k_is)
    (case claw_cell => k_is)
    (case klaw_cell => k_is)
    (case alaw_row => k_is)
    (case llaw_row => k_is)
    (case claw_row => k_is)
    (case klaw_row => k_is)
    (case alaw_numbers => k_is)
    (case llaw_numbers => k_is)
    (case claw_numbers => k_is)
    (case klaw_numbers => k_is)
    (case alaw_next => k_is)
    (case llaw_next => k_is)
    (case claw_next => k_is)
    (case klaw_next => k_is)
    (case alaw_wishes => k_is)
    (case llaw_wishes => k_is)
    (case claw_wishes => k_is)
    (case klaw_wishes => k_is)
    (case alaw_said => k_is)
    (case llaw_said => k_is)
    (case claw_said => k_is)
    (case klaw_said => k_is)
    (case alaw_still => k_is)
    (case llaw_still => k_is)
    (case claw_still => k_is)
    (case klaw_still => k_is)
    (case alaw_tried => k_is)
    (case llaw_tried => k_is)
    (case claw_tried => k_is)
    (case klaw_tried => k_is)
    (case alaw => k_is)
    (case llaw => k_is)
    (case claw => k_is)
    (case klaw => k_is)
    (case zenumerate => k_is)
    (case zlen => k_is)
    (case zmax => k_is)
    (case zsum => k_is)
    (case zrange => k_is)
    (case zany => k_is)
    (case ztuple => k_is)
    (case zsorted => k_is)
    (case zset => k_is)
    (case zint => k_is)
    (case zabs => k_is)
    (case zisinstance => k_is)
    (case zbool => k_is)
    (case xALIVE => k_is)
    (case xANY => k_is)
    (case xAROUND => k_is)
    (case lAROUND => k_is)
    (case icomb => k_is)
