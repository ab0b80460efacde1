import PyProof.Rows.All
import Wide.All
import OpenK.AllK
import Wide.FinOn
import HandS.ForMost
import HandS.Strs
import HandS.SetFor
import HandS.OwnEq
import HandS.SlotsOwn
import HandS.IsInst
import HandS.Wide
import HandS.Style
import HandS.Steps
import HandS.Walk
import HandS.TupSets
import HandS.SortRule
import PyProof.Rows.AssignMoreSeq
import HandS.NoneIn
import HandS.Deep
import PyProof.Rows.RegStrFacts
import HandS.DictTup
import HandS.Conv
import HandS.WideBits
import KE.OsArith
import PyProof.Rows.StrIntSpec
import KE.KxField
import HandS.FStr
import PyProof.Rows.RegReprOcc
import HandS.DictComp
import KE.GoesEnum
import KE.GoesMore
import HandS.Exc
import HandS.TryOnly
import HandS.ExcOwn
import HandS.WordsExc
import HandS.RaiseMore
import HandS.ExcIs
import HandS.Comp
import KE.KDictWalk
import KE.DataMinMax
import KE.DataFind
import HandS.TupLen
import HandS.SortKw
import HandS.Gcd
import KE.KMathGC
import KE.SortData
import HandS.Flow
import PySem.Challenge.RW_longlife_k14_whole_worlds_do_not_hang_on
set_option Elab.async false
set_option linter.all false
set_option maxRecDepth 100000
set_option maxHeartbeats 4000000
namespace Vx
open PySem PySem.Spec PyProof.Rows L2
/-! ### heaps that grow -/
theorem newS {H : Hp} {p : Addr} {o : HO} (n : H p = none) : Same H (upd H p o) := fun b x e => by
  rw [upd_ne (ne_of_none e n)]
  exact e
theorem mutS {H H' : Hp} {p : Addr} {o : HO} (e : Same H H') (n : H p = none) : Same H (upd H' p o) := fun b x hb => by
  rw [upd_ne (ne_of_none hb n)]
  exact e b x hb
theorem getS {H H' : Hp} {a : Addr} {o : HO} (e : Same H H') (h : H a = some o) : H' a = some o := e a o h
theorem tupS {K : PySem.W.Frag} {H H' : Hp} {a : Addr} {xs : List V} (e : Same H H') (h : SqT K H a xs) : SqT K H' a xs := by
  rcases h with (h | ⟨o, h⟩) | h
  · exact .inl (.inl (e _ _ h))
  · exact .inl (.inr ⟨o, e _ _ h⟩)
  · exact .inr h
theorem lst_of {K : PySem.W.Frag} {H : Hp} {a : Addr} {xs : List V} (h : H a = some (.lst xs)) : SqL K H a xs := .inl (.inl h)
theorem tup_of {K : PySem.W.Frag} {H : Hp} {a : Addr} {xs : List V} (h : H a = some (.tup xs)) : SqT K H a xs := .inl (.inl h)
theorem neS {H H' : Hp} {a p : Addr} {o : HO} (h : H a = some o) (e : Same H H') (n : H' p = none) : a ≠ p := ne_of_none (e a o h) n
theorem backS {H H' : Hp} {p : Addr} (e : Same H H') (n : H' p = none) : H p = none := Same.free e n
theorem gen_e {H H1 : Hp} {p : Addr} {o : HO} (q : upd H p o = H1) (n : H p = none) : Same H H1 ∧ H1 p = some o := by
  subst q
  exact ⟨newS n, upd_same⟩
/-! ### calls of built-ins, one way each -/
section
variable {X : Cx}
theorem call_intI : CallR X (.type "int") (fun xs H Q => ∃ i, xs = [.int i] ∧ Q (.int i) H) := fun pins s σ H xs us Q I r h => call_int1 pins s σ H xs us Q I r (.inl h)
theorem call_tupL : CallR X (.type "tuple") (fun xs H Q => ∃ p ys, xs = [.ref p] ∧ SqL X.K H p ys ∧ ∀ l, H l = none → Q (.ref l) (upd H l (.tup ys))) := fun pins s σ H xs us Q I r h => by
  obtain ⟨p, ys, e, hs, q⟩ := h
  exact call_tuple_of pins s σ H xs us Q I r ⟨p, ys, e, .inl ⟨hs, q⟩⟩
theorem call_lenL : CallR X (.builtin "len") (fun xs H Q => ∃ p ys, xs = [.ref p] ∧ SqL X.K H p ys ∧ Q (.int ys.length) H) := fun pins s σ H xs us Q I r h => by
  obtain ⟨p, ys, e, hs, q⟩ := h
  exact call_len_seq pins s σ H xs us Q I r ⟨p, ys, e, .inl hs, q⟩
theorem call_lenU : CallR X (.builtin "len") (fun xs H Q => ∃ p ys, xs = [.ref p] ∧ SqT X.K H p ys ∧ Q (.int ys.length) H) := fun pins s σ H xs us Q I r h => by
  obtain ⟨p, ys, e, hs, q⟩ := h
  exact call_len_seq pins s σ H xs us Q I r ⟨p, ys, e, .inr hs, q⟩
theorem call_listL : CallR X (.type "list") (fun xs H Q => ∃ p ys, xs = [.ref p] ∧ SqL X.K H p ys ∧ ∀ l, H l = none → Q (.ref l) (upd H l (.lst ys))) := fun pins s σ H xs us Q I r h => by
  obtain ⟨p, ys, e, hs, q⟩ := h
  exact call_list_of pins s σ H xs us Q I r ⟨p, ys, e, .inl hs, q⟩
/-- a class of the text is no built-in type -/
theorem op_isCT : OpR X (compareOp .Is) (fun x y H Q => ∃ a n, x = V.ref a ∧ y = V.ty n ∧ Q (.bl false) H) := by
  intro pins s σ H x y v u Q I rx ry h
  obtain ⟨a, n, rfl, rfl, q⟩ := h
  cases (show v = Value.ref a from rx)
  cases (show u = Value.type n from ry)
  exact wpAny_is_other rfl (fun z => by cases z) ⟨.bl false, H, I, rfl, q⟩
theorem looks_ty {M : Model} {s : Shared} {u : Value} {T : String} (h : s.TypeIs u T) : PySem.W.Looks M s.heap (typeOf u) (.type T) := by
  unfold Shared.TypeIs at h
  split at h
  · obtain ⟨o, ho, hc⟩ := h
    exact fun A Q E s' k q => wpAny_typeOf_ref (k _ _ ho) (by rw [hc]; exact q)
  · exact PySem.W.Looks.of_pure h
/-- x == y by the text's own __eq__; y an instance of that class, or of a built-in type -/
def rEqOwn (K : PySem.W.Frag) (C : Addr) (sp : Sp) (E : XK) : R2 := fun x y H Q => ∃ a dx fs, x = .ref a ∧ H a = some (.ins C dx fs) ∧
  ((∃ b dy gs, y = .ref b ∧ H b = some (.ins C dy gs)) ∨ ∃ T, TyB K H y T ∧ PySem.W.notFirst K C (.type T) = true) ∧ sp [x, y] H Q E
theorem op_eqOwn {CX : CXT} {C g : Addr} {n : Nat} {sp : Sp} {E : XK} (hs : PySem.W.findIn X.K (.ref C) "__eq__" = some (some (.ref g))) (hf : PySem.W.isFn X.K (.ref g) = true)
    (F : FnR X.prog X.w X.K X.mg X.base CX n g sp) (hr : Room n X.A) (hx : Passes CX X E) : OpR X (compareOp .Eq) (rEqOwn X.K C sp E) := by
  intro pins s σ H x y v u Q I rx ry h
  obtain ⟨a, dx, fs, rfl, ha, hy, q⟩ := h
  cases (show v = Value.ref a from rx)
  obtain ⟨mA, O, _⟩ := ins_get I.hok ha
  obtain ⟨od, J, _⟩ := O.look
  obtain ⟨m, hF⟩ := I.fr
  show wpAny (model X.prog X.w) X.A (richCompare .Eq (.ref a) u) (EP X pins σ Q) X.xe s
  have fin : wpAny (model X.prog X.w) X.A (call (.ref g) [.ref a, u]) (PySem.W.CmpBack (EP X pins σ Q)) X.xe s := by
    refine wpAny_mono (wpAny_call (run_fnR (us := [.ref a, u]) (vs := [.ref a, y]) F hr hx I (.cons rfl (.cons ry .nil)) q)) (fun w s' z => ?_) fun _ _ x => x
    obtain ⟨z', H', I', rz, qz⟩ := z
    exact SlX.cmpback rz ⟨z', H', I', rz, qz⟩
  rcases hy with ⟨b, dy, gs, rfl, hb⟩ | ⟨T, ty, nf⟩
  · cases (show u = Value.ref b from ry)
    obtain ⟨mB, O2, _⟩ := ins_get I.hok hb
    obtain ⟨od2, J2, _⟩ := O2.look
    exact PySem.W.cmp_K (op := .Eq) (tb := .ref C) hr.units0 hF I.ok.mod.kin J J2.type (by simp [PySem.W.notFirst]) hs hf fin
  · exact PySem.W.cmp_K (op := .Eq) (tb := .type T) hr.units0 hF I.ok.mod.kin J (looks_ty (ty.is I ry)) nf hs hf fin
theorem nf_str {K : PySem.W.Frag} {C : Addr} : PySem.W.notFirst K C (.type "str") = true := by rfl
theorem nf_tup {K : PySem.W.Frag} {C : Addr} : PySem.W.notFirst K C (.type "tuple") = true := by rfl
end
end Vx
namespace Vx
open PySem PySem.Spec PyProof.Rows L2
/-! ### set(xs) of a list of ints -/
abbrev bareSet (w : World) : Obj := { cls := .type "set", dict := none, data := .set #[] 0 (.fresh 0 0 (!w.params.followText "set-order")) }
section
variable {P : Program} {w : World} {A : Around} {E : Value → Shared → Prop} {s : Shared}
theorem set_of_list {l : Addr} {its : Array Value} (ns : List Int) {Q : Value → Shared → Prop} (calm : A.handled = none) (hl : s.heap.IsList l its) (hi : IntsAre its.toList ns) (room : ns.length + 1 < scanBound)
    (k : ∀ (g : Heap) (t c : Nat), SetR w g s.heap.objs.size (fun j => decide (j ∈ ns)) c → c ≤ ns.length → (∀ b o, s.heap.get? b = some o → g.get? b = some o) → Q (.ref s.heap.objs.size) { s with heap := g, toks := t }) :
    wpAny (model P w) A (call (.type "set") [.ref l]) Q E s := by
  have len : its.size = ns.length := by
    have z := IntsAre.length hi
    rwa [Array.length_toList] at z
  obtain ⟨c0, tl, hmro⟩ := F.called_set.mro
  have hmade := F.called_set.made
  have hsub := F.called_set.sub
  refine wpAny_call (codeAny_of_tree ?_)
  show wpAny _ _ (callAny (.type "set") _) _ _ _
  refine wpAny_pure ⟨Code.quiet_builtin _ (by decide +kernel), codeAny_builtin F.entry_type_call ?_⟩
  rw [Around.under_plain (weight_type_call_type "set" [.ref l] []) rfl]
  have n1 := F.called_set.notType
  have n2 := F.called_set.canCreate
  have n3 := F.typeCall_set_1 (.ref l)
  repeat (any_goals (first | assumption | wp_step))
  refine codeAny_mono (code_set_led1 (.ref l) (E := E) (Q₁ := fun ob s1 => ob = .ref s.heap.objs.size ∧ s1 = { s with heap := s.heap.push (bareSet w) }) ⟨rfl, rfl⟩) fun r s1 hr => ?_
  rcases r with e | fl
  · exact hr
  cases fl with
  | ret ob =>
    obtain ⟨rfl, rfl⟩ := hr
    have at0 : (s.heap.push (bareSet w)).get? s.heap.objs.size = some (bareSet w) := Heap.get?_push_size _ rfl
    have ty0 : Shared.TypeIs { s with heap := s.heap.push (bareSet w) } (.ref s.heap.objs.size) "set" := ⟨_, at0, rfl⟩
    have i1 := F.called_set.init.lookup
    have i2 := F.called_set.init.bind (.ref s.heap.objs.size)
    repeat (any_goals (first | assumption | wp_step))
    refine codeAny_mono (codeAny_call_builtin (R := wants (fun v s2 => v = .none ∧ ∃ g t c, s2 = { s with heap := g, toks := t } ∧ SetR w g s.heap.objs.size (fun j => decide (j ∈ ns)) c ∧ c ≤ ns.length ∧
        (∀ b o, s.heap.get? b = some o → g.get? b = some o)) E) F.called_set.init.plain F.entry_set_init (check_set_init_1 ty0 ?_)) fun r2 s2 hr2 => ?_
    · obtain ⟨⟨oc, od, ob, osl⟩, hol, hcl, nl, hdl⟩ := hl
      simp only at hcl hdl
      subst hcl hdl
      have at1 : (s.heap.push (bareSet w)).get? l = some { cls := .type "list", dict := od, data := .seq its nl, slots := osl } := Heap.get?_push_of_some _ hol
      have q1 := F.sub_list_set
      have q2 := F.sub_list_frozenset
      have q3 : (Value.type "list" == Value.type "dict") = false := by decide
      have isl : (s.heap.push (bareSet w)).IsList l its := ⟨_, at1, rfl, nl, rfl⟩
      unfold Builtin.«set.__init__» noKeywords Builtin.Frozenset.updateFrom
      generalize hPI : pyIter = PI
      wp_walk
      subst hPI
      refine wpAny_pyIter_list isl ?_
      refine wpAny_bind (wpAny_runValue ?_)
      have lS : l < s.heap.objs.size := Heap.lt_size hol
      have calm3 : A.in1.in1.in1.handled = none := by simp [calm]
      have neI : l ≠ (s.heap.push (bareSet w)).objs.size := by
        rw [Heap.size_push]
        exact Nat.ne_of_lt (Nat.lt_succ_of_lt lS)
      have noS : s.heap.objs.size ∉ [(s.heap.push (bareSet w)).objs.size, l] := by
        rw [Heap.size_push]
        simp only [List.mem_cons, List.mem_singleton, List.not_mem_nil, or_false, not_or]
        exact ⟨Nat.ne_of_lt (Nat.lt_succ_self _), Nat.ne_of_gt lS⟩
      have item : ∀ (i : Nat) (v : Value), its[i]? = some v → ∃ m t, ns[i]? = some m ∧ v = .int m t := fun i v hv => by
        have li : i < ns.length := by rw [← len]; exact (Array.getElem?_eq_some_iff.mp hv).1
        obtain ⟨t, e⟩ := PyProof.Rows.IntsAre.int_at hi i v (by rw [Array.getElem?_toList]; exact hv)
        refine ⟨ns[i], t, List.getElem?_eq_getElem li, ?_⟩
        rw [e, List.getD_eq_getElem?_getD, List.getElem?_eq_getElem li]
        rfl
      refine set_update_ints ((Walks.list calm3 _ l neI its).toS) s.heap.objs.size noS ns len room item (its.size - 0) 0 _ (by omega) (Nat.zero_le _) ⟨⟨_, Heap.get?_push_size _ rfl, rfl, rfl⟩, (isl.push _)⟩ ?s0 ?fin
      case s0 => exact ⟨0, Nat.le_refl 0, setR_new_at (Heap.get?_push_of_some _ at0)⟩
      case fin =>
        intro s3 c3 mv hc3 hS3
        obtain ⟨g3, ge, dr, t3, os3⟩ := s3
        cases (show ge = s.gens from mv.gens)
        cases (show dr = s.drawn from mv.drawn)
        cases (show os3 = s.os from mv.os)
        show wpAny _ _ _ _ _ _
        refine wpAny_pure ?_
        show wpAny _ _ (ret Value.none) _ _ _
        rw [len] at hc3
        refine wpAny_pure ⟨rfl, g3, t3, c3, rfl, hS3, hc3, fun b o e => ?_⟩
        have b0 : b < s.heap.objs.size := Heap.lt_size e
        have b2 : b ≠ (s.heap.push (bareSet w)).objs.size := by
          rw [Heap.size_push]
          exact Nat.ne_of_lt (Nat.lt_succ_of_lt b0)
        exact mv.heap b o (by simp only [List.mem_cons, List.mem_singleton, List.not_mem_nil, or_false, not_or]; exact ⟨Nat.ne_of_lt b0, b2⟩) (Heap.get?_push_of_some _ (Heap.get?_push_of_some _ e))
    · rcases r2 with e | fl2
      · exact hr2
      cases fl2 with
      | ret v =>
        obtain ⟨rfl, g, t, c, rfl, hS, hc, hk⟩ := hr2
        repeat (any_goals (first | assumption | wp_step))
        exact k _ _ _ hS hc hk
      | _ => exact hr2.elim
  | _ => exact hr.elim
end
section
variable {X : Cx}
theorem cr_setL (hc : X.calm = true) : CallR X (.type "set") (fun vs H Q => ∃ (l : Addr) (ns : List Int), vs = [V.ref l] ∧ SqL X.K H l (ns.map V.int) ∧ ns.length + 1 < scanBound ∧
    ∀ p c, H p = none → c ≤ ns.length → Q (.ref p) (upd H p (SetO X.w p (fun j => decide (j ∈ ns)) c))) := by
  intro pins s σ H xs us Q I r h
  obtain ⟨l, ns, rfl, hl, room, q⟩ := h
  rw [Vals.ref1 r]
  obtain ⟨its, rv, pl, hz⟩ := I.list hl
  refine set_of_list ns (I.ok.hd hc) pl.isList (by simpa using ints_of_vals rv) room fun g t c R hc' k => ?_
  have hn : H s.heap.objs.size = none := I.hok.fresh (Nat.le_refl _)
  exact ⟨.ref _, _, I.laid (a := s.heap.objs.size) (t' := t) k (Nat.le_refl _) (setO_new R), rfl, q _ c hn hc'⟩
end
end Vx
namespace Vx
open PySem PySem.Spec PyProof.Rows L2
/-! ### ascending lists -/
theorem asc_eq : ∀ {l m : List Int}, l.Pairwise (· < ·) → m.Pairwise (· < ·) → (∀ k, k ∈ l ↔ k ∈ m) → l = m
  | [], [], _, _, _ => rfl
  | [], y :: m, _, _, h => absurd ((h y).mpr List.mem_cons_self) (by simp)
  | x :: l, [], _, _, h => absurd ((h x).mp List.mem_cons_self) (by simp)
  | x :: l, y :: m, hl, hm, h => by
    obtain ⟨h1, h2⟩ := List.pairwise_cons.mp hl
    obtain ⟨h3, h4⟩ := List.pairwise_cons.mp hm
    have e : x = y := by
      rcases List.mem_cons.mp ((h x).mp List.mem_cons_self) with e | e
      · exact e
      · rcases List.mem_cons.mp ((h y).mpr List.mem_cons_self) with e2 | e2
        · exact e2.symm
        · have a := h3 _ e
          have b := h1 _ e2
          omega
    subst e
    rw [asc_eq h2 h4 fun k => ?_]
    have q := h k
    constructor
    · intro hk
      rcases List.mem_cons.mp (q.mp (List.mem_cons_of_mem _ hk)) with e | e
      · exact absurd (h1 _ hk) (by omega)
      · exact e
    · intro hk
      rcases List.mem_cons.mp (q.mpr (List.mem_cons_of_mem _ hk)) with e | e
      · exact absurd (h3 _ hk) (by omega)
      · exact e
/-! ### data -/
theorem eqvAll_ints : ∀ (l m : List Int), PyData.eqvAll (l.map PyData.int) (m.map PyData.int) = decide (l = m)
  | [], [] => by simp [PyData.eqvAll]
  | [], y :: m => by simp [PyData.eqvAll]
  | x :: l, [] => by simp [PyData.eqvAll]
  | x :: l, y :: m => by
    show (PyData.eqv (.int x) (.int y) && PyData.eqvAll (l.map PyData.int) (m.map PyData.int)) = _
    rw [eqvAll_ints l m]
    show ((x == y) && decide (l = m)) = _
    by_cases e : x = y <;> by_cases e2 : l = m <;> simp [e, e2]
theorem eqv_tupI (l m : List Int) : PyData.eqv (.tuple (l.map PyData.int)) (.tuple (m.map PyData.int)) = decide (l = m) := eqvAll_ints l m
theorem eqv_lstI (l m : List Int) : PyData.eqv (.list (l.map PyData.int)) (.list (m.map PyData.int)) = decide (l = m) := eqvAll_ints l m
theorem dpAll_ints {K : PySem.W.Frag} {H : Hp} : ∀ l : List Int, DpAll K H (l.map V.int) (l.map PyData.int)
  | [] => .nil
  | x :: l => .cons (.int x) (dpAll_ints l)
theorem dp_tupI {K : PySem.W.Frag} {H : Hp} {a : Addr} {l : List Int} (h : SqT K H a (l.map V.int)) : Dp K H (.ref a) (.tuple (l.map PyData.int)) := .tup h (dpAll_ints l)
theorem dp_lstI {K : PySem.W.Frag} {H : Hp} {a : Addr} {l : List Int} (h : SqL K H a (l.map V.int)) : Dp K H (.ref a) (.list (l.map PyData.int)) := .lst h (dpAll_ints l)
theorem inV_ints (x : Int) : ∀ l : List Int, inV (.int x) (l.map V.int) = decide (x ∈ l)
  | [] => by simp [inV]
  | y :: l => by
    have ih := inV_ints x l
    unfold inV at ih ⊢
    rw [List.map_cons, List.any_cons, ih]
    show ((y == x) || decide (x ∈ l)) = _
    by_cases e : y = x
    · simp [e]
    · have e' : ¬ x = y := fun z => e z.symm
      simp [e, e']
theorem flat_ints (l : List Int) : (l.map V.int).all flatV = true := by
  rw [List.all_map]
  exact List.all_eq_true.mpr fun _ _ => rfl
end Vx
namespace Vx
open PySem PySem.Spec PyProof.Rows L2
theorem canAll_ints : ∀ l : List Int, PyData.canLayAll0 (l.map PyData.int) = true
  | [] => by simp [PyData.canLayAll0]
  | x :: l => by
    rw [List.map_cons]
    simp [PyData.canLayAll0, PyData.canLay0, canAll_ints l]
theorem depAll_ints : ∀ l : List Int, PyData.depthAll (l.map PyData.int) = 0
  | [] => by simp [PyData.depthAll]
  | x :: l => by
    rw [List.map_cons]
    simp [PyData.depthAll, PyData.depth, depAll_ints l]
theorem shaped_tupI (l : List Int) : SeqAt.shaped (.tuple (l.map PyData.int)) = true := by
  unfold SeqAt.shaped
  simp [PyData.canLay0, PyData.depth, canAll_ints, depAll_ints]
theorem shaped_lstI (l : List Int) : SeqAt.shaped (.list (l.map PyData.int)) = true := by
  unfold SeqAt.shaped
  simp [PyData.canLay0, PyData.depth, canAll_ints, depAll_ints]
theorem tyesT {σ : L2.St} {H : Hp} {A B : Hp → Prop} (h : A H) : tYes σ H (fun b H3 => if b = true then A H3 else B H3) := h
theorem item_ints {xs : List Int} {i : Nat} {x : V} (h : (xs.map V.int)[i]? = some x) : ∃ z, x = .int z ∧ xs[i]? = some z ∧ z ∈ xs := by
  rw [List.getElem?_map] at h
  cases e : xs[i]? with
  | none => rw [e] at h; cases h
  | some z =>
    rw [e] at h
    exact ⟨z, (Option.some.inj h).symm, rfl, List.mem_of_getElem? e⟩
theorem at_ints {xs : List Int} {k : Int} (h0 : 0 ≤ k) (h1 : k < (xs.length : Int)) : ∃ z, z ∈ xs ∧ atI (xs.map V.int) k = some (.int z) := by
  have hj : k.toNat < xs.length := by omega
  refine ⟨xs[k.toNat], List.getElem_mem hj, ?_⟩
  refine at_of (j := k.toNat) (by omega) ?_
  rw [List.getElem?_map, List.getElem?_eq_getElem hj]
  rfl
theorem mem_ins {ys : List Int} {j : Nat} {y k : Int} (hy : y ∈ ys) : k ∈ ys.take j ++ [y] ++ ys.drop j ↔ k ∈ ys := by
  have e : k ∈ ys ↔ k ∈ ys.take j ∨ k ∈ ys.drop j := by rw [← List.mem_append, List.take_append_drop]
  rw [List.mem_append, List.mem_append, List.mem_singleton, e]
  constructor
  · rintro ((h | h) | h)
    · exact .inl h
    · subst h
      exact e.mp hy
    · exact .inr h
  · rintro (h | h)
    · exact .inl (.inl h)
    · exact .inr h
theorem madeS {C : Addr} {H : Hp} {x dx : Addr} (nx : H x = none) (nd : H dx = none) : Same H (upd (upd H dx (.own x)) x (.ins C dx [])) := fun b o e => by
  rw [upd_ne (ne_of_none e nx), upd_ne (ne_of_none e nd)]
  exact e
theorem pe_gcx {X : Cx} {x : Str} {pos : Pos} {v : V} (hg : Gl X x) (h : ∃ u, X.mg x = some u ∧ RelV v u) (hd : (x == ("__debug__" : Str)) = false := by decide +kernel) : PE X (.Name x pos) (tC v) := by
  obtain ⟨u, h, r⟩ := h
  exact pe_glob hg h r hd
theorem call_intB {X : Cx} : CallR X (.type "int") (fun xs H Q => ∃ k, xs = [.bl k] ∧ Q (.int (if k = true then 1 else 0)) H) := fun pins s σ H xs us Q I r h => call_int1 pins s σ H xs us Q I r (.inr h)
theorem cut_lo_len (z : Str) {k : Int} (h : 0 ≤ k) : (cutS z none (some k)).length ≤ k.toNat := by
  show (List.toArray _).size ≤ _
  rw [List.size_toArray, List.length_take]
  show min (HT.sIx z.length z.length (some k) - 0) _ ≤ _
  have e : HT.sIx z.length z.length (some k) = min k.toNat z.length := by
    show (if k < 0 then (k + (z.length : Int)).toNat else min k.toNat z.length) = _
    rw [if_neg (by omega)]
  omega
theorem cut_hi_len (z : Str) {k : Int} (h : 0 ≤ k) : (cutS z (some k) none).length ≤ z.length - k.toNat := by
  show (List.toArray _).size ≤ _
  have e : HT.sIx z.length 0 (some k) = min k.toNat z.length := by
    show (if k < 0 then (k + (z.length : Int)).toNat else min k.toNat z.length) = _
    rw [if_neg (by omega)]
  rw [List.size_toArray, List.length_take, List.length_drop, e]
  show min (z.length - min k.toNat z.length) (z.cps.toList.length - min k.toNat z.length) ≤ _
  have : z.cps.toList.length = z.length := Array.length_toList
  omega
end Vx
namespace Vx
open PySem PySem.Spec PyProof.Rows L2
/-! ### pairs and lists of them -/
abbrev Pr := Int × Int
def pr (l : List Int) : Pr := (l.getD 0 0, l.getD 1 0)
def Cells (H : Hp) (l : Addr) (ps : List Pr) : Prop :=
  ∃ ts : List (Addr × Pr), H l = some (.lst (ts.map fun t => V.ref t.1)) ∧ (∀ t ∈ ts, H t.1 = some (.tup [.int t.2.1, .int t.2.2])) ∧ ts.map (·.2) = ps
theorem Cells.up {H H' : Hp} {l : Addr} {ps : List Pr} (e : Same H H') (h : Cells H l ps) : Cells H' l ps := by
  obtain ⟨ts, h1, h2, h3⟩ := h
  exact ⟨ts, e _ _ h1, fun t m => e _ _ (h2 t m), h3⟩
def SetP (P : Program) (w : World) (H : Hp) (a : Addr) (ps : List Pr) : Prop :=
  ∃ L : List (Addr × List Int), H a = some (SetTO P w a L) ∧ (∀ q ∈ L, q.2.length = 2 ∧ H q.1 = some (.tup (q.2.map V.int))) ∧ ∀ x, x ∈ L.map (fun q => pr q.2) ↔ x ∈ ps
abbrev ltP (p q : Pr) : Prop := SrtO.lexB p q = true
theorem pr_inj : ∀ {l m : List Int}, l.length = 2 → m.length = 2 → pr l = pr m → l = m
  | [a, b], [c, d], _, _, h => by
    have h1 : a = c := congrArg Prod.fst h
    have h2 : b = d := congrArg Prod.snd h
    rw [h1, h2]
theorem len2 : ∀ {l : List Int}, l.length = 2 → l = [(pr l).1, (pr l).2]
  | [a, b], _ => rfl
section
variable {P : Program} {w : World} {A : Around} {E : Value → Shared → Prop} {s : Shared}
def adr : Value → Addr
  | .ref a => a
  | _ => 0
/-- the set's members, sorted -/
theorem sorted_pairs {a : Addr} {L : List (Addr × List Int)} {es : Array (Int × Value)} {ep : Nat} {t : SetTable} {Q : Value → Shared → Prop} (R : SetTR P w s.heap a L es ep t) (hh : A.handled = none) (h2 : ∀ q ∈ L, q.2.length = 2)
    (hQ : ∀ s' p (ts : List (Addr × Pr)) (c : Nat), (∀ b o, s.heap.get? b = some o → s'.heap.get? b = some o) → s'.gens = s.gens → s'.os = s.os → s.heap.objs.size ≤ p →
      s'.heap.get? p = some (seqObj "list" (ts.map fun q => Value.ref q.1).toArray c) → (∀ q ∈ ts, ∃ r ∈ L, r.1 = q.1 ∧ pr r.2 = q.2) → (∀ x, x ∈ ts.map (·.2) ↔ x ∈ L.map fun q => pr q.2) → (ts.map (·.2)).Pairwise ltP → ts.length = L.length → Q (.ref p) s') :
    wpAny (model P w) A (call (.builtin "sorted") [.ref a]) Q E s := by
  have few := R.few
  obtain ⟨o, go, xo, dat⟩ := R.ob
  refine Calls.call_function_entry kind_sorted plain_sorted entry_sorted (args_sorted1 _) ?_
  unfold Builtin.«sorted»
  refine wpAny_bind (m := checkCount "sorted" 1 1 _) (wpAny_pure ?_)
  refine wpAny_bind (collect_set (A := A.in1) hh ⟨o, go, xo.1, dat⟩ R.fits (by rw [R.size]; unfold scanBound; omega) R.tab.ris R.led fun s1 vs keep sz gg oo pm => ?_)
  have em : es.toList.map (·.2) = L.map fun q => Value.ref q.1 := by
    rw [R.rows]
    show (L.map fun q => (thash P w q.2, Value.ref q.1)).map (·.2) = _
    rw [List.map_map] <;> rfl
  rw [em] at pm
  have vl : vs.length = L.length := by rw [pm.length_eq, List.length_map]
  have lim : vs.length ≤ sizeLine := by
    rw [sizeLine_eq]
    omega
  refine wpAny_bind (wpAny_newList ?_ lim)
  have gl : (s1.heap.push (seqObj "list" vs.toArray 0)).get? s1.heap.objs.size = some (seqObj "list" vs.toArray 0) := Heap.get?_push_size _ rfl
  generalize hh1 : s1.heap.push (seqObj "list" vs.toArray 0) = h1 at gl
  have keep1 : ∀ b u, s1.heap.get? b = some u → h1.get? b = some u := fun b u e => by
    rw [← hh1]
    exact Heap.get?_push_of_some _ e
  have tin : ∀ q ∈ L, TS.TupInts h1 (.ref q.1) q.2 := fun q m => tupInts_of (P := P) (w := w) (isT_keep (R.tup q m) fun b u e => keep1 b u (keep b u e))
  have mem : ∀ v ∈ vs, ∃ q ∈ L, v = Value.ref q.1 := fun v m => by
    obtain ⟨q, m1, e⟩ := List.mem_map.mp (pm.mem_iff.mp m)
    exact ⟨q, m1, e.symm⟩
  have key : ∀ q ∈ L, pr (TS.intsOf h1 (.ref q.1)) = pr q.2 := fun q m => by rw [(tin q m).ints]
  have isP : ∀ v ∈ vs, Srt.IsPair h1 v (pr (TS.intsOf h1 v)).1 (pr (TS.intsOf h1 v)).2 := fun v m => by
    obtain ⟨q, m1, rfl⟩ := mem v m
    rw [key q m1]
    have i := tin q m1
    have l2 := len2 (h2 q m1)
    rw [l2] at i
    obtain ⟨b, items, eb, ⟨o1, go1, co1, n1, do1⟩, ia⟩ := i
    cases eb
    obtain ⟨xs⟩ := items
    cases ia with
    | cons _ t1 ia =>
      cases ia with
      | cons _ t2 ia =>
        cases ia
        exact ⟨_, o1, t1, t2, n1, rfl, go1, co1, do1⟩
  refine wpAny_bind (wpAny_holding (wpAny_call_entry (s := { s1 with heap := h1 }) slot_list_sort ⟨_, gl, rfl⟩ entry_list_sort (SrtO.list_sort_ord (s := { s1 with heap := h1 }) (SrtO.swo_lex fun v => pr (TS.intsOf h1 v)) gl lim (fun two => SrtO.pairs_sortableO (by omega) isP fun o1 e => ?_) fun out srt stb => ⟨_, rfl, ?_⟩) (args_list_sort _)))
  · have e' : some o1 = some (seqObj "list" vs.toArray 0) := e.symm.trans gl
    cases e'
    intro c
    exact absurd (Value.type.inj c) (by decide)
  · obtain ⟨c, gc⟩ := sortedHeap_at (vs := vs) (out := out.toArray) gl
    have omem : ∀ v ∈ out, ∃ q ∈ L, v = Value.ref q.1 := fun v m => mem v (stb.perm.mem_iff.mp m)
    refine wpAny_pure ⟨_, rfl, hQ _ s1.heap.objs.size (out.map fun v => (adr v, pr (TS.intsOf h1 v))) c (fun b u e => ?_) gg oo sz ?_ ?_ ?_ ?_ ?_⟩
    · have g1 := keep b u e
      have lt1 := Heap.lt_size g1
      show (sortedHeap h1 s1.heap.objs.size vs out.toArray).get? b = some u
      rw [sortedHeap_old (Nat.ne_of_lt lt1) (Heap.lt_size (keep1 b u g1))]
      exact keep1 b u g1
    · have eo : (out.map fun v => (adr v, pr (TS.intsOf h1 v))).map (fun q => Value.ref q.1) = out := by
        rw [List.map_map]
        refine (List.map_congr_left fun v m => ?_).trans (List.map_id _)
        obtain ⟨q, _, rfl⟩ := omem v m
        rfl
      rw [eo]
      exact gc
    · intro q m
      obtain ⟨v, m1, rfl⟩ := List.mem_map.mp m
      obtain ⟨r, mr, rfl⟩ := omem v m1
      exact ⟨r, mr, rfl, (key r mr).symm⟩
    · intro x
      rw [List.map_map]
      constructor
      · intro m
        obtain ⟨v, m1, rfl⟩ := List.mem_map.mp m
        obtain ⟨r, mr, rfl⟩ := omem v m1
        exact List.mem_map.mpr ⟨r, mr, (key r mr).symm⟩
      · intro m
        obtain ⟨r, mr, rfl⟩ := List.mem_map.mp m
        exact List.mem_map.mpr ⟨.ref r.1, stb.perm.mem_iff.mpr (pm.mem_iff.mpr (List.mem_map.mpr ⟨r, mr, rfl⟩)), key r mr⟩
    · rw [List.map_map]
      have nd : ((L.map fun q => Value.ref q.1).map fun v => pr (TS.intsOf h1 v)).Nodup := by
        rw [List.map_map]
        refine List.pairwise_map.mpr ((List.pairwise_map.mp R.nd).imp_of_mem fun {q r} mq mr ne e => ne ?_)
        refine pr_inj (h2 q mq) (h2 r mr) ?_
        rw [← key q mq, ← key r mr]
        exact e
      have nd2 : (out.map fun v => pr (TS.intsOf h1 v)).Nodup := ((stb.perm.trans pm).map _).nodup_iff.mpr nd
      refine List.pairwise_map.mpr ((srt.and (List.pairwise_map.mp nd2)).imp fun {u v} h => ?_)
      have a1 := SrtO.lexB_no.mp h.1
      refine SrtO.lexB_iff.mpr ?_
      have a2 : ¬ ((pr (TS.intsOf h1 u)).1 = (pr (TS.intsOf h1 v)).1 ∧ (pr (TS.intsOf h1 u)).2 = (pr (TS.intsOf h1 v)).2) := fun e => h.2 (Prod.ext e.1 e.2)
      show (pr (TS.intsOf h1 u)).1 < (pr (TS.intsOf h1 v)).1 ∨ (pr (TS.intsOf h1 u)).1 = (pr (TS.intsOf h1 v)).1 ∧ (pr (TS.intsOf h1 u)).2 < (pr (TS.intsOf h1 v)).2
      omega
    · rw [List.length_map, stb.perm.length_eq, vl]
end
section
variable {X : Cx}
theorem cr_setP (hc : X.calm = true) (hu : X.A.units + 64 < cLine) : CallR X (.type "set") (fun xs H Q => ∃ l ps, xs = [V.ref l] ∧ Cells H l ps ∧ ps.length < 64 ∧
    ∀ a H', Same H H' → H a = none → SetP X.prog X.w H' a ps → Q (.ref a) H') := by
  intro pins s σ H xs us Q I r h
  obtain ⟨l, ps, rfl, ⟨ts, hl, ht, rfl⟩, few, q⟩ := h
  rw [List.length_map] at few
  refine cr_setOfT hc hu pins s σ H [V.ref l] us Q I r ⟨l, ts.map fun t => (t.1, [t.2.1, t.2.2]), rfl, ?_, ?_, by rw [List.length_map]; exact few, fun a L n sub all => ?_⟩
  · rw [List.map_map]
    exact lst_of hl
  · intro p m
    obtain ⟨t, m1, rfl⟩ := List.mem_map.mp m
    exact tup_of (ht t m1)
  · refine q a _ (newS n) n ⟨L, upd_same, fun p m => ?_, fun x => ⟨fun m => ?_, fun m => ?_⟩⟩
    · obtain ⟨t, m1, rfl⟩ := List.mem_map.mp (sub p m)
      exact ⟨rfl, newS n _ _ (ht t m1)⟩
    · obtain ⟨p, m1, rfl⟩ := List.mem_map.mp m
      obtain ⟨t, m2, rfl⟩ := List.mem_map.mp (sub p m1)
      exact List.mem_map.mpr ⟨t, m2, rfl⟩
    · obtain ⟨t, m1, rfl⟩ := List.mem_map.mp m
      obtain ⟨p, m2, e⟩ := List.mem_map.mp (all _ (List.mem_map.mpr ⟨t, m1, rfl⟩))
      refine List.mem_map.mpr ⟨p, m2, ?_⟩
      rw [e]
      rfl
theorem cr_sortedP (hc : X.calm = true) : CallR X (.builtin "sorted") (fun xs H Q => ∃ a ps, xs = [V.ref a] ∧ SetP X.prog X.w H a ps ∧
    ∀ p H' qs, Same H H' → H p = none → Cells H' p qs → qs.Pairwise ltP → (∀ x, x ∈ qs ↔ x ∈ ps) → qs.length < 64 → Q (.ref p) H') := by
  intro pins s σ H vs us Q I r h
  obtain ⟨a, ps, rfl, ⟨L, ha, hL, mem⟩, q⟩ := h
  have R0 : SetT0 X.prog X.w s.heap a L := (I.hok a _ ha).1
  obtain ⟨es, ep, t, R⟩ := R0.full fun p hp => I.isT (tup_of (hL p hp).2)
  rw [Vals.ref1 r]
  refine sorted_pairs R (I.ok.hd hc) (fun q m => (hL q m).1) fun s' p ts c k g o hp hg own all pw le => ?_
  have few := R.few
  have lim : (ts.map fun q => V.ref q.1).length ≤ sizeLine := by
    rw [List.length_map, sizeLine_eq]
    omega
  have n : H p = none := I.hok.fresh hp
  have vals : ∀ ts : List (Addr × Pr), Vals (ts.map fun q => V.ref q.1) (ts.map fun q => Value.ref q.1) := fun ts => by
    induction ts with
    | nil => exact .nil
    | cons t ts ih => exact .cons rfl ih
  have J : Inv X pins σ (upd H p (.lst (ts.map fun q => V.ref q.1))) { s with heap := s'.heap, gens := s'.gens, drawn := s'.drawn, toks := s'.toks } :=
    I.call (ch := []) (Un.laid k hp n) (I.hok.laid k hp ⟨lim, _, c, vals ts, hg⟩) (by rw [g]; exact I.bare) (fun _ z => nomatch z)
  have e : s' = { s with heap := s'.heap, gens := s'.gens, drawn := s'.drawn, toks := s'.toks } := by
    obtain ⟨_, _, _, _, _⟩ := s'
    obtain ⟨_, _, _, _, _⟩ := s
    cases o
    rfl
  rw [e]
  have sm : Same H (upd H p (.lst (ts.map fun q => V.ref q.1))) := newS n
  refine ⟨.ref p, _, J, rfl, q p _ (ts.map (·.2)) sm n ⟨ts, upd_same, fun t m => ?_, rfl⟩ pw (fun x => (all x).trans (mem x)) (by rw [List.length_map, le]; exact few)⟩
  obtain ⟨r, mr, e1, e2⟩ := own t m
  have z := sm _ _ (hL r mr).2
  rw [len2 (hL r mr).1, e1, e2] at z
  exact z
end
section
variable {X : Cx}
theorem pg_tupK {K : PySem.W.Frag} {es : List Expr} {k : Nat} {t : TGs} {n : Nat} {pos : Pos} (hK : X.K = K) (hc : X.calm = true) (h : PGs X es t)
    (hn : (assignEach es X.env).length = n := by rfl) (hst : (assignEach es X.env).findIdx? (·.1) = none := by rfl) : PG X (.Tuple es k pos) (gTup K n t) := by
  subst hK
  exact pg_tup hc h hn hst
theorem ix_tupK {K : PySem.W.Frag} (hK : X.K = K) : IxR X (rIxT K) := by
  subst hK
  exact ix_tup
end
/-! ### comprehensions over such a list -/
theorem item_cells {H : Hp} {ts : List (Addr × Pr)} {ps : List Pr} {i : Nat} {x : V} (h : (ts.map fun t => V.ref t.1)[i]? = some x) (e : ts.map (·.2) = ps) :
    ∃ t ∈ ts, x = .ref t.1 ∧ ps[i]? = some t.2 := by
  rw [List.getElem?_map] at h
  cases q : ts[i]? with
  | none => rw [q] at h; cases h
  | some t =>
    rw [q] at h
    refine ⟨t, List.mem_of_getElem? q, (Option.some.inj h).symm, ?_⟩
    rw [← e, List.getElem?_map, q]
    rfl
theorem lc_cells {K : PySem.W.Frag} {l : Addr} {ps : List Pr} {g : TG} {tt : TT} {te : TE} {vs : List Nat} {σ : L2.St} {H1 : Hp} {D : Addr} {Qd : Hp → Prop} (f : Pr → Pr) (hC : Cells H1 l ps) (nD : H1 D = none) (few : ps.length < sizeLine)
    (hs : ∀ (t : Addr) (x : Pr) (H' : Hp) (Po : V → Hp → Prop) (Pn : Hp → Prop), Same H1 H' → H' t = some (.tup [.int x.1, .int x.2]) → (∀ t2, H' t2 = none → Po (.ref t2) (upd H' t2 (.tup [.int (f x).1, .int (f x).2]))) →
      g (.ref t) (wipe σ vs) H' fun σ2 H2 => wipe σ2 vs = wipe σ vs ∧ tt σ2 H2 fun b H3 => if b = true then te σ2 H3 Po else Pn H3)
    (hd : ∀ H', Same H1 H' → Cells H' D (ps.map f) → Qd H') :
    ∃ W : Nat → Nat → Hp → Prop, (∃ m, W 0 m (upd H1 D (.lst []))) ∧ ∀ i m H, W i m H →
      ((Itl K l).stop i H ∧ Qd H) ∨ ((Itl K l).go i H ∧ ∃ Nx : Hp → Prop, (∀ H', Nx H' → ∃ m', m' < m ∧ W (i + 1) m' H') ∧ ∀ x H', (Itl K l).yld i H x H' → g x (wipe σ vs) H' fun σ2 H2 => wipe σ2 vs = wipe σ vs ∧ tt σ2 H2 fun b H3 =>
        if b = true then te σ2 H3 fun y H4 => ∃ acc, H4 D = some (.lst acc) ∧ acc.length < sizeLine ∧ Nx (upd H4 D (.lst (acc ++ [y]))) else Nx H3) := by
  obtain ⟨ts, hl, ht, rfl⟩ := hC
  rw [List.length_map] at few
  refine lc_list (K := K) (a := l) (xs := ts.map fun t => V.ref t.1) (fun i H' => Same H1 H' ∧ ∃ us : List (Addr × Pr), H' D = some (.lst (us.map fun t => V.ref t.1)) ∧ (∀ t ∈ us, H' t.1 = some (.tup [.int t.2.1, .int t.2.2])) ∧ us.map (·.2) = ((ts.map (·.2)).take i).map f)
    ⟨newS nD, [], upd_same, fun _ m => (by cases m), rfl⟩ (fun i H' _ p => lst_of (p.1 _ _ hl)) ?_ ?_
  · rintro i x H' hi ⟨sm, us, h1, h2, h3⟩
    obtain ⟨t, mt, rfl, hp⟩ := item_cells (H := H') hi rfl
    have ul : us.length = i := by
      have z := congrArg List.length h3
      rw [List.length_map, List.length_map, List.length_take, List.length_map] at z
      have := (List.getElem?_eq_some_iff.mp hi).1
      rw [List.length_map] at this
      omega
    refine hs t.1 t.2 H' _ _ sm (sm _ _ (ht t mt)) fun t2 n2 => ⟨us.map fun t => V.ref t.1, ?_, ?_, ?_, us ++ [(t2, f t.2)], ?_, ?_, ?_⟩
    · exact newS n2 _ _ h1
    · rw [List.length_map, ul]
      have := (List.getElem?_eq_some_iff.mp hi).1
      rw [List.length_map] at this
      omega
    · exact mutS (sm.trans (newS n2)) nD
    · rw [upd_same, List.map_append]
      rfl
    · have nD2 : t2 ≠ D := fun e => by
        rw [e, h1] at n2
        cases n2
      intro u m
      rcases List.mem_append.mp m with m | m
      · have z := h2 u m
        rw [upd_ne (fun e => ?_)]
        · exact newS n2 _ _ z
        · rw [e, h1] at z
          cases z
      · rw [List.mem_singleton.mp m, upd_ne nD2, upd_same]
    · rw [List.map_append, h3, take_next hp, List.map_append]
      rfl
  · rintro H' ⟨sm, us, h1, h2, h3⟩
    refine hd H' sm ⟨us, h1, h2, ?_⟩
    rw [h3, List.length_map, List.take_of_length_le (by rw [List.length_map]; exact Nat.le_refl _)]
theorem lc_nums {K : PySem.W.Frag} {l : Addr} {ps : List Pr} {g : TG} {tt : TT} {te : TE} {vs : List Nat} {σ : L2.St} {H1 : Hp} {D : Addr} {Qd : Hp → Prop} (f : Pr → Int) (hC : Cells H1 l ps) (nD : H1 D = none) (few : ps.length < sizeLine)
    (hs : ∀ (t : Addr) (x : Pr) (H' : Hp) (Po : V → Hp → Prop) (Pn : Hp → Prop), Same H1 H' → H' t = some (.tup [.int x.1, .int x.2]) → Po (.int (f x)) H' →
      g (.ref t) (wipe σ vs) H' fun σ2 H2 => wipe σ2 vs = wipe σ vs ∧ tt σ2 H2 fun b H3 => if b = true then te σ2 H3 Po else Pn H3)
    (hd : ∀ H', Same H1 H' → H' D = some (.lst ((ps.map f).map V.int)) → Qd H') :
    ∃ W : Nat → Nat → Hp → Prop, (∃ m, W 0 m (upd H1 D (.lst []))) ∧ ∀ i m H, W i m H →
      ((Itl K l).stop i H ∧ Qd H) ∨ ((Itl K l).go i H ∧ ∃ Nx : Hp → Prop, (∀ H', Nx H' → ∃ m', m' < m ∧ W (i + 1) m' H') ∧ ∀ x H', (Itl K l).yld i H x H' → g x (wipe σ vs) H' fun σ2 H2 => wipe σ2 vs = wipe σ vs ∧ tt σ2 H2 fun b H3 =>
        if b = true then te σ2 H3 fun y H4 => ∃ acc, H4 D = some (.lst acc) ∧ acc.length < sizeLine ∧ Nx (upd H4 D (.lst (acc ++ [y]))) else Nx H3) := by
  obtain ⟨ts, hl, ht, rfl⟩ := hC
  rw [List.length_map] at few
  refine lc_list (K := K) (a := l) (xs := ts.map fun t => V.ref t.1) (fun i H' => Same H1 H' ∧ H' D = some (.lst ((((ts.map (·.2)).take i).map f).map V.int)))
    ⟨newS nD, upd_same⟩ (fun i H' _ p => lst_of (p.1 _ _ hl)) ?_ ?_
  · rintro i x H' hi ⟨sm, h1⟩
    obtain ⟨t, mt, rfl, hp⟩ := item_cells (H := H') hi rfl
    refine hs t.1 t.2 H' _ _ sm (sm _ _ (ht t mt)) ⟨_, h1, ?_, mutS sm nD, ?_⟩
    · rw [List.length_map, List.length_map, List.length_take, List.length_map]
      omega
    · rw [upd_same, take_next hp, List.map_append, List.map_append]
      rfl
  · rintro H' ⟨sm, h1⟩
    rw [List.length_map, List.take_of_length_le (by rw [List.length_map]; exact Nat.le_refl _)] at h1
    exact hd H' sm h1
/-! ### one such list -/
def CanP (ps qs : List Pr) : Prop := qs.Pairwise ltP ∧ ∀ x, x ∈ qs ↔ x ∈ ps
theorem ltP_iff {p q : Pr} : ltP p q ↔ p.1 < q.1 ∨ (p.1 = q.1 ∧ p.2 < q.2) := SrtO.lexB_iff
theorem ascP_eq : ∀ {l m : List Pr}, l.Pairwise ltP → m.Pairwise ltP → (∀ k, k ∈ l ↔ k ∈ m) → l = m
  | [], [], _, _, _ => rfl
  | [], y :: m, _, _, h => absurd ((h y).mpr List.mem_cons_self) (by simp)
  | x :: l, [], _, _, h => absurd ((h x).mp List.mem_cons_self) (by simp)
  | x :: l, y :: m, hl, hm, h => by
    obtain ⟨h1, h2⟩ := List.pairwise_cons.mp hl
    obtain ⟨h3, h4⟩ := List.pairwise_cons.mp hm
    have irr : ∀ a b : Pr, ltP a b → ltP b a → False := fun a b p q => by
      have p := ltP_iff.mp p
      have q := ltP_iff.mp q
      omega
    have e : x = y := by
      rcases List.mem_cons.mp ((h x).mp List.mem_cons_self) with e | e
      · exact e
      · rcases List.mem_cons.mp ((h y).mpr List.mem_cons_self) with e2 | e2
        · exact e2.symm
        · exact (irr _ _ (h3 _ e) (h1 _ e2)).elim
    subst e
    rw [ascP_eq h2 h4 fun k => ?_]
    have q := h k
    constructor
    · intro hk
      rcases List.mem_cons.mp (q.mp (List.mem_cons_of_mem _ hk)) with e | e
      · have z := h1 _ hk
        rw [e] at z
        exact (irr _ _ z z).elim
      · exact e
    · intro hk
      rcases List.mem_cons.mp (q.mpr (List.mem_cons_of_mem _ hk)) with e | e
      · have z := h3 _ hk
        rw [e] at z
        exact (irr _ _ z z).elim
      · exact e
theorem canP_eq {ps qs m : List Pr} (h : CanP ps qs) (h2 : m.Pairwise ltP) (h3 : ∀ k, k ∈ ps ↔ k ∈ m) : qs = m := ascP_eq h.1 h2 fun k => (h.2 k).trans (h3 k)
/-! ### as data -/
def pd (p : Pr) : PyData := .tuple [.int p.1, .int p.2]
theorem eqv_pd (p q : Pr) : PyData.eqv (pd p) (pd q) = decide (p = q) := by
  show ((p.1 == q.1) && ((p.2 == q.2) && true)) = _
  obtain ⟨a, b⟩ := p
  obtain ⟨c, d⟩ := q
  by_cases e1 : a = c <;> by_cases e2 : b = d <;> simp [e1, e2]
theorem eqvAll_pd : ∀ (l m : List Pr), PyData.eqvAll (l.map pd) (m.map pd) = decide (l = m)
  | [], [] => by simp [PyData.eqvAll]
  | [], y :: m => by simp [PyData.eqvAll]
  | x :: l, [] => by simp [PyData.eqvAll]
  | x :: l, y :: m => by
    show (PyData.eqv (pd x) (pd y) && PyData.eqvAll (l.map pd) (m.map pd)) = _
    rw [eqvAll_pd l m, eqv_pd]
    by_cases e : x = y <;> by_cases e2 : l = m <;> simp [e, e2]
theorem eqv_cells (l m : List Pr) : PyData.eqv (.list (l.map pd)) (.list (m.map pd)) = decide (l = m) := eqvAll_pd l m
theorem canAll_pd : ∀ l : List Pr, PyData.canLayAll0 (l.map pd) = true
  | [] => by simp [PyData.canLayAll0]
  | x :: l => by
    rw [List.map_cons]
    simp [PyData.canLayAll0, PyData.canLay0, pd, canAll_pd l]
theorem depAll_pd : ∀ l : List Pr, PyData.depthAll (l.map pd) ≤ 1
  | [] => by simp [PyData.depthAll]
  | x :: l => by
    rw [List.map_cons]
    have := depAll_pd l
    simp only [PyData.depthAll, PyData.depth, pd]
    omega
theorem shaped_cells (l : List Pr) : SeqAt.shaped (.list (l.map pd)) = true := by
  unfold SeqAt.shaped
  have := depAll_pd l
  simp only [PyData.canLay0, PyData.depth, canAll_pd]
  simp
  omega
theorem dp_cells {K : PySem.W.Frag} {H : Hp} {a : Addr} {ps : List Pr} (h : Cells H a ps) : Dp K H (.ref a) (.list (ps.map pd)) := by
  obtain ⟨ts, hl, ht, rfl⟩ := h
  refine .lst (lst_of hl) ?_
  have go : ∀ us : List (Addr × Pr), (∀ t ∈ us, H t.1 = some (.tup [.int t.2.1, .int t.2.2])) → DpAll K H (us.map fun t => V.ref t.1) ((us.map (·.2)).map pd) := fun us => by
    induction us with
    | nil => exact fun _ => .nil
    | cons t us ih => exact fun h => .cons (.tup (tup_of (h t List.mem_cons_self)) (.cons (.int _) (.cons (.int _) .nil))) (ih fun u m => h u (List.mem_cons_of_mem _ m))
  exact go ts ht
/-! ### sorted, of such a list -/
def kH (H : Hp) : V → Pr
  | .ref a => match H a with
    | some (.tup [.int x, .int y]) => (x, y)
    | _ => (0, 0)
  | _ => (0, 0)
def adV : V → Addr
  | .ref a => a
  | _ => 0
theorem kH_at {H : Hp} {a : Addr} {x : Pr} (h : H a = some (.tup [.int x.1, .int x.2])) : kH H (.ref a) = x := by
  show (match H a with
    | some (.tup [.int x, .int y]) => (x, y)
    | _ => (0, 0)) = x
  rw [h]
theorem ltP_irr {a b : Pr} (p : ltP a b) (q : ltP b a) : False := by
  have p := ltP_iff.mp p
  have q := ltP_iff.mp q
  omega
theorem nodup_lt {l : List Pr} (h : l.Pairwise ltP) : l.Nodup := h.imp fun {a b} q e => by
  subst e
  exact ltP_irr q q
theorem cr_sortedC {X : Cx} : CallR X (.builtin "sorted") (fun xs H Q => ∃ l ps, xs = [V.ref l] ∧ Cells H l ps ∧ ps.Nodup ∧
    ∀ p H' qs, Same H H' → H p = none → Cells H' p qs → CanP ps qs → qs.length = ps.length → Q (.ref p) H') := by
  intro pins s σ H xs us Q I r h
  obtain ⟨l, ps, rfl, ⟨ts, hl, ht, rfl⟩, nd, q⟩ := h
  refine cr_sortedPO pins s σ H [V.ref l] us Q I r ⟨l, ts.map fun t => V.ref t.1, kH H, rfl, lst_of hl, fun x m => ?_, fun ys p srt stb n => ?_⟩
  · obtain ⟨t, m1, rfl⟩ := List.mem_map.mp m
    have g := ht t m1
    refine ⟨t.1, rfl, ?_⟩
    rw [kH_at g]
    exact g
  · have own : ∀ y ∈ ys, ∃ t ∈ ts, y = V.ref t.1 := fun y m => by
      obtain ⟨t, m1, e⟩ := List.mem_map.mp (stb.perm.mem_iff.mp m)
      exact ⟨t, m1, e.symm⟩
    have key : ∀ t ∈ ts, kH H (.ref t.1) = t.2 := fun t m => kH_at (ht t m)
    have pm : (ys.map (kH H)).Perm (ts.map (·.2)) := by
      have z := stb.perm.map (kH H)
      rw [List.map_map] at z
      rw [show ts.map (·.2) = ts.map (kH H ∘ fun t => V.ref t.1) from List.map_congr_left fun t m => (key t m).symm]
      exact z
    have sm : Same H (upd H p (.lst ys)) := newS n
    have eo : (ys.map fun v => (adV v, kH H v)).map (fun t => V.ref t.1) = ys := by
      rw [List.map_map]
      refine (List.map_congr_left fun v m => ?_).trans (List.map_id _)
      obtain ⟨t, _, rfl⟩ := own v m
      rfl
    refine q p _ (ys.map (kH H)) sm n ⟨ys.map fun v => (adV v, kH H v), ?_, fun u m => ?_, ?_⟩ ⟨?_, fun x => pm.mem_iff⟩ pm.length_eq
    · rw [eo, upd_same]
    · obtain ⟨v, m1, rfl⟩ := List.mem_map.mp m
      obtain ⟨t, m2, rfl⟩ := own v m1
      refine sm _ _ ?_
      show H t.1 = _
      rw [key t m2]
      exact ht t m2
    · rw [List.map_map]
      rfl
    · have nd2 : (ys.map (kH H)).Nodup := pm.nodup_iff.mpr nd
      refine List.pairwise_map.mpr ((srt.and (List.pairwise_map.mp nd2)).imp fun {u v} h => ?_)
      have a1 := SrtO.lexB_no.mp h.1
      have a2 : ¬ ((kH H u).1 = (kH H v).1 ∧ (kH H u).2 = (kH H v).2) := fun e => h.2 (Prod.ext e.1 e.2)
      refine ltP_iff.mpr ?_
      omega
/-! ### dicts whose keys are such pairs -/
def keyP (x : Pr) : List L2.Key := [Sum.inl x.1, Sum.inl x.2]
theorem keyP_inj {x y : Pr} (h : keyP x = keyP y) : x = y := by
  injection h with h1 h2
  injection h2 with h2 _
  exact Prod.ext (Sum.inl.inj h1) (Sum.inl.inj h2)
def KeysP (kvs : List (List L2.Key × V)) (ps : List Pr) : Prop := kvs.map (·.1) = ps.map keyP ∧ ps.Nodup
theorem KeysP.put {kvs : List (List L2.Key × V)} {ps : List Pr} (h : KeysP kvs ps) (x : Pr) (v : V) :
    ∃ qs, KeysP (putK kvs (keyP x) v) qs ∧ qs.length ≤ ps.length + 1 ∧ ∀ y, y ∈ qs ↔ y ∈ ps ∨ y = x := by
  have mem : (kvs.any fun kv => decide (kv.1 = keyP x)) = true ↔ x ∈ ps := by
    rw [List.any_eq_true]
    constructor
    · rintro ⟨kv, m, e⟩
      have m2 : kv.1 ∈ ps.map keyP := by
        rw [← h.1]
        exact List.mem_map.mpr ⟨kv, m, rfl⟩
      obtain ⟨y, my, ey⟩ := List.mem_map.mp m2
      rw [← keyP_inj (ey.trans (of_decide_eq_true e))]
      exact my
    · intro m
      have m2 : keyP x ∈ kvs.map (·.1) := by
        rw [h.1]
        exact List.mem_map.mpr ⟨x, m, rfl⟩
      obtain ⟨kv, mk, e⟩ := List.mem_map.mp m2
      exact ⟨kv, mk, decide_eq_true e⟩
  by_cases c : x ∈ ps
  · refine ⟨ps, ⟨?_, h.2⟩, by omega, fun y => ⟨.inl, fun z => z.elim id fun e => e ▸ c⟩⟩
    unfold putK
    rw [if_pos (mem.mpr c), List.map_map, ← h.1]
    refine List.map_congr_left fun kv _ => ?_
    show (if kv.1 = keyP x then (kv.1, v) else kv).1 = kv.1
    by_cases e : kv.1 = keyP x
    · rw [if_pos e]
    · rw [if_neg e]
  · refine ⟨ps ++ [x], ⟨?_, ?_⟩, by rw [List.length_append]; exact Nat.le_refl _, fun y => by rw [List.mem_append, List.mem_singleton]⟩
    · unfold putK
      rw [if_neg (fun z => c (mem.mp z)), List.map_append, List.map_append, h.1]
      rfl
    · refine List.pairwise_append.mpr ⟨h.2, List.pairwise_cons.mpr ⟨fun _ m => (by cases m), List.Pairwise.nil⟩, fun a ma b mb e => ?_⟩
      rw [List.mem_singleton.mp mb] at e
      exact c (e ▸ ma)
theorem KeysP.len {kvs : List (List L2.Key × V)} {ps : List Pr} (h : KeysP kvs ps) : kvs.length = ps.length := by
  have z := congrArg List.length h.1
  rw [List.length_map, List.length_map] at z
  exact z
theorem KeysP.at {kvs : List (List L2.Key × V)} {ps : List Pr} (h : KeysP kvs ps) {i : Nat} {k : List L2.Key} {v : V} (e : kvs[i]? = some (k, v)) : ∃ x, ps[i]? = some x ∧ k.map kV = [.int x.1, .int x.2] := by
  have z := congrArg (fun l => l[i]?) h.1
  simp only [List.getElem?_map] at z
  rw [e] at z
  cases q : ps[i]? with
  | none => rw [q] at z; cases z
  | some x =>
    rw [q] at z
    refine ⟨x, rfl, ?_⟩
    have : k = keyP x := Option.some.inj z
    rw [this]
    rfl
/-- the keys of such a dict, listed -/
theorem lc_keysP {d : Addr} {od : Obj} {kvs : List (List L2.Key × V)} {ps : List Pr} {vs : List Nat} {σ : L2.St} {H1 : Hp} {D : Addr} {Qd : Hp → Prop} {g : TG} {tt : TT} {te : TE} (hK : KeysP kvs ps) (hD : H1 d = some (.frz od (.dT kvs))) (nD : H1 D = none) (few : ps.length < sizeLine)
    (hs : ∀ (t : Addr) (x : Pr) (H' : Hp) (Po : V → Hp → Prop) (Pn : Hp → Prop), H' t = some (.tup [.int x.1, .int x.2]) → Po (.ref t) H' →
      g (.ref t) (wipe σ vs) H' fun σ2 H2 => wipe σ2 vs = wipe σ vs ∧ tt σ2 H2 fun b H3 => if b = true then te σ2 H3 Po else Pn H3)
    (hd : ∀ H', Same H1 H' → Cells H' D ps → Qd H') :
    ∃ W : Nat → Nat → Hp → Prop, (∃ m, W 0 m (upd H1 D (.lst []))) ∧ ∀ i m H, W i m H →
      ((Itkt d od kvs).stop i H ∧ Qd H) ∨ ((Itkt d od kvs).go i H ∧ ∃ Nx : Hp → Prop, (∀ H', Nx H' → ∃ m', m' < m ∧ W (i + 1) m' H') ∧ ∀ x H', (Itkt d od kvs).yld i H x H' → g x (wipe σ vs) H' fun σ2 H2 => wipe σ2 vs = wipe σ vs ∧ tt σ2 H2 fun b H3 =>
        if b = true then te σ2 H3 fun y H4 => ∃ acc, H4 D = some (.lst acc) ∧ acc.length < sizeLine ∧ Nx (upd H4 D (.lst (acc ++ [y]))) else Nx H3) := by
  have len := hK.len
  refine lc_it walk_keysT (fun i H' => Same H1 H' ∧ ∃ us : List (Addr × Pr), H' D = some (.lst (us.map fun t => V.ref t.1)) ∧ (∀ t ∈ us, H' t.1 = some (.tup [.int t.2.1, .int t.2.2])) ∧ us.map (·.2) = ps.take i)
    ⟨newS nD, [], upd_same, fun _ m => (by cases m), rfl⟩ (fun i H' _ p => p.1 _ _ hD) ?_ ?_
  · rintro i x H' H2 hi ⟨sm, us, h1, h2, h3⟩ ⟨rfl, k, v, q, e, rfl, hq⟩
    obtain ⟨y, hy, ek⟩ := hK.at e
    rw [ek] at hq
    have ul : us.length = i := by
      have z := congrArg List.length h3
      rw [List.length_map, List.length_take] at z
      omega
    refine hs q y _ _ _ hq ⟨_, h1, ?_, mutS sm nD, us ++ [(q, y)], ?_, ?_, ?_⟩
    · rw [List.length_map]
      omega
    · rw [upd_same, List.map_append]
      rfl
    · intro u m
      have off : ∀ z : Addr × Pr, H2 z.1 = some (.tup [.int z.2.1, .int z.2.2]) → upd H2 D (.lst ((us.map fun t => V.ref t.1) ++ [V.ref q])) z.1 = some (.tup [.int z.2.1, .int z.2.2]) := fun z g => by
        rw [upd_ne (fun e => ?_)]
        · exact g
        · rw [e, h1] at g
          cases g
      rcases List.mem_append.mp m with m | m
      · exact off u (h2 u m)
      · rw [List.mem_singleton.mp m]
        exact off (q, y) hq
    · rw [List.map_append, h3, take_next hy]
      rfl
  · rintro H' ⟨sm, us, h1, h2, h3⟩
    refine hd H' sm ⟨us, h1, h2, ?_⟩
    rw [h3, List.take_of_length_le (by omega)]
/-- such a list outlives a change of an object that is no tuple and not the list -/
theorem Cells.mut {H : Hp} {l d : Addr} {ps : List Pr} {o : HO} (h : Cells H l ps) (ne : l ≠ d) (nt : ∀ xs, H d ≠ some (.tup xs)) : Cells (upd H d o) l ps := by
  obtain ⟨ts, h1, h2, h3⟩ := h
  refine ⟨ts, by rw [upd_ne ne]; exact h1, fun t m => ?_, h3⟩
  rw [upd_ne (fun e => nt _ (e ▸ h2 t m))]
  exact h2 t m
theorem cells_mk {H : Hp} {l : Addr} (us : List (Addr × Pr)) (h : H l = some (.lst (us.map fun t => V.ref t.1))) (ht : ∀ u ∈ us, H u.1 = some (.tup [.int u.2.1, .int u.2.2])) : Cells H l (us.map (·.2)) := ⟨us, h, ht, rfl⟩
def cutT {α : Type} (ts : List α) (lo hi : Option Int) : List α := (ts.drop (HT.sIx ts.length 0 lo)).take (HT.sIx ts.length ts.length hi - HT.sIx ts.length 0 lo)
theorem cutV_map {α : Type} (f : α → V) (ts : List α) (lo hi : Option Int) : cutV (ts.map f) lo hi = (cutT ts lo hi).map f := by
  unfold cutV cutT
  rw [List.length_map, List.map_take, List.map_drop]
theorem cutT_mem {α : Type} {ts : List α} {lo hi : Option Int} {x : α} (h : x ∈ cutT ts lo hi) : x ∈ ts := List.mem_of_mem_drop (List.mem_of_mem_take h)
theorem cutT_len {α : Type} (ts : List α) (lo hi : Option Int) : (cutT ts lo hi).length ≤ ts.length := by
  unfold cutT
  rw [List.length_take, List.length_drop]
  omega
theorem eq_cells {l m : List Pr} (h : l = m) : V.bl (PyData.eqv (.list (l.map pd)) (.list (m.map pd))) = V.bl true := by
  rw [eqv_cells, decide_eq_true h]
theorem ne_cells {l m : List Pr} (h : l = m) : V.bl (!PyData.eqv (.list (l.map pd)) (.list (m.map pd))) = V.bl false := by
  rw [eqv_cells, decide_eq_true h] <;> rfl
theorem pw_map {f : Pr → Pr} (hf : ∀ x y, ltP x y → ltP (f x) (f y)) {l : List Pr} (h : l.Pairwise ltP) : (l.map f).Pairwise ltP := List.pairwise_map.mpr (h.imp fun {x y} q => hf x y q)
theorem nodup_map {f : Pr → Pr} (hf : ∀ x y, f x = f y → x = y) {l : List Pr} (h : l.Nodup) : (l.map f).Nodup := List.pairwise_map.mpr (h.imp fun {x y} q e => q (hf x y e))
theorem mem_map2 {f : Pr → Pr} {l m : List Pr} (h : ∀ x, x ∈ l ↔ x ∈ m) (k : Pr) : k ∈ l.map f ↔ k ∈ m.map f := by
  rw [List.mem_map, List.mem_map]
  exact ⟨fun ⟨x, m1, e⟩ => ⟨x, (h x).mp m1, e⟩, fun ⟨x, m1, e⟩ => ⟨x, (h x).mpr m1, e⟩⟩
theorem wipe2 (σ : L2.St) (i j : Nat) (a b : Option V) : wipe (((wipe σ [i, j]).set i a).set j b) [i, j] = wipe σ [i, j] := by
  refine List.ext_getElem? fun k => ?_
  show ((((((σ.set j none).set i none).set i a).set j b).set j none).set i none)[k]? = ((σ.set j none).set i none)[k]?
  simp only [List.getElem?_set, List.length_set]
  by_cases e1 : i = k <;> by_cases e2 : j = k <;> by_cases e3 : k < σ.length <;> simp [e1, e2, e3]
end Vx
namespace Vx
open PySem PySem.Spec PyProof.Rows L2
section
variable {X : Cx}
/-- xs[j], read for xs[j] op= v -/
theorem pget_list : PGet X (fun o i H Q => ∃ p xs j v, o = .ref p ∧ i = .int ((j : Nat) : Int) ∧ SqL X.K H p xs ∧ xs[j]? = some v ∧ Q v H) := by
  intro pins s σ H o i ov iv Q I ro ri h
  obtain ⟨p, xs, j, v, rfl, rfl, hs, hv, q⟩ := h
  cases ro
  obtain ⟨t, rfl⟩ := ri
  obtain ⟨its, r, pl, hz⟩ := I.list hs
  obtain ⟨w, ew, rw'⟩ := r.get hv
  exact getItem_listL pl.isList (by omega) (by have := line63; have := (List.getElem?_eq_some_iff.mp hv).1; omega) (by simpa using ew) ⟨v, H, I, rw', q⟩
theorem ip_addS : PIp X .Add (fun x y H Q => ∃ i j, x = .str i ∧ y = .str j ∧ i.length + j.length ≤ sizeLine ∧ Q (.str (i ++ j)) H) := fun pins s σ H x y v u Q I r1 r2 h => iop_add_str pins s σ H x y v u Q I r1 r2 h
end
theorem lc_pairs {lo : Int} {n : Nat} {g : TG} {tt : TT} {te : TE} {vs : List Nat} {σ : L2.St} {H1 : Hp} {D : Addr} {Qd : Hp → Prop} (f : Nat → Pr) (nD : H1 D = none) (few : n < sizeLine)
    (hs : ∀ (i : Nat) (H' : Hp) (Po : V → Hp → Prop) (Pn : Hp → Prop), i < n → Same H1 H' → (∀ t2, H' t2 = none → Po (.ref t2) (upd H' t2 (.tup [.int (f i).1, .int (f i).2]))) →
      g (.int (lo + i)) (wipe σ vs) H' fun σ2 H2 => wipe σ2 vs = wipe σ vs ∧ tt σ2 H2 fun b H3 => if b = true then te σ2 H3 Po else Pn H3)
    (hd : ∀ (H' : Hp) (us : List (Addr × Pr)), Same H1 H' → H' D = some (.lst (us.map fun t => V.ref t.1)) → (∀ t ∈ us, H' t.1 = some (.tup [.int t.2.1, .int t.2.2])) → us.map (·.2) = (List.range n).map f → Qd H') :
    ∃ W : Nat → Nat → Hp → Prop, (∃ m, W 0 m (upd H1 D (.lst []))) ∧ ∀ i m H, W i m H →
      ((Itr lo n).stop i H ∧ Qd H) ∨ ((Itr lo n).go i H ∧ ∃ Nx : Hp → Prop, (∀ H', Nx H' → ∃ m', m' < m ∧ W (i + 1) m' H') ∧ ∀ x H', (Itr lo n).yld i H x H' → g x (wipe σ vs) H' fun σ2 H2 => wipe σ2 vs = wipe σ vs ∧ tt σ2 H2 fun b H3 =>
        if b = true then te σ2 H3 fun y H4 => ∃ acc, H4 D = some (.lst acc) ∧ acc.length < sizeLine ∧ Nx (upd H4 D (.lst (acc ++ [y]))) else Nx H3) := by
  refine lc_range (lo := lo) (n := n) (fun i H' => Same H1 H' ∧ ∃ us : List (Addr × Pr), H' D = some (.lst (us.map fun t => V.ref t.1)) ∧ (∀ t ∈ us, H' t.1 = some (.tup [.int t.2.1, .int t.2.2])) ∧ us.map (·.2) = (List.range i).map f)
    ⟨newS nD, [], upd_same, fun _ m => (by cases m), rfl⟩ ?_ ?_
  · rintro i H' hi ⟨sm, us, h1, h2, h3⟩
    have ul : us.length = i := by
      have z := congrArg List.length h3
      rw [List.length_map, List.length_map, List.length_range] at z
      exact z
    refine hs i H' _ _ hi sm fun t2 n2 => ⟨us.map fun t => V.ref t.1, newS n2 _ _ h1, ?_, mutS (sm.trans (newS n2)) nD, us ++ [(t2, f i)], ?_, ?_, ?_⟩
    · rw [List.length_map, ul]
      omega
    · rw [upd_same, List.map_append]
      rfl
    · have nD2 : t2 ≠ D := fun e => by
        rw [e, h1] at n2
        cases n2
      intro u m
      rcases List.mem_append.mp m with m | m
      · have z := h2 u m
        rw [upd_ne (fun e => ?_)]
        · exact newS n2 _ _ z
        · rw [e, h1] at z
          cases z
      · rw [List.mem_singleton.mp m, upd_ne nD2, upd_same]
    · rw [List.map_append, h3, List.range_succ, List.map_append]
      rfl
  · rintro H' ⟨sm, us, h1, h2, h3⟩
    exact hd H' us sm h1 h2 h3
/-- a pair in a list of pairs -/
theorem any_pd (p : Pr) : ∀ ps : List Pr, (ps.map pd).any (fun z => PyData.eqv z (pd p)) = decide (p ∈ ps)
  | [] => by simp
  | q :: ps => by
    rw [List.map_cons, List.any_cons, any_pd p ps, eqv_pd]
    by_cases e : q = p
    · subst e
      simp
    · have e2 : ¬ p = q := fun z => e z.symm
      simp [e, e2]
theorem shaped_pd (p : Pr) : SeqAt.shaped (pd p) = true := by
  unfold SeqAt.shaped pd
  simp [PyData.canLay0, PyData.canLayAll0, PyData.depth, PyData.depthAll]
theorem op_inP {X : Cx} (hu : X.A.units + 65 < cLine) : OpR X (compareOp .In) (fun x y H Q => ∃ (t a : Addr) (p : Pr) (ps : List Pr), x = .ref t ∧ y = .ref a ∧ H t = some (.tup [.int p.1, .int p.2]) ∧ Cells H a ps ∧ Q (.bl (decide (p ∈ ps))) H) := by
  intro pins s σ H x y v u Q I rx ry h
  obtain ⟨t, a, p, ps, rfl, rfl, ht, hc, q⟩ := h
  refine op_inD hu pins s σ H _ _ v u Q I rx ry ⟨pd p, ps.map pd, .tup (tup_of ht) (.cons (.int _) (.cons (.int _) .nil)), dp_cells hc, shaped_pd p, shaped_cells ps, ?_⟩
  rw [any_pd]
  exact q
/-- sorted, of a list of pairs that may hold one several times -/
theorem cr_sortedN {X : Cx} : CallR X (.builtin "sorted") (fun xs H Q => ∃ l ps, xs = [V.ref l] ∧ Cells H l ps ∧
    ∀ p H' qs, Same H H' → H p = none → Cells H' p qs → qs.Perm ps → qs.Pairwise (fun x y => ¬ ltP y x) → Q (.ref p) H') := by
  intro pins s σ H xs us Q I r h
  obtain ⟨l, ps, rfl, ⟨ts, hl, ht, rfl⟩, q⟩ := h
  refine cr_sortedPO pins s σ H [V.ref l] us Q I r ⟨l, ts.map fun t => V.ref t.1, kH H, rfl, lst_of hl, fun x m => ?_, fun ys p srt stb n => ?_⟩
  · obtain ⟨t, m1, rfl⟩ := List.mem_map.mp m
    have g := ht t m1
    refine ⟨t.1, rfl, ?_⟩
    rw [kH_at g]
    exact g
  · have own : ∀ y ∈ ys, ∃ t ∈ ts, y = V.ref t.1 := fun y m => by
      obtain ⟨t, m1, e⟩ := List.mem_map.mp (stb.perm.mem_iff.mp m)
      exact ⟨t, m1, e.symm⟩
    have key : ∀ t ∈ ts, kH H (.ref t.1) = t.2 := fun t m => kH_at (ht t m)
    have pm : (ys.map (kH H)).Perm (ts.map (·.2)) := by
      have z := stb.perm.map (kH H)
      rw [List.map_map] at z
      rw [show ts.map (·.2) = ts.map (kH H ∘ fun t => V.ref t.1) from List.map_congr_left fun t m => (key t m).symm]
      exact z
    have sm : Same H (upd H p (.lst ys)) := newS n
    have eo : (ys.map fun v => (adV v, kH H v)).map (fun t => V.ref t.1) = ys := by
      rw [List.map_map]
      refine (List.map_congr_left fun v m => ?_).trans (List.map_id _)
      obtain ⟨t, _, rfl⟩ := own v m
      rfl
    refine q p _ (ys.map (kH H)) sm n ⟨ys.map fun v => (adV v, kH H v), ?_, fun u m => ?_, ?_⟩ pm ?_
    · rw [eo, upd_same]
    · obtain ⟨v, m1, rfl⟩ := List.mem_map.mp m
      obtain ⟨t, m2, rfl⟩ := own v m1
      refine sm _ _ ?_
      show H t.1 = _
      rw [key t m2]
      exact ht t m2
    · rw [List.map_map]
      rfl
    · refine List.pairwise_map.mpr (srt.imp fun {u v} h z => ?_)
      have h : SrtO.lexB (kH H v) (kH H u) = false := h
      have z : SrtO.lexB (kH H v) (kH H u) = true := z
      rw [h] at z
      cases z
end Vx
namespace Vx
open PySem PySem.Spec PyProof.Rows L2
/-! ### the items of a dict whose keys are tuples -/
section
variable {X : Cx} {pins : List (Addr × Obj)} {σ : L2.St} {H : Hp} {s : Shared} {d : Addr} {o : Obj}
theorem frzT2 {kvs : List (List L2.Key × V)} (I : Inv X pins σ H s) (h : H d = some (.frz o (.dT kvs))) :
    (d == sysModules) = false ∧ s.heap.get? d = some o ∧ o.ExactDict ∧ ∃ (es : Array DictEntry) (ep : Nat), o.data = .dict es ep ∧ es.size = kvs.length ∧
      ∀ (i : Nat) (k : List L2.Key) (v : V), kvs[i]? = some (k, v) → ∃ (en : DictEntry) (q : Addr), es[i]? = some en ∧ en.key = .ref q ∧ H q = some (.tup (k.map kV)) ∧ RelV v en.val := by
  obtain ⟨hd, z, hs, xs, pr, o', es, ep, ho, hx, hdt, he, _⟩ := I.hok d _ h
  have eo : o = o' := Option.some.inj (hd.symm.trans ho)
  subst eo
  refine ⟨hs, hd, hx, es, ep, hdt, (size_of_entries he).trans (Paired.length pr).symm, fun i k v e => ?_⟩
  obtain ⟨b, hb, _, e2, e3⟩ := paired_get pr e
  refine ⟨entryOfKey (tupleKind (mixKind X.prog X.w)) b, b.2.1, ?_, rfl, e2, e3⟩
  rw [entry_at he i, hb]
  rfl
end
/-- its items, each a new pair of the key's tuple and the value -/
def ItiT (d : Addr) (o : Obj) (kvs : List (List L2.Key × V)) : It where
  go i H := H d = some (.frz o (.dT kvs)) ∧ i < kvs.length
  yld i H x H' := ∃ (T : Addr) (k : List L2.Key) (v : V) (q : Addr), kvs[i]? = some (k, v) ∧ x = .ref T ∧ H q = some (.tup (k.map kV)) ∧ H T = none ∧ H' = upd H T (.tup [.ref q, v])
  stop i H := H d = some (.frz o (.dT kvs)) ∧ kvs.length ≤ i
section
variable {P : Program} {w : World} {K : PySem.W.Frag} {d : Addr} {o : Obj} {es : Array DictEntry} {ep : Nat}
theorem turn_itemsT {kvs : List (List L2.Key × V)} {elts : List Expr} {kk : Nat} {tpos : Pos} (it : Addr) (hod : o.data = .dict es ep) :
    Turn P w K (.Tuple elts kk tpos) (ItiT d o kvs) [it] it (fun i h => ∃ ok ov, IsItemIter h it d i kvs.length ep ok ov) where
  mem := List.mem_singleton.mpr rfl
  obj := fun i h st b hb => by
    obtain ⟨ok, ov, e⟩ := st
    rw [List.mem_singleton.mp hb]
    exact ⟨_, e, fun v z => nomatch z⟩
  keep := fun i h h' st k => by
    obtain ⟨ok, ov, e⟩ := st
    exact ⟨ok, ov, k it (List.mem_singleton.mpr rfl) _ e⟩
  item := by
    intro X hP hw hK hc i pins s σ H E I hf st hg
    subst hP hw hK
    obtain ⟨hd, hi⟩ := hg
    obtain ⟨hs, hgd, hx, es', ep', hdt, hsz, ent⟩ := frzT2 I hd
    obtain ⟨rfl, rfl⟩ := dict_ep hod hdt
    obtain ⟨⟨k, v⟩, hkv⟩ : ∃ p, kvs[i]? = some p := ⟨kvs[i], List.getElem?_eq_getElem hi⟩
    obtain ⟨en, q, hen, hkey, hq, rv⟩ := ent i k v hkv
    obtain ⟨ok, ov, he⟩ := st
    have hlt : it < s.heap.objs.size := Heap.lt_size he
    have hi' : i < es'.size := by
      rw [hsz]
      exact hi
    have een : es'[i] = en := by
      rw [Array.getElem?_eq_getElem hi'] at hen
      exact Option.some.inj hen
    rw [← hsz] at he
    refine DT.nextI he ⟨o, hgd, hx, hdt⟩ hi' fun h' ho hT hz hk => ?_
    rw [een, hkey] at ho hT
    refine ⟨_, rfl, wpAny_letOwnedTupleGo_items (s := { s with heap := h' }) ho fun h'' he' sb => ?_⟩
    have hT2 : h''.get? s.heap.objs.size = some { cls := .type "tuple", data := .seq #[.ref q, en.val] } := (sb.2 _ (Nat.ne_of_gt hlt)).trans hT
    have new : ObjOk X.prog X.w (upd H s.heap.objs.size (.tup [.ref q, v])) h'' s.heap.objs.size (.tup [.ref q, v]) :=
      ⟨by show 2 ≤ sizeLine; decide, [.ref q, en.val], .cons rfl (.cons rv .nil), ⟨_, hT2, rfl, _, rfl⟩⟩
    have I1 : Inv X pins σ (upd H s.heap.objs.size (.tup [.ref q, v])) { s with heap := h'' } :=
      I.turnedNew (t' := s.toks) (ch := [it]) (fun b ob hb e => (sb.2 b (by simpa using hb)).trans (hk b ob (by simpa using hb) e)) hf (Nat.le_refl _) new
    refine ⟨.ref s.heap.objs.size, _, I1, rfl, ⟨_, k, v, q, hkv, rfl, hq, I.hok.fresh (Nat.le_refl _), rfl⟩, ⟨.ref q, en.val, ?_⟩, fun b hb => ?_⟩
    · rw [← hsz]
      exact he'
    · rw [List.mem_singleton.mp hb, upd_ne (Nat.ne_of_lt hlt)]
      exact (hf it (List.mem_singleton.mpr rfl)).1
  done := by
    intro X hP hw hK hc i pins s σ H E I hf st hg
    subst hP hw hK
    obtain ⟨hd, hi⟩ := hg
    obtain ⟨f0, f1, f2, f3, f4, f5⟩ := hf it (List.mem_singleton.mpr rfl)
    obtain ⟨hs, hgd, hx, es', ep', hdt, hsz, ent⟩ := frzT2 I hd
    obtain ⟨rfl, rfl⟩ := dict_ep hod hdt
    obtain ⟨ok, ov, he⟩ := st
    rw [← hsz] at he
    exact DT.endI (I.ok.hd hc) he ⟨o, hgd, hx, hdt⟩ (by omega) fun h' eb => ⟨rfl, I.turned (t' := s.toks) (fun b ob hb e => eb b ob hb e) f0 f1 f3 f4 f5⟩
  self := fun A i s Q E st h => by
    obtain ⟨_, _, e⟩ := st
    exact PySem.W.kcp_self e h
end
def iItemsT (td : TE) : TI := fun σ H R => td σ H fun x H1 => ∃ d o kvs, x = .ref d ∧ H1 d = some (.frz o (.dT kvs)) ∧ R (ItiT d o kvs) H1
theorem pi_itemsT {X : Cx} {e : Expr} {td : TE} {apos cpos tpos : Pos} {elts : List Expr} {kk : Nat} (he : PE X e td) (hbase : attributeBase e "items" X.env (eval e X.env) = eval e X.env := by rfl) (hline : (apos.endLine == cpos.line) = true := by rfl) :
    PI X (.Tuple elts kk tpos) (.Call (.Attribute e "items" apos) [] [] cpos) (iItemsT td) := by
  refine ⟨fun pins s σ H R I h => ?_⟩
  refine wpAny_Call_method (T := "dict") (id := "dict.items") hbase rfl hline F.plainAttrs_dict F.slot_dict_items F.type_dict_items (thn (he.run pins s σ H _ I h) fun u s1 ⟨x, H1, I1, rx, d, o, kvs, ex, hd, q⟩ => ?_)
  subst ex
  obtain rfl : u = Value.ref d := rx
  obtain ⟨hs, hgd, hx, es, ep, hdt, hsz, ent⟩ := frzT2 I1 hd
  have raw : DT.Raw s1.heap d es ep := ⟨o, hgd, hx, hdt⟩
  refine ⟨raw.typeIs, (fun a ea => by cases ea; exact ⟨o, hgd, hx.2.1⟩), ?_⟩
  have I2 : Inv X pins σ H1 { s1 with heap := s1.heap.push { cls := .type "dict_items", data := .fields #[.ref d] } } := I1.kept (t' := s1.toks) fun b ob q => Heap.get?_push_of_some _ q
  have fin : wpAny (model X.prog X.w) X.A (pyIter (.ref s1.heap.objs.size)) (PIE X pins σ (.Tuple elts kk tpos) R) X.xe { s1 with heap := s1.heap.push { cls := .type "dict_items", data := .fields #[.ref d] } } := by
    refine DT.iterI (d := d) (es := es) (ep := ep) ⟨_, Heap.get?_push_size _ rfl, rfl, rfl⟩ (raw.push _) (pi_one (tk := s1.toks) I2 _ (turn_itemsT _ hdt) ⟨.none, .none, ?_⟩ q)
    rw [hsz]
    exact Heap.get?_push_size _ rfl
  show wpAny _ _ (callWith cpos (.builtin "dict.items") [.ref d] [] []) _ X.xe s1
  exact method_meetsIn F.slot_dict_items F.entry_dict_items rfl (PySem.evalArgs_none ⟨rfl, raw.typeIs, F.args_dict_items_1 _, _, DT.meetsItems (es := es) (ep := ep) hs, ⟨raw, fin⟩⟩)
theorem walk_itemsT {d : Addr} {o : Obj} {kvs : List (List L2.Key × V)} : Walk (ItiT d o kvs) kvs.length (fun H => H d = some (.frz o (.dT kvs)))
    (fun i H x H' => ∃ (T : Addr) (k : List L2.Key) (v : V) (q : Addr), kvs[i]? = some (k, v) ∧ x = .ref T ∧ H q = some (.tup (k.map kV)) ∧ H T = none ∧ H' = upd H T (.tup [.ref q, v])) :=
  ⟨fun _ _ hi q => ⟨q, hi⟩, fun _ q => ⟨q, Nat.le_refl _⟩, fun _ _ _ _ _ _ y => y⟩
end Vx
namespace Vx
open PySem PySem.Spec PyProof.Rows L2
/-! ### bits of numbers from 0 on -/
theorem xor_and_add : ∀ a b : Nat, (a ^^^ b) + 2 * (a &&& b) = a + b := by
  intro a
  induction a using Nat.strongRecOn with
  | _ a ih =>
    intro b
    by_cases h : a = 0
    · subst h
      simp
    · have e := ih (a / 2) (by omega) (b / 2)
      have x1 : (a ^^^ b) / 2 = (a / 2) ^^^ (b / 2) := Nat.xor_div_two
      have x2 : (a &&& b) / 2 = (a / 2) &&& (b / 2) := Nat.and_div_two
      have t1 := Nat.testBit_xor a b 0
      have t2 := Nat.testBit_and a b 0
      rw [Nat.testBit_zero, Nat.testBit_zero, Nat.testBit_zero] at t1 t2
      have y1 : (a ^^^ b) % 2 = (a % 2 + b % 2) % 2 := by
        by_cases p : a % 2 = 1 <;> by_cases q : b % 2 = 1
        · rw [decide_eq_true p, decide_eq_true q] at t1
          have := of_decide_eq_false t1
          omega
        · rw [decide_eq_true p, decide_eq_false q] at t1
          have := of_decide_eq_true t1
          omega
        · rw [decide_eq_false p, decide_eq_true q] at t1
          have := of_decide_eq_true t1
          omega
        · rw [decide_eq_false p, decide_eq_false q] at t1
          have := of_decide_eq_false t1
          omega
      have y2 : (a &&& b) % 2 = if a % 2 = 1 ∧ b % 2 = 1 then 1 else 0 := by
        by_cases p : a % 2 = 1 <;> by_cases q : b % 2 = 1
        · rw [decide_eq_true p, decide_eq_true q] at t2
          rw [if_pos ⟨p, q⟩]
          exact of_decide_eq_true t2
        · rw [decide_eq_true p, decide_eq_false q] at t2
          rw [if_neg fun z => q z.2]
          have := of_decide_eq_false t2
          omega
        · rw [decide_eq_false p, decide_eq_true q] at t2
          rw [if_neg fun z => p z.1]
          have := of_decide_eq_false t2
          omega
        · rw [decide_eq_false p, decide_eq_false q] at t2
          rw [if_neg fun z => p z.1]
          have := of_decide_eq_false t2
          omega
      have z1 := Nat.div_add_mod (a ^^^ b) 2
      have z2 := Nat.div_add_mod (a &&& b) 2
      rw [x1, y1] at z1
      rw [x2, y2] at z2
      by_cases p : a % 2 = 1 ∧ b % 2 = 1
      · rw [if_pos p] at z2
        omega
      · rw [if_neg p] at z2
        omega
theorem or_and_xor (a b : Nat) : (a ||| b) = (a ^^^ b) + (a &&& b) := by
  have d : (a ^^^ b) &&& (a &&& b) = 0 := by
    refine Nat.eq_of_testBit_eq fun i => ?_
    simp only [Nat.testBit_and, Nat.testBit_xor, Nat.zero_testBit]
    cases a.testBit i <;> cases b.testBit i <;> rfl
  have e := xor_and_add (a ^^^ b) (a &&& b)
  rw [d] at e
  have f : (a ^^^ b) ^^^ (a &&& b) = a ||| b := by
    refine Nat.eq_of_testBit_eq fun i => ?_
    simp only [Nat.testBit_and, Nat.testBit_xor, Nat.testBit_or]
    cases a.testBit i <;> cases b.testBit i <;> rfl
  omega
theorem bAnd (a b : Nat) : Builtin.bitAnd (a : Int) (b : Int) = ((a &&& b : Nat) : Int) := PySem.W.os_band a b
theorem bOr (a b : Nat) : Builtin.bitOr (a : Int) (b : Int) = ((a ||| b : Nat) : Int) := by
  rw [bitOr_nn (Int.natCast_nonneg a) (Int.natCast_nonneg b), Int.toNat_natCast, Int.toNat_natCast]
theorem bXor (a b : Nat) : Builtin.bitXor (a : Int) (b : Int) = ((a ^^^ b : Nat) : Int) := by
  show Builtin.bitOr (a : Int) (b : Int) - Builtin.bitAnd (a : Int) (b : Int) = _
  rw [bAnd, bOr, or_and_xor]
  omega
section
variable {X : Cx}
theorem op_andNN : OpR X (binaryOp .BitAnd) (fun x y H Q => ∃ a b : Nat, x = .int (a : Int) ∧ y = .int (b : Int) ∧ Q (.int ((a &&& b : Nat) : Int)) H) := by
  intro pins s σ H x y v u Q I r1 r2 h
  obtain ⟨a, b, rfl, rfl, q⟩ := h
  exact op_and pins s σ H _ _ v u Q I r1 r2 ⟨_, _, rfl, rfl, (by show Q (V.int (Builtin.bitAnd (a : Int) (b : Int))) H; rw [bAnd]; exact q)⟩
theorem op_orNN : OpR X (binaryOp .BitOr) (fun x y H Q => ∃ a b : Nat, x = .int (a : Int) ∧ y = .int (b : Int) ∧ Q (.int ((a ||| b : Nat) : Int)) H) := by
  intro pins s σ H x y v u Q I r1 r2 h
  obtain ⟨a, b, rfl, rfl, q⟩ := h
  exact op_or pins s σ H _ _ v u Q I r1 r2 ⟨_, _, rfl, rfl, (by show Q (V.int (Builtin.bitOr (a : Int) (b : Int))) H; rw [bOr]; exact q)⟩
theorem op_xorNN : OpR X (binaryOp .BitXor) (fun x y H Q => ∃ a b : Nat, x = .int (a : Int) ∧ y = .int (b : Int) ∧ Q (.int ((a ^^^ b : Nat) : Int)) H) := by
  intro pins s σ H x y v u Q I r1 r2 h
  obtain ⟨a, b, rfl, rfl, q⟩ := h
  exact op_xor pins s σ H _ _ v u Q I r1 r2 ⟨_, _, rfl, rfl, (by show Q (V.int (Builtin.bitXor (a : Int) (b : Int))) H; rw [bXor]; exact q)⟩
theorem ip_orNN : PIp X .BitOr (fun x y H Q => ∃ a b : Nat, x = .int (a : Int) ∧ y = .int (b : Int) ∧ Q (.int ((a ||| b : Nat) : Int)) H) := by
  intro pins s σ H x y v u Q I r1 r2 h
  obtain ⟨a, b, rfl, rfl, q⟩ := h
  exact iop_or pins s σ H _ _ v u Q I r1 r2 ⟨_, _, rfl, rfl, (by show Q (V.int (Builtin.bitOr (a : Int) (b : Int))) H; rw [bOr]; exact q)⟩
theorem ip_xorNN : PIp X .BitXor (fun x y H Q => ∃ a b : Nat, x = .int (a : Int) ∧ y = .int (b : Int) ∧ Q (.int ((a ^^^ b : Nat) : Int)) H) := by
  intro pins s σ H x y v u Q I r1 r2 h
  obtain ⟨a, b, rfl, rfl, q⟩ := h
  exact iop_xor pins s σ H _ _ v u Q I r1 r2 ⟨_, _, rfl, rfl, (by show Q (V.int (Builtin.bitXor (a : Int) (b : Int))) H; rw [bXor]; exact q)⟩
theorem op_shrNN : OpR X (binaryOp .RShift) (fun x y H Q => ∃ a k : Nat, x = .int (a : Int) ∧ y = .int (k : Int) ∧ Q (.int ((a >>> k : Nat) : Int)) H) := by
  intro pins s σ H x y v u Q I r1 r2 h
  obtain ⟨a, k, rfl, rfl, q⟩ := h
  refine op_shrN pins s σ H _ _ v u Q I r1 r2 ⟨_, k, rfl, rfl, ?_⟩
  rw [show (a : Int) / 2 ^ k = ((a >>> k : Nat) : Int) by rw [Nat.shiftRight_eq_div_pow]; exact (by push_cast; rfl)]
  exact q
theorem op_shlNN : OpR X (binaryOp .LShift) (fun x y H Q => ∃ (a k n : Nat), x = .int (a : Int) ∧ y = .int (k : Int) ∧ a < 2 ^ n ∧ n + k ≤ 134217728 ∧ Q (.int ((a <<< k : Nat) : Int)) H) := by
  intro pins s σ H x y v u Q I r1 r2 h
  obtain ⟨a, k, n, rfl, rfl, la, lk, q⟩ := h
  refine op_shlN pins s σ H _ _ v u Q I r1 r2 ⟨_, k, rfl, rfl, shl_ok (n := n) la lk, ?_⟩
  rw [show (a : Int) * 2 ^ k = ((a <<< k : Nat) : Int) by rw [Nat.shiftLeft_eq]; exact (by push_cast; rfl)]
  exact q
end
/-! ### the bits that are set, ascending -/
def bitsB (N n : Nat) : List Nat := (List.range N).filter fun j => n.testBit j
theorem mem_bitsB {N n j : Nat} : j ∈ bitsB N n ↔ j < N ∧ n.testBit j = true := by
  unfold bitsB
  rw [List.mem_filter, List.mem_range]
theorem low_bit : ∀ n : Nat, n ≠ 0 → ∃ k a, n = 2 ^ k * (2 * a + 1) := by
  intro n
  induction n using Nat.strongRecOn with
  | _ n ih =>
    intro h
    by_cases e : n % 2 = 1
    · exact ⟨0, n / 2, by omega⟩
    · obtain ⟨k, a, q⟩ := ih (n / 2) (by omega) (by omega)
      refine ⟨k + 1, a, ?_⟩
      have : n = 2 * (n / 2) := by omega
      rw [this, q, Nat.pow_succ, Nat.mul_comm (2 ^ k) 2, Nat.mul_assoc]
theorem low_test {k a j : Nat} : (2 ^ k * (2 * a + 1)).testBit j = (decide (j = k) || (decide (k < j) && (2 ^ k * (2 * a)).testBit j)) := by
  rw [Nat.testBit_two_pow_mul, Nat.testBit_two_pow_mul]
  by_cases h : k ≤ j
  · by_cases e : j = k
    · subst e
      simp [Nat.testBit_zero]
    · have e2 : k < j := by omega
      have e3 : j - k = (j - k - 1) + 1 := by omega
      rw [e3, Nat.testBit_succ, Nat.testBit_succ]
      have e4 : (2 * a + 1) / 2 = 2 * a / 2 := by omega
      rw [e4]
      simp [h, e, e2]
  · have e : j ≠ k := by omega
    have e2 : ¬ k < j := by omega
    simp [h, e, e2]
theorem low_xor (k a : Nat) : 2 ^ k * (2 * a + 1) ^^^ 2 ^ k = 2 ^ k * (2 * a) := by
  refine Nat.eq_of_testBit_eq fun j => ?_
  rw [Nat.testBit_xor, low_test, Nat.testBit_two_pow]
  by_cases e : k = j
  · subst e
    simp [Nat.testBit_two_pow_mul, Nat.testBit_zero]
  · have e' : j ≠ k := fun z => e z.symm
    simp only [e, e', decide_false, Bool.false_or, Bool.xor_false]
    by_cases h : k < j
    · simp [h]
    · have : ¬ k ≤ j := by omega
      simp [h, this, Nat.testBit_two_pow_mul]
theorem bits_low {N k a : Nat} (h : 2 ^ k * (2 * a + 1) < 2 ^ N) : bitsB N (2 ^ k * (2 * a + 1)) = k :: bitsB N (2 ^ k * (2 * a)) := by
  have hk : k < N := by
    have : 2 ^ k < 2 ^ N := Nat.lt_of_le_of_lt (Nat.le_mul_of_pos_right _ (by omega)) h
    exact (Nat.pow_lt_pow_iff_right (by decide)).mp this
  have e : List.range N = List.range k ++ k :: (List.range (N - k - 1)).map (fun j => k + 1 + j) := by
    have e1 := List.range_add (n := k) (m := N - k)
    rw [show k + (N - k) = N by omega] at e1
    rw [e1, show N - k = (N - k - 1) + 1 by omega, List.range_succ_eq_map, List.map_cons, List.map_map]
    simp
    intro j _
    omega
  have z : ∀ m, (List.range k).filter (fun j => (2 ^ k * m).testBit j) = [] := fun m => by
    refine List.filter_eq_nil_iff.mpr fun j hj => ?_
    have := List.mem_range.mp hj
    rw [Nat.testBit_two_pow_mul]
    have : ¬ k ≤ j := by omega
    simp [this]
  unfold bitsB
  rw [e, List.filter_append, List.filter_append, z, z, List.nil_append, List.nil_append, List.filter_cons, List.filter_cons]
  rw [if_pos (by rw [low_test]; simp), if_neg (by rw [Nat.testBit_two_pow_mul]; simp [Nat.testBit_zero])]
  refine congrArg _ (List.filter_congr fun j hj => ?_)
  obtain ⟨i, _, rfl⟩ := List.mem_map.mp hj
  rw [low_test]
  have e1 : ¬ k + 1 + i = k := by omega
  have e2 : k < k + 1 + i := by omega
  simp [e1, e2]
theorem bits_zero (N : Nat) : bitsB N 0 = [] := by
  unfold bitsB
  exact List.filter_eq_nil_iff.mpr fun j _ => by simp
theorem low_and (k a : Nat) : Builtin.bitAnd ((2 ^ k * (2 * a + 1) : Nat) : Int) (-((2 ^ k * (2 * a + 1) : Nat) : Int)) = ((2 ^ k : Nat) : Int) := by
  have e := PySem.W.kbt_low k (a : Int)
  push_cast
  exact e
theorem intBits_pow (k : Nat) : Builtin.Int.intBits ((2 ^ k : Nat) : Int) = k + 1 := by
  unfold Builtin.Int.intBits
  have h : ¬ ((((2 ^ k : Nat) : Int)) == 0) = true := by
    have : 0 < 2 ^ k := Nat.two_pow_pos k
    simp only [beq_iff_eq]
    omega
  rw [if_neg h, Int.natAbs_natCast, Nat.log2_two_pow]
end Vx
namespace Vx
open PySem PySem.Spec PyProof.Rows L2
/-! ### dicts whose keys are pairs, told by the list of the keys and a function -/
def MapP (kvs : List (List L2.Key × V)) (ps : List Pr) (g : Pr → V) : Prop := kvs = ps.map (fun x => (keyP x, g x)) ∧ ps.Nodup
def addK (ps : List Pr) (x : Pr) : List Pr := if x ∈ ps then ps else ps ++ [x]
def setG (g : Pr → V) (x : Pr) (v : V) : Pr → V := fun y => if y = x then v else g y
theorem mem_addK {ps : List Pr} {x y : Pr} : y ∈ addK ps x ↔ y ∈ ps ∨ y = x := by
  unfold addK
  by_cases h : x ∈ ps
  · rw [if_pos h]
    exact ⟨.inl, fun q => q.elim id fun e => e ▸ h⟩
  · rw [if_neg h, List.mem_append, List.mem_singleton]
theorem addK_len {ps : List Pr} {x : Pr} : (addK ps x).length ≤ ps.length + 1 := by
  unfold addK
  by_cases h : x ∈ ps
  · rw [if_pos h]
    omega
  · rw [if_neg h, List.length_append]
    exact Nat.le_refl _
theorem addK_new {ps : List Pr} {x : Pr} (h : x ∉ ps) : addK ps x = ps ++ [x] := if_neg h
theorem addK_old {ps : List Pr} {x : Pr} (h : x ∈ ps) : addK ps x = ps := if_pos h
theorem MapP.nil (g : Pr → V) : MapP [] [] g := ⟨rfl, List.nodup_nil⟩
theorem MapP.keys {kvs : List (List L2.Key × V)} {ps : List Pr} {g : Pr → V} (h : MapP kvs ps g) : KeysP kvs ps := by
  refine ⟨?_, h.2⟩
  rw [h.1, List.map_map]
  rfl
theorem MapP.len {kvs : List (List L2.Key × V)} {ps : List Pr} {g : Pr → V} (h : MapP kvs ps g) : kvs.length = ps.length := by rw [h.1, List.length_map]
theorem MapP.congr {kvs : List (List L2.Key × V)} {ps : List Pr} {g g' : Pr → V} (h : MapP kvs ps g) (e : ∀ x ∈ ps, g x = g' x) : MapP kvs ps g' := by
  refine ⟨?_, h.2⟩
  rw [h.1]
  exact List.map_congr_left fun x m => by rw [e x m]
theorem MapP.at {kvs : List (List L2.Key × V)} {ps : List Pr} {g : Pr → V} (h : MapP kvs ps g) {i : Nat} {k : List L2.Key} {v : V} (e : kvs[i]? = some (k, v)) : ∃ x, ps[i]? = some x ∧ k = keyP x ∧ v = g x := by
  rw [h.1, List.getElem?_map] at e
  cases q : ps[i]? with
  | none => rw [q] at e; cases e
  | some x =>
    rw [q] at e
    injection e with e
    injection e with e1 e2
    exact ⟨x, rfl, e1.symm, e2.symm⟩
theorem MapP.get {kvs : List (List L2.Key × V)} {ps : List Pr} {g : Pr → V} (h : MapP kvs ps g) (x : Pr) : valV kvs (keyP x) = if x ∈ ps then some (g x) else none := by
  rw [h.1]
  have go : ∀ qs : List Pr, valV (qs.map fun x => (keyP x, g x)) (keyP x) = if x ∈ qs then some (g x) else none := fun qs => by
    induction qs with
    | nil => rfl
    | cons y qs ih =>
      rw [List.map_cons]
      by_cases e : y = x
      · subst e
        rw [valV_pos rfl, if_pos List.mem_cons_self]
      · rw [valV_neg (fun z => e (keyP_inj z)), ih]
        have e' : ¬ x = y := fun z => e z.symm
        by_cases m : x ∈ qs <;> simp [m, e']
  exact go ps
theorem MapP.put {kvs : List (List L2.Key × V)} {ps : List Pr} {g : Pr → V} (h : MapP kvs ps g) (x : Pr) (v : V) : MapP (putK kvs (keyP x) v) (addK ps x) (setG g x v) := by
  have any : (kvs.any fun kv => decide (kv.1 = keyP x)) = decide (x ∈ ps) := by
    rw [valV_any, h.get]
    by_cases m : x ∈ ps <;> simp [m]
  unfold putK
  rw [any]
  by_cases m : x ∈ ps
  · rw [if_pos (decide_eq_true m), addK_old m]
    refine ⟨?_, h.2⟩
    rw [h.1, List.map_map]
    refine List.map_congr_left fun y _ => ?_
    show (if keyP y = keyP x then (keyP y, v) else (keyP y, g y)) = (keyP y, if y = x then v else g y)
    by_cases e : y = x
    · rw [if_pos (by rw [e]), if_pos e]
    · rw [if_neg fun z => e (keyP_inj z), if_neg e]
  · rw [if_neg (by simp [m]), addK_new m]
    refine ⟨?_, ?_⟩
    · rw [h.1, List.map_append]
      congr 1
      · refine List.map_congr_left fun y my => ?_
        have e : ¬ y = x := fun e => m (e ▸ my)
        show (keyP y, g y) = (keyP y, if y = x then v else g y)
        rw [if_neg e]
      · show [(keyP x, v)] = [(keyP x, if x = x then v else g x)]
        rw [if_pos rfl]
    · refine List.pairwise_append.mpr ⟨h.2, List.pairwise_cons.mpr ⟨fun _ m => (by cases m), List.Pairwise.nil⟩, fun a ma b mb e => ?_⟩
      rw [List.mem_singleton.mp mb] at e
      exact m (e ▸ ma)
theorem MapP.drop {kvs : List (List L2.Key × V)} {ps : List Pr} {g : Pr → V} (h : MapP kvs ps g) (x : Pr) : MapP (dropK kvs (keyP x)) (ps.filter fun y => decide (y ≠ x)) g := by
  refine ⟨?_, h.2.filter _⟩
  unfold dropK
  rw [h.1, List.filter_map]
  congr 1
  refine List.filter_congr fun y _ => ?_
  show decide (keyP y ≠ keyP x) = decide (y ≠ x)
  by_cases e : y = x
  · simp [e]
  · have : keyP y ≠ keyP x := fun z => e (keyP_inj z)
    simp [e, this]
/-- at d: such a dict -/
def Dct (H : Hp) (d : Addr) (ps : List Pr) (g : Pr → V) : Prop := ∃ kvs, H d = some (.dT kvs) ∧ MapP kvs ps g
theorem Dct.up {H H' : Hp} {d : Addr} {ps : List Pr} {g : Pr → V} (e : Same H H') (h : Dct H d ps g) : Dct H' d ps g := by
  obtain ⟨kvs, h1, h2⟩ := h
  exact ⟨kvs, e _ _ h1, h2⟩
theorem Dct.new {H : Hp} {d : Addr} (g : Pr → V) (h : H d = some (.dT [])) : Dct H d [] g := ⟨[], h, .nil g⟩
theorem Dct.ne {H : Hp} {d p : Addr} {ps : List Pr} {g : Pr → V} (h : Dct H d ps g) (n : H p = none) : p ≠ d := fun e => by
  obtain ⟨kvs, h1, _⟩ := h
  rw [e, h1] at n
  cases n
theorem Dct.isD {H : Hp} {d : Addr} {ps : List Pr} {g : Pr → V} (h : Dct H d ps g) : IsD H d := by
  obtain ⟨kvs, h1, _⟩ := h
  exact .inr ⟨kvs, .inl h1⟩
theorem Dct.dget {H : Hp} {d b : Addr} {ps : List Pr} {g : Pr → V} {x : Pr} (h : Dct H d ps g) (e : H b = some (.tup [.int x.1, .int x.2])) : DGet H d (.ref b) (if x ∈ ps then some (g x) else none) := by
  obtain ⟨kvs, h1, h2⟩ := h
  rw [← h2.get x]
  exact .t (k := keyP x) h1 e
/-- the answer of d.get(x, z) -/
def orG (ps : List Pr) (g : Pr → V) (z : V) (x : Pr) : V := if x ∈ ps then g x else z
theorem getD_or {ps : List Pr} {g : Pr → V} {z : V} {x : Pr} : (if x ∈ ps then some (g x) else none : Option V).getD z = orG ps g z x := by
  unfold orG
  by_cases h : x ∈ ps <;> simp [h]
/-- what stands elsewhere stays, d's dict grows -/
def PutAt (H : Hp) (d : Addr) (ps : List Pr) (g : Pr → V) (x : Pr) (v : V) (H' : Hp) : Prop := Dct H' d (addK ps x) (setG g x v) ∧ ∀ b, b ≠ d → H' b = H b
theorem Dct.dput {H : Hp} {d b : Addr} {ps : List Pr} {g : Pr → V} {x : Pr} (h : Dct H d ps g) (few : ps.length < sizeLine) (e : H b = some (.tup [.int x.1, .int x.2])) (v : V) : ∃ H', DPut H d (.ref b) v H' ∧ PutAt H d ps g x v H' := by
  obtain ⟨kvs, h1, h2⟩ := h
  exact ⟨_, .t (k := keyP x) h1 e (by rw [h2.len]; exact few), ⟨_, upd_same, h2.put x v⟩, fun b n => upd_ne n⟩
theorem PutAt.mut {H0 H H' : Hp} {d : Addr} {ps : List Pr} {g : Pr → V} {x : Pr} {v : V} (p : PutAt H d ps g x v H') (sm : Same H0 H) (n : H0 d = none) : Same H0 H' := fun b o e => by
  rw [p.2 b fun z => by rw [z, n] at e; cases e]
  exact sm b o e
theorem Dct.congr {H : Hp} {d : Addr} {ps : List Pr} {g g' : Pr → V} (h : Dct H d ps g) (e : ∀ x ∈ ps, g x = g' x) : Dct H d ps g' := by
  obtain ⟨kvs, h1, h2⟩ := h
  exact ⟨kvs, h1, h2.congr e⟩
theorem updS {H H' : Hp} {d : Addr} {o : HO} (e : Same H H') : Same (upd H d o) (upd H' d o) := fun b u h => by
  by_cases c : b = d
  · rw [c, upd_same] at h
    rw [c, upd_same]
    exact h
  · rw [upd_ne c] at h
    rw [upd_ne c]
    exact e b u h
theorem Dct.off {H : Hp} {d e : Addr} {ps : List Pr} {g : Pr → V} {o : HO} (h : Dct H d ps g) (n : d ≠ e) : Dct (upd H e o) d ps g := by
  obtain ⟨kvs, h1, h2⟩ := h
  exact ⟨kvs, by rw [upd_ne n]; exact h1, h2⟩
theorem nodup_next {α : Type} {ps : List α} {i : Nat} {x : α} (nd : ps.Nodup) (h : ps[i]? = some x) : x ∉ ps.take i := fun m => by
  obtain ⟨j, hj, e⟩ := List.getElem_of_mem m
  rw [List.length_take] at hj
  obtain ⟨li, ei⟩ := List.getElem?_eq_some_iff.mp h
  rw [List.getElem_take] at e
  have := (List.getElem_inj nd (h₀ := by omega) (h₁ := li)).mp (e.trans ei.symm)
  omega
theorem addK_take {ps : List Pr} {i : Nat} {x : Pr} (nd : ps.Nodup) (h : ps[i]? = some x) : addK (ps.take i) x = ps.take (i + 1) := by
  rw [addK_new (nodup_next nd h), take_next h]
theorem unlock {H H' : Hp} {d : Addr} {od : Obj} {u : HO} (hd : H d = some u) (sm : Same (upd H d (.frz od u)) H') : Same H (upd H' d u) := fun b o e => by
  by_cases c : b = d
  · rw [c] at e ⊢
    rw [hd] at e
    rw [upd_same]
    exact e
  · rw [upd_ne c]
    exact sm b o (by rw [upd_ne c]; exact e)
/-! ### the program's lists of such keys -/
theorem isKeys_cells {H : Hp} {p : Addr} : ∀ {kvs : List (List L2.Key × V)} {ps : List Pr} {g : Pr → V} {bs : List Addr}, MapP kvs ps g → IsKeys H kvs bs → H p = some (.lst (bs.map V.ref)) → Cells H p ps := by
  have go : ∀ (ps : List Pr) (g : Pr → V) (bs : List Addr), IsKeys H (ps.map fun x => (keyP x, g x)) bs → ∃ ts : List (Addr × Pr), bs.map V.ref = ts.map (fun t => V.ref t.1) ∧ (∀ t ∈ ts, H t.1 = some (.tup [.int t.2.1, .int t.2.2])) ∧ ts.map (·.2) = ps := by
    intro ps g
    induction ps with
    | nil =>
      intro bs h
      cases h
      exact ⟨[], rfl, fun _ m => (by cases m), rfl⟩
    | cons x ps ih =>
      intro bs h
      cases h with
      | @cons _ b _ bs h1 h2 =>
        obtain ⟨ts, a1, a2, a3⟩ := ih bs h2
        refine ⟨(b, x) :: ts, ?_, ?_, ?_⟩
        · rw [List.map_cons, List.map_cons, a1]
        · intro t m
          rcases List.mem_cons.mp m with e | m
          · rw [e]
            exact h1
          · exact a2 t m
        · rw [List.map_cons, a3]
  intro kvs ps g bs h k e
  rw [h.1] at k
  obtain ⟨ts, a1, a2, a3⟩ := go ps g bs k
  exact ⟨ts, by rw [e, a1], a2, a3⟩
theorem cr_listP {X : Cx} (hc : X.calm = true) : CallR X (.type "list") (fun xs H Q => ∃ d ps g, xs = [V.ref d] ∧ Dct H d ps g ∧ ∀ H' p, Same H H' → H p = none → Cells H' p ps → Q (.ref p) H') := by
  intro pins s σ H xs us Q I r h
  obtain ⟨d, ps, g, rfl, ⟨kvs, h1, h2⟩, q⟩ := h
  refine call_list_dT hc pins s σ H _ us Q I r ⟨d, kvs, rfl, .inl h1, fun p bs n k => q _ p (newS n) n ?_⟩
  refine isKeys_cells (bs := bs) h2 ?_ upd_same
  exact Paired.mapP k fun a b e => newS n _ _ e
theorem truC {K : PySem.W.Frag} {H : Hp} {l : Addr} {ps : List Pr} (h : Cells H l ps) : TruV K (.ref l) H (!ps.isEmpty) := by
  obtain ⟨ts, h1, _, rfl⟩ := h
  exact .inl ⟨_, lst_of h1, by cases ts <;> rfl⟩
/-- sorted(d) -/
theorem cr_sortedDT {X : Cx} (hcalm : X.calm = true) : CallR X (.builtin "sorted") (fun xs H Q => ∃ d ps g, xs = [V.ref d] ∧ Dct H d ps g ∧ ∀ p H' qs, Same H H' → H p = none → Cells H' p qs → CanP ps qs → qs.length = ps.length → Q (.ref p) H') := by
  intro pins s σ H xs us Q I r h
  obtain ⟨d, ps, g, rfl, ⟨kvs, hd, hm⟩, q⟩ := h
  obtain ⟨u, rfl, rx⟩ := r.one
  cases rx
  obtain ⟨z, hs, ks, prd, o, es, ep, ho, hx, hdt, he, hn⟩ := (show ObjOk X.prog X.w H s.heap d (.dT kvs) from (Rd.of hd).ok I.hok)
  have l1 : es.size = ks.length := size_of_entries he
  have l2 : kvs.length = ks.length := Paired.length prd
  have lim : es.size ≤ sizeLine := by omega
  refine Calls.call_function_entry kind_sorted plain_sorted entry_sorted (args_sorted1 _) ?_
  unfold Builtin.«sorted»
  refine wpAny_bind (m := checkCount "sorted" 1 1 _) (wpAny_pure ?_)
  refine wpAny_bind (PySem.W.kdu_collect (A := X.A.in1) (kdl_raw hs hx hdt) (I.ok.hd hcalm) ho lim fun h' tk acc kp it => ?_)
  -- the key tuples
  have keyAt : ∀ (i : Nat) (x : Pr), ps[i]? = some x → ∃ b, acc.toList[i]? = some (.ref b) ∧ H b = some (.tup [.int x.1, .int x.2]) := fun i x e => by
    have e1 : kvs[i]? = some (keyP x, g x) := by rw [hm.1, List.getElem?_map, e]; rfl
    obtain ⟨b, hb, _, e2, _⟩ := paired_get prd e1
    have q1 := entry_at he i
    rw [hb] at q1
    have li : i < acc.toList.length := by
      rw [Array.length_toList, it.1, l1]
      exact (List.getElem?_eq_some_iff.mp hb).1
    obtain ⟨en, q2, q3⟩ := it.2 i acc.toList[i] (by rw [← Array.getElem?_toList]; exact List.getElem?_eq_getElem li)
    rw [q1] at q2
    have q4 : entryOfKey (tupleKind (mixKind X.prog X.w)) b = en := Option.some.inj q2
    refine ⟨b.2.1, ?_, e2⟩
    rw [List.getElem?_eq_getElem li, q3, ← q4]
    rfl
  have al : acc.toList.length = ps.length := by rw [Array.length_toList, it.1, l1, ← l2, hm.len]
  have lacc : acc.toList.length ≤ sizeLine := by rw [Array.length_toList, it.1]; exact lim
  have I1 : Inv X pins σ H { s with heap := h', toks := tk } := I.kept kp
  refine wpAny_bind (wpAny_newList ?_ lacc)
  have gl : (h'.push (seqObj "list" acc.toList.toArray 0)).get? h'.objs.size = some (seqObj "list" acc.toList.toArray 0) := Heap.get?_push_size _ rfl
  show wpAny _ _ _ _ _ { s with heap := h'.push (seqObj "list" acc.toList.toArray 0), toks := tk }
  generalize hh1 : h'.push (seqObj "list" acc.toList.toArray 0) = h1 at gl ⊢
  generalize acc.toList = vs at *
  have keep1 : ∀ b u, h'.get? b = some u → h1.get? b = some u := fun b u e => by
    rw [← hh1]
    exact Heap.get?_push_of_some _ e
  have own : ∀ v ∈ vs, ∃ b x, v = .ref b ∧ H b = some (.tup [.int x.1, .int x.2]) ∧ (x : Pr) ∈ ps := fun v m => by
    obtain ⟨i, li, e⟩ := List.getElem_of_mem m
    have lp : i < ps.length := by omega
    obtain ⟨b, e1, e2⟩ := keyAt i ps[i] (List.getElem?_eq_getElem lp)
    rw [List.getElem?_eq_getElem li] at e1
    exact ⟨b, ps[i], by rw [← e]; exact Option.some.inj e1, e2, List.getElem_mem lp⟩
  have tin : ∀ b (x : Pr), H b = some (.tup [.int x.1, .int x.2]) → TS.TupInts h1 (.ref b) [x.1, x.2] := fun b x e => tupInts_of (P := X.prog) (w := X.w) (isT_keep (Inv.isT (k := [x.1, x.2]) I1 (tup_of e)) keep1)
  have key : ∀ b (x : Pr), H b = some (.tup [.int x.1, .int x.2]) → pr (TS.intsOf h1 (.ref b)) = x := fun b x e => by
    rw [(tin b x e).ints]
    rfl
  have isP : ∀ v ∈ vs, Srt.IsPair h1 v (pr (TS.intsOf h1 v)).1 (pr (TS.intsOf h1 v)).2 := fun v m => by
    obtain ⟨b, x, rfl, e, _⟩ := own v m
    rw [key b x e]
    have i := tin b x e
    obtain ⟨b2, items, eb, ⟨o1, go1, co1, n1, do1⟩, ia⟩ := i
    cases eb
    obtain ⟨xs⟩ := items
    cases ia with
    | cons _ t1 ia =>
      cases ia with
      | cons _ t2 ia =>
        cases ia
        exact ⟨_, o1, t1, t2, n1, rfl, go1, co1, do1⟩
  have mapK : vs.map (fun v => pr (TS.intsOf h1 v)) = ps := by
    refine List.ext_getElem? fun i => ?_
    rw [List.getElem?_map]
    by_cases li : i < ps.length
    · obtain ⟨b, e1, e2⟩ := keyAt i ps[i] (List.getElem?_eq_getElem li)
      rw [e1, List.getElem?_eq_getElem li]
      exact congrArg some (key b _ e2)
    · rw [List.getElem?_eq_none (by omega), List.getElem?_eq_none (by omega)]
      rfl
  refine wpAny_bind (wpAny_holding (wpAny_call_entry (s := { s with heap := h1, toks := tk }) slot_list_sort ⟨_, gl, rfl⟩ entry_list_sort (SrtO.list_sort_ord (s := { s with heap := h1, toks := tk }) (SrtO.swo_lex fun v => pr (TS.intsOf h1 v)) gl lacc (fun two => SrtO.pairs_sortableO (by omega) isP fun o1 e => ?_) fun out srt stb => ⟨_, rfl, ?_⟩) (args_list_sort _)))
  · have e' : some o1 = some (seqObj "list" vs.toArray 0) := e.symm.trans gl
    cases e'
    intro c
    exact absurd (Value.type.inj c) (by decide)
  · obtain ⟨c, gc⟩ := sortedHeap_at (vs := vs) (out := out.toArray) gl
    have oown : ∀ v ∈ out, ∃ b x, v = Value.ref b ∧ H b = some (.tup [.int x.1, .int x.2]) ∧ (x : Pr) ∈ ps := fun v m => own v (stb.perm.mem_iff.mp m)
    have keepAll : ∀ b u, h'.get? b = some u → (sortedHeap h1 h'.objs.size vs out.toArray).get? b = some u := fun b u g1 => by
      have lt1 := Heap.lt_size g1
      rw [sortedHeap_old (Nat.ne_of_lt lt1) (Heap.lt_size (keep1 b u g1))]
      exact keep1 b u g1
    have nF : H h'.objs.size = none := I1.hok.fresh (Nat.le_refl _)
    let ts : List (Addr × Pr) := out.map fun v => (adr v, pr (TS.intsOf h1 v))
    have eo : ts.map (fun t => Value.ref t.1) = out := by
      rw [List.map_map]
      refine (List.map_congr_left fun v m => ?_).trans (List.map_id _)
      obtain ⟨b, x, rfl, _⟩ := oown v m
      rfl
    have vals : ∀ ts : List (Addr × Pr), Vals (ts.map fun q => V.ref q.1) (ts.map fun q => Value.ref q.1) := fun ts => by
      induction ts with
      | nil => exact .nil
      | cons t ts ih => exact .cons rfl ih
    have lo : ts.length ≤ sizeLine := by
      rw [List.length_map, stb.perm.length_eq]
      exact lacc
    have new : ObjOk X.prog X.w (upd H h'.objs.size (.lst (ts.map fun q => V.ref q.1))) (sortedHeap h1 h'.objs.size vs out.toArray) h'.objs.size (.lst (ts.map fun q => V.ref q.1)) := by
      refine ⟨by rw [List.length_map]; exact lo, ts.map fun q => Value.ref q.1, c, vals ts, ?_⟩
      rw [eo]
      exact gc
    have J := I1.laid (t' := tk) keepAll (Nat.le_refl _) new
    have pmk : (ts.map (·.2)).Perm ps := by
      rw [List.map_map, ← mapK]
      exact stb.perm.map fun v => pr (TS.intsOf h1 v)
    refine wpAny_pure ⟨_, rfl, .ref h'.objs.size, _, J, rfl, q _ _ (ts.map (·.2)) (newS nF) nF ⟨ts, upd_same, fun t m => ?_, rfl⟩ ⟨?_, fun x => pmk.mem_iff⟩ pmk.length_eq⟩
    · obtain ⟨v, m1, rfl⟩ := List.mem_map.mp m
      obtain ⟨b, x, rfl, e, _⟩ := oown v m1
      refine newS nF _ _ ?_
      show H b = some (.tup [.int (pr (TS.intsOf h1 (.ref b))).1, .int (pr (TS.intsOf h1 (.ref b))).2])
      rw [key b x e]
      exact e
    · have nd : (ts.map (·.2)).Nodup := pmk.nodup_iff.mpr hm.2
      rw [List.map_map] at nd ⊢
      refine List.pairwise_map.mpr ((srt.and (List.pairwise_map.mp nd)).imp fun {u v} h => ?_)
      have a1 := SrtO.lexB_no.mp h.1
      have a2 : ¬ ((pr (TS.intsOf h1 u)).1 = (pr (TS.intsOf h1 v)).1 ∧ (pr (TS.intsOf h1 u)).2 = (pr (TS.intsOf h1 v)).2) := fun e => h.2 (Prod.ext e.1 e.2)
      refine ltP_iff.mpr ?_
      show (pr (TS.intsOf h1 u)).1 < (pr (TS.intsOf h1 v)).1 ∨ (pr (TS.intsOf h1 u)).1 = (pr (TS.intsOf h1 v)).1 ∧ (pr (TS.intsOf h1 u)).2 < (pr (TS.intsOf h1 v)).2
      omega
end Vx
namespace Vx
open PySem PySem.Spec PyProof.Rows L2
/-! ### a number in binary digits -/
def binL (n : Nat) : List Nat := (Nat.toDigits 2 n).map Char.toNat
def binT (n : Nat) : Str := ⟨(binL n).toArray⟩
section
open PySem.Builtin PySem.Builtin.Int PySem.Builtin.Float
variable {prog : Program} {w : World} {A : Around} {E : Value → Shared → Prop} {s : Shared} {t : Tok}
def fB : FormatSpec := { align := 62, type := some 98 }
theorem parse_b : parseFormatSpec (Str.ofString "b").cps.toList "int" 62 = .ok fB := by rfl
theorem field_b {n : Nat} {Q : Value → Shared → Prop} (hl : (binT n).length ≤ sizeLine) (h : ∀ t' k, Q (.str (binT n) t') { s with toks := k }) : wpAny (model prog w) A (formatField (.int (n : Int) t) (Str.ofString "b")) Q E s := by
  refine PySem.W.KXf.field_int (spec' := Str.ofString "b") (y := binT n) rfl (by decide +kernel) (by decide +kernel) (fun u => ?_) h
  apply PySem.W.KPc.meets_of
  intro prog w A s P E k
  unfold Builtin.«int.__format__»
  have hne : ((Str.ofString "b").length == 0) = false := by decide +kernel
  have hasc : (((Str.ofString "b").cps.toList.drop 1).any (· ≥ 128) || ((Str.ofString "b").cps.getD 0 0 ≥ 128 && !([60, 62, 61, 94] : List Nat).contains ((Str.ofString "b").cps.getD 1 0))) = false := by decide +kernel
  simp only [selfAndOne, noKeywords, Int.intOfSelf, asInt?, asStr?, List.isEmpty_nil, if_true, pure_bind, bind_pure, bind_assoc, hne, hasc, Bool.false_eq_true, if_false,
    show (Value.str (Str.ofString "b") u == Value.none) = false from rfl]
  refine wpAny_bind (wpAny_typeNameOf (T := "str") (typeIs_str _ _ _) (by decide) fun _ => ?_)
  refine wpAny_bind (wpAny_typeNameOfCut_int ?_)
  simp only [parse_b]
  rw [if_pos (by decide +kernel)]
  have ne : Nat.toDigits 2 n ≠ [] := Nat.toDigits_ne_nil
  have main : intField' fB (decide ((n : Int) < 0)) [] ((Nat.toDigits 2 ((n : Int)).natAbs).map Char.toNat) [] 4 = binT n := by
    rw [decide_eq_false (show ¬ (n : Int) < 0 by omega), Int.natAbs_natCast]
    unfold binT binL
    cases hd : Nat.toDigits 2 n with
    | nil => exact absurd hd ne
    | cons c cs =>
      have go : ∀ L : List Nat, L.isEmpty = false → intField' fB false [] L [] 4 = ⟨L.toArray⟩ := fun L hL => by
        unfold intField'
        rw [hL]
        show (⟨(List.replicate (((-1 : Int) - (0 + 0 + 0) - ((List.replicate ((0 : Int).toNat - L.length) 48 ++ L).length : Int)).toNat) 32 ++ [] ++ [] ++ List.replicate 0 32 ++ (List.replicate ((0 : Int).toNat - L.length) 48 ++ L) ++ [] ++ List.replicate 0 32).toArray⟩ : Str) = ⟨L.toArray⟩
        have r0 : (0 : Int).toNat - L.length = 0 := Nat.zero_sub _
        have r1 : ((-1 : Int) - (((0 : Nat) : Int) + ((0 : Nat) : Int) + ((0 : Nat) : Int)) - (L.length : Int)).toNat = 0 := by omega
        rw [r0, List.replicate_zero, List.replicate_zero, List.nil_append, r1]
        simp
      exact go _ rfl
  show wpAny (model prog w) A (retStr _) P E s
  refine PySem.W.KXf.ret_text (T := binT n) ?_ ?_ k
  · exact main
  · refine Nat.le_trans (Nat.le_of_eq ?_) hl
    exact congrArg Str.length main
end
section
variable {X : Cx}
/-- f"{n:b}" -/
theorem pe_fmtB {e spec : Expr} {te : TE} {pos : Pos} (he : PE X e te) (hs : PE X spec (tC (.str (Str.ofString "b")))) : PE X (.FormattedValue e (-1) (some spec) pos) (fun σ H Q => te σ H fun x H1 => ∃ n : Nat, x = .int (n : Int) ∧ (binT n).length ≤ sizeLine ∧ Q (.str (binT n)) H1) := by
  refine ⟨fun pins s σ H Q I h => ?_⟩
  refine wpAny_FormattedValue_spec (thn (he.run pins s σ H _ I h) fun v s1 hv => ?_)
  obtain ⟨x, H1, I1, r1, n, rfl, hl, q⟩ := hv
  obtain ⟨t, rfl⟩ := r1
  refine thn (hs.run pins s1 σ H1 (fun y H2 => y = .str (Str.ofString "b") ∧ Q (.str (binT n)) H2) I1 ⟨rfl, q⟩) fun r s2 hr => ?_
  obtain ⟨y, H2, I2, r2, rfl, q2⟩ := hr
  obtain ⟨t2, rfl⟩ := r2
  exact ⟨_, _, rfl, field_b hl fun t' k => ⟨.str (binT n), H2, I2.tok k, ⟨_, rfl⟩, q2⟩⟩
end
theorem cnt_nat (c : Nat) : ∀ l : List Nat, cnt c l = ((l.count c : Nat) : Int)
  | [] => by rfl
  | x :: l => by
    have ih : countIn (.str ⟨#[c]⟩) (l.map fun n => PyData.str ⟨#[n]⟩) = _ := cnt_nat c l
    show (if same (PyData.str ⟨#[x]⟩) (.str ⟨#[c]⟩) = true then 1 else 0) + countIn (.str ⟨#[c]⟩) (l.map fun n => PyData.str ⟨#[n]⟩) = _
    rw [ih, List.count_cons]
    have e : same (PyData.str ⟨#[x]⟩) (PyData.str ⟨#[c]⟩) = (x == c) := by
      show ((⟨#[x]⟩ : Str) == ⟨#[c]⟩) = _
      by_cases h : x = c
      · subst h
        simp
      · have h2 : ((⟨#[x]⟩ : Str) == ⟨#[c]⟩) = false := beq_eq_false_iff_ne.mpr fun z => h (by injection z with z; injection z with z; injection z with z)
        rw [h2]
        exact (beq_eq_false_iff_ne.mpr h).symm
    rw [e]
    by_cases h : (x == c) = true
    · rw [if_pos h, if_pos h]
      omega
    · rw [if_neg h, if_neg h]
      omega
theorem bitsB_half (N n : Nat) : (bitsB (N + 1) n).length = n % 2 + (bitsB N (n / 2)).length := by
  unfold bitsB
  have e : ((fun j => n.testBit j) ∘ Nat.succ) = fun j => (n / 2).testBit j := funext fun j => Nat.testBit_succ n j
  rw [List.range_succ_eq_map, List.filter_cons, List.filter_map, e, Nat.testBit_zero]
  by_cases h : n % 2 = 1
  · rw [if_pos (decide_eq_true h), List.length_cons, List.length_map]
    omega
  · rw [if_neg (by simpa using h), List.length_map]
    omega
theorem binL_big {n : Nat} (h : 2 ≤ n) : binL n = binL (n / 2) ++ [n % 2 + 48] := by
  unfold binL
  rw [Nat.toDigits_of_base_le (by decide) h, List.map_append]
  congr 1
  have : n % 2 < 2 := Nat.mod_lt _ (by decide)
  rcases (show n % 2 = 0 ∨ n % 2 = 1 by omega) with e | e <;> rw [e] <;> rfl
theorem binL_small {n : Nat} (h : n < 2) : binL n = [n + 48] := by
  unfold binL
  rw [Nat.toDigits_of_lt_base h]
  rcases (show n = 0 ∨ n = 1 by omega) with e | e <;> rw [e] <;> rfl
/-- so many ones as there are bits -/
theorem ones_bits : ∀ (N n : Nat), n < 2 ^ N → (binL n).count 49 = (bitsB N n).length
  | 0, n, h => by
    have : n = 0 := by simpa using h
    subst this
    rw [binL_small (by decide), bits_zero]
    rfl
  | N + 1, n, h => by
    rw [bitsB_half]
    have h2 : n / 2 < 2 ^ N := by
      rw [Nat.pow_succ] at h
      omega
    by_cases b : 2 ≤ n
    · rw [binL_big b, List.count_append, ones_bits N (n / 2) h2, List.count_singleton]
      rcases (show n % 2 = 0 ∨ n % 2 = 1 by omega) with e | e <;> rw [e] <;> simp <;> omega
    · rw [binL_small (by omega), show n / 2 = 0 by omega, bits_zero]
      rcases (show n = 0 ∨ n = 1 by omega) with e | e <;> subst e <;> rfl
theorem bin_len : ∀ (N n : Nat), n < 2 ^ N → (binL n).length ≤ N + 1
  | 0, n, h => by
    have : n = 0 := by simpa using h
    subst this
    rw [binL_small (by decide)]
    exact Nat.le_refl _
  | N + 1, n, h => by
    have h2 : n / 2 < 2 ^ N := by
      rw [Nat.pow_succ] at h
      omega
    by_cases b : 2 ≤ n
    · rw [binL_big b, List.length_append]
      have := bin_len N (n / 2) h2
      simp
      omega
    · rw [binL_small (by omega)]
      simp
theorem count_bin {N n : Nat} (h : n < 2 ^ N) : Txt.count (binT n) (Str.ofString "1") = (((bitsB N n).length : Nat) : Int) := by
  have e : (Str.ofString "1") = ⟨#[49]⟩ := by decide +kernel
  rw [e, count_cnt, cnt_nat]
  show (((binL n).toArray.toList.count 49 : Nat) : Int) = _
  rw [ones_bits N n h]
theorem binT_len {N n : Nat} (h : n < 2 ^ N) (hN : N < 16000000) : (binT n).length ≤ sizeLine := by
  have := bin_len N n h
  show (binL n).toArray.size ≤ _
  rw [List.size_toArray, sizeLine_eq]
  omega
end Vx
namespace Vx
open PySem PySem.Spec PyProof.Rows L2
/-! ### a dict comprehension whose keys are tuples of ints -/
theorem set_compT {X : Cx} {pins : List (Addr × Obj)} {σ : L2.St} {H : Hp} {s : Shared} {E : Value → Shared → Prop} {D b : Addr} {kvs : List (List L2.Key × V)} {k : List L2.Key} {v : V} {r : Value} {Q : Unit → Shared → Prop} (hu : X.A.units < cLine) (I : Inv X pins σ H s)
    (hD : H D = some (.dT kvs)) (few : kvs.length < sizeLine) (eb : H b = some (.tup (k.map kV))) (rv : RelV v r) (h : ∀ s', Inv X pins σ (upd H D (.dT (putK kvs k v))) s' → Q () s') : wpAny (model X.prog X.w) X.A (dictSet D (.ref b) r) Q E s := by
  obtain ⟨lim, notSys, xs, rel, at_⟩ := dt_of I.hok hD
  have lx : xs.length ≤ sizeLine := Paired.length rel ▸ lim
  have lp := length_putK kvs k v
  refine wpAny_dictSet_heap (hsz := lx) (knd := tupleKind (mixKind X.prog X.w)) hu (key_of I.hok eb) at_ fun h' after same => h _ ?_
  obtain ⟨q, es, ep, gq, a1, a2, a3, _, a4⟩ := after
  have other : ∀ c ys, H c = some (.tup ys) → upd H D (.dT (putK kvs k v)) c = some (.tup ys) := fun c ys ec => by
    rw [upd_ne fun e => ?_]
    · exact ec
    · rw [e, hD] at ec
      cases ec
  exact d_write I (by rw [hD]; exact True.intro) same ⟨q, gq⟩ ⟨by omega, notSys, _, (rel.put k eb rv).keeps other, q, es, ep, gq, a1, a2, a3, a4⟩
/-- what one turn of the comprehension asks -/
def AskT (g : TG) (tt : TT) (tk tv : TE) (vs : List Nat) (σ0 : L2.St) (D : Addr) (Nx : Hp → Prop) (x : V) (H' : Hp) : Prop :=
  g x σ0 H' fun σ2 H2 => wipe σ2 vs = σ0 ∧ tt σ2 H2 fun b H3 =>
    if b = true then tk σ2 H3 fun y H4 => tv σ2 H4 fun z H5 => ∃ (kvs : List (List L2.Key × V)) (k : List L2.Key) (b : Addr), y = .ref b ∧ H5 b = some (.tup (k.map kV)) ∧ H5 D = some (.dT kvs) ∧ kvs.length < sizeLine ∧ Nx (upd H5 D (.dT (putK kvs k z))) else Nx H3
/-- one turn, in the comprehension's own block Y -/
theorem turnT {Y : Cx} {tg kx vx : Expr} {ifs : List Expr} {g : TG} {tt : TT} {tk tv : TE} {vs : List Nat} {σ0 : L2.St} {J : It} {fp : List Addr} {it D : Addr} {tn : Nat → Heap → Prop} {Nx : Hp → Prop} {R : Result → Shared → Prop} {Ex : Value → Shared → Prop} {G : Shared → Prop} {i : Nat} {H0 : Hp} {s0 : Shared}
    (hu : Y.A.units < cLine) (calm : Y.calm = true) (quiet : Y.xe = fun _ _ => False) (pg : PG Y tg g) (pt : PTs Y ifs tt) (pk : PE Y kx tk) (pv : PE Y vx tv) (T : Turn Y.prog Y.w Y.K tg J fp it tn)
    (own : ∀ {σ' : L2.St} {H' : Hp} {s' : Shared}, Inv Y [] σ' H' s' → (∀ b ∈ fp, H' b = none) → ∀ b ∈ fp, FpOk Y [] H' b)
    (I0 : Inv Y [] σ0 H0 s0) (st0 : tn i s0.heap) (no0 : ∀ b ∈ fp, H0 b = none) (go : J.go i H0) (ask : ∀ x H', J.yld i H0 x H' → AskT g tt tk tv vs σ0 D Nx x H')
    (fin : ∀ {s' : Shared} {H' : Hp}, Inv Y [] σ0 H' s' → tn (i + 1) s'.heap → (∀ b ∈ fp, H' b = none) → Nx H' → G s') :
    wpAny (model Y.prog Y.w) Y.A (pyNext (.ref it)) (fun r s₁ => match r with
      | none => R (.ok .next) s₁
      | some v => wpAny (model Y.prog Y.w) Y.A (letOwnedTupleGo tg (.ref it) v) (fun _ s₁' => wpAny (model Y.prog Y.w) Y.A (assign tg Y.env v) (fun _ s₂ =>
          wpAny (model Y.prog Y.w) Y.A (forIn ifs true fun c r => if r = true then do let ok ← isTrue c Y.env (eval c Y.env); pure (ForInStep.yield ok) else pure (ForInStep.yield r)) (fun ok s₃ =>
            if ok = true then wpAny (model Y.prog Y.w) Y.A (eval kx Y.env) (fun kv s₄ => wpAny (model Y.prog Y.w) Y.A (eval vx Y.env) (fun vv s₅ =>
              wpAny (model Y.prog Y.w) Y.A (dictSet D kv vv) (fun _ s₆ => G s₆) Ex s₅) Ex s₄) Ex s₃
            else G s₃) Ex s₂) Ex s₁') Ex s₁) Ex s0 := by
  have first := T.item Y rfl rfl rfl calm i [] s0 _ H0 (fun _ _ => False) I0 (own I0 no0) st0 go
  refine thnF first fun r s1 ⟨u, er, took⟩ => ?_
  subst er
  refine thnF took fun _ s2 ⟨x, H1, I1, rx, yx, st1, no1⟩ => ?_
  have J1 := I1.pinned (own I1 no1) (T.obj _ _ st1)
  have rg := pg.run _ s2 _ H1 x u _ J1 rx (ask x H1 yx)
  rw [quiet] at rg
  refine thnF rg fun _ s3 ⟨σ2, H2, I2, back, q2⟩ => ?_
  have rt := pt.run _ s3 σ2 H2 _ I2 q2
  rw [quiet] at rt
  refine thnF rt fun b s4 ⟨H3, I3, q3⟩ => ?_
  -- the end of the turn
  have close : ∀ {s' : Shared} {H' : Hp}, Inv Y ([] ++ pinsAt fp s2.heap) σ2 H' s' → Nx H' → G s' := fun {s' H'} I' nx => by
    have kept : ∀ c ∈ fp, ∀ o, s2.heap.get? c = some o → s'.heap.get? c = some o ∧ H' c = none := fun c hc o e => by
      have z := I'.pin (c, o) (List.mem_append_right _ (List.mem_append_right _ (mem_pinsAt hc e)))
      exact ⟨z.1, z.2.1⟩
    have len : σ0.length = σ2.length := by rw [← back, wipe_length]
    refine fin ((I'.unpinned (pins := [])).weak len fun j v e => ?_) (T.keep _ _ _ st1 fun c hc o e => (kept c hc o e).1) (fun c hc => ?_) nx
    · rw [← back] at e
      exact (wipe_some e).1
    · obtain ⟨o, e, _⟩ := T.obj _ _ st1 c hc
      exact (kept c hc o e).2
  cases b with
  | false => exact close I3 q3
  | true =>
    have rk := pk.run _ s4 σ2 H3 _ I3 q3
    rw [quiet] at rk
    refine thnF rk fun z s5 ⟨yk, H4, I4, ry, q4⟩ => ?_
    have rv := pv.run _ s5 σ2 H4 _ I4 q4
    rw [quiet] at rv
    refine thnF rv fun z2 s6 ⟨yv, H5, I5, rz, kvs, k, c, ek, hc, hD, few, nx⟩ => ?_
    subst ek
    cases ry
    exact set_compT hu I5 hD few hc rz fun s7 I7 => close I7 nx
section
variable {X : Cx}
/-- {k: v for target in iter if ..}: D the new dict -/
def tDcT (wi : TI) (g : TG) (tt : TT) (tk tv : TE) (vs : List Nat) : TE := fun σ H Q => wi σ H fun J H1 => ∀ D, H1 D = none → ∃ W : Nat → Nat → Hp → Prop, (∃ m, W 0 m (upd H1 D (.dT []))) ∧ ∀ i m H, W i m H →
  (J.stop i H ∧ Q (.ref D) H) ∨ (J.go i H ∧ ∃ Nx : Hp → Prop, (∀ H', Nx H' → ∃ m', m' < m ∧ W (i + 1) m' H') ∧ ∀ x H', J.yld i H x H' → AskT g tt tk tv vs (wipe σ vs) D Nx x H')
theorem dc_core {pins : List (Addr × Obj)} {s : Shared} {σ : L2.St} {H : Hp} {Q : VK} {kx vx tg iter : Expr} {ifs : List Expr} {scope : Scope} {own : List (Str × Nat)} {pos pos' : Pos} {wi : TI} {g : TG} {tt : TT} {tk tv : TE} {use : Option (Value → Sem Unit)} {Qf : Value → Shared → Prop} (calm : X.calm = true) (hu : X.A.units < cLine) (hN : X.N.Nodup) (I : Inv X pins σ H s) (hi : PI X tg iter wi) (ok : BlkOk X.N X.env.scope scope own)
    (hg : ∀ (s : Shared) (H : Hp) (C : Addr) (cl : List (Str × Addr)) (fp : List Addr), PG (X.blk s H scope (compEnvC scope cl C X.env) fp) tg g) (ht : ∀ (s : Shared) (H : Hp) (C : Addr) (cl : List (Str × Addr)) (fp : List Addr), PTs (X.blk s H scope (compEnvC scope cl C X.env) fp) ifs tt)
    (hk : ∀ (s : Shared) (H : Hp) (C : Addr) (cl : List (Str × Addr)) (fp : List Addr), PE (X.blk s H scope (compEnvC scope cl C X.env) fp) kx tk)
    (hv : ∀ (s : Shared) (H : Hp) (C : Addr) (cl : List (Str × Addr)) (fp : List Addr), PE (X.blk s H scope (compEnvC scope cl C X.env) fp) vx tv) (hs : ∀ x, foldedSetIterable iter X.env x = pure x) (h : tDcT wi g tt tk tv (own.map (·.2)) σ H Q)
    (hRR : ∀ D C s' m H', Inv X pins σ H' s' → Q (.ref D) H' → s'.heap.Ns C m → FpOk X pins H' C → compPost (model X.prog X.w) X.A X.xe use Qf (.ref D) C (.ok .next) s') :
    wpAny (model X.prog X.w) X.A (comprehension (.DictComp kx vx [⟨tg, iter, ifs, 0⟩] scope pos) scope X.env pos' newDict false (eval iter X.env) use) Qf X.xe s := by
  have hfree : ∀ y ∈ scope.names, y.2 = .free → ∃ c, X.env.cells.lookup y.1 = some c := fun y hy e => (ok.free y hy e).elim (fun k => I.ok.has _ (.inl k)) fun k => I.ok.has _ (.inr k)
  refine wpAny_comprehension_free (use := use) rfl hs (closure_ok hfree) ok.kind (fun y hy e => by rw [ok.uniq y hy, e]) (thn (hi.run pins s σ H _ I h) fun xv s1 hx => thn hx fun itv sI got => ?_)
  obtain ⟨it, fp, tn, J, HI, rfl, II, T, stI, fpI, q⟩ := got
  refine wpAny_newObj_type (newEnv_comp ?_)
  -- the new dict
  obtain ⟨D, eD⟩ : ∃ D, D = sI.heap.objs.size := ⟨_, rfl⟩
  have nD : HI D = none := II.hok.fresh (Nat.le_of_eq eD.symm)
  obtain ⟨W, ⟨m0, w0⟩, turns⟩ := q D nD
  have hE : ∃ sE : Shared, sE = { sI with heap := sI.heap.push { cls := .type "dict", data := .dict #[] } } := ⟨_, rfl⟩
  obtain ⟨sE, eE⟩ := hE
  have pushE : sE.heap = sI.heap.push { cls := .type "dict", data := .dict #[] } := by rw [eE]
  have IE : Inv X pins σ (upd HI D (.dT [])) sE := by
    rw [eE]
    refine II.laid (t' := sI.toks) (fun b o e => Heap.get?_push_of_some _ e) (Nat.le_of_eq eD.symm) ?_
    rw [eD]
    exact dt_empty sI.heap II.big
  have fpE : ∀ b ∈ fp, FpOk X pins (upd HI D (.dT [])) b ∧ b < sE.heap.objs.size := fun b hb => by
    obtain ⟨o, e, _⟩ := T.obj _ _ stI b hb
    have lb := Heap.lt_size e
    obtain ⟨no, more⟩ := fpI b hb
    refine ⟨⟨?_, more⟩, by rw [pushE, Heap.size_push]; exact Nat.lt_succ_of_lt lb⟩
    rw [upd_ne (Nat.ne_of_lt (by rw [eD]; exact lb))]
    exact no
  have stE : tn 0 sE.heap := T.keep _ _ _ stI fun b _ o e => by rw [pushE]; exact Heap.get?_push_of_some _ e
  -- the block
  have IB := block_start IE ok hN fpE
  have pgB := hg sE (upd HI D (.dT [])) sE.heap.objs.size (cellsFrom (sE.heap.objs.size + 1) scope.names (cloFrom X.env.cells scope.names [])) fp
  have ptB := ht sE (upd HI D (.dT [])) sE.heap.objs.size (cellsFrom (sE.heap.objs.size + 1) scope.names (cloFrom X.env.cells scope.names [])) fp
  have pkB := hk sE (upd HI D (.dT [])) sE.heap.objs.size (cellsFrom (sE.heap.objs.size + 1) scope.names (cloFrom X.env.cells scope.names [])) fp
  have pvB := hv sE (upd HI D (.dT [])) sE.heap.objs.size (cellsFrom (sE.heap.objs.size + 1) scope.names (cloFrom X.env.cells scope.names [])) fp
  rw [← eD]
  have eS : ({ sI with heap := sI.heap.push { cls := .type "dict", data := .dict #[] } } : Shared) = sE := eE.symm
  rw [eS]
  show codeAny _ _ (.compStart (.DictComp kx vx [⟨tg, iter, ifs, 0⟩] scope pos) 0 (.ref it) (.ref D) (compEnvC scope (cellsFrom (sE.heap.objs.size + 1) scope.names (cloFrom X.env.cells scope.names [])) sE.heap.objs.size X.env)) _ _
  have noE : ∀ b ∈ fp, upd HI D (.dT []) b = none := fun b hb => (fpE b hb).1.1
  obtain ⟨env, eEnv⟩ : ∃ env, env = compEnvC scope (cellsFrom (sE.heap.objs.size + 1) scope.names (cloFrom X.env.cells scope.names [])) sE.heap.objs.size X.env := ⟨_, rfl⟩
  have locE : env.locals = sE.heap.objs.size := by rw [eEnv]; rfl
  rw [← eEnv] at IB pgB ptB pkB pvB ⊢
  obtain ⟨HE, eHE⟩ : ∃ HE, HE = upd HI D (.dT []) := ⟨_, rfl⟩
  rw [← eHE] at IE IB pgB ptB pkB pvB w0 noE fpE
  obtain ⟨sB, eB⟩ : ∃ sB : Shared, sB = { sE with heap := pushCells (sE.heap.push { cls := .type "dict", data := .dict #[] }) scope.names } := ⟨_, rfl⟩
  rw [← eB] at IB ⊢
  have stB : tn 0 sB.heap := T.keep _ _ _ stE fun b _ o e => by rw [eB]; exact pushCells_keeps _ _ _ _ (Heap.get?_push_of_some _ e)
  have ownB : ∀ {σ' : L2.St} {H' : Hp} {s' : Shared}, Inv (X.blk sE HE scope env fp) [] σ' H' s' → (∀ b ∈ fp, H' b = none) → ∀ b ∈ fp, FpOk (X.blk sE HE scope env fp) [] H' b := fun {σ' H' s'} I' no b hb =>
    ⟨no b hb, (I'.ok.exf b hb).1, I'.ok.exfs b hb, .inl hb, fun x c e => (I'.ok.exf b hb).2 x c e, fun p hp => absurd (show p ∈ ([] : List (Addr × Obj)) ++ [] from hp) (by simp)⟩
  have loop : codeAny (model X.prog X.w) X.A (.compLoop (.DictComp kx vx [⟨tg, iter, ifs, 0⟩] scope pos) 0 (.ref it) (.ref D) env) (compPost (model X.prog X.w) X.A X.xe use Qf (.ref D) sE.heap.objs.size) sB := by
    refine compLoop_anyD (fun n s' => ∃ i H', Inv (X.blk sE HE scope env fp) [] (wipe σ (own.map (·.2))) H' s' ∧ tn i s'.heap ∧ (∀ b ∈ fp, H' b = none) ∧ W i n H') ?_ m0 ⟨0, HE, IB, stB, noE, w0⟩
    rintro n s5 ⟨i, H5, I5, st5, no5, w5⟩
    rcases turns i n H5 w5 with ⟨stop, done⟩ | ⟨go, Nx, less, ask⟩
    · refine thnF (T.done (X.blk sE HE scope env fp) rfl rfl rfl calm i [] s5 _ H5 (fun _ _ => False) I5 (ownB I5 no5) st5 stop) fun r s6 ⟨er, I6⟩ => ?_
      subst er
      have IX : Inv X pins σ H5 s6 := IE.call' (ch := fp) I6.os I6.base I6.hok I6.bare fun b hb => by
        obtain ⟨_, f1, _, f3, f4, f5⟩ := (fpE b hb).1
        exact ⟨f3, f1, f4, f5⟩
      have nC : H5 sE.heap.objs.size = none := by
        rw [← locE]
        exact I6.free
      obtain ⟨m, hn, _⟩ := I6.loc
      have hn : s6.heap.Ns env.locals m := hn
      rw [locE] at hn
      exact hRR D _ s6 m H5 IX done hn (IE.fpOk (Nat.le_refl _) nC)
    · refine turnT (Y := X.blk sE HE scope env fp) (G := fun s' => ∃ m, m < n ∧ ∃ i H', Inv (X.blk sE HE scope env fp) [] (wipe σ (own.map (·.2))) H' s' ∧ tn i s'.heap ∧ (∀ b ∈ fp, H' b = none) ∧ W i m H') hu calm rfl pgB ptB pkB pvB T ownB I5 st5 no5 go ask fun {s' H'} I' st' no' nx => ?_
      obtain ⟨m, lm, w'⟩ := less H' nx
      exact ⟨m, lm, i + 1, H', I', st', no', w'⟩
  exact codeAny_compStart_dict loop (T.self X.A 0 _ _ _ stB loop)
theorem pe_dcT {kx vx tg iter : Expr} {ifs : List Expr} {scope : Scope} {own : List (Str × Nat)} {pos : Pos} {wi : TI} {g : TG} {tt : TT} {tk tv : TE} (calm : X.calm = true) (hu : X.A.units < cLine) (hN : X.N.Nodup) (hi : PI X tg iter wi) (ok : BlkOk X.N X.env.scope scope own)
    (hg : ∀ (s : Shared) (H : Hp) (C : Addr) (cl : List (Str × Addr)) (fp : List Addr), PG (X.blk s H scope (compEnvC scope cl C X.env) fp) tg g) (ht : ∀ (s : Shared) (H : Hp) (C : Addr) (cl : List (Str × Addr)) (fp : List Addr), PTs (X.blk s H scope (compEnvC scope cl C X.env) fp) ifs tt)
    (hk : ∀ (s : Shared) (H : Hp) (C : Addr) (cl : List (Str × Addr)) (fp : List Addr), PE (X.blk s H scope (compEnvC scope cl C X.env) fp) kx tk)
    (hv : ∀ (s : Shared) (H : Hp) (C : Addr) (cl : List (Str × Addr)) (fp : List Addr), PE (X.blk s H scope (compEnvC scope cl C X.env) fp) vx tv) (hs : ∀ x, foldedSetIterable iter X.env x = pure x := by intro _; rfl) :
    PE X (.DictComp kx vx [⟨tg, iter, ifs, 0⟩] scope pos) (tDcT wi g tt tk tv (own.map (·.2))) := by
  refine ⟨fun pins s σ H Q I h => ?_⟩
  rw [arm_eval_DictComp]
  refine dc_core (use := none) calm hu hN I hi ok hg ht hk hv hs h fun D C s' m H' I' q hn f => ?_
  obtain ⟨f0, f1, f2, f3, f4, f5⟩ := f
  exact ⟨m, hn, fun h'' sb => ⟨.ref D, H', I'.turned (t' := s'.toks) (fun b o hb e => (sb.2 b hb).trans e) f0 f1 f3 f4 f5, rfl, q⟩⟩
theorem sw_dict {kx vx : Expr} {gs : List Comprehension} {scope : Scope} {pos py : Pos} {y : Str} {l : Nat} {env : Env} (hk : env.scope.kind = .function) (hy : env.scope.names.lookup y = some .local) (hl : (py.line == pos.line) = true)
    (ha : (scope.names.any fun (n, k) => n == y && (k == .local || k == .cell)) = false) : swapsWith (.DictComp kx vx gs scope pos) (some (.Name y py)) l env = pure true := by
  have ky : env.kindOf y = some .local := hy
  have hb : env.blockKind = .function := by unfold Env.blockKind; rw [hk]; rfl
  unfold swapsWith
  simp only [hb, ky, ha, Expr.pos, hl]
  rfl
theorem ps_setDcT {i : Nat} {y : Str} {py : Pos} {kx vx tg iter : Expr} {ifs : List Expr} {scope : Scope} {own : List (Str × Nat)} {pos spos : Pos} {wi : TI} {g : TG} {tt : TT} {tk tv : TE} (calm : X.calm = true) (hu : X.A.units < cLine) (hN : X.N.Nodup) (hy : X.N[i]? = some y) (hyl : X.env.scope.names.lookup y = some .local)
    (hsw : swapsWith (.DictComp kx vx [⟨tg, iter, ifs, 0⟩] scope pos) (some (.Name y py)) spos.line X.env = pure true) (hi : PI X tg iter wi) (ok : BlkOk X.N X.env.scope scope own)
    (hg : ∀ (s : Shared) (H : Hp) (C : Addr) (cl : List (Str × Addr)) (fp : List Addr), PG (X.blk s H scope (compEnvC scope cl C X.env) fp) tg g) (ht : ∀ (s : Shared) (H : Hp) (C : Addr) (cl : List (Str × Addr)) (fp : List Addr), PTs (X.blk s H scope (compEnvC scope cl C X.env) fp) ifs tt)
    (hk : ∀ (s : Shared) (H : Hp) (C : Addr) (cl : List (Str × Addr)) (fp : List Addr), PE (X.blk s H scope (compEnvC scope cl C X.env) fp) kx tk)
    (hv : ∀ (s : Shared) (H : Hp) (C : Addr) (cl : List (Str × Addr)) (fp : List Addr), PE (X.blk s H scope (compEnvC scope cl C X.env) fp) vx tv) (hs : ∀ x, foldedSetIterable iter X.env x = pure x := by intro _; rfl) :
    PS X (.Assign [.Name y py] (.DictComp kx vx [⟨tg, iter, ifs, 0⟩] scope pos) spos) (tAsg (tDcT wi g tt tk tv (own.map (·.2))) (gName i)) := by
  refine ⟨fun pins s σ H D I h => ?_⟩
  rw [exec_Assign_Name_used _ _ _ _ hsw]
  refine wpAny_bind (wpAny_standAt (wpAny_bind ?_))
  show wpAny _ X.A (do let _ ← comprehension (.DictComp kx vx [⟨tg, iter, ifs, 0⟩] scope pos) scope X.env (firstIterPos [⟨tg, iter, ifs, 0⟩] pos) newDict false (eval iter X.env) (some (assign (.Name y py) X.env))) _ _ s
  have h : tDcT wi g tt tk tv (own.map (·.2)) σ H (fun x H1 => gName i x σ H1 D.nx) := h
  refine wpAny_bind (thn (dc_core (Qf := fun _ s' => SP X pins D .next s') calm hu hN I hi ok hg ht hk hv hs h fun L C s' m H' I' q hn f => ?_) fun _ s' hq => wpAny_pure (wpAny_pure hq))
  show wpAny _ _ (assign (.Name y py) X.env (.ref L)) _ _ _
  refine wpAny_assign_Name (store_ok2 (v := V.ref L) I' hN hy (.inl hyl) rfl (fun s2 I2 ⟨a, sb, ha⟩ => ?_) (.inr hyl))
  obtain ⟨f0, f1, f2, f3, f4, f5⟩ := f
  have haC : C ≠ a := by
    rcases ha with z | z
    · rw [z]; exact f1
    · exact fun e => f4 y a z e.symm
  refine ⟨m, hn.sameBut sb haC, fun h3 sb3 => ?_⟩
  exact ⟨_, H', I2.turned (t' := s2.toks) (fun b o hb e => (sb3.2 b hb).trans e) f0 f1 f3 f4 f5, q⟩
/-- over a walk -/
theorem dcT_it {J : It} {n : Nat} {G : Hp → Prop} {Y : Nat → Hp → V → Hp → Prop} (w : Walk J n G Y) {g : TG} {tt : TT} {tk tv : TE} {vs : List Nat} {σ : L2.St} {H1 : Hp} {D : Addr} {Qd : Hp → Prop} (Pv : Nat → Hp → Prop) (h0 : Pv 0 (upd H1 D (.dT []))) (hG : ∀ i H, i ≤ n → Pv i H → G H)
    (hs : ∀ i x H H', i < n → Pv i H → Y i H x H' → AskT g tt tk tv vs (wipe σ vs) D (Pv (i + 1)) x H') (hd : ∀ H, Pv n H → Qd H) :
    ∃ W : Nat → Nat → Hp → Prop, (∃ m, W 0 m (upd H1 D (.dT []))) ∧ ∀ i m H, W i m H →
      (J.stop i H ∧ Qd H) ∨ (J.go i H ∧ ∃ Nx : Hp → Prop, (∀ H', Nx H' → ∃ m', m' < m ∧ W (i + 1) m' H') ∧ ∀ x H', J.yld i H x H' → AskT g tt tk tv vs (wipe σ vs) D Nx x H') := by
  refine ⟨fun i m H => m + i = n ∧ Pv i H, ⟨n, rfl, h0⟩, ?_⟩
  rintro i m H ⟨e, p⟩
  have st := hG i H (by omega) p
  by_cases lt : i < n
  · exact .inr ⟨w.goes i H lt st, Pv (i + 1), fun H' p' => ⟨m - 1, by omega, by omega, p'⟩, fun x H' y => hs i x H H' lt p (w.yields i H x H' lt st y)⟩
  · have : i = n := by omega
    subst this
    exact .inl ⟨w.stops H st, hd H p⟩
end
end Vx
namespace Vx
open PySem PySem.Spec PyProof.Rows L2
/-! ### enumerate(v), v a tuple -/
set_option maxHeartbeats 1000000 in
theorem meets_enumerate_new1 {v : Value} {o : Obj} {H : Heap → Prop} (B : Begins v o H) :
    Meets (Builtin.«enumerate.__new__» ⟨[.type "enumerate", v], []⟩) (fun _ R s => H s.heap ∧
      R (.ok (.ret (.ref (s.heap.push o).objs.size))) { s with heap := (s.heap.push o).push { cls := .type "enumerate", data := .fields #[.none, .bool false, .ref s.heap.objs.size, rawInt 0, .none, .none] } }) :=
  .of_wp fun prog w A R s h => by
    obtain ⟨hp, g, d, tk, os⟩ := s; obtain ⟨h1, h⟩ := h
    have hsub := sub_enumerate
    have q1 : ∀ {A' : Around} {E : Value → Shared → Prop} {Q : Value → Shared → Prop}, Q (.ref hp.objs.size) ⟨hp.push o, g, d, tk, os⟩ → wpAny (model prog w) A' (pyIter v) Q E ⟨hp, g, d, tk, os⟩ :=
      fun q => B.iter prog w _ _ ⟨hp, g, d, tk, os⟩ _ h1 q
    wp_walk using q1
    refine wpAny_stack_any fun st => wpAny_pure ?_
    split
    · rename_i c _ _ _ _ _
      cases (c == Value.type "enumerate")
      · wp_walk using q1
        exact ⟨_, rfl, h⟩
      · wp_walk using q1
        exact ⟨_, rfl, h⟩
    · wp_walk using q1
      exact ⟨_, rfl, h⟩
theorem call_enumerate1 {prog : Program} {w : World} {A : Around} {E : Value → Shared → Prop} {s : Shared} {v : Value} {o : Obj} {H : Heap → Prop} {Q : Value → Shared → Prop} (B : Begins v o H) (h1 : H s.heap)
    (h : ∀ h', IsEnum h' (s.heap.objs.size + 1) s.heap.objs.size 0 .none → h'.get? s.heap.objs.size = some o → h'.objs.size = s.heap.objs.size + 2 →
      (∀ b o, s.heap.get? b = some o → h'.get? b = some o) → Q (.ref (s.heap.objs.size + 1)) { s with heap := h' }) :
    wpAny (model prog w) A (call (.type "enumerate") [v]) Q E s := by
  refine callType_new F.called_enumerate (by decide) (F.typeCall_enumerate_1 _) (F.newCall_enumerate_1 _) (fun obj => F.args_object_init_2 obj _) F.entry_enumerate_new
    (meets_enumerate_new1 B) ⟨h1, ?_⟩
  have hz : (s.heap.push o).objs.size = s.heap.objs.size + 1 := Heap.size_push ..
  show _ ∧ _
  rw [hz]
  have he : IsEnum ((s.heap.push o).push { cls := .type "enumerate", data := .fields #[.none, .bool false, .ref s.heap.objs.size, rawInt 0, .none, .none] }) (s.heap.objs.size + 1) s.heap.objs.size 0 .none := by
    have := Heap.get?_push_size (s.heap.push o) (o := { cls := .type "enumerate", data := .fields #[.none, .bool false, .ref s.heap.objs.size, rawInt 0, .none, .none] }) rfl
    rw [hz] at this; exact this
  refine ⟨⟨_, he, rfl⟩, h _ he (Heap.get?_push_of_some _ (Heap.get?_push_size _ B.free)) (by rw [Heap.size_push, hz]) fun b o x => Heap.get?_push_of_some _ (Heap.get?_push_of_some _ x)⟩
def IteT (K : PySem.W.Frag) (a : Addr) : It :=
  ⟨fun i H => ∃ (xs : List V) (x : V), SqT K H a xs ∧ xs[i]? = some x, fun i H v H' => ∃ T x, v = .ref T ∧ H T = none ∧ H' = upd H T (.tup [.int (i : Nat), x]) ∧ ∀ xs, SqT K H a xs → xs[i]? = some x, fun i H => ∃ xs : List V, SqT K H a xs ∧ xs.length = i⟩
theorem turn_enumT {P : Program} {w : World} {K : PySem.W.Frag} {elts : List Expr} {kk : Nat} {tpos : Pos} (a e it : Addr) (nae : a ≠ e) (nai : a ≠ it) :
    Turn P w K (.Tuple elts kk tpos) (IteT K a) [e, it] e (fun i h => (∃ old, IsEnum h e it ((i : Nat) : Int) old) ∧ h.IsTupleIter it a i ∧ e ≠ it) where
  mem := by simp
  obj := fun i h st b hb => by
    obtain ⟨⟨old, he⟩, ⟨o, ho, hc, hd⟩, _⟩ := st
    have e' : b = e ∨ b = it := by simpa using hb
    rcases e' with z | z
    · rw [z]; exact ⟨_, he, fun v q => nomatch q⟩
    · rw [z]; exact ⟨o, ho, fun v q => by rw [hd] at q; cases q⟩
  keep := fun i h h' st k => let ⟨⟨old, he⟩, hi, hne⟩ := st; ⟨⟨old, k e (by simp) _ he⟩, hi.at fun o q => k it (by simp) o q, hne⟩
  item := by
    intro X hP hw hK hc i pins s σ H E I hf st hg
    subst hP hw hK
    obtain ⟨⟨old, he⟩, hit, hne⟩ := st
    obtain ⟨xs, x, hq, hx⟩ := hg
    obtain ⟨its, rv, p, hz⟩ := I.tuple hq
    obtain ⟨u, hu, ru⟩ := rv.get hx
    have hel : e < s.heap.objs.size := Heap.lt_size he
    have hil : it < s.heap.objs.size := by obtain ⟨_, q, _⟩ := hit; exact Heap.lt_size q
    have D := Draws.tuple (prog := X.prog) (w := X.w) (A := X.A.in1) (I.ok.hd hc) it a nai its.toArray
    have li : i < its.toArray.size := by
      have := List.getElem?_eq_some_iff.mp hu
      obtain ⟨q, _⟩ := this
      simpa using q
    refine wpAny_pyNext_enum_itemC D he ⟨hit, p⟩ li hne (by simp; exact ⟨hne, fun z => nae z.symm⟩) fun x' h' tk hx' ho hit' hT hsz hk => ?_
    have ex : x' = u := by
      have z : its.toArray[i]? = some x' := hx'
      rw [List.getElem?_toArray, hu] at z
      exact (Option.some.inj z).symm
    subst ex
    refine ⟨_, rfl, wpAny_letOwnedTupleGo_enum (s := { s with heap := h', toks := tk + 1 }) ho fun h'' he' sb => ?_⟩
    have hT2 : h''.get? s.heap.objs.size = some { cls := .type "tuple", data := .seq #[.int i tk, x'] } := (sb.2 _ (Nat.ne_of_gt hel)).trans hT
    have new : ObjOk X.prog X.w (upd H s.heap.objs.size (.tup [.int (i : Nat), x])) h'' s.heap.objs.size (.tup [.int (i : Nat), x]) :=
      ⟨by show 2 ≤ sizeLine; decide, [.int i tk, x'], .cons ⟨_, rfl⟩ (.cons ru .nil), ⟨_, hT2, rfl, _, rfl⟩⟩
    have I1 : Inv X pins σ (upd H s.heap.objs.size (.tup [.int (i : Nat), x])) { s with heap := h'', toks := tk + 1 } :=
      I.turnedNew (ch := [e, it]) (fun b ob hb q => (sb.2 b (fun z => hb (by simp [z]))).trans (hk b ob (fun z => hb (by simp [z])) (fun z => hb (by simp [z])) q)) hf (Nat.le_refl _) new
    refine ⟨.ref s.heap.objs.size, _, I1, rfl, ⟨_, x, rfl, I.hok.fresh (Nat.le_refl _), rfl, fun ys hy => by rw [I.tuple_inj hy hq]; exact hx⟩, ⟨⟨x', ?_⟩, hit'.1.at fun o q => (sb.2 it (Ne.symm hne)).trans q, hne⟩, fun b hb => ?_⟩
    · have e1 : ((i + 1 : Nat) : Int) = (i : Int) + 1 := by omega
      rw [e1]; exact he'
    · have hb' : b < s.heap.objs.size := by
        have e' : b = e ∨ b = it := by simpa using hb
        rcases e' with z | z
        · rw [z]; exact hel
        · rw [z]; exact hil
      rw [upd_ne (Nat.ne_of_lt hb')]
      exact (hf b hb).1
  done := by
    intro X hP hw hK hc i pins s σ H E I hf st hg
    subst hP hw hK
    obtain ⟨⟨old, he⟩, hit, hne⟩ := st
    obtain ⟨xs, hq, hx⟩ := hg
    obtain ⟨its, rv, p, hz⟩ := I.tuple hq
    obtain ⟨f0, f1, f2, f3, f4, f5⟩ := hf it (by simp)
    have hl := rv.length
    have D := Draws.tuple (prog := X.prog) (w := X.w) (A := X.A.in1) (I.ok.hd hc) it a nai its.toArray
    have en : i = its.toArray.size := by simp; omega
    refine wpAny_pyNext_enum_endD D he ?_ fun h' eb => ⟨rfl, I.turned (t' := s.toks) (fun b o hb q => eb b o hb q) f0 f1 f3 f4 f5⟩
    rw [← en]
    exact ⟨hit, p⟩
  self := fun A i s Q E st h => let ⟨⟨_, he⟩, _⟩ := st; wpAny_pyIter_enum he h
def iEnumT (K : PySem.W.Frag) (ta : TA) : TI := fun σ H R => ta σ H fun vs H1 => ∃ a xs, vs = [.ref a] ∧ SqT K H1 a xs ∧ R (IteT K a) H1
theorem pi_enumT {X : Cx} {e : Expr} {ta : TA} {p pos tpos : Pos} {elts : List Expr} {kk : Nat} (hg : Gl X "enumerate") (hm : X.mg "enumerate" = none) (ha : PA X [e] ta) (hs : starEach [e] X.env = [(false, eval e X.env)] := by rfl) :
    PI X (.Tuple elts kk tpos) (.Call (.Name "enumerate" p) [e] [] pos) (iEnumT X.K ta) := by
  refine ⟨fun pins s σ H R I h => ?_⟩
  refine Call_ (ld_blt I hg hm boot_enumerate (PyProof.Rows.callWith_type1 (thn (ha.run pos pins s σ H _ I h) fun us s1 ⟨vs, H1, I1, r1, q1⟩ => ?_) hs rfl))
  obtain ⟨a, xs, ex, hq, q⟩ := q1
  subst ex
  cases r1 with
  | cons r rr =>
    cases rr
    cases r
    obtain ⟨its, rv, p', hz⟩ := I1.tuple hq
    have la : a < s1.heap.objs.size := by obtain ⟨o, e, _⟩ := p'; exact Heap.lt_size e
    refine call_enumerate1 (begins_tuple a its.toArray) (show s1.heap.IsTuple a its.toArray from p') fun h' he hit hsz hk => wpAny_pyIter_enum he ?_
    have I2 : Inv X pins σ H1 { s1 with heap := h' } := I1.kept (t' := s1.toks) hk
    refine ⟨s1.heap.objs.size + 1, [s1.heap.objs.size + 1, s1.heap.objs.size], _, _, H1, rfl, I2, turn_enumT a (s1.heap.objs.size + 1) s1.heap.objs.size (Nat.ne_of_lt (Nat.lt_succ_of_lt la)) (Nat.ne_of_lt la), ⟨⟨.none, he⟩, ⟨_, hit, rfl, rfl⟩, Nat.succ_ne_self _⟩, fun b hb => ?_, q⟩
    have e' : b = s1.heap.objs.size + 1 ∨ b = s1.heap.objs.size := by simpa using hb
    have hle : s1.heap.objs.size ≤ b := by
      rcases e' with z | z
      · rw [z]; exact Nat.le_add_right _ _
      · rw [z]; exact Nat.le_refl _
    exact I1.fpOk hle (I1.hok.fresh hle)
theorem walk_enumT {K : PySem.W.Frag} {a : Addr} {xs : List V} : Walk (IteT K a) xs.length (fun H => SqT K H a xs) (YPair (fun i => some (.int (i : Nat))) (fun i => xs[i]?)) := by
  refine ⟨fun i _ hi q => ⟨xs, xs[i], q, by simp [hi]⟩, fun _ q => ⟨xs, q, rfl⟩, fun i H v H' _ q y => ?_⟩
  obtain ⟨T, x, h1, h2, h3, h4⟩ := y
  exact ⟨T, .int (i : Nat), x, h1, h2, h3, rfl, h4 xs q⟩
end Vx
namespace Vx
open PySem PySem.Spec PyProof.Rows L2
/-- isinstance of the caught error, its class told by the reading -/
theorem call_isE2 {X : Cx} {a D : Addr} {oe : Obj} {cls : Value} {d : Option Addr} {pn : List (Addr × Obj)} (C : ExcC X.K D) (hz : Zc cls d oe) (hf : ∃ vs, oe.data = .fields vs) :
    CallR (X.suite a ((a, oe) :: pn)) (.builtin "isinstance") (fun xs H Q => cls = .ref D ∧ d = none ∧ rIsE X.K D a xs H Q) := fun pins s σ H xs us Q I r h => by
  obtain ⟨h1, h2, h3⟩ := h
  subst h1 h2
  exact call_isE C hz hf pins s σ H xs us Q I r h3
theorem kit_sub {K : PySem.W.Frag} {D C : Addr} {b : Bool} (hc : PySem.W.isClsIn K C = true) (ht : PySem.W.typeIn K (.ref C) = some (.type "type")) (h1 : PySem.W.subIn K (.ref D) (.ref D) = some true) (h2 : PySem.W.subIn K (.ref D) (.ref C) = some b) :
    PySem.W.kitOne K (.ref D) (.ref C) = some b := by
  unfold PySem.W.kitOne
  by_cases e : D = C
  · subst e
    rw [h1] at h2
    rw [if_pos (beq_self_eq_true _)]
    exact h2
  · rw [if_neg (by intro q; exact e (Value.ref.inj (beq_iff_eq.mp q)))]
    unfold PySem.W.kitCls
    have hc' : (PySem.W.clsIn K C).isSome = true := hc
    have e2 : ((PySem.W.clsIn K C).isSome && PySem.W.typeIn K (.ref C) == some (.type "type")) = true := by rw [hc', ht]; rfl
    show (if ((PySem.W.clsIn K C).isSome && PySem.W.typeIn K (.ref C) == some (.type "type")) = true then PySem.W.subIn K (.ref D) (.ref C) else none) = some b
    rw [if_pos e2]
    exact h2
theorem kit_ve {K : PySem.W.Frag} {D : Addr} {b : Bool} (h2 : PySem.W.subIn K (.ref D) (.type "ValueError") = some b) : PySem.W.kitOne K (.ref D) (.type "ValueError") = some b := by
  unfold PySem.W.kitOne
  rw [if_neg (by intro q; cases (beq_iff_eq.mp q))]
  show (if PySem.W.kitMeta "ValueError" = true then PySem.W.subIn K (.ref D) (.type "ValueError") else none) = some b
  rw [if_pos (by decide +kernel)]
  exact h2
end Vx
namespace Vx
open PySem PySem.Spec PyProof.Rows L2
theorem op_notInP {X : Cx} (hu : X.A.units + 65 < cLine) : OpR X (compareOp .NotIn) (fun x y H Q => ∃ (t a : Addr) (p : Pr) (ps : List Pr), x = .ref t ∧ y = .ref a ∧ H t = some (.tup [.int p.1, .int p.2]) ∧ Cells H a ps ∧ Q (.bl (!decide (p ∈ ps))) H) := by
  intro pins s σ H x y v u Q I rx ry h
  obtain ⟨t, a, p, ps, rfl, rfl, ht, hc, q⟩ := h
  refine op_notInD hu pins s σ H _ _ v u Q I rx ry ⟨pd p, ps.map pd, .tup (tup_of ht) (.cons (.int _) (.cons (.int _) .nil)), dp_cells hc, shaped_pd p, shaped_cells ps, ?_⟩
  rw [any_pd]
  exact q
/-! ### lists of lists of pairs -/
def lp (ps : List Pr) : PyData := .list (ps.map pd)
def CellsL (H : Hp) (l : Addr) (pss : List (List Pr)) : Prop :=
  ∃ ts : List (Addr × List Pr), H l = some (.lst (ts.map fun t => V.ref t.1)) ∧ (∀ t ∈ ts, Cells H t.1 t.2) ∧ ts.map (·.2) = pss
theorem CellsL.up {H H' : Hp} {l : Addr} {pss : List (List Pr)} (e : Same H H') (h : CellsL H l pss) : CellsL H' l pss := by
  obtain ⟨ts, h1, h2, h3⟩ := h
  exact ⟨ts, e _ _ h1, fun t m => (h2 t m).up e, h3⟩
theorem CellsL.lst {H : Hp} {l : Addr} {pss : List (List Pr)} (h : CellsL H l pss) : ∃ xs, H l = some (.lst xs) ∧ xs.length = pss.length := by
  obtain ⟨ts, h1, h2, h3⟩ := h
  exact ⟨_, h1, by rw [← h3, List.length_map, List.length_map]⟩
theorem CellsL.at {H : Hp} {l : Addr} {pss : List (List Pr)} {i : Nat} {ps : List Pr} (h : CellsL H l pss) (e : pss[i]? = some ps) : ∃ xs a, H l = some (.lst xs) ∧ xs[i]? = some (.ref a) ∧ Cells H a ps := by
  obtain ⟨ts, h1, h2, rfl⟩ := h
  rw [List.getElem?_map] at e
  cases q : ts[i]? with
  | none => rw [q] at e; cases e
  | some t =>
    rw [q] at e
    refine ⟨_, t.1, h1, by rw [List.getElem?_map, q]; rfl, ?_⟩
    rw [← Option.some.inj e]
    exact h2 t (List.mem_of_getElem? q)
theorem CellsL.mut {H : Hp} {l d : Addr} {pss : List (List Pr)} {o : HO} (h : CellsL H l pss) (ne : l ≠ d) (nl : ∀ xs, H d ≠ some (.lst xs)) (nt : ∀ xs, H d ≠ some (.tup xs)) : CellsL (upd H d o) l pss := by
  obtain ⟨ts, h1, h2, h3⟩ := h
  refine ⟨ts, by rw [upd_ne ne]; exact h1, fun t m => (h2 t m).mut (fun e => ?_) nt, h3⟩
  obtain ⟨us, z, _⟩ := h2 t m
  rw [e] at z
  exact nl _ z
theorem eqv_lp (a b : List Pr) : PyData.eqv (lp a) (lp b) = decide (a = b) := eqv_cells a b
theorem eqvAll_lp : ∀ (l m : List (List Pr)), PyData.eqvAll (l.map lp) (m.map lp) = decide (l = m)
  | [], [] => by simp [PyData.eqvAll]
  | [], y :: m => by simp [PyData.eqvAll]
  | x :: l, [] => by simp [PyData.eqvAll]
  | x :: l, y :: m => by
    show (PyData.eqv (lp x) (lp y) && PyData.eqvAll (l.map lp) (m.map lp)) = _
    rw [eqvAll_lp l m, eqv_lp]
    by_cases e : x = y <;> by_cases e2 : l = m <;> simp [e, e2]
theorem eqv_lps (l m : List (List Pr)) : PyData.eqv (.list (l.map lp)) (.list (m.map lp)) = decide (l = m) := eqvAll_lp l m
theorem canAll_lp : ∀ l : List (List Pr), PyData.canLayAll0 (l.map lp) = true
  | [] => by simp [PyData.canLayAll0]
  | x :: l => by
    rw [List.map_cons]
    simp [PyData.canLayAll0, PyData.canLay0, lp, canAll_pd, canAll_lp l]
theorem depAll_lp : ∀ l : List (List Pr), PyData.depthAll (l.map lp) ≤ 2
  | [] => by simp [PyData.depthAll]
  | x :: l => by
    rw [List.map_cons]
    have := depAll_lp l
    have := depAll_pd x
    simp only [PyData.depthAll, PyData.depth, lp]
    omega
theorem shaped_lp (l : List Pr) : SeqAt.shaped (lp l) = true := shaped_cells l
theorem shaped_lps (l : List (List Pr)) : SeqAt.shaped (.list (l.map lp)) = true := by
  unfold SeqAt.shaped
  have := depAll_lp l
  simp only [PyData.canLay0, PyData.depth, canAll_lp]
  simp
  omega
theorem any_lp (p : List Pr) : ∀ ps : List (List Pr), (ps.map lp).any (fun z => PyData.eqv z (lp p)) = decide (p ∈ ps)
  | [] => by simp
  | q :: ps => by
    rw [List.map_cons, List.any_cons, any_lp p ps, eqv_lp]
    by_cases e : q = p
    · subst e
      simp
    · have e2 : ¬ p = q := fun z => e z.symm
      simp [e, e2]
theorem dp_cellsL {K : PySem.W.Frag} {H : Hp} {a : Addr} {pss : List (List Pr)} (h : CellsL H a pss) : Dp K H (.ref a) (.list (pss.map lp)) := by
  obtain ⟨ts, hl, ht, rfl⟩ := h
  refine .lst (lst_of hl) ?_
  have go : ∀ us : List (Addr × List Pr), (∀ t ∈ us, Cells H t.1 t.2) → DpAll K H (us.map fun t => V.ref t.1) ((us.map (·.2)).map lp) := fun us => by
    induction us with
    | nil => exact fun _ => .nil
    | cons t us ih => exact fun h => .cons (dp_cells (h t List.mem_cons_self)) (ih fun u m => h u (List.mem_cons_of_mem _ m))
  exact go ts ht
theorem op_inL {X : Cx} (hu : X.A.units + 65 < cLine) : OpR X (compareOp .In) (fun x y H Q => ∃ (t a : Addr) (p : List Pr) (ps : List (List Pr)), x = .ref t ∧ y = .ref a ∧ Cells H t p ∧ CellsL H a ps ∧ Q (.bl (decide (p ∈ ps))) H) := by
  intro pins s σ H x y v u Q I rx ry h
  obtain ⟨t, a, p, ps, rfl, rfl, ht, hc, q⟩ := h
  refine op_inD hu pins s σ H _ _ v u Q I rx ry ⟨lp p, ps.map lp, dp_cells ht, dp_cellsL hc, shaped_lp p, shaped_lps ps, ?_⟩
  rw [any_lp]
  exact q
theorem mt_indexL {X : Cx} (hu : X.A.units + 65 < cLine) : MtR X "list.index" (fun x xs H Q => ∃ (a t : Addr) (p : List Pr) (ps : List (List Pr)), x = .ref a ∧ xs = [.ref t] ∧ Cells H t p ∧ CellsL H a ps ∧
    ∃ j, ps[j]? = some p ∧ (∀ m p', m < j → ps[m]? = some p' → p' ≠ p) ∧ Q (.int (j : Nat)) H) := by
  intro pins s σ H x xs v us Q I rx rxs h
  obtain ⟨a, t, p, ps, rfl, rfl, ht, hc, j, hj, hno, q⟩ := h
  refine mt_indexD hu pins s σ H _ _ v us Q I rx rxs ⟨a, .ref t, lp p, ps.map lp, j, lp p, rfl, rfl, dp_cellsL hc, dp_cells ht, shaped_lps ps, shaped_lp p, by rw [List.getElem?_map, hj]; rfl, by rw [eqv_lp]; exact decide_eq_true rfl, fun m z' hm hz => ?_, q⟩
  rw [List.getElem?_map] at hz
  obtain ⟨p', hp, rfl⟩ := Option.map_eq_some_iff.mp hz
  rw [eqv_lp]
  exact decide_eq_false (hno m p' hm hp)
theorem CellsL.add {H : Hp} {l t : Addr} {pss : List (List Pr)} {ps : List Pr} {vs : List V} (h : CellsL H l pss) (hv : H l = some (.lst vs)) (hc : Cells H t ps) (ne : t ≠ l) : CellsL (upd H l (.lst (vs ++ [.ref t]))) l (pss ++ [ps]) := by
  obtain ⟨ts, h1, h2, rfl⟩ := h
  have e : vs = ts.map fun t => V.ref t.1 := by
    rw [h1] at hv
    injection hv with hv
    injection hv with hv
    exact hv.symm
  subst e
  have nt : ∀ xs, H l ≠ some (.tup xs) := fun xs z => by
    rw [h1] at z
    cases z
  have nl : ∀ u ∈ ts, u.1 ≠ l := fun u m e => by
    obtain ⟨us, g1, g2, _⟩ := h2 u m
    rw [e, h1] at g1
    injection g1 with g1
    injection g1 with g1
    have mu : V.ref u.1 ∈ ts.map fun t => V.ref t.1 := List.mem_map.mpr ⟨u, m, rfl⟩
    rw [g1] at mu
    obtain ⟨y, my, ey⟩ := List.mem_map.mp mu
    have ey : y.1 = u.1 := V.ref.inj ey
    have z := g2 y my
    rw [ey, e, h1] at z
    cases z
  refine ⟨ts ++ [(t, ps)], by rw [upd_same, List.map_append]; rfl, fun u m => ?_, by rw [List.map_append]; rfl⟩
  rcases List.mem_append.mp m with m | m
  · exact (h2 u m).mut (nl u m) nt
  · rw [List.mem_singleton.mp m]
    exact hc.mut ne nt
theorem CellsL.one {H : Hp} {l t : Addr} {ps : List Pr} (h : H l = some (.lst [.ref t])) (hc : Cells H t ps) : CellsL H l [ps] := ⟨[(t, ps)], h, fun u m => by rw [List.mem_singleton.mp m]; exact hc, rfl⟩
/-- a statement with a word of one's own behind it -/
def tMid (t : TS) : TS := fun D σ H => ∃ P : L2.St → Hp → Prop, t { D with nx := P } σ H ∧ ∀ σ' H', P σ' H' → D.nx σ' H'
theorem ps_mid {X : Cx} {st : Stmt} {t : TS} (h : PS X st t) : PS X st (tMid t) := by
  refine ⟨fun pins s σ H D I hw => ?_⟩
  obtain ⟨P, h1, h2⟩ := hw
  refine thn (h.run pins s σ H _ I h1) fun f s1 q => ?_
  cases f with
  | next =>
    obtain ⟨σ', H', I2, q⟩ := q
    exact ⟨σ', H', I2, h2 _ _ q⟩
  | brk => exact q
  | cont => exact q
  | ret v => exact q
/-- an expression with a word of one's own behind it -/
def tMidE (t : TE) : TE := fun σ H Q => ∃ P : V → Hp → Prop, t σ H P ∧ ∀ v H', P v H' → Q v H'
theorem pe_mid {X : Cx} {e : Expr} {t : TE} (h : PE X e t) : PE X e (tMidE t) := by
  refine ⟨fun pins s σ H Q I hw => ?_⟩
  obtain ⟨P, h1, h2⟩ := hw
  exact thn (h.run pins s σ H _ I h1) fun v s1 ⟨x, H1, I2, r, q⟩ => ⟨x, H1, I2, r, h2 _ _ q⟩
end Vx
namespace Vx
open PySem PySem.Spec PyProof.Rows L2
/-! ### comprehensions with any number of loops: one loop -/
def turnF (p : Pos) (tg : Expr) (ifs : List Expr) (em : (Unit → Sem PySem.Fin) → Sem PySem.Fin) (c : Code) (it : Value) (env : Env) : Sem PySem.Fin := do
  standAt p
  let r ← pyNext it
  match r with
  | none => pure (Fin.done Flow.next)
  | some v => do
    letOwnedTupleGo tg it v
    assign tg env v
    let s ← forIn ifs true fun c r => if r = true then do
        let ok ← PySem.isTrue c env (eval c env)
        pure (ForInStep.yield ok)
      else pure (ForInStep.yield r)
    if s = true then em fun _ => again c else again c
def finP (R : Result → Shared → Prop) (c : Code) (I : Nat → Shared → Prop) (n : Nat) : PySem.Fin → Shared → Prop := fun fin s' => match fin with
  | Fin.done f => R (Except.ok f) s'
  | Fin.again c' => c' = c ∧ ∃ m, m < n ∧ I m s'
theorem loopG {prog : Program} {w : World} {A : Around} {R : Result → Shared → Prop} {s : Shared} {e : Expr} {d : Nat} {it acc : Value} {env : Env} {p : Pos} {tg : Expr} {ifs : List Expr} {em : (Unit → Sem PySem.Fin) → Sem PySem.Fin}
    (hq : (Code.compLoop e d it acc env).quiet = true) (hun : A.under (Code.compLoop e d it acc env) = A) (hden : (model prog w).den (Code.compLoop e d it acc env) = Sem.onRaise (compTurn e d it acc env) fun x => do
      noteFrame x env
      theTreesLotGoes x)
    (ht : compTurn e d it acc env = turnF p tg ifs em (Code.compLoop e d it acc env) it env) (I : Nat → Shared → Prop)
    (turn : ∀ n s, I n s → wpAny (model prog w) A (pyNext it) (fun r s1 => match r with
        | none => R (Except.ok Flow.next) s1
        | some v => wpAny (model prog w) A (letOwnedTupleGo tg it v) (fun _ s2 => wpAny (model prog w) A (assign tg env v) (fun _ s3 =>
            wpAny (model prog w) A (forIn ifs true fun c r => if r = true then do
                let ok ← PySem.isTrue c env (eval c env)
                pure (ForInStep.yield ok)
              else pure (ForInStep.yield r)) (fun ok s4 => if ok = true then wpAny (model prog w) A (em fun _ => again (Code.compLoop e d it acc env)) (finP R (Code.compLoop e d it acc env) I n) (notedBy (model prog w) A env fun e s' => R (Except.error e) s') s4 else ∃ m, m < n ∧ I m s4)
              (notedBy (model prog w) A env fun e s' => R (Except.error e) s') s3)
            (notedBy (model prog w) A env fun e s' => R (Except.error e) s') s2)
          (notedBy (model prog w) A env fun e s' => R (Except.error e) s') s1)
      (notedBy (model prog w) A env fun e s' => R (Except.error e) s') s) (n : Nat) (h : I n s) : codeAny (model prog w) A (Code.compLoop e d it acc env) R s := by
  refine codeAny_loop hq I (fun n s hI => ?_) n h
  rw [hun, hden]
  refine wpAny_noted ?_
  rw [ht]
  unfold turnF
  refine wpAny_bind (wpAny_standAt (wpAny_bind (wpAny_mono (turn n s hI) (fun r s1 h1 => ?_) fun _ _ z => z)))
  cases r with
  | none => exact wpAny_pure h1
  | some v =>
    refine wpAny_bind (wpAny_mono h1 (fun _ s2 h2 => ?_) fun _ _ z => z)
    refine wpAny_bind (wpAny_mono h2 (fun _ s3 h3 => ?_) fun _ _ z => z)
    refine wpAny_bind (wpAny_mono h3 (fun ok s4 h4 => ?_) fun _ _ z => z)
    cases ok with
    | true =>
      rw [if_pos rfl] at h4 ⊢
      exact h4
    | false =>
      rw [if_neg (by decide)] at h4 ⊢
      exact wpAny_pure ⟨rfl, h4⟩
theorem startG {prog : Program} {w : World} {A : Around} {R : Result → Shared → Prop} {s : Shared} {e : Expr} {d : Nat} {it acc : Value} {env : Env} {g : Comprehension}
    (hq : ∀ it', (Code.compLoop e d it' acc env).quiet = true) (hun : A.under (Code.compStart e d it acc env) = A) (hden : (model prog w).den (Code.compStart e d it acc env) = Sem.onRaise (compStart e d it acc env) fun x => do
      noteFrame x env
      standAt theWindowsPlace)
    (hg : (clausesOf e)[d]? = some g) (ha : g.is_async = 0)
    (h0 : codeAny (model prog w) A (Code.compLoop e d it acc env) R s)
    (h : wpAny (model prog w) A (pyIter it) (fun it' s' => codeAny (model prog w) A (Code.compLoop e d it' acc env) R s') (notedBy (model prog w) A env fun x s' => R (Except.error x) s') s) :
    codeAny (model prog w) A (Code.compStart e d it acc env) R s := by
  refine codeAny_of_tree ?_
  rw [hun, hden]
  refine wpAny_notedAt ?_
  unfold compStart
  rw [hg]
  have z : ((some g).elim false fun x : Comprehension => x.is_async != 0) = false := by
    show (g.is_async != 0) = false
    rw [ha]
    rfl
  rw [z, if_neg (by decide)]
  refine wpAny_bind (wpAny_askSetting (wpAny_ite ?_))
  by_cases c : ({ program := (model prog w).prog, params := (model prog w).w.params } : Setting).params.followText "comprehension-iter-twice" = true
  · rw [if_pos c]
    exact wpAny_pure ⟨hq it, h0⟩
  · rw [if_neg c]
    refine wpAny_bind (wpAny_rule (wpAny_bind (wpAny_standAt (wpAny_bind (wpAny_mono h (fun it' s' h' => wpAny_pure ⟨hq it', h'⟩) fun _ _ z => z)))))
theorem lvl {Y : Cx} {pins : List (Addr × Obj)} {tg : Expr} {g : TG} {ifs : List Expr} {tt : TT} {J : It} {fp : List Addr} {it : Addr} {tn : Nat → Heap → Prop} (hc : Y.calm = true) (xe0 : Y.xe = fun _ _ => False) (T : Turn Y.prog Y.w Y.K tg J fp it tn) (pg : PG Y tg g) (pt : PTs Y ifs tt)
    {e : Expr} {d : Nat} {acc : Value} {p : Pos} {em : (Unit → Sem PySem.Fin) → Sem PySem.Fin} {R : Result → Shared → Prop}
    (hq : (Code.compLoop e d (.ref it) acc Y.env).quiet = true) (hun : Y.A.under (Code.compLoop e d (.ref it) acc Y.env) = Y.A) (hden : (model Y.prog Y.w).den (Code.compLoop e d (.ref it) acc Y.env) = Sem.onRaise (compTurn e d (.ref it) acc Y.env) fun x => do
      noteFrame x Y.env
      theTreesLotGoes x)
    (ht : compTurn e d (.ref it) acc Y.env = turnF p tg ifs em (Code.compLoop e d (.ref it) acc Y.env) (.ref it) Y.env)
    {EM : L2.St → Hp → (Hp → Prop) → Prop} {vs : List Nat} {σ0 : L2.St}
    (hem : ∀ (pins : List (Addr × Obj)) (s : Shared) (σ : L2.St) (H : Hp) (Nx : Hp → Prop) (Post : PySem.Fin → Shared → Prop) (E : Value → Shared → Prop), L2.Inv Y pins σ H s → EM σ H Nx → (∀ s' H', L2.Inv Y pins (wipe σ vs) H' s' → Nx H' → Post (Fin.again (Code.compLoop e d (.ref it) acc Y.env)) s') →
      wpAny (model Y.prog Y.w) Y.A (em fun _ => again (Code.compLoop e d (.ref it) acc Y.env)) Post E s)
    {W : Nat → Nat → Hp → Prop} {Qe : Hp → Prop}
    (turn : ∀ i m H, W i m H → (J.stop i H ∧ Qe H) ∨ (J.go i H ∧ ∃ Nx : Hp → Prop, (∀ H', Nx H' → ∃ m', m' < m ∧ W (i + 1) m' H') ∧ ∀ x H', J.yld i H x H' → g x (wipe σ0 vs) H' fun σ2 H2 => wipe σ2 vs = wipe σ0 vs ∧ tt σ2 H2 fun b H3 => if b = true then EM σ2 H3 Nx else Nx H3))
    (hR : ∀ s1 H, L2.Inv Y pins (wipe σ0 vs) H s1 → Qe H → R (Except.ok Flow.next) s1)
    {s : Shared} {H : Hp} {m : Nat} (I : L2.Inv Y pins (wipe σ0 vs) H s) (t0 : tn 0 s.heap) (hfp : ∀ b ∈ fp, FpOk Y pins H b) (w0 : W 0 m H) :
    codeAny (model Y.prog Y.w) Y.A (Code.compLoop e d (.ref it) acc Y.env) R s := by
  refine loopG hq hun hden ht (fun n s => ∃ i H, L2.Inv Y pins (wipe σ0 vs) H s ∧ tn i s.heap ∧ (∀ b ∈ fp, H b = none) ∧ W i n H) ?_ m ⟨0, H, I, t0, fun b hb => (hfp b hb).1, w0⟩
  rintro n s ⟨i, H1, I1, t1, nn, w1⟩
  have fpo : ∀ {H' : Hp}, (∀ b ∈ fp, H' b = none) → ∀ b ∈ fp, FpOk Y pins H' b := fun z b hb => ⟨z b hb, (hfp b hb).2⟩
  have no : ∀ {E : Value → Shared → Prop} (a : Value) (s : Shared), (fun _ _ => False : Value → Shared → Prop) a s → E a s := fun _ _ z => z.elim
  rcases turn i n H1 w1 with ⟨st, qe⟩ | ⟨go, Nx, nx, y⟩
  · refine wpAny_mono (T.done Y rfl rfl rfl hc i pins s _ H1 (fun _ _ => False) I1 (fpo nn) t1 st) (fun r s1 h1 => ?_) no
    obtain ⟨rfl, I2⟩ := h1
    exact hR s1 H1 I2 qe
  · refine wpAny_mono (T.item Y rfl rfl rfl hc i pins s _ H1 (fun _ _ => False) I1 (fpo nn) t1 go) (fun r s1 h1 => ?_) no
    obtain ⟨u, rfl, h1⟩ := h1
    refine wpAny_mono h1 (fun _ s2 h2 => ?_) no
    obtain ⟨x, H2, I2, rx, yl, t2, nn2⟩ := h2
    have P2 := I2.pinned (fpo nn2) (T.obj _ _ t2)
    have r3 := pg.run _ s2 _ H2 x u _ P2 rx (y x H2 yl)
    rw [xe0] at r3
    refine wpAny_mono r3 (fun _ s3 h3 => ?_) no
    obtain ⟨σ3, H3, I3, ew, h3⟩ := h3
    have r4 := pt.run _ s3 σ3 H3 _ I3 h3
    rw [xe0] at r4
    refine wpAny_mono r4 (fun ok s4 h4 => ?_) no
    obtain ⟨H4, I4, h4⟩ := h4
    have back : ∀ {s' : Shared} {H' : Hp}, L2.Inv Y (pins ++ pinsAt fp s2.heap) (wipe σ3 vs) H' s' → Nx H' → ∃ m, m < n ∧ ∃ i H, L2.Inv Y pins (wipe σ0 vs) H s' ∧ tn i s'.heap ∧ (∀ b ∈ fp, H b = none) ∧ W i m H := fun {s' H'} I' nx' => by
      obtain ⟨m', lm, w'⟩ := nx H' nx'
      have pin : ∀ b ∈ fp, ∀ o, s2.heap.get? b = some o → s'.heap.get? b = some o ∧ H' b = none := fun b hb o ho => by
        have := I'.pin (b, o) (List.mem_append.mpr (.inr (List.mem_append.mpr (.inr (mem_pinsAt hb ho)))))
        exact ⟨this.1, this.2.1⟩
      refine ⟨m', lm, i + 1, H', ?_, T.keep _ _ _ t2 fun b hb o ho => (pin b hb o ho).1, fun b hb => ?_, w'⟩
      · rw [← ew]
        exact I'.unpinned
      · obtain ⟨o, ho, _⟩ := T.obj _ _ t2 b hb
        exact (pin b hb o ho).2
    cases ok with
    | true =>
      rw [if_pos rfl] at h4 ⊢
      exact hem _ s4 σ3 H4 Nx _ _ I4 h4 fun s' H' I' n' => ⟨rfl, back I' n'⟩
    | false =>
      rw [if_neg (by decide)] at h4 ⊢
      exact back (I4.weak (wipe_length ..) fun _ _ z => (wipe_some z).1) h4
/-! ### what stands within a loop -/
def emL0 (elt : Expr) (acc : Value) (env : Env) : Sem Unit := do
  let x ← eval elt env
  let _ ← call (Value.builtin "list.append") [acc, x]
  pure ()
def emL (elt : Expr) (acc : Value) (env : Env) (k : Unit → Sem PySem.Fin) : Sem PySem.Fin := emL0 elt acc env >>= k
def emI (e : Expr) (d : Nat) (i1 : Expr) (acc : Value) (env : Env) (k : Unit → Sem PySem.Fin) : Sem PySem.Fin := do
  let x ← eval i1 env
  standAt i1.pos
  let x ← foldedSetIterable i1 env x
  let it ← holding [x] (pyIter x)
  let _ ← runOwn (Code.compStart e d it acc env) env
  k ()
abbrev EMT := L2.St → Hp → (Hp → Prop) → Prop
def tEm (te : TE) (D : Addr) : EMT := fun σ H Nx => te σ H fun y H4 => ∃ acc, H4 D = some (.lst acc) ∧ acc.length < sizeLine ∧ Nx (upd H4 D (.lst (acc ++ [y])))
def tTurns (J : It) (g : TG) (tt : TT) (vs : List Nat) (EM : EMT) (σ : L2.St) (Qe : Hp → Prop) (W : Nat → Nat → Hp → Prop) : Prop :=
  ∀ i m H, W i m H → (J.stop i H ∧ Qe H) ∨ (J.go i H ∧ ∃ Nx : Hp → Prop, (∀ H', Nx H' → ∃ m', m' < m ∧ W (i + 1) m' H') ∧ ∀ x H', J.yld i H x H' → g x (wipe σ vs) H' fun σ2 H2 => wipe σ2 vs = wipe σ vs ∧ tt σ2 H2 fun b H3 => if b = true then EM σ2 H3 Nx else Nx H3)
def tIn (wi : TI) (g : TG) (tt : TT) (vs : List Nat) (EM : EMT) : EMT := fun σ H Nx => wi σ H fun J H4 => ∃ W, (∃ m, W 0 m H4) ∧ tTurns J g tt vs EM σ Nx W
/-- an inner part runs -/
def Runs (Y : Cx) (vs : List Nat) (EM : EMT) (em : (Unit → Sem PySem.Fin) → Sem PySem.Fin) : Prop :=
  ∀ (pins : List (Addr × Obj)) (s : Shared) (σ : L2.St) (H : Hp) (Nx : Hp → Prop) (c : Code) (Post : PySem.Fin → Shared → Prop) (E : Value → Shared → Prop), L2.Inv Y pins σ H s → EM σ H Nx → (∀ s' H', L2.Inv Y pins (wipe σ vs) H' s' → Nx H' → Post (Fin.again c) s') →
    wpAny (model Y.prog Y.w) Y.A (em fun _ => again c) Post E s
theorem wipe_weak {Y : Cx} {pins : List (Addr × Obj)} {σ : L2.St} {H : Hp} {s : Shared} {vs vs1 : List Nat} (h : L2.Inv Y pins (wipe σ vs1) H s) (sub : ∀ i ∈ vs1, i ∈ vs) : L2.Inv Y pins (wipe σ vs) H s :=
  h.weak (by rw [wipe_length, wipe_length]) fun i v z => by
    obtain ⟨a, b⟩ := wipe_some z
    rw [wipe_out fun m => b (sub i m)]
    exact a
theorem runs_app {Y : Cx} (xe0 : Y.xe = fun _ _ => False) {elt : Expr} {te : TE} {D : Addr} (vs : List Nat) (pe : PE Y elt te) : Runs Y vs (tEm te D) (emL elt (.ref D) Y.env) := by
  intro pins s σ H Nx c Post E I h k
  unfold emL emL0
  have r := pe.run pins s σ H _ I h
  rw [xe0] at r
  refine wpAny_bind (wpAny_bind (wpAny_mono r (fun v s1 h1 => ?_) fun _ _ z => z.elim))
  obtain ⟨y, H1, I1, ry, acc, hD, few, nx⟩ := h1
  refine wpAny_bind (app_ok I1 hD few ry fun s2 I2 => ?_)
  refine wpAny_pure (wpAny_pure (k s2 _ (I2.weak (wipe_length ..) fun _ _ z => (wipe_some z).1) nx))
theorem runs_in {Y : Cx} (hc : Y.calm = true) (xe0 : Y.xe = fun _ _ => False) {e : Expr} {d : Nat} {acc : Value} {tg i1 : Expr} {ifs : List Expr} {wi : TI} {g : TG} {tt : TT} {vs vs1 : List Nat} {EM : EMT} {p : Pos} {em : (Unit → Sem PySem.Fin) → Sem PySem.Fin} {gc : Comprehension}
    (sub : ∀ i ∈ vs1, i ∈ vs) (pi : PI Y tg i1 wi) (pg : PG Y tg g) (pt : PTs Y ifs tt) (hem : Runs Y vs1 EM em) (hs : ∀ x, foldedSetIterable i1 Y.env x = pure x)
    (hq : ∀ it, (Code.compLoop e d it acc Y.env).quiet = true) (hun : ∀ it, Y.A.under (Code.compLoop e d it acc Y.env) = Y.A) (hden : ∀ it, (model Y.prog Y.w).den (Code.compLoop e d it acc Y.env) = Sem.onRaise (compTurn e d it acc Y.env) fun x => do
      noteFrame x Y.env
      theTreesLotGoes x)
    (hunS : ∀ it, Y.A.under (Code.compStart e d it acc Y.env) = Y.A) (hdenS : ∀ it, (model Y.prog Y.w).den (Code.compStart e d it acc Y.env) = Sem.onRaise (compStart e d it acc Y.env) fun x => do
      noteFrame x Y.env
      standAt theWindowsPlace)
    (hg : (clausesOf e)[d]? = some gc) (ha : gc.is_async = 0)
    (ht : ∀ it, compTurn e d it acc Y.env = turnF p tg ifs em (Code.compLoop e d it acc Y.env) it Y.env) : Runs Y vs (tIn wi g tt vs1 EM) (emI e d i1 acc Y.env) := by
  intro pins s σ H Nx c Post E I h k
  unfold emI
  have r := pi.run pins s σ H _ I h
  rw [xe0] at r
  refine wpAny_bind (wpAny_mono r (fun v s1 h1 => ?_) fun _ _ z => z.elim)
  refine wpAny_bind (wpAny_standAt ?_)
  rw [hs]
  refine wpAny_bind (wpAny_pure (wpAny_bind (wpAny_holding (wpAny_mono h1 (fun itv s2 h2 => ?_) fun _ _ z => z.elim))))
  obtain ⟨it, fp, tn, J, H2, rfl, I2, T, t0, hfp, W, ⟨m0, w0⟩, turns⟩ := h2
  refine wpAny_bind (wpAny_runOwn ?_)
  have loop := lvl (R := fun r s' => match r with | Except.ok f => wpAny (model Y.prog Y.w) Y.A (again c) Post E s' | Except.error e => False) hc xe0 T pg pt (hq _) (hun _) (hden _) (ht _) (EM := EM) (vs := vs1) (σ0 := σ) (fun pins s σ H Nx Post E I h k => hem pins s σ H Nx _ Post E I h k) turns
    (fun s1 H1 I1 q1 => wpAny_pure (k s1 H1 (wipe_weak I1 sub) q1)) (I2.weak (wipe_length ..) fun _ _ z => (wipe_some z).1) t0 hfp w0
  show codeAny _ Y.A _ _ _
  refine codeAny_mono (startG hq (hunS _) (hdenS _) hg ha loop (T.self Y.A 0 s2 _ _ t0 loop)) fun r s3 h3 => ?_
  cases r with
  | ok f => exact h3
  | error e => exact h3.elim
def tLcG (wi : TI) (g : TG) (tt : TT) (EM : Addr → EMT) (vs : List Nat) : TE := fun σ H Q => wi σ H fun J H1 => ∀ D : Addr, H1 D = none → ∃ W, (∃ m, W 0 m (upd H1 D (.lst []))) ∧ tTurns J g tt vs (EM D) σ (fun H => Q (.ref D) H) W
theorem pe_lcG {X : Cx} {elt tg iter : Expr} {ifs : List Expr} {rest : List Comprehension} {scope : Scope} {own : List (Str × Nat)} {pos p : Pos} {wi : TI} {g : TG} {tt : TT} {EM : Addr → EMT} {em : Value → Env → (Unit → Sem PySem.Fin) → Sem PySem.Fin}
    (hc : X.calm = true) (hN : X.N.Nodup) (hi : PI X tg iter wi) (ok : BlkOk X.N X.env.scope scope own)
    (hg : ∀ (s : Shared) (H : Hp) (C : Addr) (cl : List (Str × Addr)) (fp : List Addr), PG (X.blk s H scope (compEnvC scope cl C X.env) fp) tg g)
    (ht : ∀ (s : Shared) (H : Hp) (C : Addr) (cl : List (Str × Addr)) (fp : List Addr), PTs (X.blk s H scope (compEnvC scope cl C X.env) fp) ifs tt)
    (hem : ∀ (s : Shared) (H : Hp) (C : Addr) (cl : List (Str × Addr)) (fp : List Addr) (D : Addr), Runs (X.blk s H scope (compEnvC scope cl C X.env) fp) (own.map (·.2)) (EM D) (em (.ref D) (compEnvC scope cl C X.env)))
    (turn : ∀ it acc env, compTurn (.ListComp elt (⟨tg, iter, ifs, 0⟩ :: rest) scope pos) 0 it acc env = turnF p tg ifs (em acc env) (Code.compLoop (.ListComp elt (⟨tg, iter, ifs, 0⟩ :: rest) scope pos) 0 it acc env) it env)
    (hs : ∀ x, foldedSetIterable iter X.env x = pure x) : PE X (.ListComp elt (⟨tg, iter, ifs, 0⟩ :: rest) scope pos) (tLcG wi g tt EM (own.map (·.2))) := by
  refine ⟨fun pins s σ H Q I h => ?_⟩
  rw [eval_ListComp]
  have hfree : ∀ y ∈ scope.names, y.2 = NameKind.free → ∃ c, List.lookup y.1 X.env.cells = some c := fun y hy e => (ok.free y hy e).elim (fun k => I.ok.has y.1 (.inl k)) fun k => I.ok.has y.1 (.inr k)
  refine wpAny_comprehension_free rfl hs (closure_ok hfree) ok.kind (fun y hy e => by rw [ok.uniq y hy, e]) ?_
  refine wpAny_mono (hi.run pins s σ H _ I h) (fun xv s1 hx => ?_) fun _ _ z => z
  refine wpAny_mono hx (fun itv s2 h2 => ?_) fun _ _ z => z
  obtain ⟨it, fp, tn, J, H2, rfl, I2, T, t2, f2, q⟩ := h2
  refine wpAny_newObj_type (newEnv_comp ?_)
  have hDn : H2 s2.heap.objs.size = none := I2.hok.fresh (Nat.le_refl _)
  obtain ⟨W, ⟨m0, w0⟩, turns⟩ := q _ hDn
  have I3 : L2.Inv X pins σ (upd H2 s2.heap.objs.size (.lst [])) { s2 with heap := s2.heap.push { cls := .type "list", data := .seq #[] } } :=
    I2.laid (fun b o e => Heap.get?_push_of_some _ e) (Nat.le_refl _) ⟨Nat.zero_le _, [], 0, .nil, Heap.get?_push_size _ rfl⟩
  generalize es3 : ({ s2 with heap := s2.heap.push { cls := .type "list", data := .seq #[] } } : Shared) = s3 at I3 ⊢
  have h3 : s3.heap = s2.heap.push { cls := .type "list", data := .seq #[] } := by rw [← es3]
  have f3 : ∀ b ∈ fp, FpOk X pins (upd H2 s2.heap.objs.size (.lst [])) b ∧ b < s3.heap.objs.size := fun b hb => by
    obtain ⟨o, ho, _⟩ := T.obj 0 _ t2 b hb
    have lt := Heap.lt_size ho
    refine ⟨⟨?_, (f2 b hb).2⟩, ?_⟩
    · rw [upd_ne (Nat.ne_of_lt lt)]
      exact (f2 b hb).1
    · rw [h3, Heap.size_push]
      exact Nat.lt_succ_of_lt lt
  have st3 : tn 0 s3.heap := T.keep 0 _ _ t2 fun b _ o e => by
    rw [h3]
    exact Heap.get?_push_of_some _ e
  have I4 := block_start I3 ok hN f3
  have st4 := T.keep 0 _ (pushCells (s3.heap.push { cls := .type "dict", data := .dict #[] }) scope.names) st3 fun b _ o e => pushCells_keeps scope.names _ b o (Heap.get?_push_of_some _ e)
  clear es3
  generalize s2.heap.objs.size = D at *
  show codeAny (model X.prog X.w) X.A (Code.compStart _ 0 (.ref it) (.ref D) (compEnvC scope (cellsFrom (s3.heap.objs.size + 1) scope.names (cloFrom X.env.cells scope.names [])) s3.heap.objs.size X.env)) _ _
  have loop := lvl (Y := X.blk s3 (upd H2 D (.lst [])) scope (compEnvC scope (cellsFrom (s3.heap.objs.size + 1) scope.names (cloFrom X.env.cells scope.names [])) s3.heap.objs.size X.env) fp) (R := compPost (model X.prog X.w) X.A X.xe none (EP X pins σ Q) (.ref D) s3.heap.objs.size) (e := .ListComp elt (⟨tg, iter, ifs, 0⟩ :: rest) scope pos) (d := 0) (acc := .ref D) hc rfl T (hg _ _ _ _ _) (ht _ _ _ _ _) rfl rfl rfl (turn _ _ _) (EM := EM D) (vs := List.map (fun x : Str × Nat => x.2) own) (σ0 := σ) (W := W) (Qe := fun H => Q (.ref D) H)
    (fun pins s σ H Nx Post E I h k => hem _ _ _ _ _ D pins s σ H Nx _ Post E I h k) turns (fun s6 H5 I6 q6 => ?_) I4 st4 (fun b hb => ⟨(f3 b hb).1.1, (I4.ok.exf b hb).1, I4.ok.exfs b hb, .inl hb, (I4.ok.exf b hb).2, fun p hp => by cases hp⟩) w0
  · exact codeAny_compStart_list loop (T.self X.A 0 _ _ _ st4 loop)
  · have I7 := Inv.call' I3 I6.os I6.base I6.hok I6.bare fun b hb => ⟨(f3 b hb).1.2.2.2.1, (f3 b hb).1.2.1, (f3 b hb).1.2.2.2.2.1, (f3 b hb).1.2.2.2.2.2⟩
    obtain ⟨m, hn, _⟩ := I6.loc
    obtain ⟨a0, a1, a2, a3, a4, a5⟩ := Inv.fpOk I3 (Nat.le_refl _) I6.free
    exact ⟨m, hn, fun h' sb => ⟨.ref D, H5, Inv.turned I7 (fun b o hb e => (sb.2 b hb).trans e) a0 a1 a3 a4 a5, rfl, q6⟩⟩
/-- [e for a in xs for b in ys for c in zs] -/
theorem pe_lc3 {X : Cx} {elt tg iter tg1 iter1 tg2 iter2 : Expr} {ifs ifs1 ifs2 : List Expr} {scope : Scope} {own : List (Str × Nat)} {vs1 vs2 : List Nat} {pos : Pos} {wi wi1 wi2 : TI} {g g1 g2 : TG} {tt tt1 tt2 : TT} {te : TE}
    (hc : X.calm = true) (hN : X.N.Nodup) (hi : PI X tg iter wi) (ok : BlkOk X.N X.env.scope scope own) (hv1 : ∀ i ∈ vs1, i ∈ List.map (fun x : Str × Nat => x.2) own) (hv2 : ∀ i ∈ vs2, i ∈ vs1)
    (hg : ∀ (s : Shared) (H : Hp) (C : Addr) (cl : List (Str × Addr)) (fp : List Addr), PG (X.blk s H scope (compEnvC scope cl C X.env) fp) tg g)
    (ht : ∀ (s : Shared) (H : Hp) (C : Addr) (cl : List (Str × Addr)) (fp : List Addr), PTs (X.blk s H scope (compEnvC scope cl C X.env) fp) ifs tt)
    (hi1 : ∀ (s : Shared) (H : Hp) (C : Addr) (cl : List (Str × Addr)) (fp : List Addr), PI (X.blk s H scope (compEnvC scope cl C X.env) fp) tg1 iter1 wi1)
    (hg1 : ∀ (s : Shared) (H : Hp) (C : Addr) (cl : List (Str × Addr)) (fp : List Addr), PG (X.blk s H scope (compEnvC scope cl C X.env) fp) tg1 g1)
    (ht1 : ∀ (s : Shared) (H : Hp) (C : Addr) (cl : List (Str × Addr)) (fp : List Addr), PTs (X.blk s H scope (compEnvC scope cl C X.env) fp) ifs1 tt1)
    (hi2 : ∀ (s : Shared) (H : Hp) (C : Addr) (cl : List (Str × Addr)) (fp : List Addr), PI (X.blk s H scope (compEnvC scope cl C X.env) fp) tg2 iter2 wi2)
    (hg2 : ∀ (s : Shared) (H : Hp) (C : Addr) (cl : List (Str × Addr)) (fp : List Addr), PG (X.blk s H scope (compEnvC scope cl C X.env) fp) tg2 g2)
    (ht2 : ∀ (s : Shared) (H : Hp) (C : Addr) (cl : List (Str × Addr)) (fp : List Addr), PTs (X.blk s H scope (compEnvC scope cl C X.env) fp) ifs2 tt2)
    (he : ∀ (s : Shared) (H : Hp) (C : Addr) (cl : List (Str × Addr)) (fp : List Addr), PE (X.blk s H scope (compEnvC scope cl C X.env) fp) elt te)
    (hs : ∀ x, foldedSetIterable iter X.env x = pure x := by intro _; rfl) (hs1 : ∀ env x, foldedSetIterable iter1 env x = pure x := by intro _ _; rfl) (hs2 : ∀ env x, foldedSetIterable iter2 env x = pure x := by intro _ _; rfl) :
    PE X (.ListComp elt [⟨tg, iter, ifs, 0⟩, ⟨tg1, iter1, ifs1, 0⟩, ⟨tg2, iter2, ifs2, 0⟩] scope pos) (tLcG wi g tt (fun D => tIn wi1 g1 tt1 vs1 (tIn wi2 g2 tt2 vs2 (tEm te D))) (own.map (·.2))) := by
  refine pe_lcG (em := fun acc env => emI (.ListComp elt [⟨tg, iter, ifs, 0⟩, ⟨tg1, iter1, ifs1, 0⟩, ⟨tg2, iter2, ifs2, 0⟩] scope pos) 1 iter1 acc env) hc hN hi ok hg ht (fun s H C cl fp D => ?_) (fun _ _ _ => rfl) hs
  refine runs_in (Y := X.blk s H scope (compEnvC scope cl C X.env) fp) (gc := ⟨tg1, iter1, ifs1, 0⟩) hc rfl hv1 (hi1 s H C cl fp) (hg1 s H C cl fp) (ht1 s H C cl fp) (em := fun k => emI (.ListComp elt [⟨tg, iter, ifs, 0⟩, ⟨tg1, iter1, ifs1, 0⟩, ⟨tg2, iter2, ifs2, 0⟩] scope pos) 2 iter2 (.ref D) (compEnvC scope cl C X.env) k) ?_ (hs1 _) (fun _ => rfl) (fun _ => rfl) (fun _ => rfl) (fun _ => rfl) (fun _ => rfl) rfl rfl (fun _ => rfl)
  refine runs_in (Y := X.blk s H scope (compEnvC scope cl C X.env) fp) (gc := ⟨tg2, iter2, ifs2, 0⟩) hc rfl hv2 (hi2 s H C cl fp) (hg2 s H C cl fp) (ht2 s H C cl fp) (em := fun k => emL elt (.ref D) (compEnvC scope cl C X.env) k) ?_ (hs2 _) (fun _ => rfl) (fun _ => rfl) (fun _ => rfl) (fun _ => rfl) (fun _ => rfl) rfl rfl (fun _ => rfl)
  exact runs_app rfl vs2 (he s H C cl fp)
/-- [e for a in xs for b in ys] -/
theorem pe_lcD {X : Cx} {elt tg iter tg1 iter1 : Expr} {ifs ifs1 : List Expr} {scope : Scope} {own : List (Str × Nat)} {vs1 : List Nat} {pos : Pos} {wi wi1 : TI} {g g1 : TG} {tt tt1 : TT} {te : TE}
    (hc : X.calm = true) (hN : X.N.Nodup) (hi : PI X tg iter wi) (ok : BlkOk X.N X.env.scope scope own) (hv1 : ∀ i ∈ vs1, i ∈ List.map (fun x : Str × Nat => x.2) own)
    (hg : ∀ (s : Shared) (H : Hp) (C : Addr) (cl : List (Str × Addr)) (fp : List Addr), PG (X.blk s H scope (compEnvC scope cl C X.env) fp) tg g)
    (ht : ∀ (s : Shared) (H : Hp) (C : Addr) (cl : List (Str × Addr)) (fp : List Addr), PTs (X.blk s H scope (compEnvC scope cl C X.env) fp) ifs tt)
    (hi1 : ∀ (s : Shared) (H : Hp) (C : Addr) (cl : List (Str × Addr)) (fp : List Addr), PI (X.blk s H scope (compEnvC scope cl C X.env) fp) tg1 iter1 wi1)
    (hg1 : ∀ (s : Shared) (H : Hp) (C : Addr) (cl : List (Str × Addr)) (fp : List Addr), PG (X.blk s H scope (compEnvC scope cl C X.env) fp) tg1 g1)
    (ht1 : ∀ (s : Shared) (H : Hp) (C : Addr) (cl : List (Str × Addr)) (fp : List Addr), PTs (X.blk s H scope (compEnvC scope cl C X.env) fp) ifs1 tt1)
    (he : ∀ (s : Shared) (H : Hp) (C : Addr) (cl : List (Str × Addr)) (fp : List Addr), PE (X.blk s H scope (compEnvC scope cl C X.env) fp) elt te)
    (hs : ∀ x, foldedSetIterable iter X.env x = pure x := by intro _; rfl) (hs1 : ∀ env x, foldedSetIterable iter1 env x = pure x := by intro _ _; rfl) :
    PE X (.ListComp elt [⟨tg, iter, ifs, 0⟩, ⟨tg1, iter1, ifs1, 0⟩] scope pos) (tLcG wi g tt (fun D => tIn wi1 g1 tt1 vs1 (tEm te D)) (own.map (·.2))) := by
  refine pe_lcG (em := fun acc env => emI (.ListComp elt [⟨tg, iter, ifs, 0⟩, ⟨tg1, iter1, ifs1, 0⟩] scope pos) 1 iter1 acc env) hc hN hi ok hg ht (fun s H C cl fp D => ?_) (fun _ _ _ => rfl) hs
  refine runs_in (Y := X.blk s H scope (compEnvC scope cl C X.env) fp) (gc := ⟨tg1, iter1, ifs1, 0⟩) hc rfl hv1 (hi1 s H C cl fp) (hg1 s H C cl fp) (ht1 s H C cl fp) (em := fun k => emL elt (.ref D) (compEnvC scope cl C X.env) k) ?_ (hs1 _) (fun _ => rfl) (fun _ => rfl) (fun _ => rfl) (fun _ => rfl) (fun _ => rfl) rfl rfl (fun _ => rfl)
  exact runs_app rfl vs1 (he s H C cl fp)
theorem pi_tupK {X : Cx} {tg l : Expr} {tl : TE} {K : PySem.W.Frag} (hk : X.K = K) (h : PE X l tl) : PI X tg l (iTup K tl) := by
  subst hk
  exact pi_tup h
/-! ### readings -/
theorem turns_range {lo : Int} {n : Nat} {g : TG} {tt : TT} {vs : List Nat} {EM : EMT} {σ : L2.St} {H0 : Hp} {Qe : Hp → Prop} (Z : Nat → Hp → Prop) (z0 : Z 0 H0)
    (step : ∀ (i : Nat) (H : Hp), i < n → Z i H → g (.int (lo + (i : Int))) (wipe σ vs) H fun σ2 H2 => wipe σ2 vs = wipe σ vs ∧ tt σ2 H2 fun b H3 => if b = true then EM σ2 H3 (Z (i + 1)) else Z (i + 1) H3)
    (done : ∀ H, Z n H → Qe H) : ∃ W, (∃ m, W 0 m H0) ∧ tTurns (Itr lo n) g tt vs EM σ Qe W := by
  refine ⟨fun i m H => i ≤ n ∧ m = n - i ∧ Z i H, ⟨n, Nat.zero_le _, rfl, z0⟩, ?_⟩
  rintro i m H ⟨le, rfl, z⟩
  by_cases e : i = n
  · exact .inl ⟨Nat.le_of_eq e.symm, done H (e ▸ z)⟩
  · have lt : i < n := by omega
    refine .inr ⟨lt, Z (i + 1), fun H' z' => ⟨n - (i + 1), by omega, by omega, rfl, z'⟩, ?_⟩
    rintro x H' ⟨rfl, rfl⟩
    exact step i H' lt z
theorem turns_list {K : PySem.W.Frag} {a : Addr} {xs : List V} {g : TG} {tt : TT} {vs : List Nat} {EM : EMT} {σ : L2.St} {H0 : Hp} {Qe : Hp → Prop} (Z : Nat → Hp → Prop) (z0 : Z 0 H0) (keep : ∀ (i : Nat) (H : Hp), i ≤ xs.length → Z i H → SqL K H a xs)
    (step : ∀ (i : Nat) (x : V) (H : Hp), xs[i]? = some x → Z i H → g x (wipe σ vs) H fun σ2 H2 => wipe σ2 vs = wipe σ vs ∧ tt σ2 H2 fun b H3 => if b = true then EM σ2 H3 (Z (i + 1)) else Z (i + 1) H3)
    (done : ∀ H, Z xs.length H → Qe H) : ∃ W, (∃ m, W 0 m H0) ∧ tTurns (Itl K a) g tt vs EM σ Qe W := by
  refine ⟨fun i m H => i ≤ xs.length ∧ m = xs.length - i ∧ Z i H, ⟨_, Nat.zero_le _, rfl, z0⟩, ?_⟩
  rintro i m H ⟨le, rfl, z⟩
  by_cases e : i = xs.length
  · exact .inl ⟨⟨xs, keep i H le z, Nat.le_of_eq e.symm⟩, done H (e ▸ z)⟩
  · have lt : i < xs.length := by omega
    refine .inr ⟨⟨xs, xs[i], keep i H le z, List.getElem?_eq_getElem lt⟩, Z (i + 1), fun H' z' => ⟨xs.length - (i + 1), by omega, by omega, rfl, z'⟩, ?_⟩
    rintro x H' ⟨rfl, hx⟩
    exact step i x H' (hx xs (keep i H' le z)) z
theorem turns_tup {K : PySem.W.Frag} {a : Addr} {xs : List V} {g : TG} {tt : TT} {vs : List Nat} {EM : EMT} {σ : L2.St} {H0 : Hp} {Qe : Hp → Prop} (Z : Nat → Hp → Prop) (z0 : Z 0 H0) (keep : ∀ (i : Nat) (H : Hp), i ≤ xs.length → Z i H → SqT K H a xs)
    (step : ∀ (i : Nat) (x : V) (H : Hp), xs[i]? = some x → Z i H → g x (wipe σ vs) H fun σ2 H2 => wipe σ2 vs = wipe σ vs ∧ tt σ2 H2 fun b H3 => if b = true then EM σ2 H3 (Z (i + 1)) else Z (i + 1) H3)
    (done : ∀ H, Z xs.length H → Qe H) : ∃ W, (∃ m, W 0 m H0) ∧ tTurns (Itt K a) g tt vs EM σ Qe W := by
  refine ⟨fun i m H => i ≤ xs.length ∧ m = xs.length - i ∧ Z i H, ⟨_, Nat.zero_le _, rfl, z0⟩, ?_⟩
  rintro i m H ⟨le, rfl, z⟩
  by_cases e : i = xs.length
  · exact .inl ⟨⟨xs, keep i H le z, Nat.le_of_eq e.symm⟩, done H (e ▸ z)⟩
  · have lt : i < xs.length := by omega
    refine .inr ⟨⟨xs, xs[i], keep i H le z, List.getElem?_eq_getElem lt⟩, Z (i + 1), fun H' z' => ⟨xs.length - (i + 1), by omega, by omega, rfl, z'⟩, ?_⟩
    rintro x H' ⟨rfl, hx⟩
    exact step i x H' (hx xs (keep i H' le z)) z
end Vx
namespace Vx
open PySem PySem.Spec PyProof.Rows L2
/-! ### the values of a dict whose keys are tuples -/
def ItvT (d : Addr) (o : Obj) (kvs : List (List L2.Key × V)) : It where
  go i H := H d = some (.frz o (.dT kvs)) ∧ i < kvs.length
  yld i H x H' := H' = H ∧ ∃ k, kvs[i]? = some (k, x)
  stop i H := H d = some (.frz o (.dT kvs)) ∧ kvs.length ≤ i
section
variable {P : Program} {w : World} {K : PySem.W.Frag} {d : Addr} {o : Obj} {es : Array DictEntry} {ep : Nat} {tg : Expr}
theorem turn_valsT {kvs : List (List L2.Key × V)} (it : Addr) (hod : o.data = .dict es ep) : Turn P w K tg (ItvT d o kvs) [it] it (fun i h => h.IsValIter it d i kvs.length ep) where
  mem := List.mem_singleton.mpr rfl
  obj := fun i h st b hb => by
    obtain ⟨oi, e, _, dd⟩ := st
    rw [List.mem_singleton.mp hb]
    exact ⟨oi, e, fun v z => by rw [dd] at z; cases z⟩
  keep := fun i h h' st k => by
    obtain ⟨oi, e, r⟩ := st
    exact ⟨oi, k it (List.mem_singleton.mpr rfl) _ e, r⟩
  item := by
    intro X hP hw hK hc i pins s σ H E I hf st hg
    subst hP hw hK
    obtain ⟨hd, hi⟩ := hg
    obtain ⟨f0, f1, f2, f3, f4, f5⟩ := hf it (List.mem_singleton.mpr rfl)
    obtain ⟨hs, hgd, hx, es', ep', hdt, hsz, ent⟩ := frzT2 I hd
    obtain ⟨rfl, rfl⟩ := dict_ep hod hdt
    obtain ⟨⟨k, v⟩, hkv⟩ : ∃ p, kvs[i]? = some p := ⟨kvs[i], List.getElem?_eq_getElem hi⟩
    obtain ⟨en, q, hen, hkey, hq, rv⟩ := ent i k v hkv
    have hi' : i < es'.size := by
      rw [hsz]
      exact hi
    have een : es'[i] = en := by
      rw [Array.getElem?_eq_getElem hi'] at hen
      exact Option.some.inj hen
    rw [← hsz] at st
    refine PySem.wpAny_pyNext_values_item_raw st ⟨o, hgd, hx, hdt⟩ hi' fun h' st' sb => ?_
    rw [een]
    have I1 : Inv X pins σ H { s with heap := h' } := I.turned (t' := s.toks) (fun b ob hb e => (sb.2 b hb).trans e) f0 f1 f3 f4 f5
    obtain ⟨oi, e, c, dd⟩ := id st'
    refine ⟨en.val, rfl, go_of (s := { s with heap := h' }) e c dd (by decide) ⟨v, H, I1, rv, ⟨rfl, k, hkv⟩, ?_, fun b hb => (hf b hb).1⟩⟩
    show h'.IsValIter it d (i + 1) kvs.length _
    rw [← hsz]
    exact st'
  done := by
    intro X hP hw hK hc i pins s σ H E I hf st hg
    subst hP hw hK
    obtain ⟨hd, hi⟩ := hg
    obtain ⟨f0, f1, f2, f3, f4, f5⟩ := hf it (List.mem_singleton.mpr rfl)
    obtain ⟨hs, hgd, hx, es', ep', hdt, hsz, ent⟩ := frzT2 I hd
    obtain ⟨rfl, rfl⟩ := dict_ep hod hdt
    rw [← hsz] at st
    exact PySem.wpAny_pyNext_values_end_raw (I.ok.hd hc) st ⟨o, hgd, hx, hdt⟩ (by omega) fun h' eb => ⟨rfl, I.turned (t' := s.toks) (fun b ob hb e => eb b ob hb e) f0 f1 f3 f4 f5⟩
  self := fun A i s Q E st h => wpAny_pyIter_valiter st h
end
def iValsT (td : TE) : TI := fun σ H R => td σ H fun x H1 => ∃ d o kvs, x = .ref d ∧ H1 d = some (.frz o (.dT kvs)) ∧ R (ItvT d o kvs) H1
theorem pi_valuesT {X : Cx} {tg e : Expr} {td : TE} {apos cpos : Pos} (he : PE X e td) (hbase : attributeBase e "values" X.env (eval e X.env) = eval e X.env := by rfl) (hline : (apos.endLine == cpos.line) = true := by rfl) :
    PI X tg (.Call (.Attribute e "values" apos) [] [] cpos) (iValsT td) := by
  refine ⟨fun pins s σ H R I h => ?_⟩
  refine wpAny_Call_method (T := "dict") (id := "dict.values") hbase rfl hline F.plainAttrs_dict F.slot_dict_values F.type_dict_values (thn (he.run pins s σ H _ I h) fun u s1 ⟨x, H1, I1, rx, d, o, kvs, ex, hd, q⟩ => ?_)
  subst ex
  obtain rfl : u = Value.ref d := rx
  obtain ⟨hs, hgd, hx, es, ep, hdt, hsz, ent⟩ := frzT2 I1 hd
  have raw : DT.Raw s1.heap d es ep := ⟨o, hgd, hx, hdt⟩
  have raw2 : s1.heap.DictRaw d es ep := ⟨o, hgd, hx, hdt⟩
  refine ⟨raw.typeIs, (fun a ea => by cases ea; exact ⟨o, hgd, hx.2.1⟩), ?_⟩
  have I2 : Inv X pins σ H1 { s1 with heap := s1.heap.push { cls := .type "dict_values", data := .fields #[.ref d] } } := I1.kept (t' := s1.toks) fun b ob q => Heap.get?_push_of_some _ q
  have fin : wpAny (model X.prog X.w) X.A (pyIter (.ref s1.heap.objs.size)) (PIE X pins σ tg R) X.xe { s1 with heap := s1.heap.push { cls := .type "dict_values", data := .fields #[.ref d] } } := by
    refine PySem.wpAny_pyIter_values_raw (d := d) (es := es) (ep := ep) ⟨_, Heap.get?_push_size _ rfl, rfl, rfl⟩ ⟨o, Heap.get?_push_of_some _ hgd, hx, hdt⟩ (pi_one (tk := s1.toks) I2 _ (turn_valsT _ hdt) ⟨_, Heap.get?_push_size _ rfl, rfl, ?_⟩ q)
    rw [hsz] <;> rfl
  show wpAny _ _ (callWith cpos (.builtin "dict.values") [.ref d] [] []) _ X.xe s1
  exact method_meetsIn F.slot_dict_values F.entry_dict_values rfl (PySem.evalArgs_none ⟨rfl, raw.typeIs, F.args_dict_values_1 _, _, PySem.meets_dict_values_raw d hs, ⟨⟨es, ep, raw2⟩, fin⟩⟩)
theorem walk_valuesT {d : Addr} {o : Obj} {kvs : List (List L2.Key × V)} : Walk (ItvT d o kvs) kvs.length (fun H => H d = some (.frz o (.dT kvs))) (fun i H x H' => H' = H ∧ ∃ k, kvs[i]? = some (k, x)) :=
  ⟨fun _ _ hi q => ⟨q, hi⟩, fun _ q => ⟨q, Nat.le_refl _⟩, fun _ _ _ _ _ _ y => y⟩
/-! ### a field, and a join, within a comprehension -/
theorem pe_fldK {X : Cx} {K : PySem.W.Frag} {e : Expr} {f : Str} {pos : Pos} {ta : TE} (hk : X.K = K) (he : PE X e ta) (hb : attributeBase e f X.env (eval e X.env) = eval e X.env) : PE X (.Attribute e f pos) (tFld K ta f) := by
  subst hk
  exact pe_fld he hb
def tJoinK (K : PySem.W.Frag) (to te : TE) : TE := tM1 (fun x xs H Q => ∃ a p, ∃ ys : List Str, x = .str a ∧ xs = [.ref p] ∧ (SqL K H p (ys.map V.str) ∨ SqT K H p (ys.map V.str)) ∧
      (ys.map (·.length)).sum + ys.length * a.length ≤ 16777216 ∧ Q (.str (Txt.join a ys)) H) to te
theorem pe_joinK {X : Cx} {K : PySem.W.Frag} {o e : Expr} {to te : TE} {apos pos : Pos} (hk : X.K = K) (ho : PE X o to) (he : PE X e te) (hs : starEach [e] X.env = [(false, eval e X.env)] := by rfl) (hbase : attributeBase o "join" X.env (eval o X.env) = eval o X.env := by rfl) (hline : (apos.endLine == pos.line) = true := by rfl) :
    PE X (.Call (.Attribute o "join" apos) [e] [] pos) (tJoinK K to te) := by
  subst hk
  exact pe_join ho he hs hbase hline
/-! ### a loop of a comprehension with two loops, over a range -/
theorem lc2_range {lo : Int} {n : Nat} {g : TG} {tt : TT} {vs : List Nat} {EM : L2.St → Hp → (Hp → Prop) → Prop} {σ : L2.St} {H0 : Hp} {Qe : Hp → Prop} (Z : Nat → Hp → Prop) (z0 : Z 0 H0)
    (step : ∀ (i : Nat) (H : Hp), i < n → Z i H → g (.int (lo + (i : Int))) (wipe σ vs) H fun σ2 H2 => wipe σ2 vs = wipe σ vs ∧ tt σ2 H2 fun b H3 => if b = true then EM σ2 H3 (Z (i + 1)) else Z (i + 1) H3)
    (done : ∀ H, Z n H → Qe H) : ∃ W : Nat → Nat → Hp → Prop, (∃ m, W 0 m H0) ∧ ∀ i m H, W i m H →
      ((Itr lo n).stop i H ∧ Qe H) ∨ ((Itr lo n).go i H ∧ ∃ Nx : Hp → Prop, (∀ H', Nx H' → ∃ m', m' < m ∧ W (i + 1) m' H') ∧ ∀ x H', (Itr lo n).yld i H x H' → g x (wipe σ vs) H' fun σ2 H2 => wipe σ2 vs = wipe σ vs ∧ tt σ2 H2 fun b H3 =>
        if b = true then EM σ2 H3 Nx else Nx H3) := turns_range Z z0 step done
end Vx
namespace Vx
open PySem PySem.Spec PyProof.Rows L2
/-! ### the least one of some lists of pairs -/
def ltL (a b : List Pr) : Bool := W.dataLt (lp a) (lp b)
theorem toksAll_inj : ∀ (a b : List Pr), W.keyToksAll (a.map pd) = W.keyToksAll (b.map pd) → a = b
  | [], [], _ => rfl
  | [], y :: b, h => by simp [W.keyToksAll] at h
  | x :: a, [], h => by simp [W.keyToksAll] at h
  | x :: a, y :: b, h => by
    obtain ⟨x1, x2⟩ := x
    obtain ⟨y1, y2⟩ := y
    simp [W.keyToksAll, W.keyToks, pd] at h
    obtain ⟨h1, h2, h3⟩ := h
    rw [h1, h2, toksAll_inj a b h3]
theorem lp_inj {a b : List Pr} (h : lp a = lp b) : a = b := by
  have : PyData.eqv (lp a) (lp b) = true := by
    rw [h, eqv_lp]
    exact decide_eq_true rfl
  rw [eqv_lp] at this
  exact of_decide_eq_true this
theorem ltL_irr (a : List Pr) : ltL a a = false := lex_irrefl _
theorem ltL_trans {a b c : List Pr} (h : ltL a b = true) (h2 : ltL b c = true) : ltL a c = true := lex_trans _ _ _ h h2
theorem ltL_neg {a b c : List Pr} (h : ltL a c = true) : ltL a b = true ∨ ltL b c = true := lex_negTrans _ _ _ h
theorem ltL_total {a b : List Pr} (h : ltL a b = false) (h2 : ltL b a = false) : a = b := by
  have e := lex_total _ _ h h2
  exact toksAll_inj a b e
def minL (x : List Pr) (xs : List (List Pr)) : List Pr := xs.foldl (fun a y => if ltL y a then y else a) x
def LeastL (m : List Pr) (xs : List (List Pr)) : Prop := m ∈ xs ∧ ∀ y ∈ xs, ltL y m = false
theorem minL_least : ∀ (xs : List (List Pr)) (x : List Pr), LeastL (minL x xs) (x :: xs)
  | [], x => ⟨List.mem_cons_self, fun y m => by rw [List.mem_singleton.mp m]; exact ltL_irr x⟩
  | y :: xs, x => by
    show LeastL (minL (if ltL y x then y else x) xs) (x :: y :: xs)
    have ih := minL_least xs (if ltL y x then y else x)
    generalize minL (if ltL y x then y else x) xs = m at ih
    obtain ⟨h1, h2⟩ := ih
    by_cases c : ltL y x = true
    · rw [if_pos c] at h1 h2
      refine ⟨List.mem_cons_of_mem _ h1, fun z mz => ?_⟩
      rcases List.mem_cons.mp mz with e | mz
      · rw [e]
        refine Bool.eq_false_iff.mpr fun t => ?_
        have := h2 y List.mem_cons_self
        rw [ltL_trans c t] at this
        cases this
      · exact h2 z mz
    · rw [if_neg c] at h1 h2
      have c := Bool.eq_false_iff.mpr c
      refine ⟨?_, fun z mz => ?_⟩
      · rcases List.mem_cons.mp h1 with e | m1
        · rw [e]
          exact List.mem_cons_self
        · exact List.mem_cons_of_mem _ (List.mem_cons_of_mem _ m1)
      · rcases List.mem_cons.mp mz with e | mz
        · exact h2 z (e ▸ List.mem_cons_self)
        · rcases List.mem_cons.mp mz with e | mz
          · rw [e]
            refine Bool.eq_false_iff.mpr fun t => ?_
            rcases ltL_neg (b := x) t with t | t
            · rw [c] at t
              cases t
            · rw [h2 x List.mem_cons_self] at t
              cases t
          · exact h2 z (List.mem_cons_of_mem _ mz)
theorem LeastL.uniq {a b : List Pr} {xs ys : List (List Pr)} (h : LeastL a xs) (h2 : LeastL b ys) (e : ∀ x, x ∈ xs ↔ x ∈ ys) : a = b :=
  ltL_total (h2.2 a ((e a).mp h.1)) (h.2 b ((e b).mpr h2.1))
theorem minD_lp (x : List Pr) : ∀ xs : List (List Pr), W.minD (lp x) (xs.map lp) = lp (minL x xs) := by
  intro xs
  unfold W.minD minL
  induction xs generalizing x with
  | nil => rfl
  | cons y xs ih =>
    rw [List.map_cons, List.foldl_cons, List.foldl_cons, ← ih]
    congr 1
    show (if ltL y x = true then lp y else lp x) = _
    split <;> rfl
theorem alike_pd (x y : Pr) : W.alike (pd x) (pd y) = true := rfl
theorem alikeAll_pd : ∀ a b : List Pr, W.alikeAll (a.map pd) (b.map pd) = true
  | [], _ => by simp [W.alikeAll]
  | _ :: _, [] => by simp [W.alikeAll]
  | x :: a, y :: b => by
    rw [List.map_cons, List.map_cons, W.alikeAll, alike_pd, alikeAll_pd a b]
    rfl
theorem alike_lp (a b : List Pr) : W.alike (lp a) (lp b) = true := by
  unfold lp
  rw [W.alike]
  exact alikeAll_pd a b
theorem plainAll_pd : ∀ l : List Pr, PyData.plainAll (l.map pd) = true
  | [] => by simp [PyData.plainAll]
  | x :: l => by
    rw [List.map_cons]
    simp [PyData.plainAll, PyData.plain, pd, plainAll_pd l]
theorem plain_lp (l : List Pr) : PyData.plain (lp l) = true := by
  unfold lp
  rw [PyData.plain]
  exact plainAll_pd l
theorem plainAll_lp : ∀ l : List (List Pr), PyData.plainAll (l.map lp) = true
  | [] => by simp [PyData.plainAll]
  | x :: l => by
    rw [List.map_cons, PyData.plainAll, plain_lp, plainAll_lp l]
    rfl
section
variable {X : Cx}
theorem cr_minL (hc : X.calm = true) (hu : X.A.units + 65 < cLine) : CallR X (.builtin "min") (fun xs H Q => ∃ l x xss, xs = [V.ref l] ∧ CellsL H l (x :: xss) ∧ ∀ a, Cells H a (minL x xss) → Q (.ref a) H) := by
  intro pins s σ H xs us Q I r h
  obtain ⟨l, x, xss, rfl, ⟨ts, hl, ht, ets⟩, q⟩ := h
  obtain ⟨its, rv, pl, hz⟩ := I.list (lst_of hl)
  rw [Vals.ref1 r]
  have dpa : DpAll X.K H (ts.map fun t => V.ref t.1) ((x :: xss).map lp) := by
    rw [← ets]
    have go : ∀ us : List (Addr × List Pr), (∀ t ∈ us, Cells H t.1 t.2) → DpAll X.K H (us.map fun t => V.ref t.1) ((us.map (·.2)).map lp) := fun us => by
      induction us with
      | nil => exact fun _ => .nil
      | cons t us ih => exact fun h => .cons (dp_cells (h t List.mem_cons_self)) (ih fun u m => h u (List.mem_cons_of_mem _ m))
    exact go ts ht
  obtain ⟨as, hr⟩ := Dp.readsAll I _ _ its dpa rv
  have dep := depAll_lp (x :: xss)
  have er : its = ts.map fun t => Value.ref t.1 := by
    have go : ∀ (us : List (Addr × List Pr)) (vs : List Value), Vals (us.map fun t => V.ref t.1) vs → vs = us.map fun t => Value.ref t.1 := fun us => by
      induction us with
      | nil => intro vs h; cases h; rfl
      | cons u us ih =>
        intro vs h
        cases h with
        | cons r1 r2 =>
          cases r1
          rw [ih _ r2]
          rfl
    exact go ts its rv
  refine W.min_list_data (x := lp x) (xs := xss.map lp) (I.ok.hd hc) pl.isList hr ⟨fun a ma b mb => ?_, fun a ma => ?_⟩ (by rw [← List.map_cons]; omega) fun i v h' tk bs hv rd k => ?_
  · obtain ⟨a, _, rfl⟩ := List.mem_map.mp (show a ∈ (x :: xss).map lp from ma)
    obtain ⟨b, _, rfl⟩ := List.mem_map.mp (show b ∈ (x :: xss).map lp from mb)
    exact alike_lp a b
  · obtain ⟨a, _, rfl⟩ := List.mem_map.mp (show a ∈ (x :: xss).map lp from ma)
    intro z
    cases z
  · rw [minD_lp] at rd
    have hv' : its[i]? = some v := by simpa using hv
    rw [er, List.getElem?_map] at hv'
    obtain ⟨t, et, rfl⟩ := Option.map_eq_some_iff.mp hv'
    have mt := List.mem_of_getElem? et
    obtain ⟨as2, r2⟩ := Dp.reads I (lp t.2) (.ref t.1) (.ref t.1) (dp_cells (ht t mt)) rfl
    have e := W.alike_unique _ _ _ _ _ (alike_lp _ _) rd (Reads.keeps k r2)
    refine ⟨.ref t.1, H, I.kept k, rfl, q t.1 ?_⟩
    rw [lp_inj e]
    exact ht t mt
theorem count_lp (p : List Pr) : ∀ pss : List (List Pr), (pss.map lp).countP (fun y => PyData.eqv y (lp p)) = pss.count p
  | [] => rfl
  | x :: pss => by
    rw [List.map_cons, List.countP_cons, List.count_cons, count_lp p pss, eqv_lp]
    by_cases e : x = p
    · simp [e]
    · simp [e]
theorem mt_countL (hu : X.A.units + 65 < cLine) : MtR X "list.count" (fun x xs H Q => ∃ (a t : Addr) (p : List Pr) (pss : List (List Pr)), x = .ref a ∧ xs = [.ref t] ∧ Cells H t p ∧ CellsL H a pss ∧ Q (.int (pss.count p : Nat)) H) := by
  intro pins s σ H x xs v us Q I rx rxs h
  obtain ⟨a, t, p, pss, rfl, rfl, hp, hl, q⟩ := h
  cases rx
  obtain ⟨u, rfl, ru⟩ := rxs.one
  obtain ⟨as, r1⟩ := Dp.reads I (lp p) (.ref t) u (dp_cells hp) ru
  have dl := dp_cellsL (K := X.K) hl
  have dep := depAll_lp pss
  cases dl with
  | lst hs ha =>
    obtain ⟨its, rv, pl, hz⟩ := I.list hs
    obtain ⟨bs, hr⟩ := Dp.readsAll I _ _ its ha rv
    refine SeqAt.count_list_data pl.isList hr r1 (plainAll_lp pss) (plain_lp p) (by have := Nat.min_le_left (PyData.depthAll (pss.map lp)) (lp p).depth; omega) ?_
    rw [count_lp]
    exact ⟨.int (pss.count p : Nat), H, I.tok _, ⟨_, rfl⟩, q⟩
end
theorem ix_listK {X : Cx} {K : PySem.W.Frag} (hK : X.K = K) : IxR X (rIxL K) := by
  subst hK
  exact ix_list
theorem op_eqDK {X : Cx} {K : PySem.W.Frag} (hK : X.K = K) (hu : X.A.units + 64 < cLine) : OpR X (compareOp .Eq) (rEqD K) := by
  subst hK
  exact op_eqD hu
/-- a comprehension over such a list, a new list of pairs for each -/
theorem lc_lists {K : PySem.W.Frag} {l : Addr} {pss : List (List Pr)} {g : TG} {tt : TT} {te : TE} {vs : List Nat} {σ : L2.St} {H1 : Hp} {D : Addr} {Qd : Hp → Prop} (f : List Pr → List Pr) (hC : CellsL H1 l pss) (nD : H1 D = none) (few : pss.length < sizeLine)
    (hs : ∀ (t : Addr) (ps : List Pr) (H' : Hp) (Po : V → Hp → Prop) (Pn : Hp → Prop), ps ∈ pss → Same H1 H' → Cells H' t ps → (∀ H2 t2, Same H' H2 → H' t2 = none → Cells H2 t2 (f ps) → Po (.ref t2) H2) →
      g (.ref t) (wipe σ vs) H' fun σ2 H2 => wipe σ2 vs = wipe σ vs ∧ tt σ2 H2 fun b H3 => if b = true then te σ2 H3 Po else Pn H3)
    (hd : ∀ H', Same H1 H' → CellsL H' D (pss.map f) → Qd H') :
    ∃ W : Nat → Nat → Hp → Prop, (∃ m, W 0 m (upd H1 D (.lst []))) ∧ ∀ i m H, W i m H →
      ((Itl K l).stop i H ∧ Qd H) ∨ ((Itl K l).go i H ∧ ∃ Nx : Hp → Prop, (∀ H', Nx H' → ∃ m', m' < m ∧ W (i + 1) m' H') ∧ ∀ x H', (Itl K l).yld i H x H' → g x (wipe σ vs) H' fun σ2 H2 => wipe σ2 vs = wipe σ vs ∧ tt σ2 H2 fun b H3 =>
        if b = true then te σ2 H3 fun y H4 => ∃ acc, H4 D = some (.lst acc) ∧ acc.length < sizeLine ∧ Nx (upd H4 D (.lst (acc ++ [y]))) else Nx H3) := by
  obtain ⟨ts, hl, ht, rfl⟩ := hC
  rw [List.length_map] at few
  refine lc_list (K := K) (a := l) (xs := ts.map fun t => V.ref t.1) (fun i H' => Same H1 H' ∧ ∃ us : List (Addr × List Pr), H' D = some (.lst (us.map fun t => V.ref t.1)) ∧ (∀ t ∈ us, t.1 ≠ D ∧ Cells H' t.1 t.2) ∧ us.map (·.2) = ((ts.map (·.2)).take i).map f)
    ⟨newS nD, [], upd_same, fun _ m => (by cases m), rfl⟩ (fun i H' _ p => lst_of (p.1 _ _ hl)) ?_ ?_
  · rintro i x H' hi ⟨sm, us, h1, h2, h3⟩
    rw [List.getElem?_map] at hi
    obtain ⟨t, et, rfl⟩ := Option.map_eq_some_iff.mp hi
    have mt := List.mem_of_getElem? et
    have ei : (ts.map (·.2))[i]? = some t.2 := by rw [List.getElem?_map, et]; rfl
    have li := (List.getElem?_eq_some_iff.mp et).1
    have ul : us.length = i := by
      have z := congrArg List.length h3
      rw [List.length_map, List.length_map, List.length_take, List.length_map] at z
      omega
    refine hs t.1 t.2 H' _ _ (List.mem_map.mpr ⟨t, mt, rfl⟩) sm ((ht t mt).up sm) fun H2 t2 e2 n2 hc => ⟨us.map fun t => V.ref t.1, e2 _ _ h1, by rw [List.length_map]; omega, mutS (sm.trans e2) nD, us ++ [(t2, f t.2)], ?_, ?_, ?_⟩
    · rw [upd_same, List.map_append]
      rfl
    · have nD2 : t2 ≠ D := fun e => by
        rw [e, h1] at n2
        cases n2
      have nt : ∀ xs, H2 D ≠ some (.tup xs) := fun xs e => by
        rw [e2 _ _ h1] at e
        cases e
      intro u m
      rcases List.mem_append.mp m with m | m
      · exact ⟨(h2 u m).1, ((h2 u m).2.up e2).mut (h2 u m).1 nt⟩
      · rw [List.mem_singleton.mp m]
        exact ⟨nD2, hc.mut nD2 nt⟩
    · rw [List.map_append, h3, take_next ei, List.map_append]
      rfl
  · rintro H' ⟨sm, us, h1, h2, h3⟩
    refine hd H' sm ⟨us, h1, fun t m => (h2 t m).2, ?_⟩
    rw [h3, List.length_map, List.take_of_length_le (by rw [List.length_map]; exact Nat.le_refl _)]
end Vx
namespace PySem
open Sem (wp)
section
variable {prog : Program} {w : World} {K : Type} [DecidableEq K] {knd : HeapKind prog w K} {A : Around} {E : Value → Shared → Prop} {s : Shared}
theorem wpAny_truthy_dictH {d : Addr} {xs : List (K × Addr × Value)} {Q : Bool → Shared → Prop} (hd : (d == sysModules) = false) (hm : s.heap.DictOfH knd d xs) (hfit : (xs.length : Int) < 2 ^ 63)
    (h : Q (!xs.isEmpty) { s with toks := s.toks + 1 + 1 }) : wpAny (model prog w) A (truthy (.ref d)) Q E s := by
  have hne : ((xs.length : Int) != 0) = !xs.isEmpty := by cases xs <;> simp <;> omega
  have key : wpAny (model prog w) A (runValue (.builtin "len" ⟨[.ref d], []⟩)) (fun r s' => r = .int xs.length (s.toks + 1) ∧ Q (!xs.isEmpty) s') E s := by
    refine wpAny_runValue (codeAny_builtin entry_len ?_)
    rw [Around.under_plainId plain_len _]
    exact wpAny_mono (wpAny_len_body_dictH (Q := fun r s' => r = .int xs.length (s.toks + 1) ∧ Q (!xs.isEmpty) s') hd hm hfit ⟨rfl, h⟩)
      (fun fin s' h' => by obtain ⟨r, rfl, hq⟩ := h'; exact hq) fun _ _ e => e
  unfold truthy
  first
    | refine wpAny_bind (wpAny_callSpecial?_none (name := Str.ofString "__bool__") hm.typeIs noBool_dict ?_)
    | refine wpAny_bind (wpAny_pure (wpAny_bind (wpAny_callSpecial?_none (name := Str.ofString "__bool__") hm.typeIs noBool_dict ?_)))
  first
    | refine wpAny_bind (wpAny_specialOf (name := Str.ofString "__len__") hm.typeIs F.slot_dict_len.lookup ?_)
    | refine wpAny_bind (wpAny_pure (wpAny_bind (wpAny_specialOf (name := Str.ofString "__len__") hm.typeIs F.slot_dict_len.lookup ?_)))
  first
    | exact wpAny_bind (wpAny_mono key (fun r s' h' => by obtain ⟨rfl, hq⟩ := h'; exact wpAny_pure (hne ▸ hq)) fun _ _ e => e)
    | exact wpAny_bind (wpAny_pure (wpAny_bind (wpAny_mono key (fun r s' h' => by obtain ⟨rfl, hq⟩ := h'; exact wpAny_pure (hne ▸ hq)) fun _ _ e => e)))
end
end PySem
namespace Vx
open PySem PySem.Spec PyProof.Rows L2
theorem gName_go {i : Nat} {v : V} {σ : L2.St} {H : Hp} {Q : L2.St → Hp → Prop} (h : Q (σ.set i (some v)) H) : gName i v σ H Q := h
/-! ### min, max with a default, of ints -/
theorem foldl_min_mem : ∀ (ns : List Int) (n : Int), ns.foldl min n ∈ n :: ns ∧ ∀ y ∈ n :: ns, ns.foldl min n ≤ y
  | [], n => ⟨List.mem_cons_self, fun y m => by rw [List.mem_singleton.mp m]; exact Int.le_refl n⟩
  | k :: ns, n => by
    obtain ⟨h1, h2⟩ := foldl_min_mem ns (min n k)
    show ns.foldl min (min n k) ∈ _ ∧ ∀ y ∈ _, ns.foldl min (min n k) ≤ y
    have h0 := h2 _ List.mem_cons_self
    refine ⟨?_, fun y m => ?_⟩
    · rcases List.mem_cons.mp h1 with e | m
      · rw [e]
        rcases Int.le_total n k with c | c
        · rw [Int.min_eq_left c]; exact List.mem_cons_self
        · rw [Int.min_eq_right c]; exact List.mem_cons_of_mem _ List.mem_cons_self
      · exact List.mem_cons_of_mem _ (List.mem_cons_of_mem _ m)
    · rcases List.mem_cons.mp m with e | m
      · rw [e]; exact Int.le_trans h0 (Int.min_le_left _ _)
      · rcases List.mem_cons.mp m with e | m
        · rw [e]; exact Int.le_trans h0 (Int.min_le_right _ _)
        · exact h2 y (List.mem_cons_of_mem _ m)
theorem foldl_max_mem : ∀ (ns : List Int) (n : Int), ns.foldl max n ∈ n :: ns ∧ ∀ y ∈ n :: ns, y ≤ ns.foldl max n
  | [], n => ⟨List.mem_cons_self, fun y m => by rw [List.mem_singleton.mp m]; exact Int.le_refl n⟩
  | k :: ns, n => by
    obtain ⟨h1, h2⟩ := foldl_max_mem ns (max n k)
    show ns.foldl max (max n k) ∈ _ ∧ ∀ y ∈ _, y ≤ ns.foldl max (max n k)
    have h0 := h2 _ List.mem_cons_self
    refine ⟨?_, fun y m => ?_⟩
    · rcases List.mem_cons.mp h1 with e | m
      · rw [e]
        rcases Int.le_total n k with c | c
        · rw [Int.max_eq_right c]; exact List.mem_cons_of_mem _ List.mem_cons_self
        · rw [Int.max_eq_left c]; exact List.mem_cons_self
      · exact List.mem_cons_of_mem _ (List.mem_cons_of_mem _ m)
    · rcases List.mem_cons.mp m with e | m
      · rw [e]; exact Int.le_trans (Int.le_max_left _ _) h0
      · rcases List.mem_cons.mp m with e | m
        · rw [e]; exact Int.le_trans (Int.le_max_right _ _) h0
        · exact h2 y (List.mem_cons_of_mem _ m)
theorem alike_ints (ns : List Int) : W.AlikeAll (ns.map PyData.int) := ⟨fun a ma b mb => by
    obtain ⟨x, _, rfl⟩ := List.mem_map.mp ma
    obtain ⟨y, _, rfl⟩ := List.mem_map.mp mb
    simp [W.alike], fun a ma => by
    obtain ⟨x, _, rfl⟩ := List.mem_map.mp ma
    intro z
    cases z⟩
section
variable {X : Cx}
def rDflt (K : PySem.W.Frag) (le : Int → Int → Prop) : List V → List V → Hp → VK → Prop := fun vs zs H Q => ∃ (a : Addr) (ns : List Int) (d : V), vs = [V.ref a] ∧ zs = [d] ∧ SqL K H a (ns.map V.int) ∧ (ns = [] → Q d H) ∧ ∀ m, m ∈ ns → (∀ y ∈ ns, le m y) → Q (.int m) H
theorem cr_minD (hc : X.calm = true) (hu : X.A.units + 2 < cLine) : CallRK X (.builtin "min") [Str.ofString "default"] (rDflt X.K (fun m y => m ≤ y)) := by
  intro pins s σ H vs zs us ws Q I r rz h
  obtain ⟨a, ns, d, rfl, rfl, hs, q0, q⟩ := h
  obtain rfl := Vals.ref1 r
  obtain ⟨w1, rfl, e1⟩ := vals1 rz
  obtain ⟨its, rv, pl, hz⟩ := I.list hs
  obtain ⟨as, hr⟩ := Dp.readsAll I _ _ its (dpAll_ints ns) rv
  refine W.min_list_default (I.ok.hd hc) pl.isList hr (alike_ints ns) (by rw [depAll_ints]; omega) (fun z h' tk k => ?_) fun y ys i v h' tk bs e hv rd k => ?_
  · exact ⟨d, H, I.kept k, e1, q0 (List.map_eq_nil_iff.mp z)⟩
  · cases ns with
    | nil => cases e
    | cons n ns =>
      injection e with e1 e2
      subst e1 e2
      rw [W.minD_ints] at rd
      obtain ⟨h1, h2⟩ := foldl_min_mem ns n
      cases rd
      exact ⟨.int _, H, I.kept k, ⟨_, rfl⟩, q _ h1 h2⟩
theorem cr_maxD (hc : X.calm = true) (hu : X.A.units + 2 < cLine) : CallRK X (.builtin "max") [Str.ofString "default"] (rDflt X.K (fun m y => y ≤ m)) := by
  intro pins s σ H vs zs us ws Q I r rz h
  obtain ⟨a, ns, d, rfl, rfl, hs, q0, q⟩ := h
  obtain rfl := Vals.ref1 r
  obtain ⟨w1, rfl, e1⟩ := vals1 rz
  obtain ⟨its, rv, pl, hz⟩ := I.list hs
  obtain ⟨as, hr⟩ := Dp.readsAll I _ _ its (dpAll_ints ns) rv
  refine W.max_list_default (I.ok.hd hc) pl.isList hr (alike_ints ns) (by rw [depAll_ints]; omega) (fun z h' tk k => ?_) fun y ys i v h' tk bs e hv rd k => ?_
  · exact ⟨d, H, I.kept k, e1, q0 (List.map_eq_nil_iff.mp z)⟩
  · cases ns with
    | nil => cases e
    | cons n ns =>
      injection e with e1 e2
      subst e1 e2
      rw [W.maxD_ints] at rd
      obtain ⟨h1, h2⟩ := foldl_max_mem ns n
      cases rd
      exact ⟨.int _, H, I.kept k, ⟨_, rfl⟩, q _ h1 h2⟩
/-- if d: of a dict with tuple keys -/
theorem pt_truT {a : Expr} {ta : TE} (ha : PE X a ta) (he : ∀ whole, isTrue a X.env whole = (do let v ← whole; standAt a.pos; holding [v] (truthy v))) :
    PT X a (fun σ H Q => ta σ H fun x H' => ∃ (p : Addr) (kvs : List (List L2.Key × V)), x = .ref p ∧ H' p = some (.dT kvs) ∧ Q (!kvs.isEmpty) H') := by
  refine ⟨fun pins s σ H Q I h => ?_⟩
  refine isTrue_plain (thn (ha.run pins s σ H _ I h) fun v s1 ⟨x, H1, I1, r1, q1⟩ => ?_) (he _)
  obtain ⟨p, kvs, rfl, hp, q⟩ := q1
  obtain rfl : v = .ref p := r1
  obtain ⟨z, hd, ys, rel, dd⟩ := dt_of I1.hok hp
  have hl : kvs.length = ys.length := Paired.length rel
  have hi : (!ys.isEmpty) = !kvs.isEmpty := by
    cases ys <;> cases kvs <;> first | rfl | (simp at hl)
  refine PySem.wpAny_truthy_dictH hd dd (by rw [← hl]; rw [sizeLine_eq] at z; omega) ?_
  rw [hi]
  exact ⟨H1, I1.tok _, q⟩
end
/-- the keys of such a dict, a number of each -/
theorem lc_keysN {d : Addr} {od : Obj} {kvs : List (List L2.Key × V)} {ps : List Pr} {vs : List Nat} {σ : L2.St} {H1 : Hp} {D : Addr} {Qd : Hp → Prop} {g : TG} {tt : TT} {te : TE} (f : Pr → Int) (hK : KeysP kvs ps) (hD : H1 d = some (.frz od (.dT kvs))) (nD : H1 D = none) (few : ps.length < sizeLine)
    (hs : ∀ (t : Addr) (x : Pr) (H' : Hp) (Po : V → Hp → Prop) (Pn : Hp → Prop), x ∈ ps → H' t = some (.tup [.int x.1, .int x.2]) → Po (.int (f x)) H' →
      g (.ref t) (wipe σ vs) H' fun σ2 H2 => wipe σ2 vs = wipe σ vs ∧ tt σ2 H2 fun b H3 => if b = true then te σ2 H3 Po else Pn H3)
    (hd : ∀ H', Same H1 H' → H' D = some (.lst ((ps.map f).map V.int)) → Qd H') :
    ∃ W : Nat → Nat → Hp → Prop, (∃ m, W 0 m (upd H1 D (.lst []))) ∧ ∀ i m H, W i m H →
      ((Itkt d od kvs).stop i H ∧ Qd H) ∨ ((Itkt d od kvs).go i H ∧ ∃ Nx : Hp → Prop, (∀ H', Nx H' → ∃ m', m' < m ∧ W (i + 1) m' H') ∧ ∀ x H', (Itkt d od kvs).yld i H x H' → g x (wipe σ vs) H' fun σ2 H2 => wipe σ2 vs = wipe σ vs ∧ tt σ2 H2 fun b H3 =>
        if b = true then te σ2 H3 fun y H4 => ∃ acc, H4 D = some (.lst acc) ∧ acc.length < sizeLine ∧ Nx (upd H4 D (.lst (acc ++ [y]))) else Nx H3) := by
  have len := hK.len
  refine lc_it walk_keysT (fun i H' => Same H1 H' ∧ H' D = some (.lst (((ps.take i).map f).map V.int)))
    ⟨newS nD, upd_same⟩ (fun i H' _ p => p.1 _ _ hD) ?_ ?_
  · rintro i x H' H2 hi ⟨sm, h1⟩ ⟨rfl, k, v, q, e, rfl, hq⟩
    obtain ⟨y, hy, ek⟩ := hK.at e
    rw [ek] at hq
    refine hs q y _ _ _ (List.mem_of_getElem? hy) hq ⟨_, h1, ?_, mutS sm nD, ?_⟩
    · rw [List.length_map, List.length_map, List.length_take]
      omega
    · rw [upd_same, take_next hy, List.map_append, List.map_append]
      rfl
  · rintro H' ⟨sm, h1⟩
    rw [List.take_of_length_le (by omega)] at h1
    exact hd H' sm h1
end Vx
namespace Vx
open PySem PySem.Spec PyProof.Rows L2
/-! ### dict comprehensions with two loops -/
def emD0 (kx vx : Expr) (acc : Value) (env : Env) : Sem Unit := do
  let kv ← eval kx env
  let vv ← holding [kv] (eval vx env)
  match acc with
  | .ref d => do
    standAt { kx.pos with endLine := vx.pos.endLine, endCol := vx.pos.endCol }
    holding [kv, vv] (dictSet d kv vv)
  | _ => unsupported "internal:dictcomp"
def emD (kx vx : Expr) (acc : Value) (env : Env) (k : Unit → Sem PySem.Fin) : Sem PySem.Fin := emD0 kx vx acc env >>= k
def tEmD (tk tv : TE) (D : Addr) : EMT := fun σ H Nx => tk σ H fun y H4 => tv σ H4 fun z H5 => ∃ (kvs : List (List L2.Key × V)) (k : List L2.Key) (b : Addr), y = .ref b ∧ H5 b = some (.tup (k.map kV)) ∧ H5 D = some (.dT kvs) ∧ kvs.length < sizeLine ∧ Nx (upd H5 D (.dT (putK kvs k z)))
theorem runs_put {Y : Cx} (hu : Y.A.units < cLine) (xe0 : Y.xe = fun _ _ => False) {kx vx : Expr} {tk tv : TE} {D : Addr} (vs : List Nat) (pk : PE Y kx tk) (pv : PE Y vx tv) : Runs Y vs (tEmD tk tv D) (emD kx vx (.ref D) Y.env) := by
  intro pins s σ H Nx c Post E I h k
  unfold emD emD0
  have r := pk.run pins s σ H _ I h
  rw [xe0] at r
  refine wpAny_bind (wpAny_bind (wpAny_mono r (fun v s1 h1 => ?_) fun _ _ z => z.elim))
  obtain ⟨y, H1, I1, ry, h1⟩ := h1
  have r2 := pv.run pins s1 σ H1 _ I1 h1
  rw [xe0] at r2
  refine wpAny_bind (wpAny_holding (wpAny_mono r2 (fun v2 s2 h2 => ?_) fun _ _ z => z.elim))
  obtain ⟨z, H2, I2, rz, kvs, kk, b, rfl, hb, hD, few, nx⟩ := h2
  cases ry
  refine wpAny_bind (wpAny_standAt (wpAny_holding ?_))
  exact set_compT hu I2 hD few hb rz fun s3 I3 => wpAny_pure (k s3 _ (I3.weak (wipe_length ..) fun _ _ z => (wipe_some z).1) nx)
def tDcG (wi : TI) (g : TG) (tt : TT) (EM : Addr → EMT) (vs : List Nat) : TE := fun σ H Q => wi σ H fun J H1 => ∀ D : Addr, H1 D = none → ∃ W, (∃ m, W 0 m (upd H1 D (.dT []))) ∧ tTurns J g tt vs (EM D) σ (fun H => Q (.ref D) H) W
theorem pe_dcG {X : Cx} {kx vx tg iter : Expr} {ifs : List Expr} {rest : List Comprehension} {scope : Scope} {own : List (Str × Nat)} {pos p : Pos} {wi : TI} {g : TG} {tt : TT} {EM : Addr → EMT} {em : Value → Env → (Unit → Sem PySem.Fin) → Sem PySem.Fin}
    (hc : X.calm = true) (hN : X.N.Nodup) (hi : PI X tg iter wi) (ok : BlkOk X.N X.env.scope scope own)
    (hg : ∀ (s : Shared) (H : Hp) (C : Addr) (cl : List (Str × Addr)) (fp : List Addr), PG (X.blk s H scope (compEnvC scope cl C X.env) fp) tg g)
    (ht : ∀ (s : Shared) (H : Hp) (C : Addr) (cl : List (Str × Addr)) (fp : List Addr), PTs (X.blk s H scope (compEnvC scope cl C X.env) fp) ifs tt)
    (hem : ∀ (s : Shared) (H : Hp) (C : Addr) (cl : List (Str × Addr)) (fp : List Addr) (D : Addr), Runs (X.blk s H scope (compEnvC scope cl C X.env) fp) (own.map (·.2)) (EM D) (em (.ref D) (compEnvC scope cl C X.env)))
    (turn : ∀ it acc env, compTurn (.DictComp kx vx (⟨tg, iter, ifs, 0⟩ :: rest) scope pos) 0 it acc env = turnF p tg ifs (em acc env) (Code.compLoop (.DictComp kx vx (⟨tg, iter, ifs, 0⟩ :: rest) scope pos) 0 it acc env) it env)
    (hs : ∀ x, foldedSetIterable iter X.env x = pure x) : PE X (.DictComp kx vx (⟨tg, iter, ifs, 0⟩ :: rest) scope pos) (tDcG wi g tt EM (own.map (·.2))) := by
  refine ⟨fun pins s σ H Q I h => ?_⟩
  rw [arm_eval_DictComp]
  have hfree : ∀ y ∈ scope.names, y.2 = NameKind.free → ∃ c, List.lookup y.1 X.env.cells = some c := fun y hy e => (ok.free y hy e).elim (fun k => I.ok.has y.1 (.inl k)) fun k => I.ok.has y.1 (.inr k)
  refine wpAny_comprehension_free (use := none) rfl hs (closure_ok hfree) ok.kind (fun y hy e => by rw [ok.uniq y hy, e]) ?_
  refine wpAny_mono (hi.run pins s σ H _ I h) (fun xv s1 hx => ?_) fun _ _ z => z
  refine wpAny_mono hx (fun itv s2 h2 => ?_) fun _ _ z => z
  obtain ⟨it, fp, tn, J, H2, rfl, I2, T, t2, f2, q⟩ := h2
  refine wpAny_newObj_type (newEnv_comp ?_)
  have hDn : H2 s2.heap.objs.size = none := I2.hok.fresh (Nat.le_refl _)
  obtain ⟨W, ⟨m0, w0⟩, turns⟩ := q _ hDn
  have I3 : L2.Inv X pins σ (upd H2 s2.heap.objs.size (.dT [])) { s2 with heap := s2.heap.push { cls := .type "dict", data := .dict #[] } } :=
    I2.laid (t' := s2.toks) (fun b o e => Heap.get?_push_of_some _ e) (Nat.le_refl _) (dt_empty s2.heap I2.big)
  generalize es3 : ({ s2 with heap := s2.heap.push { cls := .type "dict", data := .dict #[] } } : Shared) = s3 at I3 ⊢
  have h3 : s3.heap = s2.heap.push { cls := .type "dict", data := .dict #[] } := by rw [← es3]
  have f3 : ∀ b ∈ fp, FpOk X pins (upd H2 s2.heap.objs.size (.dT [])) b ∧ b < s3.heap.objs.size := fun b hb => by
    obtain ⟨o, ho, _⟩ := T.obj 0 _ t2 b hb
    have lt := Heap.lt_size ho
    refine ⟨⟨?_, (f2 b hb).2⟩, ?_⟩
    · rw [upd_ne (Nat.ne_of_lt lt)]
      exact (f2 b hb).1
    · rw [h3, Heap.size_push]
      exact Nat.lt_succ_of_lt lt
  have st3 : tn 0 s3.heap := T.keep 0 _ _ t2 fun b _ o e => by
    rw [h3]
    exact Heap.get?_push_of_some _ e
  have I4 := block_start I3 ok hN f3
  have st4 := T.keep 0 _ (pushCells (s3.heap.push { cls := .type "dict", data := .dict #[] }) scope.names) st3 fun b _ o e => pushCells_keeps scope.names _ b o (Heap.get?_push_of_some _ e)
  clear es3
  generalize s2.heap.objs.size = D at *
  show codeAny (model X.prog X.w) X.A (Code.compStart _ 0 (.ref it) (.ref D) (compEnvC scope (cellsFrom (s3.heap.objs.size + 1) scope.names (cloFrom X.env.cells scope.names [])) s3.heap.objs.size X.env)) _ _
  have loop := lvl (Y := X.blk s3 (upd H2 D (.dT [])) scope (compEnvC scope (cellsFrom (s3.heap.objs.size + 1) scope.names (cloFrom X.env.cells scope.names [])) s3.heap.objs.size X.env) fp) (R := compPost (model X.prog X.w) X.A X.xe none (EP X pins σ Q) (.ref D) s3.heap.objs.size) (e := .DictComp kx vx (⟨tg, iter, ifs, 0⟩ :: rest) scope pos) (d := 0) (acc := .ref D) hc rfl T (hg _ _ _ _ _) (ht _ _ _ _ _) rfl rfl rfl (turn _ _ _) (EM := EM D) (vs := List.map (fun x : Str × Nat => x.2) own) (σ0 := σ) (W := W) (Qe := fun H => Q (.ref D) H)
    (fun pins s σ H Nx Post E I h k => hem _ _ _ _ _ D pins s σ H Nx _ Post E I h k) turns (fun s6 H5 I6 q6 => ?_) I4 st4 (fun b hb => ⟨(f3 b hb).1.1, (I4.ok.exf b hb).1, I4.ok.exfs b hb, .inl hb, (I4.ok.exf b hb).2, fun p hp => by cases hp⟩) w0
  · exact codeAny_compStart_dict loop (T.self X.A 0 _ _ _ st4 loop)
  · have I7 := Inv.call' I3 I6.os I6.base I6.hok I6.bare fun b hb => ⟨(f3 b hb).1.2.2.2.1, (f3 b hb).1.2.1, (f3 b hb).1.2.2.2.2.1, (f3 b hb).1.2.2.2.2.2⟩
    obtain ⟨m, hn, _⟩ := I6.loc
    obtain ⟨a0, a1, a2, a3, a4, a5⟩ := Inv.fpOk I3 (Nat.le_refl _) I6.free
    exact ⟨m, hn, fun h' sb => ⟨.ref D, H5, Inv.turned I7 (fun b o hb e => (sb.2 b hb).trans e) a0 a1 a3 a4 a5, rfl, q6⟩⟩
/-- {k: v for a in xs for b in ys} -/
theorem pe_dcD {X : Cx} {kx vx tg iter tg1 iter1 : Expr} {ifs ifs1 : List Expr} {scope : Scope} {own : List (Str × Nat)} {vs1 : List Nat} {pos : Pos} {wi wi1 : TI} {g g1 : TG} {tt tt1 : TT} {tk tv : TE}
    (hc : X.calm = true) (hu : X.A.units < cLine) (hN : X.N.Nodup) (hi : PI X tg iter wi) (ok : BlkOk X.N X.env.scope scope own) (hv1 : ∀ i ∈ vs1, i ∈ List.map (fun x : Str × Nat => x.2) own)
    (hg : ∀ (s : Shared) (H : Hp) (C : Addr) (cl : List (Str × Addr)) (fp : List Addr), PG (X.blk s H scope (compEnvC scope cl C X.env) fp) tg g)
    (ht : ∀ (s : Shared) (H : Hp) (C : Addr) (cl : List (Str × Addr)) (fp : List Addr), PTs (X.blk s H scope (compEnvC scope cl C X.env) fp) ifs tt)
    (hi1 : ∀ (s : Shared) (H : Hp) (C : Addr) (cl : List (Str × Addr)) (fp : List Addr), PI (X.blk s H scope (compEnvC scope cl C X.env) fp) tg1 iter1 wi1)
    (hg1 : ∀ (s : Shared) (H : Hp) (C : Addr) (cl : List (Str × Addr)) (fp : List Addr), PG (X.blk s H scope (compEnvC scope cl C X.env) fp) tg1 g1)
    (ht1 : ∀ (s : Shared) (H : Hp) (C : Addr) (cl : List (Str × Addr)) (fp : List Addr), PTs (X.blk s H scope (compEnvC scope cl C X.env) fp) ifs1 tt1)
    (hk : ∀ (s : Shared) (H : Hp) (C : Addr) (cl : List (Str × Addr)) (fp : List Addr), PE (X.blk s H scope (compEnvC scope cl C X.env) fp) kx tk)
    (hv : ∀ (s : Shared) (H : Hp) (C : Addr) (cl : List (Str × Addr)) (fp : List Addr), PE (X.blk s H scope (compEnvC scope cl C X.env) fp) vx tv)
    (hs : ∀ x, foldedSetIterable iter X.env x = pure x := by intro _; rfl) (hs1 : ∀ env x, foldedSetIterable iter1 env x = pure x := by intro _ _; rfl) :
    PE X (.DictComp kx vx [⟨tg, iter, ifs, 0⟩, ⟨tg1, iter1, ifs1, 0⟩] scope pos) (tDcG wi g tt (fun D => tIn wi1 g1 tt1 vs1 (tEmD tk tv D)) (own.map (·.2))) := by
  refine pe_dcG (em := fun acc env => emI (.DictComp kx vx [⟨tg, iter, ifs, 0⟩, ⟨tg1, iter1, ifs1, 0⟩] scope pos) 1 iter1 acc env) hc hN hi ok hg ht (fun s H C cl fp D => ?_) (fun _ _ _ => rfl) hs
  refine runs_in (Y := X.blk s H scope (compEnvC scope cl C X.env) fp) (gc := ⟨tg1, iter1, ifs1, 0⟩) hc rfl hv1 (hi1 s H C cl fp) (hg1 s H C cl fp) (ht1 s H C cl fp) (em := fun k => emD kx vx (.ref D) (compEnvC scope cl C X.env) k) ?_ (hs1 _) (fun _ => rfl) (fun _ => rfl) (fun _ => rfl) (fun _ => rfl) (fun _ => rfl) rfl rfl (fun _ => rfl)
  exact runs_put (Y := X.blk s H scope (compEnvC scope cl C X.env) fp) hu rfl vs1 (hk s H C cl fp) (hv s H C cl fp)
/-! ### sorted of any alike data -/
theorem each_zip {R : Value → V × PyData → Prop} : ∀ {xs : List V} {us : List Value} {ds : List PyData}, Vals xs us → xs.length = ds.length → (∀ x u d, (x, d) ∈ xs.zip ds → RelV x u → R u (x, d)) → W.EachIs R us (xs.zip ds)
  | [], _, [], .nil, _, _ => .nil
  | x :: xs, _, d :: ds, .cons r rs, h, g => .cons (g x _ d List.mem_cons_self r) (each_zip rs (by simpa using h) fun y u e m => g y u e (List.mem_cons_of_mem _ m))
theorem vals_each : ∀ {us : List Value} {bs : List (V × PyData)}, W.EachIs (fun u (b : V × PyData) => RelV b.1 u) us bs → Vals (bs.map (·.1)) us
  | [], [], .nil => .nil
  | _ :: _, _ :: _, .cons r rs => .cons r (vals_each rs)
def srtD (xs : List V) (ds : List PyData) : List (V × PyData) := (xs.zip ds).mergeSort (W.dataLe false fun b => b.2)
theorem dpAll_len {K : PySem.W.Frag} {H : Hp} : ∀ {xs : List V} {ds : List PyData}, DpAll K H xs ds → xs.length = ds.length
  | [], [], _ => rfl
  | x :: xs, [], h => by cases h
  | [], d :: ds, h => by cases h
  | x :: xs, d :: ds, h => by
    cases h with
    | cons a b => rw [List.length_cons, List.length_cons, dpAll_len b]
theorem dpAll_zip {K : PySem.W.Frag} {H : Hp} : ∀ {xs : List V} {ds : List PyData}, DpAll K H xs ds → ∀ x d, (x, d) ∈ xs.zip ds → Dp K H x d
  | [], _, _, x, d, m => by cases m
  | x :: xs, [], h, y, e, m => by cases m
  | x :: xs, d :: ds, h, y, e, m => by
    cases h with
    | cons a b =>
      rcases List.mem_cons.mp m with m | m
      · injection m with m1 m2
        rw [m1, m2]
        exact a
      · exact dpAll_zip b y e m
theorem dpAll_of {K : PySem.W.Frag} {H : Hp} : ∀ {bs : List (V × PyData)}, (∀ b ∈ bs, Dp K H b.1 b.2) → DpAll K H (bs.map (·.1)) (bs.map (·.2))
  | [], _ => .nil
  | b :: bs, h => .cons (h b List.mem_cons_self) (dpAll_of fun c m => h c (List.mem_cons_of_mem _ m))
theorem srtD_dp {K : PySem.W.Frag} {H : Hp} {xs : List V} {ds : List PyData} (h : DpAll K H xs ds) : DpAll K H ((srtD xs ds).map (·.1)) ((srtD xs ds).map (·.2)) :=
  dpAll_of fun b m => dpAll_zip h b.1 b.2 ((List.mergeSort_perm _ _).mem_iff.mp m)
theorem srtD_data {xs : List V} {ds : List PyData} (h : xs.length = ds.length) : (srtD xs ds).map (·.2) = ds.mergeSort (W.dataLe false id) := by
  unfold srtD
  have e := List.map_mergeSort (r := W.dataLe false fun b : V × PyData => b.2) (s := W.dataLe false id) (f := fun b : V × PyData => b.2) (l := xs.zip ds) (fun a _ b _ => rfl)
  have z : (xs.zip ds).map (fun b : V × PyData => b.2) = ds := by
    show (xs.zip ds).map Prod.snd = ds
    rw [List.map_snd_zip]
    omega
  rw [z] at e
  exact e
section
variable {X : Cx}
theorem cr_sortedD (hu : X.A.units + 64 < cLine) : CallR X (.builtin "sorted") (fun us H Q => ∃ (a : Addr) (xs : List V) (ds : List PyData), us = [.ref a] ∧ SqL X.K H a xs ∧ DpAll X.K H xs ds ∧ W.AllAlike ds ∧ W.Sortable ds ∧ (∀ d ∈ ds, d.depth ≤ 60) ∧
    ∀ p, H p = none → Q (.ref p) (upd H p (.lst ((srtD xs ds).map (·.1))))) := by
  intro pins s σ H vs us Q I r h
  obtain ⟨a, xs, ds, rfl, hs, dp, al, so, dep, q⟩ := h
  obtain ⟨its, rv, hl, hz⟩ := I.list hs
  rw [Vals.ref1 r]
  have len := dpAll_len dp
  have lz : (xs.zip ds).map (·.2) = ds := by
    rw [List.map_snd_zip]
    omega
  have lb : (xs.zip ds).length = xs.length := by rw [List.length_zip, len, Nat.min_self]
  refine W.sorted_data (R := fun u (b : V × PyData) => RelV b.1 u) (enc := fun b : V × PyData => b.2) (bs := xs.zip ds) hl.isList (each_zip rv len fun _ _ _ _ r => r) (each_zip rv len fun x u d m r => Dp.reads I d x u (dpAll_zip dp x d m) r) (by rw [lz]; exact al) (by rw [lz]; exact so) (by rw [lb]; exact hz) (fun b m => ?_) fun out ho eo => ?_
  · have := dep b.2 (by rw [← lz]; exact List.mem_map.mpr ⟨b, m, rfl⟩)
    omega
  · obtain ⟨ep, he'⟩ := PyProof.Rows.sortedAll_at s.heap its (List.toArray out)
    have vo := vals_each eo
    exact ⟨.ref _, upd H (s.heap.objs.size + 1) (.lst ((srtD xs ds).map (·.1))), I.laid (t' := s.toks) (fun _ _ => PyProof.Rows.sortedAll_old) (Nat.le_succ _) ⟨by
      have hl2 : (srtD xs ds).length = xs.length := by unfold srtD; rw [List.length_mergeSort, lb]
      rw [List.length_map, hl2]
      exact hz, out, ep, vo, he'⟩, rfl, q _ (I.hok.fresh (Nat.le_succ _))⟩
/-! ### math.comb -/
theorem cr_comb : CallR X (.builtin "math.comb") (fun vs H Q => ∃ a b : Nat, vs = [.int (a : Int), .int (b : Int)] ∧ a ≤ 1000 ∧ b ≤ a ∧ ∀ c : Nat, 0 < c → Q (.int (c : Int)) H) := by
  intro pins s σ H vs us Q I r h
  obtain ⟨a, b, rfl, ha, hb, q⟩ := h
  obtain ⟨t, u, rfl⟩ := Vals.int2 r
  refine PySem.W.mc_comb (by omega) (by omega) (by omega) (.inl (by omega)) fun m => ?_
  obtain ⟨m1, m2, _⟩ := m
  have m2 := m2 (by omega)
  obtain ⟨c, ec⟩ := Int.eq_ofNat_of_zero_le m1
  have c0 : 0 < c := by omega
  refine ⟨.int _, H, I.tok _, ⟨_, rfl⟩, ?_⟩
  rw [ec]
  exact q c c0
end
end Vx
namespace My
open PySem PySem.Spec PyProof.Rows L2 Vx
def topS (i : Nat) : Stmt := PySem.Challenge.pw_longlife_k14_whole_worlds_do_not_hang_on.main.body.getD i (.Pass ⟨0, 0, 0, 0⟩)
abbrev s_sums_of : Stmt := topS 2
abbrev N_sums_of : List Str := ["left", "alive", "right", "odd"]
theorem sc_sums_of : FnScope N_sums_of ["left", "alive", "right"] (defScope s_sums_of) := ⟨rfl, rfl, rfl, by decide +kernel, rfl, by decide +kernel, by decide +kernel⟩
abbrev s_totals_of : Stmt := topS 3
abbrev N_totals_of : List Str := ["above", "here", "below", "above_ones", "above_twos", "here_ones", "here_twos", "below_ones", "below_twos", "odd", "carried", "first", "second", "first_four", "second_four", "fours"]
theorem sc_totals_of : FnScope N_totals_of ["above", "here", "below"] (defScope s_totals_of) := ⟨rfl, rfl, rfl, by decide +kernel, rfl, by decide +kernel, by decide +kernel⟩
abbrev s_next_strip : Stmt := topS 4
abbrev N_next_strip : List Str := ["alive", "totals", "rule", "ones", "twos", "fours", "eights", "near", "not_ones", "not_twos", "low", "high", "born", "number", "kept", "total"]
theorem sc_next_strip : FnScope N_next_strip ["alive", "totals", "rule"] (defScope s_next_strip) := ⟨rfl, rfl, rfl, by decide +kernel, rfl, by decide +kernel, by decide +kernel⟩
abbrev s_place_of : Stmt := topS 8
abbrev N_place_of : List Str := ["row", "column", "at"]
theorem sc_place_of : FnScope N_place_of ["row", "column"] (defScope s_place_of) := ⟨rfl, rfl, rfl, by decide +kernel, rfl, by decide +kernel, by decide +kernel⟩
abbrev s_blocks_of : Stmt := topS 9
abbrev N_blocks_of : List Str := ["cells", "blocks", "row", "column", "place", "block"]
theorem sc_blocks_of : FnScope N_blocks_of ["cells"] (defScope s_blocks_of) := ⟨rfl, rfl, rfl, by decide +kernel, rfl, by decide +kernel, by decide +kernel⟩
abbrev s_block_cells : Stmt := topS 10
abbrev N_block_cells : List Str := ["block", "cells", "lowest"]
theorem sc_block_cells : FnScope N_block_cells ["block"] (defScope s_block_cells) := ⟨rfl, rfl, rfl, by decide +kernel, rfl, by decide +kernel, by decide +kernel⟩
abbrev s_block_count : Stmt := topS 11
abbrev N_block_count : List Str := ["block", "digits"]
theorem sc_block_count : FnScope N_block_count ["block"] (defScope s_block_count) := ⟨rfl, rfl, rfl, by decide +kernel, rfl, by decide +kernel, by decide +kernel⟩
abbrev s_block_changed : Stmt := topS 12
abbrev N_block_changed : List Str := ["block", "other", "mode"]
theorem sc_block_changed : FnScope N_block_changed ["block", "other", "mode"] (defScope s_block_changed) := ⟨rfl, rfl, rfl, by decide +kernel, rfl, by decide +kernel, by decide +kernel⟩
abbrev s_next_block : Stmt := topS 13
abbrev N_next_block : List Str := ["block", "rule", "ones", "twos", "totals"]
theorem sc_next_block : FnScope N_next_block ["block", "rule"] (defScope s_next_block) := ⟨rfl, rfl, rfl, by decide +kernel, rfl, by decide +kernel, by decide +kernel⟩
abbrev s_Blocks_init : Stmt := inClass (topS 14) 0
abbrev N_Blocks_init : List Str := ["self", "rule", "level"]
theorem sc_Blocks_init : FnScope N_Blocks_init ["self", "rule"] (defScope s_Blocks_init) := ⟨rfl, rfl, rfl, by decide +kernel, rfl, by decide +kernel, by decide +kernel⟩
abbrev s_Blocks_cut : Stmt := inClass (topS 14) 1
abbrev N_Blocks_cut : List Str := ["self", "level", "block", "row", "column"]
theorem sc_Blocks_cut : FnScope N_Blocks_cut ["self", "level", "block", "row", "column"] (defScope s_Blocks_cut) := ⟨rfl, rfl, rfl, by decide +kernel, rfl, by decide +kernel, by decide +kernel⟩
abbrev s_Blocks_quarters : Stmt := inClass (topS 14) 2
abbrev N_Blocks_quarters : List Str := ["self", "level", "block", "half", "places", "row", "column"]
theorem sc_Blocks_quarters : FnScope N_Blocks_quarters ["self", "level", "block"] (defScope s_Blocks_quarters) := ⟨rfl, rfl, rfl, by decide +kernel, rfl, by decide +kernel, by decide +kernel⟩
abbrev s_Blocks_put_together : Stmt := inClass (topS 14) 3
abbrev N_Blocks_put_together : List Str := ["self", "level", "a", "b", "c", "d", "half"]
theorem sc_Blocks_put_together : FnScope N_Blocks_put_together ["self", "level", "a", "b", "c", "d"] (defScope s_Blocks_put_together) := ⟨rfl, rfl, rfl, by decide +kernel, rfl, by decide +kernel, by decide +kernel⟩
abbrev s_Blocks_centre : Stmt := inClass (topS 14) 4
abbrev N_Blocks_centre : List Str := ["self", "level", "block", "quarter"]
theorem sc_Blocks_centre : FnScope N_Blocks_centre ["self", "level", "block"] (defScope s_Blocks_centre) := ⟨rfl, rfl, rfl, by decide +kernel, rfl, by decide +kernel, by decide +kernel⟩
abbrev s_Blocks_centre_after : Stmt := inClass (topS 14) 5
abbrev N_Blocks_centre_after : List Str := ["self", "level", "block", "generations", "_"]
theorem sc_Blocks_centre_after : FnScope N_Blocks_centre_after ["self", "level", "block", "generations"] (defScope s_Blocks_centre_after) := ⟨rfl, rfl, rfl, by decide +kernel, rfl, by decide +kernel, by decide +kernel⟩
abbrev s_full_block : Stmt := topS 15
abbrev N_full_block : List Str := ["level", "size", "row", "first_cells"]
theorem sc_full_block : FnScope N_full_block ["level"] (defScope s_full_block) := ⟨rfl, rfl, rfl, by decide +kernel, rfl, by decide +kernel, by decide +kernel⟩
abbrev s_Store_init : Stmt := inClass (topS 17) 0
abbrev N_Store_init : List Str := ["self", "rule"]
theorem sc_Store_init : FnScope N_Store_init ["self", "rule"] (defScope s_Store_init) := ⟨rfl, rfl, rfl, by decide +kernel, rfl, by decide +kernel, by decide +kernel⟩
abbrev s_Store_joined : Stmt := inClass (topS 17) 1
abbrev N_Store_joined : List Str := ["self", "a", "b", "c", "d", "level", "bits", "parts", "counts", "count"]
theorem sc_Store_joined : FnScope N_Store_joined ["self", "a", "b", "c", "d"] (defScope s_Store_joined) := ⟨rfl, rfl, rfl, by decide +kernel, rfl, by decide +kernel, by decide +kernel⟩
abbrev s_Store_small : Stmt := inClass (topS 17) 2
abbrev N_Store_small : List Str := ["self", "level", "block", "kept"]
theorem sc_Store_small : FnScope N_Store_small ["self", "level", "block"] (defScope s_Store_small) := ⟨rfl, rfl, rfl, by decide +kernel, rfl, by decide +kernel, by decide +kernel⟩
abbrev s_Store_new_square : Stmt := inClass (topS 17) 3
abbrev N_Store_new_square : List Str := ["self", "level", "count", "block", "parts"]
theorem sc_Store_new_square : FnScope N_Store_new_square ["self", "level", "count", "block", "parts"] (defScope s_Store_new_square) := ⟨rfl, rfl, rfl, by decide +kernel, rfl, by decide +kernel, by decide +kernel⟩
abbrev s_Store_block : Stmt := inClass (topS 17) 4
abbrev N_Store_block : List Str := ["self", "square"]
theorem sc_Store_block : FnScope N_Store_block ["self", "square"] (defScope s_Store_block) := ⟨rfl, rfl, rfl, by decide +kernel, rfl, by decide +kernel, by decide +kernel⟩
abbrev s_Store_parts : Stmt := inClass (topS 17) 6
abbrev N_Store_parts : List Str := ["self", "square", "level", "blocks", "block"]
theorem sc_Store_parts : FnScope N_Store_parts ["self", "square"] (defScope s_Store_parts) := ⟨rfl, rfl, rfl, by decide +kernel, rfl, by decide +kernel, by decide +kernel⟩
abbrev s_Store_empty : Stmt := inClass (topS 17) 8
abbrev N_Store_empty : List Str := ["self", "level", "part"]
theorem sc_Store_empty : FnScope N_Store_empty ["self", "level"] (defScope s_Store_empty) := ⟨rfl, rfl, rfl, by decide +kernel, rfl, by decide +kernel, by decide +kernel⟩
abbrev s_Store_future : Stmt := inClass (topS 17) 12
abbrev N_Store_future : List Str := ["self", "square", "j", "asked"]
theorem sc_Store_future : FnScope N_Store_future ["self", "square", "j"] (defScope s_Store_future) := ⟨rfl, rfl, rfl, by decide +kernel, rfl, by decide +kernel, by decide +kernel⟩
abbrev s_Store_new_future : Stmt := inClass (topS 17) 13
abbrev N_Store_new_future : List Str := ["self", "square", "j", "level", "block", "whole", "later", "nine", "a", "b", "c", "d", "part"]
theorem sc_Store_new_future : FnScope N_Store_new_future ["self", "square", "j"] (defScope s_Store_new_future) := ⟨rfl, rfl, rfl, by decide +kernel, rfl, by decide +kernel, by decide +kernel⟩
abbrev s_Store_at_level : Stmt := inClass (topS 17) 16
abbrev N_Store_at_level : List Str := ["self", "layout", "level", "wanted", "part_level", "_"]
theorem sc_Store_at_level : FnScope N_Store_at_level ["self", "layout", "level", "wanted"] (defScope s_Store_at_level) := ⟨rfl, rfl, rfl, by decide +kernel, rfl, by decide +kernel, by decide +kernel⟩
abbrev s_Store_raised : Stmt := inClass (topS 17) 17
abbrev N_Store_raised : List Str := ["self", "layout", "level", "none", "fours", "row", "column", "square", "place", "a", "b", "c", "d"]
theorem sc_Store_raised : FnScope N_Store_raised ["self", "layout", "level"] (defScope s_Store_raised) := ⟨rfl, rfl, rfl, by decide +kernel, rfl, by decide +kernel, by decide +kernel⟩
abbrev s_Store_lowered : Stmt := inClass (topS 17) 18
abbrev N_Store_lowered : List Str := ["self", "layout", "lower", "row", "column", "square", "at", "part"]
theorem sc_Store_lowered : FnScope N_Store_lowered ["self", "layout"] (defScope s_Store_lowered) := ⟨rfl, rfl, rfl, by decide +kernel, rfl, by decide +kernel, by decide +kernel⟩
abbrev s_Store_aged : Stmt := inClass (topS 17) 19
abbrev N_Store_aged : List Str := ["self", "layout", "level", "j", "none", "parts", "later", "row", "column", "square", "place"]
theorem sc_Store_aged : FnScope N_Store_aged ["self", "layout", "level", "j"] (defScope s_Store_aged) := ⟨rfl, rfl, rfl, by decide +kernel, rfl, by decide +kernel, by decide +kernel⟩
abbrev s_Store_surrounded : Stmt := inClass (topS 17) 20
abbrev N_Store_surrounded : List Str := ["self", "parts", "row", "column", "none", "top_left", "_", "top_a", "top_b", "top_right", "left_a", "left_b", "a", "b", "c", "d", "right_a", "right_b", "bottom_left", "bottom_a", "bottom_b", "bottom_right"]
theorem sc_Store_surrounded : FnScope N_Store_surrounded ["self", "parts", "row", "column", "none"] (defScope s_Store_surrounded) := ⟨rfl, rfl, rfl, by decide +kernel, rfl, by decide +kernel, by decide +kernel⟩
abbrev s_with_places_around : Stmt := topS 18
abbrev N_with_places_around : List Str := ["layout", "places", "row", "column", "down", "beside"]
theorem sc_with_places_around : FnScope N_with_places_around ["layout"] (defScope s_with_places_around) := ⟨rfl, rfl, rfl, by decide +kernel, rfl, by decide +kernel, by decide +kernel⟩
abbrev s_World_init : Stmt := inClass (topS 20) 0
abbrev N_World_init : List Str := ["self", "rule"]
theorem sc_World_init : FnScope N_World_init ["self", "rule"] (defScope s_World_init) := ⟨rfl, rfl, rfl, by decide +kernel, rfl, by decide +kernel, by decide +kernel⟩
abbrev s_World_paste : Stmt := inClass (topS 20) 2
abbrev N_World_paste : List Str := ["self", "cells", "row", "column", "mode", "pasted", "place", "block", "changed", "down", "beside"]
theorem sc_World_paste : FnScope N_World_paste ["self", "cells", "row", "column", "mode"] (defScope s_World_paste) := ⟨rfl, rfl, rfl, by decide +kernel, rfl, by decide +kernel, by decide +kernel⟩
abbrev s_World_leap : Stmt := inClass (topS 20) 3
abbrev N_World_leap : List Str := ["self", "generations", "store", "level", "layout", "j", "wanted", "place", "block", "square"]
theorem sc_World_leap : FnScope N_World_leap ["self", "generations"] (defScope s_World_leap) := ⟨rfl, rfl, rfl, by decide +kernel, rfl, by decide +kernel, by decide +kernel⟩
abbrev s_World_tidy : Stmt := inClass (topS 20) 4
abbrev N_World_tidy : List Str := ["self"]
theorem sc_World_tidy : FnScope N_World_tidy ["self"] (defScope s_World_tidy) := ⟨rfl, rfl, rfl, by decide +kernel, rfl, by decide +kernel, by decide +kernel⟩
abbrev s_World_count : Stmt := inClass (topS 20) 6
abbrev N_World_count : List Str := ["self", "block"]
theorem sc_World_count : FnScope N_World_count ["self"] (defScope s_World_count) := ⟨rfl, rfl, rfl, by decide +kernel, rfl, by decide +kernel, by decide +kernel⟩
abbrev s_World_cells : Stmt := inClass (topS 20) 7
abbrev N_World_cells : List Str := ["self"]
theorem sc_World_cells : FnScope N_World_cells ["self"] (defScope s_World_cells) := ⟨rfl, rfl, rfl, by decide +kernel, rfl, by decide +kernel, by decide +kernel⟩
abbrev s_World_cells_of_blocks : Stmt := inClass (topS 20) 10
abbrev N_World_cells_of_blocks : List Str := ["self", "places", "found", "row", "column", "living", "down", "beside"]
theorem sc_World_cells_of_blocks : FnScope N_World_cells_of_blocks ["self", "places"] (defScope s_World_cells_of_blocks) := ⟨rfl, rfl, rfl, by decide +kernel, rfl, by decide +kernel, by decide +kernel⟩
abbrev s_Rule_init : Stmt := inClass (topS 22) 0
abbrev N_Rule_init : List Str := ["self", "births", "survival"]
theorem sc_Rule_init : FnScope N_Rule_init ["self", "births", "survival"] (defScope s_Rule_init) := ⟨rfl, rfl, rfl, by decide +kernel, rfl, by decide +kernel, by decide +kernel⟩
abbrev s_law_cell : Stmt := topS 24
abbrev N_law_cell : List Str := ["script", "k"]
theorem sc_law_cell : FnScope N_law_cell ["script", "k"] (defScope s_law_cell) := ⟨rfl, rfl, rfl, by decide +kernel, rfl, by decide +kernel, by decide +kernel⟩
abbrev s_law_row : Stmt := topS 25
abbrev N_law_row : List Str := ["cell", "count", "bound", "rest", "mixed", "row", "k"]
theorem sc_law_row : FnScope N_law_row ["cell", "count", "bound"] (defScope s_law_row) := ⟨rfl, rfl, rfl, by decide +kernel, rfl, by decide +kernel, by decide +kernel⟩
abbrev s_law_numbers : Stmt := topS 28
abbrev N_law_numbers : List Str := ["cell", "x", "births", "survival", "k"]
theorem sc_law_numbers : FnScope N_law_numbers ["cell"] (defScope s_law_numbers) := ⟨rfl, rfl, rfl, by decide +kernel, rfl, by decide +kernel, by decide +kernel⟩
abbrev s_law_some : Stmt := topS 29
abbrev N_law_some : List Str := ["cell", "count", "height", "width", "x", "found", "y", "place"]
theorem sc_law_some : FnScope N_law_some ["cell", "count", "height", "width"] (defScope s_law_some) := ⟨rfl, rfl, rfl, by decide +kernel, rfl, by decide +kernel, by decide +kernel⟩
abbrev s_law_image : Stmt := topS 30
abbrev N_law_image : List Str := ["cells", "turns", "flipped", "r", "c", "found", "k", "i", "j"]
theorem sc_law_image : FnScope N_law_image ["cells", "turns", "flipped", "r", "c"] (defScope s_law_image) := ⟨rfl, rfl, rfl, by decide +kernel, rfl, by decide +kernel, by decide +kernel⟩
abbrev s_law : Stmt := topS 31
abbrev N_law : List Str := ["script", "births", "survival", "first", "cells", "far", "r", "c", "turns", "flipped", "one", "two", "cell"]
theorem sc_law : FnScope N_law ["script"] (defScope s_law) := ⟨rfl, rfl, rfl, by decide +kernel, rfl, by decide +kernel, by decide +kernel⟩
structure Txt (K : PySem.W.Frag) (mg : Str → Option Value) where
  C_Blocks : Addr
  g_Blocks : mg "Blocks" = some (.ref C_Blocks)
  cl_Blocks : Cls K C_Blocks
  na_Blocks__rule : NoAttr K C_Blocks "_rule"
  na_Blocks__full : NoAttr K C_Blocks "_full"
  C_Store : Addr
  g_Store : mg "Store" = some (.ref C_Store)
  cl_Store : Cls K C_Store
  na_Store__rule : NoAttr K C_Store "_rule"
  na_Store__blocks : NoAttr K C_Store "_blocks"
  na_Store__levels : NoAttr K C_Store "_levels"
  na_Store__counts : NoAttr K C_Store "_counts"
  na_Store__bits : NoAttr K C_Store "_bits"
  na_Store__parts : NoAttr K C_Store "_parts"
  na_Store__small : NoAttr K C_Store "_small"
  na_Store__large : NoAttr K C_Store "_large"
  na_Store__empty : NoAttr K C_Store "_empty"
  na_Store__futures : NoAttr K C_Store "_futures"
  C_World : Addr
  g_World : mg "World" = some (.ref C_World)
  cl_World : Cls K C_World
  na_World_generation : NoAttr K C_World "generation"
  na_World__rule : NoAttr K C_World "_rule"
  na_World__store : NoAttr K C_World "_store"
  na_World__living : NoAttr K C_World "_living"
  C_Rule : Addr
  g_Rule : mg "Rule" = some (.ref C_Rule)
  cl_Rule : Cls K C_Rule
  na_Rule_births : NoAttr K C_Rule "births"
  na_Rule_survival : NoAttr K C_Rule "survival"
  f_sums_of : Addr
  d_sums_of : FuncData
  F_sums_of : Fun K "sums_of" "sums_of" s_sums_of f_sums_of d_sums_of
  b_sums_of : Binds K d_sums_of ["left", "alive", "right"] []
  g_sums_of : mg "sums_of" = some (.ref f_sums_of)
  f_totals_of : Addr
  d_totals_of : FuncData
  F_totals_of : Fun K "totals_of" "totals_of" s_totals_of f_totals_of d_totals_of
  b_totals_of : Binds K d_totals_of ["above", "here", "below"] []
  g_totals_of : mg "totals_of" = some (.ref f_totals_of)
  f_next_strip : Addr
  d_next_strip : FuncData
  F_next_strip : Fun K "next_strip" "next_strip" s_next_strip f_next_strip d_next_strip
  b_next_strip : Binds K d_next_strip ["alive", "totals", "rule"] []
  g_next_strip : mg "next_strip" = some (.ref f_next_strip)
  f_place_of : Addr
  d_place_of : FuncData
  F_place_of : Fun K "place_of" "place_of" s_place_of f_place_of d_place_of
  b_place_of : Binds K d_place_of ["row", "column"] []
  g_place_of : mg "place_of" = some (.ref f_place_of)
  f_blocks_of : Addr
  d_blocks_of : FuncData
  F_blocks_of : Fun K "blocks_of" "blocks_of" s_blocks_of f_blocks_of d_blocks_of
  b_blocks_of : Binds K d_blocks_of ["cells"] []
  g_blocks_of : mg "blocks_of" = some (.ref f_blocks_of)
  f_block_cells : Addr
  d_block_cells : FuncData
  F_block_cells : Fun K "block_cells" "block_cells" s_block_cells f_block_cells d_block_cells
  b_block_cells : Binds K d_block_cells ["block"] []
  g_block_cells : mg "block_cells" = some (.ref f_block_cells)
  f_block_count : Addr
  d_block_count : FuncData
  F_block_count : Fun K "block_count" "block_count" s_block_count f_block_count d_block_count
  b_block_count : Binds K d_block_count ["block"] []
  g_block_count : mg "block_count" = some (.ref f_block_count)
  f_block_changed : Addr
  d_block_changed : FuncData
  F_block_changed : Fun K "block_changed" "block_changed" s_block_changed f_block_changed d_block_changed
  b_block_changed : Binds K d_block_changed ["block", "other", "mode"] []
  g_block_changed : mg "block_changed" = some (.ref f_block_changed)
  f_next_block : Addr
  d_next_block : FuncData
  F_next_block : Fun K "next_block" "next_block" s_next_block f_next_block d_next_block
  b_next_block : Binds K d_next_block ["block", "rule"] []
  g_next_block : mg "next_block" = some (.ref f_next_block)
  f_Blocks_init : Addr
  d_Blocks_init : FuncData
  F_Blocks_init : Fun K "__init__" "Blocks.__init__" s_Blocks_init f_Blocks_init d_Blocks_init
  b_Blocks_init : Binds K d_Blocks_init ["self", "rule"] []
  M_Blocks : Mk K C_Blocks f_Blocks_init
  f_Blocks_cut : Addr
  d_Blocks_cut : FuncData
  F_Blocks_cut : Fun K "cut" "Blocks.cut" s_Blocks_cut f_Blocks_cut d_Blocks_cut
  b_Blocks_cut : Binds K d_Blocks_cut ["self", "level", "block", "row", "column"] []
  m_Blocks_cut : Meth K C_Blocks "cut" f_Blocks_cut
  f_Blocks_quarters : Addr
  d_Blocks_quarters : FuncData
  F_Blocks_quarters : Fun K "quarters" "Blocks.quarters" s_Blocks_quarters f_Blocks_quarters d_Blocks_quarters
  b_Blocks_quarters : Binds K d_Blocks_quarters ["self", "level", "block"] []
  m_Blocks_quarters : Meth K C_Blocks "quarters" f_Blocks_quarters
  f_Blocks_put_together : Addr
  d_Blocks_put_together : FuncData
  F_Blocks_put_together : Fun K "put_together" "Blocks.put_together" s_Blocks_put_together f_Blocks_put_together d_Blocks_put_together
  b_Blocks_put_together : Binds K d_Blocks_put_together ["self", "level", "a", "b", "c", "d"] []
  m_Blocks_put_together : Meth K C_Blocks "put_together" f_Blocks_put_together
  f_Blocks_centre : Addr
  d_Blocks_centre : FuncData
  F_Blocks_centre : Fun K "centre" "Blocks.centre" s_Blocks_centre f_Blocks_centre d_Blocks_centre
  b_Blocks_centre : Binds K d_Blocks_centre ["self", "level", "block"] []
  m_Blocks_centre : Meth K C_Blocks "centre" f_Blocks_centre
  f_Blocks_centre_after : Addr
  d_Blocks_centre_after : FuncData
  F_Blocks_centre_after : Fun K "centre_after" "Blocks.centre_after" s_Blocks_centre_after f_Blocks_centre_after d_Blocks_centre_after
  b_Blocks_centre_after : Binds K d_Blocks_centre_after ["self", "level", "block", "generations"] []
  m_Blocks_centre_after : Meth K C_Blocks "centre_after" f_Blocks_centre_after
  f_full_block : Addr
  d_full_block : FuncData
  F_full_block : Fun K "_full_block" "_full_block" s_full_block f_full_block d_full_block
  b_full_block : Binds K d_full_block ["level"] []
  g_full_block : mg "_full_block" = some (.ref f_full_block)
  f_Store_init : Addr
  d_Store_init : FuncData
  F_Store_init : Fun K "__init__" "Store.__init__" s_Store_init f_Store_init d_Store_init
  b_Store_init : Binds K d_Store_init ["self", "rule"] []
  M_Store : Mk K C_Store f_Store_init
  f_Store_joined : Addr
  d_Store_joined : FuncData
  F_Store_joined : Fun K "joined" "Store.joined" s_Store_joined f_Store_joined d_Store_joined
  b_Store_joined : Binds K d_Store_joined ["self", "a", "b", "c", "d"] []
  m_Store_joined : Meth K C_Store "joined" f_Store_joined
  f_Store_small : Addr
  d_Store_small : FuncData
  F_Store_small : Fun K "small" "Store.small" s_Store_small f_Store_small d_Store_small
  b_Store_small : Binds K d_Store_small ["self", "level", "block"] []
  m_Store_small : Meth K C_Store "small" f_Store_small
  f_Store_new_square : Addr
  d_Store_new_square : FuncData
  F_Store_new_square : Fun K "_new_square" "Store._new_square" s_Store_new_square f_Store_new_square d_Store_new_square
  b_Store_new_square : Binds K d_Store_new_square ["self", "level", "count", "block", "parts"] []
  m_Store_new_square : Meth K C_Store "_new_square" f_Store_new_square
  f_Store_block : Addr
  d_Store_block : FuncData
  F_Store_block : Fun K "block" "Store.block" s_Store_block f_Store_block d_Store_block
  b_Store_block : Binds K d_Store_block ["self", "square"] []
  m_Store_block : Meth K C_Store "block" f_Store_block
  f_Store_parts : Addr
  d_Store_parts : FuncData
  F_Store_parts : Fun K "parts" "Store.parts" s_Store_parts f_Store_parts d_Store_parts
  b_Store_parts : Binds K d_Store_parts ["self", "square"] []
  m_Store_parts : Meth K C_Store "parts" f_Store_parts
  f_Store_empty : Addr
  d_Store_empty : FuncData
  F_Store_empty : Fun K "empty" "Store.empty" s_Store_empty f_Store_empty d_Store_empty
  b_Store_empty : Binds K d_Store_empty ["self", "level"] []
  m_Store_empty : Meth K C_Store "empty" f_Store_empty
  f_Store_future : Addr
  d_Store_future : FuncData
  F_Store_future : Fun K "future" "Store.future" s_Store_future f_Store_future d_Store_future
  b_Store_future : Binds K d_Store_future ["self", "square", "j"] []
  m_Store_future : Meth K C_Store "future" f_Store_future
  f_Store_new_future : Addr
  d_Store_new_future : FuncData
  F_Store_new_future : Fun K "_new_future" "Store._new_future" s_Store_new_future f_Store_new_future d_Store_new_future
  b_Store_new_future : Binds K d_Store_new_future ["self", "square", "j"] []
  m_Store_new_future : Meth K C_Store "_new_future" f_Store_new_future
  f_Store_at_level : Addr
  d_Store_at_level : FuncData
  F_Store_at_level : Fun K "at_level" "Store.at_level" s_Store_at_level f_Store_at_level d_Store_at_level
  b_Store_at_level : Binds K d_Store_at_level ["self", "layout", "level", "wanted"] []
  m_Store_at_level : Meth K C_Store "at_level" f_Store_at_level
  f_Store_raised : Addr
  d_Store_raised : FuncData
  F_Store_raised : Fun K "_raised" "Store._raised" s_Store_raised f_Store_raised d_Store_raised
  b_Store_raised : Binds K d_Store_raised ["self", "layout", "level"] []
  m_Store_raised : Meth K C_Store "_raised" f_Store_raised
  f_Store_lowered : Addr
  d_Store_lowered : FuncData
  F_Store_lowered : Fun K "_lowered" "Store._lowered" s_Store_lowered f_Store_lowered d_Store_lowered
  b_Store_lowered : Binds K d_Store_lowered ["self", "layout"] []
  m_Store_lowered : Meth K C_Store "_lowered" f_Store_lowered
  f_Store_aged : Addr
  d_Store_aged : FuncData
  F_Store_aged : Fun K "aged" "Store.aged" s_Store_aged f_Store_aged d_Store_aged
  b_Store_aged : Binds K d_Store_aged ["self", "layout", "level", "j"] []
  m_Store_aged : Meth K C_Store "aged" f_Store_aged
  f_Store_surrounded : Addr
  d_Store_surrounded : FuncData
  F_Store_surrounded : Fun K "_surrounded" "Store._surrounded" s_Store_surrounded f_Store_surrounded d_Store_surrounded
  b_Store_surrounded : Binds K d_Store_surrounded ["self", "parts", "row", "column", "none"] []
  m_Store_surrounded : Meth K C_Store "_surrounded" f_Store_surrounded
  f_with_places_around : Addr
  d_with_places_around : FuncData
  F_with_places_around : Fun K "_with_places_around" "_with_places_around" s_with_places_around f_with_places_around d_with_places_around
  b_with_places_around : Binds K d_with_places_around ["layout"] []
  g_with_places_around : mg "_with_places_around" = some (.ref f_with_places_around)
  f_World_init : Addr
  d_World_init : FuncData
  F_World_init : Fun K "__init__" "World.__init__" s_World_init f_World_init d_World_init
  b_World_init : Binds K d_World_init ["self", "rule"] []
  M_World : Mk K C_World f_World_init
  f_World_paste : Addr
  d_World_paste : FuncData
  F_World_paste : Fun K "paste" "World.paste" s_World_paste f_World_paste d_World_paste
  b_World_paste : Binds K d_World_paste ["self", "cells", "row", "column", "mode"] []
  m_World_paste : Meth K C_World "paste" f_World_paste
  f_World_leap : Addr
  d_World_leap : FuncData
  F_World_leap : Fun K "leap" "World.leap" s_World_leap f_World_leap d_World_leap
  b_World_leap : Binds K d_World_leap ["self", "generations"] []
  m_World_leap : Meth K C_World "leap" f_World_leap
  f_World_tidy : Addr
  d_World_tidy : FuncData
  F_World_tidy : Fun K "tidy" "World.tidy" s_World_tidy f_World_tidy d_World_tidy
  b_World_tidy : Binds K d_World_tidy ["self"] []
  m_World_tidy : Meth K C_World "tidy" f_World_tidy
  f_World_count : Addr
  d_World_count : FuncData
  F_World_count : Fun K "count" "World.count" s_World_count f_World_count d_World_count
  b_World_count : Binds K d_World_count ["self"] []
  m_World_count : Meth K C_World "count" f_World_count
  f_World_cells : Addr
  d_World_cells : FuncData
  F_World_cells : Fun K "cells" "World.cells" s_World_cells f_World_cells d_World_cells
  b_World_cells : Binds K d_World_cells ["self"] []
  m_World_cells : Meth K C_World "cells" f_World_cells
  f_World_cells_of_blocks : Addr
  d_World_cells_of_blocks : FuncData
  F_World_cells_of_blocks : Fun K "_cells_of_blocks" "World._cells_of_blocks" s_World_cells_of_blocks f_World_cells_of_blocks d_World_cells_of_blocks
  b_World_cells_of_blocks : Binds K d_World_cells_of_blocks ["self", "places"] []
  m_World_cells_of_blocks : Meth K C_World "_cells_of_blocks" f_World_cells_of_blocks
  f_Rule_init : Addr
  d_Rule_init : FuncData
  F_Rule_init : Fun K "__init__" "Rule.__init__" s_Rule_init f_Rule_init d_Rule_init
  b_Rule_init : Binds K d_Rule_init ["self", "births", "survival"] []
  M_Rule : Mk K C_Rule f_Rule_init
  f_law_cell : Addr
  d_law_cell : FuncData
  F_law_cell : Fun K "_law_cell" "_law_cell" s_law_cell f_law_cell d_law_cell
  b_law_cell : Binds K d_law_cell ["script", "k"] []
  g_law_cell : mg "_law_cell" = some (.ref f_law_cell)
  f_law_row : Addr
  d_law_row : FuncData
  F_law_row : Fun K "_law_row" "_law_row" s_law_row f_law_row d_law_row
  b_law_row : Binds K d_law_row ["cell", "count", "bound"] []
  g_law_row : mg "_law_row" = some (.ref f_law_row)
  f_law_numbers : Addr
  d_law_numbers : FuncData
  F_law_numbers : Fun K "_law_numbers" "_law_numbers" s_law_numbers f_law_numbers d_law_numbers
  b_law_numbers : Binds K d_law_numbers ["cell"] []
  g_law_numbers : mg "_law_numbers" = some (.ref f_law_numbers)
  f_law_some : Addr
  d_law_some : FuncData
  F_law_some : Fun K "_law_some" "_law_some" s_law_some f_law_some d_law_some
  b_law_some : Binds K d_law_some ["cell", "count", "height", "width"] []
  g_law_some : mg "_law_some" = some (.ref f_law_some)
  f_law_image : Addr
  d_law_image : FuncData
  F_law_image : Fun K "_law_image" "_law_image" s_law_image f_law_image d_law_image
  b_law_image : Binds K d_law_image ["cells", "turns", "flipped", "r", "c"] []
  g_law_image : mg "_law_image" = some (.ref f_law_image)
  f_law : Addr
  d_law : FuncData
  F_law : Fun K "law" "law" s_law f_law d_law
  b_law : Binds K d_law ["script"] []
  g_law : mg "law" = some (.ref f_law)
  z_divmod : mg "divmod" = none
  z_range : mg "range" = none
  z_len : mg "len" = none
  z_tuple : mg "tuple" = none
  z_enumerate : mg "enumerate" = none
  z_list : mg "list" = none
  z_max : mg "max" = none
  z_sum : mg "sum" = none
  z_sorted : mg "sorted" = none
  z_set : mg "set" = none
  z_int : mg "int" = none
  z_abs : mg "abs" = none
  c_SIDE : ∃ u, mg "SIDE" = some u ∧ RelV (.int (32)) u
  c_TOP : ∃ u, mg "TOP" = some u ∧ RelV (.int (5)) u
end My
namespace My
open PySem PySem.Spec PyProof.Rows L2 Vx
open TL
local macro_rules | `(tactic| k_invariant "new" ($n, $H:ident, $e:ident, $h:ident)) => `(tactic| (generalize hE : upd _ _ _ = $H; obtain ⟨$e:ident, $h:ident⟩ := gen_e hE $n; clear hE))
local macro_rules | `(tactic| k_places) => `(tactic| first
  | assumption
  | exact lst_of (by assumption)
  | exact tup_of (by assumption)
  | (refine getS (by assumption) ?_; k_places)
  | (refine Same.seq (by assumption) ?_; k_places)
  | (refine tupS (by assumption) ?_; k_places)
  | (refine lst_of ?_; k_places)
  | (refine tup_of ?_; k_places))
local macro_rules | `(tactic| k_subL) => `(tactic| first
  | k_places
  | solve_by_elim (maxDepth := 10) [getS, lst_of, tup_of, Same.seq, tupS])
local macro_rules | `(tactic| k_offL) => `(tactic| first
  | (show (0 : Int) < _; first | omega | decide)
  | (refine ⟨?_, ?_⟩ <;> first | omega | decide)
  | exact .inr ⟨by decide, by decide⟩
  | exact .inl ⟨by decide, by decide⟩
  | exact .inl ⟨by omega, by omega⟩
  | omega)
local macro_rules | `(tactic| k_clsL) => `(tactic| exact Nat.le_of_ble_eq_true rfl)
local macro_rules | `(tactic| k_upd) => `(tactic| simp only [L2.start, List.map_cons, List.map_nil, List.length_cons, List.length_nil, List.replicate_succ, List.replicate_zero, List.cons_append, List.nil_append, List.set_cons_zero, List.set_cons_succ])
section
variable {P : Program} {w : World} {K : PySem.W.Frag} {mg : Str → Option Value} {base : Heap}
/-! ### rules -/
theorem bs_ne : ¬ (("births" : Str) = "survival") := by decide +kernel
theorem sb_ne : ¬ (("survival" : Str) = "births") := by decide +kernel
def rf (tb ts : Addr) : List (Str × V) := putF "survival" (.ref ts) (putF "births" (.ref tb) [])
theorem rf_b (tb ts : Addr) : (rf tb ts).lookup ("births" : Str) = some (.ref tb) := by
  unfold rf
  rw [lookup_putF, if_neg bs_ne, lookup_putF, if_pos rfl]
theorem rf_s (tb ts : Addr) : (rf tb ts).lookup ("survival" : Str) = some (.ref ts) := by
  unfold rf
  rw [lookup_putF, if_pos rfl]
theorem rf_no (tb ts : Addr) {m : Str} (h1 : ¬ m = "survival") (h2 : ¬ m = "births") : (rf tb ts).lookup m = none := by
  unfold rf
  rw [lookup_putF, if_neg h1, lookup_putF, if_neg h2]
  rfl
def RuleAt (C : Addr) (H : Hp) (r : Addr) (bs ss : List Int) : Prop :=
  ∃ dx tb ts, H r = some (.ins C dx (rf tb ts)) ∧ H tb = some (.tup (bs.map V.int)) ∧ H ts = some (.tup (ss.map V.int))
theorem RuleAt.up {C : Addr} {H H' : Hp} {r : Addr} {bs ss : List Int} (e : Same H H') (h : RuleAt C H r bs ss) : RuleAt C H' r bs ss := by
  obtain ⟨dx, tb, ts, h1, h2, h3⟩ := h
  exact ⟨dx, tb, ts, e _ _ h1, e _ _ h2, e _ _ h3⟩
def Canon (ns l : List Int) : Prop := l.Pairwise (· < ·) ∧ ∀ k, k ∈ l ↔ k ∈ ns
theorem canon_eq {ns l m : List Int} (h : Canon ns l) (h2 : m.Pairwise (· < ·)) (h3 : ∀ k, k ∈ ns ↔ k ∈ m) : l = m := asc_eq h.1 h2 fun k => (h.2 k).trans (h3 k)
def sp_Rule_init (K : PySem.W.Frag) (C : Addr) : Sp := fun vs H Q _ => ∃ (H0 : Hp) (r lb ls dx : Addr) (nb ns : List Int), vs = [.ref r, .ref lb, .ref ls] ∧ Same H0 H ∧ H0 r = none ∧ H r = some (.ins C dx []) ∧
  SqL K H0 lb (nb.map V.int) ∧ SqL K H0 ls (ns.map V.int) ∧ nb.length ≤ 63 ∧ ns.length ≤ 63 ∧
  ∀ (H' : Hp) (bs ss : List Int), Same H0 H' → RuleAt C H' r bs ss → Canon nb bs → Canon ns ss → Q .non H'
theorem ok_Rule_init (T : Txt K mg) : FnOk P w K mg base CX0 1 T.f_Rule_init T.d_Rule_init ["self", "births", "survival"] (sp_Rule_init K T.C_Rule) := by
  refine T.F_Rule_init.ok sc_Rule_init (fun vs H Q E h => ?_) (fun cdv A outer s H vs Q E hr h => ?_)
  · obtain ⟨_, _, _, _, _, _, _, rfl, _⟩ := h
    rfl
  · obtain ⟨H0, r, lb, ls, dx, nb, ns, rfl, s0, r0, hr0, hb, hs, l1, l2, q⟩ := h
    refine ⟨_, (pss_cons (ps_fld (pv 0) (pe_callTy call_tupL (by rfl) T.z_tuple (by decide +kernel) (pa_cons (pe_callB (cr_sortedSet rfl) (by rfl) T.z_sorted (by decide +kernel) (pa_cons (pe_callTy (cr_setL rfl) (by rfl) T.z_set (by decide +kernel) (pa_cons (pv 1) pa_nil)) pa_nil)) pa_nil)) rfl)
      (pss_one (ps_fld (pv 0) (pe_callTy call_tupL (by rfl) T.z_tuple (by decide +kernel) (pa_cons (pe_callB (cr_sortedSet rfl) (by rfl) T.z_sorted (by decide +kernel) (pa_cons (pe_callTy (cr_setL rfl) (by rfl) T.z_set (by decide +kernel) (pa_cons (pv 2) pa_nil)) pa_nil)) pa_nil)) rfl))), ?_⟩
    refine ⟨_, rfl, lb, nb, rfl, s0.seq hb, Nat.lt_of_le_of_lt (Nat.add_le_add_right l1 1) (by decide), fun p1 c1 n1 hc1 => ?_⟩
    k_invariant "new" (n1, H1, e1, h1)
    refine ⟨_, _, _, rfl, h1, by omega, fun bs p2 pw1 mem1 len1 n2 => ?_⟩
    k_invariant "new" (n2, H2, e2, h2)
    refine ⟨_, _, rfl, lst_of h2, fun p3 n3 => ?_⟩
    k_invariant "new" (n3, H3, e3, h3)
    refine ⟨_, rfl, r, T.C_Rule, dx, [], rfl, by k_subL, T.cl_Rule, T.na_Rule_births, (by show 0 < 1000; decide), ?_⟩
    have s3 : Same H0 H3 := s0.trans (e1.trans (e2.trans e3))
    have r3 : p3 ≠ r := fun e => by
      have : H3 r = some (.ins T.C_Rule dx []) := by k_subL
      rw [e] at h3
      rw [h3] at this
      cases this
    have s4 : Same H0 (upd H3 r (.ins T.C_Rule dx (putF "births" (.ref p3) []))) := mutS s3 r0
    have g4 : upd H3 r (.ins T.C_Rule dx (putF "births" (.ref p3) [])) r = some (.ins T.C_Rule dx (putF "births" (.ref p3) [])) := upd_same
    have g3 : upd H3 r (.ins T.C_Rule dx (putF "births" (.ref p3) [])) p3 = some (.tup (bs.map V.int)) := by rw [upd_ne r3]; exact h3
    generalize upd H3 r (.ins T.C_Rule dx (putF "births" (.ref p3) [])) = H4 at s4 g4 g3
    refine ⟨_, rfl, ls, ns, rfl, s4.seq hs, Nat.lt_of_le_of_lt (Nat.add_le_add_right l2 1) (by decide), fun p5 c2 n5 hc2 => ?_⟩
    k_invariant "new" (n5, H5, e5, h5)
    refine ⟨_, _, _, rfl, h5, by omega, fun ss p6 pw2 mem2 len2 n6 => ?_⟩
    k_invariant "new" (n6, H6, e6, h6)
    refine ⟨_, _, rfl, lst_of h6, fun p7 n7 => ?_⟩
    k_invariant "new" (n7, H7, e7, h7)
    have g8 : H7 r = some (.ins T.C_Rule dx (putF "births" (.ref p3) [])) := by k_subL
    refine ⟨_, rfl, r, T.C_Rule, dx, _, rfl, g8, T.cl_Rule, T.na_Rule_survival, (by show 1 < 1000; decide), ?_⟩
    have r7 : p7 ≠ r := fun e => by
      have : H7 r = some (.ins T.C_Rule dx (putF "births" (.ref p3) [])) := by k_subL
      rw [e] at h7
      rw [h7] at this
      cases this
    have g7 : H7 p3 = some (.tup (bs.map V.int)) := by k_subL
    refine q _ bs ss (mutS (s4.trans (e5.trans (e6.trans e7))) r0) ⟨dx, p3, p7, upd_same, ?_, ?_⟩ ⟨pw1, fun k => (mem1 k).trans (by simp)⟩ ⟨pw2, fun k => (mem2 k).trans (by simp)⟩
    · rw [upd_ne r3]; exact g7
    · rw [upd_ne r7]; exact h7
/-! ### three rows of bits counted -/
def ones3 (l a r : Nat) : Nat := (l ^^^ r) ^^^ a
def twos3 (l a r : Nat) : Nat := (l &&& r) ||| ((l ^^^ r) &&& a)
def sp_sums_of : Sp := fun vs H Q _ => ∃ (l a r : Nat), vs = [.int (l : Int), .int (a : Int), .int (r : Int)] ∧
  ∀ (H' : Hp) (p : Addr), Same H H' → H p = none → H' p = some (.tup [.int (ones3 l a r : Nat), .int (twos3 l a r : Nat)]) → Q (.ref p) H'
theorem ok_sums_of (T : Txt K mg) : FnOk P w K mg base CX0 1 T.f_sums_of T.d_sums_of ["left", "alive", "right"] sp_sums_of := by
  refine T.F_sums_of.ok sc_sums_of (fun vs H Q E h => ?_) (fun cdv A outer s H vs Q E hr h => ?_)
  · obtain ⟨_, _, _, rfl, _⟩ := h
    rfl
  · obtain ⟨l, a, r, rfl, q⟩ := h
    refine ⟨_, (pss_cons (ps_set (i := 3) sc_sums_of.nd rfl (.inl rfl) (pe_op op_xorNN (pv 0) (pv 2)))
      (pss_one (ps_ret (pe_tup (pa_cons (pe_op op_xorNN (pv 3) (pv 1)) (pa_cons (pe_op op_orNN (pe_op op_andNN (pv 0) (pv 2)) (pe_op op_andNN (pv 3) (pv 1))) pa_nil)))))), ?_⟩
    exact ⟨_, rfl, _, rfl, _, _, rfl, rfl, _, rfl, _, rfl, _, _, rfl, rfl, _, rfl, _, rfl, _, _, rfl, rfl, _, rfl, _, rfl, _, _, rfl, rfl, _, _, rfl, rfl, (by k_clsL), fun p n => q _ p (newS n) n upd_same⟩
def one9 (ao ho bo : Nat) : Nat := (ao ^^^ bo) ^^^ ho
def car9 (ao ho bo : Nat) : Nat := (ao &&& bo) ||| ((ao ^^^ bo) &&& ho)
def two9 (ao at' ho ht bo bt : Nat) : Nat := (at' ^^^ bt) ^^^ (ht ^^^ car9 ao ho bo)
def four9 (ao at' ho ht bo bt : Nat) : Nat := ((at' &&& bt) ^^^ (ht &&& car9 ao ho bo)) ||| ((at' ^^^ bt) &&& (ht ^^^ car9 ao ho bo))
def eight9 (ao at' ho ht bo bt : Nat) : Nat := (at' &&& bt) &&& (ht &&& car9 ao ho bo)
def sp_totals_of : Sp := fun vs H Q _ => ∃ (pa ph pb : Addr) (ao at' ho ht bo bt : Nat), vs = [.ref pa, .ref ph, .ref pb] ∧
  H pa = some (.tup [.int (ao : Int), .int (at' : Int)]) ∧ H ph = some (.tup [.int (ho : Int), .int (ht : Int)]) ∧ H pb = some (.tup [.int (bo : Int), .int (bt : Int)]) ∧
  ∀ (H' : Hp) (p : Addr), Same H H' → H p = none → H' p = some (.tup [.int (one9 ao ho bo : Nat), .int (two9 ao at' ho ht bo bt : Nat), .int (four9 ao at' ho ht bo bt : Nat), .int (eight9 ao at' ho ht bo bt : Nat)]) → Q (.ref p) H'
theorem ok_totals_of (T : Txt K mg) : FnOk P w K mg base CX0 1 T.f_totals_of T.d_totals_of ["above", "here", "below"] sp_totals_of := by
  refine T.F_totals_of.ok sc_totals_of (fun vs H Q E h => ?_) (fun cdv A outer s H vs Q E hr h => ?_)
  · obtain ⟨_, _, _, _, _, _, _, _, _, rfl, _⟩ := h
    rfl
  · obtain ⟨pa, ph, pb, ao, at', ho, ht, bo, bt, rfl, ha, hh, hb, q⟩ := h
    refine ⟨_, (pss_cons (ps_asg (pv 0) (pg_tupK (K := K) (n := 2) rfl rfl (pgs_cons (pg_name (i := 3) sc_totals_of.nd rfl (.inl rfl)) (pgs_cons (pg_name (i := 4) sc_totals_of.nd rfl (.inl rfl)) pgs_nil))))
      (pss_cons (ps_asg (pv 1) (pg_tupK (K := K) (n := 2) rfl rfl (pgs_cons (pg_name (i := 5) sc_totals_of.nd rfl (.inl rfl)) (pgs_cons (pg_name (i := 6) sc_totals_of.nd rfl (.inl rfl)) pgs_nil))))
      (pss_cons (ps_asg (pv 2) (pg_tupK (K := K) (n := 2) rfl rfl (pgs_cons (pg_name (i := 7) sc_totals_of.nd rfl (.inl rfl)) (pgs_cons (pg_name (i := 8) sc_totals_of.nd rfl (.inl rfl)) pgs_nil))))
      (pss_cons (ps_set (i := 9) sc_totals_of.nd rfl (.inl rfl) (pe_op op_xorNN (pv 3) (pv 7)))
      (pss_cons (ps_set (i := 10) sc_totals_of.nd rfl (.inl rfl) (pe_op op_orNN (pe_op op_andNN (pv 3) (pv 7)) (pe_op op_andNN (pv 9) (pv 5))))
      (pss_cons (ps_set (i := 11) sc_totals_of.nd rfl (.inl rfl) (pe_op op_xorNN (pv 4) (pv 8)))
      (pss_cons (ps_set (i := 12) sc_totals_of.nd rfl (.inl rfl) (pe_op op_xorNN (pv 6) (pv 10)))
      (pss_cons (ps_set (i := 13) sc_totals_of.nd rfl (.inl rfl) (pe_op op_andNN (pv 4) (pv 8)))
      (pss_cons (ps_set (i := 14) sc_totals_of.nd rfl (.inl rfl) (pe_op op_andNN (pv 6) (pv 10)))
      (pss_cons (ps_set (i := 15) sc_totals_of.nd rfl (.inl rfl) (pe_op op_orNN (pe_op op_xorNN (pv 13) (pv 14)) (pe_op op_andNN (pv 11) (pv 12))))
      (pss_one (ps_ret (pe_tup (pa_cons (pe_op op_xorNN (pv 9) (pv 5)) (pa_cons (pe_op op_xorNN (pv 11) (pv 12)) (pa_cons (pv 15) (pa_cons (pe_op op_andNN (pv 13) (pv 14)) pa_nil))))))))))))))))), ?_⟩
    k_upd
    refine ⟨_, rfl, pa, _, rfl, tup_of ha, rfl, _, _, rfl, _, _, rfl, rfl, ?_⟩
    k_upd
    refine ⟨_, rfl, ph, _, rfl, tup_of hh, rfl, _, _, rfl, _, _, rfl, rfl, ?_⟩
    k_upd
    refine ⟨_, rfl, pb, _, rfl, tup_of hb, rfl, _, _, rfl, _, _, rfl, rfl, ?_⟩
    k_upd
    refine ⟨_, rfl, _, rfl, _, _, rfl, rfl, ?_⟩
    k_upd
    refine ⟨_, rfl, _, rfl, _, _, rfl, rfl, _, rfl, _, rfl, _, _, rfl, rfl, _, _, rfl, rfl, ?_⟩
    k_upd
    refine ⟨_, rfl, _, rfl, _, _, rfl, rfl, ?_⟩
    k_upd
    refine ⟨_, rfl, _, rfl, _, _, rfl, rfl, ?_⟩
    k_upd
    refine ⟨_, rfl, _, rfl, _, _, rfl, rfl, ?_⟩
    k_upd
    refine ⟨_, rfl, _, rfl, _, _, rfl, rfl, ?_⟩
    k_upd
    refine ⟨_, rfl, _, rfl, _, _, rfl, rfl, _, rfl, _, rfl, _, _, rfl, rfl, _, _, rfl, rfl, ?_⟩
    k_upd
    refine ⟨_, rfl, _, rfl, _, _, rfl, rfl, _, rfl, _, rfl, _, _, rfl, rfl, _, rfl, _, rfl, _, rfl, _, _, rfl, rfl, (by k_clsL), fun p n => q _ p (newS n) n upd_same⟩
/-! ### the next strip -/
def near9 (o t f e : Nat) : Nat := ((o ||| t) ||| f) ||| e
def low4 (o t f e : Nat) : Nat → Nat
  | 0 => (near9 o t f e ^^^ o) &&& (near9 o t f e ^^^ t)
  | 1 => o &&& (near9 o t f e ^^^ t)
  | 2 => (near9 o t f e ^^^ o) &&& t
  | _ => o &&& t
def high3 (o t f e : Nat) : Nat → Nat
  | 0 => near9 o t f e ^^^ (f ||| e)
  | 1 => f
  | _ => e
def pick (o t f e n : Nat) : Nat := low4 o t f e (n % 4) &&& high3 o t f e (n / 4)
def picks (o t f e : Nat) (ns : List Nat) : Nat := ns.foldl (fun acc n => acc ||| pick o t f e n) 0
def nextN (alive o t f e : Nat) (bs ss : List Int) : Nat :=
  (picks o t f e (bs.map Int.toNat) &&& (near9 o t f e ^^^ alive)) ||| (picks o t f e (ss.map fun n => n.toNat + 1) &&& alive)
theorem at_low (o t f e : Nat) {k : Nat} (h : k < 4) : atI [V.int (((near9 o t f e ^^^ o) &&& (near9 o t f e ^^^ t) : Nat) : Int), .int ((o &&& (near9 o t f e ^^^ t) : Nat) : Int), .int (((near9 o t f e ^^^ o) &&& t : Nat) : Int), .int ((o &&& t : Nat) : Int)] (k : Int) = some (.int (low4 o t f e k : Nat)) := by
  match k, h with
  | 0, _ => rfl
  | 1, _ => rfl
  | 2, _ => rfl
  | 3, _ => rfl
theorem at_high (o t f e : Nat) {k : Nat} (h : k < 3) : atI [V.int ((near9 o t f e ^^^ (f ||| e) : Nat) : Int), .int (f : Int), .int (e : Int)] (k : Int) = some (.int (high3 o t f e k : Nat)) := by
  match k, h with
  | 0, _ => rfl
  | 1, _ => rfl
  | 2, _ => rfl
theorem and3 (m : Nat) : m &&& 3 = m % 4 := Nat.and_two_pow_sub_one_eq_mod m 2
theorem shr2 (m : Nat) : m >>> 2 = m / 4 := by rw [Nat.shiftRight_eq_div_pow]
def sp_next_strip (C : Addr) : Sp := fun vs H Q _ => ∃ (pt r : Addr) (alive o t f e : Nat) (bs ss : List Int), vs = [.int (alive : Int), .ref pt, .ref r] ∧
  H pt = some (.tup [.int (o : Int), .int (t : Int), .int (f : Int), .int (e : Int)]) ∧ RuleAt C H r bs ss ∧ (∀ b ∈ bs, 0 ≤ b ∧ b ≤ 8) ∧ (∀ b ∈ ss, 0 ≤ b ∧ b ≤ 8) ∧
  ∀ (H' : Hp), Same H H' → Q (.int (nextN alive o t f e bs ss : Nat)) H'
theorem ok_next_strip (T : Txt K mg) : FnOk P w K mg base CX0 1 T.f_next_strip T.d_next_strip ["alive", "totals", "rule"] (sp_next_strip T.C_Rule) := by
  refine T.F_next_strip.ok sc_next_strip (fun vs H Q E h => ?_) (fun cdv A outer s H vs Q E hr h => ?_)
  · obtain ⟨_, _, _, _, _, _, _, _, _, rfl, _⟩ := h
    rfl
  · obtain ⟨pt, r, alive, o, t, f, e, bs, ss, rfl, hp, hR, bb, bss, q⟩ := h
    refine ⟨_, (pss_cons (ps_asg (pv 1) (pg_tupK (K := K) (n := 4) rfl rfl (pgs_cons (pg_name (i := 3) sc_next_strip.nd rfl (.inl rfl)) (pgs_cons (pg_name (i := 4) sc_next_strip.nd rfl (.inl rfl)) (pgs_cons (pg_name (i := 5) sc_next_strip.nd rfl (.inl rfl)) (pgs_cons (pg_name (i := 6) sc_next_strip.nd rfl (.inl rfl)) pgs_nil))))))
      (pss_cons (ps_set (i := 7) sc_next_strip.nd rfl (.inl rfl) (pe_op op_orNN (pe_op op_orNN (pe_op op_orNN (pv 3) (pv 4)) (pv 5)) (pv 6)))
      (pss_cons (ps_set (i := 8) sc_next_strip.nd rfl (.inl rfl) (pe_op op_xorNN (pv 7) (pv 3)))
      (pss_cons (ps_set (i := 9) sc_next_strip.nd rfl (.inl rfl) (pe_op op_xorNN (pv 7) (pv 4)))
      (pss_cons (ps_set (i := 10) sc_next_strip.nd rfl (.inl rfl) (pe_tup (pa_cons (pe_op op_andNN (pv 8) (pv 9)) (pa_cons (pe_op op_andNN (pv 3) (pv 9)) (pa_cons (pe_op op_andNN (pv 8) (pv 4)) (pa_cons (pe_op op_andNN (pv 3) (pv 4)) pa_nil))))))
      (pss_cons (ps_set (i := 11) sc_next_strip.nd rfl (.inl rfl) (pe_tup (pa_cons (pe_op op_xorNN (pv 7) (pe_op op_orNN (pv 5) (pv 6))) (pa_cons (pv 5) (pa_cons (pv 6) pa_nil)))))
      (pss_cons (ps_set (i := 12) sc_next_strip.nd rfl (.inl rfl) pe_int)
      (pss_cons (ps_for PassesOwn.never rfl (pi_tup (pe_fld (pv 2) rfl)) (pg_name (i := 13) sc_next_strip.nd rfl (.inl rfl))
      (pss_one (ps_aug (i := 12) sc_next_strip.nd rfl (.inl rfl) (pe_op op_andNN (pe_ix (ix_tupK (K := K) rfl) (pv 10) (pe_op op_andNN (pv 13) pe_int) (fun _ _ => rfl)) (pe_ix (ix_tupK (K := K) rfl) (pv 11) (pe_op op_shrNN (pv 13) pe_int) (fun _ _ => rfl))) ip_orNN)))
      (pss_cons (ps_set (i := 14) sc_next_strip.nd rfl (.inl rfl) pe_int)
      (pss_cons (ps_for PassesOwn.never rfl (pi_tup (pe_fld (pv 2) rfl)) (pg_name (i := 13) sc_next_strip.nd rfl (.inl rfl))
      (pss_cons (ps_set (i := 15) sc_next_strip.nd rfl (.inl rfl) (pe_op op_add (pv 13) pe_int))
      (pss_one (ps_aug (i := 14) sc_next_strip.nd rfl (.inl rfl) (pe_op op_andNN (pe_ix (ix_tupK (K := K) rfl) (pv 10) (pe_op op_andNN (pv 15) pe_int) (fun _ _ => rfl)) (pe_ix (ix_tupK (K := K) rfl) (pv 11) (pe_op op_shrNN (pv 15) pe_int) (fun _ _ => rfl))) ip_orNN))))
      (pss_one (ps_ret (pe_op op_orNN (pe_op op_andNN (pv 12) (pe_op op_xorNN (pv 7) (pv 0))) (pe_op op_andNN (pv 14) (pv 0))))))))))))))), ?_⟩
    k_upd
    refine ⟨_, rfl, pt, _, rfl, tup_of hp, rfl, _, _, rfl, _, _, rfl, _, _, rfl, _, _, rfl, rfl, ?_⟩
    k_upd
    refine ⟨_, rfl, _, rfl, _, _, rfl, rfl, _, rfl, _, _, rfl, rfl, _, rfl, _, _, rfl, rfl, ?_⟩
    k_upd
    refine ⟨_, rfl, _, rfl, _, _, rfl, rfl, ?_⟩
    k_upd
    refine ⟨_, rfl, _, rfl, _, _, rfl, rfl, ?_⟩
    k_upd
    refine ⟨_, rfl, _, rfl, _, _, rfl, rfl, _, rfl, _, rfl, _, _, rfl, rfl, _, rfl, _, rfl, _, _, rfl, rfl, _, rfl, _, rfl, _, _, rfl, rfl, (by k_clsL), fun pl nl => ?_⟩
    k_upd
    k_invariant "new" (nl, H1, e1, h1)
    refine ⟨_, rfl, _, rfl, _, rfl, _, _, rfl, rfl, _, _, rfl, rfl, _, rfl, _, rfl, (by k_clsL), fun ph nh => ?_⟩
    k_upd
    k_invariant "new" (nh, H2, e2, h2)
    have h1 := e2 _ _ h1
    obtain ⟨dx, tb, ts, r1, r2, r3⟩ := hR.up (e1.trans e2)
    refine ⟨_, rfl, r, _, _, _, _, rfl, r1, T.cl_Rule, T.na_Rule_births, rf_b _ _, tb, rfl, ⟨_, tup_of r2⟩, ?_⟩
    refine for_it (walk_tup (K := K) (a := tb) (xs := bs.map V.int)) (fun i σ H' => H' = H2 ∧ ∃ n : Option V, σ = [some (.int (alive : Int)), some (.ref pt), some (.ref r), some (.int (o : Int)), some (.int (t : Int)), some (.int (f : Int)), some (.int (e : Int)), some (.int (near9 o t f e : Nat)), some (.int ((near9 o t f e ^^^ o : Nat))), some (.int ((near9 o t f e ^^^ t : Nat))), some (.ref pl), some (.ref ph), some (.int (picks o t f e ((bs.take i).map Int.toNat) : Nat)), n, none, none])
      ⟨rfl, _, rfl⟩ (fun i σ H' _ p => by rw [p.1]; exact tup_of r2) ?_ ?_
    · rintro i x σ H' H'' hi ⟨rfl, n, rfl⟩ ⟨rfl, hx⟩
      obtain ⟨z, rfl, hz, mz⟩ := item_ints hx
      have bz := bb z mz
      obtain ⟨m, rfl⟩ := Int.eq_ofNat_of_zero_le bz.1
      have m4 : m % 4 < 4 := Nat.mod_lt _ (by decide)
      have m3 : m / 4 < 3 := by omega
      refine ⟨_, rfl, _, rfl, _, rfl, m, 3, rfl, rfl, pl, _, _, _, rfl, rfl, tup_of h1, (by rw [and3]; exact at_low o t f e m4), ?_⟩
      refine ⟨_, rfl, _, rfl, m, 2, rfl, rfl, ph, _, _, _, rfl, rfl, tup_of h2, (by rw [shr2]; exact at_high o t f e m3), _, _, rfl, rfl, ?_⟩
      refine ⟨_, _, rfl, rfl, ?_⟩
      k_upd
      refine ⟨trivial, some (.int (m : Int)), ?_⟩
      rw [take_next hz, List.map_append]
      unfold picks
      rw [List.foldl_append]
      rfl
    · rintro σ H' ⟨rfl, n, rfl⟩
      rw [List.length_map, List.take_of_length_le (Nat.le_refl _)]
      refine ⟨_, rfl, r, _, _, _, _, rfl, r1, T.cl_Rule, T.na_Rule_survival, rf_s _ _, ts, rfl, ⟨_, tup_of r3⟩, ?_⟩
      refine for_it (walk_tup (K := K) (a := ts) (xs := ss.map V.int)) (fun i σ H'' => H'' = H' ∧ ∃ n n2 : Option V, σ = [some (.int (alive : Int)), some (.ref pt), some (.ref r), some (.int (o : Int)), some (.int (t : Int)), some (.int (f : Int)), some (.int (e : Int)), some (.int (near9 o t f e : Nat)), some (.int ((near9 o t f e ^^^ o : Nat))), some (.int ((near9 o t f e ^^^ t : Nat))), some (.ref pl), some (.ref ph), some (.int (picks o t f e (bs.map Int.toNat) : Nat)), n, some (.int (picks o t f e ((ss.take i).map fun n => n.toNat + 1) : Nat)), n2])
        ⟨rfl, _, _, rfl⟩ (fun i σ H'' _ p => by rw [p.1]; exact tup_of r3) ?_ ?_
      · rintro i x σ H3 H4 hi ⟨rfl, n, n2, rfl⟩ ⟨rfl, hx⟩
        obtain ⟨z, rfl, hz, mz⟩ := item_ints hx
        have bz := bss z mz
        obtain ⟨m, rfl⟩ := Int.eq_ofNat_of_zero_le bz.1
        have m4 : (m + 1) % 4 < 4 := Nat.mod_lt _ (by decide)
        have m3 : (m + 1) / 4 < 3 := by omega
        refine ⟨_, rfl, _, _, rfl, rfl, ?_⟩
        refine ⟨_, rfl, _, rfl, _, rfl, m + 1, 3, rfl, rfl, pl, _, _, _, rfl, rfl, tup_of h1, (by rw [and3]; exact at_low o t f e m4), ?_⟩
        refine ⟨_, rfl, _, rfl, m + 1, 2, rfl, rfl, ph, _, _, _, rfl, rfl, tup_of h2, (by rw [shr2]; exact at_high o t f e m3), _, _, rfl, rfl, ?_⟩
        refine ⟨_, _, rfl, rfl, ?_⟩
        k_upd
        refine ⟨trivial, some (.int (m : Int)), some (.int ((m : Int) + 1)), ?_⟩
        rw [take_next hz, List.map_append]
        unfold picks
        rw [List.foldl_append]
        rfl
      · rintro σ H3 ⟨rfl, n, n2, rfl⟩
        rw [List.length_map, List.take_of_length_le (Nat.le_refl _)]
        exact ⟨_, rfl, _, rfl, _, rfl, _, _, rfl, rfl, _, _, rfl, rfl, _, rfl, _, rfl, _, _, rfl, rfl, _, _, rfl, rfl, q _ (e1.trans e2)⟩
/-! ### blocks as numbers -/
def at32 (j : Nat) : Pr := (((j / 32 : Nat) : Int), ((j % 32 : Nat) : Int))
def cellsN (b : Nat) : List Pr := (bitsB 1024 b).map at32
def popN (b : Nat) : Nat := (bitsB 1024 b).length
def rowN (h : Nat) : Nat := 2 ^ h - 1
def fullN (l : Nat) : Nat := (2 ^ (2 ^ l) - 1) * ((2 ^ (2 ^ l * 32) - 1) / (2 ^ 32 - 1))
def cutN (l b row col : Nat) : Nat := (b >>> (row * 32 + col)) &&& fullN l
def putN (h a b c d : Nat) : Nat := ((a ||| b <<< h) ||| c <<< (h * 32)) ||| d <<< (h * 32 + h)
/-- all cells within the first 2^l rows and columns -/
def Fit (l b : Nat) : Prop := ∀ i, b.testBit i = true → i / 32 < 2 ^ l ∧ i % 32 < 2 ^ l
theorem cellsN_len (b : Nat) : (cellsN b).length = popN b := List.length_map ..
theorem bitsB_len (N n : Nat) : (bitsB N n).length ≤ N := by
  unfold bitsB
  exact Nat.le_trans (List.length_filter_le _ _) (by rw [List.length_range]; exact Nat.le_refl _)
theorem bitsB_asc (N n : Nat) : (bitsB N n).Pairwise (· < ·) := List.Pairwise.filter _ List.pairwise_lt_range
theorem at32_lt {i j : Nat} (h : i < j) : ltP (at32 i) (at32 j) := by
  rw [ltP_iff]
  unfold at32
  dsimp only
  omega
theorem at32_inj {i j : Nat} (h : at32 i = at32 j) : i = j := by
  unfold at32 at h
  injection h with h1 h2
  omega
theorem cellsN_asc (b : Nat) : (cellsN b).Pairwise ltP := List.pairwise_map.mpr ((bitsB_asc 1024 b).imp fun h => at32_lt h)
theorem mem_cellsN {b j : Nat} : at32 j ∈ cellsN b ↔ j < 1024 ∧ b.testBit j = true := by
  unfold cellsN
  rw [List.mem_map]
  constructor
  · rintro ⟨i, m, e⟩
    rw [at32_inj e] at m
    exact mem_bitsB.mp m
  · intro h
    exact ⟨j, mem_bitsB.mpr h, rfl⟩
theorem full_bits : ∀ l : Nat, l < 5 → ∀ i : Nat, i < 1024 → (fullN l).testBit i = (decide (i / 32 < 2 ^ l) && decide (i % 32 < 2 ^ l)) := by
  intro l hl
  have h0 : ∀ i, i < 1024 → (fullN 0).testBit i = (decide (i / 32 < 2 ^ 0) && decide (i % 32 < 2 ^ 0)) := by decide +kernel
  have h1 : ∀ i, i < 1024 → (fullN 1).testBit i = (decide (i / 32 < 2 ^ 1) && decide (i % 32 < 2 ^ 1)) := by decide +kernel
  have h2 : ∀ i, i < 1024 → (fullN 2).testBit i = (decide (i / 32 < 2 ^ 2) && decide (i % 32 < 2 ^ 2)) := by decide +kernel
  have h3 : ∀ i, i < 1024 → (fullN 3).testBit i = (decide (i / 32 < 2 ^ 3) && decide (i % 32 < 2 ^ 3)) := by decide +kernel
  have h4 : ∀ i, i < 1024 → (fullN 4).testBit i = (decide (i / 32 < 2 ^ 4) && decide (i % 32 < 2 ^ 4)) := by decide +kernel
  match l, hl with
  | 0, _ => exact h0
  | 1, _ => exact h1
  | 2, _ => exact h2
  | 3, _ => exact h3
  | 4, _ => exact h4
theorem full_lt {l : Nat} (h : l < 5) : fullN l < 2 ^ 1024 := by
  match l, h with
  | 0, _ => decide +kernel
  | 1, _ => decide +kernel
  | 2, _ => decide +kernel
  | 3, _ => decide +kernel
  | 4, _ => decide +kernel
theorem pow_le16 {l : Nat} (h : l < 5) : 2 ^ l ≤ 16 := by
  match l, h with
  | 0, _ => decide
  | 1, _ => decide
  | 2, _ => decide
  | 3, _ => decide
  | 4, _ => decide
theorem pow_le32 {l : Nat} (h : l < 6) : 2 ^ l ≤ 32 := by
  match l, h with
  | 0, _ => decide
  | 1, _ => decide
  | 2, _ => decide
  | 3, _ => decide
  | 4, _ => decide
  | 5, _ => decide
theorem fit_small {l b : Nat} (hl : l < 6) (h : Fit l b) : ∀ i, b.testBit i = true → i < 1024 := fun i t => by
  have := h i t
  have := pow_le32 hl
  omega
theorem fit_lt {l b : Nat} (hl : l < 6) (h : Fit l b) : b < 2 ^ 1024 := by
  refine Nat.lt_pow_two_of_testBit b fun i hi => ?_
  cases e : b.testBit i with
  | false => rfl
  | true =>
    have := fit_small hl h i e
    omega
theorem cut_bit {l b row col i : Nat} (hl : l < 5) : (cutN l b row col).testBit i = (b.testBit (row * 32 + col + i) && (decide (i / 32 < 2 ^ l) && decide (i % 32 < 2 ^ l))) := by
  unfold cutN
  rw [Nat.testBit_and, Nat.testBit_shiftRight]
  by_cases h : i < 1024
  · rw [full_bits l hl i h]
  · have z : (fullN l).testBit i = false := Nat.testBit_lt_two_pow (Nat.lt_of_lt_of_le (full_lt hl) (Nat.pow_le_pow_right (by decide) (by omega)))
    have := pow_le16 hl
    have z2 : decide (i / 32 < 2 ^ l) = false := decide_eq_false (by omega)
    rw [z, z2]
    simp
theorem cut_fit {l b row col : Nat} (hl : l < 5) : Fit l (cutN l b row col) := fun i h => by
  rw [cut_bit hl] at h
  simp only [Bool.and_eq_true, decide_eq_true_eq] at h
  exact h.2
theorem put_bit {h a b c d i : Nat} : (putN h a b c d).testBit i = (((a.testBit i || (decide (h ≤ i) && b.testBit (i - h))) || (decide (h * 32 ≤ i) && c.testBit (i - h * 32))) || (decide (h * 32 + h ≤ i) && d.testBit (i - (h * 32 + h)))) := by
  unfold putN
  rw [Nat.testBit_or, Nat.testBit_or, Nat.testBit_or, Nat.testBit_shiftLeft, Nat.testBit_shiftLeft, Nat.testBit_shiftLeft]
theorem put_cut {l b : Nat} (hl : l < 5) (hf : Fit (l + 1) b) : putN (2 ^ l) (cutN l b 0 0) (cutN l b 0 (2 ^ l)) (cutN l b (2 ^ l) 0) (cutN l b (2 ^ l) (2 ^ l)) = b := by
  refine Nat.eq_of_testBit_eq fun i => ?_
  rw [put_bit, cut_bit hl, cut_bit hl, cut_bit hl, cut_bit hl]
  have h16 := pow_le16 hl
  have p2 : 2 ^ (l + 1) = 2 * 2 ^ l := by rw [Nat.pow_succ, Nat.mul_comm]
  have hf := hf i
  rw [p2] at hf
  generalize 2 ^ l = h at *
  rw [Bool.eq_iff_iff]
  simp only [Bool.or_eq_true, Bool.and_eq_true, decide_eq_true_eq]
  constructor
  · rintro (((q | q) | q) | q)
    · rw [show 0 * 32 + 0 + i = i by omega] at q
      exact q.1
    · rw [show 0 * 32 + h + (i - h) = i by omega] at q
      exact q.2.1
    · rw [show h * 32 + 0 + (i - h * 32) = i by omega] at q
      exact q.2.1
    · rw [show h * 32 + h + (i - (h * 32 + h)) = i by omega] at q
      exact q.2.1
  · intro t
    have f := hf t
    by_cases r : i / 32 < h
    · by_cases c : i % 32 < h
      · refine .inl (.inl (.inl ⟨?_, r, c⟩))
        rw [show 0 * 32 + 0 + i = i by omega]
        exact t
      · refine .inl (.inl (.inr ⟨by omega, ?_, by omega, by omega⟩))
        rw [show 0 * 32 + h + (i - h) = i by omega]
        exact t
    · by_cases c : i % 32 < h
      · refine .inl (.inr ⟨by omega, ?_, by omega, by omega⟩)
        rw [show h * 32 + 0 + (i - h * 32) = i by omega]
        exact t
      · refine .inr ⟨by omega, ?_, by omega, by omega⟩
        rw [show h * 32 + h + (i - (h * 32 + h)) = i by omega]
        exact t
/-- the block of a list of cells -/
def bitOf (x : Pr) : Nat := x.1.toNat * 32 + x.2.toNat
def blockOf (ps : List Pr) : Nat := ps.foldl (fun acc x => acc ||| 1 <<< bitOf x) 0
def In32 (l : Nat) (ps : List Pr) : Prop := ∀ x ∈ ps, 0 ≤ x.1 ∧ x.1 < (2 ^ l : Nat) ∧ 0 ≤ x.2 ∧ x.2 < (2 ^ l : Nat)
theorem foldl_bits (ps : List Pr) : ∀ (a i : Nat), (ps.foldl (fun acc x => acc ||| 1 <<< bitOf x) a).testBit i = true ↔ a.testBit i = true ∨ ∃ x ∈ ps, bitOf x = i := by
  induction ps with
  | nil => intro a i; simp
  | cons x ps ih =>
    intro a i
    rw [List.foldl_cons, ih, Nat.testBit_or, Nat.one_shiftLeft, Nat.testBit_two_pow, Bool.or_eq_true, decide_eq_true_eq]
    constructor
    · rintro ((h | h) | ⟨y, m, e⟩)
      · exact .inl h
      · exact .inr ⟨x, List.mem_cons_self, h⟩
      · exact .inr ⟨y, List.mem_cons_of_mem _ m, e⟩
    · rintro (h | ⟨y, m, e⟩)
      · exact .inl (.inl h)
      · rcases List.mem_cons.mp m with z | m
        · rw [z] at e
          exact .inl (.inr e)
        · exact .inr ⟨y, m, e⟩
theorem blockOf_bit {ps : List Pr} {i : Nat} : (blockOf ps).testBit i = true ↔ ∃ x ∈ ps, bitOf x = i := by
  unfold blockOf
  rw [foldl_bits]
  simp
theorem bitOf_at {x : Pr} (h1 : 0 ≤ x.1) (h3 : 0 ≤ x.2) (h4 : x.2 < 32) : at32 (bitOf x) = x := by
  obtain ⟨a, b⟩ := x
  unfold at32 bitOf
  dsimp only at *
  refine Prod.ext ?_ ?_ <;> dsimp only <;> omega
theorem blockOf_fit {l : Nat} {ps : List Pr} (hl : l < 6) (h : In32 l ps) : Fit l (blockOf ps) := fun i t => by
  obtain ⟨x, m, e⟩ := blockOf_bit.mp t
  obtain ⟨h1, h2, h3, h4⟩ := h x m
  have := pow_le32 hl
  subst e
  unfold bitOf
  generalize 2 ^ l = p at *
  omega
theorem blockOf_cells {l : Nat} {ps : List Pr} (hl : l < 6) (h : In32 l ps) (asc : ps.Pairwise ltP) : cellsN (blockOf ps) = ps := by
  refine ascP_eq (cellsN_asc _) asc fun x => ?_
  constructor
  · intro m
    obtain ⟨j, mj, e⟩ := List.mem_map.mp m
    obtain ⟨y, my, ey⟩ := blockOf_bit.mp (mem_bitsB.mp mj).2
    obtain ⟨h1, h2, h3, h4⟩ := h y my
    have := pow_le32 hl
    rw [← ey, bitOf_at h1 h3 (by omega)] at e
    rw [← e]
    exact my
  · intro m
    obtain ⟨h1, h2, h3, h4⟩ := h x m
    have := pow_le32 hl
    have e := bitOf_at h1 h3 (by omega)
    rw [← e]
    have t : (blockOf ps).testBit (bitOf x) = true := blockOf_bit.mpr ⟨x, m, rfl⟩
    exact mem_cellsN.mpr ⟨fit_small hl (blockOf_fit hl h) _ t, t⟩
theorem blockOf_congr {ps qs : List Pr} (h : ∀ x, x ∈ ps ↔ x ∈ qs) : blockOf ps = blockOf qs := by
  refine Nat.eq_of_testBit_eq fun i => ?_
  rw [Bool.eq_iff_iff, blockOf_bit, blockOf_bit]
  exact ⟨fun ⟨x, m, e⟩ => ⟨x, (h x).mp m, e⟩, fun ⟨x, m, e⟩ => ⟨x, (h x).mpr m, e⟩⟩
theorem cells_block {b : Nat} (h : b < 2 ^ 1024) : blockOf (cellsN b) = b := by
  refine Nat.eq_of_testBit_eq fun i => ?_
  rw [Bool.eq_iff_iff, blockOf_bit]
  constructor
  · rintro ⟨x, m, e⟩
    obtain ⟨j, mj, ej⟩ := List.mem_map.mp m
    have : bitOf x = j := by
      rw [← ej]
      unfold bitOf at32
      dsimp only
      omega
    rw [← e, this]
    exact (mem_bitsB.mp mj).2
  · intro t
    have li : i < 1024 := by
      refine Nat.lt_of_not_le fun g => ?_
      rw [Nat.testBit_lt_two_pow (Nat.lt_of_lt_of_le h (Nat.pow_le_pow_right (by decide) g))] at t
      cases t
    refine ⟨at32 i, mem_cellsN.mpr ⟨li, t⟩, ?_⟩
    unfold bitOf at32
    dsimp only
    omega
theorem pop_zero {l b : Nat} (hl : l < 6) (h : Fit l b) : popN b = 0 ↔ b = 0 := by
  constructor
  · intro e
    rw [← cells_block (fit_lt hl h)]
    have : cellsN b = [] := by
      unfold cellsN
      rw [List.map_eq_nil_iff]
      exact List.eq_nil_of_length_eq_zero e
    rw [this]
    rfl
  · rintro rfl
    unfold popN
    rw [bits_zero]
    rfl
end
end My
namespace My
open PySem PySem.Spec PyProof.Rows L2 Vx
open TL
local macro_rules | `(tactic| k_invariant "new" ($n, $H:ident, $e:ident, $h:ident)) => `(tactic| (generalize hE : upd _ _ _ = $H; obtain ⟨$e:ident, $h:ident⟩ := gen_e hE $n; clear hE))
local macro_rules | `(tactic| k_places) => `(tactic| first
  | assumption
  | exact lst_of (by assumption)
  | exact tup_of (by assumption)
  | (refine getS (by assumption) ?_; k_places)
  | (refine Same.seq (by assumption) ?_; k_places)
  | (refine tupS (by assumption) ?_; k_places)
  | (refine lst_of ?_; k_places)
  | (refine tup_of ?_; k_places))
local macro_rules | `(tactic| k_subL) => `(tactic| first
  | k_places
  | solve_by_elim (maxDepth := 10) [getS, lst_of, tup_of, Same.seq, tupS])
local macro_rules | `(tactic| k_offL) => `(tactic| first
  | (show (0 : Int) < _; first | omega | decide)
  | (refine ⟨?_, ?_⟩ <;> first | omega | decide)
  | exact .inr ⟨by decide, by decide⟩
  | exact .inl ⟨by decide, by decide⟩
  | exact .inl ⟨by omega, by omega⟩
  | omega)
local macro_rules | `(tactic| k_clsL) => `(tactic| exact Nat.le_of_ble_eq_true rfl)
local macro_rules | `(tactic| k_upd) => `(tactic| simp only [L2.start, List.map_cons, List.map_nil, List.length_cons, List.length_nil, List.replicate_succ, List.replicate_zero, List.cons_append, List.nil_append, List.set_cons_zero, List.set_cons_succ])
section
variable {P : Program} {w : World} {K : PySem.W.Frag} {mg : Str → Option Value} {base : Heap}
/-! ### what the bits say -/
def nb (L : Int → Int → Bool) (r c : Int) : Nat :=
  (L (r - 1) (c - 1)).toNat + (L (r - 1) c).toNat + (L (r - 1) (c + 1)).toNat + (L r (c - 1)).toNat + (L r (c + 1)).toNat + (L (r + 1) (c - 1)).toNat + (L (r + 1) c).toNat + (L (r + 1) (c + 1)).toNat
def stepL (bs ss : List Int) (L : Int → Int → Bool) (r c : Int) : Bool := if L r c = true then decide ((nb L r c : Int) ∈ ss) else decide ((nb L r c : Int) ∈ bs)
def genL (bs ss : List Int) (L : Int → Int → Bool) : Nat → Int → Int → Bool
  | 0 => L
  | n + 1 => stepL bs ss (genL bs ss L n)
def oneB (l a r : Bool) : Bool := (l ^^ r) ^^ a
def twoB (l a r : Bool) : Bool := (l && r) || ((l ^^ r) && a)
def carB (ao ho bo : Bool) : Bool := (ao && bo) || ((ao ^^ bo) && ho)
def sum9 (a b c d e f g h i : Bool) : Nat := a.toNat + b.toNat + c.toNat + d.toNat + e.toNat + f.toNat + g.toNat + h.toNat + i.toNat
theorem bits9 : ∀ a b c d e f g h i : Bool,
    ((oneB a b c ^^ oneB g h i) ^^ oneB d e f) = decide (sum9 a b c d e f g h i % 2 = 1) ∧
    ((twoB a b c ^^ twoB g h i) ^^ (twoB d e f ^^ carB (oneB a b c) (oneB d e f) (oneB g h i))) = decide (sum9 a b c d e f g h i / 2 % 2 = 1) ∧
    (((twoB a b c && twoB g h i) ^^ (twoB d e f && carB (oneB a b c) (oneB d e f) (oneB g h i))) || ((twoB a b c ^^ twoB g h i) && (twoB d e f ^^ carB (oneB a b c) (oneB d e f) (oneB g h i)))) = decide (sum9 a b c d e f g h i / 4 % 2 = 1) ∧
    ((twoB a b c && twoB g h i) && (twoB d e f && carB (oneB a b c) (oneB d e f) (oneB g h i))) = decide (sum9 a b c d e f g h i / 8 % 2 = 1) ∧ sum9 a b c d e f g h i < 10 := by
  decide +kernel
def lowB (o t n : Bool) : Nat → Bool
  | 0 => (n ^^ o) && (n ^^ t)
  | 1 => o && (n ^^ t)
  | 2 => (n ^^ o) && t
  | _ => o && t
def highB (f e n : Bool) : Nat → Bool
  | 0 => n ^^ (f || e)
  | 1 => f
  | _ => e
theorem pickB : ∀ s < 10, ∀ n < 10, 1 ≤ n → (lowB (decide (s % 2 = 1)) (decide (s / 2 % 2 = 1)) (((decide (s % 2 = 1) || decide (s / 2 % 2 = 1)) || decide (s / 4 % 2 = 1)) || decide (s / 8 % 2 = 1)) (n % 4) &&
    highB (decide (s / 4 % 2 = 1)) (decide (s / 8 % 2 = 1)) (((decide (s % 2 = 1) || decide (s / 2 % 2 = 1)) || decide (s / 4 % 2 = 1)) || decide (s / 8 % 2 = 1)) (n / 4)) = decide (s = n) := by
  decide +kernel
theorem nearB : ∀ s < 10, (((decide (s % 2 = 1) || decide (s / 2 % 2 = 1)) || decide (s / 4 % 2 = 1)) || decide (s / 8 % 2 = 1)) = decide (s ≠ 0) := by decide +kernel
theorem low4_bit (o t f e j : Nat) : ∀ k, (low4 o t f e k).testBit j = lowB (o.testBit j) (t.testBit j) ((near9 o t f e).testBit j) k
  | 0 => by show ((near9 o t f e ^^^ o) &&& (near9 o t f e ^^^ t)).testBit j = _; rw [Nat.testBit_and, Nat.testBit_xor, Nat.testBit_xor]; rfl
  | 1 => by show (o &&& (near9 o t f e ^^^ t)).testBit j = _; rw [Nat.testBit_and, Nat.testBit_xor]; rfl
  | 2 => by show ((near9 o t f e ^^^ o) &&& t).testBit j = _; rw [Nat.testBit_and, Nat.testBit_xor]; rfl
  | _ + 3 => by show (o &&& t).testBit j = _; rw [Nat.testBit_and]; rfl
theorem high3_bit (o t f e j : Nat) : ∀ k, (high3 o t f e k).testBit j = highB (f.testBit j) (e.testBit j) ((near9 o t f e).testBit j) k
  | 0 => by show (near9 o t f e ^^^ (f ||| e)).testBit j = _; rw [Nat.testBit_xor, Nat.testBit_or]; rfl
  | 1 => rfl
  | _ + 2 => rfl
theorem picks_bit (o t f e j : Nat) (ns : List Nat) : (picks o t f e ns).testBit j = ns.any fun n => (pick o t f e n).testBit j := by
  have go : ∀ (ns : List Nat) (a : Nat), (ns.foldl (fun acc n => acc ||| pick o t f e n) a).testBit j = (a.testBit j || ns.any fun n => (pick o t f e n).testBit j) := fun ns => by
    induction ns with
    | nil => exact fun a => by simp
    | cons n ns ih =>
      intro a
      rw [List.foldl_cons, ih, Nat.testBit_or, List.any_cons, Bool.or_assoc]
  unfold picks
  rw [go, Nat.zero_testBit, Bool.false_or]
/-- the bit of the next strip, by the total s of the nine -/
theorem nextN_bit {alive o t f e j s : Nat} {bs ss : List Int} (hs : s < 10) (h1 : o.testBit j = decide (s % 2 = 1)) (h2 : t.testBit j = decide (s / 2 % 2 = 1)) (h4 : f.testBit j = decide (s / 4 % 2 = 1)) (h8 : e.testBit j = decide (s / 8 % 2 = 1))
    (hb : ∀ b ∈ bs, 1 ≤ b ∧ b ≤ 8) (hss : ∀ b ∈ ss, 0 ≤ b ∧ b ≤ 8) (ha : alive.testBit j = true → 1 ≤ s) :
    (nextN alive o t f e bs ss).testBit j = if alive.testBit j = true then decide (((s : Int) - 1) ∈ ss) else decide ((s : Int) ∈ bs) := by
  have hn : (near9 o t f e).testBit j = decide (s ≠ 0) := by
    unfold near9
    rw [Nat.testBit_or, Nat.testBit_or, Nat.testBit_or, h1, h2, h4, h8]
    exact nearB s hs
  have hp : ∀ n, 1 ≤ n → n < 10 → (pick o t f e n).testBit j = decide (s = n) := fun n n1 n2 => by
    unfold pick
    rw [Nat.testBit_and, low4_bit, high3_bit, hn, h1, h2, h4, h8, ← nearB s hs]
    exact pickB s hs n n2 n1
  have pb : (picks o t f e (bs.map Int.toNat)).testBit j = decide ((s : Int) ∈ bs) := by
    rw [picks_bit, Bool.eq_iff_iff, decide_eq_true_iff, List.any_eq_true]
    constructor
    · rintro ⟨n, m, h⟩
      obtain ⟨b, mb, rfl⟩ := List.mem_map.mp m
      have := hb b mb
      rw [hp _ (by omega) (by omega)] at h
      have h := of_decide_eq_true h
      rw [show (s : Int) = b by omega]
      exact mb
    · intro m
      have := hb _ m
      refine ⟨s, List.mem_map.mpr ⟨_, m, by omega⟩, ?_⟩
      rw [hp _ (by omega) hs]
      exact decide_eq_true rfl
  have pss : (picks o t f e (ss.map fun n => n.toNat + 1)).testBit j = decide (((s : Int) - 1) ∈ ss) := by
    rw [picks_bit, Bool.eq_iff_iff, decide_eq_true_iff, List.any_eq_true]
    constructor
    · rintro ⟨n, m, h⟩
      obtain ⟨b, mb, rfl⟩ := List.mem_map.mp m
      have := hss b mb
      rw [hp _ (by omega) (by omega)] at h
      have h := of_decide_eq_true h
      rw [show (s : Int) - 1 = b by omega]
      exact mb
    · intro m
      have := hss _ m
      refine ⟨s, List.mem_map.mpr ⟨_, m, by omega⟩, ?_⟩
      rw [hp _ (by omega) hs]
      exact decide_eq_true rfl
  unfold nextN
  rw [Nat.testBit_or, Nat.testBit_and, Nat.testBit_and, Nat.testBit_xor, pb, pss, hn]
  cases hal : alive.testBit j with
  | true =>
    have := ha hal
    rw [decide_eq_true (show s ≠ 0 by omega), if_pos rfl]
    simp
  | false =>
    rw [if_neg (by decide)]
    by_cases z : s = 0
    · have nm : ¬ (s : Int) ∈ bs := fun m => by
        have := hb _ m
        omega
      rw [decide_eq_false nm]
      simp
    · rw [decide_eq_true z]
      simp
theorem nb_sumB {L : Int → Int → Bool} {r c : Int} : sum9 (L (r - 1) (c - 1)) (L (r - 1) c) (L (r - 1) (c + 1)) (L r (c - 1)) (L r c) (L r (c + 1)) (L (r + 1) (c - 1)) (L (r + 1) c) (L (r + 1) (c + 1)) = nb L r c + (L r c).toNat := by
  unfold sum9 nb
  omega
/-! ### the next generation of a block, right within its edges -/
def nextBlk (bs ss : List Int) (b : Nat) : Nat :=
  nextN b (one9 (ones3 (b <<< 1) b (b >>> 1) <<< 32) (ones3 (b <<< 1) b (b >>> 1)) (ones3 (b <<< 1) b (b >>> 1) >>> 32))
    (two9 (ones3 (b <<< 1) b (b >>> 1) <<< 32) (twos3 (b <<< 1) b (b >>> 1) <<< 32) (ones3 (b <<< 1) b (b >>> 1)) (twos3 (b <<< 1) b (b >>> 1)) (ones3 (b <<< 1) b (b >>> 1) >>> 32) (twos3 (b <<< 1) b (b >>> 1) >>> 32))
    (four9 (ones3 (b <<< 1) b (b >>> 1) <<< 32) (twos3 (b <<< 1) b (b >>> 1) <<< 32) (ones3 (b <<< 1) b (b >>> 1)) (twos3 (b <<< 1) b (b >>> 1)) (ones3 (b <<< 1) b (b >>> 1) >>> 32) (twos3 (b <<< 1) b (b >>> 1) >>> 32))
    (eight9 (ones3 (b <<< 1) b (b >>> 1) <<< 32) (twos3 (b <<< 1) b (b >>> 1) <<< 32) (ones3 (b <<< 1) b (b >>> 1)) (twos3 (b <<< 1) b (b >>> 1)) (ones3 (b <<< 1) b (b >>> 1) >>> 32) (twos3 (b <<< 1) b (b >>> 1) >>> 32)) bs ss
theorem ones_at {b j : Nat} (h : 1 ≤ j) : (ones3 (b <<< 1) b (b >>> 1)).testBit j = oneB (b.testBit (j - 1)) (b.testBit j) (b.testBit (j + 1)) ∧ (twos3 (b <<< 1) b (b >>> 1)).testBit j = twoB (b.testBit (j - 1)) (b.testBit j) (b.testBit (j + 1)) := by
  have h2 : (b <<< 1).testBit j = b.testBit (j - 1) := by
    rw [Nat.testBit_shiftLeft, decide_eq_true (show j ≥ 1 by omega), Bool.true_and]
  have h3 : (b >>> 1).testBit j = b.testBit (j + 1) := by rw [Nat.testBit_shiftRight, Nat.add_comm]
  unfold ones3 twos3 oneB twoB
  simp only [Nat.testBit_xor, Nat.testBit_or, Nat.testBit_and, h2, h3]
  exact ⟨trivial, trivial⟩
/-- within rows and columns from lo to hi the block shows L -/
def Cor (b : Nat) (L : Int → Int → Bool) (lo hi : Nat) : Prop := ∀ r c : Nat, lo ≤ r → r < hi → lo ≤ c → c < hi → b.testBit (r * 32 + c) = L r c
theorem blk_bit {bs ss : List Int} (hb : ∀ b ∈ bs, 1 ≤ b ∧ b ≤ 8) (hss : ∀ b ∈ ss, 0 ≤ b ∧ b ≤ 8) {b i : Nat} {L : Int → Int → Bool} {r c : Int} (i33 : 33 ≤ i) (p1 : b.testBit (i - 32 - 1) = L (r - 1) (c - 1)) (p2 : b.testBit (i - 32) = L (r - 1) c) (p3 : b.testBit (i - 32 + 1) = L (r - 1) (c + 1)) (p4 : b.testBit (i - 1) = L r (c - 1)) (p5 : b.testBit (i) = L r c) (p6 : b.testBit (i + 1) = L r (c + 1)) (p7 : b.testBit (i + 32 - 1) = L (r + 1) (c - 1)) (p8 : b.testBit (i + 32) = L (r + 1) c) (p9 : b.testBit (i + 32 + 1) = L (r + 1) (c + 1)) : (nextBlk bs ss b).testBit i = stepL bs ss L r c := by
  obtain ⟨a1, a2⟩ := ones_at (b := b) (j := i - 32) (by omega)
  obtain ⟨b1, b2⟩ := ones_at (b := b) (j := i) (by omega)
  obtain ⟨c1', c2⟩ := ones_at (b := b) (j := i + 32) (by omega)
  rw [p1, p2, p3] at a1 a2
  rw [p4, p5, p6] at b1 b2
  rw [p7, p8, p9] at c1' c2
  have up : ∀ n : Nat, (n <<< 32).testBit i = n.testBit (i - 32) := fun n => by
    rw [Nat.testBit_shiftLeft, decide_eq_true (show i ≥ 32 by omega), Bool.true_and]
  have dn : ∀ n : Nat, (n >>> 32).testBit i = n.testBit (i + 32) := fun n => by rw [Nat.testBit_shiftRight, Nat.add_comm]
  have q := bits9 (L (r - 1) (c - 1)) (L (r - 1) c) (L (r - 1) (c + 1)) (L r (c - 1)) (L r c) (L r (c + 1)) (L (r + 1) (c - 1)) (L (r + 1) c) (L (r + 1) (c + 1))
  rw [nb_sumB] at q
  obtain ⟨q1, q2, q4, q8, ql⟩ := q
  unfold nextBlk
  rw [nextN_bit ql ?_ ?_ ?_ ?_ hb hss ?_, p5]
  · unfold stepL
    by_cases z : L r c = true
    · rw [if_pos z, if_pos z, z]
      rw [show ((nb L r c + true.toNat : Nat) : Int) - 1 = (nb L r c : Int) by show ((nb L r c + 1 : Nat) : Int) - 1 = _; omega]
    · have z' : L r c = false := by simpa using z
      rw [if_neg z, if_neg z, z']
      rfl
  · rw [← q1]
    unfold one9
    simp only [Nat.testBit_xor, up, dn, a1, b1, c1']
  · rw [← q2]
    unfold two9 car9 carB
    simp only [Nat.testBit_xor, Nat.testBit_or, Nat.testBit_and, up, dn, a1, b1, c1', a2, b2, c2]
  · rw [← q4]
    unfold four9 car9 carB
    simp only [Nat.testBit_xor, Nat.testBit_or, Nat.testBit_and, up, dn, a1, b1, c1', a2, b2, c2]
  · rw [← q8]
    unfold eight9 car9 carB
    simp only [Nat.testBit_xor, Nat.testBit_or, Nat.testBit_and, up, dn, a1, b1, c1', a2, b2, c2]
  · intro z
    rw [p5] at z
    rw [z]
    show 1 ≤ _ + 1
    omega
theorem Cor.step {bs ss : List Int} (hb : ∀ b ∈ bs, 1 ≤ b ∧ b ≤ 8) (hss : ∀ b ∈ ss, 0 ≤ b ∧ b ≤ 8) {b : Nat} {L : Int → Int → Bool} {lo hi : Nat} (h32 : hi ≤ 32) (h : Cor b L lo hi) : Cor (nextBlk bs ss b) (stepL bs ss L) (lo + 1) (hi - 1) := by
  intro r c r0 r1 c0 c1
  obtain ⟨i, ei⟩ : ∃ i, i = r * 32 + c := ⟨_, rfl⟩
  rw [← ei]
  have at' : ∀ (x y : Nat), lo ≤ x → x < hi → lo ≤ y → y < hi → ∀ k : Nat, k = x * 32 + y → b.testBit k = L x y := fun x y a1 a2 a3 a4 k ek => by rw [ek]; exact h x y a1 a2 a3 a4
  have rm : ((r - 1 : Nat) : Int) = (r : Int) - 1 := by omega
  have rp : ((r + 1 : Nat) : Int) = (r : Int) + 1 := by omega
  have cm : ((c - 1 : Nat) : Int) = (c : Int) - 1 := by omega
  have cp : ((c + 1 : Nat) : Int) = (c : Int) + 1 := by omega
  have p1 : b.testBit (i - 32 - 1) = L ((r : Int) - 1) ((c : Int) - 1) := by
    rw [← rm, ← cm]
    exact at' _ _ (by omega) (by omega) (by omega) (by omega) _ (by omega)
  have p2 : b.testBit (i - 32) = L ((r : Int) - 1) c := by
    rw [← rm]
    exact at' _ _ (by omega) (by omega) (by omega) (by omega) _ (by omega)
  have p3 : b.testBit (i - 32 + 1) = L ((r : Int) - 1) ((c : Int) + 1) := by
    rw [← rm, ← cp]
    exact at' _ _ (by omega) (by omega) (by omega) (by omega) _ (by omega)
  have p4 : b.testBit (i - 1) = L r ((c : Int) - 1) := by
    rw [← cm]
    exact at' _ _ (by omega) (by omega) (by omega) (by omega) _ (by omega)
  have p5 : b.testBit i = L r c := at' _ _ (by omega) (by omega) (by omega) (by omega) _ (by omega)
  have p6 : b.testBit (i + 1) = L r ((c : Int) + 1) := by
    rw [← cp]
    exact at' _ _ (by omega) (by omega) (by omega) (by omega) _ (by omega)
  have p7 : b.testBit (i + 32 - 1) = L ((r : Int) + 1) ((c : Int) - 1) := by
    rw [← rp, ← cm]
    exact at' _ _ (by omega) (by omega) (by omega) (by omega) _ (by omega)
  have p8 : b.testBit (i + 32) = L ((r : Int) + 1) c := by
    rw [← rp]
    exact at' _ _ (by omega) (by omega) (by omega) (by omega) _ (by omega)
  have p9 : b.testBit (i + 32 + 1) = L ((r : Int) + 1) ((c : Int) + 1) := by
    rw [← rp, ← cp]
    exact at' _ _ (by omega) (by omega) (by omega) (by omega) _ (by omega)
  exact blk_bit hb hss (by omega) p1 p2 p3 p4 p5 p6 p7 p8 p9
theorem nextBlk_lt {bs ss : List Int} (hb : ∀ b ∈ bs, 1 ≤ b ∧ b ≤ 8) (hss : ∀ b ∈ ss, 0 ≤ b ∧ b ≤ 8) {b N : Nat} (h : b < 2 ^ N) : nextBlk bs ss b < 2 ^ (N + 34) := by
  refine Nat.lt_pow_two_of_testBit _ fun i hi => ?_
  have z : ∀ k, N ≤ k → b.testBit k = false := fun k hk => Nat.testBit_lt_two_pow (Nat.lt_of_lt_of_le h (Nat.pow_le_pow_right (by decide) hk))
  rw [blk_bit hb hss (L := fun _ _ => false) (r := 0) (c := 0) (by omega) (z _ (by omega)) (z _ (by omega)) (z _ (by omega)) (z _ (by omega)) (z _ (by omega)) (z _ (by omega)) (z _ (by omega)) (z _ (by omega)) (z _ (by omega))]
  unfold stepL
  rw [if_neg (by decide)]
  refine decide_eq_false fun m => ?_
  have := hb _ m
  unfold nb at this
  simp at this
def iterBlk (bs ss : List Int) : Nat → Nat → Nat
  | 0, b => b
  | n + 1, b => nextBlk bs ss (iterBlk bs ss n b)
theorem Cor.iter {bs ss : List Int} (hb : ∀ b ∈ bs, 1 ≤ b ∧ b ≤ 8) (hss : ∀ b ∈ ss, 0 ≤ b ∧ b ≤ 8) {b : Nat} {L : Int → Int → Bool} {hi : Nat} (h32 : hi ≤ 32) (h : Cor b L 0 hi) : ∀ n, Cor (iterBlk bs ss n b) (genL bs ss L n) n (hi - n)
  | 0 => h
  | n + 1 => by
    have := (Cor.iter hb hss h32 h n).step hb hss (by omega)
    rw [show hi - (n + 1) = hi - n - 1 by omega]
    exact this
/-- the middle of a block after n generations -/
theorem centre_cor {bs ss : List Int} (hb : ∀ b ∈ bs, 1 ≤ b ∧ b ≤ 8) (hss : ∀ b ∈ ss, 0 ≤ b ∧ b ≤ 8) {b l n : Nat} {L : Int → Int → Bool} (hl : l < 4) (hn : n ≤ 2 ^ l) (h : Cor b L 0 (2 ^ (l + 2))) {r c : Nat} (hr : r < 2 ^ (l + 1)) (hc : c < 2 ^ (l + 1)) :
    (cutN (l + 1) (iterBlk bs ss n b) (2 ^ l) (2 ^ l)).testBit (r * 32 + c) = genL bs ss L n ((2 ^ l + r : Nat) : Int) ((2 ^ l + c : Nat) : Int) := by
  have h32 := pow_le32 (show l + 2 < 6 by omega)
  have p1 : 2 ^ (l + 1) = 2 * 2 ^ l := by rw [Nat.pow_succ, Nat.mul_comm]
  have p2 : 2 ^ (l + 2) = 4 * 2 ^ l := by rw [Nat.pow_add, Nat.mul_comm]
  have q := Cor.iter hb hss h32 h n
  rw [cut_bit (by omega)]
  rw [p1] at hr hc ⊢
  rw [p2] at q h32
  clear p1 p2 h
  generalize 2 ^ l = p at *
  have e1 : (r * 32 + c) / 32 = r := by omega
  have e2 : (r * 32 + c) % 32 = c := by omega
  rw [e1, e2, decide_eq_true hr, decide_eq_true hc, Bool.and_true, Bool.and_true, show p * 32 + p + (r * 32 + c) = (p + r) * 32 + (p + c) by omega]
  exact q _ _ (by omega) (by omega) (by omega) (by omega)
end
end My
namespace My
open PySem PySem.Spec PyProof.Rows L2 Vx
open TL
local macro_rules | `(tactic| k_invariant "new" ($n, $H:ident, $e:ident, $h:ident)) => `(tactic| (generalize hE : upd _ _ _ = $H; obtain ⟨$e:ident, $h:ident⟩ := gen_e hE $n; clear hE))
local macro_rules | `(tactic| k_places) => `(tactic| first
  | assumption
  | exact lst_of (by assumption)
  | exact tup_of (by assumption)
  | (refine getS (by assumption) ?_; k_places)
  | (refine Same.seq (by assumption) ?_; k_places)
  | (refine tupS (by assumption) ?_; k_places)
  | (refine lst_of ?_; k_places)
  | (refine tup_of ?_; k_places))
local macro_rules | `(tactic| k_subL) => `(tactic| first
  | k_places
  | solve_by_elim (maxDepth := 10) [getS, lst_of, tup_of, Same.seq, tupS])
local macro_rules | `(tactic| k_offL) => `(tactic| first
  | (show (0 : Int) < _; first | omega | decide)
  | (refine ⟨?_, ?_⟩ <;> first | omega | decide)
  | exact .inr ⟨by decide, by decide⟩
  | exact .inl ⟨by decide, by decide⟩
  | exact .inl ⟨by omega, by omega⟩
  | omega)
local macro_rules | `(tactic| k_clsL) => `(tactic| exact Nat.le_of_ble_eq_true rfl)
local macro_rules | `(tactic| k_upd) => `(tactic| simp only [L2.start, List.map_cons, List.map_nil, List.length_cons, List.length_nil, List.replicate_succ, List.replicate_zero, List.cons_append, List.nil_append, List.set_cons_zero, List.set_cons_succ])
section
variable {P : Program} {w : World} {K : PySem.W.Frag} {mg : Str → Option Value} {base : Heap}
def sp_full_block : Sp := fun vs H Q _ => ∃ l : Nat, l < 5 ∧ vs = [.int (l : Int)] ∧ Q (.int (fullN l : Nat)) H
theorem ok_full_block (T : Txt K mg) : FnOk P w K mg base CX0 1 T.f_full_block T.d_full_block ["level"] sp_full_block := by
  refine T.F_full_block.ok sc_full_block (fun vs H Q E h => ?_) (fun cdv A outer s H vs Q E hr h => ?_)
  · obtain ⟨_, _, rfl, _⟩ := h
    rfl
  · obtain ⟨l, hl, rfl, q⟩ := h
    refine ⟨_, (pss_cons (ps_set (i := 1) sc_full_block.nd rfl (.inl rfl) (pe_op op_shlNN pe_int (pv 0)))
      (pss_cons (ps_set (i := 2) sc_full_block.nd rfl (.inl rfl) (pe_op op_sub (pe_op op_shlNN pe_int (pv 1)) pe_int))
      (pss_cons (ps_set (i := 3) sc_full_block.nd rfl (.inl rfl) (pe_op op_fdivW (pe_op op_sub (pe_op op_shlNN pe_int (pe_op op_mul (pv 1) (pe_gcx (by rfl) T.c_SIDE))) pe_int) (pe_op op_sub (pe_op op_shlNN pe_int (pe_gcx (by rfl) T.c_SIDE)) pe_int)))
      (pss_one (ps_ret (pe_op op_mul (pv 2) (pv 3))))))), ?_⟩
    k_upd
    refine ⟨_, rfl, 1, l, 1, rfl, rfl, by decide, by omega, ?_⟩
    have h16 : 1 <<< l ≤ 16 := by
      rw [Nat.one_shiftLeft]
      exact pow_le16 hl
    have h64 : 1 <<< (1 <<< l) ≤ 65536 := by
      rw [Nat.one_shiftLeft (n := 1 <<< l)]
      exact Nat.le_trans (Nat.pow_le_pow_right (by decide) h16) (by decide)
    have fin : (((1 <<< (1 <<< l) : Nat) : Int) - (1 : Int)) * ((((1 <<< ((1 <<< l) * 32) : Nat) : Int) - (1 : Int)) / (((1 <<< 32 : Nat) : Int) - (1 : Int))) = ((fullN l : Nat) : Int) := by
      match l, hl with
      | 0, _ => decide +kernel
      | 1, _ => decide +kernel
      | 2, _ => decide +kernel
      | 3, _ => decide +kernel
      | 4, _ => decide +kernel
    k_upd
    refine ⟨_, rfl, 1, 1 <<< l, 1, rfl, rfl, by decide, by omega, _, _, rfl, rfl, ?_⟩
    k_upd
    refine ⟨_, rfl, _, _, rfl, rfl, .inr ⟨by decide, by decide⟩, 1, (1 <<< l) * 32, 1, rfl, by dsimp only; rw [Int.natCast_mul]; rfl, by decide, by omega, _, _, rfl, rfl, 1, 32, 1, rfl, rfl, by decide, by decide, _, _, rfl, rfl, _, _, rfl, rfl, ?_⟩
    have dv : CDivW ((((1 <<< ((1 <<< l) * 32) : Nat) : Int) - (1 : Int))) (((1 <<< 32 : Nat) : Int) - (1 : Int)) := ⟨by decide, by decide +kernel⟩
    have lo : (((1 <<< (1 <<< l) : Nat) : Int) - (1 : Int)) < 65536 := by
      have : (((1 <<< (1 <<< l) : Nat)) : Int) ≤ ((65536 : Nat) : Int) := Int.ofNat_le.mpr h64
      omega
    have lo2 : -65536 < (((1 <<< (1 <<< l) : Nat) : Int) - (1 : Int)) := by
      have : 0 ≤ (((1 <<< (1 <<< l) : Nat)) : Int) := Int.natCast_nonneg _
      omega
    refine ⟨dv, ?_⟩
    k_upd
    refine ⟨_, rfl, _, rfl, _, _, rfl, rfl, .inl ⟨Int.lt_trans (by decide) lo2, Int.lt_trans lo (by decide)⟩, ?_⟩
    dsimp only
    rw [fin]
    exact q
theorem tru0 {K : PySem.W.Frag} {H : Hp} {n : Nat} (h : n = 0) : TruV K (.int ((n : Nat) : Int)) H false := by
  subst h
  rfl
theorem tru1 {K : PySem.W.Frag} {H : Hp} {n : Nat} (h : n ≠ 0) : TruV K (.int ((n : Nat) : Int)) H true := by
  show true = (((n : Nat) : Int) != 0)
  have : ((n : Nat) : Int) ≠ 0 := by omega
  exact (bne_iff_ne.mpr this).symm
def sp_block_cells : Sp := fun vs H Q _ => ∃ b : Nat, b < 2 ^ 1024 ∧ vs = [.int (b : Int)] ∧ ∀ (H' : Hp) (p : Addr), H p = none → Same H H' → Cells H' p (cellsN b) → Q (.ref p) H'
theorem ok_block_cells (T : Txt K mg) : FnOk P w K mg base CX0 1 T.f_block_cells T.d_block_cells ["block"] sp_block_cells := by
  refine T.F_block_cells.ok sc_block_cells (fun vs H Q E h => ?_) (fun cdv A outer s H vs Q E hr h => ?_)
  · obtain ⟨_, _, rfl, _⟩ := h
    rfl
  · obtain ⟨b, hb, rfl, q⟩ := h
    refine ⟨_, (pss_cons (ps_set (i := 1) sc_block_cells.nd rfl (.inl rfl) (pe_lst pa_nil))
      (pss_cons (ps_while PassesOwn.never (pt_truth (pv 0) (by intro _; rfl))
      (pss_cons (ps_set (i := 2) sc_block_cells.nd rfl (.inl rfl) (pe_op op_and (pv 0) (pe_un un_neg (pv 0))))
      (pss_cons (ps_expr (pe_bm PySem.F.plainAttrs_list PySem.F.slot_list_append PySem.F.type_list_append mt_append (pv 1) (pa_cons (pe_callB call_divmod (by rfl) T.z_divmod (by decide +kernel) (pa_cons (pe_op op_sub (pe_bits (pv 2)) pe_int) (pa_cons (pe_gcx (by rfl) T.c_SIDE) pa_nil))) pa_nil)))
      (pss_one (ps_aug (i := 0) sc_block_cells.nd rfl (.inl rfl) (pv 2) ip_xorNN)))))
      (pss_one (ps_ret (pv 1))))), ?_⟩
    k_upd
    refine ⟨by k_clsL, fun cl nc => ?_⟩
    k_invariant "new" (nc, H1, e1, g1)
    k_upd
    unfold gName
    k_upd
    refine while_by (fun σ H' => Same H H' ∧ ∃ (R : Nat) (x2 : Option V), σ = [some (.int (R : Int)), some (.ref cl), x2] ∧ R < 2 ^ 1024 ∧
          ∃ us : List (Addr × Pr), H' cl = some (.lst (us.map fun t => V.ref t.1)) ∧ (∀ t ∈ us, H' t.1 = some (.tup [.int t.2.1, .int t.2.2])) ∧ us.map (·.2) ++ (bitsB 1024 R).map at32 = cellsN b)
        (fun σ _ => match σ with | [some (.int R), _, _] => (bitsB 1024 R.toNat).length | _ => 0)
        ⟨e1, b, _, rfl, hb, [], g1, fun _ m => (by cases m), rfl⟩ ?_ ?_
    · rintro σ H4 ⟨sm, R, x2, rfl, lR, us, hus, htu, eus⟩
      by_cases z : R = 0
      · refine ⟨_, rfl, _, tru0 z, iteF ?_⟩
        rw [z, bits_zero, List.map_nil, List.append_nil] at eus
        refine ⟨_, rfl, q H4 cl nc sm ⟨us, hus, htu, eus⟩⟩
      · obtain ⟨k, a, eR⟩ := low_bit R z
        subst eR
        refine ⟨_, rfl, _, tru1 z, iteT ?_⟩
        refine ⟨_, rfl, _, rfl, _, rfl, _, _, rfl, rfl, ?_⟩
        k_upd
        rw [low_and]
        have lu : us.length < sizeLine := by
          have s1 := cellsN_len b
          have s2 := bitsB_len 1024 b
          unfold popN at s1
          rw [← eus, List.length_append, List.length_map] at s1
          rw [sizeLine_eq]
          omega
        refine ⟨_, rfl, .inl ⟨rfl, _, lst_of hus⟩, _, rfl, _, rfl, ?_⟩
        rw [intBits_pow]
        refine ⟨_, _, rfl, rfl, _, _, rfl, ⟨by decide, by decide⟩, fun p5 n5 => ?_⟩
        dsimp only
        rw [show ((k + 1 : Nat) : Int) - 1 = (k : Int) by omega]
        k_invariant "new" (n5, H5, e5, g5)
        refine ⟨_, _, _, rfl, rfl, e5 _ _ hus, by rw [List.length_map]; exact lu, ?_⟩
        refine ⟨_, rfl, _, rfl, _, _, rfl, rfl, ?_⟩
        rw [low_xor]
        k_upd
        have off : ∀ (b : Addr) (o : HO), H5 b = some o → (∀ xs, o ≠ .lst xs) → upd H5 cl (.lst ((us.map fun t => V.ref t.1) ++ [.ref p5])) b = some o := fun b o e ne => by
          rw [upd_ne fun z => ?_]
          · exact e
          · rw [z, e5 _ _ hus] at e
            exact ne _ (Option.some.inj e).symm
        have low := bits_low (N := 1024) lR
        refine ⟨⟨mutS (sm.trans e5) nc, _, _, rfl, Nat.lt_of_le_of_lt ?_ lR, us ++ [(p5, at32 k)], ?_, fun t m => ?_, ?_⟩, ?_⟩
        · exact Nat.mul_le_mul_left _ (by omega)
        · rw [upd_same, List.map_append]
          rfl
        · rcases List.mem_append.mp m with m | m
          · exact off _ _ (e5 _ _ (htu t m)) (fun _ z => by cases z)
          · rw [List.mem_singleton.mp m]
            exact off _ _ g5 (fun _ z => by cases z)
        · rw [List.map_append, ← eus, low, List.map_cons, List.append_assoc]
          rfl
        · show (bitsB 1024 (((2 ^ k * (2 * a) : Nat) : Int)).toNat).length < (bitsB 1024 (((2 ^ k * (2 * a + 1) : Nat) : Int)).toNat).length
          rw [Int.toNat_natCast, Int.toNat_natCast, low, List.length_cons]
          exact Nat.lt_succ_self _
    · exact fun σ H Q Q' m h => h.elim fun v h => ⟨v, h.1, h.2.elim fun k h => ⟨k, h.1, m _ _ h.2⟩⟩
def sp_block_count : Sp := fun vs H Q _ => ∃ b : Nat, b < 2 ^ 1024 ∧ vs = [.int (b : Int)] ∧ Q (.int (popN b : Nat)) H
theorem ok_block_count (T : Txt K mg) : FnOk P w K mg base CX0 1 T.f_block_count T.d_block_count ["block"] sp_block_count := by
  refine T.F_block_count.ok sc_block_count (fun vs H Q E h => ?_) (fun cdv A outer s H vs Q E hr h => ?_)
  · obtain ⟨_, _, rfl, _⟩ := h
    rfl
  · obtain ⟨b, hb, rfl, q⟩ := h
    refine ⟨_, (pss_cons (ps_set (i := 1) sc_block_count.nd rfl (.inl rfl) (pe_joined1 (pe_fmtB (pv 0) (pe_joined1 pe_str))))
      (pss_one (ps_ret (pe_m1 PySem.F.slot_str_count PySem.F.type_str_count mt_count (pv 1) pe_str)))), ?_⟩
    k_upd
    refine ⟨_, rfl, b, rfl, binT_len hb (by decide), ?_⟩
    k_upd
    refine ⟨_, rfl, ⟨_, rfl⟩, _, _, rfl, rfl, ?_⟩
    rw [count_bin hb]
    exact q
def bf (ru fl : Addr) : List (Str × V) := putF "_full" (.ref fl) (putF "_rule" (.ref ru) [])
def BlkAt (C : Addr) (H : Hp) (bo : Addr) : Prop :=
  ∃ dx ru fl, H bo = some (.ins C dx (bf ru fl)) ∧ H fl = some (.lst ((List.range 5).map fun l => .int (fullN l : Nat)))
theorem BlkAt.up {C : Addr} {H H' : Hp} {bo : Addr} (e : Same H H') (h : BlkAt C H bo) : BlkAt C H' bo := by
  obtain ⟨dx, ru, fl, h1, h3⟩ := h
  exact ⟨dx, ru, fl, e _ _ h1, e _ _ h3⟩
theorem range5_at {l : Nat} (h : l < 5) : ((List.range 5).map fun l => V.int (fullN l : Nat))[l]? = some (.int (fullN l : Nat)) := by
  match l, h with
  | 0, _ => rfl
  | 1, _ => rfl
  | 2, _ => rfl
  | 3, _ => rfl
  | 4, _ => rfl
def sp_cut (C : Addr) : Sp := fun vs H Q _ => ∃ (bo : Addr) (l b row col : Nat), l < 5 ∧ vs = [.ref bo, .int (l : Int), .int (b : Int), .int (row : Int), .int (col : Int)] ∧ BlkAt C H bo ∧ Q (.int (cutN l b row col : Nat)) H
theorem ok_Blocks_cut (T : Txt K mg) : FnOk P w K mg base CX0 1 T.f_Blocks_cut T.d_Blocks_cut ["self", "level", "block", "row", "column"] (sp_cut T.C_Blocks) := by
  refine T.F_Blocks_cut.ok sc_Blocks_cut (fun vs H Q E h => ?_) (fun cdv A outer s H vs Q E hr h => ?_)
  · obtain ⟨_, _, _, _, _, _, rfl, _⟩ := h
    rfl
  · obtain ⟨bo, l, b, row, col, hl, rfl, ⟨dx, ru, fl, h1, h3⟩, q⟩ := h
    refine ⟨_, (pss_one (ps_ret (pe_op op_andNN (pe_op op_shrNN (pv 2) (pe_op op_add (pe_op op_mul (pv 3) (pe_gcx (by rfl) T.c_SIDE)) (pv 4))) (pe_ix ix_list (pe_fld (pv 0) rfl) (pv 1) (fun _ _ => rfl))))), ?_⟩
    k_upd
    refine ⟨_, rfl, _, rfl, _, _, rfl, rfl, .inr ⟨by decide, by decide⟩, _, rfl, _, _, rfl, rfl, b, row * 32 + col, rfl, by dsimp only; rw [Int.natCast_add, Int.natCast_mul]; rfl, ?_⟩
    refine ⟨_, rfl, bo, _, _, _, _, rfl, h1, T.cl_Blocks, T.na_Blocks__full, rfl, _, rfl, _, _, _, _, rfl, rfl, lst_of h3, atI_nat (range5_at hl), _, _, rfl, rfl, ?_⟩
    exact q
theorem half_eq (l : Nat) : (1 <<< (l + 1)) >>> 1 = 2 ^ l := by
  rw [Nat.one_shiftLeft, Nat.shiftRight_eq_div_pow, Nat.pow_succ]
  omega
def sp_put (C : Addr) : Sp := fun vs H Q _ => ∃ (bo : Addr) (l a b c d : Nat), l < 5 ∧ a < 2 ^ 1024 ∧ b < 2 ^ 1024 ∧ c < 2 ^ 1024 ∧ d < 2 ^ 1024 ∧ vs = [.ref bo, .int ((l + 1 : Nat) : Int), .int (a : Int), .int (b : Int), .int (c : Int), .int (d : Int)] ∧ Q (.int (putN (2 ^ l) a b c d : Nat)) H
theorem ok_Blocks_put_together (T : Txt K mg) : FnOk P w K mg base CX0 1 T.f_Blocks_put_together T.d_Blocks_put_together ["self", "level", "a", "b", "c", "d"] (sp_put T.C_Blocks) := by
  refine T.F_Blocks_put_together.ok sc_Blocks_put_together (fun vs H Q E h => ?_) (fun cdv A outer s H vs Q E hr h => ?_)
  · obtain ⟨_, _, _, _, _, _, _, _, _, _, _, rfl, _⟩ := h
    rfl
  · obtain ⟨bo, l, a, b, c, d, hl, ha, hb, hc, hd, rfl, q⟩ := h
    refine ⟨_, (pss_cons (ps_set (i := 6) sc_Blocks_put_together.nd rfl (.inl rfl) (pe_op op_shrNN (pe_op op_shlNN pe_int (pv 1)) pe_int))
      (pss_one (ps_ret (pe_op op_orNN (pe_op op_orNN (pe_op op_orNN (pv 2) (pe_op op_shlNN (pv 3) (pv 6))) (pe_op op_shlNN (pv 4) (pe_op op_mul (pv 6) (pe_gcx (by rfl) T.c_SIDE)))) (pe_op op_shlNN (pv 5) (pe_op op_add (pe_op op_mul (pv 6) (pe_gcx (by rfl) T.c_SIDE)) (pv 6))))))), ?_⟩
    k_upd
    refine ⟨_, rfl, 1, l + 1, 1, rfl, rfl, by decide, by omega, _, _, rfl, rfl, ?_⟩
    rw [half_eq]
    have h16 := pow_le16 hl
    k_upd
    refine ⟨_, rfl, _, rfl, _, rfl, b, 2 ^ l, 1024, rfl, rfl, hb, by omega, _, _, rfl, rfl, ?_⟩
    refine ⟨_, rfl, _, rfl, _, _, rfl, rfl, .inr ⟨by decide, by decide⟩, c, 2 ^ l * 32, 1024, rfl, by dsimp only; rw [Int.natCast_mul]; rfl, hc, by omega, _, _, rfl, rfl, ?_⟩
    refine ⟨_, rfl, _, rfl, _, _, rfl, rfl, .inr ⟨by decide, by decide⟩, _, rfl, _, _, rfl, rfl, d, 2 ^ l * 32 + 2 ^ l, 1024, rfl, by dsimp only; rw [Int.natCast_add, Int.natCast_mul]; rfl, hd, by omega, _, _, rfl, rfl, ?_⟩
    exact q
def sp_quarters (C : Addr) : Sp := fun vs H Q _ => ∃ (bo : Addr) (l b : Nat), l < 5 ∧ vs = [.ref bo, .int ((l + 1 : Nat) : Int), .int (b : Int)] ∧ BlkAt C H bo ∧
  ∀ (H' : Hp) (p : Addr), H p = none → Same H H' → H' p = some (.lst ([cutN l b 0 0, cutN l b 0 (2 ^ l), cutN l b (2 ^ l) 0, cutN l b (2 ^ l) (2 ^ l)].map fun (n : Nat) => V.int (n : Int))) → Q (.ref p) H'
theorem ok_Blocks_quarters (T : Txt K mg) : FnOk P w K mg base CX0 2 T.f_Blocks_quarters T.d_Blocks_quarters ["self", "level", "block"] (sp_quarters T.C_Blocks) := by
  refine T.F_Blocks_quarters.ok sc_Blocks_quarters (fun vs H Q E h => ?_) (fun cdv A outer s H vs Q E hr h => ?_)
  · obtain ⟨_, _, _, _, rfl, _⟩ := h
    rfl
  · obtain ⟨bo, l, b, hl, rfl, hB, q⟩ := h
    refine ⟨_, (pss_cons (ps_set (i := 3) sc_Blocks_quarters.nd rfl (.inl rfl) (pe_op op_shrNN (pe_op op_shlNN pe_int (pv 1)) pe_int))
      (pss_cons (ps_set (i := 4) sc_Blocks_quarters.nd rfl (.inl rfl) (pe_tup (pa_cons (pe_tup (pa_cons pe_int (pa_cons pe_int pa_nil))) (pa_cons (pe_tup (pa_cons pe_int (pa_cons (pv 3) pa_nil))) (pa_cons (pe_tup (pa_cons (pv 3) (pa_cons pe_int pa_nil))) (pa_cons (pe_tup (pa_cons (pv 3) (pa_cons (pv 3) pa_nil))) pa_nil))))))
      (pss_one (ps_ret (pe_lc (own := [("row", 5), ("column", 6)]) (tt := tYes) rfl sc_Blocks_quarters.nd (pi_tup (pv 4)) (blkOk_by (own := [("row", 5), ("column", 6)]) (N := N_Blocks_quarters) (sc := defScope s_Blocks_quarters) (by decide +kernel)) (fun _ _ _ _ _ => (pg_tupK (K := K) (n := 2) rfl rfl (pgs_cons (pg_name (i := 5) sc_Blocks_quarters.nd rfl (.inl rfl)) (pgs_cons (pg_name (i := 6) sc_Blocks_quarters.nd rfl (.inl rfl)) pgs_nil)))) (fun _ _ _ _ _ => pts_nil) (fun _ _ _ _ _ => (pe_meth (pv 0) T.cl_Blocks T.m_Blocks_cut (ok_Blocks_cut T) (hr.mono (by decide)) T.b_Blocks_cut .nil pass0 (pa_cons (pe_op op_sub (pv 1) pe_int) (pa_cons (pv 2) (pa_cons (pv 5) (pa_cons (pv 6) pa_nil))))))))))), ?_⟩
    k_upd
    refine ⟨_, rfl, 1, l + 1, 1, rfl, rfl, by decide, by omega, _, _, rfl, rfl, ?_⟩
    rw [half_eq]
    have h16 := pow_le16 hl
    k_upd
    refine ⟨by k_clsL, fun a1 m1 => ?_⟩
    k_invariant "new" (m1, A1, ea1, h1)
    refine ⟨_, rfl, by k_clsL, fun a2 m2 => ?_⟩
    k_invariant "new" (m2, A2, ea2, h2)
    refine ⟨_, rfl, by k_clsL, fun a3 m3 => ?_⟩
    k_invariant "new" (m3, A3, ea3, h3)
    refine ⟨_, rfl, _, rfl, by k_clsL, fun a4 m4 => ?_⟩
    k_invariant "new" (m4, A4, ea4, h4)
    refine ⟨by k_clsL, fun a5 m5 => ?_⟩
    k_invariant "new" (m5, A5, ea5, h5)
    k_upd
    have e5 : Same H A5 := ea1.trans (ea2.trans (ea3.trans (ea4.trans ea5)))
    have g1 : A5 a1 = some (.tup [.int ((0 : Nat) : Int), .int ((0 : Nat) : Int)]) := by k_subL
    have g2 : A5 a2 = some (.tup [.int ((0 : Nat) : Int), .int ((2 ^ l : Nat) : Int)]) := by k_subL
    have g3 : A5 a3 = some (.tup [.int ((2 ^ l : Nat) : Int), .int ((0 : Nat) : Int)]) := by k_subL
    have g4 : A5 a4 = some (.tup [.int ((2 ^ l : Nat) : Int), .int ((2 ^ l : Nat) : Int)]) := by k_subL
    refine ⟨_, rfl, a5, rfl, ⟨_, tup_of h5⟩, fun p np => ?_⟩
    refine lc_tup (K := K) (a := a5) (xs := [.ref a1, .ref a2, .ref a3, .ref a4]) (fun i H' => Same A5 H' ∧ H' p = some (.lst (([cutN l b 0 0, cutN l b 0 (2 ^ l), cutN l b (2 ^ l) 0, cutN l b (2 ^ l) (2 ^ l)].take i).map fun (n : Nat) => V.int (n : Int))))
      ⟨newS np, upd_same⟩ (fun i H' _ g => tup_of (g.1 _ _ h5)) ?_ ?_
    · rintro i x H' hi ⟨sm, hp⟩
      obtain ⟨a, r, c, ex, ha, hc⟩ : ∃ (a : Addr) (r c : Nat), x = V.ref a ∧ A5 a = some (.tup [.int (r : Int), .int (c : Int)]) ∧ [cutN l b 0 0, cutN l b 0 (2 ^ l), cutN l b (2 ^ l) 0, cutN l b (2 ^ l) (2 ^ l)][i]? = some (cutN l b r c) := by
        match i, hi with
        | 0, hi => exact ⟨a1, 0, 0, (Option.some.inj hi).symm, g1, rfl⟩
        | 1, hi => exact ⟨a2, 0, 2 ^ l, (Option.some.inj hi).symm, g2, rfl⟩
        | 2, hi => exact ⟨a3, 2 ^ l, 0, (Option.some.inj hi).symm, g3, rfl⟩
        | 3, hi => exact ⟨a4, 2 ^ l, 2 ^ l, (Option.some.inj hi).symm, g4, rfl⟩
        | n + 4, hi => cases hi
      subst ex
      have ha' := sm _ _ ha
      refine ⟨a, _, rfl, tup_of ha', rfl, _, _, rfl, _, _, rfl, rfl, wipe2 _ 5 6 _ _, tyesT ?_⟩
      obtain ⟨dxb, rub, flb, hb1, hb2⟩ := hB.up (e5.trans sm)
      refine ⟨_, rfl, bo, _, _, rfl, hb1, rfl, _, rfl, _, _, rfl, rfl, _, rfl, _, rfl, _, rfl, bo, l, b, r, c, hl, ?_, hB.up (e5.trans sm), _, hp, ?_, mutS sm np, ?_⟩
      · dsimp only
        rw [show ((l + 1 : Nat) : Int) - 1 = (l : Int) by omega]
        rfl
      · rw [List.length_map, List.length_take, sizeLine_eq]
        exact Nat.lt_of_le_of_lt (Nat.min_le_right _ _) (by show 4 < 16777216; decide)
      · rw [upd_same, take_next hc, List.map_append]
        rfl
    · rintro H' ⟨sm, hp⟩
      exact q H' p (backS e5 np) (e5.trans sm) hp
def BlkU (C : Addr) (H : Hp) (bo ru : Addr) : Prop :=
  ∃ dx fl, H bo = some (.ins C dx (bf ru fl)) ∧ H fl = some (.lst ((List.range 5).map fun l => .int (fullN l : Nat)))
theorem BlkU.up {C : Addr} {H H' : Hp} {bo ru : Addr} (e : Same H H') (h : BlkU C H bo ru) : BlkU C H' bo ru := by
  obtain ⟨dx, fl, h1, h3⟩ := h
  exact ⟨dx, fl, e _ _ h1, e _ _ h3⟩
/-- the same, and its list is new -/
def BlkN (C : Addr) (H0 H : Hp) (bo ru : Addr) : Prop :=
  ∃ dx fl, H bo = some (.ins C dx (bf ru fl)) ∧ H fl = some (.lst ((List.range 5).map fun l => .int (fullN l : Nat))) ∧ H0 fl = none
theorem BlkN.up {C : Addr} {H0 H H' : Hp} {bo ru : Addr} (e : Same H H') (h : BlkN C H0 H bo ru) : BlkN C H0 H' bo ru := by
  obtain ⟨dx, fl, h1, h2, h3⟩ := h
  exact ⟨dx, fl, e _ _ h1, e _ _ h2, h3⟩
def sp_Blocks_init (C : Addr) : Sp := fun vs H Q _ => ∃ (H0 : Hp) (bo ru dx : Addr), vs = [.ref bo, .ref ru] ∧ Same H0 H ∧ H0 bo = none ∧ H bo = some (.ins C dx []) ∧ ∀ H', Same H0 H' → BlkN C H0 H' bo ru → Q .non H'
theorem ok_Blocks_init (T : Txt K mg) : FnOk P w K mg base CX0 2 T.f_Blocks_init T.d_Blocks_init ["self", "rule"] (sp_Blocks_init T.C_Blocks) := by
  refine T.F_Blocks_init.ok sc_Blocks_init (fun vs H Q E h => ?_) (fun cdv A outer s H vs Q E hr h => ?_)
  · obtain ⟨_, _, _, _, rfl, _⟩ := h
    rfl
  · obtain ⟨H0, bo, ru, dx, rfl, s0, b0, hb, q⟩ := h
    refine ⟨_, (pss_cons (ps_fld (pv 0) (pv 1) rfl)
      (pss_one (ps_fld (pv 0) (pe_lc (own := [("level", 2)]) (g := gName 2) (tt := tYes) rfl sc_Blocks_init.nd (pi_range1 (by rfl) T.z_range (pa_cons (pe_gcx (by rfl) T.c_TOP) pa_nil)) (blkOk_by (own := [("level", 2)]) (N := N_Blocks_init) (sc := defScope s_Blocks_init) (by decide +kernel)) (fun _ _ _ _ _ => pg_name (i := 2) sc_Blocks_init.nd rfl (Or.inl rfl)) (fun _ _ _ _ _ => pts_nil) (fun _ _ _ _ _ => (pe_call (ok_full_block T) (hr.mono (by decide)) (by rfl) T.g_full_block T.F_full_block.kp T.b_full_block .nil pass0 (pa_cons (pv 2) pa_nil)))) rfl))), ?_⟩
    k_upd
    refine ⟨_, rfl, _, rfl, bo, T.C_Blocks, dx, [], rfl, hb, T.cl_Blocks, T.na_Blocks__rule, (by show 0 < 1000; decide), ?_⟩
    have s1 : Same H0 (upd H bo (.ins T.C_Blocks dx (putF "_rule" (.ref ru) []))) := mutS s0 b0
    have g1 : upd H bo (.ins T.C_Blocks dx (putF "_rule" (.ref ru) [])) bo = some (.ins T.C_Blocks dx (putF "_rule" (.ref ru) [])) := upd_same
    generalize upd H bo (.ins T.C_Blocks dx (putF "_rule" (.ref ru) [])) = H1 at s1 g1
    refine ⟨5, rfl, by decide, by decide, fun p np => ?_⟩
    refine lc_range (lo := 0) (n := 5) (fun i H' => Same H1 H' ∧ H' p = some (.lst ((List.range i).map fun l => .int (fullN l : Nat))))
      ⟨newS np, upd_same⟩ ?_ ?_
    · rintro i H' hi ⟨sm, hp⟩
      refine ⟨rfl, _, rfl, i, hi, ?_, _, hp, ?_, mutS sm np, ?_⟩
      · rw [Int.zero_add]
        rfl
      · rw [List.length_map, List.length_range, sizeLine_eq]
        omega
      · rw [upd_same, List.range_succ, List.map_append]
        rfl
    · rintro H' ⟨sm, hp⟩
      have gb : H' bo = some (.ins T.C_Blocks dx (putF "_rule" (.ref ru) [])) := sm _ _ g1
      refine ⟨_, rfl, bo, T.C_Blocks, dx, _, rfl, gb, T.cl_Blocks, T.na_Blocks__full, (by show 1 < 1000; decide), ?_⟩
      refine q _ (mutS (s1.trans sm) b0) ⟨dx, p, upd_same, ?_, backS s1 np⟩
      rw [upd_ne fun e => ?_]
      · exact hp
      · rw [e, gb] at hp
        cases hp
def sp_next_block (C : Addr) : Sp := fun vs H Q _ => ∃ (r : Addr) (b N : Nat) (bs ss : List Int), vs = [.int (b : Int), .ref r] ∧ b < 2 ^ N ∧ N ≤ 4096 ∧ RuleAt C H r bs ss ∧ (∀ b ∈ bs, 0 ≤ b ∧ b ≤ 8) ∧ (∀ b ∈ ss, 0 ≤ b ∧ b ≤ 8) ∧
  ∀ (H' : Hp), Same H H' → Q (.int (nextBlk bs ss b : Nat)) H'
theorem ones_lt {b N : Nat} (h : b < 2 ^ N) : ones3 (b <<< 1) b (b >>> 1) < 2 ^ (N + 2) ∧ twos3 (b <<< 1) b (b >>> 1) < 2 ^ (N + 2) := by
  have z : ∀ k, N ≤ k → b.testBit k = false := fun k hk => Nat.testBit_lt_two_pow (Nat.lt_of_lt_of_le h (Nat.pow_le_pow_right (by decide) hk))
  refine ⟨Nat.lt_pow_two_of_testBit _ fun i hi => ?_, Nat.lt_pow_two_of_testBit _ fun i hi => ?_⟩
  · rw [(ones_at (by omega)).1, z _ (by omega), z _ (by omega), z _ (by omega)]
    rfl
  · rw [(ones_at (by omega)).2, z _ (by omega), z _ (by omega), z _ (by omega)]
    rfl
theorem ok_next_block (T : Txt K mg) : FnOk P w K mg base CX0 2 T.f_next_block T.d_next_block ["block", "rule"] (sp_next_block T.C_Rule) := by
  refine T.F_next_block.ok sc_next_block (fun vs H Q E h => ?_) (fun cdv A outer s H vs Q E hr h => ?_)
  · obtain ⟨_, _, _, _, _, rfl, _⟩ := h
    rfl
  · obtain ⟨r, b, N, bs, ss, rfl, hb, hN, hR, g1, g2, q⟩ := h
    refine ⟨_, (pss_cons (ps_asg (pe_call (ok_sums_of T) (hr.mono (by decide)) (by rfl) T.g_sums_of T.F_sums_of.kp T.b_sums_of .nil pass0 (pa_cons (pe_op op_shlNN (pv 0) pe_int) (pa_cons (pv 0) (pa_cons (pe_op op_shrNN (pv 0) pe_int) pa_nil)))) (pg_tupK (K := K) (n := 2) rfl rfl (pgs_cons (pg_name (i := 2) sc_next_block.nd rfl (.inl rfl)) (pgs_cons (pg_name (i := 3) sc_next_block.nd rfl (.inl rfl)) pgs_nil))))
      (pss_cons (ps_set (i := 4) sc_next_block.nd rfl (.inl rfl) (pe_call (ok_totals_of T) (hr.mono (by decide)) (by rfl) T.g_totals_of T.F_totals_of.kp T.b_totals_of .nil pass0 (pa_cons (pe_tup (pa_cons (pe_op op_shlNN (pv 2) (pe_gcx (by rfl) T.c_SIDE)) (pa_cons (pe_op op_shlNN (pv 3) (pe_gcx (by rfl) T.c_SIDE)) pa_nil))) (pa_cons (pe_tup (pa_cons (pv 2) (pa_cons (pv 3) pa_nil))) (pa_cons (pe_tup (pa_cons (pe_op op_shrNN (pv 2) (pe_gcx (by rfl) T.c_SIDE)) (pa_cons (pe_op op_shrNN (pv 3) (pe_gcx (by rfl) T.c_SIDE)) pa_nil))) pa_nil)))))
      (pss_one (ps_ret (pe_call (ok_next_strip T) (hr.mono (by decide)) (by rfl) T.g_next_strip T.F_next_strip.kp T.b_next_strip .nil pass0 (pa_cons (pv 0) (pa_cons (pv 4) (pa_cons (pv 1) pa_nil)))))))), ?_⟩
    k_upd
    obtain ⟨o1, o2⟩ := ones_lt hb
    refine ⟨_, rfl, b, 1, N, rfl, rfl, hb, by omega, _, rfl, _, rfl, b, 1, rfl, rfl, ?_⟩
    refine ⟨b <<< 1, b, b >>> 1, rfl, fun H1 p e1 n1 h1 => ?_⟩
    refine ⟨p, _, rfl, tup_of h1, rfl, _, _, rfl, _, _, rfl, rfl, ?_⟩
    generalize eo : ones3 (b <<< 1) b (b >>> 1) = o at *
    generalize et : twos3 (b <<< 1) b (b >>> 1) = t at *
    k_upd
    refine ⟨_, rfl, o, 32, N + 2, rfl, rfl, o1, by omega, _, rfl, t, 32, N + 2, rfl, rfl, o2, by omega, by k_clsL, fun pa na => ?_⟩
    k_invariant "new" (na, H2, e2, h2)
    refine ⟨_, rfl, _, rfl, by k_clsL, fun ph nh => ?_⟩
    k_invariant "new" (nh, H3, e3, h3)
    refine ⟨_, rfl, o, 32, rfl, rfl, _, rfl, t, 32, rfl, rfl, by k_clsL, fun pb nb' => ?_⟩
    k_invariant "new" (nb', H4, e4, h4)
    refine ⟨pa, ph, pb, _, _, _, _, _, _, rfl, e4 _ _ (e3 _ _ h2), e4 _ _ h3, h4, fun H5 pt e5 n5 h5 => ?_⟩
    have s5 := e1.trans (e2.trans (e3.trans (e4.trans e5)))
    k_upd
    refine ⟨_, rfl, _, rfl, _, rfl, pt, r, b, _, _, _, _, bs, ss, rfl, h5, hR.up s5, g1, g2, fun H6 e6 => ?_⟩
    have := q H6 (s5.trans e6)
    unfold nextBlk at this
    rw [eo, et] at this
    exact this
end
end My
namespace My
open PySem PySem.Spec PyProof.Rows L2 Vx
open TL
local macro_rules | `(tactic| k_invariant "new" ($n, $H:ident, $e:ident, $h:ident)) => `(tactic| (generalize hE : upd _ _ _ = $H; obtain ⟨$e:ident, $h:ident⟩ := gen_e hE $n; clear hE))
local macro_rules | `(tactic| k_places) => `(tactic| first
  | assumption
  | exact lst_of (by assumption)
  | exact tup_of (by assumption)
  | (refine getS (by assumption) ?_; k_places)
  | (refine Same.seq (by assumption) ?_; k_places)
  | (refine tupS (by assumption) ?_; k_places)
  | (refine lst_of ?_; k_places)
  | (refine tup_of ?_; k_places))
local macro_rules | `(tactic| k_subL) => `(tactic| first
  | k_places
  | solve_by_elim (maxDepth := 10) [getS, lst_of, tup_of, Same.seq, tupS])
local macro_rules | `(tactic| k_offL) => `(tactic| first
  | (show (0 : Int) < _; first | omega | decide)
  | (refine ⟨?_, ?_⟩ <;> first | omega | decide)
  | exact .inr ⟨by decide, by decide⟩
  | exact .inl ⟨by decide, by decide⟩
  | exact .inl ⟨by omega, by omega⟩
  | omega)
local macro_rules | `(tactic| k_clsL) => `(tactic| exact Nat.le_of_ble_eq_true rfl)
local macro_rules | `(tactic| k_upd) => `(tactic| simp only [L2.start, List.map_cons, List.map_nil, List.length_cons, List.length_nil, List.replicate_succ, List.replicate_zero, List.cons_append, List.nil_append, List.set_cons_zero, List.set_cons_succ])
section
variable {P : Program} {w : World} {K : PySem.W.Frag} {mg : Str → Option Value} {base : Heap}
/-! ### the floor, by blocks -/
def placeP (x : Pr) : Pr := (x.1 / 32, x.2 / 32)
def bitP (x : Pr) : Nat := (x.1 % 32).toNat * 32 + (x.2 % 32).toNat
def backP (p : Pr) (i : Nat) : Pr := (p.1 * 32 + ((i / 32 : Nat) : Int), p.2 * 32 + ((i % 32 : Nat) : Int))
theorem bitP_lt (x : Pr) : bitP x < 1024 := by
  unfold bitP
  omega
theorem back_place {p : Pr} {i : Nat} (h : i < 1024) : placeP (backP p i) = p := by
  refine Prod.ext ?_ ?_
  · show (p.1 * 32 + ((i / 32 : Nat) : Int)) / 32 = p.1
    omega
  · show (p.2 * 32 + ((i % 32 : Nat) : Int)) / 32 = p.2
    omega
theorem back_bit {p : Pr} {i : Nat} (h : i < 1024) : bitP (backP p i) = i := by
  show ((p.1 * 32 + ((i / 32 : Nat) : Int)) % 32).toNat * 32 + ((p.2 * 32 + ((i % 32 : Nat) : Int)) % 32).toNat = i
  omega
theorem back_back (x : Pr) : backP (placeP x) (bitP x) = x := by
  unfold bitP
  have h1 : ((x.1 % 32).toNat * 32 + (x.2 % 32).toNat) / 32 = (x.1 % 32).toNat := by omega
  have h2 : ((x.1 % 32).toNat * 32 + (x.2 % 32).toNat) % 32 = (x.2 % 32).toNat := by omega
  refine Prod.ext ?_ ?_
  · show x.1 / 32 * 32 + ((((x.1 % 32).toNat * 32 + (x.2 % 32).toNat) / 32 : Nat) : Int) = x.1
    rw [h1]
    omega
  · show x.2 / 32 * 32 + ((((x.1 % 32).toNat * 32 + (x.2 % 32).toNat) % 32 : Nat) : Int) = x.2
    rw [h2]
    omega
/-- whether a cell is alive -/
def inB (g : Pr → Nat) (x : Pr) : Bool := (g (placeP x)).testBit (bitP x)
theorem and31 (r : Int) : Builtin.bitAnd r 31 = r % 32 := by
  unfold Builtin.bitAnd
  by_cases h : 0 ≤ r
  · rw [decide_eq_true h]
    show ((r.toNat &&& 31 : Nat) : Int) = r % 32
    rw [Nat.and_two_pow_sub_one_eq_mod r.toNat 5]
    show ((r.toNat % 32 : Nat) : Int) = r % 32
    omega
  · rw [decide_eq_false h]
    show (31 : Int) - ((31 &&& (Builtin.bitNot r).toNat : Nat) : Int) = r % 32
    rw [Nat.and_comm, Nat.and_two_pow_sub_one_eq_mod (Builtin.bitNot r).toNat 5]
    show (31 : Int) - (((Builtin.bitNot r).toNat % 32 : Nat) : Int) = r % 32
    have e : Builtin.bitNot r = -r - 1 := by
      unfold Builtin.bitNot
      omega
    rw [e]
    omega
/-- the cells of a list by their places -/
def bkP (ps : List Pr) (p : Pr) : Nat := ps.foldl (fun acc x => if placeP x = p then acc ||| 1 <<< bitP x else acc) 0
theorem bk_fold (p : Pr) (i : Nat) : ∀ (ps : List Pr) (a : Nat), (ps.foldl (fun acc x => if placeP x = p then acc ||| 1 <<< bitP x else acc) a).testBit i = true ↔ a.testBit i = true ∨ ∃ x ∈ ps, placeP x = p ∧ bitP x = i
  | [], a => ⟨fun h => .inl h, fun h => h.elim id fun ⟨_, m, _⟩ => (by cases m)⟩
  | y :: ps, a => by
    rw [List.foldl_cons, bk_fold p i ps]
    by_cases c : placeP y = p
    · rw [if_pos c, Nat.testBit_or, Bool.or_eq_true, Nat.one_shiftLeft, Nat.testBit_two_pow, decide_eq_true_eq]
      constructor
      · rintro ((h | h) | ⟨x, m, h⟩)
        · exact .inl h
        · exact .inr ⟨y, List.mem_cons_self, c, h⟩
        · exact .inr ⟨x, List.mem_cons_of_mem _ m, h⟩
      · rintro (h | ⟨x, m, h⟩)
        · exact .inl (.inl h)
        · rcases List.mem_cons.mp m with e | m
          · rw [e] at h
            exact .inl (.inr h.2)
          · exact .inr ⟨x, m, h⟩
    · rw [if_neg c]
      constructor
      · rintro (h | ⟨x, m, h⟩)
        · exact .inl h
        · exact .inr ⟨x, List.mem_cons_of_mem _ m, h⟩
      · rintro (h | ⟨x, m, h⟩)
        · exact .inl h
        · rcases List.mem_cons.mp m with e | m
          · rw [e] at h
            exact absurd h.1 c
          · exact .inr ⟨x, m, h⟩
theorem bk_bit {ps : List Pr} {p : Pr} {i : Nat} : (bkP ps p).testBit i = true ↔ ∃ x ∈ ps, placeP x = p ∧ bitP x = i := by
  unfold bkP
  rw [bk_fold]
  exact ⟨fun h => h.elim (fun z => by rw [Nat.zero_testBit] at z; cases z) id, .inr⟩
theorem bk_in {ps : List Pr} {x : Pr} : inB (bkP ps) x = true ↔ x ∈ ps := by
  unfold inB
  rw [bk_bit]
  constructor
  · rintro ⟨y, m, h1, h2⟩
    have := back_back y
    rw [h1, h2, back_back x] at this
    rw [this]
    exact m
  · exact fun m => ⟨x, m, rfl, rfl⟩
theorem lt_bits {n : Nat} (h : ∀ i, n.testBit i = true → i < 1024) : n < 2 ^ 1024 := Nat.lt_pow_two_of_testBit n fun i hi => by
  cases e : n.testBit i with
  | false => rfl
  | true =>
    have := h i e
    omega
theorem bk_lt (ps : List Pr) (p : Pr) : bkP ps p < 2 ^ 1024 := lt_bits fun i t => by
  obtain ⟨x, _, _, e⟩ := bk_bit.mp t
  rw [← e]
  exact bitP_lt x
theorem bk_ne {ps : List Pr} {p : Pr} : bkP ps p ≠ 0 ↔ ∃ x ∈ ps, placeP x = p := by
  constructor
  · intro h
    obtain ⟨i, t⟩ := Nat.exists_testBit_of_ne_zero h
    obtain ⟨x, m, e, _⟩ := bk_bit.mp t
    exact ⟨x, m, e⟩
  · rintro ⟨x, m, e⟩ z
    have := bk_bit.mpr ⟨x, m, e, rfl⟩
    rw [z, Nat.zero_testBit] at this
    cases this
def plK (ps : List Pr) : List Pr := ps.foldl (fun acc x => addK acc (placeP x)) []
theorem addK_mem {ps : List Pr} {x y : Pr} : y ∈ addK ps x ↔ y ∈ ps ∨ y = x := by
  by_cases m : x ∈ ps
  · rw [addK_old m]
    exact ⟨.inl, fun h => h.elim id fun e => e ▸ m⟩
  · rw [addK_new m, List.mem_append, List.mem_singleton]
theorem addK_len (ps : List Pr) (x : Pr) : (addK ps x).length ≤ ps.length + 1 := by
  by_cases m : x ∈ ps
  · rw [addK_old m]
    omega
  · rw [addK_new m, List.length_append, List.length_singleton]
    exact Nat.le_refl _
theorem pl_fold (p : Pr) : ∀ (ps acc : List Pr), (p ∈ ps.foldl (fun acc x => addK acc (placeP x)) acc ↔ p ∈ acc ∨ ∃ x ∈ ps, placeP x = p) ∧ (ps.foldl (fun acc x => addK acc (placeP x)) acc).length ≤ acc.length + ps.length
  | [], acc => ⟨⟨.inl, fun h => h.elim id fun ⟨_, m, _⟩ => (by cases m)⟩, Nat.le_refl _⟩
  | y :: ps, acc => by
    rw [List.foldl_cons]
    obtain ⟨a, b⟩ := pl_fold p ps (addK acc (placeP y))
    have := addK_len acc (placeP y)
    refine ⟨a.trans ?_, by rw [List.length_cons]; omega⟩
    rw [addK_mem]
    constructor
    · rintro ((h | h) | ⟨x, m, h⟩)
      · exact .inl h
      · exact .inr ⟨y, List.mem_cons_self, h.symm⟩
      · exact .inr ⟨x, List.mem_cons_of_mem _ m, h⟩
    · rintro (h | ⟨x, m, h⟩)
      · exact .inl (.inl h)
      · rcases List.mem_cons.mp m with e | m
        · rw [e] at h
          exact .inl (.inr h.symm)
        · exact .inr ⟨x, m, h⟩
theorem mem_plK {ps : List Pr} {p : Pr} : p ∈ plK ps ↔ ∃ x ∈ ps, placeP x = p := (pl_fold p ps []).1.trans ⟨fun h => h.elim (fun m => by cases m) id, .inr⟩
theorem plK_len (ps : List Pr) : (plK ps).length ≤ ps.length := by
  have := (pl_fold (0, 0) ps []).2
  show (ps.foldl _ []).length ≤ _
  rw [List.length_nil] at this
  omega
/-! ### changing a block -/
def chg (m : Nat) (a b : Nat) : Nat := if m = 0 then a ||| b else if m = 1 then a ^^^ (a &&& b) else a ^^^ b
def chgB (m : Nat) (a b : Bool) : Bool := if m = 0 then a || b else if m = 1 then a && !b else a ^^ b
theorem chg_bit (m a b i : Nat) : (chg m a b).testBit i = chgB m (a.testBit i) (b.testBit i) := by
  unfold chg chgB
  by_cases h0 : m = 0
  · rw [if_pos h0, if_pos h0, Nat.testBit_or]
  · rw [if_neg h0, if_neg h0]
    by_cases h1 : m = 1
    · rw [if_pos h1, if_pos h1, Nat.testBit_xor, Nat.testBit_and]
      cases a.testBit i <;> cases b.testBit i <;> rfl
    · rw [if_neg h1, if_neg h1, Nat.testBit_xor]
theorem chgB_no (m : Nat) (a : Bool) : chgB m a false = a := by
  unfold chgB
  by_cases h0 : m = 0
  · rw [if_pos h0, Bool.or_false]
  · rw [if_neg h0]
    by_cases h1 : m = 1
    · rw [if_pos h1]
      cases a <;> rfl
    · rw [if_neg h1]
      cases a <;> rfl
theorem chgB_off (m : Nat) : chgB m false false = false := chgB_no m false
theorem chg_lt {m a b : Nat} (ha : a < 2 ^ 1024) (hb : b < 2 ^ 1024) : chg m a b < 2 ^ 1024 := lt_bits fun i t => by
  refine Classical.byContradiction fun h => ?_
  have z : ∀ n, n < 2 ^ 1024 → n.testBit i = false := fun n hn => Nat.testBit_lt_two_pow (Nat.lt_of_lt_of_le hn (Nat.pow_le_pow_right (by decide) (by omega)))
  rw [chg_bit, z a ha, z b hb, chgB_off] at t
  cases t
/-! ### the living blocks of a world -/
structure LivIs (H : Hp) (D : Addr) (ks : List Pr) (g : Pr → Nat) : Prop where
  dct : Dct H D ks (fun p => .int (g p : Nat))
  pos : ∀ p, p ∈ ks ↔ g p ≠ 0
  lt : ∀ p, g p < 2 ^ 1024
theorem LivIs.up {H H' : Hp} {D : Addr} {ks : List Pr} {g : Pr → Nat} (h : LivIs H D ks g) (e : Same H H') : LivIs H' D ks g := ⟨h.dct.up e, h.pos, h.lt⟩
theorem LivIs.nd {H : Hp} {D : Addr} {ks : List Pr} {g : Pr → Nat} (h : LivIs H D ks g) : ks.Nodup := by
  obtain ⟨kvs, _, _, nd⟩ := h.dct
  exact nd
theorem LivIs.orG {H : Hp} {D : Addr} {ks : List Pr} {g : Pr → Nat} (h : LivIs H D ks g) (p : Pr) : Vx.orG ks (fun p => V.int (g p : Nat)) (.int 0) p = .int (g p : Nat) := by
  unfold Vx.orG
  by_cases m : p ∈ ks
  · rw [if_pos m]
  · rw [if_neg m]
    have : g p = 0 := Classical.not_not.mp fun z => m ((h.pos p).mpr z)
    rw [this]
    rfl
def cellsAt (p : Pr) (b : Nat) : List Pr := (cellsN b).map fun y => (p.1 * 32 + y.1, p.2 * 32 + y.2)
def cellsW (ks : List Pr) (g : Pr → Nat) : List Pr := (ks.map fun p => cellsAt p (g p)).flatten
theorem cellsAt_mem {p x : Pr} {b : Nat} : x ∈ cellsAt p b ↔ placeP x = p ∧ b.testBit (bitP x) = true := by
  unfold cellsAt
  rw [List.mem_map]
  constructor
  · rintro ⟨y, m, rfl⟩
    obtain ⟨j, mj, rfl⟩ := List.mem_map.mp m
    obtain ⟨lj, tj⟩ := mem_bitsB.mp mj
    show placeP (backP p j) = p ∧ b.testBit (bitP (backP p j)) = true
    rw [back_place lj, back_bit lj]
    exact ⟨rfl, tj⟩
  · rintro ⟨e, t⟩
    refine ⟨at32 (bitP x), mem_cellsN.mpr ⟨bitP_lt x, t⟩, ?_⟩
    show backP p (bitP x) = x
    rw [← e, back_back]
theorem cellsW_mem {ks : List Pr} {g : Pr → Nat} {x : Pr} : x ∈ cellsW ks g ↔ placeP x ∈ ks ∧ inB g x = true := by
  unfold cellsW
  rw [List.mem_flatten]
  constructor
  · rintro ⟨l, ml, mx⟩
    obtain ⟨p, mp, rfl⟩ := List.mem_map.mp ml
    obtain ⟨e, t⟩ := cellsAt_mem.mp mx
    subst e
    exact ⟨mp, t⟩
  · rintro ⟨m, t⟩
    exact ⟨cellsAt (placeP x) (g (placeP x)), List.mem_map.mpr ⟨placeP x, m, rfl⟩, cellsAt_mem.mpr ⟨rfl, t⟩⟩
theorem cellsAt_nd (p : Pr) (b : Nat) : (cellsAt p b).Nodup := by
  refine List.pairwise_map.mpr ((cellsN_asc b).imp fun {x y} h e => ?_)
  have := ltP_iff.mp h
  have e1 : p.1 * 32 + x.1 = p.1 * 32 + y.1 := congrArg Prod.fst e
  have e2 : p.2 * 32 + x.2 = p.2 * 32 + y.2 := congrArg Prod.snd e
  omega
theorem cellsW_nd {g : Pr → Nat} : ∀ {ks : List Pr}, ks.Nodup → (cellsW ks g).Nodup
  | [], _ => List.Pairwise.nil
  | p :: ks, nd => by
    obtain ⟨n1, n2⟩ := List.nodup_cons.mp nd
    show (cellsAt p (g p) ++ cellsW ks g).Nodup
    refine List.pairwise_append.mpr ⟨cellsAt_nd p _, cellsW_nd n2, fun x mx y my e => ?_⟩
    rw [e] at mx
    have := (cellsAt_mem.mp mx).1
    exact n1 (this ▸ (cellsW_mem.mp my).1)
theorem cellsW_len (ks : List Pr) (g : Pr → Nat) : (cellsW ks g).length = (ks.map fun p => popN (g p)).sum := by
  unfold cellsW
  rw [List.length_flatten, List.map_map]
  congr 1
  refine List.map_congr_left fun p _ => ?_
  show (cellsAt p (g p)).length = _
  unfold cellsAt
  rw [List.length_map, cellsN_len]
end
end My
namespace My
open PySem PySem.Spec PyProof.Rows L2 Vx
open TL
local macro_rules | `(tactic| k_invariant "new" ($n, $H:ident, $e:ident, $h:ident)) => `(tactic| (generalize hE : upd _ _ _ = $H; obtain ⟨$e:ident, $h:ident⟩ := gen_e hE $n; clear hE))
local macro_rules | `(tactic| k_places) => `(tactic| first
  | assumption
  | exact lst_of (by assumption)
  | exact tup_of (by assumption)
  | (refine getS (by assumption) ?_; k_places)
  | (refine Same.seq (by assumption) ?_; k_places)
  | (refine tupS (by assumption) ?_; k_places)
  | (refine lst_of ?_; k_places)
  | (refine tup_of ?_; k_places))
local macro_rules | `(tactic| k_subL) => `(tactic| first
  | k_places
  | solve_by_elim (maxDepth := 10) [getS, lst_of, tup_of, Same.seq, tupS])
local macro_rules | `(tactic| k_offL) => `(tactic| first
  | (show (0 : Int) < _; first | omega | decide)
  | (refine ⟨?_, ?_⟩ <;> first | omega | decide)
  | exact .inr ⟨by decide, by decide⟩
  | exact .inl ⟨by decide, by decide⟩
  | exact .inl ⟨by omega, by omega⟩
  | omega)
local macro_rules | `(tactic| k_clsL) => `(tactic| exact Nat.le_of_ble_eq_true rfl)
local macro_rules | `(tactic| k_upd) => `(tactic| simp only [L2.start, List.map_cons, List.map_nil, List.length_cons, List.length_nil, List.replicate_succ, List.replicate_zero, List.cons_append, List.nil_append, List.set_cons_zero, List.set_cons_succ])
section
variable {P : Program} {w : World} {K : PySem.W.Frag} {mg : Str → Option Value} {base : Heap}
def sp_place_of : Sp := fun vs H Q _ => ∃ x : Pr, vs = [.int x.1, .int x.2] ∧
  ∀ (H' : Hp) (p q : Addr), Same H H' → H p = none → H' p = some (.tup [.ref q, .int ((1 <<< bitP x : Nat) : Int)]) → H' q = some (.tup [.int (placeP x).1, .int (placeP x).2]) → Q (.ref p) H'
theorem ok_place_of (T : Txt K mg) : FnOk P w K mg base CX0 1 T.f_place_of T.d_place_of ["row", "column"] sp_place_of := by
  refine T.F_place_of.ok sc_place_of (fun vs H Q E h => ?_) (fun cdv A outer s H vs Q E hr h => ?_)
  · obtain ⟨_, rfl, _⟩ := h
    rfl
  · obtain ⟨x, rfl, q⟩ := h
    refine ⟨_, (pss_cons (ps_set (i := 2) sc_place_of.nd rfl (.inl rfl) (pe_op op_add (pe_op op_mul (pe_op op_and (pv 0) (pe_op op_sub (pe_gcx (by rfl) T.c_SIDE) pe_int)) (pe_gcx (by rfl) T.c_SIDE)) (pe_op op_and (pv 1) (pe_op op_sub (pe_gcx (by rfl) T.c_SIDE) pe_int))))
      (pss_one (ps_ret (pe_tup (pa_cons (pe_tup (pa_cons (pe_op op_fdiv (pv 0) (pe_gcx (by rfl) T.c_SIDE)) (pa_cons (pe_op op_fdiv (pv 1) (pe_gcx (by rfl) T.c_SIDE)) pa_nil))) (pa_cons (pe_op op_shlNN pe_int (pv 2)) pa_nil)))))), ?_⟩
    k_upd
    refine ⟨_, rfl, _, _, rfl, rfl, _, _, rfl, rfl, _, _, rfl, rfl, .inr ⟨by decide, by decide⟩, _, rfl, _, _, rfl, rfl, _, _, rfl, rfl, _, _, rfl, rfl, ?_⟩
    rw [show (32 : Int) - 1 = 31 from rfl, and31, and31]
    k_upd
    have lt := bitP_lt x
    have eb : x.1 % 32 * 32 + x.2 % 32 = ((bitP x : Nat) : Int) := by
      unfold bitP
      omega
    rw [eb]
    refine ⟨_, rfl, _, _, rfl, rfl, ⟨by decide, by decide⟩, _, rfl, _, _, rfl, rfl, ⟨by decide, by decide⟩, (by k_clsL), fun p1 n1 => ?_⟩
    k_invariant "new" (n1, H1, e1, g1)
    refine ⟨_, rfl, 1, bitP x, 1, rfl, rfl, by decide, by omega, (by k_clsL), fun p2 n2 => ?_⟩
    k_invariant "new" (n2, H2, e2, g2)
    exact q H2 p2 p1 (e1.trans e2) (backS e1 n2) g2 (e2 _ _ g1)
def sp_blocks_of : Sp := fun vs H Q _ => ∃ (l : Addr) (ps : List Pr), vs = [.ref l] ∧ Cells H l ps ∧ ps.length < 10000 ∧
  ∀ (H' : Hp) (d : Addr), H d = none → Same H H' → Dct H' d (plK ps) (fun p => .int (bkP ps p : Nat)) → Q (.ref d) H'
theorem ok_blocks_of (T : Txt K mg) : FnOk P w K mg base CX0 2 T.f_blocks_of T.d_blocks_of ["cells"] sp_blocks_of := by
  refine T.F_blocks_of.ok sc_blocks_of (fun vs H Q E h => ?_) (fun cdv A outer s H vs Q E hr h => ?_)
  · obtain ⟨_, _, rfl, _⟩ := h
    rfl
  · obtain ⟨l, ps, rfl, hC, few, q⟩ := h
    have hu : (A.deeper (envOfC (Str.ofString "blocks_of") (defScope s_blocks_of) s.heap.objs.size T.f_blocks_of cdv)).units + 1 < cLine := by
      have := hr.units
      omega
    refine ⟨_, (pss_cons (ps_set (i := 1) sc_blocks_of.nd rfl (.inl rfl) pe_dnewT)
      (pss_cons (ps_for PassesOwn.never rfl (pi_list (pv 0)) (pg_tupK (K := K) (n := 2) rfl rfl (pgs_cons (pg_name (i := 2) sc_blocks_of.nd rfl (.inl rfl)) (pgs_cons (pg_name (i := 3) sc_blocks_of.nd rfl (.inl rfl)) pgs_nil)))
      (pss_cons (ps_asg (pe_call (ok_place_of T) (hr.mono (by decide)) (by rfl) T.g_place_of T.F_place_of.kp T.b_place_of .nil pass0 (pa_cons (pv 2) (pa_cons (pv 3) pa_nil))) (pg_tupK (K := K) (n := 2) rfl rfl (pgs_cons (pg_name (i := 4) sc_blocks_of.nd rfl (.inl rfl)) (pgs_cons (pg_name (i := 5) sc_blocks_of.nd rfl (.inl rfl)) pgs_nil))))
      (pss_one (ps_dput hu (pv 1) (pv 4) (pe_op op_orNN (pe_dget2 hu (pv 1) (pv 4) pe_int ⟨rfl, rfl, rfl, rfl⟩) (pv 5)) rfl))))
      (pss_one (ps_ret (pv 1))))), ?_⟩
    k_upd
    obtain ⟨ts, hl, ht, ets⟩ := id hC
    refine fun d nd => ?_
    k_invariant "new" (nd, H1, e1, g1)
    k_upd
    have lts : ts.length = ps.length := by rw [← ets, List.length_map]
    refine ⟨_, rfl, l, rfl, ⟨_, lst_of (e1 _ _ hl)⟩, ?_⟩
    refine for_list (K := K) (a := l) (xs := ts.map fun t => V.ref t.1) (fun i σ H' => Same H H' ∧ (∃ x2 x3 x4 x5 : Option V, σ = [some (.ref l), some (.ref d), x2, x3, x4, x5]) ∧
      Dct H' d (plK (ps.take i)) (fun p => .int (bkP (ps.take i) p : Nat)))
      ⟨e1, ⟨_, _, _, _, rfl⟩, Dct.new _ g1⟩ (fun i σ H' _ p => lst_of (p.1 _ _ hl)) ?_ ?_
    · rintro i x σ H' hi ⟨sm, ⟨x2, x3, x4, x5, rfl⟩, hD⟩
      obtain ⟨t, mt, rfl, hx⟩ := item_cells (H := H') hi rfl
      rw [ets] at hx
      have ht' := sm _ _ (ht t mt)
      refine ⟨t.1, _, rfl, tup_of ht', rfl, _, _, rfl, _, _, rfl, rfl, ?_⟩
      k_upd
      refine ⟨_, rfl, _, rfl, t.2, rfl, fun H2 p1 p2 e2 n2 g2 g3 => ?_⟩
      refine ⟨p1, _, rfl, tup_of g2, rfl, _, _, rfl, _, _, rfl, rfl, ?_⟩
      k_upd
      have hD2 := hD.up e2
      refine ⟨_, rfl, d, rfl, hD2.isD, _, rfl, _, hD2.dget (x := placeP t.2) g3, ?_⟩
      have ge : (if placeP t.2 ∈ plK (ps.take i) then some (V.int (bkP (ps.take i) (placeP t.2) : Nat)) else none : Option V).getD (.int 0) = .int (bkP (ps.take i) (placeP t.2) : Nat) := by
        by_cases z : placeP t.2 ∈ plK (ps.take i)
        · rw [if_pos z]
          rfl
        · rw [if_neg z]
          have : bkP (ps.take i) (placeP t.2) = 0 := Classical.not_not.mp fun y => z (mem_plK.mpr (bk_ne.mp y))
          rw [this]
          rfl
      rw [ge]
      have few2 : (plK (ps.take i)).length < sizeLine := by
        have := plK_len (ps.take i)
        rw [List.length_take] at this
        rw [sizeLine_eq]
        omega
      obtain ⟨H3, dp, pa⟩ := hD2.dput (x := placeP t.2) few2 g3 (.int ((bkP (ps.take i) (placeP t.2) ||| 1 <<< bitP t.2 : Nat) : Int))
      refine ⟨_, rfl, _, _, rfl, rfl, _, rfl, _, rfl, d, H3, rfl, dp, pa.mut (sm.trans e2) nd, ⟨_, _, _, _, rfl⟩, ?_⟩
      have z := pa.1
      have ek : plK (ps.take (i + 1)) = addK (plK (ps.take i)) (placeP t.2) := by
        rw [take_next hx]
        unfold plK
        rw [List.foldl_append]
        rfl
      rw [ek]
      refine z.congr fun y m => ?_
      unfold setG
      have eb : bkP (ps.take (i + 1)) y = if placeP t.2 = y then bkP (ps.take i) y ||| 1 <<< bitP t.2 else bkP (ps.take i) y := by
        rw [take_next hx]
        unfold bkP
        rw [List.foldl_append]
        rfl
      rw [eb]
      by_cases c : y = placeP t.2
      · rw [if_pos c, if_pos c.symm, c]
      · rw [if_neg c, if_neg fun e => c e.symm]
    · rintro σ H' ⟨sm, ⟨x2, x3, x4, x5, rfl⟩, hD⟩
      rw [List.length_map, lts, List.take_length] at hD
      exact ⟨_, rfl, q H' d nd sm hD⟩
def modeS (m : Nat) : Str := if m = 0 then Str.ofString "add" else if m = 1 then Str.ofString "clear" else Str.ofString "flip"
def sp_block_changed : Sp := fun vs H Q _ => ∃ (a b m : Nat), m < 3 ∧ vs = [.int (a : Int), .int (b : Int), .str (modeS m)] ∧ Q (.int (chg m a b : Nat)) H
theorem ok_block_changed (T : Txt K mg) : FnOk P w K mg base CX0 1 T.f_block_changed T.d_block_changed ["block", "other", "mode"] sp_block_changed := by
  refine T.F_block_changed.ok sc_block_changed (fun vs H Q E h => ?_) (fun cdv A outer s H vs Q E hr h => ?_)
  · obtain ⟨_, _, _, _, rfl, _⟩ := h
    rfl
  · obtain ⟨a, b, m, hm, rfl, q⟩ := h
    refine ⟨_, (pss_cons (ps_if (pt_cmpR op_eq (pv 2) pe_str (nomark _))
      (pss_one (ps_ret (pe_op op_orNN (pv 0) (pv 1))))
      pss_nil)
      (pss_cons (ps_if (pt_cmpR op_eq (pv 2) pe_str (nomark _))
      (pss_one (ps_ret (pe_op op_xorNN (pv 0) (pe_op op_andNN (pv 0) (pv 1)))))
      pss_nil)
      (pss_one (ps_ret (pe_op op_xorNN (pv 0) (pv 1)))))), ?_⟩
    have m3 : m = 0 ∨ m = 1 ∨ m = 2 := by omega
    have ne1 : ¬ (V.str (modeS 1) = V.str (Str.ofString "add")) := by decide +kernel
    have ne2 : ¬ (V.str (modeS 2) = V.str (Str.ofString "add")) := by decide +kernel
    have ne3 : ¬ (V.str (modeS 2) = V.str (Str.ofString "clear")) := by decide +kernel
    rcases m3 with e | e | e <;> subst e
    · refine ⟨_, rfl, rfl, _, rfl, ?_⟩
      rw [decide_eq_true (show V.str (modeS 0) = V.str (Str.ofString "add") from rfl)]
      refine iteT ?_
      exact ⟨_, rfl, _, rfl, _, _, rfl, rfl, q⟩
    · refine ⟨_, rfl, rfl, _, rfl, ?_⟩
      rw [decide_eq_false ne1]
      refine iteF ?_
      refine ⟨_, rfl, rfl, _, rfl, ?_⟩
      rw [decide_eq_true (show V.str (modeS 1) = V.str (Str.ofString "clear") from rfl)]
      refine iteT ?_
      exact ⟨_, rfl, _, rfl, _, rfl, _, _, rfl, rfl, _, _, rfl, rfl, q⟩
    · refine ⟨_, rfl, rfl, _, rfl, ?_⟩
      rw [decide_eq_false ne2]
      refine iteF ?_
      refine ⟨_, rfl, rfl, _, rfl, ?_⟩
      rw [decide_eq_false ne3]
      refine iteF ?_
      exact ⟨_, rfl, _, rfl, _, _, rfl, rfl, q⟩
end
end My
namespace My
open PySem PySem.Spec PyProof.Rows L2 Vx
open TL
local macro_rules | `(tactic| k_invariant "new" ($n, $H:ident, $e:ident, $h:ident)) => `(tactic| (generalize hE : upd _ _ _ = $H; obtain ⟨$e:ident, $h:ident⟩ := gen_e hE $n; clear hE))
local macro_rules | `(tactic| k_places) => `(tactic| first
  | assumption
  | exact lst_of (by assumption)
  | exact tup_of (by assumption)
  | (refine getS (by assumption) ?_; k_places)
  | (refine Same.seq (by assumption) ?_; k_places)
  | (refine tupS (by assumption) ?_; k_places)
  | (refine lst_of ?_; k_places)
  | (refine tup_of ?_; k_places))
local macro_rules | `(tactic| k_subL) => `(tactic| first
  | k_places
  | solve_by_elim (maxDepth := 10) [getS, lst_of, tup_of, Same.seq, tupS])
local macro_rules | `(tactic| k_offL) => `(tactic| first
  | (show (0 : Int) < _; first | omega | decide)
  | (refine ⟨?_, ?_⟩ <;> first | omega | decide)
  | exact .inr ⟨by decide, by decide⟩
  | exact .inl ⟨by decide, by decide⟩
  | exact .inl ⟨by omega, by omega⟩
  | omega)
local macro_rules | `(tactic| k_clsL) => `(tactic| exact Nat.le_of_ble_eq_true rfl)
local macro_rules | `(tactic| k_upd) => `(tactic| simp only [L2.start, List.map_cons, List.map_nil, List.length_cons, List.length_nil, List.replicate_succ, List.replicate_zero, List.cons_append, List.nil_append, List.set_cons_zero, List.set_cons_succ])
section
variable {P : Program} {w : World} {K : PySem.W.Frag} {mg : Str → Option Value} {base : Heap}
def BlkR (C CR : Addr) (H : Hp) (bo : Addr) (bs ss : List Int) : Prop :=
  ∃ dx ru fl, H bo = some (.ins C dx (bf ru fl)) ∧ H fl = some (.lst ((List.range 5).map fun l => .int (fullN l : Nat))) ∧ RuleAt CR H ru bs ss
theorem BlkR.up {C CR : Addr} {H H' : Hp} {bo : Addr} {bs ss : List Int} (e : Same H H') (h : BlkR C CR H bo bs ss) : BlkR C CR H' bo bs ss := by
  obtain ⟨dx, ru, fl, h1, h2, h3⟩ := h
  exact ⟨dx, ru, fl, e _ _ h1, e _ _ h2, h3.up e⟩
theorem BlkR.at {C CR : Addr} {H : Hp} {bo : Addr} {bs ss : List Int} (h : BlkR C CR H bo bs ss) : BlkAt C H bo := by
  obtain ⟨dx, ru, fl, h1, h2, _⟩ := h
  exact ⟨dx, ru, fl, h1, h2⟩
theorem quarter2 (l : Nat) : (1 <<< (l + 2)) >>> 2 = 2 ^ l := by
  rw [Nat.one_shiftLeft, Nat.shiftRight_eq_div_pow, Nat.pow_add]
  omega
def sp_centre (C : Addr) : Sp := fun vs H Q _ => ∃ (bo : Addr) (l b : Nat), l < 4 ∧ vs = [.ref bo, .int ((l + 2 : Nat) : Int), .int (b : Int)] ∧ BlkAt C H bo ∧ Q (.int (cutN (l + 1) b (2 ^ l) (2 ^ l) : Nat)) H
theorem ok_Blocks_centre (T : Txt K mg) : FnOk P w K mg base CX0 2 T.f_Blocks_centre T.d_Blocks_centre ["self", "level", "block"] (sp_centre T.C_Blocks) := by
  refine T.F_Blocks_centre.ok sc_Blocks_centre (fun vs H Q E h => ?_) (fun cdv A outer s H vs Q E hr h => ?_)
  · obtain ⟨_, _, _, _, rfl, _⟩ := h
    rfl
  · obtain ⟨bo, l, b, hl, rfl, hB, q⟩ := h
    refine ⟨_, (pss_cons (ps_set (i := 3) sc_Blocks_centre.nd rfl (.inl rfl) (pe_op op_shrNN (pe_op op_shlNN pe_int (pv 1)) pe_int))
      (pss_one (ps_ret (pe_meth (pv 0) T.cl_Blocks T.m_Blocks_cut (ok_Blocks_cut T) (hr.mono (by decide)) T.b_Blocks_cut .nil pass0 (pa_cons (pe_op op_sub (pv 1) pe_int) (pa_cons (pv 2) (pa_cons (pv 3) (pa_cons (pv 3) pa_nil)))))))), ?_⟩
    k_upd
    refine ⟨_, rfl, 1, l + 2, 1, rfl, rfl, by decide, by omega, _, 2, rfl, rfl, ?_⟩
    rw [quarter2]
    obtain ⟨dx, ru, fl, h1, h2⟩ := id hB
    refine ⟨_, rfl, bo, _, _, rfl, h1, rfl, _, rfl, _, _, rfl, rfl, _, rfl, _, rfl, _, rfl, bo, l + 1, b, 2 ^ l, 2 ^ l, by omega, ?_, hB, q⟩
    dsimp only
    rw [show ((l + 2 : Nat) : Int) - 1 = ((l + 1 : Nat) : Int) by omega]
    rfl
def sp_centre_after (C CR : Addr) : Sp := fun vs H Q _ => ∃ (bo : Addr) (l b n : Nat) (bs ss : List Int), l < 4 ∧ n ≤ 16 ∧ vs = [.ref bo, .int ((l + 2 : Nat) : Int), .int (b : Int), .int (n : Int)] ∧ b < 2 ^ 1024 ∧ BlkR C CR H bo bs ss ∧ (∀ b ∈ bs, 1 ≤ b ∧ b ≤ 8) ∧ (∀ b ∈ ss, 0 ≤ b ∧ b ≤ 8) ∧
  ∀ H', Same H H' → Q (.int (cutN (l + 1) (iterBlk bs ss n b) (2 ^ l) (2 ^ l) : Nat)) H'
theorem ok_Blocks_centre_after (T : Txt K mg) : FnOk P w K mg base CX0 3 T.f_Blocks_centre_after T.d_Blocks_centre_after ["self", "level", "block", "generations"] (sp_centre_after T.C_Blocks T.C_Rule) := by
  refine T.F_Blocks_centre_after.ok sc_Blocks_centre_after (fun vs H Q E h => ?_) (fun cdv A outer s H vs Q E hr h => ?_)
  · obtain ⟨_, _, _, _, _, _, _, _, rfl, _⟩ := h
    rfl
  · obtain ⟨bo, l, b, n, bs, ss, hl, hn, rfl, hb, hB, g1, g2, q⟩ := h
    refine ⟨_, (pss_cons (ps_for PassesOwn.never rfl (pi_range1 (by rfl) T.z_range (pa_cons (pv 3) pa_nil)) (pg_name (i := 4) sc_Blocks_centre_after.nd rfl (.inl rfl))
      (pss_one (ps_set (i := 2) sc_Blocks_centre_after.nd rfl (.inl rfl) (pe_call (ok_next_block T) (hr.mono (by decide)) (by rfl) T.g_next_block T.F_next_block.kp T.b_next_block .nil pass0 (pa_cons (pv 2) (pa_cons (pe_fld (pv 0) rfl) pa_nil))))))
      (pss_one (ps_ret (pe_meth (pv 0) T.cl_Blocks T.m_Blocks_centre (ok_Blocks_centre T) (hr.mono (by decide)) T.b_Blocks_centre .nil pass0 (pa_cons (pv 1) (pa_cons (pv 2) pa_nil)))))), ?_⟩
    k_upd
    refine ⟨_, rfl, (n : Int), rfl, by omega, by omega, ?_⟩
    refine for_range (lo := 0) (n := ((n : Int)).toNat) (fun i σ H' => Same H H' ∧ ∃ x4 : Option V, σ = [some (.ref bo), some (.int ((l + 2 : Nat) : Int)), some (.int (iterBlk bs ss i b : Nat)), some (.int (n : Int)), x4] ∧ iterBlk bs ss i b < 2 ^ (1024 + 34 * i))
      ⟨fun _ _ e => e, _, rfl, hb⟩ ?_ ?_
    · rintro i σ H1 hi ⟨sm, x4, rfl, lt⟩
      obtain ⟨dx, ru, fl, h1, h2, h3⟩ := hB.up sm
      refine ⟨_, rfl, _, rfl, bo, _, _, _, _, rfl, h1, T.cl_Blocks, T.na_Blocks__rule, rfl, ru, iterBlk bs ss i b, 1024 + 34 * i, bs, ss, rfl, lt, by omega, h3, fun z m => ?_, g2, fun H2 e2 => ?_⟩
      · have := g1 z m
        omega
      · exact ⟨sm.trans e2, _, rfl, by
          have := nextBlk_lt g1 g2 lt
          rw [show 1024 + 34 * (i + 1) = 1024 + 34 * i + 34 by omega]
          exact this⟩
    · rintro σ H1 ⟨sm, x4, rfl, lt⟩
      have hB1 := (hB.up sm).at
      obtain ⟨dx, ru, fl, h1, h2⟩ := id hB1
      refine ⟨_, rfl, bo, _, _, rfl, h1, rfl, _, rfl, _, rfl, bo, l, _, hl, rfl, hB1, ?_⟩
      rw [Int.toNat_natCast]
      exact q H1 sm
end
end My
namespace My
open PySem PySem.Spec PyProof.Rows L2 Vx
open TL
local macro_rules | `(tactic| k_invariant "new" ($n, $H:ident, $e:ident, $h:ident)) => `(tactic| (generalize hE : upd _ _ _ = $H; obtain ⟨$e:ident, $h:ident⟩ := gen_e hE $n; clear hE))
local macro_rules | `(tactic| k_places) => `(tactic| first
  | assumption
  | exact lst_of (by assumption)
  | exact tup_of (by assumption)
  | (refine getS (by assumption) ?_; k_places)
  | (refine Same.seq (by assumption) ?_; k_places)
  | (refine tupS (by assumption) ?_; k_places)
  | (refine lst_of ?_; k_places)
  | (refine tup_of ?_; k_places))
local macro_rules | `(tactic| k_subL) => `(tactic| first
  | k_places
  | solve_by_elim (maxDepth := 10) [getS, lst_of, tup_of, Same.seq, tupS])
local macro_rules | `(tactic| k_offL) => `(tactic| first
  | (show (0 : Int) < _; first | omega | decide)
  | (refine ⟨?_, ?_⟩ <;> first | omega | decide)
  | exact .inr ⟨by decide, by decide⟩
  | exact .inl ⟨by decide, by decide⟩
  | exact .inl ⟨by omega, by omega⟩
  | omega)
local macro_rules | `(tactic| k_clsL) => `(tactic| exact Nat.le_of_ble_eq_true rfl)
local macro_rules | `(tactic| k_upd) => `(tactic| simp only [L2.start, List.map_cons, List.map_nil, List.length_cons, List.length_nil, List.replicate_succ, List.replicate_zero, List.cons_append, List.nil_append, List.set_cons_zero, List.set_cons_succ])
section
variable {P : Program} {w : World} {K : PySem.W.Frag} {mg : Str → Option Value} {base : Heap}
/-! ### what lies outside of some addresses -/
def hide (M : List Addr) (H : Hp) : Hp := fun b => if b ∈ M then none else H b
theorem hide_in {M : List Addr} {H : Hp} {b : Addr} (h : b ∈ M) : hide M H b = none := if_pos h
theorem hide_out {M : List Addr} {H : Hp} {b : Addr} (h : b ∉ M) : hide M H b = H b := if_neg h
theorem hide_le {M : List Addr} {H : Hp} : Same (hide M H) H := fun b o e => by
  by_cases h : b ∈ M
  · rw [hide_in h] at e
    cases e
  · rwa [hide_out h] at e
theorem hide_up {M : List Addr} {H H' : Hp} (e : Same H H') : Same (hide M H) (hide M H') := fun b o h => by
  by_cases c : b ∈ M
  · rw [hide_in c] at h
    cases h
  · rw [hide_out c] at h ⊢
    exact e _ _ h
theorem hide_upd {M : List Addr} {H : Hp} {b : Addr} {o : HO} (h : b ∈ M) : hide M (upd H b o) = hide M H := funext fun a => by
  by_cases c : a ∈ M
  · rw [hide_in c, hide_in c]
  · rw [hide_out c, hide_out c, upd_ne fun e => c (by rw [e]; exact h)]
theorem hide_updO {M : List Addr} {H : Hp} {b : Addr} {o : HO} (h : b ∉ M) : hide M (upd H b o) = upd (hide M H) b o := funext fun a => by
  by_cases c : a = b
  · subst c
    rw [hide_out h, upd_same, upd_same]
  · rw [upd_ne c]
    by_cases d : a ∈ M
    · rw [hide_in d, hide_in d]
    · rw [hide_out d, hide_out d, upd_ne c]
/-! ### places in a list -/
theorem idx_ne {x y : Pr} {l : List Pr} (e : y ≠ x) : (y :: l).idxOf x = l.idxOf x + 1 := by
  rw [List.idxOf_cons, beq_false_of_ne e]
  rfl
theorem idx_mem {x : Pr} : ∀ {l : List Pr}, x ∈ l → l[l.idxOf x]? = some x
  | [], h => by cases h
  | y :: l, h => by
    by_cases e : y = x
    · subst e
      rw [List.idxOf_cons_self]
      rfl
    · have m : x ∈ l := (List.mem_cons.mp h).elim (fun z => absurd z.symm e) id
      rw [idx_ne e]
      exact idx_mem m
theorem idx_app {x : Pr} {m : List Pr} : ∀ {l : List Pr}, x ∈ l → (l ++ m).idxOf x = l.idxOf x
  | [], h => by cases h
  | y :: l, h => by
    by_cases e : y = x
    · subst e
      rw [List.cons_append, List.idxOf_cons_self, List.idxOf_cons_self]
    · have h : x ∈ l := (List.mem_cons.mp h).elim (fun z => absurd z.symm e) id
      rw [List.cons_append, idx_ne e, idx_ne e, idx_app h]
theorem idx_new {x : Pr} : ∀ {l : List Pr}, x ∉ l → (l ++ [x]).idxOf x = l.length
  | [], h => by
    rw [List.nil_append, List.idxOf_cons_self]
    rfl
  | y :: l, h => by
    have e : y ≠ x := fun e => h (e ▸ List.mem_cons_self)
    rw [List.cons_append, idx_ne (l := l ++ [x]) e, idx_new fun m => h (List.mem_cons_of_mem _ m)]
    rfl
theorem get_inj {l : List Pr} (nd : l.Nodup) {m n : Nat} {x : Pr} (h1 : l[m]? = some x) (h2 : l[n]? = some x) : m = n := by
  obtain ⟨a, ea⟩ := List.getElem?_eq_some_iff.mp h1
  obtain ⟨b, eb⟩ := List.getElem?_eq_some_iff.mp h2
  exact (List.getElem_inj nd (h₀ := a) (h₁ := b)).mp (ea.trans eb.symm)
theorem get_idx {l : List Pr} (nd : l.Nodup) {n : Nat} {x : Pr} (h : l[n]? = some x) : l.idxOf x = n := get_inj nd (idx_mem (List.mem_of_getElem? h)) h
theorem pre_get {l m : List Pr} (h : l <+: m) {n : Nat} {x : Pr} (e : l[n]? = some x) : m[n]? = some x := by
  obtain ⟨r, rfl⟩ := h
  rw [List.getElem?_append_left (List.getElem?_eq_some_iff.mp e).1]
  exact e
/-! ### the store -/
def sf (ru bo la ca ba pa sm lg em fu : Addr) : List (Str × V) := putF "_futures" (.ref fu) (putF "_empty" (.ref em) (putF "_large" (.ref lg) (putF "_small" (.ref sm) (putF "_parts" (.ref pa) (putF "_bits" (.ref ba) (putF "_counts" (.ref ca) (putF "_levels" (.ref la) (putF "_blocks" (.ref bo) (putF "_rule" (.ref ru) [])))))))))
structure SA where
  st : Addr
  bo : Addr
  la : Addr
  ca : Addr
  ba : Addr
  pa : Addr
  sm : Addr
  em : Addr
def SA.M (A : SA) : List Addr := [A.la, A.ca, A.ba, A.pa, A.sm, A.em]
def lvL (sq : List Pr) : List V := sq.map fun x => .int x.1
def ctL (sq : List Pr) : List V := sq.map fun x => .int (popN x.2.toNat : Nat)
def btL (sq : List Pr) : List V := sq.map fun x => .int x.2
def emL (sq : List Pr) (es : Nat) : List V := (List.range es).map fun (i : Nat) => .int (sq.idxOf ((i : Int), (0 : Int)) : Nat)
def ixG (sq : List Pr) : Pr → V := fun x => .int (sq.idxOf x : Nat)
structure StoreIs (C CB : Addr) (H : Hp) (A : SA) (sq : List Pr) (es : Nat) : Prop where
  obj : ∃ dx ru lg fu, H A.st = some (.ins C dx (sf ru A.bo A.la A.ca A.ba A.pa A.sm lg A.em fu))
  blk : BlkAt CB (hide A.M H) A.bo
  lv : H A.la = some (.lst (lvL sq))
  ct : H A.ca = some (.lst (ctL sq))
  bt : H A.ba = some (.lst (btL sq))
  pt : ∃ us : List V, H A.pa = some (.lst us) ∧ us.length = sq.length
  dc : Dct H A.sm sq (ixG sq)
  em : H A.em = some (.lst (emL sq es))
  ems : ∀ i < es, ((i : Int), (0 : Int)) ∈ sq
  nd : (A.st :: A.M).Nodup
  fit : ∀ x ∈ sq, ∃ l b : Nat, x = ((l : Int), (b : Int)) ∧ l < 6 ∧ Fit l b
theorem StoreIs.up {C CB : Addr} {H H' : Hp} {A : SA} {sq : List Pr} {es : Nat} (e : Same H H') (h : StoreIs C CB H A sq es) : StoreIs C CB H' A sq es := by
  obtain ⟨⟨dx, ru, lg, fu, h1⟩, h2, h3, h4, h5, ⟨us, h6, h7⟩, h8, h9, h10, h11, h12⟩ := h
  exact ⟨⟨dx, ru, lg, fu, e _ _ h1⟩, h2.up (hide_up e), e _ _ h3, e _ _ h4, e _ _ h5, ⟨us, e _ _ h6, h7⟩, h8.up e, e _ _ h9, h10, h11, h12⟩
theorem StoreIs.nodup {C CB : Addr} {H : Hp} {A : SA} {sq : List Pr} {es : Nat} (h : StoreIs C CB H A sq es) : sq.Nodup := by
  obtain ⟨kvs, _, h⟩ := h.dc
  exact h.2
theorem StoreIs.off {C CB : Addr} {H : Hp} {A : SA} {sq : List Pr} {es : Nat} {p : Addr} (h : StoreIs C CB H A sq es) (n : H p = none) : p ∉ A.M := fun m => by
  obtain ⟨us, h6, _⟩ := h.pt
  obtain ⟨kvs, h8, _⟩ := h.dc
  have no : ∀ {b : Addr} {o : HO}, H b = some o → p ≠ b := fun e z => by rw [z, e] at n; cases n
  simp only [SA.M, List.mem_cons, List.not_mem_nil, or_false] at m
  rcases m with z | z | z | z | z | z
  · exact no h.lv z
  · exact no h.ct z
  · exact no h.bt z
  · exact no h6 z
  · exact no h8 z
  · exact no h.em z
/-- the store grows by at most k squares -/
structure Gr (C CB : Addr) (A : SA) (k : Nat) (H : Hp) (sq : List Pr) (es : Nat) (H' : Hp) (sq' : List Pr) (es' : Nat) : Prop where
  fr : Same (hide A.M H) (hide A.M H')
  st : StoreIs C CB H' A sq' es'
  pre : sq <+: sq'
  len : sq'.length ≤ sq.length + k
  ge : es ≤ es'
theorem Gr.refl {C CB : Addr} {A : SA} {H : Hp} {sq : List Pr} {es : Nat} (k : Nat) (h : StoreIs C CB H A sq es) : Gr C CB A k H sq es H sq es := ⟨fun _ _ e => e, h, List.prefix_rfl, Nat.le_add_right _ _, Nat.le_refl _⟩
theorem Gr.trans {C CB : Addr} {A : SA} {k k' : Nat} {H H' H'' : Hp} {sq sq' sq'' : List Pr} {es es' es'' : Nat} (h : Gr C CB A k H sq es H' sq' es') (h' : Gr C CB A k' H' sq' es' H'' sq'' es'') : Gr C CB A (k + k') H sq es H'' sq'' es'' :=
  ⟨h.fr.trans h'.fr, h'.st, h.pre.trans h'.pre, by have := h.len; have := h'.len; omega, Nat.le_trans h.ge h'.ge⟩
theorem Gr.more {C CB : Addr} {A : SA} {k k' : Nat} {H H' : Hp} {sq sq' : List Pr} {es es' : Nat} (h : Gr C CB A k H sq es H' sq' es') (l : k ≤ k') : Gr C CB A k' H sq es H' sq' es' :=
  ⟨h.fr, h.st, h.pre, by have := h.len; omega, h.ge⟩
theorem Gr.same {C CB : Addr} {A : SA} {k : Nat} {H H' H'' : Hp} {sq sq' : List Pr} {es es' : Nat} (h : Gr C CB A k H sq es H' sq' es') (e : Same H' H'') : Gr C CB A k H sq es H'' sq' es' :=
  ⟨h.fr.trans (hide_up e), h.st.up e, h.pre, h.len, h.ge⟩
theorem Gr.of_same {C CB : Addr} {A : SA} {k : Nat} {H0 H H' : Hp} {sq sq' : List Pr} {es es' : Nat} (e : Same H0 H) (h : Gr C CB A k H sq es H' sq' es') : Gr C CB A k H0 sq es H' sq' es' :=
  ⟨(hide_up e).trans h.fr, h.st, h.pre, h.len, h.ge⟩
def sp_new_square (C : Addr) : Sp := fun vs H Q _ => ∃ (A : SA) (ls cs bs us : List V) (l c b : Int) (v : V), vs = [.ref A.st, .int l, .int c, .int b, v] ∧
  (∃ dx ru lg fu, H A.st = some (.ins C dx (sf ru A.bo A.la A.ca A.ba A.pa A.sm lg A.em fu))) ∧ H A.la = some (.lst ls) ∧ H A.ca = some (.lst cs) ∧ H A.ba = some (.lst bs) ∧ H A.pa = some (.lst us) ∧
  (A.st :: A.M).Nodup ∧ ls.length < 10000000 ∧ cs.length < 10000000 ∧ bs.length < 10000000 ∧ us.length < 10000000 ∧
  Q (.int (ls.length : Nat)) (upd (upd (upd (upd H A.la (.lst (ls ++ [.int l]))) A.ca (.lst (cs ++ [.int c]))) A.ba (.lst (bs ++ [.int b]))) A.pa (.lst (us ++ [v])))
theorem ok_Store_new_square (T : Txt K mg) : FnOk P w K mg base CX0 1 T.f_Store_new_square T.d_Store_new_square ["self", "level", "count", "block", "parts"] (sp_new_square T.C_Store) := by
  refine T.F_Store_new_square.ok sc_Store_new_square (fun vs H Q E h => ?_) (fun cdv A outer s H vs Q E hr h => ?_)
  · obtain ⟨_, _, _, _, _, _, _, _, _, rfl, _⟩ := h
    rfl
  · obtain ⟨S, ls, cs, bs, us, l, c, b, v, rfl, ⟨dx, ru, lg, fu, ho⟩, h1, h2, h3, h4, nd, l1, l2, l3, l4, q⟩ := h
    refine ⟨_, (pss_cons (ps_expr (pe_bm PySem.F.plainAttrs_list PySem.F.slot_list_append PySem.F.type_list_append mt_append (pe_fld (pv 0) rfl) (pa_cons (pv 1) pa_nil)))
      (pss_cons (ps_expr (pe_bm PySem.F.plainAttrs_list PySem.F.slot_list_append PySem.F.type_list_append mt_append (pe_fld (pv 0) rfl) (pa_cons (pv 2) pa_nil)))
      (pss_cons (ps_expr (pe_bm PySem.F.plainAttrs_list PySem.F.slot_list_append PySem.F.type_list_append mt_append (pe_fld (pv 0) rfl) (pa_cons (pv 3) pa_nil)))
      (pss_cons (ps_expr (pe_bm PySem.F.plainAttrs_list PySem.F.slot_list_append PySem.F.type_list_append mt_append (pe_fld (pv 0) rfl) (pa_cons (pv 4) pa_nil)))
      (pss_one (ps_ret (pe_op op_sub (pe_callB call_lenL (by rfl) T.z_len (by decide +kernel) (pa_cons (pe_fld (pv 0) rfl) pa_nil)) pe_int))))))), ?_⟩
    k_upd
    have ne : ∀ {x y : Addr}, x ≠ y → y ≠ x := fun h => h.symm
    simp only [SA.M, List.nodup_cons, List.mem_cons, List.not_mem_nil, or_false, not_or] at nd
    obtain ⟨⟨n1, n2, n3, n4, n5, n6⟩, ⟨m1, m2, m3, m4, m5⟩, ⟨o1, o2, o3, o4⟩, ⟨p1, p2, p3⟩, ⟨q1, q2⟩, r1, _⟩ := nd
    refine ⟨_, rfl, S.st, _, _, _, _, rfl, ho, T.cl_Store, T.na_Store__levels, rfl, .inl ⟨rfl, _, lst_of h1⟩, _, rfl, _, _, _, rfl, rfl, h1, by rw [sizeLine_eq]; omega, ?_⟩
    have ho1 : upd H S.la (.lst (ls ++ [.int l])) S.st = some (.ins T.C_Store dx (sf ru S.bo S.la S.ca S.ba S.pa S.sm lg S.em fu)) := by rw [upd_ne n1]; exact ho
    have k2 : upd H S.la (.lst (ls ++ [.int l])) S.ca = some (.lst cs) := by rw [upd_ne (ne m1)]; exact h2
    have k3 : upd H S.la (.lst (ls ++ [.int l])) S.ba = some (.lst bs) := by rw [upd_ne (ne m2)]; exact h3
    have k4 : upd H S.la (.lst (ls ++ [.int l])) S.pa = some (.lst us) := by rw [upd_ne (ne m3)]; exact h4
    have k1 : upd H S.la (.lst (ls ++ [.int l])) S.la = some (.lst (ls ++ [.int l])) := upd_same
    obtain ⟨H1, e1⟩ : ∃ H1, H1 = upd H S.la (.lst (ls ++ [.int l])) := ⟨_, rfl⟩
    rw [← e1] at ho1 k1 k2 k3 k4 q ⊢
    refine ⟨_, rfl, S.st, _, _, _, _, rfl, ho1, T.cl_Store, T.na_Store__counts, rfl, .inl ⟨rfl, _, lst_of k2⟩, _, rfl, _, _, _, rfl, rfl, k2, by rw [sizeLine_eq]; omega, ?_⟩
    have ho2 : upd H1 S.ca (.lst (cs ++ [.int c])) S.st = some (.ins T.C_Store dx (sf ru S.bo S.la S.ca S.ba S.pa S.sm lg S.em fu)) := by rw [upd_ne n2]; exact ho1
    have j1 : upd H1 S.ca (.lst (cs ++ [.int c])) S.la = some (.lst (ls ++ [.int l])) := by rw [upd_ne m1]; exact k1
    have j3 : upd H1 S.ca (.lst (cs ++ [.int c])) S.ba = some (.lst bs) := by rw [upd_ne (ne o1)]; exact k3
    have j4 : upd H1 S.ca (.lst (cs ++ [.int c])) S.pa = some (.lst us) := by rw [upd_ne (ne o2)]; exact k4
    obtain ⟨H2, e2⟩ : ∃ H2, H2 = upd H1 S.ca (.lst (cs ++ [.int c])) := ⟨_, rfl⟩
    rw [← e2] at ho2 j1 j3 j4 q ⊢
    refine ⟨_, rfl, S.st, _, _, _, _, rfl, ho2, T.cl_Store, T.na_Store__bits, rfl, .inl ⟨rfl, _, lst_of j3⟩, _, rfl, _, _, _, rfl, rfl, j3, by rw [sizeLine_eq]; omega, ?_⟩
    have ho3 : upd H2 S.ba (.lst (bs ++ [.int b])) S.st = some (.ins T.C_Store dx (sf ru S.bo S.la S.ca S.ba S.pa S.sm lg S.em fu)) := by rw [upd_ne n3]; exact ho2
    have i1 : upd H2 S.ba (.lst (bs ++ [.int b])) S.la = some (.lst (ls ++ [.int l])) := by rw [upd_ne m2]; exact j1
    have i4 : upd H2 S.ba (.lst (bs ++ [.int b])) S.pa = some (.lst us) := by rw [upd_ne (ne p1)]; exact j4
    obtain ⟨H3, e3⟩ : ∃ H3, H3 = upd H2 S.ba (.lst (bs ++ [.int b])) := ⟨_, rfl⟩
    rw [← e3] at ho3 i1 i4 q ⊢
    refine ⟨_, rfl, S.st, _, _, _, _, rfl, ho3, T.cl_Store, T.na_Store__parts, rfl, .inl ⟨rfl, _, lst_of i4⟩, _, rfl, _, _, _, rfl, rfl, i4, by rw [sizeLine_eq]; omega, ?_⟩
    have ho4 : upd H3 S.pa (.lst (us ++ [v])) S.st = some (.ins T.C_Store dx (sf ru S.bo S.la S.ca S.ba S.pa S.sm lg S.em fu)) := by rw [upd_ne n4]; exact ho3
    have f1 : upd H3 S.pa (.lst (us ++ [v])) S.la = some (.lst (ls ++ [.int l])) := by rw [upd_ne m3]; exact i1
    obtain ⟨H4, e4⟩ : ∃ H4, H4 = upd H3 S.pa (.lst (us ++ [v])) := ⟨_, rfl⟩
    rw [← e4] at ho4 f1 q ⊢
    refine ⟨_, rfl, S.st, _, _, _, _, rfl, ho4, T.cl_Store, T.na_Store__levels, rfl, _, _, rfl, lst_of f1, _, _, rfl, rfl, ?_⟩
    dsimp only
    rw [List.length_append, List.length_singleton, show ((ls.length + 1 : Nat) : Int) - 1 = ((ls.length : Nat) : Int) by omega]
    exact q
/-- a square more -/
theorem StoreIs.grow {C CB : Addr} {H H' : Hp} {A : SA} {sq : List Pr} {es : Nat} {l b : Nat} {us : List V} {v : V} {kvs : List (List L2.Key × V)} (h : StoreIs C CB H A sq es) (n : ((l : Int), (b : Int)) ∉ sq) (hl : l < 6) (hf : Fit l b)
    (h1 : ∀ a, a ∉ A.M → H' a = H a) (g1 : H' A.la = some (.lst (lvL sq ++ [.int (l : Int)]))) (g2 : H' A.ca = some (.lst (ctL sq ++ [.int (popN b : Nat)]))) (g3 : H' A.ba = some (.lst (btL sq ++ [.int (b : Int)]))) (g4 : H' A.pa = some (.lst (us ++ [v]))) (lu : us.length = sq.length)
    (g5 : Dct H' A.sm (addK sq ((l : Int), (b : Int))) (setG (ixG sq) ((l : Int), (b : Int)) (.int (sq.length : Nat)))) (g6 : H' A.em = H A.em) : StoreIs C CB H' A (sq ++ [((l : Int), (b : Int))]) es := by
  have out : A.st ∉ A.M := (List.nodup_cons.mp h.nd).1
  obtain ⟨dx, ru, lg, fu, ho⟩ := h.obj
  have same : Same (hide A.M H) (hide A.M H') := fun a o e => by
    by_cases c : a ∈ A.M
    · rw [hide_in c] at e
      cases e
    · rw [hide_out c] at e ⊢
      rw [h1 a c]
      exact e
  rw [addK_new n] at g5
  refine ⟨⟨dx, ru, lg, fu, by rw [h1 _ out]; exact ho⟩, h.blk.up same, ?_, ?_, ?_, ⟨us ++ [v], g4, by rw [List.length_append, List.length_append, lu]; rfl⟩, g5.congr fun x m => ?_, ?_, fun i hi => List.mem_append.mpr (.inl (h.ems i hi)), h.nd, fun x m => ?_⟩
  · rw [g1]
    unfold lvL
    rw [List.map_append]
    rfl
  · rw [g2]
    unfold ctL
    rw [List.map_append]
    rfl
  · rw [g3]
    unfold btL
    rw [List.map_append]
    rfl
  · unfold setG ixG
    by_cases e : x = ((l : Int), (b : Int))
    · rw [if_pos e, e, idx_new n]
    · rw [if_neg e, idx_app ((List.mem_append.mp m).elim id fun z => absurd (List.mem_singleton.mp z) e)]
  · rw [g6, h.em]
    congr 2
    unfold emL
    refine List.map_congr_left fun i m => ?_
    rw [idx_app (h.ems i (List.mem_range.mp m))]
  · rcases List.mem_append.mp m with m | m
    · exact h.fit x m
    · exact ⟨l, b, List.mem_singleton.mp m, hl, hf⟩
end
end My
namespace My
open PySem PySem.Spec PyProof.Rows L2 Vx
open TL
local macro_rules | `(tactic| k_invariant "new" ($n, $H:ident, $e:ident, $h:ident)) => `(tactic| (generalize hE : upd _ _ _ = $H; obtain ⟨$e:ident, $h:ident⟩ := gen_e hE $n; clear hE))
local macro_rules | `(tactic| k_places) => `(tactic| first
  | assumption
  | exact lst_of (by assumption)
  | exact tup_of (by assumption)
  | (refine getS (by assumption) ?_; k_places)
  | (refine Same.seq (by assumption) ?_; k_places)
  | (refine tupS (by assumption) ?_; k_places)
  | (refine lst_of ?_; k_places)
  | (refine tup_of ?_; k_places))
local macro_rules | `(tactic| k_subL) => `(tactic| first
  | k_places
  | solve_by_elim (maxDepth := 10) [getS, lst_of, tup_of, Same.seq, tupS])
local macro_rules | `(tactic| k_offL) => `(tactic| first
  | (show (0 : Int) < _; first | omega | decide)
  | (refine ⟨?_, ?_⟩ <;> first | omega | decide)
  | exact .inr ⟨by decide, by decide⟩
  | exact .inl ⟨by decide, by decide⟩
  | exact .inl ⟨by omega, by omega⟩
  | omega)
local macro_rules | `(tactic| k_clsL) => `(tactic| exact Nat.le_of_ble_eq_true rfl)
local macro_rules | `(tactic| k_upd) => `(tactic| simp only [L2.start, List.map_cons, List.map_nil, List.length_cons, List.length_nil, List.replicate_succ, List.replicate_zero, List.cons_append, List.nil_append, List.set_cons_zero, List.set_cons_succ])
section
variable {P : Program} {w : World} {K : PySem.W.Frag} {mg : Str → Option Value} {base : Heap}
theorem upd4 {H : Hp} {S : SA} {ls cs bs us : List V} {C CB : Addr} {sq : List Pr} {es : Nat} (h : StoreIs C CB H S sq es) {H3 : Hp} (e : H3 = upd (upd (upd (upd H S.la (.lst ls)) S.ca (.lst cs)) S.ba (.lst bs)) S.pa (.lst us)) :
    (∀ a, a ∉ S.M → H3 a = H a) ∧ H3 S.la = some (.lst ls) ∧ H3 S.ca = some (.lst cs) ∧ H3 S.ba = some (.lst bs) ∧ H3 S.pa = some (.lst us) ∧ H3 S.sm = H S.sm ∧ H3 S.em = H S.em ∧ S.sm ∈ S.M ∧ S.em ≠ S.sm ∧ S.la ≠ S.sm ∧ S.ca ≠ S.sm ∧ S.ba ≠ S.sm ∧ S.pa ≠ S.sm := by
  have nd := h.nd
  have ne : ∀ {x y : Addr}, x ≠ y → y ≠ x := fun h => h.symm
  simp only [SA.M, List.nodup_cons, List.mem_cons, List.not_mem_nil, or_false, not_or] at nd
  obtain ⟨⟨n1, n2, n3, n4, n5, n6⟩, ⟨m1, m2, m3, m4, m5⟩, ⟨o1, o2, o3, o4⟩, ⟨p1, p2, p3⟩, ⟨q1, q2⟩, r1, _⟩ := nd
  subst e
  refine ⟨fun a c => ?_, ?_, ?_, ?_, ?_, ?_, ?_, ?_, ne r1, m4, o3, p2, q1⟩
  · simp only [SA.M, List.mem_cons, List.not_mem_nil, or_false, not_or] at c
    obtain ⟨c1, c2, c3, c4, _, _⟩ := c
    rw [upd_ne c4, upd_ne c3, upd_ne c2, upd_ne c1]
  · rw [upd_ne m3, upd_ne m2, upd_ne m1, upd_same]
  · rw [upd_ne o2, upd_ne o1, upd_same]
  · rw [upd_ne p1, upd_same]
  · rw [upd_same]
  · rw [upd_ne (ne q1), upd_ne (ne p2), upd_ne (ne o3), upd_ne (ne m4)]
  · rw [upd_ne (ne q2), upd_ne (ne p3), upd_ne (ne o4), upd_ne (ne m5)]
  · simp only [SA.M, List.mem_cons, true_or, or_true]
def sp_small (C CB : Addr) : Sp := fun vs H Q _ => ∃ (A : SA) (sq : List Pr) (es l b : Nat), vs = [.ref A.st, .int (l : Int), .int (b : Int)] ∧ StoreIs C CB H A sq es ∧ l < 6 ∧ Fit l b ∧ sq.length < 5000000 ∧
  ∀ (H' : Hp) (sq' : List Pr) (n : Nat), Gr C CB A 1 H sq es H' sq' es → sq'[n]? = some ((l : Int), (b : Int)) → Q (.int (n : Int)) H'
theorem ok_Store_small (T : Txt K mg) : FnOk P w K mg base CX0 2 T.f_Store_small T.d_Store_small ["self", "level", "block"] (sp_small T.C_Store T.C_Blocks) := by
  refine T.F_Store_small.ok sc_Store_small (fun vs H Q E h => ?_) (fun cdv A outer s H vs Q E hr h => ?_)
  · obtain ⟨_, _, _, _, _, rfl, _⟩ := h
    rfl
  · obtain ⟨S, sq, es, l, b, rfl, hS, hl, hf, few, q⟩ := h
    have hu : (A.deeper (envOfC (Str.ofString "Store.small") (defScope s_Store_small) s.heap.objs.size T.f_Store_small cdv)).units + 1 < cLine := by
      have := hr.units
      omega
    refine ⟨_, (pss_cons (ps_set (i := 3) sc_Store_small.nd rfl (.inl rfl) (pe_tup (pa_cons (pv 1) (pa_cons (pv 2) pa_nil))))
      (pss_cons (ps_if (pt_cmp (pc_dnotin hu (pv 3) (pe_fld (pv 0) rfl)))
      (pss_one (ps_dput hu (pe_fld (pv 0) rfl) (pv 3) (pe_meth (pv 0) T.cl_Store T.m_Store_new_square (ok_Store_new_square T) (hr.mono (by decide)) T.b_Store_new_square .nil pass0 (pa_cons (pv 1) (pa_cons (pe_call (ok_block_count T) (hr.mono (by decide)) (by rfl) T.g_block_count T.F_block_count.kp T.b_block_count .nil pass0 (pa_cons (pv 2) pa_nil)) (pa_cons (pv 2) (pa_cons (pe_tup pa_nil) pa_nil))))) rfl))
      pss_nil)
      (pss_one (ps_ret (pe_dget hu (pe_fld (pv 0) rfl) (pv 3) (fun _ _ => rfl)))))), ?_⟩
    k_upd
    refine ⟨_, rfl, _, rfl, by k_clsL, fun kp nk => ?_⟩
    k_invariant "new" (nk, H1, e1, g1)
    k_upd
    have hS1 := hS.up e1
    obtain ⟨dx, ru, lg, fu, ho⟩ := hS1.obj
    by_cases m : ((l : Int), (b : Int)) ∈ sq
    · have dg := hS1.dc.dget (x := ((l : Int), (b : Int))) g1
      rw [if_pos m] at dg
      refine ⟨_, rfl, _, rfl, S.st, _, _, _, _, rfl, ho, T.cl_Store, T.na_Store__small, rfl, ?_⟩
      refine ⟨_, _, rfl, dg, false, rfl, iteF ?_⟩
      k_upd
      refine ⟨_, rfl, S.st, _, _, _, _, rfl, ho, T.cl_Store, T.na_Store__small, rfl, _, rfl, S.sm, _, rfl, dg, ?_⟩
      exact q H1 sq _ ((Gr.refl 1 hS).same e1) (idx_mem m)
    · have dg := hS1.dc.dget (x := ((l : Int), (b : Int))) g1
      rw [if_neg m] at dg
      refine ⟨_, rfl, _, rfl, S.st, _, _, _, _, rfl, ho, T.cl_Store, T.na_Store__small, rfl, ?_⟩
      refine ⟨_, _, rfl, dg, true, rfl, iteT ?_⟩
      k_upd
      obtain ⟨us, gp, lus⟩ := hS1.pt
      refine ⟨_, rfl, S.st, _, _, rfl, ho, rfl, _, rfl, _, rfl, b, fit_lt hl hf, rfl, _, rfl, by k_clsL, fun ep nep => ?_⟩
      k_invariant "new" (nep, H2, e2, g2)
      have hS2 := hS1.up e2
      obtain ⟨dx, ru, lg, fu, ho2⟩ := hS2.obj
      refine ⟨S, lvL sq, ctL sq, btL sq, us, l, (popN b : Nat), b, .ref ep, rfl, ⟨dx, ru, lg, fu, ho2⟩, hS2.lv, hS2.ct, hS2.bt, e2 _ _ gp, hS2.nd, ?_, ?_, ?_, by omega, ?_⟩
      · unfold lvL
        rw [List.length_map]
        omega
      · unfold ctL
        rw [List.length_map]
        omega
      · unfold btL
        rw [List.length_map]
        omega
      obtain ⟨H3, e3⟩ : ∃ H3, H3 = upd (upd (upd (upd H2 S.la (.lst (lvL sq ++ [.int (l : Int)]))) S.ca (.lst (ctL sq ++ [.int (popN b : Nat)]))) S.ba (.lst (btL sq ++ [.int (b : Int)]))) S.pa (.lst (us ++ [.ref ep])) := ⟨_, rfl⟩
      rw [← e3]
      obtain ⟨same, i1, i2, i3, i4, i5, i6, inM, z1, z2, z3, z4, z5⟩ := upd4 hS2 e3
      have kM : kp ∉ S.M := hS.off nk
      have g3 : H3 kp = some (.tup [.int (l : Int), .int (b : Int)]) := by rw [same _ kM]; exact e2 _ _ g1
      have stM : S.st ∉ S.M := (List.nodup_cons.mp hS.nd).1
      have ho3 : H3 S.st = some (.ins T.C_Store dx (sf ru S.bo S.la S.ca S.ba S.pa S.sm lg S.em fu)) := by rw [same _ stM]; exact ho2
      have dc3 : Dct H3 S.sm sq (ixG sq) := by
        obtain ⟨kvs, a1, a2⟩ := hS2.dc
        exact ⟨kvs, by rw [i5]; exact a1, a2⟩
      obtain ⟨H4, dp, pa⟩ := dc3.dput (x := ((l : Int), (b : Int))) (by rw [sizeLine_eq]; omega) g3 (.int (sq.length : Nat))
      have ks : kp ≠ S.sm := fun e => kM (by rw [e]; exact inM)
      have ss : S.st ≠ S.sm := fun e => stM (by rw [e]; exact inM)
      have st4 : StoreIs T.C_Store T.C_Blocks H4 S (sq ++ [((l : Int), (b : Int))]) es := hS2.grow (us := us) (v := .ref ep) (kvs := []) m hl hf
        (fun a c => (pa.2 a fun e => c (by rw [e]; exact inM)).trans (same a c)) (by rw [pa.2 _ z2]; exact i1) (by rw [pa.2 _ z3]; exact i2) (by rw [pa.2 _ z4]; exact i3) (by rw [pa.2 _ z5]; exact i4) lus pa.1 (by rw [pa.2 _ z1]; exact i6)
      have ll : (lvL sq).length = sq.length := List.length_map ..
      rw [ll]
      refine ⟨_, rfl, S.st, _, _, _, _, rfl, ho3, T.cl_Store, T.na_Store__small, rfl, _, rfl, S.sm, H4, rfl, dp, ?_⟩
      have g4 : H4 kp = some (.tup [.int (l : Int), .int (b : Int)]) := by rw [pa.2 _ ks]; exact g3
      have dg4 := pa.1.dget (x := ((l : Int), (b : Int))) g4
      rw [if_pos (mem_addK.mpr (.inr rfl))] at dg4
      obtain ⟨dx4, ru4, lg4, fu4, ho4⟩ := st4.obj
      refine ⟨_, rfl, S.st, _, _, _, _, rfl, ho4, T.cl_Store, T.na_Store__small, rfl, _, rfl, S.sm, _, rfl, dg4, ?_⟩
      have sv : setG (ixG sq) ((l : Int), (b : Int)) (.int (sq.length : Nat)) ((l : Int), (b : Int)) = .int (sq.length : Nat) := if_pos rfl
      rw [sv]
      refine q H4 (sq ++ [((l : Int), (b : Int))]) sq.length ⟨?_, st4, ⟨_, rfl⟩, by rw [List.length_append]; exact Nat.le_refl _, Nat.le_refl _⟩ ?_
      · refine (hide_up (e1.trans e2)).trans fun a o h => ?_
        by_cases c : a ∈ S.M
        · rw [hide_in c] at h
          cases h
        · rw [hide_out c] at h ⊢
          rw [pa.2 a fun e => c (by rw [e]; exact inM), same a c]
          exact h
      · rw [List.getElem?_append_right (Nat.le_refl _), Nat.sub_self]
        rfl
theorem lv_at {sq : List Pr} {n : Nat} {l b : Int} (h : sq[n]? = some (l, b)) : atI (lvL sq) (n : Int) = some (.int l) := atI_nat (by unfold lvL; rw [List.getElem?_map, h]; rfl)
theorem ct_at {sq : List Pr} {n : Nat} {l b : Int} (h : sq[n]? = some (l, b)) : atI (ctL sq) (n : Int) = some (.int (popN b.toNat : Nat)) := atI_nat (by unfold ctL; rw [List.getElem?_map, h]; rfl)
theorem bt_at {sq : List Pr} {n : Nat} {l b : Int} (h : sq[n]? = some (l, b)) : atI (btL sq) (n : Int) = some (.int b) := atI_nat (by unfold btL; rw [List.getElem?_map, h]; rfl)
def sp_block (C CB : Addr) : Sp := fun vs H Q _ => ∃ (A : SA) (sq : List Pr) (es n : Nat) (l b : Int), vs = [.ref A.st, .int (n : Int)] ∧ StoreIs C CB H A sq es ∧ sq[n]? = some (l, b) ∧ Q (.int b) H
theorem ok_Store_block (T : Txt K mg) : FnOk P w K mg base CX0 1 T.f_Store_block T.d_Store_block ["self", "square"] (sp_block T.C_Store T.C_Blocks) := by
  refine T.F_Store_block.ok sc_Store_block (fun vs H Q E h => ?_) (fun cdv A outer s H vs Q E hr h => ?_)
  · obtain ⟨_, _, _, _, _, _, rfl, _⟩ := h
    rfl
  · obtain ⟨S, sq, es, n, l, b, rfl, hS, hn, q⟩ := h
    obtain ⟨dx, ru, lg, fu, ho⟩ := hS.obj
    refine ⟨_, (pss_one (ps_ret (pe_ix ix_list (pe_fld (pv 0) rfl) (pv 1) (fun _ _ => rfl)))), ?_⟩
    k_upd
    exact ⟨_, rfl, S.st, _, _, _, _, rfl, ho, T.cl_Store, T.na_Store__bits, rfl, _, rfl, _, _, _, _, rfl, rfl, lst_of hS.bt, bt_at hn, q⟩
theorem put_fit {l a b c d : Nat} (hl : l < 5) (ha : Fit l a) (hb : Fit l b) (hc : Fit l c) (hd : Fit l d) : Fit (l + 1) (putN (2 ^ l) a b c d) := fun i h => by
  rw [put_bit] at h
  have p2 : 2 ^ (l + 1) = 2 * 2 ^ l := by rw [Nat.pow_succ, Nat.mul_comm]
  have h16 := pow_le16 hl
  rw [p2]
  simp only [Bool.or_eq_true, Bool.and_eq_true, decide_eq_true_eq] at h
  rcases h with ((h | ⟨z, h⟩) | ⟨z, h⟩) | ⟨z, h⟩
  · have := ha _ h
    generalize 2 ^ l = p at *
    omega
  · have := hb _ h
    generalize 2 ^ l = p at *
    omega
  · have := hc _ h
    generalize 2 ^ l = p at *
    omega
  · have := hd _ h
    generalize 2 ^ l = p at *
    omega
theorem StoreIs.fitN {C CB : Addr} {H : Hp} {A : SA} {sq : List Pr} {es n l b : Nat} (h : StoreIs C CB H A sq es) (e : sq[n]? = some ((l : Int), (b : Int))) : l < 6 ∧ Fit l b := by
  obtain ⟨l', b', ex, h1, h2⟩ := h.fit _ (List.mem_of_getElem? e)
  injection ex with e1 e2
  have e1 := Int.ofNat.inj e1
  have e2 := Int.ofNat.inj e2
  subst e1 e2
  exact ⟨h1, h2⟩
def sp_joined (C CB : Addr) : Sp := fun vs H Q _ => ∃ (A : SA) (sq : List Pr) (es n0 n1 n2 n3 l b0 b1 b2 b3 : Nat), vs = [.ref A.st, .int (n0 : Int), .int (n1 : Int), .int (n2 : Int), .int (n3 : Int)] ∧ StoreIs C CB H A sq es ∧ l < 5 ∧ sq.length < 5000000 ∧
  sq[n0]? = some ((l : Int), (b0 : Int)) ∧ sq[n1]? = some ((l : Int), (b1 : Int)) ∧ sq[n2]? = some ((l : Int), (b2 : Int)) ∧ sq[n3]? = some ((l : Int), (b3 : Int)) ∧
  ∀ (H' : Hp) (sq' : List Pr) (n : Nat), Gr C CB A 1 H sq es H' sq' es → sq'[n]? = some (((l + 1 : Nat) : Int), ((putN (2 ^ l) b0 b1 b2 b3 : Nat) : Int)) → Q (.int (n : Int)) H'
theorem ok_Store_joined (T : Txt K mg) : FnOk P w K mg base CX0 3 T.f_Store_joined T.d_Store_joined ["self", "a", "b", "c", "d"] (sp_joined T.C_Store T.C_Blocks) := by
  refine T.F_Store_joined.ok sc_Store_joined (fun vs H Q E h => ?_) (fun cdv A outer s H vs Q E hr h => ?_)
  · obtain ⟨_, _, _, _, _, _, _, _, _, _, _, _, rfl, _⟩ := h
    rfl
  · obtain ⟨S, sq, es, n0, n1, n2, n3, l, b0, b1, b2, b3, rfl, hS, hl, few, h0, h1, h2, h3, q⟩ := h
    have hu : (A.deeper (envOfC (Str.ofString "Store.joined") (defScope s_Store_joined) s.heap.objs.size T.f_Store_joined cdv)).units + 1 < cLine := by
      have := hr.units
      omega
    obtain ⟨dx, ru, lg, fu, ho⟩ := hS.obj
    have f0 := (hS.fitN h0).2
    have f1 := (hS.fitN h1).2
    have f2 := (hS.fitN h2).2
    have f3 := (hS.fitN h3).2
    have l6 : l < 6 := by omega
    refine ⟨_, (pss_cons (ps_set (i := 5) sc_Store_joined.nd rfl (.inl rfl) (pe_op op_add (pe_ix ix_list (pe_fld (pv 0) rfl) (pv 1) (fun _ _ => rfl)) pe_int))
      (pss_cons (ps_if (pt_cmpR op_le (pv 5) (pe_gcx (by rfl) T.c_TOP) (nomark _))
      (pss_cons (ps_set (i := 6) sc_Store_joined.nd rfl (.inl rfl) (pe_fld (pv 0) rfl))
      (pss_one (ps_ret (pe_meth (pv 0) T.cl_Store T.m_Store_small (ok_Store_small T) (hr.mono (by decide)) T.b_Store_small .nil pass0 (pa_cons (pv 5) (pa_cons (pe_meth (pe_fld (pv 0) rfl) T.cl_Blocks T.m_Blocks_put_together (ok_Blocks_put_together T) (hr.mono (by decide)) T.b_Blocks_put_together .nil pass0 (pa_cons (pv 5) (pa_cons (pe_ix ix_list (pv 6) (pv 1) (fun _ _ => rfl)) (pa_cons (pe_ix ix_list (pv 6) (pv 2) (fun _ _ => rfl)) (pa_cons (pe_ix ix_list (pv 6) (pv 3) (fun _ _ => rfl)) (pa_cons (pe_ix ix_list (pv 6) (pv 4) (fun _ _ => rfl)) pa_nil)))))) pa_nil))))))
      pss_nil)
      (pss_cons (ps_set (i := 7) sc_Store_joined.nd rfl (.inl rfl) (pe_tup (pa_cons (pv 1) (pa_cons (pv 2) (pa_cons (pv 3) (pa_cons (pv 4) pa_nil))))))
      (pss_cons (ps_if (pt_cmp (pc_dnotin hu (pv 7) (pe_fld (pv 0) rfl)))
      (pss_cons (ps_set (i := 8) sc_Store_joined.nd rfl (.inl rfl) (pe_fld (pv 0) rfl))
      (pss_cons (ps_set (i := 9) sc_Store_joined.nd rfl (.inl rfl) (pe_op op_add (pe_op op_add (pe_op op_add (pe_ix ix_list (pv 8) (pv 1) (fun _ _ => rfl)) (pe_ix ix_list (pv 8) (pv 2) (fun _ _ => rfl))) (pe_ix ix_list (pv 8) (pv 3) (fun _ _ => rfl))) (pe_ix ix_list (pv 8) (pv 4) (fun _ _ => rfl))))
      (pss_one (ps_dput hu (pe_fld (pv 0) rfl) (pv 7) (pe_meth (pv 0) T.cl_Store T.m_Store_new_square (ok_Store_new_square T) (hr.mono (by decide)) T.b_Store_new_square .nil pass0 (pa_cons (pv 5) (pa_cons (pv 9) (pa_cons pe_int (pa_cons (pv 7) pa_nil))))) rfl))))
      pss_nil)
      (pss_one (ps_ret (pe_dget hu (pe_fld (pv 0) rfl) (pv 7) (fun _ _ => rfl)))))))), ?_⟩
    k_upd
    refine ⟨_, rfl, S.st, _, _, _, _, rfl, ho, T.cl_Store, T.na_Store__levels, rfl, _, rfl, _, _, _, _, rfl, rfl, lst_of hS.lv, lv_at h0, _, _, rfl, rfl, ?_⟩
    dsimp only
    rw [show ((l : Nat) : Int) + 1 = ((l + 1 : Nat) : Int) by omega]
    unfold gName
    k_upd
    refine ⟨_, rfl, _, _, rfl, rfl, _, rfl, ite2 (fun c => ?_) (fun c => ?_)⟩
    · refine ⟨_, rfl, S.st, _, _, _, _, rfl, ho, T.cl_Store, T.na_Store__bits, rfl, ?_⟩
      k_upd
      obtain ⟨dxb, rub, flb, hb1, hb2⟩ := hS.blk
      refine ⟨_, rfl, S.st, _, _, rfl, ho, rfl, _, rfl, _, rfl, S.st, _, _, _, _, rfl, ho, T.cl_Store, T.na_Store__blocks, rfl, S.bo, _, _, rfl, hide_le _ _ hb1, rfl, ?_⟩
      refine ⟨_, rfl, _, rfl, _, rfl, _, _, _, _, rfl, rfl, lst_of hS.bt, bt_at h0, _, rfl, _, rfl, _, _, _, _, rfl, rfl, lst_of hS.bt, bt_at h1, _, rfl, _, rfl, _, _, _, _, rfl, rfl, lst_of hS.bt, bt_at h2, _, rfl, _, rfl, _, _, _, _, rfl, rfl, lst_of hS.bt, bt_at h3, ?_⟩
      refine ⟨S.bo, l, b0, b1, b2, b3, hl, fit_lt l6 f0, fit_lt l6 f1, fit_lt l6 f2, fit_lt l6 f3, rfl, ?_⟩
      exact ⟨S, sq, es, l + 1, _, rfl, hS, by omega, put_fit hl f0 f1 f2 f3, few, fun H' sq' n g e => q H' sq' n g e⟩
    · exfalso
      refine c (decide_eq_true ?_)
      omega
end
end My
namespace My
open PySem PySem.Spec PyProof.Rows L2 Vx
open TL
local macro_rules | `(tactic| k_invariant "new" ($n, $H:ident, $e:ident, $h:ident)) => `(tactic| (generalize hE : upd _ _ _ = $H; obtain ⟨$e:ident, $h:ident⟩ := gen_e hE $n; clear hE))
local macro_rules | `(tactic| k_places) => `(tactic| first
  | assumption
  | exact lst_of (by assumption)
  | exact tup_of (by assumption)
  | (refine getS (by assumption) ?_; k_places)
  | (refine Same.seq (by assumption) ?_; k_places)
  | (refine tupS (by assumption) ?_; k_places)
  | (refine lst_of ?_; k_places)
  | (refine tup_of ?_; k_places))
local macro_rules | `(tactic| k_subL) => `(tactic| first
  | k_places
  | solve_by_elim (maxDepth := 10) [getS, lst_of, tup_of, Same.seq, tupS])
local macro_rules | `(tactic| k_offL) => `(tactic| first
  | (show (0 : Int) < _; first | omega | decide)
  | (refine ⟨?_, ?_⟩ <;> first | omega | decide)
  | exact .inr ⟨by decide, by decide⟩
  | exact .inl ⟨by decide, by decide⟩
  | exact .inl ⟨by omega, by omega⟩
  | omega)
local macro_rules | `(tactic| k_clsL) => `(tactic| exact Nat.le_of_ble_eq_true rfl)
local macro_rules | `(tactic| k_upd) => `(tactic| simp only [L2.start, List.map_cons, List.map_nil, List.length_cons, List.length_nil, List.replicate_succ, List.replicate_zero, List.cons_append, List.nil_append, List.set_cons_zero, List.set_cons_succ])
section
variable {P : Program} {w : World} {K : PySem.W.Frag} {mg : Str → Option Value} {base : Heap}
theorem gr_fresh {C CB : Addr} {A : SA} {k : Nat} {H H' : Hp} {sq sq' : List Pr} {es es' : Nat} (h : Gr C CB A k H sq es H' sq' es') {b : Addr} {o : HO} (e : H b = some o) (n : b ∉ A.M) : H' b = some o := by
  have := h.fr b o (by rw [hide_out n]; exact e)
  rwa [hide_out n] at this
theorem Gr.loc {C CB : Addr} {A : SA} {k : Nat} {H H2 : Hp} {sq sq2 : List Pr} {es es2 : Nat} {D : Addr} {o : HO} (h : Gr C CB A k H sq es H2 sq2 es2) (hS : StoreIs C CB H A sq es) (n : H D = none) : Gr C CB A k H sq es (upd H2 D o) sq2 es2 := by
  have dM := hS.off n
  have fr : Same (hide A.M H) (hide A.M (upd H2 D o)) := fun b u e => by
    by_cases c : b ∈ A.M
    · rw [hide_in c] at e
      cases e
    · have e2 := h.fr b u e
      rw [hide_out c] at e e2 ⊢
      rw [upd_ne fun z => by rw [z, n] at e; cases e]
      exact e2
  have off : ∀ {b : Addr}, b ∈ A.M → b ≠ D := fun m z => dM (z ▸ m)
  obtain ⟨dx0, ru0, lg0, fu0, ho0⟩ := hS.obj
  obtain ⟨⟨dx, ru, lg, fu, h1⟩, h2, h3, h4, h5, ⟨us, h6, h7⟩, ⟨kvs, h8, h8'⟩, h9, h10, h11, h12⟩ := h.st
  have m : A.la ∈ A.M ∧ A.ca ∈ A.M ∧ A.ba ∈ A.M ∧ A.pa ∈ A.M ∧ A.sm ∈ A.M ∧ A.em ∈ A.M := by simp only [SA.M, List.mem_cons, true_or, or_true, and_self]
  refine ⟨fr, ⟨⟨dx, ru, lg, fu, ?_⟩, hS.blk.up fr, ?_, ?_, ?_, ⟨us, ?_, h7⟩, ⟨kvs, ?_, h8'⟩, ?_, h10, h11, h12⟩, h.pre, h.len, h.ge⟩
  · rw [upd_ne fun z => by rw [z, n] at ho0; cases ho0]
    exact h1
  · rw [upd_ne (off m.1)]
    exact h3
  · rw [upd_ne (off m.2.1)]
    exact h4
  · rw [upd_ne (off m.2.2.1)]
    exact h5
  · rw [upd_ne (off m.2.2.2.1)]
    exact h6
  · rw [upd_ne (off m.2.2.2.2.1)]
    exact h8
  · rw [upd_ne (off m.2.2.2.2.2)]
    exact h9
theorem pre_map {sq sq2 : List Pr} {m : List Nat} {cs : List Pr} (h : sq <+: sq2) (e : m.map (fun n => sq[n]?) = cs.map some) : m.map (fun n => sq2[n]?) = cs.map some := by
  rw [← e]
  refine List.map_congr_left fun n mn => ?_
  have : sq[n]? ∈ cs.map some := by
    rw [← e]
    exact List.mem_map.mpr ⟨n, mn, rfl⟩
  obtain ⟨x, _, ex⟩ := List.mem_map.mp this
  rw [← ex]
  exact pre_get h ex.symm
def sp_parts (C CB : Addr) : Sp := fun vs H Q _ => ∃ (A : SA) (sq : List Pr) (es n l b : Nat), vs = [.ref A.st, .int (n : Int)] ∧ StoreIs C CB H A sq es ∧ l < 5 ∧ sq.length < 4000000 ∧ sq[n]? = some (((l + 1 : Nat) : Int), (b : Int)) ∧
  ∀ (H' : Hp) (sq' : List Pr) (p : Addr) (m : List Nat), Gr C CB A 4 H sq es H' sq' es → H p = none → H' p = some (.tup (m.map fun (n : Nat) => V.int (n : Int))) → m.map (fun n => sq'[n]?) = ([cutN l b 0 0, cutN l b 0 (2 ^ l), cutN l b (2 ^ l) 0, cutN l b (2 ^ l) (2 ^ l)].map (fun (c : Nat) => (((l : Int), (c : Int)) : Pr))).map some → Q (.ref p) H'
theorem ok_Store_parts (T : Txt K mg) : FnOk P w K mg base CX0 3 T.f_Store_parts T.d_Store_parts ["self", "square"] (sp_parts T.C_Store T.C_Blocks) := by
  refine T.F_Store_parts.ok sc_Store_parts (fun vs H Q E h => ?_) (fun cdv A outer s H vs Q E hr h => ?_)
  · obtain ⟨_, _, _, _, _, _, rfl, _⟩ := h
    rfl
  · obtain ⟨S, sq, es, n, l, b, rfl, hS, hl, few, hn, q⟩ := h
    obtain ⟨dx, ru, lg, fu, ho⟩ := hS.obj
    refine ⟨_, (pss_cons (ps_set (i := 2) sc_Store_parts.nd rfl (.inr rfl) (pe_ix ix_list (pe_fld (pv 0) rfl) (pv 1) (fun _ _ => rfl)))
      (pss_cons (ps_if (pt_cmpR op_gt (pv 2) (pe_gcx (by rfl) T.c_TOP) (nomark _))
      (pss_one (ps_ret (pe_ix ix_list (pe_fld (pv 0) rfl) (pv 1) (fun _ _ => rfl))))
      pss_nil)
      (pss_cons (ps_set (i := 3) sc_Store_parts.nd rfl (.inl rfl) (pe_meth (pe_fld (pv 0) rfl) T.cl_Blocks T.m_Blocks_quarters (ok_Blocks_quarters T) (hr.mono (by decide)) T.b_Blocks_quarters .nil pass0 (pa_cons (pv 2) (pa_cons (pe_ix ix_list (pe_fld (pv 0) rfl) (pv 1) (fun _ _ => rfl)) pa_nil))))
      (pss_one (ps_ret (pe_callTy call_tupL (by rfl) T.z_tuple (by decide +kernel) (pa_cons (pe_lc (own := [("block", 4)]) (g := gName 4) (tt := tYes) rfl sc_Store_parts.nd (pi_list (pv 3)) (blkOk_by (own := [("block", 4)]) (N := N_Store_parts) (sc := defScope s_Store_parts) (by decide +kernel)) (fun _ _ _ _ _ => pg_name (i := 4) sc_Store_parts.nd rfl (Or.inl rfl)) (fun _ _ _ _ _ => pts_nil) (fun _ _ _ _ _ => (pe_meth (pv 0) T.cl_Store T.m_Store_small (ok_Store_small T) (hr.mono (by decide)) T.b_Store_small .nil pass0 (pa_cons (pe_op op_sub (pv 2) pe_int) (pa_cons (pv 4) pa_nil))))) pa_nil))))))), ?_⟩
    k_upd
    refine ⟨_, rfl, S.st, _, _, _, _, rfl, ho, T.cl_Store, T.na_Store__levels, rfl, _, rfl, _, _, _, _, rfl, rfl, lst_of hS.lv, lv_at hn, ?_⟩
    k_upd
    refine ⟨_, rfl, _, _, rfl, rfl, _, rfl, ite2 (fun c => ?_) (fun c => ?_)⟩
    · exfalso
      have c := of_decide_eq_true c
      omega
    · obtain ⟨dxb, rub, flb, hb1, hb2⟩ := hS.blk
      refine ⟨_, rfl, S.st, _, _, _, _, rfl, ho, T.cl_Store, T.na_Store__blocks, rfl, S.bo, _, _, rfl, hide_le _ _ hb1, rfl, _, rfl, _, rfl, S.st, _, _, _, _, rfl, ho, T.cl_Store, T.na_Store__bits, rfl, _, rfl, _, _, _, _, rfl, rfl, lst_of hS.bt, bt_at hn, ?_⟩
      refine ⟨S.bo, l, b, hl, rfl, hS.blk.up hide_le, fun H1 lp n1 e1 g1 => ?_⟩
      k_upd
      have hS1 := hS.up e1
      obtain ⟨cs, ecs⟩ : ∃ cs, cs = [cutN l b 0 0, cutN l b 0 (2 ^ l), cutN l b (2 ^ l) 0, cutN l b (2 ^ l) (2 ^ l)] := ⟨_, rfl⟩
      rw [← ecs] at g1 q
      have lcs : cs.length = 4 := by rw [ecs]; rfl
      have fcs : ∀ c ∈ cs, Fit l c := fun c m => by
        rw [ecs] at m
        simp only [List.mem_cons, List.not_mem_nil, or_false] at m
        rcases m with m | m | m | m <;> rw [m] <;> exact cut_fit hl
      clear ecs
      have lM := hS.off n1
      refine ⟨_, rfl, lp, rfl, ⟨_, lst_of g1⟩, fun D nD => ?_⟩
      have DM := hS1.off nD
      have nDl : lp ≠ D := fun e => by rw [← e, g1] at nD; cases nD
      refine lc_list (K := K) (a := lp) (xs := cs.map fun (n : Nat) => V.int (n : Int)) (fun i H' => i ≤ 4 ∧ ∃ (sq' : List Pr) (m : List Nat), Gr T.C_Store T.C_Blocks S i H sq es H' sq' es ∧ H' D = some (.lst (m.map fun (n : Nat) => V.int (n : Int))) ∧ m.map (fun n => sq'[n]?) = ((cs.take i).map (fun (c : Nat) => (((l : Int), (c : Int)) : Pr))).map some ∧ H' lp = some (.lst (cs.map fun (n : Nat) => V.int (n : Int))))
        ⟨Nat.zero_le _, sq, [], (Gr.refl 0 hS).same (e1.trans (newS nD)), upd_same, rfl, by rw [upd_ne nDl]; exact g1⟩ (fun i H' _ g => lst_of g.2.choose_spec.choose_spec.2.2.2) ?_ ?_
      · rintro i x H' hi ⟨li, sq', m, hg, hD, em, hl'⟩
        rw [List.getElem?_map] at hi
        cases hc : cs[i]? with
        | none => rw [hc] at hi; cases hi
        | some c =>
          rw [hc] at hi
          have ex : x = V.int (c : Int) := (Option.some.inj hi).symm
          subst ex
          have lc : i < 4 := by have := (List.getElem?_eq_some_iff.mp hc).1; omega
          have mc := List.mem_of_getElem? hc
          obtain ⟨dx, ru, lg, fu, ho⟩ := hg.st.obj
          have lg' := hg.len
          refine ⟨rfl, tyesT ?_⟩
          refine ⟨_, rfl, S.st, _, _, rfl, ho, rfl, _, rfl, _, _, rfl, rfl, _, rfl, S, sq', es, l, c, ?_, hg.st, by omega, fcs c mc, by omega, fun H2 sq2 k g2 ek => ?_⟩
          · dsimp only
            rw [show ((l + 1 : Nat) : Int) - 1 = (l : Int) by omega]
            rfl
          · have hD2 := gr_fresh g2 hD DM
            have hl2 := gr_fresh g2 hl' lM
            refine ⟨_, hD2, ?_, by omega, sq2, m ++ [k], ?_, ?_, ?_, ?_⟩
            · have := congrArg List.length em
              rw [List.length_map, List.length_map, List.length_map, List.length_take] at this
              rw [List.length_map, sizeLine_eq]
              omega
            · exact (hg.trans g2).loc hS (backS e1 nD)
            · rw [upd_same, List.map_append]
              rfl
            · rw [List.map_append, take_next hc, List.map_append, List.map_append, pre_map g2.pre em]
              congr 1
              show [sq2[k]?] = _
              rw [ek]
              rfl
            · rw [upd_ne nDl]
              exact hl2
      · rintro H' ⟨_, sq', m, hg, hD, em, hl'⟩
        refine ⟨_, _, rfl, lst_of hD, fun p np => ?_⟩
        rw [List.length_map, lcs] at hg em
        rw [List.take_of_length_le (Nat.le_of_eq lcs)] at em
        have nD0 := backS e1 nD
        have np0 : H p = none := by
          by_cases e : p = D
          · rw [e]; exact nD0
          · cases hp : H p with
            | none => rfl
            | some o =>
              have pM : p ∉ S.M := fun mm => by
                have := hg.st.off np
                exact this mm
              rw [gr_fresh hg hp pM] at np
              cases np
        exact q (upd H' p (.tup (m.map fun (n : Nat) => V.int (n : Int)))) sq' p m (hg.loc hS np0) np0 upd_same em
theorem StoreIs.emp {C CB : Addr} {H : Hp} {A : SA} {sq : List Pr} {es : Nat} (h : StoreIs C CB H A sq es) (m : ((es : Int), (0 : Int)) ∈ sq) {n : Nat} (en : sq[n]? = some ((es : Int), (0 : Int))) : StoreIs C CB (upd H A.em (.lst (emL sq es ++ [.int (n : Int)]))) A sq (es + 1) ∧ hide A.M (upd H A.em (.lst (emL sq es ++ [.int (n : Int)]))) = hide A.M H := by
  have nd := h.nd
  simp only [SA.M, List.nodup_cons, List.mem_cons, List.not_mem_nil, or_false, not_or] at nd
  obtain ⟨⟨n1, n2, n3, n4, n5, n6⟩, ⟨m1, m2, m3, m4, m5⟩, ⟨o1, o2, o3, o4⟩, ⟨p1, p2, p3⟩, ⟨q1, q2⟩, r1, _⟩ := nd
  have em : A.em ∈ A.M := by simp only [SA.M, List.mem_cons, true_or, or_true]
  have eh : hide A.M (upd H A.em (.lst (emL sq es ++ [.int (n : Int)]))) = hide A.M H := hide_upd em
  refine ⟨?_, eh⟩
  obtain ⟨⟨dx, ru, lg, fu, h1⟩, h2, h3, h4, h5, ⟨us, h6, h7⟩, ⟨kvs, h8, h8'⟩, h9, h10, h11, h12⟩ := h
  refine ⟨⟨dx, ru, lg, fu, by rw [upd_ne n6]; exact h1⟩, by rw [eh]; exact h2, by rw [upd_ne m5]; exact h3, by rw [upd_ne o4]; exact h4, by rw [upd_ne p3]; exact h5, ⟨us, by rw [upd_ne q2]; exact h6, h7⟩, ⟨kvs, by rw [upd_ne r1]; exact h8, h8'⟩, ?_, fun i hi => ?_, h11, h12⟩
  · rw [upd_same]
    unfold emL
    rw [List.range_succ, List.map_append, List.map_singleton, get_idx h8'.2 en]
  · by_cases e : i = es
    · rw [e]; exact m
    · exact h10 i (by omega)
theorem em_at {sq : List Pr} {es i : Nat} (h : i < es) : atI (emL sq es) (i : Int) = some (.int (sq.idxOf ((i : Int), (0 : Int)) : Nat)) := atI_nat (by unfold emL; rw [List.getElem?_map, List.getElem?_range h]; rfl)
theorem em_last {sq : List Pr} {es : Nat} : atI (emL sq (es + 1)) (-1) = some (.int (sq.idxOf ((es : Int), (0 : Int)) : Nat)) := by
  unfold emL
  rw [List.range_succ, List.map_append, List.map_singleton]
  exact atI_last _ _
theorem put_zero (h : Nat) : putN h 0 0 0 0 = 0 := by
  unfold putN
  rw [Nat.zero_shiftLeft, Nat.zero_shiftLeft, Nat.zero_shiftLeft]
  rfl
def sp_empty (C CB : Addr) : Sp := fun vs H Q _ => ∃ (A : SA) (sq : List Pr) (es l : Nat), vs = [.ref A.st, .int (l : Int)] ∧ StoreIs C CB H A sq es ∧ 1 ≤ es ∧ es ≤ 6 ∧ l < 6 ∧ sq.length < 4000000 ∧
  ∀ (H' : Hp) (sq' : List Pr) (es' n : Nat), Gr C CB A 6 H sq es H' sq' es' → es' ≤ 6 → sq'[n]? = some ((l : Int), (0 : Int)) → Q (.int (n : Int)) H'
theorem ok_Store_empty (T : Txt K mg) : FnOk P w K mg base CX0 4 T.f_Store_empty T.d_Store_empty ["self", "level"] (sp_empty T.C_Store T.C_Blocks) := by
  refine T.F_Store_empty.ok sc_Store_empty (fun vs H Q E h => ?_) (fun cdv A outer s H vs Q E hr h => ?_)
  · obtain ⟨_, _, _, _, rfl, _⟩ := h
    rfl
  · obtain ⟨S, sq, es, l, rfl, hS, es1, es6, hl, few, q⟩ := h
    refine ⟨_, (pss_cons (ps_while PassesOwn.never (pt_cmpR op_le (pe_callB call_lenL (by rfl) T.z_len (by decide +kernel) (pa_cons (pe_fld (pv 0) rfl) pa_nil)) (pv 1) (nomark _))
      (pss_cons (ps_set (i := 2) sc_Store_empty.nd rfl (.inl rfl) (pe_ix ix_list (pe_fld (pv 0) rfl) (pe_un un_neg pe_int) (fun _ _ => rfl)))
      (pss_one (ps_expr (pe_bm PySem.F.plainAttrs_list PySem.F.slot_list_append PySem.F.type_list_append mt_append (pe_fld (pv 0) rfl) (pa_cons (pe_meth (pv 0) T.cl_Store T.m_Store_joined (ok_Store_joined T) (hr.mono (by decide)) T.b_Store_joined .nil pass0 (pa_cons (pv 2) (pa_cons (pv 2) (pa_cons (pv 2) (pa_cons (pv 2) pa_nil))))) pa_nil))))))
      (pss_one (ps_ret (pe_ix ix_list (pe_fld (pv 0) rfl) (pv 1) (fun _ _ => rfl))))), ?_⟩
    k_upd
    refine while_by (fun σ H' => ∃ (sq' : List Pr) (es' : Nat) (x2 : Option V), σ = [some (.ref S.st), some (.int (l : Int)), x2] ∧ Gr T.C_Store T.C_Blocks S (es' - es) H sq es H' sq' es' ∧ es' ≤ 6)
        (fun _ H' => match H' S.em with | some (.lst xs) => 6 - xs.length | _ => 0)
        ⟨sq, es, _, rfl, (Gr.refl 0 hS).more (Nat.zero_le _), es6⟩ ?_ ?_
    · rintro σ H1 ⟨sq', es', x2, rfl, hg, e6⟩
      obtain ⟨dx, ru, lg, fu, ho⟩ := hg.st.obj
      have lem : (emL sq' es').length = es' := by unfold emL; rw [List.length_map, List.length_range]
      have ge := hg.ge
      have le := hg.len
      refine ⟨_, rfl, S.st, _, _, _, _, rfl, ho, T.cl_Store, T.na_Store__empty, rfl, _, _, rfl, lst_of hg.st.em, _, rfl, _, _, rfl, rfl, _, rfl, ite2 (fun c => ?_) (fun c => ?_)⟩
      · rw [lem] at c
        have c := of_decide_eq_true c
        have lt : es' ≤ l := by omega
        obtain ⟨e, ee⟩ : ∃ e, es' = e + 1 := ⟨es' - 1, by omega⟩
        subst ee
        have m := hg.st.ems e (Nat.lt_succ_self e)
        have hm := idx_mem m
        refine ⟨_, rfl, S.st, _, _, _, _, rfl, ho, T.cl_Store, T.na_Store__empty, rfl, _, rfl, _, _, _, _, rfl, rfl, lst_of hg.st.em, em_last, ?_⟩
        k_upd
        refine ⟨_, rfl, S.st, _, _, _, _, rfl, ho, T.cl_Store, T.na_Store__empty, rfl, .inl ⟨rfl, _, lst_of hg.st.em⟩, _, rfl, S.st, _, _, rfl, ho, rfl, _, rfl, _, rfl, _, rfl, _, rfl, ?_⟩
        refine ⟨S, sq', e + 1, _, _, _, _, e, 0, 0, 0, 0, rfl, hg.st, by omega, by omega, hm, hm, hm, hm, fun H2 sq2 n g2 en => ?_⟩
        rw [put_zero] at en
        have ms := List.mem_of_getElem? en
        obtain ⟨s3, h3⟩ := g2.st.emp (es := e + 1) ms en
        refine ⟨_, _, _, rfl, rfl, g2.st.em, ?_, ?_⟩
        · unfold emL
          rw [List.length_map, List.length_range, sizeLine_eq]
          omega
        · have g3 := hg.trans g2
          refine ⟨⟨sq2, e + 2, _, rfl, ⟨by rw [h3]; exact g3.fr, s3, g3.pre, by have := g3.len; omega, by omega⟩, by omega⟩, ?_⟩
          have lem2 : (emL sq2 (e + 1)).length = e + 1 := by unfold emL; rw [List.length_map, List.length_range]
          rw [upd_same, hg.st.em]
          dsimp only
          rw [List.length_append, lem, lem2, List.length_singleton]
          omega
      · rw [lem] at c
        have lt : l < es' := by
          have c : ¬ (((es' : Nat) : Int) ≤ (l : Int)) := fun z => c (decide_eq_true z)
          omega
        have hm := idx_mem (hg.st.ems l lt)
        refine ⟨_, rfl, S.st, _, _, _, _, rfl, ho, T.cl_Store, T.na_Store__empty, rfl, _, rfl, _, _, _, _, rfl, rfl, lst_of hg.st.em, em_at lt, ?_⟩
        exact q H1 sq' es' _ (hg.more (by omega)) e6 hm
    · rintro σ H1 Q Q' m ⟨v, h1, a, C, dx, fs, w', h2, h3, h4, h5, h6, p, ys, h7, h8, v2, h9, i, j, h10, h11, b, h12, h13⟩
      exact ⟨v, h1, a, C, dx, fs, w', h2, h3, h4, h5, h6, p, ys, h7, h8, v2, h9, i, j, h10, h11, b, h12, m _ _ h13⟩
end
end My
namespace My
open PySem PySem.Spec PyProof.Rows L2 Vx
open TL
local macro_rules | `(tactic| k_invariant "new" ($n, $H:ident, $e:ident, $h:ident)) => `(tactic| (generalize hE : upd _ _ _ = $H; obtain ⟨$e:ident, $h:ident⟩ := gen_e hE $n; clear hE))
local macro_rules | `(tactic| k_places) => `(tactic| first
  | assumption
  | exact lst_of (by assumption)
  | exact tup_of (by assumption)
  | (refine getS (by assumption) ?_; k_places)
  | (refine Same.seq (by assumption) ?_; k_places)
  | (refine tupS (by assumption) ?_; k_places)
  | (refine lst_of ?_; k_places)
  | (refine tup_of ?_; k_places))
local macro_rules | `(tactic| k_subL) => `(tactic| first
  | k_places
  | solve_by_elim (maxDepth := 10) [getS, lst_of, tup_of, Same.seq, tupS])
local macro_rules | `(tactic| k_offL) => `(tactic| first
  | (show (0 : Int) < _; first | omega | decide)
  | (refine ⟨?_, ?_⟩ <;> first | omega | decide)
  | exact .inr ⟨by decide, by decide⟩
  | exact .inl ⟨by decide, by decide⟩
  | exact .inl ⟨by omega, by omega⟩
  | omega)
local macro_rules | `(tactic| k_clsL) => `(tactic| exact Nat.le_of_ble_eq_true rfl)
local macro_rules | `(tactic| k_upd) => `(tactic| simp only [L2.start, List.map_cons, List.map_nil, List.length_cons, List.length_nil, List.replicate_succ, List.replicate_zero, List.cons_append, List.nil_append, List.set_cons_zero, List.set_cons_succ])
section
variable {P : Program} {w : World} {K : PySem.W.Frag} {mg : Str → Option Value} {base : Heap}
/-! ### layouts of squares of 16 rows -/
def in16 (g : Pr → Nat) (r c : Int) : Bool := (g (r / 16, c / 16)).testBit ((r % 16).toNat * 32 + (c % 16).toNat)
def in32 (g : Pr → Nat) (r c : Int) : Bool := inB g (r, c)
def lowG (g : Pr → Nat) (p : Pr) : Nat := cutN 4 (g (p.1 / 2, p.2 / 2)) ((p.1 % 2).toNat * 16) ((p.2 % 2).toNat * 16)
theorem in_low (g : Pr → Nat) (r c : Int) : in16 (lowG g) r c = in32 g r c := by
  unfold in16 lowG in32 inB placeP bitP
  dsimp only
  rw [cut_bit (by decide)]
  have e1 : r / 16 / 2 = r / 32 := by omega
  have e2 : c / 16 / 2 = c / 32 := by omega
  have l1 : ((r % 16).toNat * 32 + (c % 16).toNat) / 32 < 2 ^ 4 := by
    show _ < 16
    omega
  have l2 : ((r % 16).toNat * 32 + (c % 16).toNat) % 32 < 2 ^ 4 := by
    show _ < 16
    omega
  rw [decide_eq_true l1, decide_eq_true l2, Bool.and_true, Bool.and_true, e1, e2]
  congr 1
  omega
/-- where four squares lie in one -/
theorem put_at {h a b c d R C : Nat} (h16 : h ≤ 16) (fa : ∀ i, a.testBit i = true → i / 32 < h ∧ i % 32 < h) (fb : ∀ i, b.testBit i = true → i / 32 < h ∧ i % 32 < h) (fc : ∀ i, c.testBit i = true → i / 32 < h ∧ i % 32 < h) (fd : ∀ i, d.testBit i = true → i / 32 < h ∧ i % 32 < h) (hR : R < 2 * h) (hC : C < 2 * h) :
    (putN h a b c d).testBit (R * 32 + C) = if R < h then (if C < h then a.testBit (R * 32 + C) else b.testBit (R * 32 + (C - h))) else if C < h then c.testBit ((R - h) * 32 + C) else d.testBit ((R - h) * 32 + (C - h)) := by
  have no : ∀ {n i : Nat}, (∀ i, n.testBit i = true → i / 32 < h ∧ i % 32 < h) → ¬ (i / 32 < h ∧ i % 32 < h) → n.testBit i = false := fun {n i} f k => by
    cases e : n.testBit i with
    | false => rfl
    | true => exact absurd (f i e) k
  have no2 : ∀ {n i k : Nat}, (∀ i, n.testBit i = true → i / 32 < h ∧ i % 32 < h) → (k ≤ i → ¬ ((i - k) / 32 < h ∧ (i - k) % 32 < h)) → (decide (k ≤ i) && n.testBit (i - k)) = false := fun {n i k} f z => by
    by_cases c : k ≤ i
    · rw [no f (z c), Bool.and_false]
    · rw [decide_eq_false c, Bool.false_and]
  rw [put_bit]
  by_cases c1 : R < h
  · rw [if_pos c1, no2 fc (by omega), no2 fd (by omega), Bool.or_false, Bool.or_false]
    by_cases c2 : C < h
    · rw [if_pos c2, no2 fb (by omega), Bool.or_false]
    · rw [if_neg c2, no fa (by omega), Bool.false_or, decide_eq_true (by omega), Bool.true_and, show R * 32 + C - h = R * 32 + (C - h) by omega]
  · rw [if_neg c1, no fa (by omega), Bool.false_or, no2 fb (by omega), Bool.false_or]
    by_cases c2 : C < h
    · rw [if_pos c2, no2 fd (by omega), Bool.or_false, decide_eq_true (by omega), Bool.true_and, show R * 32 + C - h * 32 = (R - h) * 32 + C by omega]
    · rw [if_neg c2, no2 fc (by omega), Bool.false_or, decide_eq_true (by omega), Bool.true_and, show R * 32 + C - (h * 32 + h) = (R - h) * 32 + (C - h) by omega]
def upG (g : Pr → Nat) (p : Pr) : Nat := putN (2 ^ 4) (g (p.1 * 2, p.2 * 2)) (g (p.1 * 2, p.2 * 2 + 1)) (g (p.1 * 2 + 1, p.2 * 2)) (g (p.1 * 2 + 1, p.2 * 2 + 1))
theorem in_up {g : Pr → Nat} (hf : ∀ p, Fit 4 (g p)) (r c : Int) : in32 (upG g) r c = in16 g r c := by
  unfold in16 in32 inB placeP bitP upG
  dsimp only
  rw [put_at (h := 2 ^ 4) (by decide) (hf _) (hf _) (hf _) (hf _) (by show _ < 32; omega) (by show _ < 32; omega)]
  show (if (r % 32).toNat < 16 then (if (c % 32).toNat < 16 then _ else _) else if (c % 32).toNat < 16 then _ else _) = _
  by_cases c1 : (r % 32).toNat < 16
  · rw [if_pos c1]
    by_cases c2 : (c % 32).toNat < 16
    · rw [if_pos c2, show r / 32 * 2 = r / 16 by omega, show c / 32 * 2 = c / 16 by omega]
      congr 1
      omega
    · rw [if_neg c2, show r / 32 * 2 = r / 16 by omega, show c / 32 * 2 + 1 = c / 16 by omega]
      congr 1
      show (r % 32).toNat * 32 + ((c % 32).toNat - 16) = _
      omega
  · rw [if_neg c1]
    by_cases c2 : (c % 32).toNat < 16
    · rw [if_pos c2, show r / 32 * 2 + 1 = r / 16 by omega, show c / 32 * 2 = c / 16 by omega]
      congr 1
      show ((r % 32).toNat - 16) * 32 + (c % 32).toNat = _
      omega
    · rw [if_neg c2, show r / 32 * 2 + 1 = r / 16 by omega, show c / 32 * 2 + 1 = c / 16 by omega]
      congr 1
      show ((r % 32).toNat - 16) * 32 + ((c % 32).toNat - 16) = _
      omega
/-- a quarter of the square at a place -/
def qtG (g : Pr → Nat) (p : Pr) (i j : Nat) : Nat := cutN 3 (g p) i j
theorem qt_at {g : Pr → Nat} {p : Pr} {i j R C : Nat} (hi : i ≤ 8) (hj : j ≤ 8) (hR : R < 8) (hC : C < 8) : (qtG g p i j).testBit (R * 32 + C) = in16 g (p.1 * 16 + (i : Int) + (R : Int)) (p.2 * 16 + (j : Int) + (C : Int)) := by
  unfold qtG in16
  rw [cut_bit (by decide), decide_eq_true (show (R * 32 + C) / 32 < 2 ^ 3 by show _ < 8; omega), decide_eq_true (show (R * 32 + C) % 32 < 2 ^ 3 by show _ < 8; omega), Bool.and_true, Bool.and_true]
  rw [show (p.1 * 16 + (i : Int) + (R : Int)) / 16 = p.1 by omega, show (p.2 * 16 + (j : Int) + (C : Int)) / 16 = p.2 by omega]
  congr 1
  omega
theorem qt_fit (g : Pr → Nat) (p : Pr) (i j : Nat) : Fit 3 (qtG g p i j) := cut_fit (by decide)
def suA (g : Pr → Nat) (p : Pr) : Nat := putN (2 ^ 3) (qtG g (p.1 - 1, p.2 - 1) 8 8) (qtG g (p.1 - 1, p.2) 8 0) (qtG g (p.1, p.2 - 1) 0 8) (qtG g p 0 0)
def suB (g : Pr → Nat) (p : Pr) : Nat := putN (2 ^ 3) (qtG g (p.1 - 1, p.2) 8 8) (qtG g (p.1 - 1, p.2 + 1) 8 0) (qtG g p 0 8) (qtG g (p.1, p.2 + 1) 0 0)
def suC (g : Pr → Nat) (p : Pr) : Nat := putN (2 ^ 3) (qtG g (p.1, p.2 - 1) 8 8) (qtG g p 8 0) (qtG g (p.1 + 1, p.2 - 1) 0 8) (qtG g (p.1 + 1, p.2) 0 0)
def suD (g : Pr → Nat) (p : Pr) : Nat := putN (2 ^ 3) (qtG g p 8 8) (qtG g (p.1, p.2 + 1) 8 0) (qtG g (p.1 + 1, p.2) 0 8) (qtG g (p.1 + 1, p.2 + 1) 0 0)
def surG (g : Pr → Nat) (p : Pr) : Nat := putN (2 ^ 4) (suA g p) (suB g p) (suC g p) (suD g p)
theorem put3_fit {a b c d : Nat} (ha : Fit 3 a) (hb : Fit 3 b) (hc : Fit 3 c) (hd : Fit 3 d) : Fit 4 (putN (2 ^ 3) a b c d) := fun i h => by
  rw [put_bit] at h
  show i / 32 < 16 ∧ i % 32 < 16
  simp only [Bool.or_eq_true, Bool.and_eq_true, decide_eq_true_eq] at h
  have e8 : (2 : Nat) ^ 3 = 8 := rfl
  rcases h with ((h | ⟨z, h⟩) | ⟨z, h⟩) | ⟨z, h⟩
  · have := ha _ h
    omega
  · have := hb _ h
    omega
  · have := hc _ h
    omega
  · have := hd _ h
    omega
theorem su_fit (g : Pr → Nat) (p : Pr) : Fit 4 (suA g p) ∧ Fit 4 (suB g p) ∧ Fit 4 (suC g p) ∧ Fit 4 (suD g p) :=
  ⟨put3_fit (qt_fit _ _ _ _) (qt_fit _ _ _ _) (qt_fit _ _ _ _) (qt_fit _ _ _ _), put3_fit (qt_fit _ _ _ _) (qt_fit _ _ _ _) (qt_fit _ _ _ _) (qt_fit _ _ _ _), put3_fit (qt_fit _ _ _ _) (qt_fit _ _ _ _) (qt_fit _ _ _ _) (qt_fit _ _ _ _), put3_fit (qt_fit _ _ _ _) (qt_fit _ _ _ _) (qt_fit _ _ _ _) (qt_fit _ _ _ _)⟩
theorem qd_at {g : Pr → Nat} {p0 p1 p2 p3 : Pr} {i0 j0 i1 j1 i2 j2 i3 j3 R C : Nat} {x y : Int} (h0 : i0 ≤ 8 ∧ j0 ≤ 8) (h1 : i1 ≤ 8 ∧ j1 ≤ 8) (h2 : i2 ≤ 8 ∧ j2 ≤ 8) (h3 : i3 ≤ 8 ∧ j3 ≤ 8) (hR : R < 16) (hC : C < 16)
    (e0 : p0.1 * 16 + (i0 : Int) = x ∧ p0.2 * 16 + (j0 : Int) = y) (e1 : p1.1 * 16 + (i1 : Int) = x ∧ p1.2 * 16 + (j1 : Int) = y + 8) (e2 : p2.1 * 16 + (i2 : Int) = x + 8 ∧ p2.2 * 16 + (j2 : Int) = y) (e3 : p3.1 * 16 + (i3 : Int) = x + 8 ∧ p3.2 * 16 + (j3 : Int) = y + 8) :
    (putN (2 ^ 3) (qtG g p0 i0 j0) (qtG g p1 i1 j1) (qtG g p2 i2 j2) (qtG g p3 i3 j3)).testBit (R * 32 + C) = in16 g (x + R) (y + C) := by
  rw [put_at (h := 2 ^ 3) (by decide) (qt_fit _ _ _ _) (qt_fit _ _ _ _) (qt_fit _ _ _ _) (qt_fit _ _ _ _) (by show _ < 16; omega) (by show _ < 16; omega)]
  show (if R < 8 then (if C < 8 then _ else (qtG g p1 i1 j1).testBit (R * 32 + (C - 8))) else if C < 8 then (qtG g p2 i2 j2).testBit ((R - 8) * 32 + C) else (qtG g p3 i3 j3).testBit ((R - 8) * 32 + (C - 8))) = _
  by_cases c1 : R < 8
  · rw [if_pos c1]
    by_cases c2 : C < 8
    · rw [if_pos c2, qt_at h0.1 h0.2 c1 c2, e0.1, e0.2]
    · rw [if_neg c2, qt_at h1.1 h1.2 c1 (by omega), e1.1, e1.2, show y + 8 + ((C - 8 : Nat) : Int) = y + C by omega]
  · rw [if_neg c1]
    by_cases c2 : C < 8
    · rw [if_pos c2, qt_at h2.1 h2.2 (by omega) c2, e2.1, e2.2, show x + 8 + ((R - 8 : Nat) : Int) = x + R by omega]
    · rw [if_neg c2, qt_at h3.1 h3.2 (by omega) (by omega), e3.1, e3.2, show y + 8 + ((C - 8 : Nat) : Int) = y + C by omega, show x + 8 + ((R - 8 : Nat) : Int) = x + R by omega]
theorem sur_at {g : Pr → Nat} {p : Pr} {R C : Nat} (hR : R < 32) (hC : C < 32) : (surG g p).testBit (R * 32 + C) = in16 g (p.1 * 16 - 8 + R) (p.2 * 16 - 8 + C) := by
  unfold surG
  rw [put_at (h := 2 ^ 4) (by decide) (su_fit g p).1 (su_fit g p).2.1 (su_fit g p).2.2.1 (su_fit g p).2.2.2 hR hC]
  show (if R < 16 then (if C < 16 then _ else (suB g p).testBit (R * 32 + (C - 16))) else if C < 16 then (suC g p).testBit ((R - 16) * 32 + C) else (suD g p).testBit ((R - 16) * 32 + (C - 16))) = _
  by_cases c1 : R < 16
  · rw [if_pos c1]
    by_cases c2 : C < 16
    · rw [if_pos c2]
      exact qd_at (by omega) (by omega) (by omega) (by omega) c1 c2 (by first | omega | (dsimp only; omega)) (by first | omega | (dsimp only; omega)) (by first | omega | (dsimp only; omega)) (by first | omega | (dsimp only; omega))
    · rw [if_neg c2]
      refine (qd_at (x := p.1 * 16 - 8) (y := p.2 * 16 + 8) (by omega) (by omega) (by omega) (by omega) c1 (by omega) (by first | omega | (dsimp only; omega)) (by first | omega | (dsimp only; omega)) (by first | omega | (dsimp only; omega)) (by first | omega | (dsimp only; omega))).trans ?_
      rw [show p.2 * 16 + 8 + ((C - 16 : Nat) : Int) = p.2 * 16 - 8 + C by omega]
  · rw [if_neg c1]
    by_cases c2 : C < 16
    · rw [if_pos c2]
      refine (qd_at (x := p.1 * 16 + 8) (y := p.2 * 16 - 8) (by omega) (by omega) (by omega) (by omega) (by omega) c2 (by first | omega | (dsimp only; omega)) (by first | omega | (dsimp only; omega)) (by first | omega | (dsimp only; omega)) (by first | omega | (dsimp only; omega))).trans ?_
      rw [show p.1 * 16 + 8 + ((R - 16 : Nat) : Int) = p.1 * 16 - 8 + R by omega]
    · rw [if_neg c2]
      refine (qd_at (x := p.1 * 16 + 8) (y := p.2 * 16 + 8) (by omega) (by omega) (by omega) (by omega) (by omega) (by omega) (by first | omega | (dsimp only; omega)) (by first | omega | (dsimp only; omega)) (by first | omega | (dsimp only; omega)) (by first | omega | (dsimp only; omega))).trans ?_
      rw [show p.1 * 16 + 8 + ((R - 16 : Nat) : Int) = p.1 * 16 - 8 + R by omega, show p.2 * 16 + 8 + ((C - 16 : Nat) : Int) = p.2 * 16 - 8 + C by omega]
theorem nb_shift (M : Int → Int → Bool) (a b r c : Int) : nb (fun r c => M (a + r) (b + c)) r c = nb M (a + r) (b + c) := by
  have h1 : a + (r - 1) = a + r - 1 := by omega
  have h2 : a + (r + 1) = a + r + 1 := by omega
  have h3 : b + (c - 1) = b + c - 1 := by omega
  have h4 : b + (c + 1) = b + c + 1 := by omega
  unfold nb
  dsimp only
  rw [h1, h2, h3, h4]
theorem genL_shift (bs ss : List Int) (L : Int → Int → Bool) (a b : Int) : ∀ n r c, genL bs ss (fun r c => L (a + r) (b + c)) n r c = genL bs ss L n (a + r) (b + c)
  | 0, _, _ => rfl
  | n + 1, r, c => by
    have ih := genL_shift bs ss L a b n
    have e : genL bs ss (fun r c => L (a + r) (b + c)) n = fun r c => genL bs ss L n (a + r) (b + c) := funext fun r => funext fun c => ih r c
    show stepL bs ss (genL bs ss (fun r c => L (a + r) (b + c)) n) r c = stepL bs ss (genL bs ss L n) (a + r) (b + c)
    rw [e]
    unfold stepL
    rw [nb_shift]
theorem genL_dead {bs ss : List Int} (hb : ∀ b ∈ bs, 1 ≤ b ∧ b ≤ 8) : ∀ n, genL bs ss (fun _ _ => false) n = fun _ _ => false
  | 0 => rfl
  | n + 1 => by
    show stepL bs ss (genL bs ss (fun _ _ => false) n) = _
    rw [genL_dead hb n]
    refine funext fun r => funext fun c => ?_
    unfold stepL
    rw [if_neg Bool.false_ne_true]
    refine decide_eq_false fun m => ?_
    have := hb _ m
    unfold nb at this
    simp at this
theorem genL_add (bs ss : List Int) (L : Int → Int → Bool) (m : Nat) : ∀ n, genL bs ss L (m + n) = genL bs ss (genL bs ss L m) n
  | 0 => rfl
  | n + 1 => by
    show stepL bs ss (genL bs ss L (m + n)) = stepL bs ss (genL bs ss (genL bs ss L m) n)
    rw [genL_add bs ss L m n]
def futG (bs ss : List Int) (n : Nat) (g : Pr → Nat) (p : Pr) : Nat := cutN 4 (iterBlk bs ss n (surG g p)) (2 ^ 3) (2 ^ 3)
theorem in_fut {bs ss : List Int} (hb : ∀ b ∈ bs, 1 ≤ b ∧ b ≤ 8) (hss : ∀ b ∈ ss, 0 ≤ b ∧ b ≤ 8) {n : Nat} (hn : n ≤ 8) (g : Pr → Nat) (r c : Int) : in16 (futG bs ss n g) r c = genL bs ss (in16 g) n r c := by
  show (futG bs ss n g (r / 16, c / 16)).testBit _ = _
  unfold futG
  have cor : Cor (surG g (r / 16, c / 16)) (fun R C => in16 g (r / 16 * 16 - 8 + R) (c / 16 * 16 - 8 + C)) 0 (2 ^ (3 + 2)) := fun R C _ hR _ hC => sur_at hR hC
  rw [centre_cor hb hss (l := 3) (by decide) hn cor (by show _ < 16; omega) (by show _ < 16; omega), genL_shift]
  have e1 : r / 16 * 16 - 8 + ((2 ^ 3 + (r % 16).toNat : Nat) : Int) = r := by
    show r / 16 * 16 - 8 + ((8 + (r % 16).toNat : Nat) : Int) = r
    omega
  have e2 : c / 16 * 16 - 8 + ((2 ^ 3 + (c % 16).toNat : Nat) : Int) = c := by
    show c / 16 * 16 - 8 + ((8 + (c % 16).toNat : Nat) : Int) = c
    omega
  rw [e1, e2]
theorem fut_zero {bs ss : List Int} (hb : ∀ b ∈ bs, 1 ≤ b ∧ b ≤ 8) (hss : ∀ b ∈ ss, 0 ≤ b ∧ b ≤ 8) {n : Nat} (hn : n ≤ 8) {g : Pr → Nat} {p : Pr} (h : ∀ q : Pr, p.1 - 1 ≤ q.1 → q.1 ≤ p.1 + 1 → p.2 - 1 ≤ q.2 → q.2 ≤ p.2 + 1 → g q = 0) : futG bs ss n g p = 0 := by
  refine Nat.eq_of_testBit_eq fun i => ?_
  rw [Nat.zero_testBit]
  cases e : (futG bs ss n g p).testBit i with
  | false => rfl
  | true =>
    have f : Fit 4 (futG bs ss n g p) := cut_fit (by decide)
    obtain ⟨f1, f2⟩ := f i e
    have cor : Cor (surG g p) (fun _ _ => false) 0 (2 ^ (3 + 2)) := fun R C _ hR _ hC => by
      have hR : R < 32 := hR
      have hC : C < 32 := hC
      rw [sur_at hR hC]
      unfold in16
      rw [h _ (by dsimp only; omega) (by dsimp only; omega) (by dsimp only; omega) (by dsimp only; omega), Nat.zero_testBit]
    have := centre_cor hb hss (l := 3) (by decide) hn cor f1 f2
    unfold futG at e
    rw [show i / 32 * 32 + i % 32 = i by omega, genL_dead hb] at this
    rw [show cutN 4 (iterBlk bs ss n (surG g p)) (2 ^ 3) (2 ^ 3) = cutN (3 + 1) (iterBlk bs ss n (surG g p)) (2 ^ 3) (2 ^ 3) from rfl, this] at e
    cases e
end
end My
namespace My
open PySem PySem.Spec PyProof.Rows L2 Vx
open TL
local macro_rules | `(tactic| k_invariant "new" ($n, $H:ident, $e:ident, $h:ident)) => `(tactic| (generalize hE : upd _ _ _ = $H; obtain ⟨$e:ident, $h:ident⟩ := gen_e hE $n; clear hE))
local macro_rules | `(tactic| k_places) => `(tactic| first
  | assumption
  | exact lst_of (by assumption)
  | exact tup_of (by assumption)
  | (refine getS (by assumption) ?_; k_places)
  | (refine Same.seq (by assumption) ?_; k_places)
  | (refine tupS (by assumption) ?_; k_places)
  | (refine lst_of ?_; k_places)
  | (refine tup_of ?_; k_places))
local macro_rules | `(tactic| k_subL) => `(tactic| first
  | k_places
  | solve_by_elim (maxDepth := 10) [getS, lst_of, tup_of, Same.seq, tupS])
local macro_rules | `(tactic| k_offL) => `(tactic| first
  | (show (0 : Int) < _; first | omega | decide)
  | (refine ⟨?_, ?_⟩ <;> first | omega | decide)
  | exact .inr ⟨by decide, by decide⟩
  | exact .inl ⟨by decide, by decide⟩
  | exact .inl ⟨by omega, by omega⟩
  | omega)
local macro_rules | `(tactic| k_clsL) => `(tactic| exact Nat.le_of_ble_eq_true rfl)
local macro_rules | `(tactic| k_upd) => `(tactic| simp only [L2.start, List.map_cons, List.map_nil, List.length_cons, List.length_nil, List.replicate_succ, List.replicate_zero, List.cons_append, List.nil_append, List.set_cons_zero, List.set_cons_succ])
section
variable {P : Program} {w : World} {K : PySem.W.Frag} {mg : Str → Option Value} {base : Heap}
theorem pg_unlK {X : Cx} {K : PySem.W.Frag} {es : List Expr} {k : Nat} {t : TGs} {n : Nat} {pos : Pos} (hK : X.K = K) (hc : X.calm = true) (h : PGs X es t)
    (hn : (assignEach es X.env).length = n := by rfl) (hst : (assignEach es X.env).findIdx? (·.1) = none := by rfl) : PG X (.Tuple es k pos) (gUnl K n t) := by
  subst hK
  exact pg_unl hc h hn hst
theorem StoreIs.outO {C CB : Addr} {H : Hp} {A : SA} {sq : List Pr} {es : Nat} {p : Addr} {o : HO} (h : StoreIs C CB H A sq es) (e : H p = some o) (n1 : ∀ xs, o ≠ .lst xs) (n2 : ∀ kvs, o ≠ .dT kvs) : p ∉ A.M := fun m => by
  obtain ⟨us, h6, _⟩ := h.pt
  obtain ⟨kvs, h8, _⟩ := h.dc
  have no : ∀ {b : Addr} {u : HO}, H b = some u → p = b → o = u := fun e2 z => by rw [z, e2] at e; exact (Option.some.inj e).symm
  simp only [SA.M, List.mem_cons, List.not_mem_nil, or_false] at m
  rcases m with z | z | z | z | z | z
  · exact n1 _ (no h.lv z)
  · exact n1 _ (no h.ct z)
  · exact n1 _ (no h.bt z)
  · exact n1 _ (no h6 z)
  · exact n2 _ (no h8 z)
  · exact n1 _ (no h.em z)
theorem StoreIs.outT {C CB : Addr} {H : Hp} {A : SA} {sq : List Pr} {es : Nat} {p : Addr} {xs : List V} (h : StoreIs C CB H A sq es) (e : H p = some (.tup xs)) : p ∉ A.M := h.outO e (fun _ z => by cases z) (fun _ z => by cases z)
theorem StoreIs.lock {C CB : Addr} {A : SA} {H : Hp} {sq : List Pr} {es : Nat} {d : Addr} {o u : HO} (hS : StoreIs C CB H A sq es) (hd : H d = some u) (ku : (∀ C dx fs, u ≠ .ins C dx fs) ∧ ∀ xs, u ≠ .lst xs) (dM : d ∉ A.M) : StoreIs C CB (upd H d o) A sq es := by
  have off : ∀ {b : Addr}, b ∈ A.M → b ≠ d := fun m z => dM (z ▸ m)
  obtain ⟨⟨dx, ru, lg, fu, h1⟩, ⟨dxb, rub, flb, hb1, hb2⟩, h3, h4, h5, ⟨us, h6, h7⟩, ⟨kvs, h8, h8'⟩, h9, h10, h11, h12⟩ := hS
  have m : A.la ∈ A.M ∧ A.ca ∈ A.M ∧ A.ba ∈ A.M ∧ A.pa ∈ A.M ∧ A.sm ∈ A.M ∧ A.em ∈ A.M := by simp only [SA.M, List.mem_cons, true_or, or_true, and_self]
  refine ⟨⟨dx, ru, lg, fu, ?_⟩, ⟨dxb, rub, flb, ?_, ?_⟩, ?_, ?_, ?_, ⟨us, ?_, h7⟩, ⟨kvs, ?_, h8'⟩, ?_, h10, h11, h12⟩
  · rw [upd_ne fun z => by rw [z, hd] at h1; exact ku.1 _ _ _ (Option.some.inj h1)]
    exact h1
  · rw [hide_updO dM, upd_ne fun z => by rw [z] at hb1; have := hide_le _ _ hb1; rw [hd] at this; exact ku.1 _ _ _ (Option.some.inj this)]
    exact hb1
  · rw [hide_updO dM, upd_ne fun z => by rw [z] at hb2; have := hide_le _ _ hb2; rw [hd] at this; exact ku.2 _ (Option.some.inj this)]
    exact hb2
  · rw [upd_ne (off m.1)]
    exact h3
  · rw [upd_ne (off m.2.1)]
    exact h4
  · rw [upd_ne (off m.2.2.1)]
    exact h5
  · rw [upd_ne (off m.2.2.2.1)]
    exact h6
  · rw [upd_ne (off m.2.2.2.2.1)]
    exact h8
  · rw [upd_ne (off m.2.2.2.2.2)]
    exact h9
theorem Gr.unlock {C CB : Addr} {A : SA} {k : Nat} {H H2 : Hp} {sq sq2 : List Pr} {es es2 : Nat} {d : Addr} {o u : HO} (hS : StoreIs C CB H A sq es) (hd : H d = some u) (ku : (∀ C dx fs, u ≠ .ins C dx fs) ∧ ∀ xs, u ≠ .lst xs) (dM : d ∉ A.M)
    (h : Gr C CB A k (upd H d o) sq es H2 sq2 es2) : Gr C CB A k H sq es (upd H2 d u) sq2 es2 := by
  have fr : Same (hide A.M H) (hide A.M (upd H2 d u)) := fun b v e => by
    by_cases c : b ∈ A.M
    · rw [hide_in c] at e
      cases e
    · rw [hide_out c] at e ⊢
      by_cases z : b = d
      · rw [z, hd] at e
        rw [z, upd_same]
        exact e
      · have := h.fr b v (by rw [hide_out c, upd_ne z]; exact e)
        rw [hide_out c] at this
        rw [upd_ne z]
        exact this
  have off : ∀ {b : Addr}, b ∈ A.M → b ≠ d := fun m z => dM (z ▸ m)
  obtain ⟨dx0, ru0, lg0, fu0, ho0⟩ := hS.obj
  obtain ⟨⟨dx, ru, lg, fu, h1⟩, h2, h3, h4, h5, ⟨us, h6, h7⟩, ⟨kvs, h8, h8'⟩, h9, h10, h11, h12⟩ := h.st
  have m : A.la ∈ A.M ∧ A.ca ∈ A.M ∧ A.ba ∈ A.M ∧ A.pa ∈ A.M ∧ A.sm ∈ A.M ∧ A.em ∈ A.M := by simp only [SA.M, List.mem_cons, true_or, or_true, and_self]
  refine ⟨fr, ⟨⟨dx, ru, lg, fu, ?_⟩, hS.blk.up fr, ?_, ?_, ?_, ⟨us, ?_, h7⟩, ⟨kvs, ?_, h8'⟩, ?_, h10, h11, h12⟩, h.pre, h.len, h.ge⟩
  · rw [upd_ne fun z => by rw [z, hd] at ho0; exact ku.1 _ _ _ (Option.some.inj ho0)]
    exact h1
  · rw [upd_ne (off m.1)]
    exact h3
  · rw [upd_ne (off m.2.1)]
    exact h4
  · rw [upd_ne (off m.2.2.1)]
    exact h5
  · rw [upd_ne (off m.2.2.2.1)]
    exact h6
  · rw [upd_ne (off m.2.2.2.2.1)]
    exact h8
  · rw [upd_ne (off m.2.2.2.2.2)]
    exact h9
theorem dT_kind (kvs : List (List L2.Key × V)) : (∀ C dx fs, (HO.dT kvs) ≠ .ins C dx fs) ∧ ∀ xs, (HO.dT kvs) ≠ .lst xs := ⟨fun _ _ _ z => (by cases z), fun _ z => (by cases z)⟩
theorem four_of {m : List Nat} {sq : List Pr} {x0 x1 x2 x3 : Pr} (h : m.map (fun n => sq[n]?) = [x0, x1, x2, x3].map some) : ∃ m0 m1 m2 m3, m = [m0, m1, m2, m3] ∧ sq[m0]? = some x0 ∧ sq[m1]? = some x1 ∧ sq[m2]? = some x2 ∧ sq[m3]? = some x3 := by
  match m, h with
  | [m0, m1, m2, m3], h =>
    simp only [List.map_cons, List.map_nil, List.cons.injEq, and_true] at h
    exact ⟨m0, m1, m2, m3, rfl, h.1, h.2.1, h.2.2.1, h.2.2.2⟩
  | [], h => cases h
  | [_], h => simp at h
  | [_, _], h => simp at h
  | [_, _, _], h => simp at h
  | _ :: _ :: _ :: _ :: _ :: _, h => simp at h
theorem putAt_upd {H H' : Hp} {d : Addr} {ps : List Pr} {g : Pr → V} {x : Pr} {v : V} (p : PutAt H d ps g x v H') : ∃ o, H' = upd H d o := by
  obtain ⟨⟨kvs, w, _⟩, h⟩ := p
  refine ⟨.dT kvs, funext fun b => ?_⟩
  by_cases c : b = d
  · rw [c, upd_same]
    exact w
  · rw [upd_ne c, h b c]
/-- a layout: the squares of one level by their places -/
structure LayIs (M : List Addr) (H : Hp) (sq : List Pr) (d : Addr) (l : Nat) (ks : List Pr) (g : Pr → Nat) : Prop where
  dct : ∃ f : Pr → Nat, Dct (hide M H) d ks (fun p => .int (f p : Nat)) ∧ ∀ p ∈ ks, sq[f p]? = some ((l : Int), (g p : Int))
  pos : ∀ p, p ∈ ks ↔ g p ≠ 0
theorem LayIs.gr {C CB : Addr} {A : SA} {k : Nat} {H H' : Hp} {sq sq' : List Pr} {es es' : Nat} {d : Addr} {l : Nat} {ks : List Pr} {g : Pr → Nat} (q : Gr C CB A k H sq es H' sq' es') (h : LayIs A.M H sq d l ks g) : LayIs A.M H' sq' d l ks g := by
  obtain ⟨⟨f, h1, h2⟩, h3⟩ := h
  exact ⟨⟨f, h1.up q.fr, fun p m => pre_get q.pre (h2 p m)⟩, h3⟩
theorem LayIs.nd {M : List Addr} {H : Hp} {sq : List Pr} {d : Addr} {l : Nat} {ks : List Pr} {g : Pr → Nat} (h : LayIs M H sq d l ks g) : ks.Nodup := by
  obtain ⟨f, ⟨kvs, _, _, nd⟩, _⟩ := h.dct
  exact nd
theorem LayIs.fit {C CB : Addr} {A : SA} {H : Hp} {sq : List Pr} {es : Nat} {d : Addr} {l : Nat} {ks : List Pr} {g : Pr → Nat} (hS : StoreIs C CB H A sq es) (h : LayIs A.M H sq d l ks g) (p : Pr) : Fit l (g p) := by
  by_cases m : p ∈ ks
  · obtain ⟨f, _, h2⟩ := h.dct
    exact (hS.fitN (h2 p m)).2
  · have : g p = 0 := Classical.not_not.mp fun z => m ((h.pos p).mpr z)
    rw [this]
    intro i z
    rw [Nat.zero_testBit] at z
    cases z
theorem and1 (r : Int) : Builtin.bitAnd r 1 = r % 2 := by
  unfold Builtin.bitAnd
  by_cases h : 0 ≤ r
  · rw [decide_eq_true h]
    show ((r.toNat &&& 1 : Nat) : Int) = r % 2
    rw [Nat.and_two_pow_sub_one_eq_mod r.toNat 1]
    show ((r.toNat % 2 : Nat) : Int) = r % 2
    omega
  · rw [decide_eq_false h]
    show (1 : Int) - ((1 &&& (Builtin.bitNot r).toNat : Nat) : Int) = r % 2
    rw [Nat.and_comm, Nat.and_two_pow_sub_one_eq_mod (Builtin.bitNot r).toNat 1]
    show (1 : Int) - (((Builtin.bitNot r).toNat % 2 : Nat) : Int) = r % 2
    have e : Builtin.bitNot r = -r - 1 := by
      unfold Builtin.bitNot
      omega
    rw [e]
    omega
end
end My
namespace My
open PySem PySem.Spec PyProof.Rows L2 Vx
open TL
local macro_rules | `(tactic| k_invariant "new" ($n, $H:ident, $e:ident, $h:ident)) => `(tactic| (generalize hE : upd _ _ _ = $H; obtain ⟨$e:ident, $h:ident⟩ := gen_e hE $n; clear hE))
local macro_rules | `(tactic| k_places) => `(tactic| first
  | assumption
  | exact lst_of (by assumption)
  | exact tup_of (by assumption)
  | (refine getS (by assumption) ?_; k_places)
  | (refine Same.seq (by assumption) ?_; k_places)
  | (refine tupS (by assumption) ?_; k_places)
  | (refine lst_of ?_; k_places)
  | (refine tup_of ?_; k_places))
local macro_rules | `(tactic| k_subL) => `(tactic| first
  | k_places
  | solve_by_elim (maxDepth := 10) [getS, lst_of, tup_of, Same.seq, tupS])
local macro_rules | `(tactic| k_offL) => `(tactic| first
  | (show (0 : Int) < _; first | omega | decide)
  | (refine ⟨?_, ?_⟩ <;> first | omega | decide)
  | exact .inr ⟨by decide, by decide⟩
  | exact .inl ⟨by decide, by decide⟩
  | exact .inl ⟨by omega, by omega⟩
  | omega)
local macro_rules | `(tactic| k_clsL) => `(tactic| exact Nat.le_of_ble_eq_true rfl)
local macro_rules | `(tactic| k_upd) => `(tactic| simp only [L2.start, List.map_cons, List.map_nil, List.length_cons, List.length_nil, List.replicate_succ, List.replicate_zero, List.cons_append, List.nil_append, List.set_cons_zero, List.set_cons_succ])
section
variable {P : Program} {w : World} {K : PySem.W.Frag} {mg : Str → Option Value} {base : Heap}
def halfP (p : Pr) : Pr := (p.1 / 2, p.2 / 2)
def partP (z : Pr) (j : Nat) : Pr := (z.1 * 2 + ((j / 2 : Nat) : Int), z.2 * 2 + ((j % 2 : Nat) : Int))
theorem low_part (g : Pr → Nat) (z : Pr) {j : Nat} (hj : j < 4) : lowG g (partP z j) = cutN 4 (g z) (j / 2 * 16) (j % 2 * 16) := by
  unfold lowG partP
  dsimp only
  rw [show (z.1 * 2 + ((j / 2 : Nat) : Int)) / 2 = z.1 by omega, show (z.2 * 2 + ((j % 2 : Nat) : Int)) / 2 = z.2 by omega, show ((z.1 * 2 + ((j / 2 : Nat) : Int)) % 2).toNat = j / 2 by omega, show ((z.2 * 2 + ((j % 2 : Nat) : Int)) % 2).toNat = j % 2 by omega]
theorem half_part (z : Pr) {j : Nat} (hj : j < 4) : halfP (partP z j) = z := by
  unfold halfP partP
  exact Prod.ext (by dsimp only; omega) (by dsimp only; omega)
def ixP (p : Pr) : Nat := (p.1 % 2).toNat * 2 + (p.2 % 2).toNat
theorem ix_part (z : Pr) {j : Nat} (hj : j < 4) : ixP (partP z j) = j := by
  unfold ixP partP
  dsimp only
  omega
theorem part_of (p : Pr) : partP (halfP p) (ixP p) = p := by
  unfold ixP partP halfP
  exact Prod.ext (by dsimp only; omega) (by dsimp only; omega)
theorem low_pos {g : Pr → Nat} {p : Pr} (h : lowG g p ≠ 0) : g (halfP p) ≠ 0 := fun z => h (by
  unfold lowG
  rw [show (p.1 / 2, p.2 / 2) = halfP p from rfl, z]
  unfold cutN
  rw [Nat.zero_shiftRight, Nat.zero_and])
def sp_lowered (C CB : Addr) : Sp := fun vs H Q _ => ∃ (A : SA) (sq : List Pr) (es : Nat) (d : Addr) (ks : List Pr) (g : Pr → Nat), vs = [.ref A.st, .ref d] ∧ StoreIs C CB H A sq es ∧ LayIs A.M H sq d 5 ks g ∧ ks.length < 100000 ∧ sq.length + 4 * ks.length < 4000000 ∧
  ∀ (H' : Hp) (sq' : List Pr) (d' : Addr) (ks' : List Pr), Gr C CB A (4 * ks.length) H sq es H' sq' es → H d' = none → LayIs A.M H' sq' d' 4 ks' (lowG g) → ks'.length ≤ 4 * ks.length → Q (.ref d') H'
theorem ok_Store_lowered (T : Txt K mg) : FnOk P w K mg base CX0 4 T.f_Store_lowered T.d_Store_lowered ["self", "layout"] (sp_lowered T.C_Store T.C_Blocks) := by
  refine T.F_Store_lowered.ok sc_Store_lowered (fun vs H Q E h => ?_) (fun cdv A outer s H vs Q E hr h => ?_)
  · obtain ⟨_, _, _, _, _, _, rfl, _⟩ := h
    rfl
  · obtain ⟨S, sq, es, d, ks, g, rfl, hS, hL, fk, few, q⟩ := h
    have hu : (A.deeper (envOfC (Str.ofString "Store._lowered") (defScope s_Store_lowered) s.heap.objs.size T.f_Store_lowered cdv)).units + 1 < cLine := by
      have := hr.units
      omega
    have hfit : ∀ p, Fit 5 (g p) := fun p => hL.fit hS p
    obtain ⟨⟨fn, hD, hn⟩, pos⟩ := id hL
    refine ⟨_, (pss_cons (ps_set (i := 2) sc_Store_lowered.nd rfl (.inl rfl) pe_dnewT)
      (pss_cons (ps_lock (ps_for PassesOwn.never rfl (pi_itemsT (pv 1)) (pg_tupK (K := K) (n := 2) rfl rfl (pgs_cons (pg_tupK (K := K) (n := 2) rfl rfl (pgs_cons (pg_name (i := 3) sc_Store_lowered.nd rfl (.inl rfl)) (pgs_cons (pg_name (i := 4) sc_Store_lowered.nd rfl (.inl rfl)) pgs_nil))) (pgs_cons (pg_name (i := 5) sc_Store_lowered.nd rfl (.inl rfl)) pgs_nil)))
      (pss_one (ps_for PassesOwn.never rfl (pi_enumT (by rfl) T.z_enumerate (pa_cons (pe_meth (pv 0) T.cl_Store T.m_Store_parts (ok_Store_parts T) (hr.mono (by decide)) T.b_Store_parts .nil pass0 (pa_cons (pv 5) pa_nil)) pa_nil)) (pg_tupK (K := K) (n := 2) rfl rfl (pgs_cons (pg_name (i := 6) sc_Store_lowered.nd rfl (.inl rfl)) (pgs_cons (pg_name (i := 7) sc_Store_lowered.nd rfl (.inl rfl)) pgs_nil)))
      (pss_one (ps_if (pt_truth (pe_ix ix_list (pe_fld (pv 0) rfl) (pv 7) (fun _ _ => rfl)) (by intro _; rfl))
      (pss_one (ps_dput hu (pv 2) (pe_tup (pa_cons (pe_op op_add (pe_op op_mul (pv 3) pe_int) (pe_op op_shr (pv 6) pe_int)) (pa_cons (pe_op op_add (pe_op op_mul (pv 4) pe_int) (pe_op op_and (pv 6) pe_int)) pa_nil))) (pv 7) rfl))
      pss_nil))))))
      (pss_one (ps_ret (pv 2))))), ?_⟩
    k_upd
    obtain ⟨kvs, hdh, hm⟩ := id hD
    have dM : d ∉ S.M := fun m => by rw [hide_in m] at hdh; cases hdh
    have hd : H d = some (.dT kvs) := hide_le _ _ hdh
    refine fun dl ndl => ?_
    have ndl0 := ndl
    k_invariant "new" (ndl, H1, e1, g1)
    k_upd
    have nek : dl ≠ d := fun e => by rw [e, hd] at ndl; cases ndl
    refine ⟨d, _, e1 _ _ hd, trivial, fun od => ⟨_, rfl, d, od, kvs, rfl, upd_same, ?_⟩⟩
    obtain ⟨Hb, hHb⟩ : ∃ Hb, Hb = upd H d (.frz od (.dT kvs)) := ⟨_, rfl⟩
    have hSb : StoreIs T.C_Store T.C_Blocks Hb S sq es := by rw [hHb]; exact hS.lock hd (dT_kind kvs) dM
    have nb : Hb dl = none := by rw [hHb, upd_ne nek]; exact ndl
    have sb : Same Hb (upd H1 d (.frz od (.dT kvs))) := by rw [hHb]; exact updS e1
    have lM : dl ∉ S.M := hSb.off nb
    refine for_it walk_itemsT (fun i σ H' => ∃ sq' : List Pr, Gr T.C_Store T.C_Blocks S (4 * i) Hb sq es H' sq' es ∧ (∃ x3 x4 x5 x6 x7 : Option V, σ = [some (.ref S.st), some (.ref d), some (.ref dl), x3, x4, x5, x6, x7]) ∧ H' d = some (.frz od (.dT kvs)) ∧
        ∃ (ls : List Pr) (f : Pr → Nat), Dct H' dl ls (fun p => .int (f p : Nat)) ∧ (∀ p ∈ ls, sq'[f p]? = some ((4 : Int), (lowG g p : Int))) ∧ (∀ p, p ∈ ls ↔ halfP p ∈ ks.take i ∧ lowG g p ≠ 0) ∧ ls.length ≤ 4 * i)
      ⟨sq, ((Gr.refl _ hSb).same sb), ⟨_, _, _, _, _, rfl⟩, upd_same, [], fun _ => 0, Dct.new _ (by rw [upd_ne nek]; exact g1), fun _ m => (by cases m), fun p => ⟨fun m => (by cases m), fun m => by
        have := m.1
        rw [List.take_zero] at this
        cases this⟩, Nat.le_refl _⟩ (fun i σ H' _ p => p.choose_spec.2.2.1) ?_ ?_
    · rintro i x σ H2 H3 hi ⟨sq', hg, ⟨x3, x4, x5, x6, x7, rfl⟩, hfz, ls, f, hLs, hsq, hmem, lls⟩ ⟨tt, ky, v, q0, e, rfl, hq0, nt, rfl⟩
      obtain ⟨z, hz, rfl, rfl⟩ := hm.at e
      have zk := List.mem_of_getElem? hz
      have li : i < ks.length := (List.getElem?_eq_some_iff.mp hz).1
      have zn := nodup_next hm.2 hz
      have hn' := pre_get hg.pre (hn z zk)
      have lq := hg.len
      k_invariant "new" (nt, H3, e3, g3)
      have hg3 := hg.same e3
      obtain ⟨dx, ru, lg, fu, ho⟩ := hg3.st.obj
      have hq3 : H3 q0 = some (.tup [.int z.1, .int z.2]) := e3 _ _ hq0
      have hfz3 := e3 _ _ hfz
      have hLs3 := hLs.up e3
      refine ⟨tt, _, rfl, tup_of g3, rfl, _, _, rfl, ⟨q0, _, rfl, tup_of hq3, rfl, _, _, rfl, _, _, rfl, rfl, _, _, rfl, rfl, ?_⟩⟩
      k_upd
      refine ⟨_, rfl, S.st, _, _, rfl, ho, rfl, _, rfl, S, sq', es, fn z, 4, g z, rfl, hg3.st, (by decide), (by omega), hn', fun H4 sq2 p m g4 np hp em => ?_⟩
      obtain ⟨m0, m1, m2, m3, em', a0, a1, a2, a3⟩ := four_of em
      subst em'
      refine ⟨p, _, rfl, tup_of hp, ?_⟩
      have hg4 := hg3.trans g4
      have pM : p ∉ S.M := hg3.st.off np
      have hp4 : H4 p = some (.tup [.int (m0 : Int), .int (m1 : Int), .int (m2 : Int), .int (m3 : Int)]) := hp
      have hfz4 := gr_fresh g4 hfz3 dM
      obtain ⟨kl, kl1, kl2⟩ := hLs3
      have hLs4 : Dct H4 dl ls (fun p => .int (f p : Nat)) := ⟨kl, gr_fresh g4 kl1 lM, kl2⟩
      have hsq4 : ∀ p ∈ ls, sq2[f p]? = some ((4 : Int), (lowG g p : Int)) := fun p m => pre_get g4.pre (hsq p m)
      refine for_it (walk_enumT (a := p) (xs := [.int (m0 : Int), .int (m1 : Int), .int (m2 : Int), .int (m3 : Int)])) (fun j σ H' => Gr T.C_Store T.C_Blocks S (4 * i + 4) Hb sq es H' sq2 es ∧ (∃ x6 x7 : Option V, σ = [some (.ref S.st), some (.ref d), some (.ref dl), some (.int z.1), some (.int z.2), some (.int (fn z : Nat)), x6, x7]) ∧
          H' d = some (.frz od (.dT kvs)) ∧ H' p = some (.tup [.int (m0 : Int), .int (m1 : Int), .int (m2 : Int), .int (m3 : Int)]) ∧
          ∃ (ls : List Pr) (f : Pr → Nat), Dct H' dl ls (fun p => .int (f p : Nat)) ∧ (∀ p ∈ ls, sq2[f p]? = some ((4 : Int), (lowG g p : Int))) ∧ (∀ p, p ∈ ls ↔ (halfP p ∈ ks.take i ∨ (halfP p = z ∧ ixP p < j)) ∧ lowG g p ≠ 0) ∧ ls.length ≤ 4 * i + j)
        ⟨hg4, ⟨_, _, rfl⟩, hfz4, hp4, ls, f, hLs4, hsq4, fun p => (hmem p).trans ⟨fun h => ⟨.inl h.1, h.2⟩, fun h => ⟨h.1.elim id fun k => absurd k.2 (Nat.not_lt_zero _), h.2⟩⟩, lls⟩ (fun j σ H' _ g => tup_of g.2.2.2.1) ?_ ?_
      · rintro j x σ H5 H6 hj ⟨gg, ⟨x6, x7, rfl⟩, hfz5, hp5, ls5, f5, hL5, hs5, hm5, ll5⟩ ⟨t5, a, y, rfl, nt5, rfl, ea, ey⟩
        have ea' : a = .int ((j : Nat) : Int) := (Option.some.inj ea).symm
        subst ea'
        k_invariant "new" (nt5, H6, e6, g6)
        have gg6 := gg.same e6
        have hj : j < 4 := hj
        have elp := low_part g z hj
        obtain ⟨mj, ey', hmj⟩ : ∃ mj : Nat, y = .int (mj : Int) ∧ sq2[mj]? = some ((4 : Int), (cutN 4 (g z) (j / 2 * 16) (j % 2 * 16) : Int)) := by
          match j, ey, hj with
          | 0, ey, _ => exact ⟨m0, (Option.some.inj ey).symm, a0⟩
          | 1, ey, _ => exact ⟨m1, (Option.some.inj ey).symm, a1⟩
          | 2, ey, _ => exact ⟨m2, (Option.some.inj ey).symm, a2⟩
          | 3, ey, _ => exact ⟨m3, (Option.some.inj ey).symm, a3⟩
        rw [← elp] at hmj
        subst ey'
        obtain ⟨dx6, ru6, lg6, fu6, ho6⟩ := gg6.st.obj
        have hfl : Fit 4 (lowG g (partP z j)) := by rw [elp]; exact cut_fit (by decide)
        have hpf := half_part z hj
        have hpi := ix_part z hj
        have hnew : partP z j ∉ ls5 := fun m => by
          rcases ((hm5 _).mp m).1 with k | k
          · rw [hpf] at k
            exact zn k
          · rw [hpi] at k
            exact absurd k.2 (Nat.lt_irrefl _)
        have keyeq : ∀ p, halfP p = z → ixP p = j → p = partP z j := fun p h1 h2 => by rw [← part_of p, h1, h2]
        refine ⟨t5, _, rfl, tup_of g6, rfl, _, _, rfl, _, _, rfl, rfl, ?_⟩
        k_upd
        by_cases c0 : lowG g (partP z j) = 0
        · have pop : popN ((lowG g (partP z j) : Nat) : Int).toNat = 0 := (pop_zero (l := 4) (by decide) hfl).mpr c0
          refine ⟨_, rfl, S.st, _, _, _, _, rfl, ho6, T.cl_Store, T.na_Store__counts, rfl, _, rfl, _, _, _, _, rfl, rfl, lst_of gg6.st.ct, ct_at hmj, _, tru0 pop, iteF ?_⟩
          refine ⟨gg6, ⟨_, _, rfl⟩, e6 _ _ hfz5, e6 _ _ hp5, ls5, f5, hL5.up e6, hs5, fun p => (hm5 p).trans ⟨fun h => ⟨h.1.elim .inl fun k => .inr ⟨k.1, Nat.lt_succ_of_lt k.2⟩, h.2⟩, fun h => ⟨h.1.elim .inl fun k => ?_, h.2⟩⟩, by omega⟩
          by_cases c : ixP p = j
          · exact absurd (by rw [keyeq p k.1 c]; exact c0) h.2
          · exact .inr ⟨k.1, by have := k.2; omega⟩
        · have pop : popN ((lowG g (partP z j) : Nat) : Int).toNat ≠ 0 := fun y => c0 ((pop_zero (l := 4) (by decide) hfl).mp y)
          refine ⟨_, rfl, S.st, _, _, _, _, rfl, ho6, T.cl_Store, T.na_Store__counts, rfl, _, rfl, _, _, _, _, rfl, rfl, lst_of gg6.st.ct, ct_at hmj, _, tru1 pop, iteT ?_⟩
          refine ⟨_, rfl, _, rfl, _, rfl, _, _, rfl, rfl, (by k_offL), _, rfl, _, _, rfl, rfl, (by show (0 : Int) ≤ 1; decide), _, _, rfl, rfl, _, rfl, _, _, rfl, rfl, (by k_offL), _, rfl, _, _, rfl, rfl, _, _, rfl, rfl, by k_clsL, fun pk npk => ?_⟩
          dsimp only at npk ⊢
          have kk : z.1 * 2 + ((j : Nat) : Int) / 2 ^ (1 : Int).toNat = (partP z j).1 := by
            show z.1 * 2 + ((j : Nat) : Int) / 2 = z.1 * 2 + ((j / 2 : Nat) : Int)
            omega
          have kk2 : z.2 * 2 + Builtin.bitAnd ((j : Nat) : Int) 1 = (partP z j).2 := by
            rw [and1]
            show z.2 * 2 + ((j : Nat) : Int) % 2 = z.2 * 2 + ((j % 2 : Nat) : Int)
            omega
          rw [kk, kk2]
          k_invariant "new" (npk, H7, e7, g7)
          have hL7 := (hL5.up e6).up e7
          obtain ⟨H8, dp, pa⟩ := hL7.dput (x := partP z j) (by rw [sizeLine_eq]; omega) g7 (.int (mj : Int))
          have gd7 := e7 _ _ (e6 _ _ hfz5)
          have hp7 := e7 _ _ (e6 _ _ hp5)
          refine ⟨dl, H8, rfl, dp, ?_⟩
          obtain ⟨o8, e8⟩ := putAt_upd pa
          refine ⟨by rw [e8]; exact (gg6.same e7).loc hSb nb, ⟨_, _, rfl⟩, ?_, ?_, addK ls5 (partP z j), fun y => if y = partP z j then mj else f5 y, ?_, fun y m => ?_, fun y => ?_, ?_⟩
          · rw [pa.2 _ nek.symm]
            exact gd7
          · rw [pa.2 _ fun z => by
              obtain ⟨kv, w, _⟩ := hL7
              rw [z, w] at hp7
              cases hp7]
            exact hp7
          · refine pa.1.congr fun y _ => ?_
            unfold setG
            dsimp only
            by_cases c : y = partP z j
            · rw [if_pos c, if_pos c]
            · rw [if_neg c, if_neg c]
          · dsimp only
            by_cases c : y = partP z j
            · rw [if_pos c, c]
              exact hmj
            · rw [if_neg c]
              exact hs5 y ((mem_addK.mp m).resolve_right c)
          · rw [mem_addK, hm5]
            constructor
            · rintro (h | h)
              · exact ⟨h.1.elim .inl fun k => .inr ⟨k.1, Nat.lt_succ_of_lt k.2⟩, h.2⟩
              · rw [h, hpf, hpi]
                exact ⟨.inr ⟨rfl, Nat.lt_succ_self _⟩, c0⟩
            · rintro ⟨h | h, h2⟩
              · exact .inl ⟨.inl h, h2⟩
              · by_cases c : ixP y = j
                · exact .inr (keyeq y h.1 c)
                · exact .inl ⟨.inr ⟨h.1, by have := h.2; omega⟩, h2⟩
          · have := addK_len ls5 (partP z j)
            omega
      · rintro σ H5 ⟨gg, ⟨x6, x7, rfl⟩, hfz5, hp5, ls5, f5, hL5, hs5, hm5, ll5⟩
        refine ⟨sq2, gg, ⟨_, _, _, _, _, rfl⟩, hfz5, ls5, f5, hL5, hs5, fun p => (hm5 p).trans ?_, ll5⟩
        rw [take_next hz, List.mem_append, List.mem_singleton]
        exact ⟨fun h => ⟨h.1.elim .inl fun k => .inr k.1, h.2⟩, fun h => ⟨h.1.elim .inl fun k => .inr ⟨k, by show _ < 4; unfold ixP; omega⟩, h.2⟩⟩
    · rintro σ H2 ⟨sq', hg, ⟨x3, x4, x5, x6, x7, rfl⟩, hfz, ls, f, hLs, hsq, hmem, lls⟩
      refine ⟨hfz, ?_⟩
      rw [hHb] at hg
      have hgu := hg.unlock hS hd (dT_kind kvs) dM
      rw [hm.len] at hgu lls
      refine ⟨_, rfl, q _ sq' dl ls hgu ndl0 ⟨⟨f, ?_, hsq⟩, fun p => (hmem p).trans ?_⟩ lls⟩
      · obtain ⟨kv, w1, w2⟩ := hLs
        exact ⟨kv, by rw [hide_out lM, upd_ne nek]; exact w1, w2⟩
      · rw [hm.len, List.take_length]
        exact ⟨fun h => h.2, fun h => ⟨(pos _).mpr (low_pos h), h⟩⟩
end
end My
namespace My
open PySem PySem.Spec PyProof.Rows L2 Vx
open TL
local macro_rules | `(tactic| k_invariant "new" ($n, $H:ident, $e:ident, $h:ident)) => `(tactic| (generalize hE : upd _ _ _ = $H; obtain ⟨$e:ident, $h:ident⟩ := gen_e hE $n; clear hE))
local macro_rules | `(tactic| k_places) => `(tactic| first
  | assumption
  | exact lst_of (by assumption)
  | exact tup_of (by assumption)
  | (refine getS (by assumption) ?_; k_places)
  | (refine Same.seq (by assumption) ?_; k_places)
  | (refine tupS (by assumption) ?_; k_places)
  | (refine lst_of ?_; k_places)
  | (refine tup_of ?_; k_places))
local macro_rules | `(tactic| k_subL) => `(tactic| first
  | k_places
  | solve_by_elim (maxDepth := 10) [getS, lst_of, tup_of, Same.seq, tupS])
local macro_rules | `(tactic| k_offL) => `(tactic| first
  | (show (0 : Int) < _; first | omega | decide)
  | (refine ⟨?_, ?_⟩ <;> first | omega | decide)
  | exact .inr ⟨by decide, by decide⟩
  | exact .inl ⟨by decide, by decide⟩
  | exact .inl ⟨by omega, by omega⟩
  | omega)
local macro_rules | `(tactic| k_clsL) => `(tactic| exact Nat.le_of_ble_eq_true rfl)
local macro_rules | `(tactic| k_upd) => `(tactic| simp only [L2.start, List.map_cons, List.map_nil, List.length_cons, List.length_nil, List.replicate_succ, List.replicate_zero, List.cons_append, List.nil_append, List.set_cons_zero, List.set_cons_succ])
section
variable {P : Program} {w : World} {K : PySem.W.Frag} {mg : Str → Option Value} {base : Heap}
theorem Gr.relock {C CB : Addr} {A : SA} {k : Nat} {H H2 : Hp} {sq sq2 : List Pr} {es es2 : Nat} {d : Addr} {o u : HO} (hd : H d = some u) (ku : (∀ C dx fs, u ≠ .ins C dx fs) ∧ ∀ xs, u ≠ .lst xs) (dM : d ∉ A.M)
    (h : Gr C CB A k H sq es H2 sq2 es2) : Gr C CB A k (upd H d o) sq es (upd H2 d o) sq2 es2 := by
  refine ⟨fun b v e => ?_, h.st.lock (gr_fresh h hd dM) ku dM, h.pre, h.len, h.ge⟩
  rw [hide_updO dM] at e ⊢
  by_cases c : b = d
  · rw [c, upd_same] at e ⊢
    exact e
  · rw [upd_ne c] at e ⊢
    exact h.fr b v e
theorem nz_bit {n : Nat} (h : n ≠ 0) (f : Fit 4 n) : ∃ R C : Nat, R < 16 ∧ C < 16 ∧ n.testBit (R * 32 + C) = true := by
  obtain ⟨i, t⟩ := Nat.exists_testBit_of_ne_zero h
  obtain ⟨f1, f2⟩ := f i t
  exact ⟨i / 32, i % 32, f1, f2, by rw [show i / 32 * 32 + i % 32 = i by omega]; exact t⟩
theorem up_pos {g : Pr → Nat} (hf : ∀ p, Fit 4 (g p)) {k : Pr} (h : g k ≠ 0) : upG g (halfP k) ≠ 0 := fun z => by
  obtain ⟨R, C, hR, hC, t⟩ := nz_bit h (hf k)
  have e : in16 g (k.1 * 16 + R) (k.2 * 16 + C) = true := by
    unfold in16
    rw [show (k.1 * 16 + (R : Int)) / 16 = k.1 by omega, show (k.2 * 16 + (C : Int)) / 16 = k.2 by omega, show ((k.1 * 16 + (R : Int)) % 16).toNat = R by omega, show ((k.2 * 16 + (C : Int)) % 16).toNat = C by omega]
    exact t
  rw [← in_up hf] at e
  unfold in32 inB placeP at e
  dsimp only at e
  rw [show (k.1 * 16 + (R : Int)) / 32 = k.1 / 2 by omega, show (k.2 * 16 + (C : Int)) / 32 = k.2 / 2 by omega, show (k.1 / 2, k.2 / 2) = halfP k from rfl, z, Nat.zero_testBit] at e
  cases e
theorem up_parts (g : Pr → Nat) (p : Pr) : upG g p = putN (2 ^ 4) (g (partP p 0)) (g (partP p 1)) (g (partP p 2)) (g (partP p 3)) := by
  unfold upG partP
  have e0 : p.1 * 2 + ((0 / 2 : Nat) : Int) = p.1 * 2 := by omega
  have e1 : p.2 * 2 + ((0 % 2 : Nat) : Int) = p.2 * 2 := by omega
  have e2 : p.1 * 2 + ((1 / 2 : Nat) : Int) = p.1 * 2 := by omega
  have e3 : p.2 * 2 + ((1 % 2 : Nat) : Int) = p.2 * 2 + 1 := by omega
  have e4 : p.1 * 2 + ((2 / 2 : Nat) : Int) = p.1 * 2 + 1 := by omega
  have e5 : p.2 * 2 + ((2 % 2 : Nat) : Int) = p.2 * 2 := by omega
  have e6 : p.1 * 2 + ((3 / 2 : Nat) : Int) = p.1 * 2 + 1 := by omega
  have e7 : p.2 * 2 + ((3 % 2 : Nat) : Int) = p.2 * 2 + 1 := by omega
  simp only [e0, e1, e2, e3, e4, e5, e6, e7]
def ctP (fn : Pr → Nat) (n0 : Nat) (ds : List Pr) (p : Pr) (k : Nat) : Nat := if partP p k ∈ ds then fn (partP p k) else n0
def L4 (fn : Pr → Nat) (n0 : Nat) (ds : List Pr) (p : Pr) : List V := [.int (ctP fn n0 ds p 0 : Nat), .int (ctP fn n0 ds p 1 : Nat), .int (ctP fn n0 ds p 2 : Nat), .int (ctP fn n0 ds p 3 : Nat)]
theorem L4_set {fn : Pr → Nat} {n0 : Nat} {ds : List Pr} {z p : Pr} (h : halfP z = p) : (L4 fn n0 ds p).set (ixP z) (.int (fn z : Nat)) = L4 fn n0 (ds ++ [z]) p := by
  have ez : partP p (ixP z) = z := by rw [← h, part_of]
  have ne : ∀ k, k < 4 → k ≠ ixP z → ctP fn n0 (ds ++ [z]) p k = ctP fn n0 ds p k := fun k hk n => by
    have nz : partP p k ≠ z := fun e => n (by rw [← e, ix_part p hk])
    unfold ctP
    by_cases c : partP p k ∈ ds
    · rw [if_pos c, if_pos (List.mem_append.mpr (.inl c))]
    · rw [if_neg c, if_neg fun m => (List.mem_append.mp m).elim c fun m => nz (List.mem_singleton.mp m)]
  have at' : ctP fn n0 (ds ++ [z]) p (ixP z) = fn z := by
    unfold ctP
    rw [ez, if_pos (List.mem_append.mpr (.inr List.mem_cons_self))]
  have lt : ixP z < 4 := by
    unfold ixP
    omega
  generalize ixP z = i at *
  unfold L4
  match i, lt with
  | 0, _ => rw [at', ne 1 (by decide) (by decide), ne 2 (by decide) (by decide), ne 3 (by decide) (by decide)]; rfl
  | 1, _ => rw [at', ne 0 (by decide) (by decide), ne 2 (by decide) (by decide), ne 3 (by decide) (by decide)]; rfl
  | 2, _ => rw [at', ne 0 (by decide) (by decide), ne 1 (by decide) (by decide), ne 3 (by decide) (by decide)]; rfl
  | 3, _ => rw [at', ne 0 (by decide) (by decide), ne 1 (by decide) (by decide), ne 2 (by decide) (by decide)]; rfl
theorem L4_off {fn : Pr → Nat} {n0 : Nat} {ds : List Pr} {z p : Pr} (h : halfP z ≠ p) : L4 fn n0 (ds ++ [z]) p = L4 fn n0 ds p := by
  have ne : ∀ k, k < 4 → ctP fn n0 (ds ++ [z]) p k = ctP fn n0 ds p k := fun k hk => by
    have nz : partP p k ≠ z := fun e => h (by rw [← e, half_part p hk])
    unfold ctP
    by_cases c : partP p k ∈ ds
    · rw [if_pos c, if_pos (List.mem_append.mpr (.inl c))]
    · rw [if_neg c, if_neg fun m => (List.mem_append.mp m).elim c fun m => nz (List.mem_singleton.mp m)]
  unfold L4
  rw [ne 0 (by decide), ne 1 (by decide), ne 2 (by decide), ne 3 (by decide)]
def sp_raised (C CB : Addr) : Sp := fun vs H Q _ => ∃ (A : SA) (sq : List Pr) (es : Nat) (d : Addr) (ks : List Pr) (g : Pr → Nat), vs = [.ref A.st, .ref d, .int 4] ∧ StoreIs C CB H A sq es ∧ 1 ≤ es ∧ es ≤ 6 ∧ LayIs A.M H sq d 4 ks g ∧ ks.length < 100000 ∧ sq.length + (6 + ks.length) < 4000000 ∧
  ∀ (H' : Hp) (sq' : List Pr) (es' : Nat) (d' : Addr) (ks' : List Pr), Gr C CB A (6 + ks.length) H sq es H' sq' es' → es' ≤ 6 → H d' = none → LayIs A.M H' sq' d' 5 ks' (upG g) → ks'.length ≤ ks.length → Q (.ref d') H'
theorem ok_Store_raised (T : Txt K mg) : FnOk P w K mg base CX0 5 T.f_Store_raised T.d_Store_raised ["self", "layout", "level"] (sp_raised T.C_Store T.C_Blocks) := by
  refine T.F_Store_raised.ok sc_Store_raised (fun vs H Q E h => ?_) (fun cdv A outer s H vs Q E hr h => ?_)
  · obtain ⟨_, _, _, _, _, _, rfl, _⟩ := h
    rfl
  · obtain ⟨S, sq0, es0, d, ks, g, rfl, hS0, es1, es6, hL0, fk, few, q⟩ := h
    have hu : (A.deeper (envOfC (Str.ofString "Store._raised") (defScope s_Store_raised) s.heap.objs.size T.f_Store_raised cdv)).units + 1 < cLine := by
      have := hr.units
      omega
    refine ⟨_, (pss_cons (ps_set (i := 3) sc_Store_raised.nd rfl (.inr rfl) (pe_meth (pv 0) T.cl_Store T.m_Store_empty (ok_Store_empty T) (hr.mono (by decide)) T.b_Store_empty .nil pass0 (pa_cons (pv 2) pa_nil)))
      (pss_cons (ps_lock (ps_setDcT (i := 4) (own := [("row", 5), ("column", 6)]) (tt := tYes) rfl (Nat.lt_of_succ_lt hu) sc_Store_raised.nd rfl rfl (sw_dict rfl rfl rfl (by decide +kernel)) (pi_keys (pv 1)) (blkOk_by (own := [("row", 5), ("column", 6)]) (N := N_Store_raised) (sc := defScope s_Store_raised) (by decide +kernel)) (fun _ _ _ _ _ => (pg_tupK (K := K) (n := 2) rfl rfl (pgs_cons (pg_name (i := 5) sc_Store_raised.nd rfl (.inl rfl)) (pgs_cons (pg_name (i := 6) sc_Store_raised.nd rfl (.inl rfl)) pgs_nil)))) (fun _ _ _ _ _ => pts_nil) (fun _ _ _ _ _ => (pe_tup (pa_cons (pe_op op_shr (pv 5) pe_int) (pa_cons (pe_op op_shr (pv 6) pe_int) pa_nil)))) (fun _ _ _ _ _ => (pe_lst (pa_cons (pv 3) (pa_cons (pv 3) (pa_cons (pv 3) (pa_cons (pv 3) pa_nil))))))))
      (pss_cons (ps_lock (ps_for PassesOwn.never rfl (pi_itemsT (pv 1)) (pg_tupK (K := K) (n := 2) rfl rfl (pgs_cons (pg_tupK (K := K) (n := 2) rfl rfl (pgs_cons (pg_name (i := 5) sc_Store_raised.nd rfl (.inl rfl)) (pgs_cons (pg_name (i := 6) sc_Store_raised.nd rfl (.inl rfl)) pgs_nil))) (pgs_cons (pg_name (i := 7) sc_Store_raised.nd rfl (.inl rfl)) pgs_nil)))
      (pss_one (ps_asg (pv 7) (pg_sub (pe_dget hu (pv 4) (pe_tup (pa_cons (pe_op op_shr (pv 5) pe_int) (pa_cons (pe_op op_shr (pv 6) pe_int) pa_nil))) (fun _ _ => rfl)) (pe_op op_add (pe_op op_mul (pe_op op_and (pv 5) pe_int) pe_int) (pe_op op_and (pv 6) pe_int)) set_list)))))
      (pss_one (ps_ret (pe_lock (pe_dcT (own := [("place", 8), ("a", 9), ("b", 10), ("c", 11), ("d", 12)]) (tt := tYes) rfl (Nat.lt_of_succ_lt hu) sc_Store_raised.nd (pi_itemsT (pv 4)) (blkOk_by (own := [("place", 8), ("a", 9), ("b", 10), ("c", 11), ("d", 12)]) (N := N_Store_raised) (sc := defScope s_Store_raised) (by decide +kernel)) (fun _ _ _ _ _ => (pg_tupK (K := K) (n := 2) rfl rfl (pgs_cons (pg_name (i := 8) sc_Store_raised.nd rfl (.inl rfl)) (pgs_cons (pg_unlK (K := K) (n := 4) rfl rfl (pgs_cons (pg_name (i := 9) sc_Store_raised.nd rfl (.inl rfl)) (pgs_cons (pg_name (i := 10) sc_Store_raised.nd rfl (.inl rfl)) (pgs_cons (pg_name (i := 11) sc_Store_raised.nd rfl (.inl rfl)) (pgs_cons (pg_name (i := 12) sc_Store_raised.nd rfl (.inl rfl)) pgs_nil))))) pgs_nil)))) (fun _ _ _ _ _ => pts_nil) (fun _ _ _ _ _ => (pv 8)) (fun _ _ _ _ _ => (pe_meth (pv 0) T.cl_Store T.m_Store_joined (ok_Store_joined T) (hr.mono (by decide)) T.b_Store_joined .nil pass0 (pa_cons (pv 9) (pa_cons (pv 10) (pa_cons (pv 11) (pa_cons (pv 12) pa_nil))))))))))))), ?_⟩
    k_upd
    obtain ⟨dx, ru, lg, fu, ho⟩ := hS0.obj
    refine ⟨_, rfl, S.st, _, _, rfl, ho, rfl, _, rfl, S, sq0, es0, 4, rfl, hS0, es1, es6, by decide, by omega, fun H1 sq es n0 gr1 ees6 hn0 => ?_⟩
    have hS := gr1.st
    have hL := hL0.gr gr1
    have len1 := gr1.len
    have hfit : ∀ p, Fit 4 (g p) := fun p => hL.fit hS p
    obtain ⟨⟨fn, hD, hn⟩, pos⟩ := id hL
    k_upd
    obtain ⟨kvs, hdh, hm⟩ := id hD
    have dM : d ∉ S.M := fun m => by rw [hide_in m] at hdh; cases hdh
    have hd : H1 d = some (.dT kvs) := hide_le _ _ hdh
    refine ⟨d, _, hd, trivial, fun od => ⟨_, rfl, d, od, rfl, .inr ⟨kvs, upd_same, fun D nD => ?_⟩⟩⟩
    obtain ⟨Hb, hHb⟩ : ∃ Hb, Hb = upd H1 d (.frz od (.dT kvs)) := ⟨_, rfl⟩
    rw [← hHb] at nD
    have hSb : StoreIs T.C_Store T.C_Blocks Hb S sq es := by rw [hHb]; exact hS.lock hd (dT_kind kvs) dM
    have gb : Hb d = some (.frz od (.dT kvs)) := by rw [hHb, upd_same]
    have DM := hSb.off nD
    have nek : D ≠ d := fun e => by rw [e, gb] at nD; cases nD
    have nD1 : H1 D = none := by rw [hHb, upd_ne nek] at nD; exact nD
    rw [← hHb]
    refine dcT_it walk_keysT (fun i H' => Gr T.C_Store T.C_Blocks S 0 Hb sq es H' sq es ∧ H' d = some (.frz od (.dT kvs)) ∧ ∃ (hs : List Pr) (at' : Pr → Addr), Dct H' D hs (fun p => .ref (at' p)) ∧ (∀ p ∈ hs, H' (at' p) = some (.lst [.int (n0 : Int), .int (n0 : Int), .int (n0 : Int), .int (n0 : Int)]) ∧ Hb (at' p) = none) ∧
        (∀ p ∈ hs, ∀ p' ∈ hs, at' p = at' p' → p = p') ∧ (∀ p, p ∈ hs ↔ ∃ k ∈ ks.take i, halfP k = p) ∧ hs.length ≤ i)
      ⟨(Gr.refl 0 hSb).same (newS nD), by rw [upd_ne nek.symm]; exact gb, [], fun _ => 0, Dct.new _ upd_same, fun _ m => (by cases m), fun _ m => (by cases m), fun p => ⟨fun m => (by cases m), fun ⟨_, m, _⟩ => by rw [List.take_zero] at m; cases m⟩, Nat.le_refl _⟩ (fun i H' _ p => p.2.1) ?_ ?_
    · rintro i x H2 H3 hi ⟨hg, hfz, hs, at', hDD, hat, inj, hmem, lhs⟩ ⟨rfl, ky, v, q0, e, rfl, hq0⟩
      obtain ⟨z, hz, rfl, rfl⟩ := hm.at e
      have li : i < ks.length := (List.getElem?_eq_some_iff.mp hz).1
      refine ⟨q0, _, rfl, tup_of hq0, rfl, _, _, rfl, _, _, rfl, rfl, wipe2 _ 5 6 _ _, tyesT ⟨_, rfl, _, _, rfl, rfl, (by show (0 : Int) ≤ 1; decide), _, rfl, _, _, rfl, rfl, (by show (0 : Int) ≤ 1; decide), (by k_clsL), fun pk npk => ?_⟩⟩
      k_invariant "new" (npk, H4, e4, g4)
      have g4 : H4 pk = some (.tup [.int (halfP z).1, .int (halfP z).2]) := g4
      refine ⟨_, rfl, _, rfl, _, rfl, _, rfl, (by k_clsL), fun al nal => ?_⟩
      k_invariant "new" (nal, H5, e5, g5)
      have hDD5 := (hDD.up e4).up e5
      obtain ⟨kvd, w1, w2⟩ := id hDD5
      have lkd : kvd.length < sizeLine := by
        rw [w2.len, sizeLine_eq]
        omega
      have e45 := e4.trans e5
      have alb : Hb al = none := by
        cases h : Hb al with
        | none => rfl
        | some o =>
          by_cases c : al = d
          · rw [c] at nal
            rw [e4 _ _ hfz] at nal
            cases nal
          · have alM : al ∉ S.M := (hg.same e4).st.off nal
            have := gr_fresh (hg.same e4) h alM
            rw [this] at nal
            cases nal
      have nalD : al ≠ D := fun e => by
        obtain ⟨kv, y, _⟩ := hDD.up e4
        rw [e, y] at nal
        cases nal
      refine ⟨kvd, keyP (halfP z), pk, rfl, e5 _ _ g4, w1, lkd, ?_⟩
      have w3 := w2.put (halfP z) (.ref al)
      refine ⟨(hg.same e45).loc hSb nD, by rw [upd_ne nek.symm]; exact e45 _ _ hfz, addK hs (halfP z), fun y => if y = halfP z then al else at' y, ⟨_, upd_same, w3.congr fun y m => ?_⟩, fun y m => ?_, fun y my y' my' ey => ?_, fun y => ?_, ?_⟩
      · unfold setG
        dsimp only
        by_cases c : y = halfP z
        · rw [if_pos c, if_pos c]
        · rw [if_neg c, if_neg c]
      · dsimp only
        by_cases c : y = halfP z
        · rw [if_pos c]
          exact ⟨by rw [upd_ne nalD]; exact g5, alb⟩
        · rw [if_neg c]
          obtain ⟨y1, y2⟩ := hat y ((mem_addK.mp m).resolve_right c)
          refine ⟨?_, y2⟩
          rw [upd_ne fun e => by rw [e, (hDD.choose_spec).1] at y1; cases y1]
          exact e45 _ _ y1
      · dsimp only at ey
        by_cases c : y = halfP z
        · by_cases c' : y' = halfP z
          · rw [c, c']
          · rw [if_pos c, if_neg c'] at ey
            have y1 := e4 _ _ (hat y' ((mem_addK.mp my').resolve_right c')).1
            rw [← ey, nal] at y1
            cases y1
        · by_cases c' : y' = halfP z
          · rw [if_neg c, if_pos c'] at ey
            have y1 := e4 _ _ (hat y ((mem_addK.mp my).resolve_right c)).1
            rw [ey, nal] at y1
            cases y1
          · rw [if_neg c, if_neg c'] at ey
            exact inj y ((mem_addK.mp my).resolve_right c) y' ((mem_addK.mp my').resolve_right c') ey
      · rw [mem_addK, hmem, take_next hz]
        constructor
        · rintro (⟨k, m, h⟩ | h)
          · exact ⟨k, List.mem_append.mpr (.inl m), h⟩
          · exact ⟨z, List.mem_append.mpr (.inr List.mem_cons_self), h.symm⟩
        · rintro ⟨k, m, h⟩
          rcases List.mem_append.mp m with m | m
          · exact .inl ⟨k, m, h⟩
          · rw [List.mem_singleton.mp m] at h
            exact .inr h.symm
      · have := addK_len hs (halfP z)
        omega
    · rintro H2 ⟨hg, hfz, hs, at', hDD, hat, inj, hmem, lhs⟩
      rw [hm.len] at hmem lhs
      rw [List.take_length] at hmem
      k_upd
      refine ⟨hfz, ?_⟩
      rw [hHb] at hg
      have hgu := hg.unlock hS hd (dT_kind kvs) dM
      have out : ∀ {a : Addr} {o : HO}, a ≠ d → H2 a = some o → upd H2 d (.dT kvs) a = some o := fun n h => by rw [upd_ne n]; exact h
      have atd : ∀ p ∈ hs, at' p ≠ d := fun p m e => by
        have := (hat p m).2
        rw [e, gb] at this
        cases this
      have at0 : ∀ p ∈ hs, H1 (at' p) = none := fun p m => by
        have := (hat p m).2
        rw [hHb, upd_ne (atd p m)] at this
        exact this
      have atM : ∀ p ∈ hs, at' p ∉ S.M := fun p m => hS.off (at0 p m)
      have hat2 : ∀ p ∈ hs, upd H2 d (.dT kvs) (at' p) = some (.lst (L4 fn n0 [] p)) := fun p m => out (atd p m) (hat p m).1
      obtain ⟨kvD, wD1, wD2⟩ := hDD
      have hD2 : upd H2 d (.dT kvs) D = some (.dT kvD) := out nek wD1
      have atD : ∀ p ∈ hs, at' p ≠ D := fun p m e => by
        have := (hat p m).1
        rw [e, wD1] at this
        cases this
      have hd2 : upd H2 d (.dT kvs) d = some (.dT kvs) := upd_same
      clear hfz hg hat
      generalize upd H2 d (.dT kvs) = H3 at hgu hat2 hD2 hd2 ⊢
      k_upd
      refine ⟨d, _, hd2, trivial, fun od2 => ⟨_, rfl, d, od2, kvs, rfl, upd_same, ?_⟩⟩
      have gr3 := hgu.relock (o := .frz od2 (.dT kvs)) hd (dT_kind kvs) dM
      have hD3 : upd H3 d (.frz od2 (.dT kvs)) D = some (.dT kvD) := by rw [upd_ne nek]; exact hD2
      have hat3 : ∀ p ∈ hs, upd H3 d (.frz od2 (.dT kvs)) (at' p) = some (.lst (L4 fn n0 [] p)) := fun p m => by rw [upd_ne (atd p m)]; exact hat2 p m
      have hd3 : upd H3 d (.frz od2 (.dT kvs)) d = some (.frz od2 (.dT kvs)) := upd_same
      have hSc : StoreIs T.C_Store T.C_Blocks (upd H1 d (.frz od2 (.dT kvs))) S sq es := hS.lock hd (dT_kind kvs) dM
      have atc : ∀ p ∈ hs, upd H1 d (.frz od2 (.dT kvs)) (at' p) = none := fun p m => by rw [upd_ne (atd p m)]; exact at0 p m
      obtain ⟨Hc, hHc⟩ : ∃ Hc, Hc = upd H1 d (.frz od2 (.dT kvs)) := ⟨_, rfl⟩
      rw [← hHc] at gr3 hSc atc
      generalize upd H3 d (.frz od2 (.dT kvs)) = H4 at gr3 hD3 hat3 hd3 ⊢
      refine for_it walk_itemsT (fun i σ H' => Gr T.C_Store T.C_Blocks S 0 Hc sq es H' sq es ∧ (∃ x5 x6 x7 : Option V, σ = [some (.ref S.st), some (.ref d), some (.int 4), some (.int (n0 : Int)), some (.ref D), x5, x6, x7, none, none, none, none, none]) ∧ H' d = some (.frz od2 (.dT kvs)) ∧
          H' D = some (.dT kvD) ∧ ∀ p ∈ hs, H' (at' p) = some (.lst (L4 fn n0 (ks.take i) p)))
        ⟨gr3, ⟨_, _, _, rfl⟩, hd3, hD3, hat3⟩ (fun i σ H' _ p => p.2.2.1) ?_ ?_
      · rintro i x σ H5 H6 hi ⟨hg, ⟨x5, x6, x7, rfl⟩, hfz, hDv, hat⟩ ⟨tt, ky, v, q0, e, rfl, hq0, nt, rfl⟩
        obtain ⟨z, hz, rfl, rfl⟩ := hm.at e
        have zk := List.mem_of_getElem? hz
        have zh : halfP z ∈ hs := (hmem _).mpr ⟨z, zk, rfl⟩
        k_invariant "new" (nt, H6, e6, g6)
        have hq6 : H6 q0 = some (.tup [.int z.1, .int z.2]) := e6 _ _ hq0
        refine ⟨tt, _, rfl, tup_of g6, rfl, _, _, rfl, ⟨q0, _, rfl, tup_of hq6, rfl, _, _, rfl, _, _, rfl, rfl, _, _, rfl, rfl, ?_⟩⟩
        k_upd
        refine ⟨_, rfl, _, rfl, _, rfl, _, _, rfl, rfl, (by show (0 : Int) ≤ 1; decide), _, rfl, _, _, rfl, rfl, (by show (0 : Int) ≤ 1; decide), (by k_clsL), fun pk npk => ?_⟩
        k_invariant "new" (npk, H7, e7, g7)
        have g7 : H7 pk = some (.tup [.int (halfP z).1, .int (halfP z).2]) := g7
        have e67 := e6.trans e7
        have dD : Dct H7 D hs (fun p => .ref (at' p)) := ⟨kvD, e67 _ _ hDv, wD2⟩
        have dg := dD.dget (x := halfP z) g7
        rw [if_pos zh] at dg
        refine ⟨D, _, rfl, dg, ?_⟩
        refine ⟨_, rfl, _, _, rfl, rfl, _, _, rfl, rfl, (by k_offL), _, rfl, _, _, rfl, rfl, _, _, rfl, rfl, ?_⟩
        have eix : Builtin.bitAnd z.1 1 * 2 + Builtin.bitAnd z.2 1 = ((ixP z : Nat) : Int) := by
          rw [and1, and1]
          unfold ixP
          omega
        have lix : ixP z < 4 := by
          unfold ixP
          omega
        have hatz := e67 _ _ (hat _ zh)
        refine ⟨at' (halfP z), _, _, ixP z, rfl, rfl, hatz, ?_, ?_⟩
        · rw [eix]
          unfold ixN
          rw [if_pos (Int.natCast_nonneg _), if_pos (by show ((ixP z : Nat) : Int) < (4 : Nat); omega)]
          rfl
        · have atz := atc _ zh
          have off : ∀ {a : Addr} {o : HO}, H7 a = some o → (∀ xs, o ≠ .lst xs) → ∀ xs, upd H7 (at' (halfP z)) (.lst xs) a = some o := fun {a o} h n xs => by
            rw [upd_ne fun e => by
              rw [e, hatz] at h
              exact n _ (Option.some.inj h).symm]
            exact h
          rw [L4_set rfl, ← take_next hz]
          refine ⟨(hg.same e67).loc hSc atz, ⟨_, _, _, rfl⟩, off (e67 _ _ hfz) (fun _ y => by cases y) _, off (e67 _ _ hDv) (fun _ y => by cases y) _, fun p m => ?_⟩
          by_cases c : p = halfP z
          · rw [c, upd_same]
          · rw [upd_ne fun e => c (inj _ m _ zh e), take_next hz, L4_off fun e => c e.symm]
            exact e67 _ _ (hat p m)
      · rintro σ H5 ⟨hg, ⟨x5, x6, x7, rfl⟩, hfz, hDv, hat⟩
        rw [hm.len, List.take_length] at hat
        refine ⟨hfz, ?_⟩
        rw [hHc] at hg
        have hgu2 := hg.unlock hS hd (dT_kind kvs) dM
        have hD6 : upd H5 d (.dT kvs) D = some (.dT kvD) := by rw [upd_ne nek]; exact hDv
        have hat6 : ∀ p ∈ hs, upd H5 d (.dT kvs) (at' p) = some (.lst (L4 fn n0 ks p)) := fun p m => by rw [upd_ne (atd p m)]; exact hat p m
        generalize upd H5 d (.dT kvs) = H6 at hgu2 hD6 hat6 ⊢
        k_upd
        refine ⟨D, _, hD6, trivial, fun oD => ⟨_, rfl, D, oD, kvD, rfl, upd_same, fun D2 nD2 => ?_⟩⟩
        have gr7 := hgu2.loc (o := .frz oD (.dT kvD)) hS nD1
        have gD7 : upd H6 D (.frz oD (.dT kvD)) D = some (.frz oD (.dT kvD)) := upd_same
        have hat7 : ∀ p ∈ hs, upd H6 D (.frz oD (.dT kvD)) (at' p) = some (.lst (L4 fn n0 ks p)) := fun p m => by rw [upd_ne (atD p m)]; exact hat6 p m
        generalize upd H6 D (.frz oD (.dT kvD)) = H7 at gr7 gD7 hat7 nD2 ⊢
        have D2M := gr7.st.off nD2
        have n2D : D2 ≠ D := fun e => by rw [e, gD7] at nD2; cases nD2
        have nD21 : H1 D2 = none := by
          cases h : H1 D2 with
          | none => rfl
          | some o =>
            have := gr_fresh gr7 h D2M
            rw [this] at nD2
            cases nD2
        have at2 : ∀ p ∈ hs, at' p ≠ D2 := fun p m e => by
          have := hat7 p m
          rw [e, nD2] at this
          cases this
        refine dcT_it walk_itemsT (fun i H' => ∃ (sq' : List Pr) (f : Pr → Nat), Gr T.C_Store T.C_Blocks S i H1 sq es H' sq' es ∧ H' D = some (.frz oD (.dT kvD)) ∧ (∀ p ∈ hs, H' (at' p) = some (.lst (L4 fn n0 ks p))) ∧
            Dct H' D2 (hs.take i) (fun p => .int (f p : Nat)) ∧ ∀ p ∈ hs.take i, sq'[f p]? = some ((5 : Int), (upG g p : Int)))
          ⟨sq, fun _ => 0, gr7.same (newS nD2), by rw [upd_ne n2D.symm]; exact gD7, fun p m => by rw [upd_ne (at2 p m)]; exact hat7 p m, Dct.new _ upd_same, fun _ m => (by rw [List.take_zero] at m; cases m)⟩ (fun i H' _ p => p.choose_spec.choose_spec.2.1) ?_ ?_
        · rintro i x H8 H9 hi ⟨sq', f, hg8, hfz8, hat8, hD8, hs8⟩ ⟨tt, ky, v, q0, e, rfl, hq0, nt, rfl⟩
          obtain ⟨z, hz, rfl, rfl⟩ := wD2.at e
          have zh := List.mem_of_getElem? hz
          have li : i < hs.length := (List.getElem?_eq_some_iff.mp hz).1
          k_invariant "new" (nt, H9, e9, g9)
          have hg9 := hg8.same e9
          have lg9 := hg9.len
          obtain ⟨dx9, ru9, lg9', fu9, ho9⟩ := hg9.st.obj
          have hl9 := e9 _ _ (hat8 z zh)
          have num : ∀ k, sq'[ctP fn n0 ks z k]? = some ((4 : Int), (g (partP z k) : Int)) := fun k => by
            unfold ctP
            by_cases c : partP z k ∈ ks
            · rw [if_pos c]
              exact pre_get hg9.pre (hn _ c)
            · rw [if_neg c, Classical.not_not.mp fun y => c ((pos _).mpr y)]
              exact pre_get hg9.pre hn0
          refine ⟨tt, _, rfl, tup_of g9, rfl, _, _, rfl, _, _, rfl, at' z, _, rfl, lst_of hl9, rfl, _, _, rfl, _, _, rfl, _, _, rfl, _, _, rfl, rfl, rfl, rfl, tyesT ⟨_, rfl, _, rfl, S.st, _, _, rfl, ho9, rfl, _, rfl, _, rfl, _, rfl, _, rfl, ?_⟩⟩
          refine ⟨S, sq', es, _, _, _, _, 4, _, _, _, _, rfl, hg9.st, by decide, by omega, num 0, num 1, num 2, num 3, fun H10 sq10 n10 g10 e10 => ?_⟩
          rw [← up_parts] at e10
          have fresh : ∀ {a : Addr} {o : HO}, H9 a = some o → a ∉ S.M → H10 a = some o := fun h m => gr_fresh g10 h m
          obtain ⟨kv2, y1, y2⟩ := hD8.up e9
          have y1' := fresh y1 D2M
          refine ⟨kv2, keyP z, q0, rfl, fresh (e9 _ _ hq0) (hg9.st.outT (e9 _ _ hq0)), y1', by rw [y2.len, List.length_take, sizeLine_eq]; omega, ?_⟩
          have y3 := y2.put z (.int (n10 : Int))
          have zn := nodup_next wD2.2 hz
          rw [addK_new zn, ← take_next hz] at y3
          refine ⟨sq10, fun y => if y = z then n10 else f y, ((hg9.trans g10).more (by omega)).loc hS nD21, by rw [upd_ne n2D.symm]; exact fresh (e9 _ _ hfz8) DM, fun p m => by rw [upd_ne (at2 p m)]; exact fresh (e9 _ _ (hat8 p m)) (atM p m), ⟨_, upd_same, y3.congr fun y m => ?_⟩, fun y m => ?_⟩
          · unfold setG
            dsimp only
            by_cases c : y = z
            · rw [if_pos c, if_pos c]
            · rw [if_neg c, if_neg c]
          · dsimp only
            by_cases c : y = z
            · rw [if_pos c, c]
              exact e10
            · rw [if_neg c]
              rw [take_next hz] at m
              exact pre_get g10.pre (hs8 y ((List.mem_append.mp m).resolve_right fun m => c (List.mem_singleton.mp m)))
        · rintro H8 ⟨sq', f, hg8, hfz8, hat8, hD8, hs8⟩
          rw [wD2.len] at hg8 hD8 hs8
          rw [List.take_length] at hD8 hs8
          k_upd
          refine ⟨hfz8, ?_⟩
          have gr9 := hg8.loc (o := .dT kvD) hS nD1
          refine q _ sq' es D2 hs ((gr1.trans gr9).more (by omega)) ees6 ?_ ⟨⟨f, ?_, hs8⟩, fun p => ?_⟩ lhs
          · cases h : H D2 with
            | none => rfl
            | some o =>
              have : D2 ∉ S.M := D2M
              have := gr_fresh gr1 h this
              rw [this] at nD21
              cases nD21
          · obtain ⟨kv, y1, y2⟩ := hD8
            exact ⟨kv, by rw [hide_out D2M, upd_ne n2D]; exact y1, y2⟩
          · rw [hmem]
            constructor
            · rintro ⟨k, m, rfl⟩
              exact up_pos hfit ((pos k).mp m)
            · intro h
              refine Classical.byContradiction fun no => h ?_
              have z : ∀ k, k < 4 → g (partP p k) = 0 := fun k hk => Classical.not_not.mp fun y => no ⟨_, (pos _).mpr y, half_part p hk⟩
              rw [up_parts, z 0 (by decide), z 1 (by decide), z 2 (by decide), z 3 (by decide), put_zero]
end
end My
namespace My
open PySem PySem.Spec PyProof.Rows L2 Vx
open TL
local macro_rules | `(tactic| k_invariant "new" ($n, $H:ident, $e:ident, $h:ident)) => `(tactic| (generalize hE : upd _ _ _ = $H; obtain ⟨$e:ident, $h:ident⟩ := gen_e hE $n; clear hE))
local macro_rules | `(tactic| k_places) => `(tactic| first
  | assumption
  | exact lst_of (by assumption)
  | exact tup_of (by assumption)
  | (refine getS (by assumption) ?_; k_places)
  | (refine Same.seq (by assumption) ?_; k_places)
  | (refine tupS (by assumption) ?_; k_places)
  | (refine lst_of ?_; k_places)
  | (refine tup_of ?_; k_places))
local macro_rules | `(tactic| k_subL) => `(tactic| first
  | k_places
  | solve_by_elim (maxDepth := 10) [getS, lst_of, tup_of, Same.seq, tupS])
local macro_rules | `(tactic| k_offL) => `(tactic| first
  | (show (0 : Int) < _; first | omega | decide)
  | (refine ⟨?_, ?_⟩ <;> first | omega | decide)
  | exact .inr ⟨by decide, by decide⟩
  | exact .inl ⟨by decide, by decide⟩
  | exact .inl ⟨by omega, by omega⟩
  | omega)
local macro_rules | `(tactic| k_clsL) => `(tactic| exact Nat.le_of_ble_eq_true rfl)
local macro_rules | `(tactic| k_upd) => `(tactic| simp only [L2.start, List.map_cons, List.map_nil, List.length_cons, List.length_nil, List.replicate_succ, List.replicate_zero, List.cons_append, List.nil_append, List.set_cons_zero, List.set_cons_succ])
section
variable {P : Program} {w : World} {K : PySem.W.Frag} {mg : Str → Option Value} {base : Heap}
def sp_at_level (C CB : Addr) : Sp := fun vs H Q _ => ∃ (A : SA) (sq : List Pr) (es : Nat) (d : Addr) (ks : List Pr) (g : Pr → Nat), StoreIs C CB H A sq es ∧ 1 ≤ es ∧ es ≤ 6 ∧ ks.length < 100000 ∧ sq.length + (6 + 4 * ks.length) < 4000000 ∧
  ((vs = [.ref A.st, .ref d, .int 5, .int 4] ∧ LayIs A.M H sq d 5 ks g ∧ ∀ (H' : Hp) (sq' : List Pr) (d' : Addr) (ks' : List Pr), Gr C CB A (4 * ks.length) H sq es H' sq' es → H d' = none → LayIs A.M H' sq' d' 4 ks' (lowG g) → ks'.length ≤ 4 * ks.length → Q (.ref d') H') ∨
  (vs = [.ref A.st, .ref d, .int 4, .int 5] ∧ LayIs A.M H sq d 4 ks g ∧ ∀ (H' : Hp) (sq' : List Pr) (es' : Nat) (d' : Addr) (ks' : List Pr), Gr C CB A (6 + ks.length) H sq es H' sq' es' → es' ≤ 6 → H d' = none → LayIs A.M H' sq' d' 5 ks' (upG g) → ks'.length ≤ ks.length → Q (.ref d') H') ∨
  (∃ l : Nat, l ≤ 5 ∧ vs = [.ref A.st, .ref d, .int (l : Int), .int (l : Int)] ∧ Q (.ref d) H))
theorem ok_Store_at_level (T : Txt K mg) : FnOk P w K mg base CX0 6 T.f_Store_at_level T.d_Store_at_level ["self", "layout", "level", "wanted"] (sp_at_level T.C_Store T.C_Blocks) := by
  refine T.F_Store_at_level.ok sc_Store_at_level (fun vs H Q E h => ?_) (fun cdv A outer s H vs Q E hr h => ?_)
  · obtain ⟨_, _, _, _, _, _, _, _, _, _, _, ⟨rfl, _⟩ | ⟨rfl, _⟩ | ⟨_, _, rfl, _⟩⟩ := h <;> rfl
  · obtain ⟨S, sq, es, d, ks, g, hS, es1, es6, fk, few, ⟨rfl, hL, q⟩ | ⟨rfl, hL, q⟩ | ⟨l, hl, rfl, q⟩⟩ := h
    · skip
      refine ⟨_, (pss_cons (ps_for PassesOwn.never rfl (pi_range2 (by rfl) T.z_range (pa_cons (pv 2) (pa_cons (pv 3) pa_nil))) (pg_name (i := 4) sc_Store_at_level.nd rfl (.inl rfl))
      (pss_one (ps_set (i := 1) sc_Store_at_level.nd rfl (.inl rfl) (pe_meth (pv 0) T.cl_Store T.m_Store_raised (ok_Store_raised T) (hr.mono (by decide)) T.b_Store_raised .nil pass0 (pa_cons (pv 1) (pa_cons (pv 4) pa_nil))))))
      (pss_cons (ps_for PassesOwn.never rfl (pi_range2 (by rfl) T.z_range (pa_cons (pv 3) (pa_cons (pv 2) pa_nil))) (pg_name (i := 5) sc_Store_at_level.nd rfl (.inl rfl))
      (pss_one (ps_set (i := 1) sc_Store_at_level.nd rfl (.inl rfl) (pe_meth (pv 0) T.cl_Store T.m_Store_lowered (ok_Store_lowered T) (hr.mono (by decide)) T.b_Store_lowered .nil pass0 (pa_cons (pv 1) pa_nil)))))
      (pss_one (ps_ret (pv 1))))), ?_⟩
      k_upd
      refine ⟨_, rfl, _, rfl, 5, 4, rfl, ⟨by decide, by decide, by decide, by decide⟩, ?_⟩
      refine for_range (lo := 5) (n := 0) (fun i σ H' => σ = [some (.ref S.st), some (.ref d), some (.int 5), some (.int 4), none, none] ∧ H' = H) ⟨rfl, rfl⟩ (fun i σ H' hi _ => absurd hi (Nat.not_lt_zero i)) ?_
      rintro σ H' ⟨rfl, rfl⟩
      refine ⟨_, rfl, _, rfl, 4, 5, rfl, ⟨by decide, by decide, by decide, by decide⟩, ?_⟩
      refine for_range (lo := 4) (n := 1) (fun i σ H2 => (i = 0 → σ = [some (.ref S.st), some (.ref d), some (.int 5), some (.int 4), none, none] ∧ H2 = H') ∧ (i = 1 → ∃ (sq' : List Pr) (d' : Addr) (ks' : List Pr) (x5 : Option V), σ = [some (.ref S.st), some (.ref d'), some (.int 5), some (.int 4), none, x5] ∧ Gr T.C_Store T.C_Blocks S (4 * ks.length) H' sq es H2 sq' es ∧ H' d' = none ∧ LayIs S.M H2 sq' d' 4 ks' (lowG g) ∧ ks'.length ≤ 4 * ks.length))
        ⟨fun _ => ⟨rfl, rfl⟩, fun z => (by cases z)⟩ ?_ ?_
      · rintro i σ H2 hi ⟨h0, _⟩
        have i0 : i = 0 := by omega
        subst i0
        obtain ⟨rfl, rfl⟩ := h0 rfl
        obtain ⟨dx, ru, lg, fu, ho⟩ := hS.obj
        refine ⟨_, rfl, S.st, _, _, rfl, ho, rfl, _, rfl, S, sq, es, d, ks, g, rfl, hS, hL, fk, by omega, fun H3 sq3 d3 ks3 g3 n3 L3 l3 => ?_⟩
        exact ⟨fun z => (by cases z), fun _ => ⟨sq3, d3, ks3, _, rfl, g3, n3, L3, l3⟩⟩
      · rintro σ H2 ⟨_, h1⟩
        obtain ⟨sq', d', ks', x5, rfl, gr, nd, L', l'⟩ := h1 rfl
        exact ⟨_, rfl, q H2 sq' d' ks' gr nd L' l'⟩
    · skip
      refine ⟨_, (pss_cons (ps_for PassesOwn.never rfl (pi_range2 (by rfl) T.z_range (pa_cons (pv 2) (pa_cons (pv 3) pa_nil))) (pg_name (i := 4) sc_Store_at_level.nd rfl (.inl rfl))
      (pss_one (ps_set (i := 1) sc_Store_at_level.nd rfl (.inl rfl) (pe_meth (pv 0) T.cl_Store T.m_Store_raised (ok_Store_raised T) (hr.mono (by decide)) T.b_Store_raised .nil pass0 (pa_cons (pv 1) (pa_cons (pv 4) pa_nil))))))
      (pss_cons (ps_for PassesOwn.never rfl (pi_range2 (by rfl) T.z_range (pa_cons (pv 3) (pa_cons (pv 2) pa_nil))) (pg_name (i := 5) sc_Store_at_level.nd rfl (.inl rfl))
      (pss_one (ps_set (i := 1) sc_Store_at_level.nd rfl (.inl rfl) (pe_meth (pv 0) T.cl_Store T.m_Store_lowered (ok_Store_lowered T) (hr.mono (by decide)) T.b_Store_lowered .nil pass0 (pa_cons (pv 1) pa_nil)))))
      (pss_one (ps_ret (pv 1))))), ?_⟩
      k_upd
      refine ⟨_, rfl, _, rfl, 4, 5, rfl, ⟨by decide, by decide, by decide, by decide⟩, ?_⟩
      refine for_range (lo := 4) (n := 1) (fun i σ H2 => (i = 0 → σ = [some (.ref S.st), some (.ref d), some (.int 4), some (.int 5), none, none] ∧ H2 = H) ∧ (i = 1 → ∃ (sq' : List Pr) (es' : Nat) (d' : Addr) (ks' : List Pr) (x4 : Option V), σ = [some (.ref S.st), some (.ref d'), some (.int 4), some (.int 5), x4, none] ∧ Gr T.C_Store T.C_Blocks S (6 + ks.length) H sq es H2 sq' es' ∧ es' ≤ 6 ∧ H d' = none ∧ LayIs S.M H2 sq' d' 5 ks' (upG g) ∧ ks'.length ≤ ks.length))
        ⟨fun _ => ⟨rfl, rfl⟩, fun z => (by cases z)⟩ ?_ ?_
      · rintro i σ H2 hi ⟨h0, _⟩
        have i0 : i = 0 := by omega
        subst i0
        obtain ⟨rfl, rfl⟩ := h0 rfl
        obtain ⟨dx, ru, lg, fu, ho⟩ := hS.obj
        refine ⟨_, rfl, S.st, _, _, rfl, ho, rfl, _, rfl, _, rfl, S, sq, es, d, ks, g, rfl, hS, es1, es6, hL, fk, by omega, fun H3 sq3 es3 d3 ks3 g3 e63 n3 L3 l3 => ?_⟩
        exact ⟨fun z => (by cases z), fun _ => ⟨sq3, es3, d3, ks3, _, rfl, g3, e63, n3, L3, l3⟩⟩
      · rintro σ H2 ⟨_, h1⟩
        obtain ⟨sq', es', d', ks', x4, rfl, gr, e6', nd, L', l'⟩ := h1 rfl
        refine ⟨_, rfl, _, rfl, 5, 4, rfl, ⟨by decide, by decide, by decide, by decide⟩, ?_⟩
        refine for_range (lo := 5) (n := 0) (fun i σ H3 => σ = [some (.ref S.st), some (.ref d'), some (.int 4), some (.int 5), x4, none] ∧ H3 = H2) ⟨rfl, rfl⟩ (fun i σ H' hi _ => absurd hi (Nat.not_lt_zero i)) ?_
        rintro σ H3 ⟨rfl, rfl⟩
        exact ⟨_, rfl, q H3 sq' es' d' ks' gr e6' nd L' l'⟩
    · skip
      refine ⟨_, (pss_cons (ps_for PassesOwn.never rfl (pi_range2 (by rfl) T.z_range (pa_cons (pv 2) (pa_cons (pv 3) pa_nil))) (pg_name (i := 4) sc_Store_at_level.nd rfl (.inl rfl))
      (pss_one (ps_set (i := 1) sc_Store_at_level.nd rfl (.inl rfl) (pe_meth (pv 0) T.cl_Store T.m_Store_raised (ok_Store_raised T) (hr.mono (by decide)) T.b_Store_raised .nil pass0 (pa_cons (pv 1) (pa_cons (pv 4) pa_nil))))))
      (pss_cons (ps_for PassesOwn.never rfl (pi_range2 (by rfl) T.z_range (pa_cons (pv 3) (pa_cons (pv 2) pa_nil))) (pg_name (i := 5) sc_Store_at_level.nd rfl (.inl rfl))
      (pss_one (ps_set (i := 1) sc_Store_at_level.nd rfl (.inl rfl) (pe_meth (pv 0) T.cl_Store T.m_Store_lowered (ok_Store_lowered T) (hr.mono (by decide)) T.b_Store_lowered .nil pass0 (pa_cons (pv 1) pa_nil)))))
      (pss_one (ps_ret (pv 1))))), ?_⟩
      k_upd
      have z1 : ((l : Int) - (l : Int)).toNat = 0 := by omega
      refine ⟨_, rfl, _, rfl, l, l, rfl, ⟨by omega, by omega, by omega, by omega⟩, ?_⟩
      rw [z1]
      refine for_range (lo := l) (n := 0) (fun i σ H' => σ = [some (.ref S.st), some (.ref d), some (.int (l : Int)), some (.int (l : Int)), none, none] ∧ H' = H) ⟨rfl, rfl⟩ (fun i σ H' hi _ => absurd hi (Nat.not_lt_zero i)) ?_
      rintro σ H' ⟨rfl, rfl⟩
      refine ⟨_, rfl, _, rfl, l, l, rfl, ⟨by omega, by omega, by omega, by omega⟩, ?_⟩
      rw [z1]
      refine for_range (lo := l) (n := 0) (fun i σ H2 => σ = [some (.ref S.st), some (.ref d), some (.int (l : Int)), some (.int (l : Int)), none, none] ∧ H2 = H') ⟨rfl, rfl⟩ (fun i σ H' hi _ => absurd hi (Nat.not_lt_zero i)) ?_
      rintro σ H2 ⟨rfl, rfl⟩
      exact ⟨_, rfl, q⟩
def nearP (k y : Pr) : Prop := k.1 - 1 ≤ y.1 ∧ y.1 ≤ k.1 + 1 ∧ k.2 - 1 ≤ y.2 ∧ y.2 ≤ k.2 + 1
theorem three_at {a : Nat} {x : V} (h : [V.int (-1), V.int 0, V.int 1][a]? = some x) : x = .int ((a : Int) - 1) ∧ a < 3 := by
  match a, h with
  | 0, h => exact ⟨(Option.some.inj h).symm, by decide⟩
  | 1, h => exact ⟨(Option.some.inj h).symm, by decide⟩
  | 2, h => exact ⟨(Option.some.inj h).symm, by decide⟩
def sp_around : Sp := fun vs H Q _ => ∃ (d : Addr) (ks : List Pr) (g : Pr → V), vs = [.ref d] ∧ Dct H d ks g ∧ ks.length < 100000 ∧
  ∀ (H' : Hp) (p : Addr) (qs : List Pr), Same H H' → H p = none → Cells H' p qs → qs.Nodup → (∀ y, y ∈ qs ↔ ∃ k ∈ ks, nearP k y) → qs.length ≤ 9 * ks.length → Q (.ref p) H'
theorem ok_with_places_around (T : Txt K mg) : FnOk P w K mg base CX0 1 T.f_with_places_around T.d_with_places_around ["layout"] sp_around := by
  refine T.F_with_places_around.ok sc_with_places_around (fun vs H Q E h => ?_) (fun cdv A outer s H vs Q E hr h => ?_)
  · obtain ⟨_, _, _, rfl, _⟩ := h
    rfl
  · obtain ⟨d, ks, g, rfl, ⟨kvs, hd, hm⟩, fk, q⟩ := h
    have hu : (A.deeper (envOfC (Str.ofString "_with_places_around") (defScope s_with_places_around) s.heap.objs.size T.f_with_places_around cdv)).units + 1 < cLine := by
      have := hr.units
      omega
    refine ⟨_, (pss_cons (ps_set (i := 1) sc_with_places_around.nd rfl (.inl rfl) pe_dnewT)
      (pss_cons (ps_lock (ps_for PassesOwn.never rfl (pi_keys (pv 0)) (pg_tupK (K := K) (n := 2) rfl rfl (pgs_cons (pg_name (i := 2) sc_with_places_around.nd rfl (.inl rfl)) (pgs_cons (pg_name (i := 3) sc_with_places_around.nd rfl (.inl rfl)) pgs_nil)))
      (pss_one (ps_for PassesOwn.never rfl (pi_tup (pe_tup (pa_cons (pe_un un_neg pe_int) (pa_cons pe_int (pa_cons pe_int pa_nil))))) (pg_name (i := 4) sc_with_places_around.nd rfl (.inl rfl))
      (pss_one (ps_for PassesOwn.never rfl (pi_tup (pe_tup (pa_cons (pe_un un_neg pe_int) (pa_cons pe_int (pa_cons pe_int pa_nil))))) (pg_name (i := 5) sc_with_places_around.nd rfl (.inl rfl))
      (pss_one (ps_dput hu (pv 1) (pe_tup (pa_cons (pe_op op_add (pv 2) (pv 4)) (pa_cons (pe_op op_add (pv 3) (pv 5)) pa_nil))) pe_bl rfl))))))))
      (pss_one (ps_ret (pe_callTy (cr_listP rfl) (by rfl) T.z_list (by decide +kernel) (pa_cons (pv 1) pa_nil)))))), ?_⟩
    k_upd
    refine fun D nD => ?_
    have nD0 := nD
    k_invariant "new" (nD, H1, e1, g1)
    k_upd
    have nek : D ≠ d := fun e => by rw [e, hd] at nD; cases nD
    refine ⟨d, _, e1 _ _ hd, trivial, fun od => ⟨_, rfl, d, od, rfl, .inr ⟨kvs, upd_same, ?_⟩⟩⟩
    obtain ⟨Hb, hHb⟩ : ∃ Hb, Hb = upd H1 d (.frz od (.dT kvs)) := ⟨_, rfl⟩
    have gb : Hb d = some (.frz od (.dT kvs)) := by rw [hHb, upd_same]
    have gD : Hb D = some (.dT []) := by rw [hHb, upd_ne nek]; exact g1
    rw [← hHb]
    refine for_it walk_keysT (fun i σ H' => (∀ b o, b ≠ D → Hb b = some o → H' b = some o) ∧ (∃ x2 x3 x4 x5 : Option V, σ = [some (.ref d), some (.ref D), x2, x3, x4, x5]) ∧
        ∃ qs : List Pr, Dct H' D qs (fun _ => .bl true) ∧ (∀ y, y ∈ qs ↔ ∃ k ∈ ks.take i, nearP k y) ∧ qs.length ≤ 9 * i)
      ⟨fun _ _ _ h => h, ⟨_, _, _, _, rfl⟩, [], Dct.new _ gD, fun y => ⟨fun m => (by cases m), fun ⟨_, m, _⟩ => by rw [List.take_zero] at m; cases m⟩, Nat.le_refl _⟩ (fun i σ H' _ p => p.1 _ _ nek.symm gb) ?_ ?_
    · rintro i x σ H2 H3 hi ⟨sb, ⟨x2, x3, x4, x5, rfl⟩, qs, hQ, hmem, lq⟩ ⟨rfl, ky, v, q0, e, rfl, hq0⟩
      obtain ⟨z, hz, rfl, rfl⟩ := hm.at e
      have li : i < ks.length := (List.getElem?_eq_some_iff.mp hz).1
      refine ⟨q0, _, rfl, tup_of hq0, rfl, _, _, rfl, _, _, rfl, rfl, ?_⟩
      k_upd
      refine ⟨_, rfl, (by k_clsL), fun t1 nt1 => ?_⟩
      k_invariant "new" (nt1, H4, e4, g4)
      have nt1D : t1 ≠ D := fun e => by obtain ⟨kv, y, _⟩ := hQ; rw [e, y] at nt1; cases nt1
      refine ⟨t1, rfl, ⟨_, tup_of g4⟩, for_tup (K := K) (a := t1) (xs := [.int (-1), .int 0, .int 1]) (fun a σ H' => (∀ b o, b ≠ D → Hb b = some o → H' b = some o) ∧ (∃ x4 x5 : Option V, σ = [some (.ref d), some (.ref D), some (.int z.1), some (.int z.2), x4, x5]) ∧ H' t1 = some (.tup [.int (-1), .int 0, .int 1]) ∧
        ∃ qs : List Pr, Dct H' D qs (fun _ => .bl true) ∧ (∀ y, y ∈ qs ↔ (∃ k ∈ ks.take i, nearP k y) ∨ (nearP z y ∧ y.1 < z.1 - 1 + (a : Int))) ∧ qs.length ≤ 9 * i + 3 * a)
        ⟨fun b o n h => e4 _ _ (sb b o n h), ⟨_, _, rfl⟩, g4, qs, hQ.up e4, fun y => (hmem y).trans ⟨.inl, fun h => h.elim id fun h => absurd h.2 (by have := h.1.1; omega)⟩, lq⟩ (fun a σ H' _ p => tup_of p.2.2.1) ?_ ?_⟩
      · rintro a x σ H5 ha ⟨sb5, ⟨x4, x5, rfl⟩, ht1, qs5, hQ5, hmem5, lq5⟩
        obtain ⟨rfl, a3⟩ := three_at ha
        k_upd
        refine ⟨_, rfl, (by k_clsL), fun t2 nt2 => ?_⟩
        k_invariant "new" (nt2, H6, e6, g6)
        refine ⟨t2, rfl, ⟨_, tup_of g6⟩, for_tup (K := K) (a := t2) (xs := [.int (-1), .int 0, .int 1]) (fun b σ H' => (∀ b o, b ≠ D → Hb b = some o → H' b = some o) ∧ (∃ x5 : Option V, σ = [some (.ref d), some (.ref D), some (.int z.1), some (.int z.2), some (.int ((a : Int) - 1)), x5]) ∧ H' t1 = some (.tup [.int (-1), .int 0, .int 1]) ∧ H' t2 = some (.tup [.int (-1), .int 0, .int 1]) ∧
          ∃ qs : List Pr, Dct H' D qs (fun _ => .bl true) ∧ (∀ y, y ∈ qs ↔ (∃ k ∈ ks.take i, nearP k y) ∨ (nearP z y ∧ (y.1 < z.1 - 1 + (a : Int) ∨ (y.1 = z.1 - 1 + (a : Int) ∧ y.2 < z.2 - 1 + (b : Int))))) ∧ qs.length ≤ 9 * i + 3 * a + b)
          ⟨fun b o n h => e6 _ _ (sb5 b o n h), ⟨_, rfl⟩, e6 _ _ ht1, g6, qs5, hQ5.up e6, fun y => (hmem5 y).trans ⟨fun h => h.elim .inl fun h => .inr ⟨h.1, .inl h.2⟩, fun h => h.elim .inl fun h => .inr ⟨h.1, h.2.elim id fun k => absurd k.2 (by have := h.1.2.2.1; omega)⟩⟩, lq5⟩ (fun b σ H' _ p => tup_of p.2.2.2.1) ?_ ?_⟩
        · rintro b x σ H7 hb ⟨sb7, ⟨x5, rfl⟩, ht17, ht27, qs7, hQ7, hmem7, lq7⟩
          obtain ⟨rfl, b3⟩ := three_at hb
          k_upd
          refine ⟨_, rfl, _, rfl, _, rfl, _, _, rfl, rfl, _, rfl, _, rfl, _, _, rfl, rfl, (by k_clsL), fun pk npk => ?_⟩
          k_invariant "new" (npk, H8, e8, g8)
          obtain ⟨nw, enw⟩ : ∃ nw : Pr, nw = (z.1 + ((a : Int) - 1), z.2 + ((b : Int) - 1)) := ⟨_, rfl⟩
          have g8 : H8 pk = some (.tup [.int nw.1, .int nw.2]) := by rw [enw]; exact g8
          obtain ⟨H9, dp, pa⟩ := (hQ7.up e8).dput (x := nw) (by rw [sizeLine_eq]; omega) g8 (.bl true)
          refine ⟨D, H9, rfl, dp, ?_⟩
          have tD : ∀ {t : Addr} {xs : List V}, H7 t = some (.tup xs) → t ≠ D := fun h e => by
            obtain ⟨kv, y, _⟩ := hQ7
            rw [e, y] at h
            cases h
          refine ⟨fun b o n h => (by rw [pa.2 _ n]; exact e8 _ _ (sb7 b o n h)), ⟨_, rfl⟩, by rw [pa.2 _ (tD ht17)]; exact e8 _ _ ht17, by rw [pa.2 _ (tD ht27)]; exact e8 _ _ ht27, addK qs7 nw, pa.1.congr fun y _ => ?_, fun y => ?_, ?_⟩
          · unfold setG
            by_cases c : y = nw <;> simp [c]
          · rw [mem_addK, hmem7]
            constructor
            · rintro ((h | ⟨h1, h2⟩) | h)
              · exact .inl h
              · exact .inr ⟨h1, by omega⟩
              · rw [h, enw]
                refine .inr ⟨?_, ?_⟩
                · unfold nearP
                  dsimp only
                  omega
                · dsimp only
                  omega
            · rintro (h | ⟨h1, h2⟩)
              · exact .inl (.inl h)
              · by_cases c : y = nw
                · exact .inr c
                · refine .inl (.inr ⟨h1, ?_⟩)
                  have : ¬ (y.1 = nw.1 ∧ y.2 = nw.2) := fun e => c (Prod.ext e.1 e.2)
                  rw [enw] at this
                  dsimp only at this
                  omega
          · have := addK_len qs7 nw
            omega
        · rintro σ H7 ⟨sb7, ⟨x5, rfl⟩, ht17, ht27, qs7, hQ7, hmem7, lq7⟩
          refine ⟨sb7, ⟨_, _, rfl⟩, ht17, qs7, hQ7, fun y => (hmem7 y).trans ⟨fun h => h.elim .inl fun h => .inr ⟨h.1, ?_⟩, fun h => h.elim .inl fun h => .inr ⟨h.1, ?_⟩⟩, ?_⟩
          · have := h.2
            omega
          · have := h.2
            have := h.1.2.2.2
            show y.1 < z.1 - 1 + (a : Int) ∨ (y.1 = z.1 - 1 + (a : Int) ∧ y.2 < z.2 - 1 + ((3 : Nat) : Int))
            omega
          · have lq7 : qs7.length ≤ 9 * i + 3 * a + 3 := lq7
            omega
      · rintro σ H5 ⟨sb5, ⟨x4, x5, rfl⟩, ht1, qs5, hQ5, hmem5, lq5⟩
        have lq5 : qs5.length ≤ 9 * i + 3 * 3 := lq5
        refine ⟨sb5, ⟨_, _, _, _, rfl⟩, qs5, hQ5, fun y => (hmem5 y).trans ?_, by omega⟩
        rw [take_next hz]
        constructor
        · rintro (⟨k, m, h⟩ | h)
          · exact ⟨k, List.mem_append.mpr (.inl m), h⟩
          · exact ⟨z, List.mem_append.mpr (.inr List.mem_cons_self), h.1⟩
        · rintro ⟨k, m, h⟩
          rcases List.mem_append.mp m with m | m
          · exact .inl ⟨k, m, h⟩
          · rw [List.mem_singleton.mp m] at h
            refine .inr ⟨h, ?_⟩
            have := h.2.1
            show y.1 < z.1 - 1 + ((3 : Nat) : Int)
            omega
    · rintro σ H2 ⟨sb, ⟨x2, x3, x4, x5, rfl⟩, qs, hQ, hmem, lq⟩
      rw [hm.len] at hmem lq
      rw [List.take_length] at hmem
      refine ⟨sb _ _ nek.symm gb, ?_⟩
      have hQ2 : Dct (upd H2 d (.dT kvs)) D qs (fun _ => .bl true) := hQ.off nek
      refine ⟨_, rfl, D, qs, _, rfl, hQ2, fun H3 p e3 np hc => ?_⟩
      have sm : Same H (upd H2 d (.dT kvs)) := fun b o h => by
        by_cases c : b = d
        · rw [c, hd] at h
          rw [c, upd_same]
          exact h
        · rw [upd_ne c]
          refine sb b o (fun y => by rw [y, nD0] at h; cases h) ?_
          rw [hHb, upd_ne c]
          exact e1 _ _ h
      obtain ⟨kv, _, _, nd⟩ := hQ2
      exact q H3 p qs (sm.trans e3) (backS sm np) hc nd hmem lq
end
end My
namespace My
open PySem PySem.Spec PyProof.Rows L2 Vx
open TL
local macro_rules | `(tactic| k_invariant "new" ($n, $H:ident, $e:ident, $h:ident)) => `(tactic| (generalize hE : upd _ _ _ = $H; obtain ⟨$e:ident, $h:ident⟩ := gen_e hE $n; clear hE))
local macro_rules | `(tactic| k_places) => `(tactic| first
  | assumption
  | exact lst_of (by assumption)
  | exact tup_of (by assumption)
  | (refine getS (by assumption) ?_; k_places)
  | (refine Same.seq (by assumption) ?_; k_places)
  | (refine tupS (by assumption) ?_; k_places)
  | (refine lst_of ?_; k_places)
  | (refine tup_of ?_; k_places))
local macro_rules | `(tactic| k_subL) => `(tactic| first
  | k_places
  | solve_by_elim (maxDepth := 10) [getS, lst_of, tup_of, Same.seq, tupS])
local macro_rules | `(tactic| k_offL) => `(tactic| first
  | (show (0 : Int) < _; first | omega | decide)
  | (refine ⟨?_, ?_⟩ <;> first | omega | decide)
  | exact .inr ⟨by decide, by decide⟩
  | exact .inl ⟨by decide, by decide⟩
  | exact .inl ⟨by omega, by omega⟩
  | omega)
local macro_rules | `(tactic| k_clsL) => `(tactic| exact Nat.le_of_ble_eq_true rfl)
local macro_rules | `(tactic| k_upd) => `(tactic| simp only [L2.start, List.map_cons, List.map_nil, List.length_cons, List.length_nil, List.replicate_succ, List.replicate_zero, List.cons_append, List.nil_append, List.set_cons_zero, List.set_cons_succ])
section
variable {P : Program} {w : World} {K : PySem.W.Frag} {mg : Str → Option Value} {base : Heap}
/-! ### futures of small squares -/
def futB (bs ss : List Int) (l j b : Nat) : Nat := cutN (l + 1) (iterBlk bs ss (2 ^ j) b) (2 ^ l) (2 ^ l)
structure FutAt (C CB CR : Addr) (H : Hp) (A : SA) (fu : Addr) (bs ss : List Int) (B : Nat) (sq : List Pr) : Prop where
  ob : ∃ dx ru lg, hide A.M H A.st = some (.ins C dx (sf ru A.bo A.la A.ca A.ba A.pa A.sm lg A.em fu))
  rl : BlkR CB CR (hide A.M H) A.bo bs ss
  dc : ∃ fs g, Dct (hide A.M H) fu fs g ∧ fs.length ≤ B ∧ ∀ x ∈ fs, ∃ n j m l b : Nat, x = ((n : Int), (j : Int)) ∧ g x = .int (m : Int) ∧ l < 4 ∧ j ≤ l ∧ sq[n]? = some (((l + 2 : Nat) : Int), (b : Int)) ∧ sq[m]? = some (((l + 1 : Nat) : Int), ((futB bs ss l j b : Nat) : Int))
theorem FutAt.gr {C CB CR : Addr} {A : SA} {k : Nat} {H H' : Hp} {sq sq' : List Pr} {es es' : Nat} {fu : Addr} {bs ss : List Int} {B : Nat} (g : Gr C CB A k H sq es H' sq' es') (h : FutAt C CB CR H A fu bs ss B sq) : FutAt C CB CR H' A fu bs ss B sq' := by
  obtain ⟨⟨dx, ru, lg, h1⟩, h2, fs, f, h3, h4, h5⟩ := h
  refine ⟨⟨dx, ru, lg, g.fr _ _ h1⟩, h2.up g.fr, fs, f, h3.up g.fr, h4, fun x m => ?_⟩
  · obtain ⟨n, j, m', l, b, a1, a2, a3, a4, a5, a6⟩ := h5 x m
    exact ⟨n, j, m', l, b, a1, a2, a3, a4, pre_get g.pre a5, pre_get g.pre a6⟩
theorem BlkR.off {C CR : Addr} {H : Hp} {bo d : Addr} {bs ss : List Int} {kvs : List (List L2.Key × V)} {o : HO} (h : BlkR C CR H bo bs ss) (hd : H d = some (.dT kvs)) : BlkR C CR (upd H d o) bo bs ss := by
  obtain ⟨dx, ru, fl, h1, h2, dx2, tb, ts, h3, h4, h5⟩ := h
  have ne : ∀ {b : Addr} {u : HO}, H b = some u → (∀ kvs, u ≠ .dT kvs) → b ≠ d := fun e n z => by
    rw [z, hd] at e
    exact n _ (Option.some.inj e).symm
  exact ⟨dx, ru, fl, by rw [upd_ne (ne h1 fun _ z => by cases z)]; exact h1, by rw [upd_ne (ne h2 fun _ z => by cases z)]; exact h2, dx2, tb, ts, by rw [upd_ne (ne h3 fun _ z => by cases z)]; exact h3, by rw [upd_ne (ne h4 fun _ z => by cases z)]; exact h4, by rw [upd_ne (ne h5 fun _ z => by cases z)]; exact h5⟩
def sp_new_future (C CB CR : Addr) : Sp := fun vs H Q _ => ∃ (A : SA) (sq : List Pr) (es n l b j : Nat) (bs ss : List Int), vs = [.ref A.st, .int (n : Int), .int (j : Int)] ∧ StoreIs C CB H A sq es ∧ BlkR CB CR (hide A.M H) A.bo bs ss ∧ (∀ b ∈ bs, 1 ≤ b ∧ b ≤ 8) ∧ (∀ b ∈ ss, 0 ≤ b ∧ b ≤ 8) ∧
  sq[n]? = some (((l + 2 : Nat) : Int), (b : Int)) ∧ l < 4 ∧ j ≤ l ∧ sq.length < 4000000 ∧
  ∀ (H' : Hp) (sq' : List Pr) (m : Nat), Gr C CB A 1 H sq es H' sq' es → sq'[m]? = some (((l + 1 : Nat) : Int), ((futB bs ss l j b : Nat) : Int)) → Q (.int (m : Int)) H'
theorem ok_Store_new_future (T : Txt K mg) : FnOk P w K mg base CX0 4 T.f_Store_new_future T.d_Store_new_future ["self", "square", "j"] (sp_new_future T.C_Store T.C_Blocks T.C_Rule) := by
  refine T.F_Store_new_future.ok sc_Store_new_future (fun vs H Q E h => ?_) (fun cdv A outer s H vs Q E hr h => ?_)
  · obtain ⟨_, _, _, _, _, _, _, _, _, rfl, _⟩ := h
    rfl
  · obtain ⟨S, sq, es, n, l, b, j, bs, ss, rfl, hS, hB, g1, g2, hn, hl, hj, few, q⟩ := h
    obtain ⟨dx, ru, lg, fu, ho⟩ := hS.obj
    obtain ⟨l6, hf⟩ := hS.fitN hn
    have hb := fit_lt l6 hf
    refine ⟨_, (pss_cons (ps_set (i := 3) sc_Store_new_future.nd rfl (.inl rfl) (pe_ix ix_list (pe_fld (pv 0) rfl) (pv 1) (fun _ _ => rfl)))
      (pss_cons (ps_if (pt_cmpR op_le (pv 3) (pe_gcx (by rfl) T.c_TOP) (nomark _))
      (pss_cons (ps_set (i := 4) sc_Store_new_future.nd rfl (.inl rfl) (pe_meth (pe_fld (pv 0) rfl) T.cl_Blocks T.m_Blocks_centre_after (ok_Blocks_centre_after T) (hr.mono (by decide)) T.b_Blocks_centre_after .nil pass0 (pa_cons (pv 3) (pa_cons (pe_ix ix_list (pe_fld (pv 0) rfl) (pv 1) (fun _ _ => rfl)) (pa_cons (pe_op op_shl pe_int (pv 2)) pa_nil)))))
      (pss_one (ps_ret (pe_meth (pv 0) T.cl_Store T.m_Store_small (ok_Store_small T) (hr.mono (by decide)) T.b_Store_small .nil pass0 (pa_cons (pe_op op_sub (pv 3) pe_int) (pa_cons (pv 4) pa_nil))))))
      pss_nil)
      (pss_cons ps_never
      (pss_cons ps_never
      (pss_cons ps_never
      (pss_cons ps_never
      (pss_cons ps_never
      (pss_one ps_never)))))))), ?_⟩
    k_upd
    refine ⟨_, rfl, S.st, _, _, _, _, rfl, ho, T.cl_Store, T.na_Store__levels, rfl, _, rfl, _, _, _, _, rfl, rfl, lst_of hS.lv, lv_at hn, ?_⟩
    k_upd
    refine ⟨_, rfl, _, _, rfl, rfl, _, rfl, ite2 (fun c => ?_) (fun c => ?_)⟩
    · obtain ⟨dxb, rub, flb, hb1, hb2, _⟩ := id hB
      refine ⟨_, rfl, S.st, _, _, _, _, rfl, ho, T.cl_Store, T.na_Store__blocks, rfl, S.bo, _, _, rfl, hide_le _ _ hb1, rfl, _, rfl, _, rfl, S.st, _, _, _, _, rfl, ho, T.cl_Store, T.na_Store__bits, rfl, _, rfl, _, _, _, _, rfl, rfl, lst_of hS.bt, bt_at hn, ?_⟩
      refine ⟨_, rfl, _, _, rfl, rfl, ⟨by omega, by omega, by decide⟩, ?_⟩
      have hsh : (1 : Int) * 2 ^ (((j : Nat) : Int).toNat) = ((2 ^ j : Nat) : Int) := by
        rw [Int.toNat_natCast, Int.one_mul]
        exact (Int.natCast_pow 2 j).symm
      have j16 : 2 ^ j ≤ 16 := Nat.le_trans (Nat.pow_le_pow_right (by decide) (show j ≤ 4 by omega)) (by decide)
      refine ⟨S.bo, l, b, 2 ^ j, bs, ss, hl, j16, ?_, hb, hB.up hide_le, g1, g2, fun H1 e1 => ?_⟩
      · dsimp only
        rw [hsh]
        rfl
      have hS1 := hS.up e1
      obtain ⟨dx1, ru1, lg1, fu1, ho1⟩ := hS1.obj
      k_upd
      refine ⟨_, rfl, S.st, _, _, rfl, ho1, rfl, _, rfl, _, _, rfl, rfl, _, rfl, S, sq, es, l + 1, futB bs ss l j b, ?_, hS1, by omega, cut_fit (by omega), by omega, fun H2 sq2 m g2' em => ?_⟩
      · dsimp only
        rw [show ((l + 2 : Nat) : Int) - 1 = ((l + 1 : Nat) : Int) by omega]
        rfl
      exact q H2 sq2 m (g2'.of_same e1) em
    · exfalso
      refine c (decide_eq_true ?_)
      omega
theorem BlkR.back {C CR : Addr} {M : List Addr} {H : Hp} {bo d : Addr} {bs ss : List Int} {kvs : List (List L2.Key × V)} {o : HO} (dM : d ∉ M) (h : BlkR C CR (hide M H) bo bs ss) (hd : H d = some (.dT kvs)) : BlkR C CR (hide M (upd H d o)) bo bs ss := by
  rw [hide_updO dM]
  exact h.off (by rw [hide_out dM]; exact hd)
def sp_future (C CB CR : Addr) : Sp := fun vs H Q _ => ∃ (A : SA) (fu : Addr) (sq : List Pr) (es n l b j B : Nat) (bs ss : List Int), vs = [.ref A.st, .int (n : Int), .int (j : Int)] ∧ StoreIs C CB H A sq es ∧ FutAt C CB CR H A fu bs ss B sq ∧ B < 5000000 ∧ (∀ b ∈ bs, 1 ≤ b ∧ b ≤ 8) ∧ (∀ b ∈ ss, 0 ≤ b ∧ b ≤ 8) ∧
  sq[n]? = some (((l + 2 : Nat) : Int), (b : Int)) ∧ l < 4 ∧ j ≤ l ∧ sq.length < 4000000 ∧
  ∀ (H' : Hp) (sq' : List Pr) (m : Nat), (∀ d o, d ≠ fu → hide A.M H d = some o → hide A.M H' d = some o) → StoreIs C CB H' A sq' es → FutAt C CB CR H' A fu bs ss (B + 1) sq' → sq <+: sq' → sq'.length ≤ sq.length + 1 → sq'[m]? = some (((l + 1 : Nat) : Int), ((futB bs ss l j b : Nat) : Int)) → Q (.int (m : Int)) H'
theorem ok_Store_future (T : Txt K mg) : FnOk P w K mg base CX0 5 T.f_Store_future T.d_Store_future ["self", "square", "j"] (sp_future T.C_Store T.C_Blocks T.C_Rule) := by
  refine T.F_Store_future.ok sc_Store_future (fun vs H Q E h => ?_) (fun cdv A outer s H vs Q E hr h => ?_)
  · obtain ⟨_, _, _, _, _, _, _, _, _, _, _, rfl, _⟩ := h
    rfl
  · obtain ⟨S, fu, sq, es, n, l, b, j, B, bs, ss, rfl, hS, hF, hBB, g1, g2, hn, hl, hj, few, q⟩ := h
    have hu : (A.deeper (envOfC (Str.ofString "Store.future") (defScope s_Store_future) s.heap.objs.size T.f_Store_future cdv)).units + 1 < cLine := by
      have := hr.units
      omega
    refine ⟨_, (pss_cons (ps_set (i := 3) sc_Store_future.nd rfl (.inl rfl) (pe_tup (pa_cons (pv 1) (pa_cons (pv 2) pa_nil))))
      (pss_cons (ps_if (pt_cmp (pc_dnotin hu (pv 3) (pe_fld (pv 0) rfl)))
      (pss_one (ps_dput hu (pe_fld (pv 0) rfl) (pv 3) (pe_meth (pv 0) T.cl_Store T.m_Store_new_future (ok_Store_new_future T) (hr.mono (by decide)) T.b_Store_new_future .nil pass0 (pa_cons (pv 1) (pa_cons (pv 2) pa_nil))) rfl))
      pss_nil)
      (pss_one (ps_ret (pe_dget hu (pe_fld (pv 0) rfl) (pv 3) (fun _ _ => rfl)))))), ?_⟩
    k_upd
    refine ⟨_, rfl, _, rfl, by k_clsL, fun kp nk => ?_⟩
    have kM := hS.off nk
    k_invariant "new" (nk, H1, e1, h1)
    k_upd
    have hS1 := hS.up e1
    have gr1 := (Gr.refl 0 hS).same e1
    have hF1 := hF.gr gr1
    obtain ⟨⟨dx, ru, lg, ob⟩, rl, fs, f, hD, lfs, hfs⟩ := id hF1
    have ho := hide_le _ _ ob
    have fM : fu ∉ S.M := fun m => by
      obtain ⟨kvs, z, _⟩ := hD
      rw [hide_in m] at z
      cases z
    have nD := hS1.nodup
    by_cases m : ((n : Int), (j : Int)) ∈ fs
    · have dg := (hD.up hide_le).dget (x := ((n : Int), (j : Int))) h1
      rw [if_pos m] at dg
      refine ⟨_, rfl, _, rfl, S.st, _, _, _, _, rfl, ho, T.cl_Store, T.na_Store__futures, rfl, _, _, rfl, dg, false, rfl, iteF ?_⟩
      k_upd
      obtain ⟨n', j', m', l', b', a1, a2, a3, a4, a5, a6⟩ := hfs _ m
      injection a1 with z1 z2
      have z1 := Int.ofNat.inj z1
      have z2 := Int.ofNat.inj z2
      subst z1 z2
      rw [hn] at a5
      have a5 := Option.some.inj a5
      have y1 : ((l + 2 : Nat) : Int) = ((l' + 2 : Nat) : Int) := congrArg Prod.fst a5
      have y2 : ((b : Nat) : Int) = ((b' : Nat) : Int) := congrArg Prod.snd a5
      have y1 : l = l' := by omega
      have y2 : b = b' := by omega
      subst y1 y2
      refine ⟨_, rfl, S.st, _, _, _, _, rfl, ho, T.cl_Store, T.na_Store__futures, rfl, _, rfl, fu, _, rfl, dg, ?_⟩
      rw [a2]
      exact q H1 sq m' (fun d o _ e => hide_up e1 _ _ e) hS1 ⟨hF1.ob, hF1.rl, fs, f, hD, Nat.le_succ_of_le lfs, hfs⟩ List.prefix_rfl (Nat.le_add_right _ _) a6
    · have dg := (hD.up hide_le).dget (x := ((n : Int), (j : Int))) h1
      rw [if_neg m] at dg
      refine ⟨_, rfl, _, rfl, S.st, _, _, _, _, rfl, ho, T.cl_Store, T.na_Store__futures, rfl, _, _, rfl, dg, true, rfl, iteT ?_⟩
      k_upd
      refine ⟨_, rfl, S.st, _, _, rfl, ho, rfl, _, rfl, _, rfl, S, sq, es, n, l, b, j, bs, ss, rfl, hS1, rl, g1, g2, hn, hl, hj, few, fun H2 sq2 mm gr2 em => ?_⟩
      have hF2 := hF1.gr gr2
      have ob2 := gr2.fr _ _ ob
      have ho2 := hide_le _ _ ob2
      have hD2 := (hD.up gr2.fr).up hide_le
      have k2 := gr_fresh gr2 h1 kM
      have lq2 := gr2.len
      obtain ⟨H3, dp, pa⟩ := hD2.dput (x := ((n : Int), (j : Int))) (by rw [sizeLine_eq]; omega) k2 (.int (mm : Int))
      obtain ⟨o3, e3⟩ := putAt_upd pa
      obtain ⟨kvs2, w1, w2⟩ := hD2
      have st3 : StoreIs T.C_Store T.C_Blocks H3 S sq2 es := by
        rw [e3]
        exact gr2.st.lock w1 (dT_kind kvs2) fM
      have fst : S.st ≠ fu := fun z => by rw [z, w1] at ho2; cases ho2
      have ob3 : hide S.M H3 S.st = some (.ins T.C_Store dx (sf ru S.bo S.la S.ca S.ba S.pa S.sm lg S.em fu)) := by
        rw [e3, hide_updO fM, upd_ne fst]
        exact ob2
      have ho3 := hide_le _ _ ob3
      have k3 : H3 kp = some (.tup [.int (n : Int), .int (j : Int)]) := by
        rw [pa.2 _ fun z => by rw [z, w1] at k2; cases k2]
        exact k2
      have dg3 := pa.1.dget (x := ((n : Int), (j : Int))) k3
      rw [if_pos (mem_addK.mpr (.inr rfl))] at dg3
      refine ⟨_, rfl, S.st, _, _, _, _, rfl, ho2, T.cl_Store, T.na_Store__futures, rfl, _, rfl, fu, H3, rfl, dp, ?_⟩
      refine ⟨_, rfl, S.st, _, _, _, _, rfl, ho3, T.cl_Store, T.na_Store__futures, rfl, _, rfl, fu, _, rfl, dg3, ?_⟩
      have sv : setG f ((n : Int), (j : Int)) (.int (mm : Int)) ((n : Int), (j : Int)) = .int (mm : Int) := if_pos rfl
      rw [sv]
      have fr3 : ∀ d o, d ≠ fu → hide S.M H d = some o → hide S.M H3 d = some o := fun d o ne e => by
        rw [e3, hide_updO fM, upd_ne ne]
        exact gr2.fr _ _ (hide_up e1 _ _ e)
      obtain ⟨kvs3, w3, w4⟩ := pa.1
      have hF3 : FutAt T.C_Store T.C_Blocks T.C_Rule H3 S fu bs ss (B + 1) sq2 := by
        refine ⟨⟨dx, ru, lg, ob3⟩, by rw [e3]; exact BlkR.back fM (rl.up gr2.fr) w1, addK fs ((n : Int), (j : Int)), _, ⟨kvs3, by rw [hide_out fM]; exact w3, w4⟩, ?_, fun x mx => ?_⟩
        · exact Nat.le_trans (addK_len _ _) (Nat.add_le_add_right lfs 1)
        · rcases mem_addK.mp mx with mx | ex
          · obtain ⟨n', j', m', l', b', a1, a2, a3, a4, a5, a6⟩ := hfs x mx
            refine ⟨n', j', m', l', b', a1, ?_, a3, a4, pre_get gr2.pre a5, pre_get gr2.pre a6⟩
            unfold setG
            rw [if_neg fun z => m (by rw [← z]; exact mx)]
            exact a2
          · exact ⟨n, j, mm, l, b, ex, by rw [ex]; exact sv, hl, hj, pre_get gr2.pre hn, em⟩
      exact q H3 sq2 mm fr3 st3 hF3 gr2.pre gr2.len em
end
end My
namespace My
open PySem PySem.Spec PyProof.Rows L2 Vx
open TL
local macro_rules | `(tactic| k_invariant "new" ($n, $H:ident, $e:ident, $h:ident)) => `(tactic| (generalize hE : upd _ _ _ = $H; obtain ⟨$e:ident, $h:ident⟩ := gen_e hE $n; clear hE))
local macro_rules | `(tactic| k_places) => `(tactic| first
  | assumption
  | exact lst_of (by assumption)
  | exact tup_of (by assumption)
  | (refine getS (by assumption) ?_; k_places)
  | (refine Same.seq (by assumption) ?_; k_places)
  | (refine tupS (by assumption) ?_; k_places)
  | (refine lst_of ?_; k_places)
  | (refine tup_of ?_; k_places))
local macro_rules | `(tactic| k_subL) => `(tactic| first
  | k_places
  | solve_by_elim (maxDepth := 10) [getS, lst_of, tup_of, Same.seq, tupS])
local macro_rules | `(tactic| k_offL) => `(tactic| first
  | (show (0 : Int) < _; first | omega | decide)
  | (refine ⟨?_, ?_⟩ <;> first | omega | decide)
  | exact .inr ⟨by decide, by decide⟩
  | exact .inl ⟨by decide, by decide⟩
  | exact .inl ⟨by omega, by omega⟩
  | omega)
local macro_rules | `(tactic| k_clsL) => `(tactic| exact Nat.le_of_ble_eq_true rfl)
local macro_rules | `(tactic| k_upd) => `(tactic| simp only [L2.start, List.map_cons, List.map_nil, List.length_cons, List.length_nil, List.replicate_succ, List.replicate_zero, List.cons_append, List.nil_append, List.set_cons_zero, List.set_cons_succ])
section
variable {P : Program} {w : World} {K : PySem.W.Frag} {mg : Str → Option Value} {base : Heap}
def PartsAt (M : List Addr) (H : Hp) (sq : List Pr) (P : Addr) (ks : List Pr) (g : Pr → Nat) : Prop :=
  ∃ (at' : Pr → Addr) (m : Pr → Nat → Nat), Dct (hide M H) P ks (fun p => .ref (at' p)) ∧ ∀ p ∈ ks, hide M H (at' p) = some (.tup [.int (m p 0 : Nat), .int (m p 1 : Nat), .int (m p 2 : Nat), .int (m p 3 : Nat)]) ∧
    sq[m p 0]? = some ((3 : Int), (qtG g p 0 0 : Int)) ∧ sq[m p 1]? = some ((3 : Int), (qtG g p 0 8 : Int)) ∧ sq[m p 2]? = some ((3 : Int), (qtG g p 8 0 : Int)) ∧ sq[m p 3]? = some ((3 : Int), (qtG g p 8 8 : Int))
theorem PartsAt.fr {M : List Addr} {H H' : Hp} {sq sq' : List Pr} {P : Addr} {ks : List Pr} {g : Pr → Nat} (e : ∀ a o, (∀ C dx fs, o ≠ .ins C dx fs) → hide M H a = some o → (a = P ∨ ∃ xs, o = .tup xs) → hide M H' a = some o) (pre : sq <+: sq') (h : PartsAt M H sq P ks g) : PartsAt M H' sq' P ks g := by
  obtain ⟨at', m, ⟨kvs, h1, h2⟩, h3⟩ := h
  refine ⟨at', m, ⟨kvs, e _ _ (fun _ _ _ z => by cases z) h1 (.inl rfl), h2⟩, fun p mp => ?_⟩
  obtain ⟨a, b, c, d, f⟩ := h3 p mp
  exact ⟨e _ _ (fun _ _ _ z => by cases z) a (.inr ⟨_, rfl⟩), pre_get pre b, pre_get pre c, pre_get pre d, pre_get pre f⟩
theorem PartsAt.gr {C CB : Addr} {A : SA} {k : Nat} {H H' : Hp} {sq sq' : List Pr} {es es' : Nat} {P : Addr} {ks : List Pr} {g : Pr → Nat} (q : Gr C CB A k H sq es H' sq' es') (h : PartsAt A.M H sq P ks g) : PartsAt A.M H' sq' P ks g := h.fr (fun a o _ e _ => q.fr a o e) q.pre
theorem qt_zero {g : Pr → Nat} {p : Pr} (h : g p = 0) (i j : Nat) : qtG g p i j = 0 := by
  unfold qtG cutN
  rw [h, Nat.zero_shiftRight, Nat.zero_and]
def sp_surrounded (C CB : Addr) : Sp := fun vs H Q _ => ∃ (A : SA) (sq : List Pr) (es : Nat) (P nt : Addr) (n0 : Nat) (p : Pr) (ks : List Pr) (g : Pr → Nat), vs = [.ref A.st, .ref P, .int p.1, .int p.2, .ref nt] ∧ StoreIs C CB H A sq es ∧ PartsAt A.M H sq P ks g ∧ (∀ q, q ∉ ks → g q = 0) ∧
  H nt = some (.tup [.int (n0 : Int), .int (n0 : Int), .int (n0 : Int), .int (n0 : Int)]) ∧ sq[n0]? = some ((3 : Int), (0 : Int)) ∧ sq.length + 5 < 4000000 ∧
  ∀ (H' : Hp) (sq' : List Pr) (n : Nat), Gr C CB A 5 H sq es H' sq' es → sq'[n]? = some ((5 : Int), (surG g p : Int)) → Q (.int (n : Int)) H'
theorem ok_Store_surrounded (T : Txt K mg) : FnOk P w K mg base CX0 4 T.f_Store_surrounded T.d_Store_surrounded ["self", "parts", "row", "column", "none"] (sp_surrounded T.C_Store T.C_Blocks) := by
  refine T.F_Store_surrounded.ok sc_Store_surrounded (fun vs H Q E h => ?_) (fun cdv A outer s H vs Q E hr h => ?_)
  · obtain ⟨_, _, _, _, _, _, _, _, _, rfl, _⟩ := h
    rfl
  · obtain ⟨S, sq, es, Pa, nt, n0, p, ks, g, rfl, hS, ⟨at', mm, hPh, hAt⟩, hz, hnt, hn0, few, q⟩ := h
    have hu : (A.deeper (envOfC (Str.ofString "Store._surrounded") (defScope s_Store_surrounded) s.heap.objs.size T.f_Store_surrounded cdv)).units + 1 < cLine := by
      have := hr.units
      omega
    have hP := hPh.up hide_le
    have G : ∀ (H' : Hp) (y : Pr), Same H H' → ∃ (r : Addr) (a0 a1 a2 a3 : Nat), ((if y ∈ ks then some (V.ref (at' y)) else none : Option V).getD (.ref nt)) = .ref r ∧ H' r = some (.tup [.int (a0 : Nat), .int (a1 : Nat), .int (a2 : Nat), .int (a3 : Nat)]) ∧
        sq[a0]? = some ((3 : Int), (qtG g y 0 0 : Int)) ∧ sq[a1]? = some ((3 : Int), (qtG g y 0 8 : Int)) ∧ sq[a2]? = some ((3 : Int), (qtG g y 8 0 : Int)) ∧ sq[a3]? = some ((3 : Int), (qtG g y 8 8 : Int)) := fun H' y e => by
      by_cases m : y ∈ ks
      · obtain ⟨h0, h1, h2, h3, h4⟩ := hAt y m
        exact ⟨at' y, _, _, _, _, by rw [if_pos m]; rfl, e _ _ (hide_le _ _ h0), h1, h2, h3, h4⟩
      · refine ⟨nt, n0, n0, n0, n0, by rw [if_neg m]; rfl, e _ _ hnt, ?_, ?_, ?_, ?_⟩ <;> rw [qt_zero (hz y m)] <;> exact hn0
    have s0 : Same H H := Same.refl _
    refine ⟨_, (pss_cons (ps_set (i := 5) sc_Store_surrounded.nd rfl (.inl rfl) (pe_ix (ix_tupK (K := K) rfl) (pe_dget2 hu (pv 1) (pe_tup (pa_cons (pe_op op_sub (pv 2) pe_int) (pa_cons (pe_op op_sub (pv 3) pe_int) pa_nil))) (pv 4) ⟨rfl, rfl, rfl, rfl⟩) pe_int (fun _ _ => rfl)))
      (pss_cons (ps_asg (pe_dget2 hu (pv 1) (pe_tup (pa_cons (pe_op op_sub (pv 2) pe_int) (pa_cons (pv 3) pa_nil))) (pv 4) ⟨rfl, rfl, rfl, rfl⟩) (pg_tupK (K := K) (n := 4) rfl rfl (pgs_cons (pg_name (i := 6) sc_Store_surrounded.nd rfl (.inl rfl)) (pgs_cons (pg_name (i := 6) sc_Store_surrounded.nd rfl (.inl rfl)) (pgs_cons (pg_name (i := 7) sc_Store_surrounded.nd rfl (.inl rfl)) (pgs_cons (pg_name (i := 8) sc_Store_surrounded.nd rfl (.inl rfl)) pgs_nil))))))
      (pss_cons (ps_set (i := 9) sc_Store_surrounded.nd rfl (.inl rfl) (pe_ix (ix_tupK (K := K) rfl) (pe_dget2 hu (pv 1) (pe_tup (pa_cons (pe_op op_sub (pv 2) pe_int) (pa_cons (pe_op op_add (pv 3) pe_int) pa_nil))) (pv 4) ⟨rfl, rfl, rfl, rfl⟩) pe_int (fun _ _ => rfl)))
      (pss_cons (ps_asg (pe_dget2 hu (pv 1) (pe_tup (pa_cons (pv 2) (pa_cons (pe_op op_sub (pv 3) pe_int) pa_nil))) (pv 4) ⟨rfl, rfl, rfl, rfl⟩) (pg_tupK (K := K) (n := 4) rfl rfl (pgs_cons (pg_name (i := 6) sc_Store_surrounded.nd rfl (.inl rfl)) (pgs_cons (pg_name (i := 10) sc_Store_surrounded.nd rfl (.inl rfl)) (pgs_cons (pg_name (i := 6) sc_Store_surrounded.nd rfl (.inl rfl)) (pgs_cons (pg_name (i := 11) sc_Store_surrounded.nd rfl (.inl rfl)) pgs_nil))))))
      (pss_cons (ps_asg (pe_dget2 hu (pv 1) (pe_tup (pa_cons (pv 2) (pa_cons (pv 3) pa_nil))) (pv 4) ⟨rfl, rfl, rfl, rfl⟩) (pg_tupK (K := K) (n := 4) rfl rfl (pgs_cons (pg_name (i := 12) sc_Store_surrounded.nd rfl (.inl rfl)) (pgs_cons (pg_name (i := 13) sc_Store_surrounded.nd rfl (.inl rfl)) (pgs_cons (pg_name (i := 14) sc_Store_surrounded.nd rfl (.inl rfl)) (pgs_cons (pg_name (i := 15) sc_Store_surrounded.nd rfl (.inl rfl)) pgs_nil))))))
      (pss_cons (ps_asg (pe_dget2 hu (pv 1) (pe_tup (pa_cons (pv 2) (pa_cons (pe_op op_add (pv 3) pe_int) pa_nil))) (pv 4) ⟨rfl, rfl, rfl, rfl⟩) (pg_tupK (K := K) (n := 4) rfl rfl (pgs_cons (pg_name (i := 16) sc_Store_surrounded.nd rfl (.inl rfl)) (pgs_cons (pg_name (i := 6) sc_Store_surrounded.nd rfl (.inl rfl)) (pgs_cons (pg_name (i := 17) sc_Store_surrounded.nd rfl (.inl rfl)) (pgs_cons (pg_name (i := 6) sc_Store_surrounded.nd rfl (.inl rfl)) pgs_nil))))))
      (pss_cons (ps_set (i := 18) sc_Store_surrounded.nd rfl (.inl rfl) (pe_ix (ix_tupK (K := K) rfl) (pe_dget2 hu (pv 1) (pe_tup (pa_cons (pe_op op_add (pv 2) pe_int) (pa_cons (pe_op op_sub (pv 3) pe_int) pa_nil))) (pv 4) ⟨rfl, rfl, rfl, rfl⟩) pe_int (fun _ _ => rfl)))
      (pss_cons (ps_asg (pe_dget2 hu (pv 1) (pe_tup (pa_cons (pe_op op_add (pv 2) pe_int) (pa_cons (pv 3) pa_nil))) (pv 4) ⟨rfl, rfl, rfl, rfl⟩) (pg_tupK (K := K) (n := 4) rfl rfl (pgs_cons (pg_name (i := 19) sc_Store_surrounded.nd rfl (.inl rfl)) (pgs_cons (pg_name (i := 20) sc_Store_surrounded.nd rfl (.inl rfl)) (pgs_cons (pg_name (i := 6) sc_Store_surrounded.nd rfl (.inl rfl)) (pgs_cons (pg_name (i := 6) sc_Store_surrounded.nd rfl (.inl rfl)) pgs_nil))))))
      (pss_cons (ps_set (i := 21) sc_Store_surrounded.nd rfl (.inl rfl) (pe_ix (ix_tupK (K := K) rfl) (pe_dget2 hu (pv 1) (pe_tup (pa_cons (pe_op op_add (pv 2) pe_int) (pa_cons (pe_op op_add (pv 3) pe_int) pa_nil))) (pv 4) ⟨rfl, rfl, rfl, rfl⟩) pe_int (fun _ _ => rfl)))
      (pss_one (ps_ret (pe_meth (pv 0) T.cl_Store T.m_Store_joined (ok_Store_joined T) (hr.mono (by decide)) T.b_Store_joined .nil pass0 (pa_cons (pe_meth (pv 0) T.cl_Store T.m_Store_joined (ok_Store_joined T) (hr.mono (by decide)) T.b_Store_joined .nil pass0 (pa_cons (pv 5) (pa_cons (pv 7) (pa_cons (pv 10) (pa_cons (pv 12) pa_nil))))) (pa_cons (pe_meth (pv 0) T.cl_Store T.m_Store_joined (ok_Store_joined T) (hr.mono (by decide)) T.b_Store_joined .nil pass0 (pa_cons (pv 8) (pa_cons (pv 9) (pa_cons (pv 13) (pa_cons (pv 16) pa_nil))))) (pa_cons (pe_meth (pv 0) T.cl_Store T.m_Store_joined (ok_Store_joined T) (hr.mono (by decide)) T.b_Store_joined .nil pass0 (pa_cons (pv 11) (pa_cons (pv 14) (pa_cons (pv 18) (pa_cons (pv 19) pa_nil))))) (pa_cons (pe_meth (pv 0) T.cl_Store T.m_Store_joined (ok_Store_joined T) (hr.mono (by decide)) T.b_Store_joined .nil pass0 (pa_cons (pv 15) (pa_cons (pv 17) (pa_cons (pv 20) (pa_cons (pv 21) pa_nil))))) pa_nil)))))))))))))))), ?_⟩
    k_upd
    refine ⟨_, rfl, Pa, rfl, (hP.up s0).isD, _, rfl, _, _, rfl, rfl, _, rfl, _, _, rfl, rfl, (by k_clsL), fun k1 nk1 => ?_⟩
    k_invariant "new" (nk1, H1, e1, g1)
    have s1 := s0.trans e1
    obtain ⟨r1, a10, a11, a12, a13, er1, hr1, A10, A11, A12, A13⟩ := G H1 (p.1 - 1, p.2 - 1) s1
    refine ⟨_, rfl, _, (hP.up s1).dget (x := (p.1 - 1, p.2 - 1)) g1, ?_⟩
    rw [er1]
    refine ⟨_, _, _, _, rfl, rfl, tup_of hr1, rfl, ?_⟩
    k_upd
    refine ⟨_, rfl, Pa, rfl, (hP.up s1).isD, _, rfl, _, _, rfl, rfl, _, rfl, (by k_clsL), fun k2 nk2 => ?_⟩
    k_invariant "new" (nk2, H2, e2, g2)
    have s2 := s1.trans e2
    obtain ⟨r2, a20, a21, a22, a23, er2, hr2, A20, A21, A22, A23⟩ := G H2 (p.1 - 1, p.2) s2
    refine ⟨_, rfl, _, (hP.up s2).dget (x := (p.1 - 1, p.2)) g2, ?_⟩
    rw [er2]
    refine ⟨r2, _, rfl, tup_of hr2, rfl, _, _, rfl, _, _, rfl, _, _, rfl, _, _, rfl, rfl, ?_⟩
    k_upd
    refine ⟨_, rfl, Pa, rfl, (hP.up s2).isD, _, rfl, _, _, rfl, rfl, _, rfl, _, _, rfl, rfl, (by k_clsL), fun k3 nk3 => ?_⟩
    k_invariant "new" (nk3, H3, e3, g3)
    have s3 := s2.trans e3
    obtain ⟨r3, a30, a31, a32, a33, er3, hr3, A30, A31, A32, A33⟩ := G H3 (p.1 - 1, p.2 + 1) s3
    refine ⟨_, rfl, _, (hP.up s3).dget (x := (p.1 - 1, p.2 + 1)) g3, ?_⟩
    rw [er3]
    refine ⟨_, _, _, _, rfl, rfl, tup_of hr3, rfl, ?_⟩
    k_upd
    refine ⟨_, rfl, Pa, rfl, (hP.up s3).isD, _, rfl, _, rfl, _, _, rfl, rfl, (by k_clsL), fun k4 nk4 => ?_⟩
    k_invariant "new" (nk4, H4, e4, g4)
    have s4 := s3.trans e4
    obtain ⟨r4, a40, a41, a42, a43, er4, hr4, A40, A41, A42, A43⟩ := G H4 (p.1, p.2 - 1) s4
    refine ⟨_, rfl, _, (hP.up s4).dget (x := (p.1, p.2 - 1)) g4, ?_⟩
    rw [er4]
    refine ⟨r4, _, rfl, tup_of hr4, rfl, _, _, rfl, _, _, rfl, _, _, rfl, _, _, rfl, rfl, ?_⟩
    k_upd
    refine ⟨_, rfl, Pa, rfl, (hP.up s4).isD, _, rfl, _, rfl, (by k_clsL), fun k5 nk5 => ?_⟩
    k_invariant "new" (nk5, H5, e5, g5)
    have s5 := s4.trans e5
    obtain ⟨r5, a50, a51, a52, a53, er5, hr5, A50, A51, A52, A53⟩ := G H5 p s5
    refine ⟨_, rfl, _, (hP.up s5).dget (x := p) g5, ?_⟩
    rw [er5]
    refine ⟨r5, _, rfl, tup_of hr5, rfl, _, _, rfl, _, _, rfl, _, _, rfl, _, _, rfl, rfl, ?_⟩
    k_upd
    refine ⟨_, rfl, Pa, rfl, (hP.up s5).isD, _, rfl, _, rfl, _, _, rfl, rfl, (by k_clsL), fun k6 nk6 => ?_⟩
    k_invariant "new" (nk6, H6, e6, g6)
    have s6 := s5.trans e6
    obtain ⟨r6, a60, a61, a62, a63, er6, hr6, A60, A61, A62, A63⟩ := G H6 (p.1, p.2 + 1) s6
    refine ⟨_, rfl, _, (hP.up s6).dget (x := (p.1, p.2 + 1)) g6, ?_⟩
    rw [er6]
    refine ⟨r6, _, rfl, tup_of hr6, rfl, _, _, rfl, _, _, rfl, _, _, rfl, _, _, rfl, rfl, ?_⟩
    k_upd
    refine ⟨_, rfl, Pa, rfl, (hP.up s6).isD, _, rfl, _, _, rfl, rfl, _, rfl, _, _, rfl, rfl, (by k_clsL), fun k7 nk7 => ?_⟩
    k_invariant "new" (nk7, H7, e7, g7)
    have s7 := s6.trans e7
    obtain ⟨r7, a70, a71, a72, a73, er7, hr7, A70, A71, A72, A73⟩ := G H7 (p.1 + 1, p.2 - 1) s7
    refine ⟨_, rfl, _, (hP.up s7).dget (x := (p.1 + 1, p.2 - 1)) g7, ?_⟩
    rw [er7]
    refine ⟨_, _, _, _, rfl, rfl, tup_of hr7, rfl, ?_⟩
    k_upd
    refine ⟨_, rfl, Pa, rfl, (hP.up s7).isD, _, rfl, _, _, rfl, rfl, _, rfl, (by k_clsL), fun k8 nk8 => ?_⟩
    k_invariant "new" (nk8, H8, e8, g8)
    have s8 := s7.trans e8
    obtain ⟨r8, a80, a81, a82, a83, er8, hr8, A80, A81, A82, A83⟩ := G H8 (p.1 + 1, p.2) s8
    refine ⟨_, rfl, _, (hP.up s8).dget (x := (p.1 + 1, p.2)) g8, ?_⟩
    rw [er8]
    refine ⟨r8, _, rfl, tup_of hr8, rfl, _, _, rfl, _, _, rfl, _, _, rfl, _, _, rfl, rfl, ?_⟩
    k_upd
    refine ⟨_, rfl, Pa, rfl, (hP.up s8).isD, _, rfl, _, _, rfl, rfl, _, rfl, _, _, rfl, rfl, (by k_clsL), fun k9 nk9 => ?_⟩
    k_invariant "new" (nk9, H9, e9, g9)
    have s9 := s8.trans e9
    obtain ⟨r9, a90, a91, a92, a93, er9, hr9, A90, A91, A92, A93⟩ := G H9 (p.1 + 1, p.2 + 1) s9
    refine ⟨_, rfl, _, (hP.up s9).dget (x := (p.1 + 1, p.2 + 1)) g9, ?_⟩
    rw [er9]
    refine ⟨_, _, _, _, rfl, rfl, tup_of hr9, rfl, ?_⟩
    k_upd
    have hS9 := hS.up s9
    obtain ⟨dx, ru, lg, fu, ho⟩ := hS9.obj
    refine ⟨_, rfl, S.st, _, _, rfl, ho, rfl, ?_⟩
    refine ⟨_, rfl, S.st, _, _, rfl, ho, rfl, _, rfl, _, rfl, _, rfl, _, rfl, S, sq, es, _, _, _, _, 3, _, _, _, _, rfl, hS9, by decide, by omega, A13, A22, A41, A50, fun H10 sq10 n10 g10 b10 => ?_⟩
    have l10 := g10.len
    obtain ⟨dx10, ru10, lg10, fu10, ho10⟩ := g10.st.obj
    refine ⟨_, rfl, S.st, _, _, rfl, ho10, rfl, _, rfl, _, rfl, _, rfl, _, rfl, S, sq10, es, _, _, _, _, 3, _, _, _, _, rfl, g10.st, by decide, by omega, (pre_get g10.pre A23), (pre_get g10.pre A32), (pre_get g10.pre A51), (pre_get g10.pre A60), fun H11 sq11 n11 g11 b11 => ?_⟩
    have l11 := g11.len
    obtain ⟨dx11, ru11, lg11, fu11, ho11⟩ := g11.st.obj
    refine ⟨_, rfl, S.st, _, _, rfl, ho11, rfl, _, rfl, _, rfl, _, rfl, _, rfl, S, sq11, es, _, _, _, _, 3, _, _, _, _, rfl, g11.st, by decide, by omega, (pre_get g11.pre (pre_get g10.pre A43)), (pre_get g11.pre (pre_get g10.pre A52)), (pre_get g11.pre (pre_get g10.pre A71)), (pre_get g11.pre (pre_get g10.pre A80)), fun H12 sq12 n12 g12 b12 => ?_⟩
    have l12 := g12.len
    obtain ⟨dx12, ru12, lg12, fu12, ho12⟩ := g12.st.obj
    refine ⟨_, rfl, S.st, _, _, rfl, ho12, rfl, _, rfl, _, rfl, _, rfl, _, rfl, S, sq12, es, _, _, _, _, 3, _, _, _, _, rfl, g12.st, by decide, by omega, (pre_get g12.pre (pre_get g11.pre (pre_get g10.pre A53))), (pre_get g12.pre (pre_get g11.pre (pre_get g10.pre A62))), (pre_get g12.pre (pre_get g11.pre (pre_get g10.pre A81))), (pre_get g12.pre (pre_get g11.pre (pre_get g10.pre A90))), fun H13 sq13 n13 g13 b13 => ?_⟩
    have l13 := g13.len
    obtain ⟨dx13, ru13, lg13, fu13, ho13⟩ := g13.st.obj
    refine ⟨S, sq13, es, n10, n11, n12, n13, 4, suA g p, suB g p, suC g p, suD g p, rfl, g13.st, by decide, by omega, pre_get g13.pre (pre_get g12.pre (pre_get g11.pre b10)), pre_get g13.pre (pre_get g12.pre b11), pre_get g13.pre b12, b13, fun H14 sq14 n14 g14 b14 => ?_⟩
    exact q H14 sq14 n14 ((((((Gr.refl 0 hS).same s9).trans g10).trans ((g11.trans g12).trans g13)).trans g14).more (by omega)) b14
end
end My
namespace My
open PySem PySem.Spec PyProof.Rows L2 Vx
open TL
local macro_rules | `(tactic| k_invariant "new" ($n, $H:ident, $e:ident, $h:ident)) => `(tactic| (generalize hE : upd _ _ _ = $H; obtain ⟨$e:ident, $h:ident⟩ := gen_e hE $n; clear hE))
local macro_rules | `(tactic| k_places) => `(tactic| first
  | assumption
  | exact lst_of (by assumption)
  | exact tup_of (by assumption)
  | (refine getS (by assumption) ?_; k_places)
  | (refine Same.seq (by assumption) ?_; k_places)
  | (refine tupS (by assumption) ?_; k_places)
  | (refine lst_of ?_; k_places)
  | (refine tup_of ?_; k_places))
local macro_rules | `(tactic| k_subL) => `(tactic| first
  | k_places
  | solve_by_elim (maxDepth := 10) [getS, lst_of, tup_of, Same.seq, tupS])
local macro_rules | `(tactic| k_offL) => `(tactic| first
  | (show (0 : Int) < _; first | omega | decide)
  | (refine ⟨?_, ?_⟩ <;> first | omega | decide)
  | exact .inr ⟨by decide, by decide⟩
  | exact .inl ⟨by decide, by decide⟩
  | exact .inl ⟨by omega, by omega⟩
  | omega)
local macro_rules | `(tactic| k_clsL) => `(tactic| exact Nat.le_of_ble_eq_true rfl)
local macro_rules | `(tactic| k_upd) => `(tactic| simp only [L2.start, List.map_cons, List.map_nil, List.length_cons, List.length_nil, List.replicate_succ, List.replicate_zero, List.cons_append, List.nil_append, List.set_cons_zero, List.set_cons_succ])
section
variable {P : Program} {w : World} {K : PySem.W.Frag} {mg : Str → Option Value} {base : Heap}
/-! ### the store and its futures grow -/
structure GrF (C CB CR : Addr) (A : SA) (fu : Addr) (bs ss : List Int) (B k kb : Nat) (H : Hp) (sq : List Pr) (es : Nat) (H' : Hp) (sq' : List Pr) (es' : Nat) : Prop where
  fr : ∀ a o, a ≠ fu → hide A.M H a = some o → hide A.M H' a = some o
  st : StoreIs C CB H' A sq' es'
  ft : FutAt C CB CR H' A fu bs ss (B + kb) sq'
  pre : sq <+: sq'
  len : sq'.length ≤ sq.length + k
  ge : es ≤ es'
section
variable {C CB CR : Addr} {A : SA} {fu : Addr} {bs ss : List Int} {B k kb : Nat} {H H' : Hp} {sq sq' : List Pr} {es es' : Nat}
theorem FutAt.weak {B' : Nat} (h : FutAt C CB CR H A fu bs ss B sq) (l : B ≤ B') : FutAt C CB CR H A fu bs ss B' sq := by
  obtain ⟨h1, h2, fs, g, h3, h4, h5⟩ := h
  exact ⟨h1, h2, fs, g, h3, Nat.le_trans h4 l, h5⟩
theorem FutAt.dict (h : FutAt C CB CR H A fu bs ss B sq) : ∃ kvs, H fu = some (.dT kvs) ∧ fu ∉ A.M := by
  obtain ⟨_, _, fs, g, ⟨kvs, h3, _⟩, _⟩ := h
  exact ⟨kvs, hide_le _ _ h3, fun m => by rw [hide_in m] at h3; cases h3⟩
theorem FutAt.ne {d : Addr} {o : HO} (h : FutAt C CB CR H A fu bs ss B sq) (e : H d = some o) (n : ∀ kvs, o ≠ .dT kvs) : d ≠ fu := fun z => by
  obtain ⟨kvs, h1, _⟩ := h.dict
  rw [z, h1] at e
  exact n _ (Option.some.inj e).symm
theorem FutAt.lock {d : Addr} {kvs : List (List L2.Key × V)} {o : HO} (h : FutAt C CB CR H A fu bs ss B sq) (hd : H d = some (.dT kvs)) (dM : d ∉ A.M) (ne : d ≠ fu) : FutAt C CB CR (upd H d o) A fu bs ss B sq := by
  obtain ⟨⟨dx, ru, lg, h1⟩, h2, fs, g, ⟨kv, h3, h3'⟩, h4, h5⟩ := h
  have e1 : A.st ≠ d := fun z => by
    have := hide_le _ _ h1
    rw [z, hd] at this
    cases this
  refine ⟨⟨dx, ru, lg, by rw [hide_updO dM, upd_ne e1]; exact h1⟩, BlkR.back dM h2 hd, fs, g, ⟨kv, by rw [hide_updO dM, upd_ne ne.symm]; exact h3, h3'⟩, h4, h5⟩
theorem GrF.more {k' kb' : Nat} (h : GrF C CB CR A fu bs ss B k kb H sq es H' sq' es') (l : k ≤ k') (l' : kb ≤ kb') : GrF C CB CR A fu bs ss B k' kb' H sq es H' sq' es' :=
  ⟨h.fr, h.st, h.ft.weak (by omega), h.pre, by have := h.len; omega, h.ge⟩
theorem GrF.of (g : Gr C CB A k H sq es H' sq' es') (f : FutAt C CB CR H A fu bs ss B sq) : GrF C CB CR A fu bs ss B k 0 H sq es H' sq' es' := ⟨fun a o _ e => g.fr a o e, g.st, f.gr g, g.pre, g.len, g.ge⟩
theorem GrF.gr {k' : Nat} {H'' : Hp} {sq'' : List Pr} {es'' : Nat} (h : GrF C CB CR A fu bs ss B k kb H sq es H' sq' es') (g : Gr C CB A k' H' sq' es' H'' sq'' es'') : GrF C CB CR A fu bs ss B (k + k') kb H sq es H'' sq'' es'' :=
  ⟨fun a o n e => g.fr a o (h.fr a o n e), g.st, h.ft.gr g, h.pre.trans g.pre, by have := h.len; have := g.len; omega, Nat.le_trans h.ge g.ge⟩
theorem GrF.trans {k' kb' : Nat} {H'' : Hp} {sq'' : List Pr} {es'' : Nat} (h : GrF C CB CR A fu bs ss B k kb H sq es H' sq' es') (g : GrF C CB CR A fu bs ss (B + kb) k' kb' H' sq' es' H'' sq'' es'') : GrF C CB CR A fu bs ss B (k + k') (kb + kb') H sq es H'' sq'' es'' :=
  ⟨fun a o n e => g.fr a o n (h.fr a o n e), g.st, by rw [← Nat.add_assoc]; exact g.ft, h.pre.trans g.pre, by have := h.len; have := g.len; omega, Nat.le_trans h.ge g.ge⟩
theorem GrF.same {H'' : Hp} (h : GrF C CB CR A fu bs ss B k kb H sq es H' sq' es') (e : Same H' H'') : GrF C CB CR A fu bs ss B k kb H sq es H'' sq' es' := h.gr ((Gr.refl 0 h.st).same e)
theorem GrF.keep {a : Addr} {o : HO} (h : GrF C CB CR A fu bs ss B k kb H sq es H' sq' es') (e : H a = some o) (m : a ∉ A.M) (n : a ≠ fu) : H' a = some o := by
  have := h.fr a o n (by rw [hide_out m]; exact e)
  rwa [hide_out m] at this
theorem GrF.write {d : Addr} {kvs : List (List L2.Key × V)} {o : HO} (h : GrF C CB CR A fu bs ss B k kb H sq es H' sq' es') (hd : H' d = some (.dT kvs)) (dM : d ∉ A.M) (ne : d ≠ fu) (n : H d = none) : GrF C CB CR A fu bs ss B k kb H sq es (upd H' d o) sq' es' :=
  ⟨fun a v z e => by
    rw [hide_updO dM, upd_ne fun y => by
      have := hide_le _ _ e
      rw [y, n] at this
      cases this]
    exact h.fr a v z e, h.st.lock hd (dT_kind kvs) dM, h.ft.lock hd dM ne, h.pre, h.len, h.ge⟩
end
def sp_aged (C CB CR : Addr) : Sp := fun vs H Q _ => ∃ (A : SA) (fu : Addr) (sq : List Pr) (es : Nat) (d : Addr) (ks : List Pr) (g : Pr → Nat) (B j : Nat) (bs ss : List Int), vs = [.ref A.st, .ref d, .int 4, .int (j : Int)] ∧ StoreIs C CB H A sq es ∧ 1 ≤ es ∧ es ≤ 6 ∧
  FutAt C CB CR H A fu bs ss B sq ∧ (∀ b ∈ bs, 1 ≤ b ∧ b ≤ 8) ∧ (∀ b ∈ ss, 0 ≤ b ∧ b ≤ 8) ∧ LayIs A.M H sq d 4 ks g ∧ j ≤ 3 ∧ ks.length < 20000 ∧ sq.length + (6 + 58 * ks.length) < 4000000 ∧ B + 9 * ks.length < 4000000 ∧
  ∀ (H' : Hp) (sq' : List Pr) (es' : Nat) (d' : Addr) (ks' : List Pr), GrF C CB CR A fu bs ss B (6 + 58 * ks.length) (9 * ks.length) H sq es H' sq' es' → es' ≤ 6 → H d' = none → LayIs A.M H' sq' d' 4 ks' (futG bs ss (2 ^ j) g) → ks'.length ≤ 9 * ks.length → Q (.ref d') H'
theorem ok_Store_aged (T : Txt K mg) : FnOk P w K mg base CX0 6 T.f_Store_aged T.d_Store_aged ["self", "layout", "level", "j"] (sp_aged T.C_Store T.C_Blocks T.C_Rule) := by
  refine T.F_Store_aged.ok sc_Store_aged (fun vs H Q E h => ?_) (fun cdv A outer s H vs Q E hr h => ?_)
  · obtain ⟨_, _, _, _, _, _, _, _, _, _, _, rfl, _⟩ := h
    rfl
  · obtain ⟨S, fu, sq0, es0, d, ks, g, B, j, bs, ss, rfl, hS0, es1, es6, hF0, gb1, gb2, hL0, hj, fk, few, fewB, q⟩ := h
    have hu : (A.deeper (envOfC (Str.ofString "Store.aged") (defScope s_Store_aged) s.heap.objs.size T.f_Store_aged cdv)).units + 1 < cLine := by
      have := hr.units
      omega
    refine ⟨_, (pss_cons (ps_set (i := 4) sc_Store_aged.nd rfl (.inl rfl) (pe_meth (pv 0) T.cl_Store T.m_Store_empty (ok_Store_empty T) (hr.mono (by decide)) T.b_Store_empty .nil pass0 (pa_cons (pe_op op_sub (pv 2) pe_int) pa_nil)))
      (pss_cons (ps_lock (ps_setDcT (i := 5) (own := [("place", 10), ("square", 9)]) (tt := tYes) rfl (Nat.lt_of_succ_lt hu) sc_Store_aged.nd rfl rfl (sw_dict rfl rfl rfl (by decide +kernel)) (pi_itemsT (pv 1)) (blkOk_by (own := [("place", 10), ("square", 9)]) (N := N_Store_aged) (sc := defScope s_Store_aged) (by decide +kernel)) (fun _ _ _ _ _ => (pg_tupK (K := K) (n := 2) rfl rfl (pgs_cons (pg_name (i := 10) sc_Store_aged.nd rfl (.inl rfl)) (pgs_cons (pg_name (i := 9) sc_Store_aged.nd rfl (.inl rfl)) pgs_nil)))) (fun _ _ _ _ _ => pts_nil) (fun _ _ _ _ _ => (pv 10)) (fun _ _ _ _ _ => (pe_meth (pv 0) T.cl_Store T.m_Store_parts (ok_Store_parts T) (hr.mono (by decide)) T.b_Store_parts .nil pass0 (pa_cons (pv 9) pa_nil)))))
      (pss_cons (ps_set (i := 6) sc_Store_aged.nd rfl (.inl rfl) pe_dnewT)
      (pss_cons (ps_for PassesOwn.never rfl (pi_list (pe_call (ok_with_places_around T) (hr.mono (by decide)) (by rfl) T.g_with_places_around T.F_with_places_around.kp T.b_with_places_around .nil pass0 (pa_cons (pv 1) pa_nil))) (pg_tupK (K := K) (n := 2) rfl rfl (pgs_cons (pg_name (i := 7) sc_Store_aged.nd rfl (.inl rfl)) (pgs_cons (pg_name (i := 8) sc_Store_aged.nd rfl (.inl rfl)) pgs_nil)))
      (pss_cons (ps_set (i := 9) sc_Store_aged.nd rfl (.inl rfl) (pe_meth (pv 0) T.cl_Store T.m_Store_future (ok_Store_future T) (hr.mono (by decide)) T.b_Store_future .nil pass0 (pa_cons (pe_meth (pv 0) T.cl_Store T.m_Store_surrounded (ok_Store_surrounded T) (hr.mono (by decide)) T.b_Store_surrounded .nil pass0 (pa_cons (pv 5) (pa_cons (pv 7) (pa_cons (pv 8) (pa_cons (pe_tup (pa_cons (pv 4) (pa_cons (pv 4) (pa_cons (pv 4) (pa_cons (pv 4) pa_nil))))) pa_nil))))) (pa_cons (pv 3) pa_nil))))
      (pss_one (ps_if (pt_truth (pe_ix ix_list (pe_fld (pv 0) rfl) (pv 9) (fun _ _ => rfl)) (by intro _; rfl))
      (pss_one (ps_dput hu (pv 6) (pe_tup (pa_cons (pv 7) (pa_cons (pv 8) pa_nil))) (pv 9) rfl))
      pss_nil))))
      (pss_one (ps_ret (pv 6))))))), ?_⟩
    k_upd
    obtain ⟨dx, ru, lg, fuu, ho⟩ := hS0.obj
    refine ⟨_, rfl, S.st, _, _, rfl, ho, rfl, _, rfl, _, _, rfl, rfl, ?_⟩
    refine ⟨S, sq0, es0, 3, rfl, hS0, es1, es6, by decide, by omega, fun H1 sq es n0 gr1 ees6 hn0 => ?_⟩
    have hS := gr1.st
    have hL := hL0.gr gr1
    have len1 := gr1.len
    have ge1 := gr1.ge
    obtain ⟨⟨fn, hD, hn⟩, pos⟩ := id hL
    k_upd
    obtain ⟨kvs, hdh, hm⟩ := id hD
    have dM : d ∉ S.M := fun m => by rw [hide_in m] at hdh; cases hdh
    have hd : H1 d = some (.dT kvs) := hide_le _ _ hdh
    refine ⟨d, _, hd, trivial, fun od => ⟨_, rfl, d, od, kvs, rfl, upd_same, fun D nD => ?_⟩⟩
    obtain ⟨Hb, hHb⟩ : ∃ Hb, Hb = upd H1 d (.frz od (.dT kvs)) := ⟨_, rfl⟩
    rw [← hHb] at nD
    have hSb : StoreIs T.C_Store T.C_Blocks Hb S sq es := by rw [hHb]; exact hS.lock hd (dT_kind kvs) dM
    have gb : Hb d = some (.frz od (.dT kvs)) := by rw [hHb, upd_same]
    have DM := hSb.off nD
    have nek : D ≠ d := fun e => by rw [e, gb] at nD; cases nD
    have nD1 : H1 D = none := by rw [hHb, upd_ne nek] at nD; exact nD
    rw [← hHb]
    refine dcT_it walk_itemsT (fun i H' => ∃ (sq' : List Pr) (at' : Pr → Addr) (m : Pr → Nat → Nat), Gr T.C_Store T.C_Blocks S (4 * i) Hb sq es H' sq' es ∧ H' d = some (.frz od (.dT kvs)) ∧ Dct H' D (ks.take i) (fun p => .ref (at' p)) ∧
        ∀ p ∈ ks.take i, at' p ∉ S.M ∧ at' p ≠ d ∧ H' (at' p) = some (.tup [.int (m p 0 : Nat), .int (m p 1 : Nat), .int (m p 2 : Nat), .int (m p 3 : Nat)]) ∧
          sq'[m p 0]? = some ((3 : Int), (qtG g p 0 0 : Int)) ∧ sq'[m p 1]? = some ((3 : Int), (qtG g p 0 8 : Int)) ∧ sq'[m p 2]? = some ((3 : Int), (qtG g p 8 0 : Int)) ∧ sq'[m p 3]? = some ((3 : Int), (qtG g p 8 8 : Int)))
      ⟨sq, fun _ => 0, fun _ _ => 0, (Gr.refl _ hSb).same (newS nD), by rw [upd_ne nek.symm]; exact gb, Dct.new _ upd_same, fun _ m => (by rw [List.take_zero] at m; cases m)⟩ (fun i H' _ p => p.choose_spec.choose_spec.choose_spec.2.1) ?_ ?_
    · rintro i x H2 H3 hi ⟨sq', at', m, hg, hfz, hDD, hat⟩ ⟨tt, ky, v, q0, e, rfl, hq0, nt, rfl⟩
      obtain ⟨z, hz, rfl, rfl⟩ := hm.at e
      have zk := List.mem_of_getElem? hz
      have li : i < ks.length := (List.getElem?_eq_some_iff.mp hz).1
      have zn := nodup_next hm.2 hz
      k_invariant "new" (nt, H3, e3, g3)
      have hg3 := hg.same e3
      have lg3 := hg3.len
      obtain ⟨dx3, ru3, lg3', fu3, ho3⟩ := hg3.st.obj
      refine ⟨tt, _, rfl, tup_of g3, rfl, _, _, rfl, _, _, rfl, rfl, wipe2 _ 10 9 _ _, tyesT ⟨_, rfl, _, rfl, S.st, _, _, rfl, ho3, rfl, _, rfl, ?_⟩⟩
      refine ⟨S, sq', es, fn z, 3, g z, rfl, hg3.st, by decide, by omega, pre_get hg3.pre (hn z zk), fun H4 sq4 p m4 g4 np hp em => ?_⟩
      obtain ⟨m0, m1, m2, m3, em', a0, a1, a2, a3⟩ := four_of em
      subst em'
      have pM := hg3.st.off np
      have npD : p ≠ D := fun e => by
        obtain ⟨kv, y, _⟩ := hDD.up e3
        rw [e, y] at np
        cases np
      have npd : p ≠ d := fun e => by
        rw [e, e3 _ _ hfz] at np
        cases np
      have fresh : ∀ {a : Addr} {o : HO}, H3 a = some o → a ∉ S.M → H4 a = some o := fun h m => gr_fresh g4 h m
      obtain ⟨kv2, y1, y2⟩ := hDD.up e3
      have y1' := fresh y1 DM
      refine ⟨kv2, keyP z, q0, rfl, fresh (e3 _ _ hq0) (hg3.st.outT (e3 _ _ hq0)), y1', by rw [y2.len, List.length_take, sizeLine_eq]; omega, ?_⟩
      have y3 := y2.put z (.ref p)
      rw [addK_new zn, ← take_next hz] at y3
      refine ⟨sq4, fun y => if y = z then p else at' y, fun y => if y = z then (fun k => if k = 0 then m0 else if k = 1 then m1 else if k = 2 then m2 else m3) else m y, ((hg3.trans g4).more (by omega)).loc hSb nD, by rw [upd_ne nek.symm]; exact fresh (e3 _ _ hfz) dM, ⟨_, upd_same, y3.congr fun y m => ?_⟩, fun y my => ?_⟩
      · unfold setG
        dsimp only
        by_cases c : y = z
        · rw [if_pos c, if_pos c]
        · rw [if_neg c, if_neg c]
      · dsimp only
        by_cases c : y = z
        · rw [if_pos c, if_pos c, c]
          exact ⟨pM, npd, by rw [upd_ne npD]; exact hp, a0, a1, a2, a3⟩
        · rw [if_neg c, if_neg c]
          rw [take_next hz] at my
          obtain ⟨b1, b2, b3, b4, b5, b6, b7⟩ := hat y ((List.mem_append.mp my).resolve_right fun k => c (List.mem_singleton.mp k))
          have nyD : at' y ≠ D := fun e => by
            obtain ⟨kv, w, _⟩ := hDD
            rw [e, w] at b3
            cases b3
          exact ⟨b1, b2, by rw [upd_ne nyD]; exact fresh (e3 _ _ b3) b1, pre_get g4.pre b4, pre_get g4.pre b5, pre_get g4.pre b6, pre_get g4.pre b7⟩
    · rintro H2 ⟨sq2, at', m, hg, hfz, hDD, hat⟩
      rw [hm.len] at hg hDD hat
      rw [List.take_length] at hDD hat
      k_upd
      refine ⟨hfz, ?_⟩
      rw [hHb] at hg
      have hgu := hg.unlock hS hd (dT_kind kvs) dM
      have hPA : PartsAt S.M (upd H2 d (.dT kvs)) sq2 D ks g := by
        obtain ⟨kv, w1, w2⟩ := hDD
        refine ⟨at', m, ⟨kv, by rw [hide_out DM, upd_ne nek]; exact w1, w2⟩, fun p mp => ?_⟩
        obtain ⟨b1, b2, b3, b4⟩ := hat p mp
        exact ⟨by rw [hide_out b1, upd_ne b2]; exact b3, b4⟩
      have hd2 : upd H2 d (.dT kvs) d = some (.dT kvs) := upd_same
      clear hfz hg hat hDD
      generalize upd H2 d (.dT kvs) = H3 at hgu hPA hd2 ⊢
      have gr3 := gr1.trans hgu
      have len3 := gr3.len
      refine fun D2 nD2 => ?_
      k_invariant "new" (nD2, H4, e4, g4)
      k_upd
      have gr4 := gr3.same e4
      have hPA4 := hPA.gr ((Gr.refl 0 hgu.st).same e4)
      have D2M := gr3.st.off nD2
      have hnz : ∀ y, y ∉ ks → g y = 0 := fun y m => Classical.not_not.mp fun z => m ((pos y).mpr z)
      have hgF := GrF.of gr4 hF0
      have nD20 : H D2 = none := by
        cases h : H D2 with
        | none => rfl
        | some o =>
          have := gr_fresh gr3 h D2M
          rw [this] at nD2
          cases nD2
      obtain ⟨kfu, hfu, fuM⟩ := hF0.dict
      have nD2f : D2 ≠ fu := fun e => by rw [e, hfu] at nD20; cases nD20
      have hn04 := pre_get hgu.pre hn0
      have nDf : D ≠ fu := fun e => by
        have := gr_fresh gr1 hfu fuM
        rw [← e, nD1] at this
        cases this
      refine ⟨_, rfl, d, ks, _, rfl, ⟨kvs, e4 _ _ hd2, hm⟩, by omega, fun H5 lq qs e5 nlq hC qnd hmem lqs => ?_⟩
      have gF5 := hgF.same e5
      have hPA5 := hPA4.gr ((Gr.refl 0 gr4.st).same e5)
      obtain ⟨ts, hl, ht, ets⟩ := id hC
      have lqM := gr4.st.off nlq
      have lts : ts.length = qs.length := by rw [← ets, List.length_map]
      have lqf : lq ≠ fu := gF5.ft.ne hl (fun _ z => by cases z)
      have htM : ∀ t ∈ ts, t.1 ∉ S.M ∧ t.1 ≠ fu := fun t m => ⟨gF5.st.outT (ht t m), gF5.ft.ne (ht t m) (fun _ z => by cases z)⟩
      refine ⟨lq, rfl, ⟨_, lst_of hl⟩, ?_⟩
      refine for_list (K := K) (a := lq) (xs := ts.map fun t => V.ref t.1) (fun i σ H' => ∃ sq' : List Pr, GrF T.C_Store T.C_Blocks T.C_Rule S fu bs ss B (6 + 4 * ks.length + 6 * i) i H sq0 es0 H' sq' es ∧ (∃ x7 x8 x9 : Option V, σ = [some (.ref S.st), some (.ref d), some (.int 4), some (.int (j : Int)), some (.int (n0 : Int)), some (.ref D), some (.ref D2), x7, x8, x9, none]) ∧
          H' lq = some (.lst (ts.map fun t => V.ref t.1)) ∧ (∀ t ∈ ts, H' t.1 = some (.tup [.int t.2.1, .int t.2.2])) ∧ PartsAt S.M H' sq' D ks g ∧ sq'[n0]? = some ((3 : Int), (0 : Int)) ∧
          ∃ (ls : List Pr) (f : Pr → Nat), Dct H' D2 ls (fun p => .int (f p : Nat)) ∧ (∀ p ∈ ls, sq'[f p]? = some ((4 : Int), (futG bs ss (2 ^ j) g p : Int))) ∧ (∀ p, p ∈ ls ↔ p ∈ qs.take i ∧ futG bs ss (2 ^ j) g p ≠ 0) ∧ ls.length ≤ i)
        ⟨sq2, gF5.more (by omega) (by omega), ⟨_, _, _, rfl⟩, hl, ht, hPA5, hn04, [], fun _ => 0, Dct.new _ (e5 _ _ g4), fun _ m => (by cases m), fun p => ⟨fun m => (by cases m), fun h => by
          have := h.1
          rw [List.take_zero] at this
          cases this⟩, Nat.le_refl _⟩ (fun i σ H' _ p => lst_of p.choose_spec.2.2.1) ?_ ?_
      · rintro i x σ H6 hi ⟨sq', hg6, ⟨x7, x8, x9, rfl⟩, hl6, ht6, hP6, hn6, ls, f, hLs, hsq, hmm, lls⟩
        obtain ⟨t, mt, rfl, hx'⟩ := item_cells (H := H6) hi rfl
        rw [ets] at hx'
        obtain ⟨y, ey⟩ : ∃ y, y = t.2 := ⟨_, rfl⟩
        rw [← ey] at hx'
        have hx := hx'
        have li : i < qs.length := (List.getElem?_eq_some_iff.mp hx).1
        have yn := nodup_next qnd hx
        have htt : H6 t.1 = some (.tup [.int y.1, .int y.2]) := by rw [ey]; exact ht6 t mt
        have lg6 := hg6.len
        refine ⟨t.1, _, rfl, tup_of htt, rfl, _, _, rfl, _, _, rfl, rfl, ?_⟩
        k_upd
        obtain ⟨dx6, ru6, lg6', fu6, ho6⟩ := hg6.st.obj
        refine ⟨_, rfl, S.st, _, _, rfl, ho6, rfl, _, rfl, S.st, _, _, rfl, ho6, rfl, _, rfl, _, rfl, _, rfl, _, rfl, _, rfl, _, rfl, _, rfl, (by k_clsL), fun nt nnt => ?_⟩
        k_invariant "new" (nnt, H7, e7, g7)
        have hg7 := hg6.same e7
        refine ⟨S, sq', es, D, nt, n0, y, ks, g, rfl, hg7.st, hP6.gr ((Gr.refl 0 hg6.st).same e7), hnz, g7, hn6, by omega, fun H8 sq8 n8 g8 e8 => ?_⟩
        have hg8 := hg7.gr g8
        have lg8 := g8.len
        refine ⟨_, rfl, ?_⟩
        refine ⟨S, fu, sq8, es, n8, 3, surG g y, j, B + i, bs, ss, rfl, hg8.st, hg8.ft, by omega, gb1, gb2, e8, by decide, hj, by omega, fun H9 sq9 m9 fr9 st9 ft9 pre9 len9 en9 => ?_⟩
        have hg9 : GrF T.C_Store T.C_Blocks T.C_Rule S fu bs ss B (6 + 4 * ks.length + 6 * (i + 1)) (i + 1) H sq0 es0 H9 sq9 es :=
          ⟨fun a o n e => fr9 a o n (hg8.fr a o n e), st9, ft9, hg8.pre.trans pre9, by have := hg8.len; omega, hg8.ge⟩
        have h69 : ∀ {a : Addr} {o : HO}, H6 a = some o → a ∉ S.M → a ≠ fu → H9 a = some o := fun {a o} h m n => by
          have h8 := gr_fresh g8 (e7 _ _ h) m
          have := fr9 a o n (by rw [hide_out m]; exact h8)
          rwa [hide_out m] at this
        have en9 : sq9[m9]? = some ((4 : Int), (futG bs ss (2 ^ j) g y : Int)) := en9
        have hfit : Fit 4 (futG bs ss (2 ^ j) g y) := cut_fit (by decide)
        have hP9 : PartsAt S.M H9 sq9 D ks g := (hP6.gr (((Gr.refl 0 hg6.st).same e7).trans g8)).fr (fun a o _ e k => fr9 a o (by
          rcases k with k | ⟨xs, k⟩
          · rw [k]
            exact nDf
          · exact hg8.ft.ne (hide_le _ _ e) (fun _ z => by rw [k] at z; cases z)) e) pre9
        have hn9 := pre_get pre9 (pre_get g8.pre hn6)
        obtain ⟨kl, kl1, kl2⟩ := id hLs
        have hLs9 : Dct H9 D2 ls (fun p => .int (f p : Nat)) := ⟨kl, h69 kl1 D2M nD2f, kl2⟩
        have hsq9 : ∀ p ∈ ls, sq9[f p]? = some ((4 : Int), (futG bs ss (2 ^ j) g p : Int)) := fun p m => pre_get pre9 (pre_get g8.pre (hsq p m))
        have hl9 := h69 hl6 lqM lqf
        have ht9 : ∀ t ∈ ts, H9 t.1 = some (.tup [.int t.2.1, .int t.2.2]) := fun t m => h69 (ht6 t m) (htM t m).1 (htM t m).2
        obtain ⟨dx9, ru9, lg9', fu9, ho9⟩ := hg9.st.obj
        k_upd
        by_cases c0 : futG bs ss (2 ^ j) g y = 0
        · have pop : popN ((futG bs ss (2 ^ j) g y : Nat) : Int).toNat = 0 := (pop_zero (l := 4) (by decide) hfit).mpr c0
          refine ⟨_, rfl, S.st, _, _, _, _, rfl, ho9, T.cl_Store, T.na_Store__counts, rfl, _, rfl, _, _, _, _, rfl, rfl, lst_of hg9.st.ct, ct_at en9, _, tru0 pop, iteF ?_⟩
          refine ⟨sq9, hg9, ⟨_, _, _, rfl⟩, hl9, ht9, hP9, hn9, ls, f, hLs9, hsq9, fun p => (hmm p).trans ?_, by omega⟩
          rw [take_next hx, List.mem_append, List.mem_singleton]
          exact ⟨fun h => ⟨.inl h.1, h.2⟩, fun h => ⟨h.1.elim id fun e => absurd (by rw [e]; exact c0) h.2, h.2⟩⟩
        · have pop : popN ((futG bs ss (2 ^ j) g y : Nat) : Int).toNat ≠ 0 := fun z => c0 ((pop_zero (l := 4) (by decide) hfit).mp z)
          refine ⟨_, rfl, S.st, _, _, _, _, rfl, ho9, T.cl_Store, T.na_Store__counts, rfl, _, rfl, _, _, _, _, rfl, rfl, lst_of hg9.st.ct, ct_at en9, _, tru1 pop, iteT ?_⟩
          refine ⟨_, rfl, _, rfl, _, rfl, _, rfl, (by k_clsL), fun pk npk => ?_⟩
          k_invariant "new" (npk, H10, e10, g10)
          have hg10 := hg9.same e10
          obtain ⟨H11, dp, pa⟩ := (hLs9.up e10).dput (x := y) (by rw [sizeLine_eq]; omega) g10 (.int (m9 : Int))
          obtain ⟨o11, e11⟩ := putAt_upd pa
          obtain ⟨kv10, w10, _⟩ := hLs9.up e10
          have off : ∀ {a : Addr} {o : HO}, H9 a = some o → (∀ kvs, o ≠ .dT kvs) → H11 a = some o := fun {a o} h n => by
            rw [pa.2 _ fun e => ?_]
            · exact e10 _ _ h
            · rw [e] at h
              rw [e10 _ _ h] at w10
              exact n _ (Option.some.inj w10)
          refine ⟨D2, H11, rfl, dp, sq9, by rw [e11]; exact hg10.write w10 D2M nD2f nD20, ⟨_, _, _, rfl⟩, off hl9 (fun _ z => by cases z), fun t m => off (ht9 t m) (fun _ z => by cases z), ?_, hn9, addK ls y, fun p => if p = y then m9 else f p, pa.1.congr fun p _ => ?_, fun p m => ?_, fun p => ?_, ?_⟩
          · refine (hP9.gr ((Gr.refl 0 hg9.st).same e10)).fr (fun a o _ e k => ?_) List.prefix_rfl
            rw [e11, hide_updO D2M, upd_ne fun z => ?_]
            · exact e
            · rcases k with k | ⟨xs, k⟩
              · rw [k] at z
                have z2 : H3 D = none := by rw [z]; exact nD2
                obtain ⟨_, _, ⟨kv, w, _⟩, _⟩ := hPA
                have := hide_le _ _ w
                rw [z2] at this
                cases this
              · have := hide_le _ _ e
                rw [z, w10, k] at this
                cases this
          · unfold setG
            dsimp only
            by_cases c : p = y
            · rw [if_pos c, if_pos c]
            · rw [if_neg c, if_neg c]
          · dsimp only
            by_cases c : p = y
            · rw [if_pos c, c]
              exact en9
            · rw [if_neg c]
              exact hsq9 p ((mem_addK.mp m).resolve_right c)
          · rw [mem_addK, hmm, take_next hx, List.mem_append, List.mem_singleton]
            constructor
            · rintro (h | h)
              · exact ⟨.inl h.1, h.2⟩
              · exact ⟨.inr h, by rw [h]; exact c0⟩
            · rintro ⟨h | h, h2⟩
              · exact .inl ⟨h, h2⟩
              · exact .inr h
          · have := addK_len ls y
            omega
      · rintro σ H6 ⟨sq', hg6, ⟨x7, x8, x9, rfl⟩, hl6, ht6, hP6, hn6, ls, f, hLs, hsq, hmm, lls⟩
        rw [List.length_map, lts] at hg6 hmm lls
        rw [List.take_length] at hmm
        refine ⟨_, rfl, q H6 sq' es D2 ls (hg6.more (by omega) (by omega)) ees6 nD20 ⟨⟨f, ?_, hsq⟩, fun p => (hmm p).trans ⟨fun h => h.2, fun h => ⟨?_, h⟩⟩⟩ (by omega)⟩
        · obtain ⟨kv, w1, w2⟩ := hLs
          exact ⟨kv, by rw [hide_out D2M]; exact w1, w2⟩
        · refine Classical.byContradiction fun no => h (fut_zero gb1 gb2 ?_ fun y a1 a2 a3 a4 => ?_)
          · exact Nat.le_trans (Nat.pow_le_pow_right (by decide) hj) (by decide)
          · refine hnz y fun m => no ((hmem p).mpr ⟨y, m, ?_⟩)
            unfold nearP
            omega
end
end My
namespace My
open PySem PySem.Spec PyProof.Rows L2 Vx
open TL
local macro_rules | `(tactic| k_invariant "new" ($n, $H:ident, $e:ident, $h:ident)) => `(tactic| (generalize hE : upd _ _ _ = $H; obtain ⟨$e:ident, $h:ident⟩ := gen_e hE $n; clear hE))
local macro_rules | `(tactic| k_places) => `(tactic| first
  | assumption
  | exact lst_of (by assumption)
  | exact tup_of (by assumption)
  | (refine getS (by assumption) ?_; k_places)
  | (refine Same.seq (by assumption) ?_; k_places)
  | (refine tupS (by assumption) ?_; k_places)
  | (refine lst_of ?_; k_places)
  | (refine tup_of ?_; k_places))
local macro_rules | `(tactic| k_subL) => `(tactic| first
  | k_places
  | solve_by_elim (maxDepth := 10) [getS, lst_of, tup_of, Same.seq, tupS])
local macro_rules | `(tactic| k_offL) => `(tactic| first
  | (show (0 : Int) < _; first | omega | decide)
  | (refine ⟨?_, ?_⟩ <;> first | omega | decide)
  | exact .inr ⟨by decide, by decide⟩
  | exact .inl ⟨by decide, by decide⟩
  | exact .inl ⟨by omega, by omega⟩
  | omega)
local macro_rules | `(tactic| k_clsL) => `(tactic| exact Nat.le_of_ble_eq_true rfl)
local macro_rules | `(tactic| k_upd) => `(tactic| simp only [L2.start, List.map_cons, List.map_nil, List.length_cons, List.length_nil, List.replicate_succ, List.replicate_zero, List.cons_append, List.nil_append, List.set_cons_zero, List.set_cons_succ])
section
variable {P : Program} {w : World} {K : PySem.W.Frag} {mg : Str → Option Value} {base : Heap}
/-! ### a world -/
def wf (gen : Int) (ru S D : Addr) : List (Str × V) := putF "_living" (.ref D) (putF "_store" (.ref S) (putF "_rule" (.ref ru) (putF "generation" (.int gen) [])))
def WAt (C : Addr) (H : Hp) (W : Addr) (gen : Int) (ru S D : Addr) : Prop := ∃ dx, H W = some (.ins C dx (wf gen ru S D))
theorem WAt.up {C W ru S D : Addr} {gen : Int} {H H' : Hp} (h : WAt C H W gen ru S D) (e : Same H H') : WAt C H' W gen ru S D := by
  obtain ⟨dx, h⟩ := h
  exact ⟨dx, e _ _ h⟩
/-- all but one address stays -/
def Sb (D : Addr) (H H' : Hp) : Prop := ∀ b o, b ≠ D → H b = some o → H' b = some o
theorem Sb.of {D : Addr} {H H' : Hp} (e : Same H H') : Sb D H H' := fun b o _ h => e b o h
theorem Sb.trans {D : Addr} {H H1 H2 : Hp} (h : Sb D H H1) (k : Sb D H1 H2) : Sb D H H2 := fun b o n e => k b o n (h b o n e)
theorem Sb.same {D : Addr} {H0 H H' : Hp} (e : Same H0 H) (h : Sb D H H') (n : H0 D = none) : Same H0 H' := fun b o z => h b o (fun y => by rw [y, n] at z; cases z) (e b o z)
theorem LivIs.sb {H H' : Hp} {D X : Addr} {ks : List Pr} {g : Pr → Nat} (h : LivIs H D ks g) (e : Sb X H H') (n : D ≠ X) : LivIs H' D ks g := by
  obtain ⟨⟨kvs, h1, h2⟩, h3, h4⟩ := h
  exact ⟨⟨kvs, e _ _ n h1, h2⟩, h3, h4⟩
theorem WAt.sb {C W X ru S D : Addr} {gen : Int} {H H' : Hp} (h : WAt C H W gen ru S D) (e : Sb X H H') (n : W ≠ X) : WAt C H' W gen ru S D := by
  obtain ⟨dx, h⟩ := h
  exact ⟨dx, e _ _ n h⟩
theorem Cells.sb {H H' : Hp} {l X : Addr} {ps : List Pr} {kvs : List (List L2.Key × V)} (h : Cells H l ps) (hX : H X = some (.dT kvs)) (e : Sb X H H') : Cells H' l ps := by
  obtain ⟨ts, h1, h2, h3⟩ := h
  refine ⟨ts, e _ _ (fun z => by rw [z, hX] at h1; cases h1) h1, fun t m => e _ _ (fun z => by
    have := h2 t m
    rw [z, hX] at this
    cases this) (h2 t m), h3⟩
theorem LivIs.put {H H' : Hp} {D : Addr} {ks : List Pr} {g : Pr → Nat} {p : Pr} {n : Nat} (h : LivIs H D ks g) (n0 : n ≠ 0) (nl : n < 2 ^ 1024) (pa : PutAt H D ks (fun p => .int (g p : Nat)) p (.int (n : Nat)) H') :
    LivIs H' D (addK ks p) (fun y => if y = p then n else g y) := by
  refine ⟨pa.1.congr fun y _ => ?_, fun y => ?_, fun y => ?_⟩
  · unfold setG
    by_cases c : y = p
    · rw [if_pos c, if_pos c]
    · rw [if_neg c, if_neg c]
  · rw [addK_mem]
    by_cases c : y = p
    · rw [if_pos c]
      exact ⟨fun _ => n0, fun _ => .inr c⟩
    · rw [if_neg c]
      exact ⟨fun m => (h.pos y).mp (m.resolve_right c), fun z => .inl ((h.pos y).mpr z)⟩
  · show (if y = p then n else g y) < _
    by_cases c : y = p
    · rw [if_pos c]
      exact nl
    · rw [if_neg c]
      exact h.lt y
theorem LivIs.drop {H : Hp} {D : Addr} {ks : List Pr} {g : Pr → Nat} {kvs : List (List L2.Key × V)} (h : LivIs H D ks g) (hm : MapP kvs ks (fun p => .int (g p : Nat))) (p : Pr) :
    LivIs (upd H D (.dT (dropK kvs (keyP p)))) D (ks.filter fun y => decide (y ≠ p)) (fun y => if y = p then 0 else g y) := by
  refine ⟨⟨_, upd_same, (hm.drop p).congr fun y m => ?_⟩, fun y => ?_, fun y => ?_⟩
  · have c : ¬ y = p := of_decide_eq_true (List.mem_filter.mp m).2
    show V.int ((g y : Nat) : Int) = V.int (((if y = p then 0 else g y : Nat)) : Int)
    rw [if_neg c]
  · rw [List.mem_filter, decide_eq_true_eq]
    by_cases c : y = p
    · rw [if_pos c]
      exact ⟨fun m => absurd c m.2, fun z => absurd rfl z⟩
    · rw [if_neg c]
      exact ⟨fun m => (h.pos y).mp m.1, fun z => ⟨(h.pos y).mpr z, c⟩⟩
  · show (if y = p then 0 else g y) < _
    by_cases c : y = p
    · rw [if_pos c]
      exact Nat.two_pow_pos 1024
    · rw [if_neg c]
      exact h.lt y
theorem LivIs.gone {H : Hp} {D : Addr} {ks : List Pr} {g : Pr → Nat} (h : LivIs H D ks g) {p : Pr} (n : p ∉ ks) : LivIs H D ks (fun y => if y = p then 0 else g y) := by
  have e : (fun y => if y = p then 0 else g y) = g := funext fun y => by
    by_cases c : y = p
    · rw [if_pos c, c]
      exact (Classical.not_not.mp fun z => n ((h.pos p).mpr z)).symm
    · rw [if_neg c]
  rw [e]
  exact h
theorem LivIs.getD {H : Hp} {D : Addr} {ks : List Pr} {g : Pr → Nat} (h : LivIs H D ks g) (p : Pr) : (if p ∈ ks then some (V.int (g p : Nat)) else none : Option V).getD (.int 0) = .int (g p : Nat) := by
  by_cases m : p ∈ ks
  · rw [if_pos m]
    rfl
  · rw [if_neg m]
    have : g p = 0 := Classical.not_not.mp fun z => m ((h.pos p).mpr z)
    rw [this]
    rfl
def sp_World_paste (C : Addr) : Sp := fun vs H Q _ => ∃ (W ru S D l : Addr) (gen : Int) (ks : List Pr) (g : Pr → Nat) (ps : List Pr) (r c : Int) (m : Nat), m < 3 ∧ vs = [.ref W, .ref l, .int r, .int c, .str (modeS m)] ∧ WAt C H W gen ru S D ∧ LivIs H D ks g ∧
  W ≠ D ∧ ks.length < 100000 ∧ Cells H l ps ∧ ps.length < 1000 ∧ ∀ (H' : Hp) (ks' : List Pr) (g' : Pr → Nat), Sb D H H' → LivIs H' D ks' g' → ks'.length ≤ ks.length + ps.length → (∀ x, inB g' x = chgB m (inB g x) (decide (x ∈ ps.map fun y => (y.1 + r, y.2 + c)))) → Q .non H'
theorem ok_World_paste (T : Txt K mg) : FnOk P w K mg base CX0 3 T.f_World_paste T.d_World_paste ["self", "cells", "row", "column", "mode"] (sp_World_paste T.C_World) := by
  refine T.F_World_paste.ok sc_World_paste (fun vs H Q E h => ?_) (fun cdv A outer s H vs Q E hr h => ?_)
  · obtain ⟨_, _, _, _, _, _, _, _, _, _, _, _, _, rfl, _⟩ := h
    rfl
  · obtain ⟨W, ru, S, D, l, gen, ks, g, ps, r, c, m, m3, rfl, hW, hL, nWD, fk, hC, few, q⟩ := h
    have hu : (A.deeper (envOfC (Str.ofString "World.paste") (defScope s_World_paste) s.heap.objs.size T.f_World_paste cdv)).units + 1 < cLine := by
      have := hr.units
      omega
    refine ⟨_, (pss_cons (ps_set (i := 5) sc_World_paste.nd rfl (.inl rfl) (pe_call (ok_blocks_of T) (hr.mono (by decide)) (by rfl) T.g_blocks_of T.F_blocks_of.kp T.b_blocks_of .nil pass0 (pa_cons (pe_lc (own := [("down", 9), ("beside", 10)]) (tt := tYes) rfl sc_World_paste.nd (pi_list (pv 1)) (blkOk_by (own := [("down", 9), ("beside", 10)]) (N := N_World_paste) (sc := defScope s_World_paste) (by decide +kernel)) (fun _ _ _ _ _ => (pg_tupK (K := K) (n := 2) rfl rfl (pgs_cons (pg_name (i := 9) sc_World_paste.nd rfl (.inl rfl)) (pgs_cons (pg_name (i := 10) sc_World_paste.nd rfl (.inl rfl)) pgs_nil)))) (fun _ _ _ _ _ => pts_nil) (fun _ _ _ _ _ => (pe_tup (pa_cons (pe_op op_add (pv 9) (pv 2)) (pa_cons (pe_op op_add (pv 10) (pv 3)) pa_nil))))) pa_nil)))
      (pss_one (ps_lock (ps_for PassesOwn.never rfl (pi_itemsT (pv 5)) (pg_tupK (K := K) (n := 2) rfl rfl (pgs_cons (pg_name (i := 6) sc_World_paste.nd rfl (.inl rfl)) (pgs_cons (pg_name (i := 7) sc_World_paste.nd rfl (.inl rfl)) pgs_nil)))
      (pss_cons (ps_set (i := 8) sc_World_paste.nd rfl (.inl rfl) (pe_call (ok_block_changed T) (hr.mono (by decide)) (by rfl) T.g_block_changed T.F_block_changed.kp T.b_block_changed .nil pass0 (pa_cons (pe_dget2 hu (pe_fld (pv 0) rfl) (pv 6) pe_int ⟨rfl, rfl, rfl, rfl⟩) (pa_cons (pv 7) (pa_cons (pv 4) pa_nil)))))
      (pss_one (ps_if (pt_truth (pv 8) (by intro _; rfl))
      (pss_one (ps_dput hu (pe_fld (pv 0) rfl) (pv 6) (pv 8) rfl))
      (pss_one (ps_expr (pe_bm PySem.F.plainAttrs_dict PySem.F.slot_dict_pop PySem.F.type_dict_pop (L2.DX.mt_popT hu) (pe_fld (pv 0) rfl) (pa_cons (pv 6) (pa_cons pe_non pa_nil)))))))))))), ?_⟩
    k_upd
    obtain ⟨ts, hl, ht, ets⟩ := id hC
    refine ⟨_, rfl, _, rfl, ⟨_, lst_of hl⟩, fun D1 nD1 => lc_cells (fun y => (y.1 + r, y.2 + c)) hC nD1 (by rw [sizeLine_eq]; omega) (fun t x H' Po Pn _ ht hq => ?_) fun H1 e1 h1 => ?_⟩
    · exact ⟨t, _, rfl, tup_of ht, rfl, _, _, rfl, _, _, rfl, rfl, rfl, tyesT ⟨_, rfl, _, rfl, _, _, rfl, rfl, _, rfl, _, rfl, _, _, rfl, rfl, (by k_clsL), fun t2 n2 => hq t2 n2⟩⟩
    obtain ⟨qs, eqs⟩ : ∃ qs, qs = ps.map fun y => (y.1 + r, y.2 + c) := ⟨_, rfl⟩
    rw [← eqs] at h1
    have lqs : qs.length = ps.length := by rw [eqs, List.length_map]
    refine ⟨_, qs, rfl, h1, by omega, fun H2 d nd e2 hB => ?_⟩
    k_upd
    have hW2 := (hW.up e1).up e2
    have hL2 := (hL.up e1).up e2
    obtain ⟨dx, ho⟩ := hW2
    obtain ⟨kvs, hd, hm⟩ := id hB
    have s2 : Same H H2 := e1.trans e2
    have ndH : H d = none := backS e1 nd
    have nDd : D ≠ d := fun e => by
      obtain ⟨kv, z, _⟩ := hL.dct
      rw [e, ndH] at z
      cases z
    have nWd : W ≠ d := fun e => by rw [e, hd] at ho; cases ho
    refine ⟨d, _, hd, trivial, fun od => ⟨_, rfl, d, od, kvs, rfl, upd_same, ?_⟩⟩
    obtain ⟨Hf, hHf⟩ : ∃ Hf, Hf = upd H2 d (.frz od (.dT kvs)) := ⟨_, rfl⟩
    rw [← hHf]
    have gf : Hf d = some (.frz od (.dT kvs)) := by rw [hHf, upd_same]
    have hof : Hf W = some (.ins T.C_World dx (wf gen ru S D)) := by rw [hHf, upd_ne nWd]; exact ho
    have hLf : LivIs Hf D ks g := ⟨by rw [hHf]; exact hL2.dct.off nDd, hL2.pos, hL2.lt⟩
    refine for_it walk_itemsT (fun i σ H' => ∃ (ks' : List Pr) (g' : Pr → Nat) (x6 x7 x8 x9 x10 : Option V), σ = [some (.ref W), some (.ref l), some (.int r), some (.int c), some (.str (modeS m)), some (.ref d), x6, x7, x8, x9, x10] ∧ Sb D Hf H' ∧ LivIs H' D ks' g' ∧ ks'.length ≤ ks.length + i ∧
        (∀ p, g' p = if p ∈ (plK qs).take i then chg m (g p) (bkP qs p) else g p))
      ⟨ks, g, _, _, _, _, _, rfl, Sb.of (Same.refl _), hLf, Nat.le_refl _, fun p => by rw [if_neg]; simp⟩ (fun i σ H' _ p => by
        obtain ⟨_, _, _, _, _, _, _, _, sb, _⟩ := p
        exact sb _ _ nDd.symm gf) ?_ ?_
    · rintro i x σ H3 H4 hi ⟨ks', g', x6, x7, x8, x9, x10, rfl, sb, hL3, lk, hg⟩ ⟨tt, k, v, q0, e, rfl, hq0, nt, rfl⟩
      obtain ⟨z, hz, rfl, rfl⟩ := hm.at e
      have li : i < (plK qs).length := (List.getElem?_eq_some_iff.mp hz).1
      have zq : z ∈ plK qs := List.mem_of_getElem? hz
      have lq := plK_len qs
      have nq : q0 ≠ D := fun e => by
        obtain ⟨kv, y, _⟩ := hL3.dct
        rw [e, y] at hq0
        cases hq0
      k_invariant "new" (nt, H4, e4, g4)
      have hq4 : H4 q0 = some (.tup [.int z.1, .int z.2]) := e4 _ _ hq0
      have ho4 : H4 W = some (.ins T.C_World dx (wf gen ru S D)) := e4 _ _ (sb _ _ nWD hof)
      have hL4 := hL3.up e4
      have gz : g' z = g z := by
        rw [hg, if_neg]
        exact nodup_next hm.2 hz
      have step : ∀ p, (if p = z then chg m (g z) (bkP qs z) else g' p) = if p ∈ (plK qs).take (i + 1) then chg m (g p) (bkP qs p) else g p := fun p => by
        rw [take_next hz, hg]
        by_cases c : p = z
        · rw [if_pos c, if_pos (List.mem_append.mpr (.inr (List.mem_singleton.mpr c))), c]
        · rw [if_neg c]
          by_cases c2 : p ∈ (plK qs).take i
          · rw [if_pos c2, if_pos (List.mem_append.mpr (.inl c2))]
          · rw [if_neg c2, if_neg fun y => (List.mem_append.mp y).elim c2 fun y => c (List.mem_singleton.mp y)]
      refine ⟨tt, _, rfl, tup_of g4, rfl, _, _, rfl, _, _, rfl, rfl, ?_⟩
      k_upd
      refine ⟨_, rfl, W, _, _, _, _, rfl, ho4, T.cl_World, T.na_World__living, rfl, D, rfl, hL4.dct.isD, _, rfl, _, hL4.dct.dget (x := z) hq4, ?_⟩
      rw [hL4.getD, gz]
      refine ⟨_, rfl, _, rfl, _, _, m, m3, rfl, ?_⟩
      k_upd
      have cl := chg_lt (m := m) (hL.lt z) (bk_lt qs z)
      by_cases c0 : chg m (g z) (bkP qs z) = 0
      · refine ⟨_, rfl, _, tru0 c0, iteF ?_⟩
        obtain ⟨kv4, y1, y2⟩ := id hL4.dct
        refine ⟨_, rfl, W, _, _, _, _, rfl, ho4, T.cl_World, T.na_World__living, rfl, .inr (.inr (.inl ⟨rfl, .inr ⟨_, y1⟩⟩)), _, rfl, D, kv4, keyP z, q0, _, rfl, rfl, y1, hq4, fun v hv => ?_, fun hv => ?_⟩
        · refine ⟨_, _, _, _, _, _, _, rfl, fun b o n h => ?_, hL4.drop y2 z, ?_, fun p => ?_⟩
          · rw [upd_ne n]
            exact e4 _ _ (sb _ _ n h)
          · have := List.length_filter_le (fun y => decide (y ≠ z)) ks'
            omega
          · rw [← step, c0]
        · have zn : z ∉ ks' := fun y => by
            rw [y2.get, if_pos y] at hv
            cases hv
          refine ⟨_, _, _, _, _, _, _, rfl, sb.trans (Sb.of e4), hL4.gone zn, by omega, fun p => ?_⟩
          rw [← step, c0]
      · refine ⟨_, rfl, _, tru1 c0, iteT ?_⟩
        obtain ⟨H5, dp, pa⟩ := hL4.dct.dput (x := z) (by rw [sizeLine_eq]; omega) hq4 (.int ((chg m (g z) (bkP qs z) : Nat) : Int))
        refine ⟨_, rfl, _, rfl, W, _, _, _, _, rfl, ho4, T.cl_World, T.na_World__living, rfl, _, rfl, D, H5, rfl, dp, ?_⟩
        have := addK_len ks' z
        refine ⟨_, _, _, _, _, _, _, rfl, fun b o n h => ?_, hL4.put c0 cl pa, by omega, fun p => step p⟩
        rw [pa.2 b n]
        exact e4 _ _ (sb _ _ n h)
    · rintro σ H3 ⟨ks', g', x6, x7, x8, x9, x10, rfl, sb, hL3, lk, hg⟩
      have lq := plK_len qs
      rw [hm.len] at hg lk
      rw [List.take_length] at hg
      refine ⟨sb _ _ nDd.symm gf, ?_⟩
      refine q (upd H3 d (.dT kvs)) ks' g' (fun b o n h => ?_) ⟨hL3.dct.off nDd, hL3.pos, hL3.lt⟩ (by omega) fun x => ?_
      · have nb : b ≠ d := fun e => by rw [e, ndH] at h; cases h
        rw [upd_ne nb]
        refine sb _ _ n ?_
        rw [hHf, upd_ne nb]
        exact s2 _ _ h
      · rw [← eqs]
        unfold inB
        rw [hg]
        by_cases c : placeP x ∈ plK qs
        · rw [if_pos c, chg_bit]
          congr 1
          rw [Bool.eq_iff_iff, decide_eq_true_eq]
          exact bk_in
        · rw [if_neg c]
          have : x ∉ qs := fun y => c (mem_plK.mpr ⟨x, y, rfl⟩)
          rw [decide_eq_false this, chgB_no]
end
end My
namespace My
open PySem PySem.Spec PyProof.Rows L2 Vx
open TL
local macro_rules | `(tactic| k_invariant "new" ($n, $H:ident, $e:ident, $h:ident)) => `(tactic| (generalize hE : upd _ _ _ = $H; obtain ⟨$e:ident, $h:ident⟩ := gen_e hE $n; clear hE))
local macro_rules | `(tactic| k_places) => `(tactic| first
  | assumption
  | exact lst_of (by assumption)
  | exact tup_of (by assumption)
  | (refine getS (by assumption) ?_; k_places)
  | (refine Same.seq (by assumption) ?_; k_places)
  | (refine tupS (by assumption) ?_; k_places)
  | (refine lst_of ?_; k_places)
  | (refine tup_of ?_; k_places))
local macro_rules | `(tactic| k_subL) => `(tactic| first
  | k_places
  | solve_by_elim (maxDepth := 10) [getS, lst_of, tup_of, Same.seq, tupS])
local macro_rules | `(tactic| k_offL) => `(tactic| first
  | (show (0 : Int) < _; first | omega | decide)
  | (refine ⟨?_, ?_⟩ <;> first | omega | decide)
  | exact .inr ⟨by decide, by decide⟩
  | exact .inl ⟨by decide, by decide⟩
  | exact .inl ⟨by omega, by omega⟩
  | omega)
local macro_rules | `(tactic| k_clsL) => `(tactic| exact Nat.le_of_ble_eq_true rfl)
local macro_rules | `(tactic| k_upd) => `(tactic| simp only [L2.start, List.map_cons, List.map_nil, List.length_cons, List.length_nil, List.replicate_succ, List.replicate_zero, List.cons_append, List.nil_append, List.set_cons_zero, List.set_cons_succ])
section
variable {P : Program} {w : World} {K : PySem.W.Frag} {mg : Str → Option Value} {base : Heap}
/-! ### a leap of a world -/
theorem inst_ne {H : Hp} {a b C C' dx dx' : Addr} {fs fs' : List (Str × V)} (h : H a = some (.ins C dx fs)) (h' : H b = some (.ins C' dx' fs')) (n : fs.length ≠ fs'.length) : a ≠ b := fun e => by
  rw [e, h'] at h
  injection Option.some.inj h with _ _ z
  exact n (by rw [z])
theorem StoreIs.setI {C CB C0 dw W : Addr} {H : Hp} {A : SA} {sq : List Pr} {es : Nat} {fs : List (Str × V)} {o : HO} (h : StoreIs C CB H A sq es) (hW : H W = some (.ins C0 dw fs)) (l : fs.length = 4) (WM : W ∉ A.M) : StoreIs C CB (upd H W o) A sq es := by
  have off : ∀ {b : Addr}, b ∈ A.M → b ≠ W := fun m z => WM (z ▸ m)
  obtain ⟨⟨dx, ru, lg, fu, h1⟩, ⟨dxb, rub, flb, hb1, hb2⟩, h3, h4, h5, ⟨us, h6, h7⟩, ⟨kvs, h8, h8'⟩, h9, h10, h11, h12⟩ := h
  have m : A.la ∈ A.M ∧ A.ca ∈ A.M ∧ A.ba ∈ A.M ∧ A.pa ∈ A.M ∧ A.sm ∈ A.M ∧ A.em ∈ A.M := by simp only [SA.M, List.mem_cons, true_or, or_true, and_self]
  refine ⟨⟨dx, ru, lg, fu, ?_⟩, ⟨dxb, rub, flb, ?_, ?_⟩, ?_, ?_, ?_, ⟨us, ?_, h7⟩, ⟨kvs, ?_, h8'⟩, ?_, h10, h11, h12⟩
  · rw [upd_ne (inst_ne h1 hW (by rw [l]; exact fun z => by cases z))]
    exact h1
  · rw [hide_updO WM, upd_ne (inst_ne (hide_le _ _ hb1) hW (by rw [l]; exact fun z => by cases z))]
    exact hb1
  · rw [hide_updO WM, upd_ne fun z => by have := hide_le _ _ hb2; rw [z, hW] at this; cases this]
    exact hb2
  · rw [upd_ne (off m.1)]
    exact h3
  · rw [upd_ne (off m.2.1)]
    exact h4
  · rw [upd_ne (off m.2.2.1)]
    exact h5
  · rw [upd_ne (off m.2.2.2.1)]
    exact h6
  · rw [upd_ne (off m.2.2.2.2.1)]
    exact h8
  · rw [upd_ne (off m.2.2.2.2.2)]
    exact h9
theorem FutAt.setI {C CB CR C0 dw W : Addr} {H : Hp} {A : SA} {fu : Addr} {bs ss : List Int} {B : Nat} {sq : List Pr} {fs : List (Str × V)} {o : HO} (h : FutAt C CB CR H A fu bs ss B sq) (hW : H W = some (.ins C0 dw fs)) (l : fs.length = 4) (WM : W ∉ A.M) : FutAt C CB CR (upd H W o) A fu bs ss B sq := by
  obtain ⟨⟨dx, ru, lg, h1⟩, ⟨dxb, rub, flb, hb1, hb2, dr, tb, ts, hr1, hr2, hr3⟩, fs', g, ⟨kv, h3, h3'⟩, h4, h5⟩ := h
  have ne : ∀ {a : Addr} {u : HO}, hide A.M H a = some u → (∀ C dx fs, u ≠ .ins C dx fs) → a ≠ W := fun e n z => by
    have := hide_le _ _ e
    rw [z, hW] at this
    exact n _ _ _ (Option.some.inj this).symm
  refine ⟨⟨dx, ru, lg, ?_⟩, ⟨dxb, rub, flb, ?_, ?_, dr, tb, ts, ?_, ?_, ?_⟩, fs', g, ⟨kv, ?_, h3'⟩, h4, h5⟩ <;> rw [hide_updO WM]
  · rw [upd_ne (inst_ne (hide_le _ _ h1) hW (by rw [l]; exact fun z => by cases z))]
    exact h1
  · rw [upd_ne (inst_ne (hide_le _ _ hb1) hW (by rw [l]; exact fun z => by cases z))]
    exact hb1
  · rw [upd_ne (ne hb2 fun _ _ _ z => by cases z)]
    exact hb2
  · rw [upd_ne (inst_ne (hide_le _ _ hr1) hW (by rw [l]; exact fun z => by cases z))]
    exact hr1
  · rw [upd_ne (ne hr2 fun _ _ _ z => by cases z)]
    exact hr2
  · rw [upd_ne (ne hr3 fun _ _ _ z => by cases z)]
    exact hr3
  · rw [upd_ne (ne h3 fun _ _ _ z => by cases z)]
    exact h3
def cbN (n i : Nat) : Nat := ((List.range i).filter fun k => n / 2 ^ k % 2 = 1).length
def lqC : Nat → Nat
  | 0 => 60
  | 1 => 14400
  | _ => 140000
def bqC : Nat → Nat
  | 0 => 0
  | 1 => 2160
  | _ => 21600
def kqC : Nat → Nat
  | 0 => 240
  | 1 => 2160
  | _ => 19440
theorem cb_on : ∀ n < 7, ∀ i < 3, n / 2 ^ i % 2 = 1 → (cbN n i = 0 ∨ cbN n i = 1) ∧ cbN n (i + 1) = cbN n i + 1 ∧ n % 2 ^ (i + 1) = n % 2 ^ i + 2 ^ i := by decide
theorem cb_off : ∀ n < 7, ∀ i < 3, n / 2 ^ i % 2 = 0 → cbN n (i + 1) = cbN n i ∧ n % 2 ^ (i + 1) = n % 2 ^ i := by decide
theorem cb_le : ∀ n < 7, ∀ i ≤ 3, cbN n i ≤ 2 ∧ (cbN n i = 0 → n % 2 ^ i = 0) := by decide
theorem bits_n : ∀ n < 7, Builtin.Int.intBits ((n : Nat) : Int) ≤ 3 ∧ n % 2 ^ (Builtin.Int.intBits ((n : Nat) : Int)) = n := by decide +kernel
def sp_leap (C CB CR CW : Addr) : Sp := fun vs H Q _ => ∃ (W ru D : Addr) (gen : Int) (A : SA) (fu : Addr) (sq : List Pr) (es : Nat) (ks : List Pr) (g : Pr → Nat) (B n : Nat) (bs ss : List Int), vs = [.ref W, .int (n : Int)] ∧ n < 7 ∧ WAt CW H W gen ru A.st D ∧ LivIs H D ks g ∧ D ∉ A.M ∧ D ≠ fu ∧
  StoreIs C CB H A sq es ∧ 1 ≤ es ∧ es ≤ 6 ∧ FutAt C CB CR H A fu bs ss B sq ∧ (∀ b ∈ bs, 1 ≤ b ∧ b ≤ 8) ∧ (∀ b ∈ ss, 0 ≤ b ∧ b ≤ 8) ∧ ks.length ≤ 60 ∧ sq.length + 300000 < 4000000 ∧ B + 22000 < 4000000 ∧
  ∀ (H' : Hp) (sq' : List Pr) (es' : Nat) (D' : Addr) (ks' : List Pr) (g' : Pr → Nat), (∀ a o, a ≠ W → a ≠ fu → hide A.M H a = some o → hide A.M H' a = some o) → StoreIs C CB H' A sq' es' → es ≤ es' → es' ≤ 6 → FutAt C CB CR H' A fu bs ss (B + 22000) sq' → sq'.length ≤ sq.length + 160000 →
    WAt CW H' W (gen + n) ru A.st D' → LivIs H' D' ks' g' → H D' = none → (∀ r c, in32 g' r c = genL bs ss (in32 g) n r c) → ks'.length ≤ 20000 → Q .non H'
theorem ok_World_leap (T : Txt K mg) : FnOk P w K mg base CX0 7 T.f_World_leap T.d_World_leap ["self", "generations"] (sp_leap T.C_Store T.C_Blocks T.C_Rule T.C_World) := by
  refine T.F_World_leap.ok sc_World_leap (fun vs H Q E h => ?_) (fun cdv A outer s H vs Q E hr h => ?_)
  · obtain ⟨_, _, _, _, _, _, _, _, _, _, _, _, _, _, rfl, _⟩ := h
    rfl
  · obtain ⟨W, ru, D, gen, S, fu, sq, es, ks, g, B, n, bs, ss, rfl, hn7, ⟨dw, hW⟩, hL, DM, Dfu, hS, es1, es6, hF, gb1, gb2, lk, few, fewB, q⟩ := h
    have hu : (A.deeper (envOfC (Str.ofString "World.leap") (defScope s_World_leap) s.heap.objs.size T.f_World_leap cdv)).units + 1 < cLine := by
      have := hr.units
      omega
    refine ⟨_, (pss_cons (ps_set (i := 2) sc_World_leap.nd rfl (.inr rfl) (pe_fld (pv 0) rfl))
      (pss_cons (ps_set (i := 3) sc_World_leap.nd rfl (.inl rfl) (pe_gcx (by rfl) T.c_TOP))
      (pss_cons (ps_lock (ps_setDcT (i := 4) (own := [("place", 7), ("block", 8)]) (tt := tYes) rfl (Nat.lt_of_succ_lt hu) sc_World_leap.nd rfl rfl (sw_dict rfl rfl rfl (by decide +kernel)) (pi_itemsT (pe_fld (pv 0) rfl)) (blkOk_by (own := [("place", 7), ("block", 8)]) (N := N_World_leap) (sc := defScope s_World_leap) (by decide +kernel)) (fun _ _ _ _ _ => (pg_tupK (K := K) (n := 2) rfl rfl (pgs_cons (pg_name (i := 7) sc_World_leap.nd rfl (.inl rfl)) (pgs_cons (pg_name (i := 8) sc_World_leap.nd rfl (.inl rfl)) pgs_nil)))) (fun _ _ _ _ _ => pts_nil) (fun _ _ _ _ _ => (pv 7)) (fun _ _ _ _ _ => (pe_meth (pv 2) T.cl_Store T.m_Store_small (ok_Store_small T) (hr.mono (by decide)) T.b_Store_small .nil pass0 (pa_cons (pe_gcx (by rfl) T.c_TOP) (pa_cons (pv 8) pa_nil))))))
      (pss_cons (ps_for PassesOwn.never rfl (pi_range1 (by rfl) T.z_range (pa_cons (pe_bits (pv 1)) pa_nil)) (pg_name (i := 5) sc_World_leap.nd rfl (.inl rfl))
      (pss_one (ps_if (pt_truth (pe_op op_and (pe_op op_shr (pv 1) (pv 5)) pe_int) (by intro _; rfl))
      (pss_cons (ps_set (i := 6) sc_World_leap.nd rfl (.inl rfl) (pe_callB (call_max2 rfl) (by rfl) T.z_max (by decide +kernel) (pa_cons (pe_op op_add (pv 5) pe_int) (pa_cons (pe_op op_sub (pe_gcx (by rfl) T.c_TOP) pe_int) pa_nil))))
      (pss_cons (ps_set (i := 4) sc_World_leap.nd rfl (.inl rfl) (pe_meth (pv 2) T.cl_Store T.m_Store_aged (ok_Store_aged T) (hr.mono (by decide)) T.b_Store_aged .nil pass0 (pa_cons (pe_meth (pv 2) T.cl_Store T.m_Store_at_level (ok_Store_at_level T) (hr.mono (by decide)) T.b_Store_at_level .nil pass0 (pa_cons (pv 4) (pa_cons (pv 3) (pa_cons (pv 6) pa_nil)))) (pa_cons (pv 6) (pa_cons (pv 5) pa_nil)))))
      (pss_one (ps_set (i := 3) sc_World_leap.nd rfl (.inl rfl) (pv 6)))))
      pss_nil)))
      (pss_cons (ps_mid (ps_set (i := 4) sc_World_leap.nd rfl (.inl rfl) (pe_meth (pv 2) T.cl_Store T.m_Store_at_level (ok_Store_at_level T) (hr.mono (by decide)) T.b_Store_at_level .nil pass0 (pa_cons (pv 4) (pa_cons (pv 3) (pa_cons (pe_gcx (by rfl) T.c_TOP) pa_nil))))))
      (pss_cons (ps_fld (pv 0) (pe_lock (pe_dcT (own := [("place", 7), ("square", 9)]) (tt := tYes) rfl (Nat.lt_of_succ_lt hu) sc_World_leap.nd (pi_itemsT (pv 4)) (blkOk_by (own := [("place", 7), ("square", 9)]) (N := N_World_leap) (sc := defScope s_World_leap) (by decide +kernel)) (fun _ _ _ _ _ => (pg_tupK (K := K) (n := 2) rfl rfl (pgs_cons (pg_name (i := 7) sc_World_leap.nd rfl (.inl rfl)) (pgs_cons (pg_name (i := 9) sc_World_leap.nd rfl (.inl rfl)) pgs_nil)))) (fun _ _ _ _ _ => pts_nil) (fun _ _ _ _ _ => (pv 7)) (fun _ _ _ _ _ => (pe_meth (pv 2) T.cl_Store T.m_Store_block (ok_Store_block T) (hr.mono (by decide)) T.b_Store_block .nil pass0 (pa_cons (pv 9) pa_nil))))) rfl)
      (pss_one (ps_fldaug (pv 0) (pv 1) in_add)))))))), ?_⟩
    k_upd
    obtain ⟨kvs, hd, hm⟩ := id hL.dct
    have nWD : W ≠ D := fun e => by rw [e, hd] at hW; cases hW
    have WM : W ∉ S.M := hS.outO hW (fun _ z => by cases z) (fun _ z => by cases z)
    have Wfu : W ≠ fu := hF.ne hW (fun _ z => by cases z)
    refine ⟨_, rfl, W, _, _, _, _, rfl, hW, T.cl_World, T.na_World__store, rfl, ?_⟩
    k_upd
    refine ⟨D, _, hd, trivial, fun od => ⟨_, rfl, W, _, _, _, _, rfl, (by rw [upd_ne nWD]; exact hW), T.cl_World, T.na_World__living, rfl, D, od, kvs, rfl, upd_same, fun d nd => ?_⟩⟩
    obtain ⟨Hb, hHb⟩ : ∃ Hb, Hb = upd H D (.frz od (.dT kvs)) := ⟨_, rfl⟩
    rw [← hHb] at nd
    have hSb : StoreIs T.C_Store T.C_Blocks Hb S sq es := by rw [hHb]; exact hS.lock hd (dT_kind kvs) DM
    have gb : Hb D = some (.frz od (.dT kvs)) := by rw [hHb, upd_same]
    have dM := hSb.off nd
    have nek : d ≠ D := fun e => by rw [e, gb] at nd; cases nd
    have nd0 : H d = none := by rw [hHb, upd_ne nek] at nd; exact nd
    have fit5 : ∀ p, Fit 5 (g p) := fun p i t => by
      have := hL.lt p
      have : i < 1024 := Classical.byContradiction fun c => by
        rw [Nat.testBit_lt_two_pow (Nat.lt_of_lt_of_le (hL.lt p) (Nat.pow_le_pow_right (by decide) (by omega)))] at t
        cases t
      show i / 32 < 32 ∧ i % 32 < 32
      omega
    rw [← hHb]
    refine dcT_it walk_itemsT (fun i H' => ∃ (sq' : List Pr) (f : Pr → Nat), Gr T.C_Store T.C_Blocks S i Hb sq es H' sq' es ∧ H' D = some (.frz od (.dT kvs)) ∧ Dct H' d (ks.take i) (fun p => .int (f p : Nat)) ∧ ∀ p ∈ ks.take i, sq'[f p]? = some ((5 : Int), (g p : Int)))
      ⟨sq, fun _ => 0, (Gr.refl 0 hSb).same (newS nd), by rw [upd_ne nek.symm]; exact gb, Dct.new _ upd_same, fun _ m => (by rw [List.take_zero] at m; cases m)⟩ (fun i H' _ p => p.choose_spec.choose_spec.2.1) ?_ ?_
    · rintro i x H2 H3 hi ⟨sq', f, hg, hfz, hDD, hsq⟩ ⟨tt, ky, v, q0, e, rfl, hq0, nt, rfl⟩
      obtain ⟨z, hz, rfl, rfl⟩ := hm.at e
      have li : i < ks.length := (List.getElem?_eq_some_iff.mp hz).1
      have zn := nodup_next hm.2 hz
      k_invariant "new" (nt, H3, e3, g3)
      have hg3 := hg.same e3
      have lg3 := hg3.len
      obtain ⟨dx3, ru3, lg3', fu3, ho3⟩ := hg3.st.obj
      refine ⟨tt, _, rfl, tup_of g3, rfl, _, _, rfl, _, _, rfl, rfl, wipe2 _ 7 8 _ _, tyesT ⟨_, rfl, _, rfl, S.st, _, _, rfl, ho3, rfl, _, rfl, S, sq', es, 5, g z, rfl, hg3.st, by decide, fit5 z, by omega, fun H4 sq4 n4 g4 en4 => ?_⟩⟩
      obtain ⟨kv2, y1, y2⟩ := hDD.up e3
      have y1' := gr_fresh g4 y1 dM
      refine ⟨kv2, keyP z, q0, rfl, gr_fresh g4 (e3 _ _ hq0) (hg3.st.outT (e3 _ _ hq0)), y1', by rw [y2.len, List.length_take, sizeLine_eq]; omega, ?_⟩
      have y3 := y2.put z (.int (n4 : Int))
      rw [addK_new zn, ← take_next hz] at y3
      refine ⟨sq4, fun y => if y = z then n4 else f y, ((hg3.trans g4).more (by omega)).loc hSb nd, by rw [upd_ne nek.symm]; exact gr_fresh g4 (e3 _ _ hfz) DM, ⟨_, upd_same, y3.congr fun y m => ?_⟩, fun y my => ?_⟩
      · unfold setG
        dsimp only
        by_cases c : y = z
        · rw [if_pos c, if_pos c]
        · rw [if_neg c, if_neg c]
      · dsimp only
        by_cases c : y = z
        · rw [if_pos c, c]
          exact en4
        · rw [if_neg c]
          rw [take_next hz] at my
          exact pre_get g4.pre (hsq y ((List.mem_append.mp my).resolve_right fun k => c (List.mem_singleton.mp k)))
    · rintro H2 ⟨sq2, f, hg, hfz, hDD, hsq⟩
      rw [hm.len] at hg hDD hsq
      rw [List.take_length] at hDD hsq
      k_upd
      refine ⟨hfz, ?_⟩
      rw [hHb] at hg
      have hgu := hg.unlock hS hd (dT_kind kvs) DM
      have hLay : LayIs S.M (upd H2 D (.dT kvs)) sq2 d 5 ks g := by
        obtain ⟨kv, w1, w2⟩ := hDD
        exact ⟨⟨f, ⟨kv, by rw [hide_out dM, upd_ne nek]; exact w1, w2⟩, hsq⟩, hL.pos⟩
      generalize upd H2 D (.dT kvs) = H3 at hgu hLay ⊢
      have gF3 := GrF.of (hgu.more (k' := 60) lk) hF
      obtain ⟨b3, bm⟩ := bits_n n hn7
      refine ⟨_, rfl, _, rfl, ((Builtin.Int.intBits ((n : Nat) : Int) : Nat) : Int), rfl, by omega, by omega, ?_⟩
      rw [Int.toNat_natCast]
      refine for_range (lo := 0) (n := (Builtin.Int.intBits ((n : Nat) : Int))) (fun i σ H' => ∃ (sq' : List Pr) (es' : Nat) (d' : Addr) (lev : Int) (ks' : List Pr) (gL : Pr → Nat) (x5 x6 : Option V), σ = [some (.ref W), some (.int (n : Int)), some (.ref S.st), some (.int lev), some (.ref d'), x5, x6, none, none, none] ∧
          GrF T.C_Store T.C_Blocks T.C_Rule S fu bs ss B (lqC (cbN n i)) (bqC (cbN n i)) H sq es H' sq' es' ∧ es' ≤ 6 ∧ H d' = none ∧
          ((cbN n i = 0 ∧ lev = 5 ∧ LayIs S.M H' sq' d' 5 ks g) ∨ (1 ≤ cbN n i ∧ lev = 4 ∧ LayIs S.M H' sq' d' 4 ks' gL ∧ ks'.length ≤ kqC (cbN n i) ∧ ∀ r c, in16 gL r c = genL bs ss (in32 g) (n % 2 ^ i) r c)))
        ⟨sq2, es, d, 5, [], fun _ => 0, _, _, rfl, gF3, es6, nd0, .inl ⟨rfl, rfl, hLay⟩⟩ ?_ ?_
      · rintro i σ H4 hi ⟨sq4, es4, d4, lev, ks4, g4, x5, x6, rfl, hg4, es46, nd4, hcase⟩
        have i3 : i < 3 := by omega
        have ge4 := hg4.ge
        have len4 := hg4.len
        k_upd
        refine ⟨_, rfl, _, rfl, _, _, rfl, rfl, (by dsimp only; omega), _, _, rfl, rfl, ?_⟩
        have epw : ((n : Int) / 2 ^ ((0 : Int) + (i : Int)).toNat) % 2 = ((n / 2 ^ i % 2 : Nat) : Int) := by
          rw [show ((0 : Int) + (i : Int)).toNat = i by omega, Int.natCast_emod, Int.natCast_ediv, Int.natCast_pow]
          rfl
        by_cases c0 : n / 2 ^ i % 2 = 0
        · obtain ⟨f1, f2⟩ := cb_off n hn7 i i3 c0
          refine ⟨false, (by dsimp only; rw [and1, epw]; exact tru0 c0), iteF ?_⟩
          refine ⟨sq4, es4, d4, lev, ks4, g4, _, x6, rfl, ?_, es46, nd4, ?_⟩
          · rw [f1]
            exact hg4
          · rw [f1, f2]
            exact hcase
        · have c1 : n / 2 ^ i % 2 = 1 := by omega
          obtain ⟨f0, f1, f2⟩ := cb_on n hn7 i i3 c1
          refine ⟨true, (by dsimp only; rw [and1, epw]; exact tru1 c0), iteT ?_⟩
          refine ⟨_, rfl, _, _, rfl, rfl, _, _, rfl, rfl, _, _, rfl, ?_⟩
          rw [if_pos (by omega)]
          k_upd
          obtain ⟨dx4, ru4, lg4, fu4, ho4⟩ := hg4.st.obj
          refine ⟨_, rfl, S.st, _, _, rfl, ho4, rfl, _, rfl, S.st, _, _, rfl, ho4, rfl, _, rfl, _, rfl, _, rfl, ?_⟩
          have j3 : i ≤ 3 := by omega
          have p8 : 2 ^ i ≤ 8 := Nat.le_trans (Nat.pow_le_pow_right (by decide) j3) (by decide)
          rcases hcase with ⟨z0, rfl, hLy⟩ | ⟨z1, rfl, hLy, lk4, hin⟩
          · rw [z0] at hg4 len4
            have len4 : sq4.length ≤ sq.length + 60 := len4
            have cm : n % 2 ^ i = 0 := (cb_le n hn7 i (by omega)).2 z0
            refine ⟨S, sq4, es4, d4, ks, g, hg4.st, by omega, es46, by omega, by omega, .inl ⟨rfl, hLy, fun H5 sq5 d5 ks5 gr5 nd5 hL5 l5 => ?_⟩⟩
            have hg5 := hg4.gr gr5
            have len5 := gr5.len
            refine ⟨_, rfl, _, rfl, S, fu, sq5, es4, d5, ks5, lowG g, B + 0, i, bs, ss, ?_, hg5.st, by omega, es46, hg5.ft, gb1, gb2, hL5, j3, by omega, by omega, by omega, fun H6 sq6 es6' d6 ks6 gr6 es66 nd6 hL6 l6 => ?_⟩
            · rw [Int.zero_add]
              rfl
            have hg6 := hg5.trans gr6
            refine ⟨_, rfl, sq6, es6', d6, 4, ks6, futG bs ss (2 ^ i) (lowG g), _, _, rfl, ?_, es66, ?_, .inr ⟨?_, rfl, hL6, ?_, fun r c => ?_⟩⟩
            · rw [f1, z0]
              exact hg6.more (by show _ ≤ 14400; show 60 + 4 * ks.length + (6 + 58 * ks5.length) ≤ 14400; omega) (by show 0 + 9 * ks5.length ≤ 2160; omega)
            · cases h : H d6 with
              | none => rfl
              | some o =>
                exfalso
                obtain ⟨⟨f6, hf6, _⟩, _⟩ := hL6
                have d6M : d6 ∉ S.M := fun m => by
                  obtain ⟨kv, w, _⟩ := hf6
                  rw [hide_in m] at w
                  cases w
                by_cases c : d6 = fu
                · obtain ⟨kv, w, _⟩ := hg5.ft.dict
                  rw [c, w] at nd6
                  cases nd6
                · have := hg5.keep h d6M c
                  rw [this] at nd6
                  cases nd6
            · rw [f1]
              exact Nat.succ_le_succ (Nat.zero_le _)
            · rw [f1, z0]
              show _ ≤ 2160
              omega
            · rw [in_fut gb1 gb2 p8, f2, cm, Nat.zero_add]
              have : in16 (lowG g) = in32 g := funext fun r => funext fun c => in_low g r c
              rw [this]
          · have z1' : cbN n i = 1 := by omega
            rw [z1'] at hg4 len4 lk4
            have len4 : sq4.length ≤ sq.length + 14400 := len4
            have lk4 : ks4.length ≤ 2160 := lk4
            refine ⟨S, sq4, es4, d4, ks4, g4, hg4.st, by omega, es46, by omega, by omega, .inr (.inr ⟨4, by decide, rfl, ?_⟩)⟩
            refine ⟨_, rfl, _, rfl, S, fu, sq4, es4, d4, ks4, g4, B + 2160, i, bs, ss, ?_, hg4.st, by omega, es46, hg4.ft, gb1, gb2, hLy, j3, by omega, by omega, by omega, fun H6 sq6 es6' d6 ks6 gr6 es66 nd6 hL6 l6 => ?_⟩
            · rw [Int.zero_add]
              rfl
            have hg6 := hg4.trans gr6
            refine ⟨_, rfl, sq6, es6', d6, 4, ks6, futG bs ss (2 ^ i) g4, _, _, rfl, ?_, es66, ?_, .inr ⟨?_, rfl, hL6, ?_, fun r c => ?_⟩⟩
            · rw [f1, z1']
              exact hg6.more (by show 14400 + (6 + 58 * ks4.length) ≤ 140000; omega) (by show 2160 + 9 * ks4.length ≤ 21600; omega)
            · cases h : H d6 with
              | none => rfl
              | some o =>
                exfalso
                obtain ⟨⟨f6, hf6, _⟩, _⟩ := hL6
                have d6M : d6 ∉ S.M := fun m => by
                  obtain ⟨kv, w, _⟩ := hf6
                  rw [hide_in m] at w
                  cases w
                by_cases c : d6 = fu
                · obtain ⟨kv, w, _⟩ := hg4.ft.dict
                  rw [c, w] at nd6
                  cases nd6
                · have := hg4.keep h d6M c
                  rw [this] at nd6
                  cases nd6
            · rw [f1]
              exact Nat.succ_le_succ (Nat.zero_le _)
            · rw [f1, z1']
              show _ ≤ 19440
              omega
            · rw [in_fut gb1 gb2 p8, f2, genL_add]
              have : in16 g4 = genL bs ss (in32 g) (n % 2 ^ i) := funext fun r => funext fun c => hin r c
              rw [this]
      · rintro σ H4 ⟨sq4, es4, d4, lev, ks4, g4, x5, x6, rfl, hg4, es46, nd4, hcase⟩
        rw [bm] at hcase
        obtain ⟨c2, cz⟩ := cb_le n hn7 (Builtin.Int.intBits ((n : Nat) : Int)) b3
        rw [bm] at cz
        have bnd : lqC (cbN n (Builtin.Int.intBits ((n : Nat) : Int))) ≤ 140000 ∧ bqC (cbN n (Builtin.Int.intBits ((n : Nat) : Int))) ≤ 21600 ∧ kqC (cbN n (Builtin.Int.intBits ((n : Nat) : Int))) ≤ 19440 := by
          have : cbN n (Builtin.Int.intBits ((n : Nat) : Int)) = 0 ∨ cbN n (Builtin.Int.intBits ((n : Nat) : Int)) = 1 ∨ cbN n (Builtin.Int.intBits ((n : Nat) : Int)) = 2 := by omega
          rcases this with h | h | h <;> rw [h] <;> exact ⟨by decide, by decide, by decide⟩
        have hg4 := hg4.more bnd.1 bnd.2.1
        have ge4 := hg4.ge
        have len4 := hg4.len
        obtain ⟨dx4, ru4, lg4, fu4, ho4⟩ := hg4.st.obj
        refine ⟨fun σ' H' => ∃ (sq5 : List Pr) (es5 : Nat) (d5 : Addr) (ks5 : List Pr) (g5 : Pr → Nat) (x3 x5 x6 : Option V), σ' = [some (.ref W), some (.int (n : Int)), some (.ref S.st), x3, some (.ref d5), x5, x6, none, none, none] ∧
          GrF T.C_Store T.C_Blocks T.C_Rule S fu bs ss B 160000 22000 H sq es H' sq5 es5 ∧ es5 ≤ 6 ∧ H d5 = none ∧ LayIs S.M H' sq5 d5 5 ks5 g5 ∧ ks5.length ≤ 20000 ∧ ∀ r c, in32 g5 r c = genL bs ss (in32 g) n r c, ?_, ?_⟩
        · refine ⟨_, rfl, S.st, _, _, rfl, ho4, rfl, _, rfl, _, rfl, ?_⟩
          rcases hcase with ⟨z0, rfl, hLy⟩ | ⟨z1, rfl, hLy, lk4, hin⟩
          · refine ⟨S, sq4, es4, d4, ks, g, hg4.st, by omega, es46, by omega, by omega, .inr (.inr ⟨5, by decide, rfl, ?_⟩)⟩
            refine ⟨sq4, es4, d4, ks, g, _, _, _, rfl, hg4.more (by omega) (by omega), es46, nd4, hLy, by omega, fun r c => ?_⟩
            rw [cz z0]
            rfl
          · have lk4 := Nat.le_trans lk4 bnd.2.2
            refine ⟨S, sq4, es4, d4, ks4, g4, hg4.st, by omega, es46, by omega, by omega, .inr (.inl ⟨rfl, hLy, fun H5 sq5 es5 d5 ks5 gr5 e56 nd5 hL5 l5 => ?_⟩)⟩
            have hg5 := hg4.gr gr5
            refine ⟨sq5, es5, d5, ks5, upG g4, _, _, _, rfl, hg5.more (by omega) (by omega), e56, ?_, hL5, by omega, fun r c => ?_⟩
            · cases h : H d5 with
              | none => rfl
              | some o =>
                exfalso
                obtain ⟨⟨f6, hf6, _⟩, _⟩ := hL5
                have d6M : d5 ∉ S.M := fun m => by
                  obtain ⟨kv, w, _⟩ := hf6
                  rw [hide_in m] at w
                  cases w
                by_cases c : d5 = fu
                · obtain ⟨kv, w, _⟩ := hg4.ft.dict
                  rw [c, w] at nd5
                  cases nd5
                · have := hg4.keep h d6M c
                  rw [this] at nd5
                  cases nd5
            · rw [in_up fun p => hLy.fit hg4.st p]
              exact hin r c
        · rintro σ' H5 ⟨sq5, es5, d5, ks5, g5, x3, x5, x6, rfl, hg5, e56, nd5, hL5, l5, hin⟩
          obtain ⟨⟨f5, hD5, hn5⟩, pos5⟩ := id hL5
          obtain ⟨kv5, hdh, hm5⟩ := id hD5
          have d5M : d5 ∉ S.M := fun m => by rw [hide_in m] at hdh; cases hdh
          have hd5 : H5 d5 = some (.dT kv5) := hide_le _ _ hdh
          have hW5 := hg5.keep hW WM Wfu
          have nWd5 : W ≠ d5 := fun e => by rw [e, hd5] at hW5; cases hW5
          have d5f : d5 ≠ fu := fun e => by
            obtain ⟨kv, w, _⟩ := hF.dict
            rw [e, w] at nd5
            cases nd5
          refine ⟨d5, _, hd5, trivial, fun o5 => ⟨_, rfl, d5, o5, kv5, rfl, upd_same, fun Dn nDn => ?_⟩⟩
          obtain ⟨Hc, hHc⟩ : ∃ Hc, Hc = upd H5 d5 (.frz o5 (.dT kv5)) := ⟨_, rfl⟩
          rw [← hHc] at nDn
          have hSc : StoreIs T.C_Store T.C_Blocks Hc S sq5 es5 := by rw [hHc]; exact hg5.st.lock hd5 (dT_kind kv5) d5M
          have gc : Hc d5 = some (.frz o5 (.dT kv5)) := by rw [hHc, upd_same]
          have DnM := hSc.off nDn
          have nen : Dn ≠ d5 := fun e => by rw [e, gc] at nDn; cases nDn
          have nDn5 : H5 Dn = none := by rw [hHc, upd_ne nen] at nDn; exact nDn
          rw [← hHc]
          refine dcT_it walk_itemsT (fun i H' => Gr T.C_Store T.C_Blocks S 0 Hc sq5 es5 H' sq5 es5 ∧ H' d5 = some (.frz o5 (.dT kv5)) ∧ Dct H' Dn (ks5.take i) (fun p => .int (g5 p : Nat)))
            ⟨(Gr.refl 0 hSc).same (newS nDn), by rw [upd_ne nen.symm]; exact gc, Dct.new _ upd_same⟩ (fun i H' _ p => p.2.1) ?_ ?_
          · rintro i x H6 H7 hi ⟨hg, hfz, hDD⟩ ⟨tt, ky, v, q0, e, rfl, hq0, nt, rfl⟩
            obtain ⟨z, hz, rfl, rfl⟩ := hm5.at e
            have zk := List.mem_of_getElem? hz
            have li : i < ks5.length := (List.getElem?_eq_some_iff.mp hz).1
            have zn := nodup_next hm5.2 hz
            k_invariant "new" (nt, H7, e7, g7)
            have hg7 := hg.same e7
            obtain ⟨dx7, ru7, lg7', fu7, ho7⟩ := hg7.st.obj
            refine ⟨tt, _, rfl, tup_of g7, rfl, _, _, rfl, _, _, rfl, rfl, wipe2 _ 7 9 _ _, tyesT ⟨_, rfl, _, rfl, S.st, _, _, rfl, ho7, rfl, _, rfl, S, sq5, es5, f5 z, 5, g5 z, rfl, hg7.st, hn5 z zk, ?_⟩⟩
            obtain ⟨kv2, y1, y2⟩ := hDD.up e7
            refine ⟨kv2, keyP z, q0, rfl, e7 _ _ hq0, y1, by rw [y2.len, List.length_take, sizeLine_eq]; omega, ?_⟩
            have y3 := y2.put z (.int (g5 z : Nat))
            rw [addK_new zn, ← take_next hz] at y3
            refine ⟨hg7.loc hSc nDn, by rw [upd_ne nen.symm]; exact e7 _ _ hfz, ⟨_, upd_same, y3.congr fun y m => ?_⟩⟩
            unfold setG
            by_cases c : y = z
            · rw [if_pos c, c]
            · rw [if_neg c]
          · rintro H6 ⟨hg, hfz, hDD⟩
            rw [hm5.len, List.take_length] at hDD
            k_upd
            refine ⟨hfz, ?_⟩
            rw [hHc] at hg
            have hgu := hg.unlock hg5.st hd5 (dT_kind kv5) d5M
            have hDn : Dct (upd H6 d5 (.dT kv5)) Dn ks5 (fun p => .int (g5 p : Nat)) := hDD.off nen
            generalize upd H6 d5 (.dT kv5) = H7 at hgu hDn ⊢
            have hW7 := gr_fresh hgu hW5 WM
            have hg7 := hg5.gr hgu
            have nDnW : Dn ≠ W := fun e => by rw [e, hW5] at nDn5; cases nDn5
            have nDn0 : H Dn = none := by
              cases h : H Dn with
              | none => rfl
              | some o =>
                exfalso
                by_cases c : Dn = fu
                · obtain ⟨kv, w, _⟩ := hg5.ft.dict
                  rw [c, w] at nDn5
                  cases nDn5
                · have := hg5.keep h DnM c
                  rw [this] at nDn5
                  cases nDn5
            refine ⟨_, rfl, W, _, _, _, rfl, hW7, T.cl_World, T.na_World__living, by k_clsL, ?_⟩
            have gW : upd H7 W (.ins T.C_World dw (putF "_living" (.ref Dn) (wf gen ru S.st D))) W = some (.ins T.C_World dw (wf gen ru S.st Dn)) := upd_same
            have fr8 : ∀ a o, a ≠ W → H7 a = some o → upd H7 W (.ins T.C_World dw (putF "_living" (.ref Dn) (wf gen ru S.st D))) a = some o := fun a o n h => by rw [upd_ne n]; exact h
            have st8 := hg7.st.setI (o := .ins T.C_World dw (putF "_living" (.ref Dn) (wf gen ru S.st D))) hW7 rfl WM
            have ft8 := hg7.ft.setI (o := .ins T.C_World dw (putF "_living" (.ref Dn) (wf gen ru S.st D))) hW7 rfl WM
            generalize upd H7 W (.ins T.C_World dw (putF "_living" (.ref Dn) (wf gen ru S.st D))) = H8 at gW fr8 st8 ft8 ⊢
            refine ⟨_, rfl, W, _, _, _, _, rfl, gW, T.cl_World, T.na_World_generation, rfl, _, rfl, gen, (n : Int), rfl, rfl, _, _, gW, by k_clsL, ?_⟩
            have fr9 : ∀ a o, a ≠ W → H7 a = some o → upd H8 W (.ins T.C_World dw (putF "generation" (.int (gen + (n : Int))) (wf gen ru S.st Dn))) a = some o := fun a o m h => by rw [upd_ne m]; exact fr8 a o m h
            refine q _ sq5 es5 Dn ks5 g5 (fun a o n1 n2 e => ?_) (st8.setI gW rfl WM) hg7.ge e56 ((ft8.setI gW rfl WM).weak (Nat.le_refl _)) (by have := hg7.len; omega) ⟨dw, upd_same⟩ ⟨?_, pos5, fun p => ?_⟩ nDn0 hin l5
            · have h7 := hg7.fr a o n2 e
              by_cases c : a ∈ S.M
              · rw [hide_in c] at h7
                cases h7
              · rw [hide_out c] at h7 ⊢
                exact fr9 a o n1 h7
            · obtain ⟨kv, w1, w2⟩ := hDn
              exact ⟨kv, fr9 _ _ nDnW w1, w2⟩
            · exact fit_lt (l := 5) (by decide) (hL5.fit hg5.st p)
end
end My
namespace My
open PySem PySem.Spec PyProof.Rows L2 Vx
open TL
local macro_rules | `(tactic| k_invariant "new" ($n, $H:ident, $e:ident, $h:ident)) => `(tactic| (generalize hE : upd _ _ _ = $H; obtain ⟨$e:ident, $h:ident⟩ := gen_e hE $n; clear hE))
local macro_rules | `(tactic| k_places) => `(tactic| first
  | assumption
  | exact lst_of (by assumption)
  | exact tup_of (by assumption)
  | (refine getS (by assumption) ?_; k_places)
  | (refine Same.seq (by assumption) ?_; k_places)
  | (refine tupS (by assumption) ?_; k_places)
  | (refine lst_of ?_; k_places)
  | (refine tup_of ?_; k_places))
local macro_rules | `(tactic| k_subL) => `(tactic| first
  | k_places
  | solve_by_elim (maxDepth := 10) [getS, lst_of, tup_of, Same.seq, tupS])
local macro_rules | `(tactic| k_offL) => `(tactic| first
  | (show (0 : Int) < _; first | omega | decide)
  | (refine ⟨?_, ?_⟩ <;> first | omega | decide)
  | exact .inr ⟨by decide, by decide⟩
  | exact .inl ⟨by decide, by decide⟩
  | exact .inl ⟨by omega, by omega⟩
  | omega)
local macro_rules | `(tactic| k_clsL) => `(tactic| exact Nat.le_of_ble_eq_true rfl)
local macro_rules | `(tactic| k_upd) => `(tactic| simp only [L2.start, List.map_cons, List.map_nil, List.length_cons, List.length_nil, List.replicate_succ, List.replicate_zero, List.cons_append, List.nil_append, List.set_cons_zero, List.set_cons_succ])
section
variable {P : Program} {w : World} {K : PySem.W.Frag} {mg : Str → Option Value} {base : Heap}
theorem Same.rd {H H' : Hp} (e : Same H H') {a : Addr} {u : HO} (h : Rd H a u) : Rd H' a u := h.elim (fun z => .inl (e _ _ z)) fun ⟨o, z⟩ => .inr ⟨o, e _ _ z⟩
theorem cellsW_next {ps : List Pr} {g : Pr → Nat} {i : Nat} {z : Pr} (h : ps[i]? = some z) : cellsW (ps.take (i + 1)) g = cellsW (ps.take i) g ++ cellsAt z (g z) := by
  unfold cellsW
  rw [take_next h, List.map_append, List.flatten_append]
  congr 1
  show cellsAt z (g z) ++ [] = _
  rw [List.append_nil]
theorem cellsW_sub (ps : List Pr) (g : Pr → Nat) {n : Nat} : (cellsW (ps.take n) g).length ≤ (cellsW ps g).length := by
  conv => rhs; rw [← List.take_append_drop n ps]
  unfold cellsW
  rw [List.map_append, List.flatten_append, List.length_append]
  omega
def sp_cells_of_blocks (C : Addr) : Sp := fun vs H Q _ => ∃ (W ru S D a : Addr) (gen : Int) (ks : List Pr) (g : Pr → Nat) (ps : List Pr), vs = [.ref W, .ref a] ∧ WAt C H W gen ru S D ∧ LivIs H D ks g ∧ (a = D ∧ ps = ks ∨ Cells H a ps) ∧ (∀ p ∈ ps, p ∈ ks) ∧ ps.length < 1000000 ∧
  (cellsW ps g).length < 1000000 ∧ ∀ (H' : Hp) (p : Addr), H p = none → Same H H' → Cells H' p (cellsW ps g) → Q (.ref p) H'
theorem ok_World_cells_of_blocks (T : Txt K mg) : FnOk P w K mg base CX0 2 T.f_World_cells_of_blocks T.d_World_cells_of_blocks ["self", "places"] (sp_cells_of_blocks T.C_World) := by
  refine T.F_World_cells_of_blocks.ok sc_World_cells_of_blocks (fun vs H Q E h => ?_) (fun cdv A outer s H vs Q E hr h => ?_)
  · obtain ⟨_, _, _, _, _, _, _, _, _, rfl, _⟩ := h
    rfl
  · obtain ⟨W, ru, S, D, a, gen, ks, g, ps, rfl, ⟨dx, ho⟩, hL, ha, sub, fewp, few, q⟩ := h
    have hu : (A.deeper (envOfC (Str.ofString "World._cells_of_blocks") (defScope s_World_cells_of_blocks) s.heap.objs.size T.f_World_cells_of_blocks cdv)).units + 1 < cLine := by
      have := hr.units
      omega
    obtain ⟨kvs, hd, hm⟩ := id hL.dct
    rcases ha with ⟨ea, ep⟩ | hC
    · have ea := ea.symm
      subst ea ep
      refine ⟨_, (pss_cons (ps_set (i := 2) sc_World_cells_of_blocks.nd rfl (.inl rfl) (pe_lst pa_nil))
      (pss_cons (ps_lock (ps_for PassesOwn.never rfl (pi_keys (pv 1)) (pg_tupK (K := K) (n := 2) rfl rfl (pgs_cons (pg_name (i := 3) sc_World_cells_of_blocks.nd rfl (.inr rfl)) (pgs_cons (pg_name (i := 4) sc_World_cells_of_blocks.nd rfl (.inr rfl)) pgs_nil)))
      (pss_cons (ps_set (i := 5) sc_World_cells_of_blocks.nd rfl (.inl rfl) (pe_call (ok_block_cells T) (hr.mono (by decide)) (by rfl) T.g_block_cells T.F_block_cells.kp T.b_block_cells .nil pass0 (pa_cons (pe_dget hu (pe_fld (pv 0) rfl) (pe_tup (pa_cons (pv 3) (pa_cons (pv 4) pa_nil))) (fun _ _ => rfl)) pa_nil)))
      (pss_one (ps_expr (pe_bm PySem.F.plainAttrs_list PySem.F.slot_list_extend PySem.F.type_list_extend mt_extend (pv 2) (pa_cons (pe_lc (own := [("down", 6), ("beside", 7)]) (tt := tYes) rfl sc_World_cells_of_blocks.nd (pi_list (pv 5)) (blkOk_by (own := [("down", 6), ("beside", 7)]) (N := N_World_cells_of_blocks) (sc := defScope s_World_cells_of_blocks) (by decide +kernel)) (fun _ _ _ _ _ => (pg_tupK (K := K) (n := 2) rfl rfl (pgs_cons (pg_name (i := 6) sc_World_cells_of_blocks.nd rfl (.inl rfl)) (pgs_cons (pg_name (i := 7) sc_World_cells_of_blocks.nd rfl (.inl rfl)) pgs_nil)))) (fun _ _ _ _ _ => pts_nil) (fun _ _ _ _ _ => (pe_tup (pa_cons (pe_op op_add (pe_op op_mul (pv 3) (pe_gcx (by rfl) T.c_SIDE)) (pv 6)) (pa_cons (pe_op op_add (pe_op op_mul (pv 4) (pe_gcx (by rfl) T.c_SIDE)) (pv 7)) pa_nil))))) pa_nil)))))))
      (pss_one (ps_ret (pv 2))))), ?_⟩
      k_upd
      refine ⟨by k_clsL, fun p np => ?_⟩
      k_invariant "new" (np, H1, e1, g1)
      k_upd
      refine ⟨D, _, e1 _ _ hd, trivial, fun od => ⟨_, rfl, D, od, rfl, .inr ⟨kvs, upd_same, ?_⟩⟩⟩
      have nWD : W ≠ D := fun e => by rw [e, hd] at ho; cases ho
      have npD : p ≠ D := fun e => by rw [e, hd] at np; cases np
      obtain ⟨Hf, hHf⟩ : ∃ Hf, Hf = upd H1 D (.frz od (.dT kvs)) := ⟨_, rfl⟩
      rw [← hHf]
      have gf : Hf D = some (.frz od (.dT kvs)) := by rw [hHf, upd_same]
      have hof : Hf W = some (.ins T.C_World dx (wf gen ru S D)) := by rw [hHf, upd_ne nWD]; exact e1 _ _ ho
      have gp : Hf p = some (.lst []) := by rw [hHf, upd_ne npD]; exact g1
      have rd : Rd Hf D (.dT kvs) := .inr ⟨od, gf⟩
      have un : ∀ {H' : Hp}, (∀ b o, b ≠ p → Hf b = some o → H' b = some o) → Same H (upd H' D (.dT kvs)) := fun {H'} e b o h => by
        by_cases c : b = D
        · rw [c, hd] at h
          rw [c, upd_same]
          exact h
        · rw [upd_ne c]
          refine e _ _ (fun z => by rw [z, np] at h; cases h) ?_
          rw [hHf, upd_ne c]
          exact e1 _ _ h
      refine for_it walk_keysT (fun i σ H' => (∀ b o, b ≠ p → Hf b = some o → H' b = some o) ∧ ∃ (us : List (Addr × Pr)) (x3 x4 x5 x6 x7 : Option V), σ = [some (.ref W), some (.ref D), some (.ref p), x3, x4, x5, x6, x7] ∧ H' p = some (.lst (us.map fun t => V.ref t.1)) ∧ (∀ t ∈ us, H' t.1 = some (.tup [.int t.2.1, .int t.2.2])) ∧ us.map (·.2) = cellsW (ps.take i) g)
        ⟨fun _ _ _ h => h, [], _, _, _, _, _, rfl, gp, fun _ m => (by cases m), rfl⟩ (fun i σ H' _ p => p.1 _ _ npD.symm gf) ?_ ?_
      · rintro i x σ H2 H3 hi ⟨sm, us, x3, x4, x5, x6, x7, rfl, hp, hu, eus⟩ ⟨rfl, k, v, q0, e, rfl, hq⟩
        obtain ⟨z, hz, rfl, rfl⟩ := hm.at e
        have zk := List.mem_of_getElem? hz
        refine ⟨q0, _, rfl, tup_of hq, rfl, _, _, rfl, _, _, rfl, rfl, ?_⟩
        k_upd
        refine ⟨_, rfl, W, _, _, _, _, rfl, sm _ _ (fun e => by rw [e, gp] at hof; cases hof) hof, T.cl_World, T.na_World__living, rfl, _, rfl, _, rfl, (by k_clsL), fun tq nq => ?_⟩
        k_invariant "new" (nq, H4, e4, g4)
        have dg : DGet H4 D (.ref tq) (some (.int (g z : Nat))) := .inr ⟨kvs, keyP z, tq, (Same.rd e4 (rd.elim (fun y => .inl (sm _ _ (fun e => by rw [e, gp] at y; cases y) y)) fun ⟨o, y⟩ => .inr ⟨o, sm _ _ (fun e => by rw [e, gp] at y; cases y) y⟩)), rfl, g4, by rw [hm.get, if_pos zk]⟩
        refine ⟨D, _, rfl, dg, ?_⟩
        refine ⟨g z, hL.lt z, rfl, fun H5 pl npl e5 h5 => ?_⟩
        k_upd
        have hp5 := e5 _ _ (e4 _ _ hp)
        have ll : (cellsN (g z)).length ≤ 1024 := by
          rw [cellsN_len]
          exact bitsB_len 1024 (g z)
        refine ⟨_, rfl, .inl ⟨rfl, _, lst_of hp5⟩, _, rfl, _, rfl, ⟨_, lst_of h5.choose_spec.1⟩, fun D2 nD2 => lc_cells (fun y => (z.1 * 32 + y.1, z.2 * 32 + y.2)) h5 nD2 (by rw [sizeLine_eq]; omega) (fun t y H' Po Pn _ ht hq => ?_) fun H6 e6 h6 => ?_⟩
        · exact ⟨t, _, rfl, tup_of ht, rfl, _, _, rfl, _, _, rfl, rfl, rfl, tyesT ⟨_, rfl, _, _, rfl, rfl, (by k_offL), _, rfl, _, _, rfl, rfl, _, rfl, _, _, rfl, rfl, (by k_offL), _, rfl, _, _, rfl, rfl, (by k_clsL), fun t2 n2 => hq t2 n2⟩⟩
        obtain ⟨ws, w1, w2, w3⟩ := h6
        have hp6 := e6 _ _ hp5
        have w3 : ws.map (·.2) = cellsAt z (g z) := w3
        have tot : us.length + ws.length ≤ (cellsW ps g).length := by
          have h1 : us.length = (cellsW (ps.take i) g).length := by rw [← eus, List.length_map]
          have h2 : ws.length = (cellsAt z (g z)).length := by rw [← w3, List.length_map]
          rw [h1, h2, ← List.length_append, ← cellsW_next hz]
          exact cellsW_sub _ _
        refine ⟨_, _, _, _, rfl, rfl, hp6, w1, by rw [List.length_map, List.length_map, sizeLine_eq]; omega, ?_⟩
        have off : ∀ b o, H6 b = some o → (∀ xs, o ≠ .lst xs) → upd H6 p (.lst ((us.map fun t => V.ref t.1) ++ ws.map fun t => V.ref t.1)) b = some o := fun b o e ne => by
          rw [upd_ne fun z => ?_]
          · exact e
          · rw [z, hp6] at e
            exact ne _ (Option.some.inj e).symm
        refine ⟨fun b o n h => (by rw [upd_ne n]; exact e6 _ _ (e5 _ _ (e4 _ _ (sm _ _ n h)))), us ++ ws, _, _, _, _, _, rfl, by rw [upd_same, List.map_append], fun t m => ?_, ?_⟩
        · rcases List.mem_append.mp m with m | m
          · exact off _ _ (e6 _ _ (e5 _ _ (e4 _ _ (hu t m)))) (fun _ z => by cases z)
          · exact off _ _ (w2 t m) (fun _ z => by cases z)
        · rw [List.map_append, eus, w3, ← cellsW_next hz]
      · rintro σ H2 ⟨sm, us, x3, x4, x5, x6, x7, rfl, hp, hu, eus⟩
        rw [hm.len, List.take_length] at eus
        refine ⟨sm _ _ npD.symm gf, ?_⟩
        have off : ∀ b o, H2 b = some o → (∀ x y, o ≠ .frz x y) → upd H2 D (.dT kvs) b = some o := fun b o e ne => by
          rw [upd_ne fun z => ?_]
          · exact e
          · rw [z, sm _ _ npD.symm gf] at e
            exact ne _ _ (Option.some.inj e).symm
        exact ⟨_, rfl, q _ p np (un sm) ⟨us, off _ _ hp (fun _ _ z => by cases z), fun t m => off _ _ (hu t m) (fun _ _ z => by cases z), eus⟩⟩
    · skip
      refine ⟨_, (pss_cons (ps_set (i := 2) sc_World_cells_of_blocks.nd rfl (.inl rfl) (pe_lst pa_nil))
      (pss_cons (ps_for PassesOwn.never rfl (pi_list (pv 1)) (pg_tupK (K := K) (n := 2) rfl rfl (pgs_cons (pg_name (i := 3) sc_World_cells_of_blocks.nd rfl (.inr rfl)) (pgs_cons (pg_name (i := 4) sc_World_cells_of_blocks.nd rfl (.inr rfl)) pgs_nil)))
      (pss_cons (ps_set (i := 5) sc_World_cells_of_blocks.nd rfl (.inl rfl) (pe_call (ok_block_cells T) (hr.mono (by decide)) (by rfl) T.g_block_cells T.F_block_cells.kp T.b_block_cells .nil pass0 (pa_cons (pe_dget hu (pe_fld (pv 0) rfl) (pe_tup (pa_cons (pv 3) (pa_cons (pv 4) pa_nil))) (fun _ _ => rfl)) pa_nil)))
      (pss_one (ps_expr (pe_bm PySem.F.plainAttrs_list PySem.F.slot_list_extend PySem.F.type_list_extend mt_extend (pv 2) (pa_cons (pe_lc (own := [("down", 6), ("beside", 7)]) (tt := tYes) rfl sc_World_cells_of_blocks.nd (pi_list (pv 5)) (blkOk_by (own := [("down", 6), ("beside", 7)]) (N := N_World_cells_of_blocks) (sc := defScope s_World_cells_of_blocks) (by decide +kernel)) (fun _ _ _ _ _ => (pg_tupK (K := K) (n := 2) rfl rfl (pgs_cons (pg_name (i := 6) sc_World_cells_of_blocks.nd rfl (.inl rfl)) (pgs_cons (pg_name (i := 7) sc_World_cells_of_blocks.nd rfl (.inl rfl)) pgs_nil)))) (fun _ _ _ _ _ => pts_nil) (fun _ _ _ _ _ => (pe_tup (pa_cons (pe_op op_add (pe_op op_mul (pv 3) (pe_gcx (by rfl) T.c_SIDE)) (pv 6)) (pa_cons (pe_op op_add (pe_op op_mul (pv 4) (pe_gcx (by rfl) T.c_SIDE)) (pv 7)) pa_nil))))) pa_nil))))))
      (pss_one (ps_ret (pv 2))))), ?_⟩
      k_upd
      obtain ⟨ts, hl, ht, ets⟩ := id hC
      refine ⟨by k_clsL, fun p np => ?_⟩
      k_invariant "new" (np, H1, e1, g1)
      k_upd
      have lts : ts.length = ps.length := by rw [← ets, List.length_map]
      refine ⟨_, rfl, a, rfl, ⟨_, lst_of (e1 _ _ hl)⟩, ?_⟩
      have nap : a ≠ p := fun e => by rw [← e, hl] at np; cases np
      have hof : H1 W = some (.ins T.C_World dx (wf gen ru S D)) := e1 _ _ ho
      have rd : Rd H1 D (.dT kvs) := .inl (e1 _ _ hd)
      refine for_list (K := K) (a := a) (xs := ts.map fun t => V.ref t.1) (fun i σ H' => (∀ b o, b ≠ p → H1 b = some o → H' b = some o) ∧ ∃ (us : List (Addr × Pr)) (x3 x4 x5 x6 x7 : Option V), σ = [some (.ref W), some (.ref a), some (.ref p), x3, x4, x5, x6, x7] ∧ H' p = some (.lst (us.map fun t => V.ref t.1)) ∧ (∀ t ∈ us, H' t.1 = some (.tup [.int t.2.1, .int t.2.2])) ∧ us.map (·.2) = cellsW (ps.take i) g)
        ⟨fun _ _ _ h => h, [], _, _, _, _, _, rfl, g1, fun _ m => (by cases m), rfl⟩ (fun i σ H' _ p => lst_of (p.1 _ _ nap (e1 _ _ hl))) ?_ ?_
      · rintro i x σ H3 hi ⟨sm, us, x3, x4, x5, x6, x7, rfl, hp, hu, eus⟩
        obtain ⟨t, mt, rfl, hz'⟩ := item_cells (H := H3) hi rfl
        rw [ets] at hz'
        obtain ⟨z, ez⟩ : ∃ z, z = t.2 := ⟨_, rfl⟩
        rw [← ez] at hz'
        have hz := hz'
        have zk := sub z (List.mem_of_getElem? hz)
        have htt := e1 _ _ (ht t mt)
        have hq : H3 t.1 = some (.tup [.int z.1, .int z.2]) := by rw [ez]; exact sm _ _ (fun y => by rw [y, g1] at htt; cases htt) htt
        refine ⟨t.1, _, rfl, tup_of hq, rfl, _, _, rfl, _, _, rfl, rfl, ?_⟩
        k_upd
        refine ⟨_, rfl, W, _, _, _, _, rfl, sm _ _ (fun e => by rw [e, g1] at hof; cases hof) hof, T.cl_World, T.na_World__living, rfl, _, rfl, _, rfl, (by k_clsL), fun tq nq => ?_⟩
        k_invariant "new" (nq, H4, e4, g4)
        have dg : DGet H4 D (.ref tq) (some (.int (g z : Nat))) := .inr ⟨kvs, keyP z, tq, (Same.rd e4 (rd.elim (fun y => .inl (sm _ _ (fun e => by rw [e, g1] at y; cases y) y)) fun ⟨o, y⟩ => .inr ⟨o, sm _ _ (fun e => by rw [e, g1] at y; cases y) y⟩)), rfl, g4, by rw [hm.get, if_pos zk]⟩
        refine ⟨D, _, rfl, dg, ?_⟩
        refine ⟨g z, hL.lt z, rfl, fun H5 pl npl e5 h5 => ?_⟩
        k_upd
        have hp5 := e5 _ _ (e4 _ _ hp)
        have ll : (cellsN (g z)).length ≤ 1024 := by
          rw [cellsN_len]
          exact bitsB_len 1024 (g z)
        refine ⟨_, rfl, .inl ⟨rfl, _, lst_of hp5⟩, _, rfl, _, rfl, ⟨_, lst_of h5.choose_spec.1⟩, fun D2 nD2 => lc_cells (fun y => (z.1 * 32 + y.1, z.2 * 32 + y.2)) h5 nD2 (by rw [sizeLine_eq]; omega) (fun t y H' Po Pn _ ht hq => ?_) fun H6 e6 h6 => ?_⟩
        · exact ⟨t, _, rfl, tup_of ht, rfl, _, _, rfl, _, _, rfl, rfl, rfl, tyesT ⟨_, rfl, _, _, rfl, rfl, (by k_offL), _, rfl, _, _, rfl, rfl, _, rfl, _, _, rfl, rfl, (by k_offL), _, rfl, _, _, rfl, rfl, (by k_clsL), fun t2 n2 => hq t2 n2⟩⟩
        obtain ⟨ws, w1, w2, w3⟩ := h6
        have hp6 := e6 _ _ hp5
        have w3 : ws.map (·.2) = cellsAt z (g z) := w3
        have tot : us.length + ws.length ≤ (cellsW ps g).length := by
          have h1 : us.length = (cellsW (ps.take i) g).length := by rw [← eus, List.length_map]
          have h2 : ws.length = (cellsAt z (g z)).length := by rw [← w3, List.length_map]
          rw [h1, h2, ← List.length_append, ← cellsW_next hz]
          exact cellsW_sub _ _
        refine ⟨_, _, _, _, rfl, rfl, hp6, w1, by rw [List.length_map, List.length_map, sizeLine_eq]; omega, ?_⟩
        have off : ∀ b o, H6 b = some o → (∀ xs, o ≠ .lst xs) → upd H6 p (.lst ((us.map fun t => V.ref t.1) ++ ws.map fun t => V.ref t.1)) b = some o := fun b o e ne => by
          rw [upd_ne fun z => ?_]
          · exact e
          · rw [z, hp6] at e
            exact ne _ (Option.some.inj e).symm
        refine ⟨fun b o n h => (by rw [upd_ne n]; exact e6 _ _ (e5 _ _ (e4 _ _ (sm _ _ n h)))), us ++ ws, _, _, _, _, _, rfl, by rw [upd_same, List.map_append], fun t m => ?_, ?_⟩
        · rcases List.mem_append.mp m with m | m
          · exact off _ _ (e6 _ _ (e5 _ _ (e4 _ _ (hu t m)))) (fun _ z => by cases z)
          · exact off _ _ (w2 t m) (fun _ z => by cases z)
        · rw [List.map_append, eus, w3, ← cellsW_next hz]
      · rintro σ H2 ⟨sm, us, x3, x4, x5, x6, x7, rfl, hp, hu, eus⟩
        rw [List.length_map, lts, List.take_length] at eus
        exact ⟨_, rfl, q _ p np (fun b o h => sm _ _ (fun z => by rw [z, np] at h; cases h) (e1 _ _ h)) ⟨us, hp, hu, eus⟩⟩
theorem sum_nat : ∀ l : List Nat, (l.map fun n => ((n : Nat) : Int)).sum = ((l.sum : Nat) : Int)
  | [] => rfl
  | a :: l => by
    rw [List.map_cons, List.sum_cons, List.sum_cons, sum_nat l]
    omega
def sp_World_count (C : Addr) : Sp := fun vs H Q _ => ∃ (W ru S D : Addr) (gen : Int) (ks : List Pr) (g : Pr → Nat), vs = [.ref W] ∧ WAt C H W gen ru S D ∧ LivIs H D ks g ∧ ks.length < 1000000 ∧
  ∀ H', Same H H' → Q (.int ((cellsW ks g).length : Nat)) H'
theorem ok_World_count (T : Txt K mg) : FnOk P w K mg base CX0 2 T.f_World_count T.d_World_count ["self"] (sp_World_count T.C_World) := by
  refine T.F_World_count.ok sc_World_count (fun vs H Q E h => ?_) (fun cdv A outer s H vs Q E hr h => ?_)
  · obtain ⟨_, _, _, _, _, _, _, rfl, _⟩ := h
    rfl
  · obtain ⟨W, ru, S, D, gen, ks, g, rfl, ⟨dx, ho⟩, hL, few, q⟩ := h
    obtain ⟨kvs, hd, hm⟩ := id hL.dct
    have nWD : W ≠ D := fun e => by rw [e, hd] at ho; cases ho
    refine ⟨_, (pss_one (ps_ret (pe_callB (cr_sum rfl) (by rfl) T.z_sum (by decide +kernel) (pa_cons (pe_lock (pe_lc (own := [("block", 1)]) (g := gName 1) (tt := tYes) rfl sc_World_count.nd (pi_valuesT (pe_fld (pv 0) rfl)) (blkOk_by (own := [("block", 1)]) (N := N_World_count) (sc := defScope s_World_count) (by decide +kernel)) (fun _ _ _ _ _ => pg_name (i := 1) sc_World_count.nd rfl (Or.inl rfl)) (fun _ _ _ _ _ => pts_nil) (fun _ _ _ _ _ => (pe_call (ok_block_count T) (hr.mono (by decide)) (by rfl) T.g_block_count T.F_block_count.kp T.b_block_count .nil pass0 (pa_cons (pv 1) pa_nil))))) pa_nil)))), ?_⟩
    k_upd
    refine ⟨D, _, hd, trivial, fun od => ⟨_, rfl, W, _, _, _, _, rfl, (by rw [upd_ne nWD]; exact ho), T.cl_World, T.na_World__living, rfl, D, od, kvs, rfl, upd_same, fun L nL => lc_it walk_valuesT
      (fun i H' => Same (upd H D (.frz od (.dT kvs))) H' ∧ H' L = some (.lst (((ks.take i).map fun p => ((popN (g p) : Nat) : Int)).map V.int))) ⟨newS nL, upd_same⟩ (fun i H' _ p => p.1 _ _ upd_same) ?_ ?_⟩⟩
    · rintro i x H' H2 hi ⟨sm, hp⟩ ⟨rfl, k, e⟩
      obtain ⟨z, hz, rfl, rfl⟩ := hm.at e
      refine ⟨rfl, tyesT ⟨_, rfl, g z, hL.lt z, rfl, _, hp, ?_, mutS sm nL, ?_⟩⟩
      · rw [List.length_map, List.length_map, List.length_take, sizeLine_eq]
        omega
      · rw [upd_same, take_next hz, List.map_append, List.map_append]
        rfl
    · rintro H' ⟨sm, hp⟩
      rw [hm.len, List.take_length] at hp
      have gD := sm _ _ upd_same
      refine ⟨gD, ?_⟩
      have nLD : L ≠ D := fun e => by rw [e, upd_same] at nL; cases nL
      refine ⟨L, _, rfl, lst_of (by rw [upd_ne nLD]; exact hp), ?_⟩
      have es : (ks.map fun p => ((popN (g p) : Nat) : Int)).sum = (((cellsW ks g).length : Nat) : Int) := by
        rw [cellsW_len, ← sum_nat, List.map_map]
        rfl
      rw [es]
      refine q _ fun b o h => ?_
      by_cases c : b = D
      · rw [c, hd] at h
        rw [c, upd_same]
        exact h
      · rw [upd_ne c]
        exact sm _ _ (by rw [upd_ne c]; exact h)
def sp_World_cells (C : Addr) : Sp := fun vs H Q _ => ∃ (W ru S D : Addr) (gen : Int) (ks : List Pr) (g : Pr → Nat), vs = [.ref W] ∧ WAt C H W gen ru S D ∧ LivIs H D ks g ∧ ks.length < 1000000 ∧ (cellsW ks g).length < 1000000 ∧
  ∀ (H' : Hp) (p : Addr) (qs : List Pr), H p = none → Same H H' → Cells H' p qs → qs.Pairwise ltP → (∀ x, x ∈ qs ↔ inB g x = true) → qs.length = (cellsW ks g).length → Q (.ref p) H'
theorem LivIs.mem {H : Hp} {D : Addr} {ks : List Pr} {g : Pr → Nat} (h : LivIs H D ks g) (x : Pr) : x ∈ cellsW ks g ↔ inB g x = true := by
  rw [cellsW_mem]
  refine ⟨fun z => z.2, fun t => ⟨(h.pos _).mpr fun z => ?_, t⟩⟩
  unfold inB at t
  rw [z, Nat.zero_testBit] at t
  cases t
theorem ok_World_cells (T : Txt K mg) : FnOk P w K mg base CX0 3 T.f_World_cells T.d_World_cells ["self"] (sp_World_cells T.C_World) := by
  refine T.F_World_cells.ok sc_World_cells (fun vs H Q E h => ?_) (fun cdv A outer s H vs Q E hr h => ?_)
  · obtain ⟨_, _, _, _, _, _, _, rfl, _⟩ := h
    rfl
  · obtain ⟨W, ru, S, D, gen, ks, g, rfl, hW, hL, few, fewc, q⟩ := h
    obtain ⟨dx, ho⟩ := id hW
    refine ⟨_, (pss_one (ps_ret (pe_callB cr_sortedC (by rfl) T.z_sorted (by decide +kernel) (pa_cons (pe_meth (pv 0) T.cl_World T.m_World_cells_of_blocks (ok_World_cells_of_blocks T) (hr.mono (by decide)) T.b_World_cells_of_blocks .nil pass0 (pa_cons (pe_fld (pv 0) rfl) pa_nil)) pa_nil)))), ?_⟩
    k_upd
    refine ⟨_, rfl, W, _, _, rfl, ho, rfl, _, rfl, W, _, _, _, _, rfl, ho, T.cl_World, T.na_World__living, rfl, W, ru, S, D, D, gen, ks, g, ks, rfl, hW, hL, .inl ⟨rfl, rfl⟩, fun _ m => m, few, fewc, fun H1 p1 n1 e1 h1 => ?_⟩
    refine ⟨p1, _, rfl, h1, cellsW_nd hL.nd, fun p2 H2 qs e2 n2 h2 c2 l2 => ?_⟩
    exact q H2 p2 qs (backS e1 n2) (e1.trans e2) h2 c2.1 (fun x => (c2.2 x).trans (hL.mem x)) l2
end
end My
namespace My
open PySem PySem.Spec PyProof.Rows L2 Vx
open TL
local macro_rules | `(tactic| k_invariant "new" ($n, $H:ident, $e:ident, $h:ident)) => `(tactic| (generalize hE : upd _ _ _ = $H; obtain ⟨$e:ident, $h:ident⟩ := gen_e hE $n; clear hE))
local macro_rules | `(tactic| k_places) => `(tactic| first
  | assumption
  | exact lst_of (by assumption)
  | exact tup_of (by assumption)
  | (refine getS (by assumption) ?_; k_places)
  | (refine Same.seq (by assumption) ?_; k_places)
  | (refine tupS (by assumption) ?_; k_places)
  | (refine lst_of ?_; k_places)
  | (refine tup_of ?_; k_places))
local macro_rules | `(tactic| k_subL) => `(tactic| first
  | k_places
  | solve_by_elim (maxDepth := 10) [getS, lst_of, tup_of, Same.seq, tupS])
local macro_rules | `(tactic| k_offL) => `(tactic| first
  | (show (0 : Int) < _; first | omega | decide)
  | (refine ⟨?_, ?_⟩ <;> first | omega | decide)
  | exact .inr ⟨by decide, by decide⟩
  | exact .inl ⟨by decide, by decide⟩
  | exact .inl ⟨by omega, by omega⟩
  | omega)
local macro_rules | `(tactic| k_clsL) => `(tactic| exact Nat.le_of_ble_eq_true rfl)
local macro_rules | `(tactic| k_upd) => `(tactic| simp only [L2.start, List.map_cons, List.map_nil, List.length_cons, List.length_nil, List.replicate_succ, List.replicate_zero, List.cons_append, List.nil_append, List.set_cons_zero, List.set_cons_succ])
section
variable {P : Program} {w : World} {K : PySem.W.Frag} {mg : Str → Option Value} {base : Heap}
/-! ### a world and all that is its own -/
def ownX (W D fu : Addr) (A : SA) : List Addr := W :: D :: fu :: A.M
structure WSt (C CB CR CW : Addr) (bs ss : List Int) (H : Hp) (W ru D : Addr) (gen : Int) (A : SA) (fu : Addr) (sq : List Pr) (es : Nat) (ks : List Pr) (g : Pr → Nat) (B : Nat) : Prop where
  wat : WAt CW H W gen ru A.st D
  liv : LivIs H D ks g
  dM : D ∉ A.M
  df : D ≠ fu
  st : StoreIs C CB H A sq es
  e1 : 1 ≤ es
  e6 : es ≤ 6
  ft : FutAt C CB CR H A fu bs ss B sq
  rl : RuleAt CR (hide A.M H) ru bs ss
section
variable {C CB CR CW : Addr} {bs ss : List Int} {H H' : Hp} {W ru D : Addr} {gen : Int} {A : SA} {fu : Addr} {sq : List Pr} {es : Nat} {ks : List Pr} {g : Pr → Nat} {B : Nat}
theorem WSt.up (h : WSt C CB CR CW bs ss H W ru D gen A fu sq es ks g B) (e : Same H H') : WSt C CB CR CW bs ss H' W ru D gen A fu sq es ks g B :=
  ⟨h.wat.up e, h.liv.up e, h.dM, h.df, h.st.up e, h.e1, h.e6, h.ft.gr ((Gr.refl 0 h.st).same e), h.rl.up (hide_up e)⟩
theorem WSt.own (h : WSt C CB CR CW bs ss H W ru D gen A fu sq es ks g B) : ∀ a ∈ ownX W D fu A, ∃ o, H a = some o := fun a m => by
  unfold ownX at m
  rcases List.mem_cons.mp m with e | m
  · obtain ⟨dx, z⟩ := h.wat
    exact ⟨_, by rw [e]; exact z⟩
  rcases List.mem_cons.mp m with e | m
  · obtain ⟨kv, z, _⟩ := h.liv.dct
    exact ⟨_, by rw [e]; exact z⟩
  rcases List.mem_cons.mp m with e | m
  · obtain ⟨kv, z, _⟩ := h.ft.dict
    exact ⟨_, by rw [e]; exact z⟩
  · cases z : H a with
    | some o => exact ⟨o, rfl⟩
    | none => exact absurd m (h.st.off z)
theorem StoreIs.apartW {N : List Addr} {sq' : List Pr} {es' : Nat} (h : StoreIs C CB (hide N H) A sq es) (h' : StoreIs C CB H' A sq' es') (blk : BlkAt CB (hide A.M (hide N H')) A.bo) : StoreIs C CB (hide N H') A sq' es' := by
  have nh : ∀ {a : Addr} {o : HO}, hide N H a = some o → a ∉ N := fun e m => by rw [hide_in m] at e; cases e
  obtain ⟨⟨dx, ru, lg, fu, h1⟩, h2, h3, h4, h5, ⟨us, h6, h7⟩, ⟨kvs, h8, h8'⟩, h9, h10, h11, h12⟩ := h'
  obtain ⟨⟨dx', ru', lg', fu', k1⟩, k2, k3, k4, k5, ⟨us', k6, k7⟩, ⟨kvs', k8, k8'⟩, k9, _, _, _⟩ := h
  exact ⟨⟨dx, ru, lg, fu, by rw [hide_out (nh k1)]; exact h1⟩, blk, by rw [hide_out (nh k3)]; exact h3, by rw [hide_out (nh k4)]; exact h4, by rw [hide_out (nh k5)]; exact h5, ⟨us, by rw [hide_out (nh k6)]; exact h6, h7⟩, ⟨kvs, by rw [hide_out (nh k8)]; exact h8, h8'⟩, by rw [hide_out (nh k9)]; exact h9, h10, h11, h12⟩
/-- after a change of the world's own: still apart from others -/
theorem WSt.apart {N : List Addr} {D' : Addr} {gen' : Int} {sq' : List Pr} {es' : Nat} {ks' : List Pr} {g' : Pr → Nat} {B' : Nat} (h : WSt C CB CR CW bs ss (hide N H) W ru D gen A fu sq es ks g B)
    (fr : ∀ a o, a ≠ W → a ≠ fu → a ≠ D → hide A.M H a = some o → hide A.M H' a = some o) (h' : WSt C CB CR CW bs ss H' W ru D' gen' A fu sq' es' ks' g' B') (nD : D' ∉ N) : WSt C CB CR CW bs ss (hide N H') W ru D' gen' A fu sq' es' ks' g' B' := by
  have nh : ∀ {a : Addr} {o : HO}, hide N H a = some o → a ∉ N := fun e m => by rw [hide_in m] at e; cases e
  obtain ⟨dw, hw⟩ := h.wat
  obtain ⟨kvD, hD, _⟩ := h.liv.dct
  obtain ⟨kvf, hf, fM⟩ := h.ft.dict
  have lw : (wf gen ru A.st D).length = 4 := rfl
  have fr2 : ∀ {a : Addr} {o : HO}, hide A.M (hide N H) a = some o → (∀ kvs, o ≠ .dT kvs) → a ≠ W → hide A.M (hide N H') a = some o := fun {a o} e n nW => by
    have e2 := hide_le _ _ e
    have aN := nh e2
    have aM : a ∉ A.M := fun m => by rw [hide_in m] at e; cases e
    have e3 : H a = some o := hide_le _ _ e2
    have := fr a o nW (fun z => by rw [z, hf] at e2; exact n _ (Option.some.inj e2).symm) (fun z => by rw [z, hD] at e2; exact n _ (Option.some.inj e2).symm) (by rw [hide_out aM]; exact e3)
    rw [hide_out aM] at this ⊢
    rw [hide_out aN]
    exact this
  have nW : ∀ {a : Addr} {o : HO}, hide A.M (hide N H) a = some o → (∀ C dx fs, o ≠ .ins C dx fs) → a ≠ W := fun e n z => by
    have := hide_le _ _ e
    rw [z, hw] at this
    exact n _ _ _ (Option.some.inj this).symm
  have nWi : ∀ {a C' dx : Addr} {fs : List (Str × V)}, hide A.M (hide N H) a = some (.ins C' dx fs) → fs.length ≠ 4 → a ≠ W := fun e n => inst_ne (hide_le _ _ e) hw (by rw [lw]; exact n)
  have rule : ∀ {r : Addr}, RuleAt CR (hide A.M (hide N H)) r bs ss → RuleAt CR (hide A.M (hide N H')) r bs ss := fun ⟨dr, tb, ts, r1, r2, r3⟩ =>
    ⟨dr, tb, ts, fr2 r1 (fun _ z => by cases z) (nWi r1 (fun z => by cases z)), fr2 r2 (fun _ z => by cases z) (nW r2 fun _ _ _ z => by cases z), fr2 r3 (fun _ z => by cases z) (nW r3 fun _ _ _ z => by cases z)⟩
  have blk : BlkR CB CR (hide A.M (hide N H')) A.bo bs ss := by
    obtain ⟨dxb, rub, flb, hb1, hb2, hr⟩ := h.ft.rl
    exact ⟨dxb, rub, flb, fr2 hb1 (fun _ z => by cases z) (nWi hb1 (fun z => by cases z)), fr2 hb2 (fun _ z => by cases z) (nW hb2 fun _ _ _ z => by cases z), rule hr⟩
  have WN := nh hw
  obtain ⟨dw', hw'⟩ := h'.wat
  obtain ⟨kvD', hD', hD2'⟩ := h'.liv.dct
  obtain ⟨⟨dx, ru1, lg, f1⟩, _, fs, gf, ⟨kv, f3, f3'⟩, f4, f5⟩ := h'.ft
  have stN : A.st ∉ N := by
    obtain ⟨_, _, _, _, z⟩ := h.st.obj
    exact nh z
  have stM : A.st ∉ A.M := (List.nodup_cons.mp h.st.nd).1
  have fN : fu ∉ N := nh hf
  refine ⟨⟨dw', by rw [hide_out WN]; exact hw'⟩, ⟨⟨kvD', by rw [hide_out nD]; exact hD', hD2'⟩, h'.liv.pos, h'.liv.lt⟩, h'.dM, h'.df, h.st.apartW h'.st blk.at, h'.e1, h'.e6, ⟨⟨dx, ru1, lg, ?_⟩, blk, fs, gf, ⟨kv, ?_, f3'⟩, f4, f5⟩, rule h.rl⟩
  · rw [hide_out stM] at f1 ⊢
    rw [hide_out stN]
    exact f1
  · rw [hide_out fM] at f3 ⊢
    rw [hide_out fN]
    exact f3
end
end
end My
namespace My
open PySem PySem.Spec PyProof.Rows L2 Vx
open TL
local macro_rules | `(tactic| k_invariant "new" ($n, $H:ident, $e:ident, $h:ident)) => `(tactic| (generalize hE : upd _ _ _ = $H; obtain ⟨$e:ident, $h:ident⟩ := gen_e hE $n; clear hE))
local macro_rules | `(tactic| k_places) => `(tactic| first
  | assumption
  | exact lst_of (by assumption)
  | exact tup_of (by assumption)
  | (refine getS (by assumption) ?_; k_places)
  | (refine Same.seq (by assumption) ?_; k_places)
  | (refine tupS (by assumption) ?_; k_places)
  | (refine lst_of ?_; k_places)
  | (refine tup_of ?_; k_places))
local macro_rules | `(tactic| k_subL) => `(tactic| first
  | k_places
  | solve_by_elim (maxDepth := 10) [getS, lst_of, tup_of, Same.seq, tupS])
local macro_rules | `(tactic| k_offL) => `(tactic| first
  | (show (0 : Int) < _; first | omega | decide)
  | (refine ⟨?_, ?_⟩ <;> first | omega | decide)
  | exact .inr ⟨by decide, by decide⟩
  | exact .inl ⟨by decide, by decide⟩
  | exact .inl ⟨by omega, by omega⟩
  | omega)
local macro_rules | `(tactic| k_clsL) => `(tactic| exact Nat.le_of_ble_eq_true rfl)
local macro_rules | `(tactic| k_upd) => `(tactic| simp only [L2.start, List.map_cons, List.map_nil, List.length_cons, List.length_nil, List.replicate_succ, List.replicate_zero, List.cons_append, List.nil_append, List.set_cons_zero, List.set_cons_succ])
section
variable {P : Program} {w : World} {K : PySem.W.Frag} {mg : Str → Option Value} {base : Heap}
def Have (st : Addr) (H : Hp) (L : List (Addr × HO)) : Prop := (∀ x ∈ L, x.1 ≠ st ∧ H x.1 = some x.2) ∧ (L.map (·.1)).Nodup
theorem Have.fld {st : Addr} {H : Hp} {L : List (Addr × HO)} {o : HO} (h : Have st H L) : Have st (upd H st o) L :=
  ⟨fun x m => ⟨(h.1 x m).1, by rw [upd_ne (h.1 x m).1]; exact (h.1 x m).2⟩, h.2⟩
theorem Have.new {st p : Addr} {H H1 : Hp} {L : List (Addr × HO)} {o u : HO} (h : Have st H L) (e : Same H H1) (n : H p = none) (g : H1 p = some o) (hs : H st = some u) : Have st H1 ((p, o) :: L) := by
  refine ⟨fun x m => ?_, ?_⟩
  · rcases List.mem_cons.mp m with z | m
    · subst z
      exact ⟨fun z => (by dsimp only at z; rw [z, hs] at n; cases n), g⟩
    · exact ⟨(h.1 x m).1, e _ _ (h.1 x m).2⟩
  · rw [List.map_cons, List.nodup_cons]
    refine ⟨fun m => ?_, h.2⟩
    obtain ⟨x, mx, ex⟩ := List.mem_map.mp m
    have := (h.1 x mx).2
    dsimp only at ex
    rw [ex, n] at this
    cases this
theorem Have.same {st : Addr} {H H1 : Hp} {L : List (Addr × HO)} (h : Have st H L) (e : Same H H1) : Have st H1 L := ⟨fun x m => ⟨(h.1 x m).1, e _ _ (h.1 x m).2⟩, h.2⟩
def sp_Store_init (C CB : Addr) : Sp := fun vs H Q _ => ∃ (H0 : Hp) (st ru dx : Addr), vs = [.ref st, .ref ru] ∧ Same H0 H ∧ H0 st = none ∧ H st = some (.ins C dx []) ∧
  ∀ (H' : Hp) (A : SA), A.st = st → Same H0 (hide A.M H') → StoreIs C CB H' A [((0 : Int), (0 : Int)), (0, 1)] 1 → (∃ dx lg fu, hide A.M H' A.st = some (.ins C dx (sf ru A.bo A.la A.ca A.ba A.pa A.sm lg A.em fu)) ∧ hide A.M H' fu = some (.dT []) ∧ H0 fu = none) → BlkN CB H0 (hide A.M H') A.bo ru → Q .non H'
theorem ok_Store_init (T : Txt K mg) : FnOk P w K mg base CX0 4 T.f_Store_init T.d_Store_init ["self", "rule"] (sp_Store_init T.C_Store T.C_Blocks) := by
  refine T.F_Store_init.ok sc_Store_init (fun vs H Q E h => ?_) (fun cdv A outer s H vs Q E hr h => ?_)
  · obtain ⟨_, _, _, _, rfl, _⟩ := h
    rfl
  · obtain ⟨H0, st, ru, dx, rfl, s0, st0, hst, q⟩ := h
    refine ⟨_, (pss_cons (ps_fld (pv 0) (pv 1) rfl)
      (pss_cons (ps_fld (pv 0) (pe_make T.M_Blocks (ok_Blocks_init T) (hr.mono (by decide)) rfl T.g_Blocks T.b_Blocks_init .nil pass0 (pa_cons (pv 1) pa_nil)) rfl)
      (pss_cons (ps_fld (pv 0) (pe_lst pa_nil) rfl)
      (pss_cons (ps_fld (pv 0) (pe_lst pa_nil) rfl)
      (pss_cons (ps_fld (pv 0) (pe_lst pa_nil) rfl)
      (pss_cons (ps_fld (pv 0) (pe_lst pa_nil) rfl)
      (pss_cons (ps_fld (pv 0) pe_dnewT rfl)
      (pss_cons (ps_fld (pv 0) pe_dnewT rfl)
      (pss_cons (ps_fld (pv 0) (pe_lst pa_nil) rfl)
      (pss_cons (ps_fld (pv 0) pe_dnewT rfl)
      (pss_cons (ps_expr (pe_bm PySem.F.plainAttrs_list PySem.F.slot_list_append PySem.F.type_list_append mt_append (pe_fld (pv 0) rfl) (pa_cons (pe_meth (pv 0) T.cl_Store T.m_Store_small (ok_Store_small T) (hr.mono (by decide)) T.b_Store_small .nil pass0 (pa_cons pe_int (pa_cons pe_int pa_nil))) pa_nil)))
      (pss_one (ps_expr (pe_meth (pv 0) T.cl_Store T.m_Store_small (ok_Store_small T) (hr.mono (by decide)) T.b_Store_small .nil pass0 (pa_cons pe_int (pa_cons pe_int pa_nil)))))))))))))))), ?_⟩
    k_upd
    refine ⟨_, rfl, _, rfl, st, T.C_Store, dx, [], rfl, hst, T.cl_Store, T.na_Store__rule, (by show 0 < 1000; decide), ?_⟩
    have s1 := mutS s0 st0 (o := .ins T.C_Store dx (putF "_rule" (.ref ru) []))
    have g1 : upd H st (.ins T.C_Store dx (putF "_rule" (.ref ru) [])) st = some (.ins T.C_Store dx (putF "_rule" (.ref ru) [])) := upd_same
    generalize upd H st (.ins T.C_Store dx (putF "_rule" (.ref ru) [])) = H1 at s1 g1
    refine ⟨_, rfl, ?_⟩
    intro bo dxb nb ndb neb
    refine ⟨H1, bo, ru, dxb, rfl, madeS nb ndb, nb, upd_same, fun H2 e2 hB => ⟨rfl, ?_⟩⟩
    have g2 := e2 _ _ g1
    have s2 := s1.trans e2
    obtain ⟨dxb, flb, hb1, hb2, nflb⟩ := hB
    have bne : bo ≠ st := fun z => by rw [z, g1] at nb; cases nb
    have fne : flb ≠ st := fun z => by rw [z, g2] at hb2; cases hb2
    have bf' : bo ≠ flb := fun z => by rw [z, hb2] at hb1; cases hb1
    have L2 : Have st H2 [(bo, .ins T.C_Blocks dxb (bf ru flb)), (flb, .lst ((List.range 5).map fun l => .int (fullN l : Nat)))] := by
      refine ⟨fun x m => ?_, ?_⟩
      · rcases List.mem_cons.mp m with z | m
        · subst z
          exact ⟨bne, hb1⟩
        · have z := List.mem_singleton.mp m
          subst z
          exact ⟨fne, hb2⟩
      · show [bo, flb].Nodup
        rw [List.nodup_cons]
        exact ⟨fun m => bf' (List.mem_singleton.mp m), List.nodup_cons.mpr ⟨List.not_mem_nil, List.nodup_nil⟩⟩
    refine ⟨_, rfl, st, T.C_Store, dx, _, rfl, g2, T.cl_Store, T.na_Store__blocks, (by show 1 < 1000; decide), ?_⟩
    have s3 := mutS s2 st0 (o := .ins T.C_Store dx (putF "_blocks" (.ref bo) (putF "_rule" (.ref ru) [])))
    have L3 := L2.fld (o := .ins T.C_Store dx (putF "_blocks" (.ref bo) (putF "_rule" (.ref ru) [])))
    have g3 : upd H2 st (.ins T.C_Store dx (putF "_blocks" (.ref bo) (putF "_rule" (.ref ru) []))) st = some (.ins T.C_Store dx (putF "_blocks" (.ref bo) (putF "_rule" (.ref ru) []))) := upd_same
    generalize upd H2 st (.ins T.C_Store dx (putF "_blocks" (.ref bo) (putF "_rule" (.ref ru) []))) = H3 at s3 L3 g3
    refine ⟨by k_clsL, fun la nla => ?_⟩
    k_invariant "new" (nla, J3, d3, y3)
    have M3 := L3.new d3 nla y3 g3
    have t3 := s3.trans d3
    have h3 := d3 _ _ g3
    refine ⟨_, rfl, st, T.C_Store, dx, _, rfl, h3, T.cl_Store, T.na_Store__levels, (by show 2 < 1000; decide), ?_⟩
    have s4 := mutS t3 st0 (o := .ins T.C_Store dx (putF "_levels" (.ref la) (putF "_blocks" (.ref bo) (putF "_rule" (.ref ru) []))))
    have L4 := M3.fld (o := .ins T.C_Store dx (putF "_levels" (.ref la) (putF "_blocks" (.ref bo) (putF "_rule" (.ref ru) []))))
    have g4 : upd J3 st (.ins T.C_Store dx (putF "_levels" (.ref la) (putF "_blocks" (.ref bo) (putF "_rule" (.ref ru) [])))) st = some (.ins T.C_Store dx (putF "_levels" (.ref la) (putF "_blocks" (.ref bo) (putF "_rule" (.ref ru) [])))) := upd_same
    generalize upd J3 st (.ins T.C_Store dx (putF "_levels" (.ref la) (putF "_blocks" (.ref bo) (putF "_rule" (.ref ru) [])))) = H4 at s4 L4 g4 ⊢
    have f_la := backS s3 nla
    clear M3 t3 h3 y3 nla
    refine ⟨by k_clsL, fun ca nca => ?_⟩
    k_invariant "new" (nca, J4, d4, y4)
    have M4 := L4.new d4 nca y4 g4
    have t4 := s4.trans d4
    have h4 := d4 _ _ g4
    refine ⟨_, rfl, st, T.C_Store, dx, _, rfl, h4, T.cl_Store, T.na_Store__counts, (by show 3 < 1000; decide), ?_⟩
    have s5 := mutS t4 st0 (o := .ins T.C_Store dx (putF "_counts" (.ref ca) (putF "_levels" (.ref la) (putF "_blocks" (.ref bo) (putF "_rule" (.ref ru) [])))))
    have L5 := M4.fld (o := .ins T.C_Store dx (putF "_counts" (.ref ca) (putF "_levels" (.ref la) (putF "_blocks" (.ref bo) (putF "_rule" (.ref ru) [])))))
    have g5 : upd J4 st (.ins T.C_Store dx (putF "_counts" (.ref ca) (putF "_levels" (.ref la) (putF "_blocks" (.ref bo) (putF "_rule" (.ref ru) []))))) st = some (.ins T.C_Store dx (putF "_counts" (.ref ca) (putF "_levels" (.ref la) (putF "_blocks" (.ref bo) (putF "_rule" (.ref ru) []))))) := upd_same
    generalize upd J4 st (.ins T.C_Store dx (putF "_counts" (.ref ca) (putF "_levels" (.ref la) (putF "_blocks" (.ref bo) (putF "_rule" (.ref ru) []))))) = H5 at s5 L5 g5 ⊢
    have f_ca := backS s4 nca
    clear M4 t4 h4 y4 nca
    refine ⟨by k_clsL, fun ba nba => ?_⟩
    k_invariant "new" (nba, J5, d5, y5)
    have M5 := L5.new d5 nba y5 g5
    have t5 := s5.trans d5
    have h5 := d5 _ _ g5
    refine ⟨_, rfl, st, T.C_Store, dx, _, rfl, h5, T.cl_Store, T.na_Store__bits, (by show 4 < 1000; decide), ?_⟩
    have s6 := mutS t5 st0 (o := .ins T.C_Store dx (putF "_bits" (.ref ba) (putF "_counts" (.ref ca) (putF "_levels" (.ref la) (putF "_blocks" (.ref bo) (putF "_rule" (.ref ru) []))))))
    have L6 := M5.fld (o := .ins T.C_Store dx (putF "_bits" (.ref ba) (putF "_counts" (.ref ca) (putF "_levels" (.ref la) (putF "_blocks" (.ref bo) (putF "_rule" (.ref ru) []))))))
    have g6 : upd J5 st (.ins T.C_Store dx (putF "_bits" (.ref ba) (putF "_counts" (.ref ca) (putF "_levels" (.ref la) (putF "_blocks" (.ref bo) (putF "_rule" (.ref ru) [])))))) st = some (.ins T.C_Store dx (putF "_bits" (.ref ba) (putF "_counts" (.ref ca) (putF "_levels" (.ref la) (putF "_blocks" (.ref bo) (putF "_rule" (.ref ru) [])))))) := upd_same
    generalize upd J5 st (.ins T.C_Store dx (putF "_bits" (.ref ba) (putF "_counts" (.ref ca) (putF "_levels" (.ref la) (putF "_blocks" (.ref bo) (putF "_rule" (.ref ru) [])))))) = H6 at s6 L6 g6 ⊢
    have f_ba := backS s5 nba
    clear M5 t5 h5 y5 nba
    refine ⟨by k_clsL, fun pa npa => ?_⟩
    k_invariant "new" (npa, J6, d6, y6)
    have M6 := L6.new d6 npa y6 g6
    have t6 := s6.trans d6
    have h6 := d6 _ _ g6
    refine ⟨_, rfl, st, T.C_Store, dx, _, rfl, h6, T.cl_Store, T.na_Store__parts, (by show 5 < 1000; decide), ?_⟩
    have s7 := mutS t6 st0 (o := .ins T.C_Store dx (putF "_parts" (.ref pa) (putF "_bits" (.ref ba) (putF "_counts" (.ref ca) (putF "_levels" (.ref la) (putF "_blocks" (.ref bo) (putF "_rule" (.ref ru) [])))))))
    have L7 := M6.fld (o := .ins T.C_Store dx (putF "_parts" (.ref pa) (putF "_bits" (.ref ba) (putF "_counts" (.ref ca) (putF "_levels" (.ref la) (putF "_blocks" (.ref bo) (putF "_rule" (.ref ru) [])))))))
    have g7 : upd J6 st (.ins T.C_Store dx (putF "_parts" (.ref pa) (putF "_bits" (.ref ba) (putF "_counts" (.ref ca) (putF "_levels" (.ref la) (putF "_blocks" (.ref bo) (putF "_rule" (.ref ru) []))))))) st = some (.ins T.C_Store dx (putF "_parts" (.ref pa) (putF "_bits" (.ref ba) (putF "_counts" (.ref ca) (putF "_levels" (.ref la) (putF "_blocks" (.ref bo) (putF "_rule" (.ref ru) []))))))) := upd_same
    generalize upd J6 st (.ins T.C_Store dx (putF "_parts" (.ref pa) (putF "_bits" (.ref ba) (putF "_counts" (.ref ca) (putF "_levels" (.ref la) (putF "_blocks" (.ref bo) (putF "_rule" (.ref ru) []))))))) = H7 at s7 L7 g7 ⊢
    have f_pa := backS s6 npa
    clear M6 t6 h6 y6 npa
    refine fun sm nsm => ?_
    k_invariant "new" (nsm, J7, d7, y7)
    have M7 := L7.new d7 nsm y7 g7
    have t7 := s7.trans d7
    have h7 := d7 _ _ g7
    refine ⟨_, rfl, st, T.C_Store, dx, _, rfl, h7, T.cl_Store, T.na_Store__small, (by show 6 < 1000; decide), ?_⟩
    have s8 := mutS t7 st0 (o := .ins T.C_Store dx (putF "_small" (.ref sm) (putF "_parts" (.ref pa) (putF "_bits" (.ref ba) (putF "_counts" (.ref ca) (putF "_levels" (.ref la) (putF "_blocks" (.ref bo) (putF "_rule" (.ref ru) []))))))))
    have L8 := M7.fld (o := .ins T.C_Store dx (putF "_small" (.ref sm) (putF "_parts" (.ref pa) (putF "_bits" (.ref ba) (putF "_counts" (.ref ca) (putF "_levels" (.ref la) (putF "_blocks" (.ref bo) (putF "_rule" (.ref ru) []))))))))
    have g8 : upd J7 st (.ins T.C_Store dx (putF "_small" (.ref sm) (putF "_parts" (.ref pa) (putF "_bits" (.ref ba) (putF "_counts" (.ref ca) (putF "_levels" (.ref la) (putF "_blocks" (.ref bo) (putF "_rule" (.ref ru) [])))))))) st = some (.ins T.C_Store dx (putF "_small" (.ref sm) (putF "_parts" (.ref pa) (putF "_bits" (.ref ba) (putF "_counts" (.ref ca) (putF "_levels" (.ref la) (putF "_blocks" (.ref bo) (putF "_rule" (.ref ru) [])))))))) := upd_same
    generalize upd J7 st (.ins T.C_Store dx (putF "_small" (.ref sm) (putF "_parts" (.ref pa) (putF "_bits" (.ref ba) (putF "_counts" (.ref ca) (putF "_levels" (.ref la) (putF "_blocks" (.ref bo) (putF "_rule" (.ref ru) [])))))))) = H8 at s8 L8 g8 ⊢
    have f_sm := backS s7 nsm
    clear M7 t7 h7 y7 nsm
    refine fun lg nlg => ?_
    k_invariant "new" (nlg, J8, d8, y8)
    have M8 := L8.new d8 nlg y8 g8
    have t8 := s8.trans d8
    have h8 := d8 _ _ g8
    refine ⟨_, rfl, st, T.C_Store, dx, _, rfl, h8, T.cl_Store, T.na_Store__large, (by show 7 < 1000; decide), ?_⟩
    have s9 := mutS t8 st0 (o := .ins T.C_Store dx (putF "_large" (.ref lg) (putF "_small" (.ref sm) (putF "_parts" (.ref pa) (putF "_bits" (.ref ba) (putF "_counts" (.ref ca) (putF "_levels" (.ref la) (putF "_blocks" (.ref bo) (putF "_rule" (.ref ru) [])))))))))
    have L9 := M8.fld (o := .ins T.C_Store dx (putF "_large" (.ref lg) (putF "_small" (.ref sm) (putF "_parts" (.ref pa) (putF "_bits" (.ref ba) (putF "_counts" (.ref ca) (putF "_levels" (.ref la) (putF "_blocks" (.ref bo) (putF "_rule" (.ref ru) [])))))))))
    have g9 : upd J8 st (.ins T.C_Store dx (putF "_large" (.ref lg) (putF "_small" (.ref sm) (putF "_parts" (.ref pa) (putF "_bits" (.ref ba) (putF "_counts" (.ref ca) (putF "_levels" (.ref la) (putF "_blocks" (.ref bo) (putF "_rule" (.ref ru) []))))))))) st = some (.ins T.C_Store dx (putF "_large" (.ref lg) (putF "_small" (.ref sm) (putF "_parts" (.ref pa) (putF "_bits" (.ref ba) (putF "_counts" (.ref ca) (putF "_levels" (.ref la) (putF "_blocks" (.ref bo) (putF "_rule" (.ref ru) []))))))))) := upd_same
    generalize upd J8 st (.ins T.C_Store dx (putF "_large" (.ref lg) (putF "_small" (.ref sm) (putF "_parts" (.ref pa) (putF "_bits" (.ref ba) (putF "_counts" (.ref ca) (putF "_levels" (.ref la) (putF "_blocks" (.ref bo) (putF "_rule" (.ref ru) []))))))))) = H9 at s9 L9 g9 ⊢
    have f_lg := backS s8 nlg
    clear M8 t8 h8 y8 nlg
    refine ⟨by k_clsL, fun em nem => ?_⟩
    k_invariant "new" (nem, J9, d9, y9)
    have M9 := L9.new d9 nem y9 g9
    have t9 := s9.trans d9
    have h9 := d9 _ _ g9
    refine ⟨_, rfl, st, T.C_Store, dx, _, rfl, h9, T.cl_Store, T.na_Store__empty, (by show 8 < 1000; decide), ?_⟩
    have s10 := mutS t9 st0 (o := .ins T.C_Store dx (putF "_empty" (.ref em) (putF "_large" (.ref lg) (putF "_small" (.ref sm) (putF "_parts" (.ref pa) (putF "_bits" (.ref ba) (putF "_counts" (.ref ca) (putF "_levels" (.ref la) (putF "_blocks" (.ref bo) (putF "_rule" (.ref ru) []))))))))))
    have L10 := M9.fld (o := .ins T.C_Store dx (putF "_empty" (.ref em) (putF "_large" (.ref lg) (putF "_small" (.ref sm) (putF "_parts" (.ref pa) (putF "_bits" (.ref ba) (putF "_counts" (.ref ca) (putF "_levels" (.ref la) (putF "_blocks" (.ref bo) (putF "_rule" (.ref ru) []))))))))))
    have g10 : upd J9 st (.ins T.C_Store dx (putF "_empty" (.ref em) (putF "_large" (.ref lg) (putF "_small" (.ref sm) (putF "_parts" (.ref pa) (putF "_bits" (.ref ba) (putF "_counts" (.ref ca) (putF "_levels" (.ref la) (putF "_blocks" (.ref bo) (putF "_rule" (.ref ru) [])))))))))) st = some (.ins T.C_Store dx (putF "_empty" (.ref em) (putF "_large" (.ref lg) (putF "_small" (.ref sm) (putF "_parts" (.ref pa) (putF "_bits" (.ref ba) (putF "_counts" (.ref ca) (putF "_levels" (.ref la) (putF "_blocks" (.ref bo) (putF "_rule" (.ref ru) [])))))))))) := upd_same
    generalize upd J9 st (.ins T.C_Store dx (putF "_empty" (.ref em) (putF "_large" (.ref lg) (putF "_small" (.ref sm) (putF "_parts" (.ref pa) (putF "_bits" (.ref ba) (putF "_counts" (.ref ca) (putF "_levels" (.ref la) (putF "_blocks" (.ref bo) (putF "_rule" (.ref ru) [])))))))))) = H10 at s10 L10 g10 ⊢
    have f_em := backS s9 nem
    clear M9 t9 h9 y9 nem
    refine fun fu nfu => ?_
    k_invariant "new" (nfu, J10, d10, y10)
    have M10 := L10.new d10 nfu y10 g10
    have t10 := s10.trans d10
    have h10 := d10 _ _ g10
    refine ⟨_, rfl, st, T.C_Store, dx, _, rfl, h10, T.cl_Store, T.na_Store__futures, (by show 9 < 1000; decide), ?_⟩
    have s11 := mutS t10 st0 (o := .ins T.C_Store dx (putF "_futures" (.ref fu) (putF "_empty" (.ref em) (putF "_large" (.ref lg) (putF "_small" (.ref sm) (putF "_parts" (.ref pa) (putF "_bits" (.ref ba) (putF "_counts" (.ref ca) (putF "_levels" (.ref la) (putF "_blocks" (.ref bo) (putF "_rule" (.ref ru) [])))))))))))
    have L11 := M10.fld (o := .ins T.C_Store dx (putF "_futures" (.ref fu) (putF "_empty" (.ref em) (putF "_large" (.ref lg) (putF "_small" (.ref sm) (putF "_parts" (.ref pa) (putF "_bits" (.ref ba) (putF "_counts" (.ref ca) (putF "_levels" (.ref la) (putF "_blocks" (.ref bo) (putF "_rule" (.ref ru) [])))))))))))
    have g11 : upd J10 st (.ins T.C_Store dx (putF "_futures" (.ref fu) (putF "_empty" (.ref em) (putF "_large" (.ref lg) (putF "_small" (.ref sm) (putF "_parts" (.ref pa) (putF "_bits" (.ref ba) (putF "_counts" (.ref ca) (putF "_levels" (.ref la) (putF "_blocks" (.ref bo) (putF "_rule" (.ref ru) []))))))))))) st = some (.ins T.C_Store dx (putF "_futures" (.ref fu) (putF "_empty" (.ref em) (putF "_large" (.ref lg) (putF "_small" (.ref sm) (putF "_parts" (.ref pa) (putF "_bits" (.ref ba) (putF "_counts" (.ref ca) (putF "_levels" (.ref la) (putF "_blocks" (.ref bo) (putF "_rule" (.ref ru) []))))))))))) := upd_same
    generalize upd J10 st (.ins T.C_Store dx (putF "_futures" (.ref fu) (putF "_empty" (.ref em) (putF "_large" (.ref lg) (putF "_small" (.ref sm) (putF "_parts" (.ref pa) (putF "_bits" (.ref ba) (putF "_counts" (.ref ca) (putF "_levels" (.ref la) (putF "_blocks" (.ref bo) (putF "_rule" (.ref ru) []))))))))))) = H11 at s11 L11 g11 ⊢
    have f_fu := backS s10 nfu
    clear M10 t10 h10 y10 nfu
    obtain ⟨kf, nd⟩ := L11
    simp only [List.mem_cons, List.not_mem_nil, or_false, forall_eq_or_imp, forall_eq] at kf
    obtain ⟨kfu, ⟨nem, kem⟩, klg, ⟨nsm, ksm⟩, ⟨npa, kpa⟩, ⟨nba, kba⟩, ⟨nca, kca⟩, ⟨nla, kla⟩, ⟨_, kbo⟩, ⟨_, kfl⟩⟩ := kf
    simp only [List.map_cons, List.map_nil, List.nodup_cons, List.mem_cons, List.not_mem_nil, or_false, not_or] at nd
    obtain ⟨A0, eA⟩ : ∃ A0 : SA, A0 = ⟨st, bo, la, ca, ba, pa, sm, em⟩ := ⟨_, rfl⟩
    have eM : A0.M = [la, ca, ba, pa, sm, em] := by rw [eA]; rfl
    have ndA : (A0.st :: A0.M).Nodup := by
      rw [eM, eA]
      simp only [List.nodup_cons, List.mem_cons, List.not_mem_nil, or_false, not_or, not_false_eq_true, List.nodup_nil, and_true]
      obtain ⟨_, ⟨a1, a2, a3, a4, a5, a6, a7, a8⟩, _, ⟨b1, b2, b3, b4, b5, b6⟩, ⟨c1, c2, c3, c4, c5⟩, ⟨d1, d2, d3, d4⟩, ⟨e1, e2, e3⟩, _⟩ := nd
      and_intros <;> (intro z; have z' := z.symm; contradiction)
    have boM : bo ∉ A0.M := by
      rw [eM]
      simp only [List.mem_cons, List.not_mem_nil, or_false, not_or]
      obtain ⟨_, ⟨a1, a2, a3, a4, a5, a6, a7, a8⟩, _, ⟨b1, b2, b3, b4, b5, b6⟩, ⟨c1, c2, c3, c4, c5⟩, ⟨d1, d2, d3, d4⟩, ⟨e1, e2, e3⟩, ⟨r1, r2⟩, _⟩ := nd
      and_intros <;> (intro z; have z' := z.symm; contradiction)
    have flM : flb ∉ A0.M := by
      rw [eM]
      simp only [List.mem_cons, List.not_mem_nil, or_false, not_or]
      obtain ⟨_, ⟨a1, a2, a3, a4, a5, a6, a7, a8⟩, _, ⟨b1, b2, b3, b4, b5, b6⟩, ⟨c1, c2, c3, c4, c5⟩, ⟨d1, d2, d3, d4⟩, ⟨e1, e2, e3⟩, ⟨r1, r2⟩, _⟩ := nd
      and_intros <;> (intro z; have z' := z.symm; contradiction)
    have fuM : fu ∉ A0.M := by
      rw [eM]
      simp only [List.mem_cons, List.not_mem_nil, or_false, not_or]
      obtain ⟨⟨a1, a2, a3, a4, a5, a6, a7, a8, a9⟩, _⟩ := nd
      and_intros <;> assumption
    have stM : st ∉ A0.M := by
      have := (List.nodup_cons.mp ndA).1
      rw [eA] at this ⊢
      exact this
    have keep : ∀ b o, b ∉ A0.M → H11 b = some o → hide A0.M H11 b = some o := fun b o n e => by rw [hide_out n]; exact e
    have kst := keep _ _ stM g11
    have kfut := keep _ _ fuM kfu.2
    have kbl : BlkN T.C_Blocks H0 (hide A0.M H11) bo ru := ⟨dxb, flb, keep _ _ boM kbo, keep _ _ flM kfl, backS s1 nflb⟩
    have fr0 : ∀ m ∈ A0.M, H0 m = none := fun m hm => by
      rw [eM] at hm
      simp only [List.mem_cons, List.not_mem_nil, or_false] at hm
      rcases hm with z | z | z | z | z | z <;> rw [z] <;> assumption
    have hS : StoreIs T.C_Store T.C_Blocks H11 A0 [] 0 := by
      refine ⟨⟨dx, ru, lg, fu, by rw [eA]; exact g11⟩, ⟨dxb, ru, flb, by rw [eA] at boM ⊢; rw [hide_out boM]; exact kbo, by rw [hide_out flM]; exact kfl⟩, by rw [eA]; exact kla, by rw [eA]; exact kca, by rw [eA]; exact kba, ⟨[], by rw [eA]; exact kpa, rfl⟩, by rw [eA]; exact Dct.new _ ksm, by rw [eA]; exact kem, fun i hi => absurd hi (Nat.not_lt_zero i), ndA, fun x m => by cases m⟩
    have fit0 : Fit 0 0 := fun i z => by rw [Nat.zero_testBit] at z; cases z
    have fit1 : Fit 0 1 := fun i z => by
      rw [show (1 : Nat) = 2 ^ 0 from rfl, Nat.testBit_two_pow, decide_eq_true_eq] at z
      omega
    subst eA
    refine ⟨_, rfl, st, _, _, _, _, rfl, g11, T.cl_Store, T.na_Store__empty, rfl, .inl ⟨rfl, _, lst_of kem⟩, _, rfl, st, _, _, rfl, g11, rfl, ?_⟩
    refine ⟨⟨st, bo, la, ca, ba, pa, sm, em⟩, [], 0, 0, 0, rfl, hS, by decide, fit0, by decide, fun H12 sq1 n1 gr1 en1 => ?_⟩
    have m1 := List.mem_of_getElem? en1
    have e1 : sq1 = [((0 : Int), (0 : Int))] := by
      have l1 := gr1.len
      match sq1, m1, l1 with
      | [x], m1, _ => exact congrArg (fun y => [y]) (List.mem_singleton.mp m1).symm
      | _ :: _ :: _, _, l1 => simp at l1
    subst e1
    obtain ⟨hS2, hh2⟩ := gr1.st.emp (es := 0) m1 en1
    refine ⟨_, _, _, rfl, rfl, gr1.st.em, by decide, ?_⟩
    have fr2 : Same H0 (hide [la, ca, ba, pa, sm, em] H12) := fun b o e => gr1.fr b o (by
      rw [hide_out fun m => by rw [fr0 b m] at e; cases e]
      exact s11 _ _ e)
    have fr3 : Same H0 (hide [la, ca, ba, pa, sm, em] (upd H12 em (.lst (emL [((0 : Int), (0 : Int))] 0 ++ [.int (n1 : Int)])))) := by
      have : hide [la, ca, ba, pa, sm, em] (upd H12 em (.lst (emL [((0 : Int), (0 : Int))] 0 ++ [.int (n1 : Int)]))) = hide [la, ca, ba, pa, sm, em] H12 := hh2
      rw [this]
      exact fr2
    have fr4 : Same (hide [la, ca, ba, pa, sm, em] H11) (hide [la, ca, ba, pa, sm, em] (upd H12 em (.lst (emL [((0 : Int), (0 : Int))] 0 ++ [.int (n1 : Int)])))) := by
      have : hide [la, ca, ba, pa, sm, em] (upd H12 em (.lst (emL [((0 : Int), (0 : Int))] 0 ++ [.int (n1 : Int)]))) = hide [la, ca, ba, pa, sm, em] H12 := hh2
      rw [this]
      exact gr1.fr
    generalize upd H12 em (.lst (emL [((0 : Int), (0 : Int))] 0 ++ [.int (n1 : Int)])) = H13 at hS2 fr3 fr4 ⊢
    obtain ⟨dx2, ru2, lg2, fu2, ho2⟩ := hS2.obj
    refine ⟨_, rfl, st, _, _, rfl, ho2, rfl, ?_⟩
    refine ⟨⟨st, bo, la, ca, ba, pa, sm, em⟩, [((0 : Int), (0 : Int))], 1, 0, 1, rfl, hS2, by decide, fit1, by decide, fun H14 sq2 n2 gr2 en2 => ?_⟩
    have m2 := List.mem_of_getElem? en2
    have e2 : sq2 = [((0 : Int), (0 : Int)), (0, 1)] := by
      have l2 := gr2.len
      obtain ⟨r, er⟩ := gr2.pre
      subst er
      match r, m2, l2 with
      | [], m2, _ => cases List.mem_singleton.mp m2
      | [x], m2, _ =>
        rcases List.mem_cons.mp m2 with z | z
        · cases z
        · exact congrArg (fun y => [((0 : Int), (0 : Int)), y]) (List.mem_singleton.mp z).symm
      | _ :: _ :: _, _, l2 => simp at l2
    subst e2
    have all : Same (hide [la, ca, ba, pa, sm, em] H11) (hide [la, ca, ba, pa, sm, em] H14) := fr4.trans gr2.fr
    refine q H14 ⟨st, bo, la, ca, ba, pa, sm, em⟩ rfl (fun b o e => gr2.fr b o (fr3 b o e)) gr2.st ⟨dx, lg, fu, all _ _ kst, all _ _ kfut, f_fu⟩ (kbl.up all)
end
end My
namespace My
open PySem PySem.Spec PyProof.Rows L2 Vx
open TL
local macro_rules | `(tactic| k_invariant "new" ($n, $H:ident, $e:ident, $h:ident)) => `(tactic| (generalize hE : upd _ _ _ = $H; obtain ⟨$e:ident, $h:ident⟩ := gen_e hE $n; clear hE))
local macro_rules | `(tactic| k_places) => `(tactic| first
  | assumption
  | exact lst_of (by assumption)
  | exact tup_of (by assumption)
  | (refine getS (by assumption) ?_; k_places)
  | (refine Same.seq (by assumption) ?_; k_places)
  | (refine tupS (by assumption) ?_; k_places)
  | (refine lst_of ?_; k_places)
  | (refine tup_of ?_; k_places))
local macro_rules | `(tactic| k_subL) => `(tactic| first
  | k_places
  | solve_by_elim (maxDepth := 10) [getS, lst_of, tup_of, Same.seq, tupS])
local macro_rules | `(tactic| k_offL) => `(tactic| first
  | (show (0 : Int) < _; first | omega | decide)
  | (refine ⟨?_, ?_⟩ <;> first | omega | decide)
  | exact .inr ⟨by decide, by decide⟩
  | exact .inl ⟨by decide, by decide⟩
  | exact .inl ⟨by omega, by omega⟩
  | omega)
local macro_rules | `(tactic| k_clsL) => `(tactic| exact Nat.le_of_ble_eq_true rfl)
local macro_rules | `(tactic| k_upd) => `(tactic| simp only [L2.start, List.map_cons, List.map_nil, List.length_cons, List.length_nil, List.replicate_succ, List.replicate_zero, List.cons_append, List.nil_append, List.set_cons_zero, List.set_cons_succ])
section
variable {P : Program} {w : World} {K : PySem.W.Frag} {mg : Str → Option Value} {base : Heap}
def two1 : List Pr := [((0 : Int), (0 : Int)), (0, 1)]
def sp_World_init (C CB CR CW : Addr) : Sp := fun vs H Q _ => ∃ (H0 : Hp) (W ru dx : Addr) (bs ss : List Int), vs = [.ref W, .ref ru] ∧ Same H0 H ∧ H0 W = none ∧ H W = some (.ins CW dx []) ∧ RuleAt CR H0 ru bs ss ∧
  ∀ (H' : Hp) (A : SA) (fu D : Addr), Same H0 (hide (ownX W D fu A) H') → WSt C CB CR CW bs ss H' W ru D 0 A fu two1 1 [] (fun _ => 0) 0 → BlkN CB H0 H' A.bo ru → Q .non H'
theorem ok_World_init (T : Txt K mg) : FnOk P w K mg base CX0 6 T.f_World_init T.d_World_init ["self", "rule"] (sp_World_init T.C_Store T.C_Blocks T.C_Rule T.C_World) := by
  refine T.F_World_init.ok sc_World_init (fun vs H Q E h => ?_) (fun cdv A outer s H vs Q E hr h => ?_)
  · obtain ⟨_, _, _, _, _, _, rfl, _⟩ := h
    rfl
  · obtain ⟨H0, W, ru, dx, bs, ss, rfl, sm, n0, ho, hR, q⟩ := h
    refine ⟨_, (pss_cons (ps_fld (pv 0) pe_int rfl)
      (pss_cons (ps_fld (pv 0) (pv 1) rfl)
      (pss_cons (ps_fld (pv 0) (pe_make T.M_Store (ok_Store_init T) (hr.mono (by decide)) rfl T.g_Store T.b_Store_init .nil pass0 (pa_cons (pv 1) pa_nil)) rfl)
      (pss_one (ps_fld (pv 0) pe_dnewT rfl))))), ?_⟩
    k_upd
    refine ⟨_, rfl, W, _, _, _, rfl, ho, T.cl_World, T.na_World_generation, by decide, ?_⟩
    refine ⟨_, rfl, _, rfl, W, _, _, _, rfl, upd_same, T.cl_World, T.na_World__rule, by k_clsL, ?_⟩
    have s1 : Same H0 (upd (upd H W (.ins T.C_World dx (putF "generation" (.int 0) []))) W (.ins T.C_World dx (putF "_rule" (.ref ru) (putF "generation" (.int 0) [])))) := mutS (mutS sm n0) n0
    have g1 : upd (upd H W (.ins T.C_World dx (putF "generation" (.int 0) []))) W (.ins T.C_World dx (putF "_rule" (.ref ru) (putF "generation" (.int 0) []))) W = some (.ins T.C_World dx (putF "_rule" (.ref ru) (putF "generation" (.int 0) []))) := upd_same
    generalize upd (upd H W (.ins T.C_World dx (putF "generation" (.int 0) []))) W (.ins T.C_World dx (putF "_rule" (.ref ru) (putF "generation" (.int 0) []))) = H1 at s1 g1 ⊢
    refine ⟨_, rfl, fun S dS nS ndS ne => ?_⟩
    refine ⟨H1, S, ru, dS, rfl, madeS nS ndS, nS, upd_same, fun H2 A eA fr hS hfu hbl => ⟨rfl, ?_⟩⟩
    subst eA
    obtain ⟨dxs, lg, fu, hob, hfu0, nfu⟩ := hfu
    have gw2 := fr _ _ g1
    have WM : W ∉ A.M := fun m => by rw [hide_in m] at gw2; cases gw2
    have g2 : H2 W = some (.ins T.C_World dx (putF "_rule" (.ref ru) (putF "generation" (.int 0) []))) := hide_le _ _ gw2
    have Wfu : W ≠ fu := fun e => by rw [← e, g1] at nfu; cases nfu
    have hR2 := hR.up (s1.trans fr)
    obtain ⟨dxb, flb, hb1, hb2, nflb⟩ := id hbl
    have lf : (putF "_rule" (.ref ru) (putF "generation" (.int 0) []) : List (Str × V)).length = 2 := rfl
    refine ⟨_, rfl, W, _, _, _, rfl, g2, T.cl_World, T.na_World__store, by k_clsL, ?_⟩
    have g3 : upd H2 W (.ins T.C_World dx (putF "_store" (.ref A.st) (putF "_rule" (.ref ru) (putF "generation" (.int 0) [])))) W = some (.ins T.C_World dx (putF "_store" (.ref A.st) (putF "_rule" (.ref ru) (putF "generation" (.int 0) [])))) := upd_same
    have o3 : ∀ {a : Addr} {o : HO}, a ≠ W → H2 a = some o → upd H2 W (.ins T.C_World dx (putF "_store" (.ref A.st) (putF "_rule" (.ref ru) (putF "generation" (.int 0) [])))) a = some o := fun n h => by rw [upd_ne n]; exact h
    generalize upd H2 W (.ins T.C_World dx (putF "_store" (.ref A.st) (putF "_rule" (.ref ru) (putF "generation" (.int 0) [])))) = H3 at g3 o3 ⊢
    refine fun D nD => ?_
    k_invariant "new" (nD, H4, e4, g4)
    have nDW : D ≠ W := fun e => by rw [e, g3] at nD; cases nD
    refine ⟨_, rfl, W, _, _, _, rfl, e4 _ _ g3, T.cl_World, T.na_World__living, by k_clsL, ?_⟩
    have g5 : upd H4 W (.ins T.C_World dx (putF "_living" (.ref D) (putF "_store" (.ref A.st) (putF "_rule" (.ref ru) (putF "generation" (.int 0) []))))) W = some (.ins T.C_World dx (wf 0 ru A.st D)) := upd_same
    have o5 : ∀ {a : Addr} {o : HO}, a ≠ W → H2 a = some o → upd H4 W (.ins T.C_World dx (putF "_living" (.ref D) (putF "_store" (.ref A.st) (putF "_rule" (.ref ru) (putF "generation" (.int 0) []))))) a = some o := fun n h => by rw [upd_ne n]; exact e4 _ _ (o3 n h)
    have g6 : upd H4 W (.ins T.C_World dx (putF "_living" (.ref D) (putF "_store" (.ref A.st) (putF "_rule" (.ref ru) (putF "generation" (.int 0) []))))) D = some (.dT []) := by rw [upd_ne nDW]; exact g4
    generalize upd H4 W (.ins T.C_World dx (putF "_living" (.ref D) (putF "_store" (.ref A.st) (putF "_rule" (.ref ru) (putF "generation" (.int 0) []))))) = H5 at g5 o5 g6 ⊢
    have nD2 : H2 D = none := by
      cases h : H2 D with
      | none => rfl
      | some o => rw [o3 nDW h] at nD; cases nD
    have DM : D ∉ A.M := fun m => by
      have := hS.off nD2
      exact this m
    have Dfu : D ≠ fu := fun e => by
      have := hide_le _ _ hfu0
      rw [← e, nD2] at this
      cases this
    have kin : ∀ {a : Addr} {o : HO}, hide A.M H2 a = some o → (∀ C dx fs, o = .ins C dx fs → fs.length ≠ 2 ∨ a ≠ W) → a ≠ W := fun {a o} e n z => by
      have h := hide_le _ _ e
      rw [z, g2] at h
      exact (n _ _ _ (Option.some.inj h).symm).elim (fun k => k lf) fun k => k z
    have hh : ∀ {a : Addr} {o : HO}, a ≠ W → hide A.M H2 a = some o → hide A.M H5 a = some o := fun {a o} n e => by
      have m : a ∉ A.M := fun m => by rw [hide_in m] at e; cases e
      rw [hide_out m] at e ⊢
      exact o5 n e
    have nin : ∀ {a : Addr} {o : HO}, hide A.M H2 a = some o → (∀ C dx fs, o ≠ .ins C dx fs) → a ≠ W := fun e n => kin e fun C dx fs z => absurd z (n C dx fs)
    have boW : A.bo ≠ W := fun z => by
      have h := hide_le _ _ hb1
      rw [z, g2] at h
      injection Option.some.inj h with _ _ y
      injection y with y1 y2
      injection y1 with y3
      revert y3
      decide +kernel
    obtain ⟨dr, tb, ts', hr1, hr2, hr3⟩ := hR
    have ruW : ru ≠ W := fun z => by rw [z, n0] at hr1; cases hr1
    have tbW : tb ≠ W := fun z => by rw [z, n0] at hr2; cases hr2
    have tsW : ts' ≠ W := fun z => by rw [z, n0] at hr3; cases hr3
    have up0 : ∀ {a : Addr} {o : HO}, H0 a = some o → hide A.M H2 a = some o := fun h => fr _ _ (s1 _ _ h)
    have hR5 : RuleAt T.C_Rule (hide A.M H5) ru bs ss := ⟨dr, tb, ts', hh ruW (up0 hr1), hh tbW (up0 hr2), hh tsW (up0 hr3)⟩
    have stW : A.st ≠ W := fun z => by rw [z, g1] at nS; cases nS
    have bl5 : BlkN T.C_Blocks H0 (hide A.M H5) A.bo ru := ⟨dxb, flb, hh boW hb1, hh (nin hb2 fun _ _ _ z => by cases z) hb2, backS s1 nflb⟩
    have off : ∀ {b : Addr}, b ∈ A.M → b ≠ W := fun m z => WM (z ▸ m)
    have hS5 : StoreIs T.C_Store T.C_Blocks H5 A two1 1 := by
      obtain ⟨⟨dx, ru, lg, fu, h1⟩, h2, h3, h4, h5, ⟨us, h6, h7⟩, ⟨kvs, h8, h8'⟩, h9, h10, h11, h12⟩ := hS
      have m : A.la ∈ A.M ∧ A.ca ∈ A.M ∧ A.ba ∈ A.M ∧ A.pa ∈ A.M ∧ A.sm ∈ A.M ∧ A.em ∈ A.M := by simp only [SA.M, List.mem_cons, true_or, or_true, and_self]
      obtain ⟨d1, f1, b1, b2, _⟩ := bl5
      exact ⟨⟨dx, ru, lg, fu, o5 stW h1⟩, ⟨d1, _, f1, b1, b2⟩, o5 (off m.1) h3, o5 (off m.2.1) h4, o5 (off m.2.2.1) h5, ⟨us, o5 (off m.2.2.2.1) h6, h7⟩, ⟨kvs, o5 (off m.2.2.2.2.1) h8, h8'⟩, o5 (off m.2.2.2.2.2) h9, h10, h11, h12⟩
    have ft5 : FutAt T.C_Store T.C_Blocks T.C_Rule H5 A fu bs ss 0 two1 := by
      obtain ⟨d1, f1, b1, b2, _⟩ := id bl5
      exact ⟨⟨dxs, ru, lg, hh stW hob⟩, ⟨d1, ru, f1, b1, b2, hR5⟩, [], fun _ => .non, Dct.new _ (hh Wfu.symm hfu0), Nat.le_refl _, fun _ m => by cases m⟩
    refine q H5 A fu D (fun a o h => ?_) ⟨⟨dx, g5⟩, ⟨Dct.new _ g6, fun p => ⟨fun m => (by cases m), fun z => absurd rfl z⟩, fun _ => Nat.two_pow_pos 1024⟩, DM, Dfu, hS5, Nat.le_refl _, by decide, ft5, hR5⟩ ?_
    · have h1 := s1 _ _ h
      have aM : a ∉ A.M := fun m => by
        have := up0 h
        rw [hide_in m] at this
        cases this
      have aW : a ≠ W := fun z => by rw [z, n0] at h; cases h
      have af : a ≠ fu := fun z => by rw [z, nfu] at h1; cases h1
      have aD : a ≠ D := fun z => by
        have := hide_le _ _ (up0 h)
        rw [z, nD2] at this
        cases this
      rw [hide_out fun m => by
        unfold ownX at m
        rcases List.mem_cons.mp m with e | m
        · exact aW e
        rcases List.mem_cons.mp m with e | m
        · exact aD e
        rcases List.mem_cons.mp m with e | m
        · exact af e
        · exact aM m]
      exact o5 aW (hide_le _ _ (up0 h))
    · obtain ⟨d1, f1, b1, b2, b3⟩ := bl5
      exact ⟨d1, f1, hide_le _ _ b1, hide_le _ _ b2, b3⟩
end
end My
namespace My
open PySem PySem.Spec PyProof.Rows L2 Vx
open TL
local macro_rules | `(tactic| k_invariant "new" ($n, $H:ident, $e:ident, $h:ident)) => `(tactic| (generalize hE : upd _ _ _ = $H; obtain ⟨$e:ident, $h:ident⟩ := gen_e hE $n; clear hE))
local macro_rules | `(tactic| k_places) => `(tactic| first
  | assumption
  | exact lst_of (by assumption)
  | exact tup_of (by assumption)
  | (refine getS (by assumption) ?_; k_places)
  | (refine Same.seq (by assumption) ?_; k_places)
  | (refine tupS (by assumption) ?_; k_places)
  | (refine lst_of ?_; k_places)
  | (refine tup_of ?_; k_places))
local macro_rules | `(tactic| k_subL) => `(tactic| first
  | k_places
  | solve_by_elim (maxDepth := 10) [getS, lst_of, tup_of, Same.seq, tupS])
local macro_rules | `(tactic| k_offL) => `(tactic| first
  | (show (0 : Int) < _; first | omega | decide)
  | (refine ⟨?_, ?_⟩ <;> first | omega | decide)
  | exact .inr ⟨by decide, by decide⟩
  | exact .inl ⟨by decide, by decide⟩
  | exact .inl ⟨by omega, by omega⟩
  | omega)
local macro_rules | `(tactic| k_clsL) => `(tactic| exact Nat.le_of_ble_eq_true rfl)
local macro_rules | `(tactic| k_upd) => `(tactic| simp only [L2.start, List.map_cons, List.map_nil, List.length_cons, List.length_nil, List.replicate_succ, List.replicate_zero, List.cons_append, List.nil_append, List.set_cons_zero, List.set_cons_succ])
section
variable {P : Program} {w : World} {K : PySem.W.Frag} {mg : Str → Option Value} {base : Heap}
/-- addresses that hold no tuple, and of the instances only worlds -/
def Away (N : List Addr) (H : Hp) : Prop := ∀ a ∈ N, ∃ o, H a = some o ∧ (∀ xs, o ≠ .tup xs) ∧ ∀ C dx fs, o = .ins C dx fs → fs.length = 4
section
variable {C CB CR CW : Addr} {bs ss : List Int} {H H' : Hp} {W ru D : Addr} {gen : Int} {A : SA} {fu : Addr} {sq : List Pr} {es : Nat} {ks : List Pr} {g : Pr → Nat} {B : Nat}
theorem WSt.away (h : WSt C CB CR CW bs ss H W ru D gen A fu sq es ks g B) : Away (ownX W D fu A) H := fun a m => by
  unfold ownX at m
  rcases List.mem_cons.mp m with e | m
  · obtain ⟨dx, z⟩ := h.wat
    exact ⟨_, by rw [e]; exact z, fun _ y => (by cases y), fun _ _ _ y => by cases y; rfl⟩
  rcases List.mem_cons.mp m with e | m
  · obtain ⟨kv, z, _⟩ := h.liv.dct
    exact ⟨_, by rw [e]; exact z, fun _ y => (by cases y), fun _ _ _ y => by cases y⟩
  rcases List.mem_cons.mp m with e | m
  · obtain ⟨kv, z, _⟩ := h.ft.dict
    exact ⟨_, by rw [e]; exact z, fun _ y => (by cases y), fun _ _ _ y => by cases y⟩
  · cases z : H a with
    | none => exact absurd m (h.st.off z)
    | some o => exact ⟨o, rfl, fun xs y => h.st.outT (by rw [z, y]) m, fun C dx fs y => absurd m (h.st.outO (by rw [z, y]) (fun _ k => by cases k) (fun _ k => by cases k))⟩
theorem Away.up {N : List Addr} (h : Away N H) (e : Same H H') : Away N H' := fun a m => by
  obtain ⟨o, h1, h2⟩ := h a m
  exact ⟨o, e _ _ h1, h2⟩
theorem WSt.hideN {N : List Addr} (h : WSt C CB CR CW bs ss H W ru D gen A fu sq es ks g B) (aw : Away N H) (hW : W ∉ N) (hD : D ∉ N) (hf : fu ∉ N) (hM : ∀ a ∈ A.M, a ∉ N) (hb : ∃ dx r fl, H A.bo = some (.ins CB dx (bf r fl)) ∧ fl ∉ N) : WSt C CB CR CW bs ss (hide N H) W ru D gen A fu sq es ks g B := by
  have nt : ∀ {a : Addr} {xs : List V}, H a = some (.tup xs) → a ∉ N := fun e m => by
    obtain ⟨o, h1, h2, _⟩ := aw _ m
    rw [h1] at e
    exact h2 _ (Option.some.inj e)
  have ni : ∀ {a C dx : Addr} {fs : List (Str × V)}, H a = some (.ins C dx fs) → fs.length ≠ 4 → a ∉ N := fun e n m => by
    obtain ⟨o, h1, _, h3⟩ := aw _ m
    rw [h1] at e
    exact n (h3 _ _ _ (Option.some.inj e))
  have k : ∀ {a : Addr} {o : HO}, a ∉ N → H a = some o → hide N H a = some o := fun n e => by rw [hide_out n]; exact e
  have kM : ∀ {a : Addr} {o : HO}, a ∉ N → hide A.M H a = some o → hide A.M (hide N H) a = some o := fun {a o} n e => by
    have m : a ∉ A.M := fun m => by rw [hide_in m] at e; cases e
    rw [hide_out m] at e ⊢
    exact k n e
  obtain ⟨dw, hw⟩ := h.wat
  obtain ⟨kvD, hD1, hD2⟩ := h.liv.dct
  obtain ⟨⟨dx, ru1, lg, f1⟩, ⟨dxb, rub, flb, hb1, hb2, dr, tb, ts, r1, r2, r3⟩, fs, gf, ⟨kv, f3, f3'⟩, f4, f5⟩ := h.ft
  obtain ⟨dr', tb', ts', q1, q2, q3⟩ := h.rl
  have fl : flb ∉ N := by
    obtain ⟨d9, r9, f9, z, n9⟩ := hb
    have := hide_le _ _ hb1
    rw [z] at this
    injection Option.some.inj this with _ _ y
    injection y with y1 y2
    injection y2 with y2 _
    injection y2 with _ y3
    injection y3 with y3
    rw [← y3]
    exact n9
  have bo' := ni (hide_le _ _ hb1) (fun z => by cases z)
  have blk : BlkR CB CR (hide A.M (hide N H)) A.bo bs ss := ⟨dxb, rub, flb, kM bo' hb1, kM fl hb2, dr, tb, ts, kM (ni (hide_le _ _ r1) (fun z => by cases z)) r1, kM (nt (hide_le _ _ r2)) r2, kM (nt (hide_le _ _ r3)) r3⟩
  obtain ⟨⟨dx5, ru5, lg5, fu5, s1⟩, s2, s3, s4, s5, ⟨us, s6, s7⟩, ⟨kvs, s8, s8'⟩, s9, s10, s11, s12⟩ := h.st
  have m : A.la ∈ A.M ∧ A.ca ∈ A.M ∧ A.ba ∈ A.M ∧ A.pa ∈ A.M ∧ A.sm ∈ A.M ∧ A.em ∈ A.M := by simp only [SA.M, List.mem_cons, true_or, or_true, and_self]
  have stN := ni s1 (fun z => by cases z)
  exact ⟨⟨dw, k hW hw⟩, ⟨⟨kvD, k hD hD1, hD2⟩, h.liv.pos, h.liv.lt⟩, h.dM, h.df,
    ⟨⟨dx5, ru5, lg5, fu5, k stN s1⟩, blk.at, k (hM _ m.1) s3, k (hM _ m.2.1) s4, k (hM _ m.2.2.1) s5, ⟨us, k (hM _ m.2.2.2.1) s6, s7⟩, ⟨kvs, k (hM _ m.2.2.2.2.1) s8, s8'⟩, k (hM _ m.2.2.2.2.2) s9, s10, s11, s12⟩,
    h.e1, h.e6, ⟨⟨dx, ru1, lg, kM stN f1⟩, blk, fs, gf, ⟨kv, kM hf f3, f3'⟩, f4, f5⟩, ⟨dr', tb', ts', kM (ni (hide_le _ _ q1) (fun z => by cases z)) q1, kM (nt (hide_le _ _ q2)) q2, kM (nt (hide_le _ _ q3)) q3⟩⟩
end
end
end My
namespace My
open PySem PySem.Spec PyProof.Rows L2 Vx
open TL
local macro_rules | `(tactic| k_invariant "new" ($n, $H:ident, $e:ident, $h:ident)) => `(tactic| (generalize hE : upd _ _ _ = $H; obtain ⟨$e:ident, $h:ident⟩ := gen_e hE $n; clear hE))
local macro_rules | `(tactic| k_places) => `(tactic| first
  | assumption
  | exact lst_of (by assumption)
  | exact tup_of (by assumption)
  | (refine getS (by assumption) ?_; k_places)
  | (refine Same.seq (by assumption) ?_; k_places)
  | (refine tupS (by assumption) ?_; k_places)
  | (refine lst_of ?_; k_places)
  | (refine tup_of ?_; k_places))
local macro_rules | `(tactic| k_subL) => `(tactic| first
  | k_places
  | solve_by_elim (maxDepth := 10) [getS, lst_of, tup_of, Same.seq, tupS])
local macro_rules | `(tactic| k_offL) => `(tactic| first
  | (show (0 : Int) < _; first | omega | decide)
  | (refine ⟨?_, ?_⟩ <;> first | omega | decide)
  | exact .inr ⟨by decide, by decide⟩
  | exact .inl ⟨by decide, by decide⟩
  | exact .inl ⟨by omega, by omega⟩
  | omega)
local macro_rules | `(tactic| k_clsL) => `(tactic| exact Nat.le_of_ble_eq_true rfl)
local macro_rules | `(tactic| k_upd) => `(tactic| simp only [L2.start, List.map_cons, List.map_nil, List.length_cons, List.length_nil, List.replicate_succ, List.replicate_zero, List.cons_append, List.nil_append, List.set_cons_zero, List.set_cons_succ])
section
variable {P : Program} {w : World} {K : PySem.W.Frag} {mg : Str → Option Value} {base : Heap}
def sp_World_tidy (C CB CR CW : Addr) : Sp := fun vs H Q _ => ∃ (W ru D : Addr) (gen : Int) (A : SA) (fu : Addr) (sq : List Pr) (es : Nat) (ks : List Pr) (g : Pr → Nat) (B : Nat) (bs ss : List Int), vs = [.ref W] ∧ WSt C CB CR CW bs ss H W ru D gen A fu sq es ks g B ∧
  ∀ (H' : Hp) (A' : SA) (fu' : Addr), (∀ a o, a ≠ W → H a = some o → H' a = some o) → (∀ a ∈ fu' :: A'.M, H a = none) → (∃ dx r fl, H' A'.bo = some (.ins CB dx (bf r fl)) ∧ H fl = none) → WSt C CB CR CW bs ss H' W ru D gen A' fu' two1 1 ks g 0 → Q .non H'
theorem ok_World_tidy (T : Txt K mg) : FnOk P w K mg base CX0 6 T.f_World_tidy T.d_World_tidy ["self"] (sp_World_tidy T.C_Store T.C_Blocks T.C_Rule T.C_World) := by
  refine T.F_World_tidy.ok sc_World_tidy (fun vs H Q E h => ?_) (fun cdv A outer s H vs Q E hr h => ?_)
  · obtain ⟨_, _, _, _, _, _, _, _, _, _, _, _, _, rfl, _⟩ := h
    rfl
  · obtain ⟨W, ru, D, gen, A0, fu0, sq0, es0, ks, g, B, bs, ss, rfl, hw, q⟩ := h
    obtain ⟨dx, ho⟩ := hw.wat
    refine ⟨_, (pss_one (ps_fld (pv 0) (pe_make T.M_Store (ok_Store_init T) (hr.mono (by decide)) rfl T.g_Store T.b_Store_init .nil pass0 (pa_cons (pe_fld (pv 0) rfl) pa_nil)) rfl)), ?_⟩
    k_upd
    refine ⟨_, rfl, W, _, _, _, _, rfl, ho, T.cl_World, T.na_World__rule, rfl, fun S dS nS ndS ne => ?_⟩
    refine ⟨H, S, ru, dS, rfl, madeS nS ndS, nS, upd_same, fun H2 A eA fr hS hfu hbl => ⟨rfl, ?_⟩⟩
    subst eA
    obtain ⟨dxs, lg, fu, hob, hfu0, nfu⟩ := hfu
    have gw2 := fr _ _ ho
    have WM : W ∉ A.M := fun m => by rw [hide_in m] at gw2; cases gw2
    have g2 : H2 W = some (.ins T.C_World dx (wf gen ru A0.st D)) := hide_le _ _ gw2
    have lf : (wf gen ru A0.st D).length = 4 := rfl
    refine ⟨_, rfl, W, _, _, _, rfl, g2, T.cl_World, T.na_World__store, by k_clsL, ?_⟩
    have hS5 := hS.setI (o := .ins T.C_World dx (putF "_store" (.ref A.st) (wf gen ru A0.st D))) g2 lf WM
    have hR := (hw.rl.up hide_le).up fr
    obtain ⟨d1, f1, b1, b2, b3⟩ := id hbl
    have ft2 : FutAt T.C_Store T.C_Blocks T.C_Rule H2 A fu bs ss 0 two1 := ⟨⟨dxs, ru, lg, hob⟩, ⟨d1, ru, f1, b1, b2, hR⟩, [], fun _ => .non, Dct.new _ hfu0, Nat.le_refl _, fun _ m => by cases m⟩
    have ft5 := ft2.setI (o := .ins T.C_World dx (putF "_store" (.ref A.st) (wf gen ru A0.st D))) g2 lf WM
    have g5 : upd H2 W (.ins T.C_World dx (putF "_store" (.ref A.st) (wf gen ru A0.st D))) W = some (.ins T.C_World dx (wf gen ru A.st D)) := upd_same
    have o5 : ∀ {a : Addr} {o : HO}, a ≠ W → H2 a = some o → upd H2 W (.ins T.C_World dx (putF "_store" (.ref A.st) (wf gen ru A0.st D))) a = some o := fun n h => by rw [upd_ne n]; exact h
    generalize upd H2 W (.ins T.C_World dx (putF "_store" (.ref A.st) (wf gen ru A0.st D))) = H5 at hS5 ft5 g5 o5 ⊢
    have old : ∀ {a : Addr} {o : HO}, H a = some o → a ∉ A.M := fun h m => by
      have := fr _ _ h
      rw [hide_in m] at this
      cases this
    obtain ⟨kvD, hD1, hD2⟩ := hw.liv.dct
    have DW : D ≠ W := fun e => by rw [e, ho] at hD1; cases hD1
    obtain ⟨dr, tb, ts', hr1, hr2, hr3⟩ := hw.rl.up hide_le
    have hh : ∀ {a : Addr} {o : HO}, a ≠ W → H a = some o → hide A.M H5 a = some o := fun {a o} n e => by
      rw [hide_out (old e)]
      exact o5 n (hide_le _ _ (fr _ _ e))
    have hR5 : RuleAt T.C_Rule (hide A.M H5) ru bs ss := ⟨dr, tb, ts', hh (inst_ne hr1 ho (by rw [lf]; exact fun z => by cases z)) hr1, hh (fun z => by rw [z, ho] at hr2; cases hr2) hr2, hh (fun z => by rw [z, ho] at hr3; cases hr3) hr3⟩
    have boW : A.bo ≠ W := inst_ne (hide_le _ _ b1) g2 (by rw [lf]; exact fun z => by cases z)
    refine q H5 A fu (fun a o n e => o5 n (hide_le _ _ (fr _ _ e))) (fun a m => ?_) ⟨d1, ru, f1, o5 boW (hide_le _ _ b1), b3⟩ ⟨⟨dx, g5⟩, ⟨⟨kvD, o5 DW (hide_le _ _ (fr _ _ hD1)), hD2⟩, hw.liv.pos, hw.liv.lt⟩, old hD1, (fun e => by rw [e, nfu] at hD1; cases hD1), hS5, Nat.le_refl _, by decide, ft5, hR5⟩
    rcases List.mem_cons.mp m with e | m
    · rw [e]
      exact nfu
    · cases z : H a with
      | none => rfl
      | some o => exact absurd m (old z)
end
end My
namespace My
open PySem PySem.Spec PyProof.Rows L2 Vx
open TL
local macro_rules | `(tactic| k_invariant "new" ($n, $H:ident, $e:ident, $h:ident)) => `(tactic| (generalize hE : upd _ _ _ = $H; obtain ⟨$e:ident, $h:ident⟩ := gen_e hE $n; clear hE))
local macro_rules | `(tactic| k_places) => `(tactic| first
  | assumption
  | exact lst_of (by assumption)
  | exact tup_of (by assumption)
  | (refine getS (by assumption) ?_; k_places)
  | (refine Same.seq (by assumption) ?_; k_places)
  | (refine tupS (by assumption) ?_; k_places)
  | (refine lst_of ?_; k_places)
  | (refine tup_of ?_; k_places))
local macro_rules | `(tactic| k_subL) => `(tactic| first
  | k_places
  | solve_by_elim (maxDepth := 10) [getS, lst_of, tup_of, Same.seq, tupS])
local macro_rules | `(tactic| k_offL) => `(tactic| first
  | (show (0 : Int) < _; first | omega | decide)
  | (refine ⟨?_, ?_⟩ <;> first | omega | decide)
  | exact .inr ⟨by decide, by decide⟩
  | exact .inl ⟨by decide, by decide⟩
  | exact .inl ⟨by omega, by omega⟩
  | omega)
local macro_rules | `(tactic| k_clsL) => `(tactic| exact Nat.le_of_ble_eq_true rfl)
local macro_rules | `(tactic| k_upd) => `(tactic| simp only [L2.start, List.map_cons, List.map_nil, List.length_cons, List.length_nil, List.replicate_succ, List.replicate_zero, List.cons_append, List.nil_append, List.set_cons_zero, List.set_cons_succ])
section
variable {P : Program} {w : World} {K : PySem.W.Frag} {mg : Str → Option Value} {base : Heap}
/-! ### two worlds beside each other -/
structure Wd where
  W : Addr
  ru : Addr
  D : Addr
  gen : Int
  A : SA
  fu : Addr
  sq : List Pr
  es : Nat
  ks : List Pr
  g : Pr → Nat
  B : Nat
def Wd.X (w : Wd) : List Addr := ownX w.W w.D w.fu w.A
def Wd.At (C CB CR CW : Addr) (bs ss : List Int) (H : Hp) (w : Wd) : Prop := WSt C CB CR CW bs ss H w.W w.ru w.D w.gen w.A w.fu w.sq w.es w.ks w.g w.B
structure TwoW (C CB CR CW : Addr) (bs ss : List Int) (H : Hp) (u v : Wd) : Prop where
  a : u.At C CB CR CW bs ss (hide v.X H)
  b : v.At C CB CR CW bs ss (hide u.X H)
section
variable {C CB CR CW : Addr} {bs ss : List Int} {H H' : Hp} {u v : Wd}
theorem TwoW.swap (t : TwoW C CB CR CW bs ss H u v) : TwoW C CB CR CW bs ss H v u := ⟨t.b, t.a⟩
theorem TwoW.one (t : TwoW C CB CR CW bs ss H u v) : u.At C CB CR CW bs ss H := WSt.up t.a hide_le
theorem TwoW.up (t : TwoW C CB CR CW bs ss H u v) (e : Same H H') : TwoW C CB CR CW bs ss H' u v := ⟨WSt.up t.a (hide_up e), WSt.up t.b (hide_up e)⟩
/-- none of the first world's own belongs to the second -/
theorem TwoW.off (t : TwoW C CB CR CW bs ss H u v) {a : Addr} (m : a ∈ u.X) : a ∉ v.X := fun n => by
  obtain ⟨o, h⟩ := WSt.own t.a a m
  rw [hide_in n] at h
  cases h
theorem keepX {a : Addr} {o : HO} (h : hide u.X H a = some o) : a ≠ u.W ∧ a ≠ u.D ∧ a ≠ u.fu ∧ a ∉ u.A.M ∧ H a = some o := by
  have n : a ∉ u.X := fun m => by rw [hide_in m] at h; cases h
  rw [hide_out n] at h
  unfold Wd.X ownX at n
  simp only [List.mem_cons, not_or] at n
  exact ⟨n.1, n.2.1, n.2.2.1, n.2.2.2, h⟩
/-- a step of the first world: its store and its dict may change, the dict may be another, new one -/
theorem TwoW.step {gen' : Int} {D' : Addr} {sq' : List Pr} {es' : Nat} {ks' : List Pr} {g' : Pr → Nat} {B' : Nat} (t : TwoW C CB CR CW bs ss H u v) (fr : ∀ a o, a ≠ u.W → a ≠ u.fu → a ≠ u.D → hide u.A.M H a = some o → hide u.A.M H' a = some o)
    (h' : WSt C CB CR CW bs ss H' u.W u.ru D' gen' u.A u.fu sq' es' ks' g' B') (nD : H D' = none ∨ D' = u.D) : TwoW C CB CR CW bs ss H' ⟨u.W, u.ru, D', gen', u.A, u.fu, sq', es', ks', g', B'⟩ v ∧ Same (hide u.X H) (hide (ownX u.W D' u.fu u.A) H') := by
  have sm : Same (hide u.X H) (hide (ownX u.W D' u.fu u.A) H') := fun a o h => by
    obtain ⟨n1, n2, n3, n4, e⟩ := keepX h
    have nD' : a ≠ D' := fun z => nD.elim (fun y => by rw [z, y] at e; cases e) fun y => n2 (z.trans y)
    have := fr a o n1 n3 n2 (by rw [hide_out n4]; exact e)
    rw [hide_out n4] at this
    rw [hide_out fun m => by
      unfold ownX at m
      rcases List.mem_cons.mp m with z | m
      · exact n1 z
      rcases List.mem_cons.mp m with z | m
      · exact nD' z
      rcases List.mem_cons.mp m with z | m
      · exact n3 z
      · exact n4 m]
    exact this
  refine ⟨⟨WSt.apart t.a (fun a o n1 n2 n3 e => fr a o n1 n2 n3 e) h' fun m => ?_, WSt.up t.b sm⟩, sm⟩
  rcases nD with y | y
  · obtain ⟨o, h⟩ := WSt.own t.b D' m
    have := hide_le _ _ h
    rw [y] at this
    cases this
  · rw [y] at m
    exact t.off (a := u.D) (List.mem_cons_of_mem _ List.mem_cons_self) m
/-- the first world with a store anew -/
theorem TwoW.tidy {A' : SA} {fu' : Addr} {sq' : List Pr} {es' : Nat} {B' : Nat} (t : TwoW C CB CR CW bs ss H u v) (fr : ∀ a o, a ≠ u.W → H a = some o → H' a = some o) (new : ∀ a ∈ fu' :: A'.M, H a = none) (hb : ∃ dx r fl, H' A'.bo = some (.ins CB dx (bf r fl)) ∧ H fl = none)
    (h' : WSt C CB CR CW bs ss H' u.W u.ru u.D u.gen A' fu' sq' es' u.ks u.g B') : TwoW C CB CR CW bs ss H' ⟨u.W, u.ru, u.D, u.gen, A', fu', sq', es', u.ks, u.g, B'⟩ v ∧ Same (hide u.X H) (hide (ownX u.W u.D fu' A') H') := by
  have sm : Same (hide u.X H) (hide (ownX u.W u.D fu' A') H') := fun a o h => by
    obtain ⟨n1, n2, n3, n4, e⟩ := keepX h
    rw [hide_out fun m => by
      unfold ownX at m
      rcases List.mem_cons.mp m with z | m
      · exact n1 z
      rcases List.mem_cons.mp m with z | m
      · exact n2 z
      · rw [new a m] at e
        cases e]
    exact fr a o n1 e
  have vX : ∀ {a : Addr}, a ∈ v.X → ∃ o, H a = some o := fun m => by
    obtain ⟨o, h⟩ := WSt.own t.b _ m
    exact ⟨o, hide_le _ _ h⟩
  have fresh : ∀ {a : Addr}, H a = none → a ∉ v.X := fun n m => by
    obtain ⟨o, h⟩ := vX m
    rw [n] at h
    cases h
  have WX : u.W ∉ v.X := t.off (a := u.W) List.mem_cons_self
  have aw : Away v.X H' := fun a m => by
    obtain ⟨o, h1, h2⟩ := (WSt.away t.b).up hide_le a m
    exact ⟨o, fr a o (fun z => WX (z ▸ m)) h1, h2⟩
  obtain ⟨d9, r9, f9, b9, n9⟩ := hb
  exact ⟨⟨h'.hideN aw WX (t.off (a := u.D) (List.mem_cons_of_mem _ List.mem_cons_self)) (fresh (new _ List.mem_cons_self)) (fun a m => fresh (new a (List.mem_cons_of_mem _ m))) ⟨d9, r9, f9, b9, fresh n9⟩, WSt.up t.b sm⟩, sm⟩
/-- a second world made -/
theorem TwoW.made {A' : SA} {fu' W' ru' D' : Addr} {sq' : List Pr} {es' : Nat} (t : u.At C CB CR CW bs ss H) (fr : Same H (hide (ownX W' D' fu' A') H')) (hb : BlkN CB H H' A'.bo ru')
    (h' : WSt C CB CR CW bs ss H' W' ru' D' 0 A' fu' sq' es' [] (fun _ => 0) 0) : TwoW C CB CR CW bs ss H' u ⟨W', ru', D', 0, A', fu', sq', es', [], fun _ => 0, 0⟩ := by
  have new : ∀ a ∈ ownX W' D' fu' A', a ∉ u.X := fun a m n => by
    obtain ⟨o, h⟩ := WSt.own t a n
    have := fr _ _ h
    rw [hide_in m] at this
    cases this
  have aw : Away u.X H' := (WSt.away t).up (fr.trans hide_le)
  have nu : ∀ {a : Addr}, H a = none → a ∉ u.X := fun n m => by
    obtain ⟨o, h⟩ := WSt.own t _ m
    rw [n] at h
    cases h
  obtain ⟨d9, f9, b9, _, n9⟩ := hb
  refine ⟨WSt.up t fr, h'.hideN aw (new _ List.mem_cons_self) (new _ (List.mem_cons_of_mem _ List.mem_cons_self)) (new _ (List.mem_cons_of_mem _ (List.mem_cons_of_mem _ List.mem_cons_self))) (fun a m => new _ (List.mem_cons_of_mem _ (List.mem_cons_of_mem _ (List.mem_cons_of_mem _ m)))) ⟨d9, ru', f9, b9, nu n9⟩⟩
end
end
end My
namespace My
open PySem PySem.Spec PyProof.Rows L2 Vx
open TL
local macro_rules | `(tactic| k_invariant "new" ($n, $H:ident, $e:ident, $h:ident)) => `(tactic| (generalize hE : upd _ _ _ = $H; obtain ⟨$e:ident, $h:ident⟩ := gen_e hE $n; clear hE))
local macro_rules | `(tactic| k_places) => `(tactic| first
  | assumption
  | exact lst_of (by assumption)
  | exact tup_of (by assumption)
  | (refine getS (by assumption) ?_; k_places)
  | (refine Same.seq (by assumption) ?_; k_places)
  | (refine tupS (by assumption) ?_; k_places)
  | (refine lst_of ?_; k_places)
  | (refine tup_of ?_; k_places))
local macro_rules | `(tactic| k_subL) => `(tactic| first
  | k_places
  | solve_by_elim (maxDepth := 10) [getS, lst_of, tup_of, Same.seq, tupS])
local macro_rules | `(tactic| k_offL) => `(tactic| first
  | (show (0 : Int) < _; first | omega | decide)
  | (refine ⟨?_, ?_⟩ <;> first | omega | decide)
  | exact .inr ⟨by decide, by decide⟩
  | exact .inl ⟨by decide, by decide⟩
  | exact .inl ⟨by omega, by omega⟩
  | omega)
local macro_rules | `(tactic| k_clsL) => `(tactic| exact Nat.le_of_ble_eq_true rfl)
local macro_rules | `(tactic| k_upd) => `(tactic| simp only [L2.start, List.map_cons, List.map_nil, List.length_cons, List.length_nil, List.replicate_succ, List.replicate_zero, List.cons_append, List.nil_append, List.set_cons_zero, List.set_cons_succ])
section
variable {P : Program} {w : World} {K : PySem.W.Frag} {mg : Str → Option Value} {base : Heap}
theorem WSt.sbD {C CB CR CW : Addr} {bs ss : List Int} {H H' : Hp} {W ru D : Addr} {gen : Int} {A : SA} {fu : Addr} {sq : List Pr} {es : Nat} {ks ks' : List Pr} {g g' : Pr → Nat} {B : Nat} (h : WSt C CB CR CW bs ss H W ru D gen A fu sq es ks g B) (sb : Sb D H H') (hL : LivIs H' D ks' g') : WSt C CB CR CW bs ss H' W ru D gen A fu sq es ks' g' B := by
  obtain ⟨kvD, hD, _⟩ := h.liv.dct
  have ne : ∀ {a : Addr} {o : HO}, H a = some o → (∀ kvs, o ≠ .dT kvs) → a ≠ D := fun e n z => by
    rw [z, hD] at e
    exact n _ (Option.some.inj e).symm
  have k : ∀ {a : Addr} {o : HO}, H a = some o → a ≠ D → H' a = some o := fun e n => sb _ _ n e
  have kM : ∀ {a : Addr} {o : HO}, hide A.M H a = some o → a ≠ D → hide A.M H' a = some o := fun {a o} e n => by
    have m : a ∉ A.M := fun m => by rw [hide_in m] at e; cases e
    rw [hide_out m] at e ⊢
    exact k e n
  have kK : ∀ {a : Addr} {o : HO}, hide A.M H a = some o → (∀ kvs, o ≠ .dT kvs) → hide A.M H' a = some o := fun e n => kM e (ne (hide_le _ _ e) n)
  have off : ∀ {a : Addr}, a ∈ A.M → a ≠ D := fun m z => h.dM (z ▸ m)
  obtain ⟨dw, hw⟩ := h.wat
  obtain ⟨⟨dx, ru1, lg, f1⟩, ⟨dxb, rub, flb, hb1, hb2, dr, tb, ts, r1, r2, r3⟩, fs, gf, ⟨kv, f3, f3'⟩, f4, f5⟩ := h.ft
  obtain ⟨dr', tb', ts', q1, q2, q3⟩ := h.rl
  have blk : BlkR CB CR (hide A.M H') A.bo bs ss := ⟨dxb, rub, flb, kK hb1 (fun _ z => by cases z), kK hb2 (fun _ z => by cases z), dr, tb, ts, kK r1 (fun _ z => by cases z), kK r2 (fun _ z => by cases z), kK r3 (fun _ z => by cases z)⟩
  obtain ⟨⟨dx5, ru5, lg5, fu5, s1⟩, s2, s3, s4, s5, ⟨us, s6, s7⟩, ⟨kvs, s8, s8'⟩, s9, s10, s11, s12⟩ := h.st
  have m : A.la ∈ A.M ∧ A.ca ∈ A.M ∧ A.ba ∈ A.M ∧ A.pa ∈ A.M ∧ A.sm ∈ A.M ∧ A.em ∈ A.M := by simp only [SA.M, List.mem_cons, true_or, or_true, and_self]
  exact ⟨⟨dw, k hw (ne hw fun _ z => by cases z)⟩, hL, h.dM, h.df,
    ⟨⟨dx5, ru5, lg5, fu5, k s1 (ne s1 fun _ z => by cases z)⟩, blk.at, k s3 (off m.1), k s4 (off m.2.1), k s5 (off m.2.2.1), ⟨us, k s6 (off m.2.2.2.1), s7⟩, ⟨kvs, k s8 (off m.2.2.2.2.1), s8'⟩, k s9 (off m.2.2.2.2.2), s10, s11, s12⟩,
    h.e1, h.e6, ⟨⟨dx, ru1, lg, kK f1 (fun _ z => by cases z)⟩, blk, fs, gf, ⟨kv, kM f3 h.df.symm, f3'⟩, f4, f5⟩, ⟨dr', tb', ts', kK q1 (fun _ z => by cases z), kK q2 (fun _ z => by cases z), kK q3 (fun _ z => by cases z)⟩⟩
/-! ### how many cells -/
theorem nodup_lenP : ∀ (l m : List Pr), l.Nodup → (∀ x ∈ l, x ∈ m) → l.length ≤ m.length
  | [], _, _, _ => Nat.zero_le _
  | x :: l, m, nd, h => by
    obtain ⟨n1, n2⟩ := List.nodup_cons.mp nd
    have mx := h x List.mem_cons_self
    have := nodup_lenP l (m.erase x) n2 fun y my => (List.mem_erase_of_ne fun e : y = x => n1 (by rw [← e]; exact my)).mpr (h y (List.mem_cons_of_mem _ my))
    rw [List.length_erase_of_mem mx] at this
    have : 0 < m.length := List.length_pos_of_mem mx
    rw [List.length_cons]
    omega
theorem ks_le_cells {H : Hp} {D : Addr} {ks : List Pr} {g : Pr → Nat} (h : LivIs H D ks g) : ks.length ≤ (cellsW ks g).length := by
  have : ∀ l : List Pr, (∀ p ∈ l, g p ≠ 0) → l.length ≤ (cellsW l g).length := fun l => by
    induction l with
    | nil => exact fun _ => Nat.zero_le _
    | cons p l ih =>
      intro hp
      have h1 := ih fun q m => hp q (List.mem_cons_of_mem _ m)
      have hc : cellsW (p :: l) g = cellsAt p (g p) ++ cellsW l g := by
        unfold cellsW
        rw [List.map_cons, List.flatten_cons]
      have h2 : 0 < (cellsAt p (g p)).length := by
        obtain ⟨i, t⟩ := Nat.exists_testBit_of_ne_zero (hp p List.mem_cons_self)
        have i1 : i < 1024 := Classical.byContradiction fun c => by
          rw [Nat.testBit_lt_two_pow (Nat.lt_of_lt_of_le (h.lt p) (Nat.pow_le_pow_right (by decide) (by omega)))] at t
          cases t
        refine List.length_pos_of_mem (a := backP p i) (cellsAt_mem.mpr ⟨back_place i1, ?_⟩)
        rw [back_bit i1]
        exact t
      rw [hc, List.length_append, List.length_cons]
      omega
  exact this ks fun p m => (h.pos p).mp m
theorem stepL_nearW {bs ss : List Int} {L : Int → Int → Bool} {r c : Int} (hb : ∀ b ∈ bs, 1 ≤ b ∧ b ≤ 8) (h : stepL bs ss L r c = true) : ∃ r' c', r - 1 ≤ r' ∧ r' ≤ r + 1 ∧ c - 1 ≤ c' ∧ c' ≤ c + 1 ∧ L r' c' = true := by
  by_cases z : L r c = true
  · exact ⟨r, c, by omega, by omega, by omega, by omega, z⟩
  · unfold stepL at h
    rw [if_neg z] at h
    have m := hb _ (of_decide_eq_true h)
    refine Classical.byContradiction fun no => ?_
    have off : ∀ r' c', r - 1 ≤ r' → r' ≤ r + 1 → c - 1 ≤ c' → c' ≤ c + 1 → L r' c' = false := fun r' c' a1 a2 a3 a4 => by
      cases e : L r' c' with
      | false => rfl
      | true => exact absurd ⟨r', c', a1, a2, a3, a4, e⟩ no
    have e : nb L r c = 0 := by
      unfold nb
      rw [off (r - 1) (c - 1), off (r - 1) c, off (r - 1) (c + 1), off r (c - 1), off r (c + 1), off (r + 1) (c - 1), off (r + 1) c, off (r + 1) (c + 1)] <;> first | rfl | omega
    rw [e] at m
    omega
theorem genL_near {bs ss : List Int} {L : Int → Int → Bool} (hb : ∀ b ∈ bs, 1 ≤ b ∧ b ≤ 8) : ∀ (n : Nat) (r c : Int), genL bs ss L n r c = true → ∃ r' c', r - n ≤ r' ∧ r' ≤ r + n ∧ c - n ≤ c' ∧ c' ≤ c + n ∧ L r' c' = true
  | 0, r, c, h => ⟨r, c, by omega, by omega, by omega, by omega, h⟩
  | n + 1, r, c, h => by
    obtain ⟨r1, c1, a1, a2, a3, a4, h1⟩ := stepL_nearW hb h
    obtain ⟨r2, c2, b1, b2, b3, b4, h2⟩ := genL_near hb n r1 c1 h1
    exact ⟨r2, c2, by omega, by omega, by omega, by omega, h2⟩
/-- after at most six generations at most 169 cells for one -/
theorem cells_after {bs ss : List Int} (hb : ∀ b ∈ bs, 1 ≤ b ∧ b ≤ 8) {H H' : Hp} {D D' : Addr} {ks ks' : List Pr} {g g' : Pr → Nat} (h : LivIs H D ks g) (h' : LivIs H' D' ks' g') {n : Nat} (hn : n < 7) (e : ∀ r c, in32 g' r c = genL bs ss (in32 g) n r c) : (cellsW ks' g').length ≤ 169 * (cellsW ks g).length := by
  obtain ⟨big, ebig⟩ : ∃ big : List Pr, big = ((cellsW ks g).map fun y => (List.range 169).map fun k => ((y.1 - 6 + ((k / 13 : Nat) : Int), y.2 - 6 + ((k % 13 : Nat) : Int)) : Pr)).flatten := ⟨_, rfl⟩
  have len : big.length = 169 * (cellsW ks g).length := by
    rw [ebig, List.length_flatten, List.map_map]
    have : ((cellsW ks g).map (List.length ∘ fun y => (List.range 169).map fun k => ((y.1 - 6 + ((k / 13 : Nat) : Int), y.2 - 6 + ((k % 13 : Nat) : Int)) : Pr))) = (cellsW ks g).map fun _ => 169 := List.map_congr_left fun y _ => by
      show ((List.range 169).map _).length = 169
      rw [List.length_map, List.length_range]
    rw [this]
    generalize cellsW ks g = l
    induction l with
    | nil => rfl
    | cons a l ih =>
      rw [List.map_cons, List.sum_cons, ih, List.length_cons]
      omega
  rw [← len]
  refine nodup_lenP _ _ (cellsW_nd h'.nd) fun x mx => ?_
  have ax : in32 g' x.1 x.2 = true := (h'.mem x).mp mx
  rw [e] at ax
  obtain ⟨r, c, a1, a2, a3, a4, hy⟩ := genL_near hb n x.1 x.2 ax
  have my : ((r, c) : Pr) ∈ cellsW ks g := (h.mem (r, c)).mpr hy
  rw [ebig]
  refine List.mem_flatten.mpr ⟨_, List.mem_map.mpr ⟨(r, c), my, rfl⟩, List.mem_map.mpr ⟨(x.1 - r + 6).toNat * 13 + (x.2 - c + 6).toNat, List.mem_range.mpr ?_, ?_⟩⟩
  · omega
  · refine Prod.ext ?_ ?_ <;> dsimp only <;> omega
end
end My
namespace My
open PySem PySem.Spec PyProof.Rows L2 Vx
open TL
local macro_rules | `(tactic| k_invariant "new" ($n, $H:ident, $e:ident, $h:ident)) => `(tactic| (generalize hE : upd _ _ _ = $H; obtain ⟨$e:ident, $h:ident⟩ := gen_e hE $n; clear hE))
local macro_rules | `(tactic| k_places) => `(tactic| first
  | assumption
  | exact lst_of (by assumption)
  | exact tup_of (by assumption)
  | (refine getS (by assumption) ?_; k_places)
  | (refine Same.seq (by assumption) ?_; k_places)
  | (refine tupS (by assumption) ?_; k_places)
  | (refine lst_of ?_; k_places)
  | (refine tup_of ?_; k_places))
local macro_rules | `(tactic| k_subL) => `(tactic| first
  | k_places
  | solve_by_elim (maxDepth := 10) [getS, lst_of, tup_of, Same.seq, tupS])
local macro_rules | `(tactic| k_offL) => `(tactic| first
  | (show (0 : Int) < _; first | omega | decide)
  | (refine ⟨?_, ?_⟩ <;> first | omega | decide)
  | exact .inr ⟨by decide, by decide⟩
  | exact .inl ⟨by decide, by decide⟩
  | exact .inl ⟨by omega, by omega⟩
  | omega)
local macro_rules | `(tactic| k_clsL) => `(tactic| exact Nat.le_of_ble_eq_true rfl)
local macro_rules | `(tactic| k_upd) => `(tactic| simp only [L2.start, List.map_cons, List.map_nil, List.length_cons, List.length_nil, List.replicate_succ, List.replicate_zero, List.cons_append, List.nil_append, List.set_cons_zero, List.set_cons_succ])
section
variable {P : Program} {w : World} {K : PySem.W.Frag} {mg : Str → Option Value} {base : Heap}
def turn1 (x : Pr) : Pr := (x.2, -x.1)
def turnN : Nat → Pr → Pr
  | 0, x => x
  | n + 1, x => turn1 (turnN n x)
def flipP (f : Bool) (x : Pr) : Pr := if f = true then (x.1, -x.2) else x
def imgP (n : Nat) (f : Bool) (r c : Int) (x : Pr) : Pr := ((turnN n (flipP f x)).1 + r, (turnN n (flipP f x)).2 + c)
theorem turn1_inj {x y : Pr} (h : turn1 x = turn1 y) : x = y := by
  have h1 : x.2 = y.2 := congrArg Prod.fst h
  have h2 : -x.1 = -y.1 := congrArg Prod.snd h
  exact Prod.ext (by omega) h1
theorem turnN_inj : ∀ (n : Nat) {x y : Pr}, turnN n x = turnN n y → x = y
  | 0, _, _, h => h
  | n + 1, _, _, h => turnN_inj n (turn1_inj h)
theorem flipP_inj {f : Bool} {x y : Pr} (h : flipP f x = flipP f y) : x = y := by
  cases f with
  | false => exact h
  | true =>
    have h : (x.1, -x.2) = (y.1, -y.2) := h
    have h1 : x.1 = y.1 := (Prod.mk.inj h).1
    have h2 : -x.2 = -y.2 := (Prod.mk.inj h).2
    exact Prod.ext h1 (by omega)
theorem imgP_inj {n : Nat} {f : Bool} {r c : Int} {x y : Pr} (h : imgP n f r c x = imgP n f r c y) : x = y := by
  have h1 : (turnN n (flipP f x)).1 + r = (turnN n (flipP f y)).1 + r := congrArg Prod.fst h
  have h2 : (turnN n (flipP f x)).2 + c = (turnN n (flipP f y)).2 + c := congrArg Prod.snd h
  have e : turnN n (flipP f x) = turnN n (flipP f y) := Prod.ext (by omega) (by omega)
  exact flipP_inj (turnN_inj n e)
def sp_law_image : Sp := fun vs H Q _ => ∃ (l : Addr) (ps : List Pr) (n : Nat) (f : Bool) (r c : Int), n < 4 ∧ vs = [.ref l, .int (n : Int), .bl f, .int r, .int c] ∧ Cells H l ps ∧ ps.Nodup ∧ ps.length < 1000000 ∧
  ∀ (H' : Hp) (p : Addr) (qs : List Pr), H p = none → Same H H' → Cells H' p qs → qs.Pairwise ltP → (∀ x, x ∈ qs ↔ ∃ y ∈ ps, x = imgP n f r c y) → qs.length = ps.length → Q (.ref p) H'
theorem ok_law_image (T : Txt K mg) : FnOk P w K mg base CX0 1 T.f_law_image T.d_law_image ["cells", "turns", "flipped", "r", "c"] sp_law_image := by
  refine T.F_law_image.ok sc_law_image (fun vs H Q E h => ?_) (fun cdv A outer s H vs Q E hr h => ?_)
  · obtain ⟨_, _, _, _, _, _, _, rfl, _⟩ := h
    rfl
  · obtain ⟨l, ps, n, f, r, c, hn, rfl, hC, nd, few, q⟩ := h
    refine ⟨_, (pss_cons (ps_set (i := 5) sc_law_image.nd rfl (.inl rfl) (pe_callTy call_listL (by rfl) T.z_list (by decide +kernel) (pa_cons (pv 0) pa_nil)))
      (pss_cons (ps_mid (ps_if (pt_val (pv 2))
      (pss_one (ps_setLc (i := 5) (own := [("i", 7), ("j", 8)]) (tt := tYes) rfl sc_law_image.nd rfl rfl (sw_true rfl rfl rfl (by decide +kernel)) (pi_list (pv 5)) (blkOk_by (own := [("i", 7), ("j", 8)]) (N := N_law_image) (sc := defScope s_law_image) (by decide +kernel)) (fun _ _ _ _ _ => (pg_tupK (K := K) (n := 2) rfl rfl (pgs_cons (pg_name (i := 7) sc_law_image.nd rfl (.inl rfl)) (pgs_cons (pg_name (i := 8) sc_law_image.nd rfl (.inl rfl)) pgs_nil)))) (fun _ _ _ _ _ => pts_nil) (fun _ _ _ _ _ => (pe_tup (pa_cons (pv 7) (pa_cons (pe_un un_neg (pv 8)) pa_nil))))))
      pss_nil))
      (pss_cons (ps_for PassesOwn.never rfl (pi_range1 (by rfl) T.z_range (pa_cons (pv 1) pa_nil)) (pg_name (i := 6) sc_law_image.nd rfl (.inl rfl))
      (pss_one (ps_setLc (i := 5) (own := [("i", 7), ("j", 8)]) (tt := tYes) rfl sc_law_image.nd rfl rfl (sw_true rfl rfl rfl (by decide +kernel)) (pi_list (pv 5)) (blkOk_by (own := [("i", 7), ("j", 8)]) (N := N_law_image) (sc := defScope s_law_image) (by decide +kernel)) (fun _ _ _ _ _ => (pg_tupK (K := K) (n := 2) rfl rfl (pgs_cons (pg_name (i := 7) sc_law_image.nd rfl (.inl rfl)) (pgs_cons (pg_name (i := 8) sc_law_image.nd rfl (.inl rfl)) pgs_nil)))) (fun _ _ _ _ _ => pts_nil) (fun _ _ _ _ _ => (pe_tup (pa_cons (pv 8) (pa_cons (pe_un un_neg (pv 7)) pa_nil)))))))
      (pss_one (ps_ret (pe_callB cr_sortedC (by rfl) T.z_sorted (by decide +kernel) (pa_cons (pe_lc (own := [("i", 7), ("j", 8)]) (tt := tYes) rfl sc_law_image.nd (pi_list (pv 5)) (blkOk_by (own := [("i", 7), ("j", 8)]) (N := N_law_image) (sc := defScope s_law_image) (by decide +kernel)) (fun _ _ _ _ _ => (pg_tupK (K := K) (n := 2) rfl rfl (pgs_cons (pg_name (i := 7) sc_law_image.nd rfl (.inl rfl)) (pgs_cons (pg_name (i := 8) sc_law_image.nd rfl (.inl rfl)) pgs_nil)))) (fun _ _ _ _ _ => pts_nil) (fun _ _ _ _ _ => (pe_tup (pa_cons (pe_op op_add (pv 7) (pv 3)) (pa_cons (pe_op op_add (pv 8) (pv 4)) pa_nil))))) pa_nil))))))), ?_⟩
    obtain ⟨ts, hts, htt, ets⟩ := id hC
    refine ⟨_, rfl, l, _, rfl, lst_of hts, fun p2 n2 => ?_⟩
    have hC2 : Cells (upd H p2 (.lst (ts.map fun t => V.ref t.1))) p2 ps := by
      rw [← ets]
      exact cells_mk ts upd_same fun t m => newS n2 _ _ (htt t m)
    have e1 : Same H (upd H p2 (.lst (ts.map fun t => V.ref t.1))) := newS n2
    generalize upd H p2 (.lst (ts.map fun t => V.ref t.1)) = H1 at hC2 e1 ⊢
    k_upd
    refine ⟨fun σ' H' => Same H H' ∧ ∃ (p : Addr) (x6 x7 x8 : Option V), σ' = [some (.ref l), some (.int (n : Int)), some (.bl f), some (.int r), some (.int c), some (.ref p), x6, x7, x8] ∧ Cells H' p (ps.map (flipP f)), ?_, ?_⟩
    · cases f with
      | true =>
        refine ⟨_, rfl, _, rfl, iteT ?_⟩
        refine ⟨_, rfl, p2, rfl, ⟨_, lst_of hC2.choose_spec.1⟩, fun D nD => lc_cells (flipP true) hC2 nD (by rw [sizeLine_eq]; omega) ?_ fun H3 e3 h3 => ?_⟩
        · intro t x H' Po Pn sm ht hq
          exact ⟨t, _, rfl, tup_of ht, rfl, _, _, rfl, _, _, rfl, rfl, wipe2 _ 7 8 _ _, tyesT ⟨_, rfl, _, rfl, _, rfl, (by k_clsL), fun t2 n2 => hq t2 n2⟩⟩
        refine gName_go ?_
        k_upd
        exact ⟨e1.trans e3, D, _, _, _, rfl, h3⟩
      | false =>
        refine ⟨_, rfl, _, rfl, iteF ?_⟩
        refine ⟨e1, p2, _, _, _, rfl, ?_⟩
        have : ps.map (flipP false) = ps := (List.map_congr_left fun x _ => rfl).trans (List.map_id _)
        rw [this]
        exact hC2
    · rintro σ' H2 ⟨e2, p, x6, x7, x8, rfl, hp⟩
      refine ⟨_, rfl, (n : Int), rfl, by omega, by omega, ?_⟩
      rw [Int.toNat_natCast]
      refine for_range (lo := 0) (n := n) (fun i σ H' => Same H H' ∧ ∃ (p : Addr) (x6 x7 x8 : Option V), σ = [some (.ref l), some (.int (n : Int)), some (.bl f), some (.int r), some (.int c), some (.ref p), x6, x7, x8] ∧ Cells H' p ((ps.map (flipP f)).map (turnN i)))
        ⟨e2, p, _, _, _, rfl, by rw [show (ps.map (flipP f)).map (turnN 0) = ps.map (flipP f) from (List.map_congr_left fun x _ => rfl).trans (List.map_id _)]; exact hp⟩ ?_ ?_
      · rintro i σ H3 hi ⟨e3, p3, y6, y7, y8, rfl, hp3⟩
        refine ⟨_, rfl, p3, rfl, ⟨_, lst_of hp3.choose_spec.1⟩, fun D nD => lc_cells turn1 hp3 nD (by rw [List.length_map, List.length_map, sizeLine_eq]; omega) ?_ fun H4 e4 h4 => ?_⟩
        · intro t x H' Po Pn sm ht hq
          exact ⟨t, _, rfl, tup_of ht, rfl, _, _, rfl, _, _, rfl, rfl, wipe2 _ 7 8 _ _, tyesT ⟨_, rfl, _, rfl, _, rfl, (by k_clsL), fun t2 n2 => hq t2 n2⟩⟩
        refine gName_go ?_
        k_upd
        refine ⟨e3.trans e4, D, _, _, _, rfl, ?_⟩
        rw [List.map_map] at h4
        exact h4
      · rintro σ H3 ⟨e3, p3, y6, y7, y8, rfl, hp3⟩
        rw [List.map_map] at hp3
        refine ⟨_, rfl, p3, rfl, ⟨_, lst_of hp3.choose_spec.1⟩, fun D nD => lc_cells (fun x => (x.1 + r, x.2 + c)) hp3 nD (by rw [List.length_map, sizeLine_eq]; omega) ?_ fun H4 e4 h4 => ?_⟩
        · intro t x H' Po Pn sm ht hq
          exact ⟨t, _, rfl, tup_of ht, rfl, _, _, rfl, _, _, rfl, rfl, rfl, tyesT ⟨_, rfl, _, rfl, _, _, rfl, rfl, _, rfl, _, rfl, _, _, rfl, rfl, (by k_clsL), fun t2 n2 => hq t2 n2⟩⟩
        rw [List.map_map] at h4
        have em : ps.map ((fun x : Pr => (x.1 + r, x.2 + c)) ∘ (turnN n ∘ flipP f)) = ps.map (imgP n f r c) := List.map_congr_left fun x _ => rfl
        rw [em] at h4
        have nd4 : (ps.map (imgP n f r c)).Nodup := List.pairwise_map.mpr (nd.imp fun h e => h (imgP_inj e))
        refine ⟨D, _, rfl, h4, nd4, fun p5 H5 qs e5 n5 h5 c5 l5 => ?_⟩
        have se := e3.trans e4
        refine q H5 p5 qs (backS se n5) (se.trans e5) h5 c5.1 (fun x => (c5.2 x).trans ?_) (by rw [l5, List.length_map])
        rw [List.mem_map]
        exact ⟨fun ⟨y, m, e⟩ => ⟨y, m, e.symm⟩, fun ⟨y, m, e⟩ => ⟨y, m, e.symm⟩⟩
/-! ### living commutes with turns, mirrors and moves -/
theorem nb_turn (M : Int → Int → Bool) (r c : Int) : nb (fun r c => M c (-r)) r c = nb M c (-r) := by
  have h1 : -(r - 1) = -r + 1 := by omega
  have h2 : -(r + 1) = -r - 1 := by omega
  unfold nb
  dsimp only
  rw [h1, h2]
  omega
theorem nb_flip (M : Int → Int → Bool) (r c : Int) : nb (fun r c => M r (-c)) r c = nb M r (-c) := by
  have h1 : -(c - 1) = -c + 1 := by omega
  have h2 : -(c + 1) = -c - 1 := by omega
  unfold nb
  dsimp only
  rw [h1, h2]
  omega
theorem genL_turn (bs ss : List Int) (L : Int → Int → Bool) : ∀ n, genL bs ss (fun r c => L c (-r)) n = fun r c => genL bs ss L n c (-r)
  | 0 => rfl
  | n + 1 => by
    show stepL bs ss (genL bs ss (fun r c => L c (-r)) n) = fun r c => stepL bs ss (genL bs ss L n) c (-r)
    rw [genL_turn bs ss L n]
    refine funext fun r => funext fun c => ?_
    unfold stepL
    rw [nb_turn]
theorem genL_flip (bs ss : List Int) (L : Int → Int → Bool) : ∀ n, genL bs ss (fun r c => L r (-c)) n = fun r c => genL bs ss L n r (-c)
  | 0 => rfl
  | n + 1 => by
    show stepL bs ss (genL bs ss (fun r c => L r (-c)) n) = fun r c => stepL bs ss (genL bs ss L n) r (-c)
    rw [genL_flip bs ss L n]
    refine funext fun r => funext fun c => ?_
    unfold stepL
    rw [nb_flip]
theorem gen_turnN (bs ss : List Int) (k : Nat) : ∀ (n : Nat) (M : Int → Int → Bool), genL bs ss (fun r c => M (turnN n (r, c)).1 (turnN n (r, c)).2) k = fun r c => genL bs ss M k (turnN n (r, c)).1 (turnN n (r, c)).2
  | 0, _ => rfl
  | n + 1, M => by
    have ih := gen_turnN bs ss k n (fun r c => M c (-r))
    rw [genL_turn] at ih
    exact ih
theorem gen_flipP (bs ss : List Int) (k : Nat) (f : Bool) (M : Int → Int → Bool) : genL bs ss (fun r c => M (flipP f (r, c)).1 (flipP f (r, c)).2) k = fun r c => genL bs ss M k (flipP f (r, c)).1 (flipP f (r, c)).2 := by
  cases f with
  | false => rfl
  | true => exact genL_flip bs ss M k
theorem gen_img {bs ss : List Int} {n : Nat} {f : Bool} {a b : Int} {L M : Int → Int → Bool} (h : ∀ x : Pr, L x.1 x.2 = M (imgP n f a b x).1 (imgP n f a b x).2) (k : Nat) (x : Pr) : genL bs ss L k x.1 x.2 = genL bs ss M k (imgP n f a b x).1 (imgP n f a b x).2 := by
  have e : L = fun r c => (fun r c => (fun r c => M (a + r) (b + c)) (turnN n (r, c)).1 (turnN n (r, c)).2) (flipP f (r, c)).1 (flipP f (r, c)).2 := funext fun r => funext fun c => by
    rw [h (r, c)]
    unfold imgP
    dsimp only
    rw [Int.add_comm a, Int.add_comm b]
  rw [e, gen_flipP bs ss k f (fun r c => (fun r c => M (a + r) (b + c)) (turnN n (r, c)).1 (turnN n (r, c)).2), gen_turnN bs ss k n (fun r c => M (a + r) (b + c))]
  dsimp only
  rw [genL_shift]
  unfold imgP
  dsimp only
  rw [Int.add_comm a, Int.add_comm b]
end
end My
namespace My
open PySem PySem.Spec PyProof.Rows L2 Vx
open TL
local macro_rules | `(tactic| k_invariant "new" ($n, $H:ident, $e:ident, $h:ident)) => `(tactic| (generalize hE : upd _ _ _ = $H; obtain ⟨$e:ident, $h:ident⟩ := gen_e hE $n; clear hE))
local macro_rules | `(tactic| k_places) => `(tactic| first
  | assumption
  | exact lst_of (by assumption)
  | exact tup_of (by assumption)
  | (refine getS (by assumption) ?_; k_places)
  | (refine Same.seq (by assumption) ?_; k_places)
  | (refine tupS (by assumption) ?_; k_places)
  | (refine lst_of ?_; k_places)
  | (refine tup_of ?_; k_places))
local macro_rules | `(tactic| k_subL) => `(tactic| first
  | k_places
  | solve_by_elim (maxDepth := 10) [getS, lst_of, tup_of, Same.seq, tupS])
local macro_rules | `(tactic| k_offL) => `(tactic| first
  | (show (0 : Int) < _; first | omega | decide)
  | (refine ⟨?_, ?_⟩ <;> first | omega | decide)
  | exact .inr ⟨by decide, by decide⟩
  | exact .inl ⟨by decide, by decide⟩
  | exact .inl ⟨by omega, by omega⟩
  | omega)
local macro_rules | `(tactic| k_clsL) => `(tactic| exact Nat.le_of_ble_eq_true rfl)
local macro_rules | `(tactic| k_upd) => `(tactic| simp only [L2.start, List.map_cons, List.map_nil, List.length_cons, List.length_nil, List.replicate_succ, List.replicate_zero, List.cons_append, List.nil_append, List.set_cons_zero, List.set_cons_succ])
section
variable {P : Program} {w : World} {K : PySem.W.Frag} {mg : Str → Option Value} {base : Heap}
def Good (lo : Int) (l : List Int) : Prop := l.Pairwise (· < ·) ∧ (∀ b ∈ l, lo ≤ b ∧ b ≤ 8) ∧ l.length ≤ 9
theorem pow9 : ∀ n : Nat, n ≤ 9 → 0 < (2 : Int) ^ n ∧ (2 : Int) ^ n ≤ 512 := by decide
theorem good_snoc {lo hi : Int} {l : List Int} (h1 : l.Pairwise (· < ·)) (h2 : ∀ b ∈ l, lo ≤ b ∧ b < hi) (h : lo ≤ hi) : (l ++ [hi]).Pairwise (· < ·) ∧ ∀ b ∈ l ++ [hi], lo ≤ b ∧ b < hi + 1 := by
  constructor
  · rw [List.pairwise_append]
    refine ⟨h1, by simp, fun a ha b hb => ?_⟩
    rw [List.mem_singleton.mp hb]
    exact (h2 a ha).2
  · intro b hb
    rcases List.mem_append.mp hb with hb | hb
    · have := h2 b hb
      omega
    · rw [List.mem_singleton.mp hb]
      omega
def sp_law_numbers : Sp := fun vs H Q _ => ∃ (cell : Int), vs = [.int cell] ∧
  ∀ (H' : Hp) (p pb ps : Addr) (bs ss : List Int), Same H H' → H' p = some (.tup [.ref pb, .ref ps]) → H' pb = some (.lst (bs.map V.int)) → H' ps = some (.lst (ss.map V.int)) → Good 1 bs → Good 0 ss → Q (.ref p) H'
theorem ok_law_numbers (T : Txt K mg) : FnOk P w K mg base CX0 1 T.f_law_numbers T.d_law_numbers ["cell"] sp_law_numbers := by
  refine T.F_law_numbers.ok sc_law_numbers (fun vs H Q E h => ?_) (fun cdv A outer s H vs Q E hr h => ?_)
  · obtain ⟨_, rfl, _⟩ := h
    rfl
  · obtain ⟨cell, rfl, q⟩ := h
    refine ⟨_, (pss_cons (ps_set (i := 1) sc_law_numbers.nd rfl (.inr rfl) (pe_callB call_abs (by rfl) T.z_abs (by decide +kernel) (pa_cons (pe_callTy call_intI (by rfl) T.z_int (by decide +kernel) (pa_cons (pv 0) pa_nil)) pa_nil)))
      (pss_cons (ps_setLc (i := 2) (own := [("k", 4)]) (g := gName 4) rfl sc_law_numbers.nd rfl rfl (sw_true rfl rfl rfl (by decide +kernel)) (pi_range2 (by rfl) T.z_range (pa_cons pe_int (pa_cons pe_int pa_nil))) (blkOk_by (own := [("k", 4)]) (N := N_law_numbers) (sc := defScope s_law_numbers) (by decide +kernel)) (fun _ _ _ _ _ => pg_name (i := 4) sc_law_numbers.nd rfl (Or.inl rfl)) (fun _ _ _ _ _ => pts_one (pt_cmpR op_eq (pe_op op_mod (pe_op op_fdiv (pv 1) (pe_op op_shl pe_int (pv 4))) pe_int) pe_int (nomark _))) (fun _ _ _ _ _ => (pv 4)))
      (pss_cons (ps_setLc (i := 3) (own := [("k", 4)]) (g := gName 4) rfl sc_law_numbers.nd rfl rfl (sw_true rfl rfl rfl (by decide +kernel)) (pi_range1 (by rfl) T.z_range (pa_cons pe_int pa_nil)) (blkOk_by (own := [("k", 4)]) (N := N_law_numbers) (sc := defScope s_law_numbers) (by decide +kernel)) (fun _ _ _ _ _ => pg_name (i := 4) sc_law_numbers.nd rfl (Or.inl rfl)) (fun _ _ _ _ _ => pts_one (pt_cmpR op_eq (pe_op op_mod (pe_op op_fdiv (pv 1) (pe_op op_shl pe_int (pv 4))) pe_int) pe_int (nomark _))) (fun _ _ _ _ _ => (pv 4)))
      (pss_cons (ps_if (pt_cmpR op_eq (pe_op op_mod (pe_op op_fdiv (pv 1) pe_int) pe_int) pe_int (nomark _))
      (pss_cons (ps_set (i := 2) sc_law_numbers.nd rfl (.inl rfl) (pe_ix ix_list (pe_lst (pa_cons (pe_lst (pa_cons pe_int pa_nil)) (pa_cons (pe_lst (pa_cons pe_int (pa_cons pe_int pa_nil))) (pa_cons (pe_lst (pa_cons pe_int pa_nil)) (pa_cons (pe_lst (pa_cons pe_int (pa_cons pe_int (pa_cons pe_int pa_nil)))) (pa_cons (pe_lst (pa_cons pe_int (pa_cons pe_int pa_nil))) pa_nil)))))) (pe_op op_mod (pe_op op_fdiv (pv 1) pe_int) pe_int) (fun _ _ => rfl)))
      (pss_one (ps_set (i := 3) sc_law_numbers.nd rfl (.inl rfl) (pe_ix ix_list (pe_lst (pa_cons (pe_lst (pa_cons pe_int (pa_cons pe_int pa_nil))) (pa_cons (pe_lst (pa_cons pe_int (pa_cons pe_int pa_nil))) (pa_cons (pe_lst pa_nil) (pa_cons (pe_lst (pa_cons pe_int (pa_cons pe_int (pa_cons pe_int (pa_cons pe_int pa_nil))))) (pa_cons (pe_lst (pa_cons pe_int (pa_cons pe_int (pa_cons pe_int pa_nil)))) pa_nil)))))) (pe_op op_mod (pe_op op_fdiv (pv 1) pe_int) pe_int) (fun _ _ => rfl)))))
      pss_nil)
      (pss_one (ps_ret (pe_tup (pa_cons (pv 2) (pa_cons (pv 3) pa_nil))))))))), ?_⟩
    refine ⟨_, rfl, _, rfl, _, rfl, ?_⟩
    generalize (if cell < 0 then -cell else cell) = x
    -- births
    refine ⟨1, 9, rfl, ⟨by decide, by decide, by decide, by decide⟩, fun p1 n1 => lc_range (lo := 1) (n := 8) (fun i H' => ∃ ys : List Int, Same H H' ∧ H' p1 = some (.lst (ys.map V.int)) ∧ ys.length ≤ i ∧ ys.Pairwise (· < ·) ∧ ∀ b ∈ ys, 1 ≤ b ∧ b < 1 + (i : Int))
      ⟨[], newS n1, upd_same, by simp, by simp, by simp⟩ ?_ ?_⟩
    · rintro i H' hi ⟨ys, sm, hp, hl, h1, h2⟩
      have pw := pow9 (1 + (i : Int)).toNat (by omega)
      refine ⟨rfl, _, rfl, _, rfl, _, _, rfl, rfl, ⟨by omega, by omega, by decide⟩, _, _, rfl, rfl, ⟨?_, ?_⟩, _, _, rfl, rfl, (by k_offL), rfl, _, rfl, ite2 (fun c => ?_) (fun c => ?_)⟩
      · show (0 : Int) < 1 * 2 ^ (1 + (i : Int)).toNat
        omega
      · show (1 : Int) * 2 ^ (1 + (i : Int)).toNat < 1073741824
        omega
      · have g := good_snoc h1 h2 (by omega)
        refine ⟨_, rfl, _, hp, ?_, ys ++ [1 + (i : Int)], mutS sm n1, ?_, by simp; omega, g.1, fun b hb => ?_⟩
        · rw [List.length_map]
          exact Nat.lt_of_lt_of_le (show ys.length < 100 by omega) (by decide)
        · rw [upd_same, List.map_append]
          rfl
        · have := g.2 b hb
          omega
      · exact ⟨ys, sm, hp, by omega, h1, fun b hb => by have := h2 b hb; omega⟩
    rintro H1 ⟨bs, e1, hb, lb, gb1, gb2⟩
    have gb : Good 1 bs := ⟨gb1, fun b h => by have := gb2 b h; omega, by omega⟩
    -- survival
    refine ⟨9, rfl, by decide, by decide, fun p2 n2 => lc_range (lo := 0) (n := 9) (fun i H' => ∃ ys : List Int, Same H1 H' ∧ H' p2 = some (.lst (ys.map V.int)) ∧ ys.length ≤ i ∧ ys.Pairwise (· < ·) ∧ ∀ b ∈ ys, 0 ≤ b ∧ b < 0 + (i : Int))
      ⟨[], newS n2, upd_same, by simp, by simp, by simp⟩ ?_ ?_⟩
    · rintro i H' hi ⟨ys, sm, hp, hl, h1, h2⟩
      have pw := pow9 (0 + (i : Int)).toNat (by omega)
      refine ⟨rfl, _, rfl, _, rfl, _, _, rfl, rfl, ⟨by omega, by omega, by decide⟩, _, _, rfl, rfl, ⟨?_, ?_⟩, _, _, rfl, rfl, (by k_offL), rfl, _, rfl, ite2 (fun c => ?_) (fun c => ?_)⟩
      · show (0 : Int) < 512 * 2 ^ (0 + (i : Int)).toNat
        omega
      · show (512 : Int) * 2 ^ (0 + (i : Int)).toNat < 1073741824
        omega
      · have g := good_snoc h1 h2 (by omega)
        refine ⟨_, rfl, _, hp, ?_, ys ++ [0 + (i : Int)], mutS sm n2, ?_, by simp; omega, g.1, fun b hb => ?_⟩
        · rw [List.length_map]
          exact Nat.lt_of_lt_of_le (show ys.length < 100 by omega) (by decide)
        · rw [upd_same, List.map_append]
          rfl
        · have := g.2 b hb
          omega
      · exact ⟨ys, sm, hp, by omega, h1, fun b hb => by have := h2 b hb; omega⟩
    rintro H2 ⟨ss, e2, hs, ls, gs1, gs2⟩
    have gs : Good 0 ss := ⟨gs1, fun b h => by have := gs2 b h; omega, by omega⟩
    have hb2 := getS e2 hb
    have e02 := e1.trans e2
    -- if
    refine ⟨_, rfl, _, _, rfl, rfl, ⟨by decide, by decide⟩, _, _, rfl, rfl, (by k_offL), rfl, _, rfl, ite2 (fun c => ?_) (fun c => ?_)⟩
    · refine ⟨by decide, fun a1 m1 => ?_⟩
      k_invariant "new" (m1, A1, ea1, h1)
      refine ⟨by decide, fun a2 m2 => ?_⟩
      k_invariant "new" (m2, A2, ea2, h2)
      refine ⟨by decide, fun a3 m3 => ?_⟩
      k_invariant "new" (m3, A3, ea3, h3)
      refine ⟨by decide, fun a4 m4 => ?_⟩
      k_invariant "new" (m4, A4, ea4, h4)
      refine ⟨by decide, fun a5 m5 => ?_⟩
      k_invariant "new" (m5, A5, ea5, h5)
      refine ⟨by k_clsL, fun a6 m6 => ?_⟩
      k_invariant "new" (m6, A6, ea6, h6)
      have pick : ∃ (pb : Addr) (l : List Int), atI [V.ref a1, .ref a2, .ref a3, .ref a4, .ref a5] (x / 786432 % 5) = some (.ref pb) ∧ A6 pb = some (.lst (l.map V.int)) ∧ Good 1 l := by
        have z0 := Int.emod_nonneg (x / 786432) (show (5 : Int) ≠ 0 by decide)
        have z1 := Int.emod_lt_of_pos (x / 786432) (show (0 : Int) < 5 by decide)
        generalize x / 786432 % 5 = j at z0 z1
        have : j = 0 ∨ j = 1 ∨ j = 2 ∨ j = 3 ∨ j = 4 := by omega
        rcases this with rfl | rfl | rfl | rfl | rfl
        · exact ⟨a1, [3], rfl, by k_subL, by unfold Good; decide⟩
        · exact ⟨a2, [3, 6], rfl, by k_subL, by unfold Good; decide⟩
        · exact ⟨a3, [2], rfl, by k_subL, by unfold Good; decide⟩
        · exact ⟨a4, [3, 7, 8], rfl, by k_subL, by unfold Good; decide⟩
        · exact ⟨a5, [2, 5], rfl, by k_subL, by unfold Good; decide⟩
      obtain ⟨pb, l, hpk, hl, gl⟩ := pick
      refine ⟨_, rfl, _, _, rfl, rfl, ⟨by decide, by decide⟩, _, _, rfl, rfl, (by k_offL), _, _, _, _, rfl, rfl, by k_subL, hpk, ?_⟩
      refine ⟨by decide, fun b1 m1 => ?_⟩
      k_invariant "new" (m1, B1, eb1, h1)
      refine ⟨by decide, fun b2 m2 => ?_⟩
      k_invariant "new" (m2, B2, eb2, h2)
      refine ⟨by decide, fun b3 m3 => ?_⟩
      k_invariant "new" (m3, B3, eb3, h3)
      refine ⟨by decide, fun b4 m4 => ?_⟩
      k_invariant "new" (m4, B4, eb4, h4)
      refine ⟨by decide, fun b5 m5 => ?_⟩
      k_invariant "new" (m5, B5, eb5, h5)
      refine ⟨by k_clsL, fun b6 m6 => ?_⟩
      k_invariant "new" (m6, B6, eb6, h6)
      have pick : ∃ (pb : Addr) (l : List Int), atI [V.ref b1, .ref b2, .ref b3, .ref b4, .ref b5] (x / 3932160 % 5) = some (.ref pb) ∧ B6 pb = some (.lst (l.map V.int)) ∧ Good 0 l := by
        have z0 := Int.emod_nonneg (x / 3932160) (show (5 : Int) ≠ 0 by decide)
        have z1 := Int.emod_lt_of_pos (x / 3932160) (show (0 : Int) < 5 by decide)
        generalize x / 3932160 % 5 = j at z0 z1
        have : j = 0 ∨ j = 1 ∨ j = 2 ∨ j = 3 ∨ j = 4 := by omega
        rcases this with rfl | rfl | rfl | rfl | rfl
        · exact ⟨b1, [2, 3], rfl, by k_subL, by unfold Good; decide⟩
        · exact ⟨b2, [2, 3], rfl, by k_subL, by unfold Good; decide⟩
        · exact ⟨b3, [], rfl, by k_subL, by unfold Good; decide⟩
        · exact ⟨b4, [2, 3, 4, 5], rfl, by k_subL, by unfold Good; decide⟩
        · exact ⟨b5, [3, 4, 6], rfl, by k_subL, by unfold Good; decide⟩
      obtain ⟨ps, m, hpk2, hm, gm⟩ := pick
      refine ⟨_, rfl, _, _, rfl, rfl, ⟨by decide, by decide⟩, _, _, rfl, rfl, (by k_offL), _, _, _, _, rfl, rfl, by k_subL, hpk2, ?_⟩
      refine ⟨_, rfl, _, rfl, by k_clsL, fun r nr => ?_⟩
      k_invariant "new" (nr, R1, er, hr1)
      exact q R1 r pb ps l m (e02.trans (ea1.trans (ea2.trans (ea3.trans (ea4.trans (ea5.trans (ea6.trans (eb1.trans (eb2.trans (eb3.trans (eb4.trans (eb5.trans (eb6.trans er))))))))))))) hr1 (by k_subL) (by k_subL) gl gm
    · refine ⟨_, rfl, _, rfl, by k_clsL, fun r nr => ?_⟩
      k_invariant "new" (nr, R1, er, hr1)
      exact q R1 r p1 p2 bs ss (e02.trans er) hr1 (by k_subL) (by k_subL) gb gs
theorem ok_law_cell (T : Txt K mg) : FnOk P w K mg base CX0 1 T.f_law_cell T.d_law_cell ["script", "k"] (spCell K) := by
  refine T.F_law_cell.ok sc_law_cell (fun vs H Q E h => ?_) (fun cdv A outer s H vs Q E hr h => ?_)
  · obtain ⟨l, ns, j, rfl, _⟩ := h
    rfl
  · obtain ⟨l, ns, j, rfl, hs, q⟩ := h
    refine ⟨_, (pss_cons (ps_if (pt_cmpR op_lt (pv 1) (pe_callB call_lenL (by rfl) T.z_len (by decide +kernel) (pa_cons (pv 0) pa_nil)) (nomark _))
      (pss_one (ps_ret (pe_callTy call_intI (by rfl) T.z_int (by decide +kernel) (pa_cons (pe_ix ix_list (pv 0) (pv 1) (fun _ _ => rfl)) pa_nil))))
      pss_nil)
      (pss_one (ps_ret pe_int))), ?_⟩
    refine ⟨_, rfl, _, rfl, _, _, rfl, hs, _, _, rfl, rfl, _, rfl, ite2 (fun c => ?_) (fun c => ?_)⟩
    · have hj : j < ns.length := by
        have z := of_decide_eq_true c
        rw [List.length_map] at z
        omega
      exact ⟨_, rfl, _, rfl, _, _, _, _, rfl, rfl, hs, atI_cell hj, _, rfl, q⟩
    · have hj : ¬ j < ns.length := fun z => c (decide_eq_true (by rw [List.length_map]; omega))
      rw [cell_out hj] at q
      exact q
/-! ### law_row: so many numbers from 0 to below the bound -/
def sp_law_row : Sp := fun vs H Q _ => ∃ (cell count bound : Int), vs = [.int cell, .int count, .int bound] ∧ 0 ≤ count ∧ count ≤ 100000 ∧ 0 < bound ∧ bound < 1000000000 ∧
  ∀ (H' : Hp) (p : Addr) (xs : List Int), H p = none → Same H H' → H' p = some (.lst (xs.map V.int)) → (xs.length : Int) = count → (∀ x ∈ xs, 0 ≤ x ∧ x < bound) → Q (.ref p) H'
theorem ok_law_row (T : Txt K mg) : FnOk P w K mg base CX0 1 T.f_law_row T.d_law_row ["cell", "count", "bound"] sp_law_row := by
  refine T.F_law_row.ok sc_law_row (fun vs H Q E h => ?_) (fun cdv A outer s H vs Q E hr h => ?_)
  · obtain ⟨_, _, _, rfl, _⟩ := h
    rfl
  · obtain ⟨cell, count, bound, rfl, c0, c1, b0, b1, q⟩ := h
    refine ⟨_, (pss_cons (ps_set (i := 3) sc_law_row.nd rfl (.inl rfl) (pe_callB call_abs (by rfl) T.z_abs (by decide +kernel) (pa_cons (pe_callTy call_intI (by rfl) T.z_int (by decide +kernel) (pa_cons (pv 0) pa_nil)) pa_nil)))
      (pss_cons (ps_set (i := 4) sc_law_row.nd rfl (.inl rfl) (pe_op op_add (pe_op op_mod (pe_callTy call_intI (by rfl) T.z_int (by decide +kernel) (pa_cons (pv 0) pa_nil)) pe_int) pe_int))
      (pss_cons (ps_set (i := 5) sc_law_row.nd rfl (.inl rfl) (pe_lst pa_nil))
      (pss_cons (ps_for PassesOwn.never rfl (pi_range1 (by rfl) T.z_range (pa_cons (pv 1) pa_nil)) (pg_name (i := 6) sc_law_row.nd rfl (.inl rfl))
      (pss_one (ps_if (pt_cmpR op_ge (pv 3) (pv 2) (nomark _))
      (pss_cons (ps_expr (pe_bm PySem.F.plainAttrs_list PySem.F.slot_list_append PySem.F.type_list_append mt_append (pv 5) (pa_cons (pe_op op_mod (pe_callTy call_intI (by rfl) T.z_int (by decide +kernel) (pa_cons (pv 3) pa_nil)) (pv 2)) pa_nil)))
      (pss_one (ps_set (i := 3) sc_law_row.nd rfl (.inl rfl) (pe_op op_fdiv (pv 3) (pv 2)))))
      (pss_cons (ps_set (i := 4) sc_law_row.nd rfl (.inl rfl) (pe_op op_mod (pe_callTy call_intI (by rfl) T.z_int (by decide +kernel) (pa_cons (pe_op op_add (pe_op op_add (pe_op op_mul (pv 4) pe_int) (pe_op op_mul pe_int (pv 6))) pe_int) pa_nil)) pe_int))
      (pss_one (ps_expr (pe_bm PySem.F.plainAttrs_list PySem.F.slot_list_append PySem.F.type_list_append mt_append (pv 5) (pa_cons (pe_op op_mod (pe_callTy call_intI (by rfl) T.z_int (by decide +kernel) (pa_cons (pe_op op_fdiv (pe_op op_mul (pv 4) pe_int) pe_int) pa_nil)) (pv 2)) pa_nil))))))))
      (pss_one (ps_ret (pv 5))))))), ?_⟩
    refine ⟨_, rfl, _, rfl, _, rfl, _, rfl, _, rfl, _, _, rfl, rfl, (by k_offL), _, _, rfl, rfl, Nat.zero_le _, fun p1 n1 => ?_⟩
    k_invariant "new" (n1, H1, e1, h1)
    refine ⟨_, rfl, _, rfl, by omega, by omega, for_range (lo := 0) (n := count.toNat) (fun i σ H' => ∃ (rest mixed : Int) (xs : List Int) (v : Option V), σ = [some (.int cell), some (.int count), some (.int bound), some (.int rest), some (.int mixed), some (.ref p1), v] ∧
      Same H H' ∧ H' p1 = some (.lst (xs.map V.int)) ∧ xs.length = i ∧ (∀ x ∈ xs, 0 ≤ x ∧ x < bound) ∧ 0 ≤ mixed ∧ mixed < 4294967296) ?_ ?_ ?_⟩
    · refine ⟨_, _, [], none, rfl, e1, h1, rfl, by simp, ?_, ?_⟩
      · have := Int.emod_nonneg cell (show (1000003 : Int) ≠ 0 by decide)
        omega
      · have := Int.emod_lt_of_pos cell (show (0 : Int) < 1000003 by decide)
        omega
    · rintro i σ H' hi ⟨rest, mixed, xs, v, rfl, sm, hp, hl, hx, m0, m1⟩
      refine ⟨_, rfl, _, rfl, _, _, rfl, rfl, _, rfl, ite2 (fun c => ?_) (fun c => ?_)⟩
      · refine ⟨_, rfl, .inl ⟨rfl, _, lst_of hp⟩, _, rfl, _, rfl, _, rfl, _, _, rfl, rfl, b0, _, _, _, rfl, rfl, hp, ?_, ?_⟩
        · rw [List.length_map]
          exact Nat.lt_of_lt_of_le (show xs.length < 100001 by omega) (by decide)
        · refine ⟨_, rfl, _, rfl, _, _, rfl, rfl, ⟨b0, by omega⟩, _, _, xs ++ [rest % bound], _, rfl, mutS sm n1, ?_, by simp [hl], fun x h => ?_, m0, m1⟩
          · rw [upd_same]
            simp
          · rcases List.mem_append.mp h with h | h
            · exact hx x h
            · rw [List.mem_singleton.mp h]
              exact ⟨Int.emod_nonneg _ (by omega), Int.emod_lt_of_pos _ b0⟩
      · refine ⟨_, rfl, _, _, rfl, rfl, .inr ⟨by decide, by decide⟩, _, rfl, _, _, rfl, rfl, .inl ⟨by decide, by decide⟩, _, _, rfl, rfl, _, _, rfl, rfl, _, rfl, _, _, rfl, rfl, (by k_offL), ?_⟩
        refine ⟨_, rfl, .inl ⟨rfl, _, lst_of hp⟩, _, rfl, _, _, rfl, rfl, .inr ⟨by decide, by decide⟩, _, _, rfl, rfl, ⟨by decide, by decide⟩, _, rfl, _, rfl, _, _, rfl, rfl, b0, _, _, _, rfl, rfl, hp, ?_, ?_⟩
        · rw [List.length_map]
          exact Nat.lt_of_lt_of_le (show xs.length < 100001 by omega) (by decide)
        · refine ⟨_, _, xs ++ [(mixed * 48271 + 11 * (0 + (i : Int)) + 7) % 2147483647 * 2862933555777941757 / 1024 % bound], _, rfl, mutS sm n1, ?_, by simp [hl], fun x h => ?_, Int.emod_nonneg _ (by decide), ?_⟩
          · rw [upd_same, List.map_append]
            rfl
          · rcases List.mem_append.mp h with h | h
            · exact hx x h
            · rw [List.mem_singleton.mp h]
              exact ⟨Int.emod_nonneg _ (by omega), Int.emod_lt_of_pos _ b0⟩
          · exact Int.lt_trans (Int.emod_lt_of_pos _ (by decide)) (by decide)
    · rintro σ H' ⟨rest, mixed, xs, v, rfl, sm, hp, hl, hx, _, _⟩
      exact ⟨_, rfl, q H' p1 xs n1 sm hp (by omega) hx⟩
/-! ### law_some: some cells of a box, ascending -/
def sp_law_some : Sp := fun vs H Q _ => ∃ (cell count h v : Int), vs = [.int cell, .int count, .int h, .int v] ∧ 0 ≤ count ∧ count ≤ 1000 ∧ 0 < h ∧ h ≤ 1000 ∧ 0 < v ∧ v ≤ 1000 ∧
  ∀ (H' : Hp) (p : Addr) (ps : List Pr), H p = none → Same H H' → Cells H' p ps → ps.Pairwise ltP → (ps.length : Int) ≤ count → (∀ x ∈ ps, 0 ≤ x.1 ∧ x.1 < h ∧ 0 ≤ x.2 ∧ x.2 < v) → Q (.ref p) H'
theorem ok_law_some (T : Txt K mg) : FnOk P w K mg base CX0 2 T.f_law_some T.d_law_some ["cell", "count", "height", "width"] sp_law_some := by
  refine T.F_law_some.ok sc_law_some (fun vs H Q E h => ?_) (fun cdv A outer s H vs Q E hr h => ?_)
  · obtain ⟨_, _, _, _, rfl, _⟩ := h
    rfl
  · obtain ⟨cell, count, h, v, rfl, c0, c1, h0, h1, v0, v1, q⟩ := h
    have hu : (A.deeper (envOfC (Str.ofString "_law_some") (defScope s_law_some) s.heap.objs.size T.f_law_some cdv)).units + 1 < cLine := by
      have := hr.units
      omega
    refine ⟨_, (pss_cons (ps_set (i := 4) sc_law_some.nd rfl (.inl rfl) (pe_callB call_abs (by rfl) T.z_abs (by decide +kernel) (pa_cons (pe_callTy call_intI (by rfl) T.z_int (by decide +kernel) (pa_cons (pv 0) pa_nil)) pa_nil)))
      (pss_cons (ps_set (i := 5) sc_law_some.nd rfl (.inl rfl) pe_dnewT)
      (pss_cons (ps_for PassesOwn.never rfl (pi_list (pe_call (ok_law_row T) (hr.mono (by decide)) (by rfl) T.g_law_row T.F_law_row.kp T.b_law_row .nil pass0 (pa_cons (pv 0) (pa_cons (pv 1) (pa_cons (pe_op op_mul (pv 2) (pv 3)) pa_nil))))) (pg_name (i := 6) sc_law_some.nd rfl (.inl rfl))
      (pss_one (ps_dput hu (pv 5) (pe_tup (pa_cons (pe_op op_fdiv (pv 6) (pv 3)) (pa_cons (pe_op op_mod (pv 6) (pv 3)) pa_nil))) pe_bl rfl)))
      (pss_one (ps_ret (pe_callB cr_sortedC (by rfl) T.z_sorted (by decide +kernel) (pa_cons (pe_lock (pe_lc (own := [("place", 7)]) (g := gName 7) (tt := tYes) rfl sc_law_some.nd (pi_keys (pv 5)) (blkOk_by (own := [("place", 7)]) (N := N_law_some) (sc := defScope s_law_some) (by decide +kernel)) (fun _ _ _ _ _ => pg_name (i := 7) sc_law_some.nd rfl (Or.inl rfl)) (fun _ _ _ _ _ => pts_nil) (fun _ _ _ _ _ => (pv 7)))) pa_nil))))))), ?_⟩
    have b0 : 0 < h * v := Int.mul_pos h0 v0
    have b1 : h * v < 1000000000 := by
      have := Int.mul_le_mul h1 v1 (by omega) (by decide)
      omega
    refine ⟨_, rfl, _, rfl, _, rfl, fun d nd => ?_⟩
    k_invariant "new" (nd, H1, e1, g1)
    refine ⟨_, rfl, _, rfl, _, rfl, _, rfl, _, _, rfl, rfl, (by k_offL), _, _, _, rfl, c0, by omega, b0, b1, fun H2 p2 xs n2 e2 g2 l2 m2 => ?_⟩
    have nd2 : d ≠ p2 := neS g1 (fun _ _ z => z) n2
    refine ⟨p2, rfl, ⟨_, lst_of g2⟩, for_list (K := K) (a := p2) (xs := xs.map V.int) (fun i σ H' => Same H H' ∧ H' p2 = some (.lst (xs.map V.int)) ∧ (∃ (x y z : Option V), σ = [some (.int cell), some (.int count), some (.int h), some (.int v), x, some (.ref d), y, z]) ∧ ∃ kvs ps, H' d = some (.dT kvs) ∧ KeysP kvs ps ∧ ps.length ≤ i ∧ ∀ x ∈ ps, 0 ≤ x.1 ∧ x.1 < h ∧ 0 ≤ x.2 ∧ x.2 < v)
      ⟨e1.trans e2, g2, ⟨_, _, _, rfl⟩, [], [], e2 _ _ g1, ⟨rfl, List.nodup_nil⟩, Nat.le_refl _, fun _ m => (by cases m)⟩ (fun i σ H' _ p => lst_of p.2.1) ?_ ?_⟩
    · rintro i z σ H' hi ⟨sm, gp, ⟨x, y, z1, rfl⟩, kvs, ps, gd, hK, lp, bd⟩
      obtain ⟨n, rfl, _, mn⟩ := item_ints hi
      have bn := m2 n mn
      have li := (List.getElem?_eq_some_iff.mp hi).1
      rw [List.length_map] at li
      refine ⟨_, rfl, _, rfl, _, rfl, _, _, rfl, rfl, ⟨v0, by omega⟩, _, rfl, _, rfl, _, _, rfl, rfl, v0, (by k_clsL), fun t nt => ?_⟩
      have ntd : t ≠ d := fun e => by
        rw [e, gd] at nt
        cases nt
      have ntp : p2 ≠ d := fun e => by
        rw [e, gd] at gp
        cases gp
      obtain ⟨qs, hQ, lq, mq⟩ := hK.put (n / v, n % v) (.bl true)
      refine ⟨d, _, rfl, DPut.t (k := keyP (n / v, n % v)) (newS nt _ _ gd) upd_same (by rw [hK.len, sizeLine_eq]; omega), mutS (sm.trans (newS nt)) nd, ?_, ⟨_, _, _, rfl⟩, _, qs, upd_same, hQ, by omega, fun x m => ?_⟩
      · rw [upd_ne ntp]
        exact newS nt _ _ gp
      · rcases (mq x).mp m with m | e
        · exact bd x m
        · rw [e]
          exact ⟨Int.ediv_nonneg bn.1 (by omega), Int.ediv_lt_of_lt_mul v0 bn.2, Int.emod_nonneg _ (by omega), Int.emod_lt_of_pos _ v0⟩
    · rintro σ H' ⟨sm, gp, ⟨x, y, z1, rfl⟩, kvs, ps, gd, hK, lp, bd⟩
      rw [List.length_map] at lp
      refine ⟨d, _, gd, trivial, fun od => ⟨_, rfl, d, od, rfl, .inr ⟨kvs, upd_same, fun D nD => lc_keysP hK upd_same nD (by rw [sizeLine_eq]; omega) ?_ fun H3 e3 g3 => ?_⟩⟩⟩
      · intro t x H' Po Pn ht hq
        exact ⟨rfl, tyesT ⟨_, rfl, hq⟩⟩
      · have gd3 : H3 d = some (.frz od (.dT kvs)) := e3 _ _ upd_same
        have s3 : Same H (upd H3 d (.dT kvs)) := mutS ((mutS sm nd).trans e3) nd
        have neD : D ≠ d := fun e => by
          rw [e, upd_same] at nD
          cases nD
        refine ⟨gd3, D, ps, rfl, g3.mut neD (fun xs e => ?_), hK.2, fun p H4 qs e4 n4 h4 c4 l4 => q H4 p qs (backS s3 n4) (s3.trans e4) h4 c4.1 (by omega) fun x m => bd x ((c4.2 x).mp m)⟩
        rw [gd3] at e
        cases e
/-! ### a leap of one of two worlds -/
theorem WSt.leap {C CB CR CW : Addr} {bs ss : List Int} {H H' : Hp} {W ru D D' : Addr} {gen gen' : Int} {A : SA} {fu : Addr} {sq sq' : List Pr} {es es' : Nat} {ks ks' : List Pr} {g g' : Pr → Nat} {B B' : Nat} (h : WSt C CB CR CW bs ss H W ru D gen A fu sq es ks g B)
    (fr : ∀ a o, a ≠ W → a ≠ fu → hide A.M H a = some o → hide A.M H' a = some o) (hS : StoreIs C CB H' A sq' es') (e1 : es ≤ es') (e6 : es' ≤ 6) (hF : FutAt C CB CR H' A fu bs ss B' sq') (hW : WAt CW H' W gen' ru A.st D') (hL : LivIs H' D' ks' g') (nD : H D' = none) :
    WSt C CB CR CW bs ss H' W ru D' gen' A fu sq' es' ks' g' B' := by
  obtain ⟨kvf, hf, _⟩ := h.ft.dict
  obtain ⟨dw, hw⟩ := h.wat
  obtain ⟨dr, tb, ts, q1, q2, q3⟩ := h.rl
  have lw : (wf gen ru A.st D).length = 4 := rfl
  have ne : ∀ {a : Addr} {o : HO}, hide A.M H a = some o → (∀ kvs, o ≠ .dT kvs) → a ≠ fu := fun e n z => by
    have := hide_le _ _ e
    rw [z, hf] at this
    exact n _ (Option.some.inj this).symm
  have nW : ∀ {a : Addr} {o : HO}, hide A.M H a = some o → (∀ C dx fs, o ≠ .ins C dx fs) → a ≠ W := fun e n z => by
    have := hide_le _ _ e
    rw [z, hw] at this
    exact n _ _ _ (Option.some.inj this).symm
  exact ⟨hW, hL, h.st.off nD, (fun z => by rw [z, hf] at nD; cases nD), hS, Nat.le_trans h.e1 e1, e6, hF,
    ⟨dr, tb, ts, fr _ _ (inst_ne (hide_le _ _ q1) hw (by rw [lw]; exact fun z => by cases z)) (ne q1 fun _ z => (by cases z)) q1, fr _ _ (nW q2 fun _ _ _ z => (by cases z)) (ne q2 fun _ z => (by cases z)) q2, fr _ _ (nW q3 fun _ _ _ z => (by cases z)) (ne q3 fun _ z => (by cases z)) q3⟩⟩
theorem hideS {M N : List Addr} {H H' : Hp} {a : Addr} {o : HO} (sm : Same (hide M H) (hide N H')) (n : a ∉ M) (e : H a = some o) : H' a = some o ∧ a ∉ N := by
  have h := sm a o (by rw [hide_out n]; exact e)
  have m : a ∉ N := fun m => by rw [hide_in m] at h; cases h
  rw [hide_out m] at h
  exact ⟨h, m⟩
theorem TwoW.leap {C CB CR CW : Addr} {bs ss : List Int} {H H' : Hp} {u v : Wd} {gen' : Int} {D' : Addr} {sq' : List Pr} {es' : Nat} {ks' : List Pr} {g' : Pr → Nat} {B' : Nat} (t : TwoW C CB CR CW bs ss H u v)
    (fr : ∀ a o, a ≠ u.W → a ≠ u.fu → hide u.A.M H a = some o → hide u.A.M H' a = some o) (hS : StoreIs C CB H' u.A sq' es') (e1 : u.es ≤ es') (e6 : es' ≤ 6) (hF : FutAt C CB CR H' u.A u.fu bs ss B' sq') (hW : WAt CW H' u.W gen' u.ru u.A.st D') (hL : LivIs H' D' ks' g') (nD : H D' = none) :
    TwoW C CB CR CW bs ss H' ⟨u.W, u.ru, D', gen', u.A, u.fu, sq', es', ks', g', B'⟩ v ∧ ∀ (a : Addr) (o : HO), a ∉ u.X → H a = some o → H' a = some o ∧ a ∉ ownX u.W D' u.fu u.A := by
  obtain ⟨t', sm⟩ := t.step (fun a o n1 n2 _ e => fr a o n1 n2 e) (WSt.leap t.one fr hS e1 e6 hF hW hL nD) (.inl nD)
  exact ⟨t', fun a o n e => hideS sm n e⟩
def Inv14 (C CB CR CW : Addr) (bs ss : List Int) (f : Pr → Pr) (lp : Addr) (xs : List V) (W1 W2 : Addr) (i : Nat) (H' : Hp) : Prop := ∃ u v : Wd, u.W = W1 ∧ v.W = W2 ∧ TwoW C CB CR CW bs ss H' u v ∧ (∀ x : Pr, in32 u.g x.1 x.2 = in32 v.g (f x).1 (f x).2) ∧ u.gen = v.gen ∧ (cellsW u.ks u.g).length ≤ 12000 ∧ u.sq.length ≤ 2 + 160000 * i ∧ v.sq.length ≤ 2 + 160000 * i ∧ u.B ≤ 22000 * i ∧ v.B ≤ 22000 * i ∧ H' lp = some (.lst xs) ∧ lp ∉ u.X ∧ lp ∉ v.X
theorem Inv14.up {C CB CR CW : Addr} {bs ss : List Int} {f : Pr → Pr} {lp : Addr} {xs : List V} {W1 W2 : Addr} {i j : Nat} {H H' : Hp} (h : Inv14 C CB CR CW bs ss f lp xs W1 W2 i H) (e : Same H H') (ij : i ≤ j) : Inv14 C CB CR CW bs ss f lp xs W1 W2 j H' := by
  obtain ⟨u, v, eW, eW2, tw, link, eg, lc, ls1, ls2, lb1, lb2, hlp, nu, nv⟩ := h
  exact ⟨u, v, eW, eW2, tw.up e, link, eg, lc, by omega, by omega, by omega, by omega, e _ _ hlp, nu, nv⟩
/-- the other world has as many cells -/
theorem cells_img {H H' : Hp} {D D' : Addr} {ks ks' : List Pr} {g g' : Pr → Nat} {n : Nat} {f : Bool} {a b : Int} (h : LivIs H D ks g) (h' : LivIs H' D' ks' g') (link : ∀ x : Pr, in32 g x.1 x.2 = in32 g' (imgP n f a b x).1 (imgP n f a b x).2) (onto : ∀ y : Pr, ∃ x, y = imgP n f a b x) : (cellsW ks' g').length = (cellsW ks g).length := by
  have e : ((cellsW ks g).map (imgP n f a b)).length = (cellsW ks g).length := List.length_map _
  rw [← e]
  have nd : ((cellsW ks g).map (imgP n f a b)).Nodup := List.pairwise_map.mpr ((cellsW_nd h.nd).imp fun h e => h (imgP_inj e))
  refine ((List.perm_ext_iff_of_nodup (cellsW_nd h'.nd) nd).mpr fun y => ?_).length_eq
  rw [List.mem_map, h'.mem]
  constructor
  · intro t
    obtain ⟨x, rfl⟩ := onto y
    exact ⟨x, (h.mem x).mpr ((link x).trans t), rfl⟩
  · rintro ⟨x, m, rfl⟩
    exact (link x).symm.trans ((h.mem x).mp m)
theorem turnN_onto : ∀ (n : Nat) (y : Pr), ∃ x, y = turnN n x
  | 0, y => ⟨y, rfl⟩
  | n + 1, y => by
    obtain ⟨x, hx⟩ := turnN_onto n (-y.2, y.1)
    refine ⟨x, ?_⟩
    show y = turn1 (turnN n x)
    rw [← hx]
    exact Prod.ext rfl (Int.neg_neg _).symm
theorem img_onto (n : Nat) (f : Bool) (a b : Int) (y : Pr) : ∃ x, y = imgP n f a b x := by
  obtain ⟨z, hz⟩ := turnN_onto n (y.1 - a, y.2 - b)
  have : ∃ x, z = flipP f x := by
    cases f with
    | false => exact ⟨z, rfl⟩
    | true => exact ⟨(z.1, -z.2), Prod.ext rfl (Int.neg_neg _).symm⟩
  obtain ⟨x, rfl⟩ := this
  refine ⟨x, ?_⟩
  have h1 : y.1 - a = (turnN n (flipP f x)).1 := congrArg Prod.fst hz
  have h2 : y.2 - b = (turnN n (flipP f x)).2 := congrArg Prod.snd hz
  refine Prod.ext ?_ ?_
  · show y.1 = (turnN n (flipP f x)).1 + a
    omega
  · show y.2 = (turnN n (flipP f x)).2 + b
    omega
def sp_law (K : PySem.W.Frag) : Sp := fun vs H Q _ => ∃ (a : Addr) (ns : List Int), vs = [.ref a] ∧ SqL K H a (ns.map V.int) ∧ ns.length ≤ 63 ∧ ∀ H', Q (.bl true) H'
theorem ok_law (T : Txt K mg) : FnOk P w K mg base CX0 10 T.f_law T.d_law ["script"] (sp_law K) := by
  refine T.F_law.ok sc_law (fun vs H Q E h => ?_) (fun cdv A outer s H vs Q E hr h => ?_)
  · obtain ⟨a, ns, rfl, _⟩ := h
    rfl
  · obtain ⟨a, ns, rfl, hS, hlen, q⟩ := h
    refine ⟨_, (pss_cons (ps_asg (pe_call (ok_law_numbers T) (hr.mono (by decide)) (by rfl) T.g_law_numbers T.F_law_numbers.kp T.b_law_numbers .nil pass0 (pa_cons (pe_call (ok_law_cell T) (hr.mono (by decide)) (by rfl) T.g_law_cell T.F_law_cell.kp T.b_law_cell .nil pass0 (pa_cons (pv 0) (pa_cons pe_int pa_nil))) pa_nil)) (pg_tupK (K := K) (n := 2) rfl rfl (pgs_cons (pg_name (i := 1) sc_law.nd rfl (.inl rfl)) (pgs_cons (pg_name (i := 2) sc_law.nd rfl (.inl rfl)) pgs_nil))))
      (pss_cons (ps_set (i := 3) sc_law.nd rfl (.inl rfl) (pe_call (ok_law_cell T) (hr.mono (by decide)) (by rfl) T.g_law_cell T.F_law_cell.kp T.b_law_cell .nil pass0 (pa_cons (pv 0) (pa_cons pe_int pa_nil))))
      (pss_cons (ps_set (i := 4) sc_law.nd rfl (.inl rfl) (pe_call (ok_law_some T) (hr.mono (by decide)) (by rfl) T.g_law_some T.F_law_some.kp T.b_law_some .nil pass0 (pa_cons (pe_call (ok_law_cell T) (hr.mono (by decide)) (by rfl) T.g_law_cell T.F_law_cell.kp T.b_law_cell .nil pass0 (pa_cons (pv 0) (pa_cons pe_int pa_nil))) (pa_cons (pe_op op_mod (pv 3) pe_int) (pa_cons pe_int (pa_cons pe_int pa_nil))))))
      (pss_cons (ps_set (i := 5) sc_law.nd rfl (.inl rfl) pe_int)
      (pss_cons (ps_mid (ps_if (pt_cmpR op_eq (pe_op op_mod (pe_op op_fdiv (pv 3) pe_int) pe_int) pe_int (nomark _))
      (pss_one (ps_set (i := 5) sc_law.nd rfl (.inl rfl) pe_int))
      pss_nil))
      (pss_cons (ps_set (i := 6) sc_law.nd rfl (.inl rfl) (pe_op op_sub (pe_op op_mod (pe_call (ok_law_cell T) (hr.mono (by decide)) (by rfl) T.g_law_cell T.F_law_cell.kp T.b_law_cell .nil pass0 (pa_cons (pv 0) (pa_cons pe_int pa_nil))) (pe_op op_mul pe_int (pv 5))) (pv 5)))
      (pss_cons (ps_set (i := 7) sc_law.nd rfl (.inl rfl) (pe_op op_sub (pe_op op_mod (pe_call (ok_law_cell T) (hr.mono (by decide)) (by rfl) T.g_law_cell T.F_law_cell.kp T.b_law_cell .nil pass0 (pa_cons (pv 0) (pa_cons pe_int pa_nil))) (pe_op op_mul pe_int (pv 5))) (pv 5)))
      (pss_cons (ps_set (i := 8) sc_law.nd rfl (.inl rfl) (pe_op op_mod (pe_op op_fdiv (pv 3) pe_int) pe_int))
      (pss_cons (ps_set (i := 9) sc_law.nd rfl (.inl rfl) (pe_cmpR op_eq (pe_op op_mod (pe_op op_fdiv (pv 3) pe_int) pe_int) pe_int (nomark _)))
      (pss_cons (ps_set (i := 10) sc_law.nd rfl (.inl rfl) (pe_make T.M_World (ok_World_init T) (hr.mono (by decide)) rfl T.g_World T.b_World_init .nil pass0 (pa_cons (pe_make T.M_Rule (ok_Rule_init T) (hr.mono (by decide)) rfl T.g_Rule T.b_Rule_init .nil pass0 (pa_cons (pv 1) (pa_cons (pv 2) pa_nil))) pa_nil)))
      (pss_cons (ps_set (i := 11) sc_law.nd rfl (.inl rfl) (pe_make T.M_World (ok_World_init T) (hr.mono (by decide)) rfl T.g_World T.b_World_init .nil pass0 (pa_cons (pe_make T.M_Rule (ok_Rule_init T) (hr.mono (by decide)) rfl T.g_Rule T.b_Rule_init .nil pass0 (pa_cons (pv 1) (pa_cons (pv 2) pa_nil))) pa_nil)))
      (pss_cons (ps_expr (pe_meth (pv 10) T.cl_World T.m_World_paste (ok_World_paste T) (hr.mono (by decide)) T.b_World_paste .nil pass0 (pa_cons (pv 4) (pa_cons pe_int (pa_cons pe_int (pa_cons pe_str pa_nil))))))
      (pss_cons (ps_expr (pe_meth (pv 11) T.cl_World T.m_World_paste (ok_World_paste T) (hr.mono (by decide)) T.b_World_paste .nil pass0 (pa_cons (pe_call (ok_law_image T) (hr.mono (by decide)) (by rfl) T.g_law_image T.F_law_image.kp T.b_law_image .nil pass0 (pa_cons (pv 4) (pa_cons (pv 8) (pa_cons (pv 9) (pa_cons pe_int (pa_cons pe_int pa_nil)))))) (pa_cons (pv 6) (pa_cons (pv 7) (pa_cons pe_str pa_nil))))))
      (pss_cons (ps_for PassesOwn.never rfl (pi_list (pe_slice sl_list (pv 0) (po_some pe_int) (po_some (pe_op op_add pe_int (pe_ix ix_list (pe_lst (pa_cons pe_int (pa_cons pe_int pa_nil))) (pe_callTy call_intB (by rfl) T.z_int (by decide +kernel) (pa_cons (pe_cmpR op_gt (pv 5) pe_int (nomark _)) pa_nil)) (fun _ _ => rfl)))))) (pg_name (i := 12) sc_law.nd rfl (.inl rfl))
      (pss_cons (ps_mid (ps_if (pt_cmpR op_le (pe_meth0 (pv 10) T.cl_World T.m_World_count (ok_World_count T) (hr.mono (by decide)) T.b_World_count .nil pass0) pe_int (nomark _))
      (pss_cons (ps_expr (pe_meth (pv 10) T.cl_World T.m_World_leap (ok_World_leap T) (hr.mono (by decide)) T.b_World_leap .nil pass0 (pa_cons (pe_op op_mod (pe_callB call_abs (by rfl) T.z_abs (by decide +kernel) (pa_cons (pe_callTy call_intI (by rfl) T.z_int (by decide +kernel) (pa_cons (pv 12) pa_nil)) pa_nil)) pe_int) pa_nil)))
      (pss_one (ps_expr (pe_meth (pv 11) T.cl_World T.m_World_leap (ok_World_leap T) (hr.mono (by decide)) T.b_World_leap .nil pass0 (pa_cons (pe_op op_mod (pe_callB call_abs (by rfl) T.z_abs (by decide +kernel) (pa_cons (pe_callTy call_intI (by rfl) T.z_int (by decide +kernel) (pa_cons (pv 12) pa_nil)) pa_nil)) pe_int) pa_nil)))))
      pss_nil))
      (pss_cons (ps_mid (ps_if (pt_cmpR op_eq (pe_op op_mod (pe_op op_fdiv (pe_callB call_abs (by rfl) T.z_abs (by decide +kernel) (pa_cons (pe_callTy call_intI (by rfl) T.z_int (by decide +kernel) (pa_cons (pv 12) pa_nil)) pa_nil)) pe_int) pe_int) pe_int (nomark _))
      (pss_one (ps_expr (pe_meth0 (pv 11) T.cl_World T.m_World_tidy (ok_World_tidy T) (hr.mono (by decide)) T.b_World_tidy .nil pass0)))
      pss_nil))
      (pss_one (ps_if (PW.pt (pw_or (pt_cmpR (op_neD hr.units) (pe_meth0 (pv 11) T.cl_World T.m_World_cells (ok_World_cells T) (hr.mono (by decide)) T.b_World_cells .nil pass0) (pe_call (ok_law_image T) (hr.mono (by decide)) (by rfl) T.g_law_image T.F_law_image.kp T.b_law_image .nil pass0 (pa_cons (pe_meth0 (pv 10) T.cl_World T.m_World_cells (ok_World_cells T) (hr.mono (by decide)) T.b_World_cells .nil pass0) (pa_cons (pv 8) (pa_cons (pv 9) (pa_cons (pv 6) (pa_cons (pv 7) pa_nil)))))) (nomark _)) (pw_or1 (pt_cmpR op_ne (pe_fld (pv 11) rfl) (pe_fld (pv 10) rfl) (nomark _)))))
      (pss_one (ps_ret pe_bl))
      pss_nil)))))
      (pss_one (ps_ret pe_bl)))))))))))))))), ?_⟩
    k_upd
    refine ⟨_, rfl, a, ns, 0, rfl, hS, ?_⟩
    generalize cellOf ns 0 = z0
    refine ⟨z0, rfl, fun H1 p1 pb pss bs ss e1 g1 gb gs' good1 good0 => ?_⟩
    refine ⟨p1, _, rfl, tup_of g1, rfl, _, _, rfl, _, _, rfl, rfl, ?_⟩
    k_upd
    refine ⟨_, rfl, a, ns, 1, rfl, e1.seq hS, ?_⟩
    generalize cellOf ns 1 = z1
    k_upd
    refine ⟨_, rfl, a, ns, 2, rfl, e1.seq hS, ?_⟩
    generalize cellOf ns 2 = z2
    refine ⟨_, rfl, _, _, rfl, rfl, (by show (0 : Int) < 17; decide), ?_⟩
    have c0 := Int.emod_nonneg z1 (show (17 : Int) ≠ 0 by decide)
    have c17 := Int.emod_lt_of_pos z1 (show (0 : Int) < 17 by decide)
    refine ⟨z2, z1 % 17, 6, 6, rfl, c0, by omega, by decide, by decide, by decide, by decide, fun H2 pc ps n2 e2 hC pw lps hps => ?_⟩
    k_upd
    have s2 := e1.trans e2
    refine ⟨fun σ' H' => H' = H2 ∧ ∃ far : Int, (far = 1048576 ∨ far = 562949953421312) ∧ σ' = [some (.ref a), some (.ref pb), some (.ref pss), some (.int z1), some (.ref pc), some (.int far), none, none, none, none, none, none, none], ?_, ?_⟩
    · refine ⟨_, rfl, _, _, rfl, rfl, ⟨by decide, by decide⟩, _, _, rfl, rfl, (by show (0 : Int) < 12; decide), rfl, _, rfl, ite2 (fun c => ?_) (fun c => ?_)⟩
      · unfold gName
        k_upd
        exact ⟨rfl, _, .inr rfl, rfl⟩
      · exact ⟨rfl, _, .inl rfl, rfl⟩
    rintro σ' H3 ⟨rfl, far, hfar, rfl⟩
    have far0 : 0 < far := by omega
    -- r, c, turns, flipped
    refine ⟨_, rfl, a, ns, 3, rfl, s2.seq hS, ?_⟩
    generalize cellOf ns 3 = z3
    refine ⟨_, rfl, _, _, rfl, rfl, (by k_offL), _, _, rfl, rfl, (by show (0 : Int) < 2 * far; omega), _, rfl, _, _, rfl, rfl, ?_⟩
    k_upd
    generalize z3 % (2 * far) - far = mr
    refine ⟨_, rfl, a, ns, 4, rfl, s2.seq hS, ?_⟩
    generalize cellOf ns 4 = z4
    refine ⟨_, rfl, _, _, rfl, rfl, (by k_offL), _, _, rfl, rfl, (by show (0 : Int) < 2 * far; omega), _, rfl, _, _, rfl, rfl, ?_⟩
    k_upd
    generalize z4 % (2 * far) - far = mc
    refine ⟨_, rfl, _, _, rfl, rfl, ⟨by decide, by decide⟩, _, _, rfl, rfl, (by show (0 : Int) < 4; decide), ?_⟩
    k_upd
    have t0 := Int.emod_nonneg (z1 / 17) (show (4 : Int) ≠ 0 by decide)
    have t4 := Int.emod_lt_of_pos (z1 / 17) (show (0 : Int) < 4 by decide)
    obtain ⟨tn, etn⟩ := Int.eq_ofNat_of_zero_le t0
    have tn4 : tn < 4 := by omega
    refine ⟨_, rfl, _, _, rfl, rfl, ⟨by decide, by decide⟩, _, _, rfl, rfl, (by show (0 : Int) < 2; decide), rfl, ?_⟩
    k_upd
    refine gName_go ?_
    k_upd
    rw [etn]
    generalize decide (V.int (z1 / 68 % 2) = V.int 1) = fl
    refine ⟨_, rfl, _, rfl, ?_⟩
    intro r1 dx nx nd nex
    refine ⟨H3, r1, pb, pss, dx, bs, ss, rfl, madeS nx nd, nx, upd_same, lst_of (e2 _ _ gb), lst_of (e2 _ _ gs'), by have := good1.2.2; omega, by have := good0.2.2; omega, fun H4 bs' ss' e4 ra c1 c2 => ⟨rfl, ?_⟩⟩
    have eb : bs' = bs := canon_eq c1 good1.1 fun _ => Iff.rfl
    have es : ss' = ss := canon_eq c2 good0.1 fun _ => Iff.rfl
    subst eb es
    intro W1 dx2 nW ndW neW
    refine ⟨H4, W1, r1, dx2, bs', ss', rfl, madeS nW ndW, nW, upd_same, ra, fun H5 A1 f1 D1 fr5 hw1 bl5 => ⟨rfl, ?_⟩⟩
    k_upd
    have s5 : Same H3 H5 := e4.trans (fr5.trans hide_le)
    refine ⟨_, rfl, _, rfl, ?_⟩
    intro r2 dx3 nx3 nd3 nex3
    refine ⟨H5, r2, pb, pss, dx3, bs', ss', rfl, madeS nx3 nd3, nx3, upd_same, lst_of (s5 _ _ (e2 _ _ gb)), lst_of (s5 _ _ (e2 _ _ gs')), by have := good1.2.2; omega, by have := good0.2.2; omega, fun H6 bs2 ss2 e6 ra2 c3 c4 => ⟨rfl, ?_⟩⟩
    have eb2 : bs2 = bs' := canon_eq c3 good1.1 fun _ => Iff.rfl
    have es2 : ss2 = ss' := canon_eq c4 good0.1 fun _ => Iff.rfl
    subst eb2 es2
    intro W2 dx4 nW2 ndW2 neW2
    refine ⟨H6, W2, r2, dx4, bs2, ss2, rfl, madeS nW2 ndW2, nW2, upd_same, ra2, fun H7 A2 f2 D2 fr7 hw2 bl7 => ⟨rfl, ?_⟩⟩
    k_upd
    have gb1 : ∀ b ∈ bs2, 1 ≤ b ∧ b ≤ 8 := good1.2.1
    have gb2 : ∀ b ∈ ss2, 0 ≤ b ∧ b ≤ 8 := good0.2.1
    obtain ⟨u, eu⟩ : ∃ u : Wd, u = ⟨W1, r1, D1, 0, A1, f1, two1, 1, [], fun _ => 0, 0⟩ := ⟨_, rfl⟩
    have hu1 : u.At T.C_Store T.C_Blocks T.C_Rule T.C_World bs2 ss2 H6 := by rw [eu]; exact hw1.up e6
    have tw := TwoW.made hu1 fr7 bl7 hw2
    refine gName_go ?_
    k_upd
    subst eu
    have s7 : Same H3 H7 := s5.trans (e6.trans (fr7.trans hide_le))
    have hC7 := hC.up s7
    have ht1 : WSt T.C_Store T.C_Blocks T.C_Rule T.C_World bs2 ss2 H7 W1 r1 D1 0 A1 f1 two1 1 [] (fun _ => 0) 0 := tw.one
    obtain ⟨dw1, gw1⟩ := id ht1.wat
    obtain ⟨kd1, gd1, _⟩ := id ht1.liv.dct
    have n1D : W1 ≠ D1 := fun e => by rw [e, gd1] at gw1; cases gw1
    refine ⟨_, rfl, W1, _, _, rfl, gw1, rfl, _, rfl, ?_⟩
    refine ⟨W1, r1, A1.st, D1, pc, 0, [], _, ps, 0, 0, 0, by decide, rfl, ht1.wat, ht1.liv, n1D, by decide, hC7, by omega, fun H8 ks8 g8 sb8 hL8 lk8 hin8 => ?_⟩
    obtain ⟨tw8, sm8⟩ := tw.step (fun a o n1 n2 n3 e => by
      have m : a ∉ A1.M := fun m => by
        have e : hide A1.M H7 a = some o := e
        rw [hide_in m] at e
        cases e
      have e : hide A1.M H7 a = some o := e
      show hide A1.M H8 a = some o
      rw [hide_out m] at e ⊢
      exact sb8 a o n3 e) (ht1.sbD sb8 hL8) (.inr rfl)
    have hC8 := Cells.sb hC7 gd1 sb8
    have ht2 : WSt T.C_Store T.C_Blocks T.C_Rule T.C_World bs2 ss2 H8 W2 r2 D2 0 A2 f2 two1 1 [] (fun _ => 0) 0 := tw8.swap.one
    obtain ⟨dw2, gw2⟩ := id ht2.wat
    refine ⟨_, rfl, W2, _, _, rfl, gw2, rfl, _, rfl, _, rfl, _, rfl, ?_⟩
    refine ⟨pc, ps, tn, fl, 0, 0, tn4, rfl, hC8, nodup_lt pw, by omega, fun H9 pi qs9 n9 e9 hC9 pw9 mem9 len9 => ?_⟩
    have ht29 := ht2.up e9
    obtain ⟨kd2, gd2, _⟩ := id ht29.liv.dct
    have n2D : W2 ≠ D2 := fun e => by rw [← e, e9 _ _ gw2] at gd2; cases gd2
    refine ⟨_, rfl, _, rfl, ?_⟩
    refine ⟨W2, r2, A2.st, D2, pi, 0, [], _, qs9, mr, mc, 2, by decide, rfl, ht29.wat, ht29.liv, n2D, by decide, hC9, by omega, fun H10 ks10 g10 sb10 hL10 lk10 hin10 => ?_⟩
    have tw9 := (tw8.up e9).swap
    obtain ⟨tw10, sm10⟩ := tw9.step (fun a o n1 n2 n3 e => by
      have m : a ∉ A2.M := fun m => by
        have e : hide A2.M H9 a = some o := e
        rw [hide_in m] at e
        cases e
      have e : hide A2.M H9 a = some o := e
      show hide A2.M H10 a = some o
      rw [hide_out m] at e ⊢
      exact sb10 a o n3 e) (ht29.sbD sb10 hL10) (.inr rfl)
    have tw10 := tw10.swap
    have kz : ∀ x : Pr, inB (fun _ => 0) x = false := fun x => by
      unfold inB
      rw [Nat.zero_testBit]
    have alive1 : ∀ x : Pr, inB g8 x = decide (x ∈ ps) := fun x => by
      rw [hin8, kz]
      have : ps.map (fun y : Pr => (y.1 + 0, y.2 + 0)) = ps := (List.map_congr_left fun y _ => Prod.ext (Int.add_zero _) (Int.add_zero _)).trans (List.map_id _)
      rw [this]
      rfl
    have link10 : ∀ x : Pr, in32 g8 x.1 x.2 = in32 g10 (imgP tn fl mr mc x).1 (imgP tn fl mr mc x).2 := fun x => by
      show inB g8 x = inB g10 (imgP tn fl mr mc x)
      rw [alive1, hin10, kz]
      show decide (x ∈ ps) = (false ^^ decide (imgP tn fl mr mc x ∈ qs9.map fun y => (y.1 + mr, y.2 + mc)))
      rw [Bool.false_xor, decide_eq_decide, List.mem_map]
      have em : ∀ y : Pr, ((imgP tn fl 0 0 y).1 + mr, (imgP tn fl 0 0 y).2 + mc) = imgP tn fl mr mc y := fun y => by
        unfold imgP
        dsimp only
        rw [Int.add_zero, Int.add_zero]
      constructor
      · intro m
        exact ⟨imgP tn fl 0 0 x, (mem9 _).mpr ⟨x, m, rfl⟩, em x⟩
      · rintro ⟨z, mz, ez⟩
        obtain ⟨y, my, rfl⟩ := (mem9 z).mp mz
        rw [em] at ez
        rw [← imgP_inj ez]
        exact my
    have s10 : Same H3 H10 := fun b o h => by
      have h7 := s7 _ _ h
      have nD1 : b ≠ D1 := fun z => by
        have : H6 D1 = none ∨ True := .inr trivial
        have h4 : H4 b = some o := e4 _ _ h
        have h5 := fr5 _ _ h4
        rw [hide_in (by rw [z]; exact List.mem_cons_of_mem _ List.mem_cons_self)] at h5
        cases h5
      have nD2 : b ≠ D2 := fun z => by
        have h6 : H6 b = some o := e6 _ _ (s5 _ _ h)
        have h7 := fr7 _ _ h6
        rw [hide_in (by rw [z]; exact List.mem_cons_of_mem _ List.mem_cons_self)] at h7
        cases h7
      exact sb10 _ _ nD2 (e9 _ _ (sb8 _ _ nD1 h7))
    have hfx : ∃ v : Int, (v = 6 ∨ v = 2) ∧ atI [V.int 6, V.int 2] (if decide (far > 1048576) = true then 1 else 0) = some (V.int v) := by
      rcases hfar with rfl | rfl
      · exact ⟨6, .inl rfl, rfl⟩
      · exact ⟨2, .inr rfl, rfl⟩
    obtain ⟨fx, hfx, efx⟩ := hfx
    refine ⟨_, rfl, _, rfl, (by k_clsL), fun lx nlx => ?_⟩
    k_invariant "new" (nlx, H11, e11, g11)
    refine ⟨_, rfl, _, _, rfl, rfl, _, rfl, _, _, _, _, rfl, rfl, lst_of g11, efx, _, _, rfl, rfl, _, rfl, ?_⟩
    have s11 : Same H H11 := s2.trans (s10.trans e11)
    refine ⟨_, _, rfl, s11.seq hS, fun lp nlp => ?_⟩
    have ecut : ∃ ms : List Int, cutV (ns.map V.int) (some 5) (some (5 + fx)) = ms.map V.int ∧ ms.length ≤ 6 := by
      have k1 : HT.sIx (ns.map V.int).length 0 (some 5) = min 5 (ns.map V.int).length := rfl
      obtain ⟨e, ee, le⟩ : ∃ e, HT.sIx (ns.map V.int).length (ns.map V.int).length (some (5 + fx)) = e ∧ e ≤ min 11 (ns.map V.int).length := by
        rcases hfx with rfl | rfl
        · exact ⟨_, rfl, Nat.le_refl _⟩
        · exact ⟨min 7 (ns.map V.int).length, rfl, by omega⟩
      refine ⟨(ns.drop (min 5 (ns.map V.int).length)).take (e - min 5 (ns.map V.int).length), ?_, ?_⟩
      · unfold cutV
        rw [k1, ee, List.map_take, List.map_drop]
      · rw [List.length_take]
        rw [List.length_map] at le ⊢
        omega
    obtain ⟨ms, ems, lms⟩ := ecut
    rw [ems]
    k_invariant "new" (nlp, H12, e12, g12)
    have tw12 := (tw10.up e11).up e12
    have ht8 : WSt T.C_Store T.C_Blocks T.C_Rule T.C_World bs2 ss2 H8 W1 r1 D1 0 A1 f1 two1 1 ks8 g8 0 := tw8.one
    have c8 : (cellsW ks8 g8).length ≤ 12000 := by
      have := nodup_lenP _ ps (cellsW_nd hL8.nd) fun x m => of_decide_eq_true ((alive1 x).symm.trans ((hL8.mem x).mp m))
      omega
    have old : ∀ b o, H11 b = some o → b ≠ lp := fun b o h z => by rw [z, nlp] at h; cases h
    have tw11 := tw10.up e11
    refine ⟨lp, rfl, ⟨_, lst_of g12⟩, for_list (K := K) (a := lp) (xs := ms.map V.int) (fun i σ H' => (∃ x12 : Option V, σ = [some (.ref a), some (.ref pb), some (.ref pss), some (.int z1), some (.ref pc), some (.int far), some (.int mr), some (.int mc), some (.int (tn : Int)), some (.bl fl), some (.ref W1), some (.ref W2), x12]) ∧
        Inv14 T.C_Store T.C_Blocks T.C_Rule T.C_World bs2 ss2 (imgP tn fl mr mc) lp (ms.map V.int) W1 W2 i H')
      ⟨⟨_, rfl⟩, _, _, rfl, rfl, tw12, link10, rfl, c8, Nat.le_refl _, Nat.le_refl _, Nat.le_refl _, Nat.le_refl _, g12, fun m => ?_, fun m => ?_⟩ (fun i σ H' _ p => ?_) ?_ ?_⟩
    · obtain ⟨o, h⟩ := WSt.own tw11.one lp m
      exact old _ _ h rfl
    · obtain ⟨o, h⟩ := WSt.own tw11.swap.one lp m
      exact old _ _ h rfl
    · obtain ⟨_, _, _, _, _, _, _, _, _, _, _, _, _, h, _⟩ := p
      exact lst_of h
    · rintro i x σ H' hi ⟨⟨x12, rfl⟩, inv⟩
      obtain ⟨cell, rfl, _, mcell⟩ := item_ints hi
      have li : i < 6 := by
        have := (List.getElem?_eq_some_iff.mp hi).1
        rw [List.length_map] at this
        omega
      k_upd
      refine ⟨fun σ' H' => σ' = [some (.ref a), some (.ref pb), some (.ref pss), some (.int z1), some (.ref pc), some (.int far), some (.int mr), some (.int mc), some (.int (tn : Int)), some (.bl fl), some (.ref W1), some (.ref W2), some (.int cell)] ∧ Inv14 T.C_Store T.C_Blocks T.C_Rule T.C_World bs2 ss2 (imgP tn fl mr mc) lp (ms.map V.int) W1 W2 (i + 1) H', ?_, ?_⟩
      · obtain ⟨u, v, eW, eW2, twx, link, eg, lc, ls1, ls2, lb1, lb2, hlp, nu, nv⟩ := inv
        subst eW eW2
        have hu := twx.one
        obtain ⟨du, gu⟩ := id hu.wat
        have kc := ks_le_cells hu.liv
        refine ⟨_, rfl, u.W, _, _, rfl, gu, rfl, u.W, u.ru, u.A.st, u.D, u.gen, u.ks, u.g, rfl, hu.wat, hu.liv, by omega, fun H2 e2 => ?_⟩
        refine ⟨_, _, rfl, rfl, _, rfl, ite2 (fun c => ?_) (fun c => ?_)⟩
        · have c60 : (cellsW u.ks u.g).length ≤ 60 := by
            have := of_decide_eq_true c
            omega
          have hu2 := (twx.up e2).one
          obtain ⟨du2, gu2⟩ := id hu2.wat
          have lv := cells_img hu.liv twx.swap.one.liv link (img_onto _ _ _ _)
          have kv := ks_le_cells twx.swap.one.liv
          obtain ⟨n, en⟩ : ∃ n : Nat, (if cell < 0 then -cell else cell) % 7 = (n : Int) := Int.eq_ofNat_of_zero_le (Int.emod_nonneg _ (by decide))
          have n7 : n < 7 := by
            have := Int.emod_lt_of_pos (if cell < 0 then -cell else cell) (show (0 : Int) < 7 by decide)
            omega
          refine ⟨_, rfl, u.W, _, _, rfl, gu2, rfl, _, rfl, cell, rfl, _, rfl, _, _, rfl, rfl, (by show (0 : Int) < 7; decide), ?_⟩
          refine ⟨u.W, u.ru, u.D, u.gen, u.A, u.fu, u.sq, u.es, u.ks, u.g, u.B, n, bs2, ss2, congrArg (fun z => [V.ref u.W, V.int z]) en, n7, hu2.wat, hu2.liv, hu2.dM, hu2.df, hu2.st, hu2.e1, hu2.e6, hu2.ft, gb1, gb2, by omega, by omega, by omega, fun H3 sq3 es3 D3 ks3 g3 fr3 hS3 le3 e63 hF3 len3 hW3 hL3 nD3 gen3 kl3 => ?_⟩
          obtain ⟨tw3, kp3⟩ := (twx.up e2).leap fr3 hS3 le3 e63 hF3 hW3 hL3 nD3
          obtain ⟨hlp3, nu3⟩ := kp3 lp _ nu (e2 _ _ hlp)
          have hv3 := tw3.swap.one
          obtain ⟨dv3, gv3⟩ := id hv3.wat
          refine ⟨_, rfl, v.W, _, _, rfl, gv3, rfl, _, rfl, cell, rfl, _, rfl, _, _, rfl, rfl, (by show (0 : Int) < 7; decide), ?_⟩
          refine ⟨v.W, v.ru, v.D, v.gen, v.A, v.fu, v.sq, v.es, v.ks, v.g, v.B, n, bs2, ss2, congrArg (fun z => [V.ref v.W, V.int z]) en, n7, hv3.wat, hv3.liv, hv3.dM, hv3.df, hv3.st, hv3.e1, hv3.e6, hv3.ft, gb1, gb2, by omega, by omega, by omega, fun H4 sq4 es4 D4 ks4 g4 fr4 hS4 le4 e64 hF4 len4 hW4 hL4 nD4 gen4 kl4 => ?_⟩
          obtain ⟨tw4, kp4⟩ := tw3.swap.leap fr4 hS4 le4 e64 hF4 hW4 hL4 nD4
          obtain ⟨hlp4, nv4⟩ := kp4 lp _ nv hlp3
          refine ⟨rfl, ⟨u.W, u.ru, D3, u.gen + (n : Int), u.A, u.fu, sq3, es3, ks3, g3, u.B + 22000⟩, ⟨v.W, v.ru, D4, v.gen + (n : Int), v.A, v.fu, sq4, es4, ks4, g4, v.B + 22000⟩, rfl, rfl, tw4.swap, fun x => ?_, congrArg (· + (n : Int)) eg, ?_, ?_, ?_, ?_, ?_, hlp4, nu3, nv4⟩
          · show in32 g3 x.1 x.2 = in32 g4 _ _
            rw [gen3, gen4]
            exact gen_img link n x
          · have := cells_after gb1 hu.liv hL3 n7 gen3
            show (cellsW ks3 g3).length ≤ 12000
            omega
          · exact Nat.le_trans len3 (by rw [Nat.mul_succ]; omega)
          · exact Nat.le_trans len4 (by rw [Nat.mul_succ]; omega)
          · exact (show u.B + 22000 ≤ 22000 * (i + 1) by rw [Nat.mul_succ]; omega)
          · exact (show v.B + 22000 ≤ 22000 * (i + 1) by rw [Nat.mul_succ]; omega)
        · exact ⟨rfl, Inv14.up (i := i) ⟨u, v, rfl, rfl, twx, link, eg, lc, ls1, ls2, lb1, lb2, hlp, nu, nv⟩ e2 (by omega)⟩
      rintro σ' H2 ⟨rfl, inv2⟩
      refine ⟨fun σ' H' => σ' = [some (.ref a), some (.ref pb), some (.ref pss), some (.int z1), some (.ref pc), some (.int far), some (.int mr), some (.int mc), some (.int (tn : Int)), some (.bl fl), some (.ref W1), some (.ref W2), some (.int cell)] ∧ Inv14 T.C_Store T.C_Blocks T.C_Rule T.C_World bs2 ss2 (imgP tn fl mr mc) lp (ms.map V.int) W1 W2 (i + 1) H', ?_, ?_⟩
      · obtain ⟨u, v, eW, eW2, twx, link, eg, lc, ls1, ls2, lb1, lb2, hlp, nu, nv⟩ := inv2
        subst eW eW2
        have hv := twx.swap.one
        obtain ⟨dv, gv⟩ := id hv.wat
        refine ⟨_, rfl, cell, rfl, _, rfl, _, _, rfl, rfl, ⟨by decide, by decide⟩, _, _, rfl, rfl, (by show (0 : Int) < 3; decide), rfl, _, rfl, ite2 (fun c => ?_) (fun c => ?_)⟩
        · refine ⟨_, rfl, v.W, _, _, rfl, gv, rfl, v.W, v.ru, v.D, v.gen, v.A, v.fu, v.sq, v.es, v.ks, v.g, v.B, bs2, ss2, rfl, hv, fun H3 A' fu' fr new hb hw => ?_⟩
          obtain ⟨tw3, sm3⟩ := twx.swap.tidy fr new hb hw
          obtain ⟨hlp3, nv3⟩ := hideS sm3 nv hlp
          exact ⟨rfl, u, ⟨v.W, v.ru, v.D, v.gen, A', fu', two1, 1, v.ks, v.g, 0⟩, rfl, rfl, tw3.swap, link, eg, lc, ls1, Nat.le_add_right _ _, lb1, Nat.zero_le _, hlp3, nu, nv3⟩
        · exact ⟨rfl, u, v, rfl, rfl, twx, link, eg, lc, ls1, ls2, lb1, lb2, hlp, nu, nv⟩
      rintro σ' H3 ⟨rfl, inv3⟩
      obtain ⟨u, v, eW, eW2, twx, link, eg, lc, ls1, ls2, lb1, lb2, hlp, nu, nv⟩ := inv3
      subst eW eW2
      have hv := twx.swap.one
      obtain ⟨dv, gv⟩ := id hv.wat
      have kc := ks_le_cells twx.one.liv
      have lv := cells_img twx.one.liv hv.liv link (img_onto _ _ _ _)
      have kv := ks_le_cells hv.liv
      refine ⟨_, rfl, v.W, _, _, rfl, gv, rfl, v.W, v.ru, v.A.st, v.D, v.gen, v.ks, v.g, rfl, hv.wat, hv.liv, by omega, by omega, fun H4 p4 qs4 n4 e4 h4 pw4 mem4 len4 => ?_⟩
      have hu4 := (twx.up e4).one
      obtain ⟨du4, gu4⟩ := id hu4.wat
      refine ⟨_, rfl, u.W, _, _, rfl, gu4, rfl, u.W, u.ru, u.A.st, u.D, u.gen, u.ks, u.g, rfl, hu4.wat, hu4.liv, by omega, by omega, fun H5 p5 qs5 n5 e5 h5 pw5 mem5 len5 => ?_⟩
      refine ⟨_, rfl, _, rfl, _, rfl, _, rfl, ?_⟩
      refine ⟨p5, qs5, tn, fl, mr, mc, tn4, rfl, h5, nodup_lt pw5, by omega, fun H6 p6 qs6 n6 e6' h6 pw6 mem6 len6 => ?_⟩
      have eq : qs4 = qs6 := ascP_eq pw4 pw6 fun y => by
        rw [mem4, mem6]
        constructor
        · intro tt
          obtain ⟨x, rfl⟩ := img_onto tn fl mr mc y
          exact ⟨x, (mem5 x).mpr ((link x).trans tt), rfl⟩
        · rintro ⟨x, mx, rfl⟩
          exact (link x).symm.trans ((mem5 x).mp mx)
      subst eq
      refine ⟨_, _, dp_cells (h4.up (e5.trans e6')), dp_cells h6, shaped_cells _, shaped_cells _, _, rfl, ?_⟩
      rw [eqv_cells, decide_eq_true rfl]
      refine iteF ?_
      have s36 := e4.trans (e5.trans e6')
      obtain ⟨dv6, gv6⟩ := id (hv.wat.up s36)
      obtain ⟨du6, gu6⟩ := id (twx.one.wat.up s36)
      rw [eg] at gu6
      refine ⟨_, rfl, v.W, _, _, _, _, rfl, gv6, T.cl_World, T.na_World_generation, rfl, _, rfl, u.W, _, _, _, _, rfl, gu6, T.cl_World, T.na_World_generation, rfl, rfl, _, rfl, ite2 (fun c => ?_) (fun c => ?_)⟩
      · rw [decide_eq_true rfl] at c
        cases c
      · exact ⟨⟨_, rfl⟩, Inv14.up (i := i + 1) ⟨u, v, rfl, rfl, twx, link, eg, lc, ls1, ls2, lb1, lb2, hlp, nu, nv⟩ s36 (Nat.le_refl _)⟩
    · rintro σ H' ⟨⟨x12, rfl⟩, _⟩
      exact q H'
end
end My
namespace My
open PySem PySem.Spec PyProof.Rows L2 Vx
theorem all_mk {l : PySem.W.OpenLaw} {w : World} {K : PySem.W.Frag} {h : Heap} {mg : Str → Option Value} {fa : Addr} (X : K.In h) (G : h.Ns mainGlobals mg) (hfa : mg "law" = some (.ref fa))
    {C_Blocks : Addr}
    {C_Store : Addr}
    {C_World : Addr}
    {C_Rule : Addr}
    {f_sums_of : Addr} {odsums_of ansums_of : Option Addr} {slsums_of : Array (Option Value)} {ocsums_of kVsums_of dcsums_of pmsums_of cdsums_of ctsums_of : Value}
    {f_totals_of : Addr} {odtotals_of antotals_of : Option Addr} {sltotals_of : Array (Option Value)} {octotals_of kVtotals_of dctotals_of pmtotals_of cdtotals_of cttotals_of : Value}
    {f_next_strip : Addr} {odnext_strip annext_strip : Option Addr} {slnext_strip : Array (Option Value)} {ocnext_strip kVnext_strip dcnext_strip pmnext_strip cdnext_strip ctnext_strip : Value}
    {f_place_of : Addr} {odplace_of anplace_of : Option Addr} {slplace_of : Array (Option Value)} {ocplace_of kVplace_of dcplace_of pmplace_of cdplace_of ctplace_of : Value}
    {f_blocks_of : Addr} {odblocks_of anblocks_of : Option Addr} {slblocks_of : Array (Option Value)} {ocblocks_of kVblocks_of dcblocks_of pmblocks_of cdblocks_of ctblocks_of : Value}
    {f_block_cells : Addr} {odblock_cells anblock_cells : Option Addr} {slblock_cells : Array (Option Value)} {ocblock_cells kVblock_cells dcblock_cells pmblock_cells cdblock_cells ctblock_cells : Value}
    {f_block_count : Addr} {odblock_count anblock_count : Option Addr} {slblock_count : Array (Option Value)} {ocblock_count kVblock_count dcblock_count pmblock_count cdblock_count ctblock_count : Value}
    {f_block_changed : Addr} {odblock_changed anblock_changed : Option Addr} {slblock_changed : Array (Option Value)} {ocblock_changed kVblock_changed dcblock_changed pmblock_changed cdblock_changed ctblock_changed : Value}
    {f_next_block : Addr} {odnext_block annext_block : Option Addr} {slnext_block : Array (Option Value)} {ocnext_block kVnext_block dcnext_block pmnext_block cdnext_block ctnext_block : Value}
    {f_Blocks_init : Addr} {odBlocks_init anBlocks_init : Option Addr} {slBlocks_init : Array (Option Value)} {ocBlocks_init kVBlocks_init dcBlocks_init pmBlocks_init cdBlocks_init ctBlocks_init : Value}
    {f_Blocks_cut : Addr} {odBlocks_cut anBlocks_cut : Option Addr} {slBlocks_cut : Array (Option Value)} {ocBlocks_cut kVBlocks_cut dcBlocks_cut pmBlocks_cut cdBlocks_cut ctBlocks_cut : Value}
    {f_Blocks_quarters : Addr} {odBlocks_quarters anBlocks_quarters : Option Addr} {slBlocks_quarters : Array (Option Value)} {ocBlocks_quarters kVBlocks_quarters dcBlocks_quarters pmBlocks_quarters cdBlocks_quarters ctBlocks_quarters : Value}
    {f_Blocks_put_together : Addr} {odBlocks_put_together anBlocks_put_together : Option Addr} {slBlocks_put_together : Array (Option Value)} {ocBlocks_put_together kVBlocks_put_together dcBlocks_put_together pmBlocks_put_together cdBlocks_put_together ctBlocks_put_together : Value}
    {f_Blocks_centre : Addr} {odBlocks_centre anBlocks_centre : Option Addr} {slBlocks_centre : Array (Option Value)} {ocBlocks_centre kVBlocks_centre dcBlocks_centre pmBlocks_centre cdBlocks_centre ctBlocks_centre : Value}
    {f_Blocks_centre_after : Addr} {odBlocks_centre_after anBlocks_centre_after : Option Addr} {slBlocks_centre_after : Array (Option Value)} {ocBlocks_centre_after kVBlocks_centre_after dcBlocks_centre_after pmBlocks_centre_after cdBlocks_centre_after ctBlocks_centre_after : Value}
    {f_full_block : Addr} {odfull_block anfull_block : Option Addr} {slfull_block : Array (Option Value)} {ocfull_block kVfull_block dcfull_block pmfull_block cdfull_block ctfull_block : Value}
    {f_Store_init : Addr} {odStore_init anStore_init : Option Addr} {slStore_init : Array (Option Value)} {ocStore_init kVStore_init dcStore_init pmStore_init cdStore_init ctStore_init : Value}
    {f_Store_joined : Addr} {odStore_joined anStore_joined : Option Addr} {slStore_joined : Array (Option Value)} {ocStore_joined kVStore_joined dcStore_joined pmStore_joined cdStore_joined ctStore_joined : Value}
    {f_Store_small : Addr} {odStore_small anStore_small : Option Addr} {slStore_small : Array (Option Value)} {ocStore_small kVStore_small dcStore_small pmStore_small cdStore_small ctStore_small : Value}
    {f_Store_new_square : Addr} {odStore_new_square anStore_new_square : Option Addr} {slStore_new_square : Array (Option Value)} {ocStore_new_square kVStore_new_square dcStore_new_square pmStore_new_square cdStore_new_square ctStore_new_square : Value}
    {f_Store_block : Addr} {odStore_block anStore_block : Option Addr} {slStore_block : Array (Option Value)} {ocStore_block kVStore_block dcStore_block pmStore_block cdStore_block ctStore_block : Value}
    {f_Store_parts : Addr} {odStore_parts anStore_parts : Option Addr} {slStore_parts : Array (Option Value)} {ocStore_parts kVStore_parts dcStore_parts pmStore_parts cdStore_parts ctStore_parts : Value}
    {f_Store_empty : Addr} {odStore_empty anStore_empty : Option Addr} {slStore_empty : Array (Option Value)} {ocStore_empty kVStore_empty dcStore_empty pmStore_empty cdStore_empty ctStore_empty : Value}
    {f_Store_future : Addr} {odStore_future anStore_future : Option Addr} {slStore_future : Array (Option Value)} {ocStore_future kVStore_future dcStore_future pmStore_future cdStore_future ctStore_future : Value}
    {f_Store_new_future : Addr} {odStore_new_future anStore_new_future : Option Addr} {slStore_new_future : Array (Option Value)} {ocStore_new_future kVStore_new_future dcStore_new_future pmStore_new_future cdStore_new_future ctStore_new_future : Value}
    {f_Store_at_level : Addr} {odStore_at_level anStore_at_level : Option Addr} {slStore_at_level : Array (Option Value)} {ocStore_at_level kVStore_at_level dcStore_at_level pmStore_at_level cdStore_at_level ctStore_at_level : Value}
    {f_Store_raised : Addr} {odStore_raised anStore_raised : Option Addr} {slStore_raised : Array (Option Value)} {ocStore_raised kVStore_raised dcStore_raised pmStore_raised cdStore_raised ctStore_raised : Value}
    {f_Store_lowered : Addr} {odStore_lowered anStore_lowered : Option Addr} {slStore_lowered : Array (Option Value)} {ocStore_lowered kVStore_lowered dcStore_lowered pmStore_lowered cdStore_lowered ctStore_lowered : Value}
    {f_Store_aged : Addr} {odStore_aged anStore_aged : Option Addr} {slStore_aged : Array (Option Value)} {ocStore_aged kVStore_aged dcStore_aged pmStore_aged cdStore_aged ctStore_aged : Value}
    {f_Store_surrounded : Addr} {odStore_surrounded anStore_surrounded : Option Addr} {slStore_surrounded : Array (Option Value)} {ocStore_surrounded kVStore_surrounded dcStore_surrounded pmStore_surrounded cdStore_surrounded ctStore_surrounded : Value}
    {f_with_places_around : Addr} {odwith_places_around anwith_places_around : Option Addr} {slwith_places_around : Array (Option Value)} {ocwith_places_around kVwith_places_around dcwith_places_around pmwith_places_around cdwith_places_around ctwith_places_around : Value}
    {f_World_init : Addr} {odWorld_init anWorld_init : Option Addr} {slWorld_init : Array (Option Value)} {ocWorld_init kVWorld_init dcWorld_init pmWorld_init cdWorld_init ctWorld_init : Value}
    {f_World_paste : Addr} {odWorld_paste anWorld_paste : Option Addr} {slWorld_paste : Array (Option Value)} {ocWorld_paste kVWorld_paste dcWorld_paste pmWorld_paste cdWorld_paste ctWorld_paste : Value}
    {f_World_leap : Addr} {odWorld_leap anWorld_leap : Option Addr} {slWorld_leap : Array (Option Value)} {ocWorld_leap kVWorld_leap dcWorld_leap pmWorld_leap cdWorld_leap ctWorld_leap : Value}
    {f_World_tidy : Addr} {odWorld_tidy anWorld_tidy : Option Addr} {slWorld_tidy : Array (Option Value)} {ocWorld_tidy kVWorld_tidy dcWorld_tidy pmWorld_tidy cdWorld_tidy ctWorld_tidy : Value}
    {f_World_count : Addr} {odWorld_count anWorld_count : Option Addr} {slWorld_count : Array (Option Value)} {ocWorld_count kVWorld_count dcWorld_count pmWorld_count cdWorld_count ctWorld_count : Value}
    {f_World_cells : Addr} {odWorld_cells anWorld_cells : Option Addr} {slWorld_cells : Array (Option Value)} {ocWorld_cells kVWorld_cells dcWorld_cells pmWorld_cells cdWorld_cells ctWorld_cells : Value}
    {f_World_cells_of_blocks : Addr} {odWorld_cells_of_blocks anWorld_cells_of_blocks : Option Addr} {slWorld_cells_of_blocks : Array (Option Value)} {ocWorld_cells_of_blocks kVWorld_cells_of_blocks dcWorld_cells_of_blocks pmWorld_cells_of_blocks cdWorld_cells_of_blocks ctWorld_cells_of_blocks : Value}
    {f_Rule_init : Addr} {odRule_init anRule_init : Option Addr} {slRule_init : Array (Option Value)} {ocRule_init kVRule_init dcRule_init pmRule_init cdRule_init ctRule_init : Value}
    {f_law_cell : Addr} {odlaw_cell anlaw_cell : Option Addr} {sllaw_cell : Array (Option Value)} {oclaw_cell kVlaw_cell dclaw_cell pmlaw_cell cdlaw_cell ctlaw_cell : Value}
    {f_law_row : Addr} {odlaw_row anlaw_row : Option Addr} {sllaw_row : Array (Option Value)} {oclaw_row kVlaw_row dclaw_row pmlaw_row cdlaw_row ctlaw_row : Value}
    {f_law_numbers : Addr} {odlaw_numbers anlaw_numbers : Option Addr} {sllaw_numbers : Array (Option Value)} {oclaw_numbers kVlaw_numbers dclaw_numbers pmlaw_numbers cdlaw_numbers ctlaw_numbers : Value}
    {f_law_some : Addr} {odlaw_some anlaw_some : Option Addr} {sllaw_some : Array (Option Value)} {oclaw_some kVlaw_some dclaw_some pmlaw_some cdlaw_some ctlaw_some : Value}
    {f_law_image : Addr} {odlaw_image anlaw_image : Option Addr} {sllaw_image : Array (Option Value)} {oclaw_image kVlaw_image dclaw_image pmlaw_image cdlaw_image ctlaw_image : Value}
    {f_law : Addr} {odlaw anlaw : Option Addr} {sllaw : Array (Option Value)} {oclaw kVlaw dclaw pmlaw cdlaw ctlaw : Value}
    {uSIDE : Tok}
    {uTOP : Tok}
    (aCBlocks : PySem.W.nsIn K mainGlobals "Blocks" = some (some (.ref C_Blocks)))
    (pgBlocks : PySem.W.plainGet K C_Blocks Str.empty = true)
    (hdBlocks : PySem.W.hasDictIn K C_Blocks = true)
    (poBlocks : PySem.W.plainOver K C_Blocks = true)
    (saBlocks : PySem.W.findIn K (.ref C_Blocks) "__setattr__" = some (some (.builtin "object.__setattr__")))
    (mkBlocks : PySem.W.makesIn K C_Blocks = true)
    (kcBlocks : PySem.W.keepIn K (.ref C_Blocks) = true)
    (nBlocks_rule : PySem.W.findIn K (.ref C_Blocks) "_rule" = some none)
    (nBlocks_full : PySem.W.findIn K (.ref C_Blocks) "_full" = some none)
    (aCStore : PySem.W.nsIn K mainGlobals "Store" = some (some (.ref C_Store)))
    (pgStore : PySem.W.plainGet K C_Store Str.empty = true)
    (hdStore : PySem.W.hasDictIn K C_Store = true)
    (poStore : PySem.W.plainOver K C_Store = true)
    (saStore : PySem.W.findIn K (.ref C_Store) "__setattr__" = some (some (.builtin "object.__setattr__")))
    (mkStore : PySem.W.makesIn K C_Store = true)
    (kcStore : PySem.W.keepIn K (.ref C_Store) = true)
    (nStore_rule : PySem.W.findIn K (.ref C_Store) "_rule" = some none)
    (nStore_blocks : PySem.W.findIn K (.ref C_Store) "_blocks" = some none)
    (nStore_levels : PySem.W.findIn K (.ref C_Store) "_levels" = some none)
    (nStore_counts : PySem.W.findIn K (.ref C_Store) "_counts" = some none)
    (nStore_bits : PySem.W.findIn K (.ref C_Store) "_bits" = some none)
    (nStore_parts : PySem.W.findIn K (.ref C_Store) "_parts" = some none)
    (nStore_small : PySem.W.findIn K (.ref C_Store) "_small" = some none)
    (nStore_large : PySem.W.findIn K (.ref C_Store) "_large" = some none)
    (nStore_empty : PySem.W.findIn K (.ref C_Store) "_empty" = some none)
    (nStore_futures : PySem.W.findIn K (.ref C_Store) "_futures" = some none)
    (aCWorld : PySem.W.nsIn K mainGlobals "World" = some (some (.ref C_World)))
    (pgWorld : PySem.W.plainGet K C_World Str.empty = true)
    (hdWorld : PySem.W.hasDictIn K C_World = true)
    (poWorld : PySem.W.plainOver K C_World = true)
    (saWorld : PySem.W.findIn K (.ref C_World) "__setattr__" = some (some (.builtin "object.__setattr__")))
    (mkWorld : PySem.W.makesIn K C_World = true)
    (kcWorld : PySem.W.keepIn K (.ref C_World) = true)
    (nWorldgeneration : PySem.W.findIn K (.ref C_World) "generation" = some none)
    (nWorld_rule : PySem.W.findIn K (.ref C_World) "_rule" = some none)
    (nWorld_store : PySem.W.findIn K (.ref C_World) "_store" = some none)
    (nWorld_living : PySem.W.findIn K (.ref C_World) "_living" = some none)
    (aCRule : PySem.W.nsIn K mainGlobals "Rule" = some (some (.ref C_Rule)))
    (pgRule : PySem.W.plainGet K C_Rule Str.empty = true)
    (hdRule : PySem.W.hasDictIn K C_Rule = true)
    (poRule : PySem.W.plainOver K C_Rule = true)
    (saRule : PySem.W.findIn K (.ref C_Rule) "__setattr__" = some (some (.builtin "object.__setattr__")))
    (mkRule : PySem.W.makesIn K C_Rule = true)
    (kcRule : PySem.W.keepIn K (.ref C_Rule) = true)
    (nRulebirths : PySem.W.findIn K (.ref C_Rule) "births" = some none)
    (nRulesurvival : PySem.W.findIn K (.ref C_Rule) "survival" = some none)
    (asums_of : PySem.W.nsIn K mainGlobals "sums_of" = some (some (.ref f_sums_of)))
    (lsums_of : K.lookup f_sums_of = some ⟨ocsums_of, odsums_of, .func (PySem.W.fnOf "sums_of" "sums_of" (defArgs s_sums_of) (defBody s_sums_of) (defScope s_sums_of) .none kVsums_of dcsums_of pmsums_of ansums_of cdsums_of ctsums_of), slsums_of⟩)
    (csums_of : PySem.W.codeIn K cdsums_of "sums_of" = true)
    (ksums_of : PySem.W.keepIn K (.ref f_sums_of) = true)
    (atotals_of : PySem.W.nsIn K mainGlobals "totals_of" = some (some (.ref f_totals_of)))
    (ltotals_of : K.lookup f_totals_of = some ⟨octotals_of, odtotals_of, .func (PySem.W.fnOf "totals_of" "totals_of" (defArgs s_totals_of) (defBody s_totals_of) (defScope s_totals_of) .none kVtotals_of dctotals_of pmtotals_of antotals_of cdtotals_of cttotals_of), sltotals_of⟩)
    (ctotals_of : PySem.W.codeIn K cdtotals_of "totals_of" = true)
    (ktotals_of : PySem.W.keepIn K (.ref f_totals_of) = true)
    (anext_strip : PySem.W.nsIn K mainGlobals "next_strip" = some (some (.ref f_next_strip)))
    (lnext_strip : K.lookup f_next_strip = some ⟨ocnext_strip, odnext_strip, .func (PySem.W.fnOf "next_strip" "next_strip" (defArgs s_next_strip) (defBody s_next_strip) (defScope s_next_strip) .none kVnext_strip dcnext_strip pmnext_strip annext_strip cdnext_strip ctnext_strip), slnext_strip⟩)
    (cnext_strip : PySem.W.codeIn K cdnext_strip "next_strip" = true)
    (knext_strip : PySem.W.keepIn K (.ref f_next_strip) = true)
    (aplace_of : PySem.W.nsIn K mainGlobals "place_of" = some (some (.ref f_place_of)))
    (lplace_of : K.lookup f_place_of = some ⟨ocplace_of, odplace_of, .func (PySem.W.fnOf "place_of" "place_of" (defArgs s_place_of) (defBody s_place_of) (defScope s_place_of) .none kVplace_of dcplace_of pmplace_of anplace_of cdplace_of ctplace_of), slplace_of⟩)
    (cplace_of : PySem.W.codeIn K cdplace_of "place_of" = true)
    (kplace_of : PySem.W.keepIn K (.ref f_place_of) = true)
    (ablocks_of : PySem.W.nsIn K mainGlobals "blocks_of" = some (some (.ref f_blocks_of)))
    (lblocks_of : K.lookup f_blocks_of = some ⟨ocblocks_of, odblocks_of, .func (PySem.W.fnOf "blocks_of" "blocks_of" (defArgs s_blocks_of) (defBody s_blocks_of) (defScope s_blocks_of) .none kVblocks_of dcblocks_of pmblocks_of anblocks_of cdblocks_of ctblocks_of), slblocks_of⟩)
    (cblocks_of : PySem.W.codeIn K cdblocks_of "blocks_of" = true)
    (kblocks_of : PySem.W.keepIn K (.ref f_blocks_of) = true)
    (ablock_cells : PySem.W.nsIn K mainGlobals "block_cells" = some (some (.ref f_block_cells)))
    (lblock_cells : K.lookup f_block_cells = some ⟨ocblock_cells, odblock_cells, .func (PySem.W.fnOf "block_cells" "block_cells" (defArgs s_block_cells) (defBody s_block_cells) (defScope s_block_cells) .none kVblock_cells dcblock_cells pmblock_cells anblock_cells cdblock_cells ctblock_cells), slblock_cells⟩)
    (cblock_cells : PySem.W.codeIn K cdblock_cells "block_cells" = true)
    (kblock_cells : PySem.W.keepIn K (.ref f_block_cells) = true)
    (ablock_count : PySem.W.nsIn K mainGlobals "block_count" = some (some (.ref f_block_count)))
    (lblock_count : K.lookup f_block_count = some ⟨ocblock_count, odblock_count, .func (PySem.W.fnOf "block_count" "block_count" (defArgs s_block_count) (defBody s_block_count) (defScope s_block_count) .none kVblock_count dcblock_count pmblock_count anblock_count cdblock_count ctblock_count), slblock_count⟩)
    (cblock_count : PySem.W.codeIn K cdblock_count "block_count" = true)
    (kblock_count : PySem.W.keepIn K (.ref f_block_count) = true)
    (ablock_changed : PySem.W.nsIn K mainGlobals "block_changed" = some (some (.ref f_block_changed)))
    (lblock_changed : K.lookup f_block_changed = some ⟨ocblock_changed, odblock_changed, .func (PySem.W.fnOf "block_changed" "block_changed" (defArgs s_block_changed) (defBody s_block_changed) (defScope s_block_changed) .none kVblock_changed dcblock_changed pmblock_changed anblock_changed cdblock_changed ctblock_changed), slblock_changed⟩)
    (cblock_changed : PySem.W.codeIn K cdblock_changed "block_changed" = true)
    (kblock_changed : PySem.W.keepIn K (.ref f_block_changed) = true)
    (anext_block : PySem.W.nsIn K mainGlobals "next_block" = some (some (.ref f_next_block)))
    (lnext_block : K.lookup f_next_block = some ⟨ocnext_block, odnext_block, .func (PySem.W.fnOf "next_block" "next_block" (defArgs s_next_block) (defBody s_next_block) (defScope s_next_block) .none kVnext_block dcnext_block pmnext_block annext_block cdnext_block ctnext_block), slnext_block⟩)
    (cnext_block : PySem.W.codeIn K cdnext_block "next_block" = true)
    (knext_block : PySem.W.keepIn K (.ref f_next_block) = true)
    (aBlocks_init : PySem.W.findIn K (.ref C_Blocks) "__init__" = some (some (.ref f_Blocks_init)))
    (iBlocks_init : PySem.W.isFn K (.ref f_Blocks_init) = true)
    (lBlocks_init : K.lookup f_Blocks_init = some ⟨ocBlocks_init, odBlocks_init, .func (PySem.W.fnOf "__init__" "Blocks.__init__" (defArgs s_Blocks_init) (defBody s_Blocks_init) (defScope s_Blocks_init) .none kVBlocks_init dcBlocks_init pmBlocks_init anBlocks_init cdBlocks_init ctBlocks_init), slBlocks_init⟩)
    (cBlocks_init : PySem.W.codeIn K cdBlocks_init "Blocks.__init__" = true)
    (kBlocks_init : PySem.W.keepIn K (.ref f_Blocks_init) = true)
    (aBlocks_cut : PySem.W.findIn K (.ref C_Blocks) "cut" = some (some (.ref f_Blocks_cut)))
    (iBlocks_cut : PySem.W.isFn K (.ref f_Blocks_cut) = true)
    (lBlocks_cut : K.lookup f_Blocks_cut = some ⟨ocBlocks_cut, odBlocks_cut, .func (PySem.W.fnOf "cut" "Blocks.cut" (defArgs s_Blocks_cut) (defBody s_Blocks_cut) (defScope s_Blocks_cut) .none kVBlocks_cut dcBlocks_cut pmBlocks_cut anBlocks_cut cdBlocks_cut ctBlocks_cut), slBlocks_cut⟩)
    (cBlocks_cut : PySem.W.codeIn K cdBlocks_cut "Blocks.cut" = true)
    (kBlocks_cut : PySem.W.keepIn K (.ref f_Blocks_cut) = true)
    (aBlocks_quarters : PySem.W.findIn K (.ref C_Blocks) "quarters" = some (some (.ref f_Blocks_quarters)))
    (iBlocks_quarters : PySem.W.isFn K (.ref f_Blocks_quarters) = true)
    (lBlocks_quarters : K.lookup f_Blocks_quarters = some ⟨ocBlocks_quarters, odBlocks_quarters, .func (PySem.W.fnOf "quarters" "Blocks.quarters" (defArgs s_Blocks_quarters) (defBody s_Blocks_quarters) (defScope s_Blocks_quarters) .none kVBlocks_quarters dcBlocks_quarters pmBlocks_quarters anBlocks_quarters cdBlocks_quarters ctBlocks_quarters), slBlocks_quarters⟩)
    (cBlocks_quarters : PySem.W.codeIn K cdBlocks_quarters "Blocks.quarters" = true)
    (kBlocks_quarters : PySem.W.keepIn K (.ref f_Blocks_quarters) = true)
    (aBlocks_put_together : PySem.W.findIn K (.ref C_Blocks) "put_together" = some (some (.ref f_Blocks_put_together)))
    (iBlocks_put_together : PySem.W.isFn K (.ref f_Blocks_put_together) = true)
    (lBlocks_put_together : K.lookup f_Blocks_put_together = some ⟨ocBlocks_put_together, odBlocks_put_together, .func (PySem.W.fnOf "put_together" "Blocks.put_together" (defArgs s_Blocks_put_together) (defBody s_Blocks_put_together) (defScope s_Blocks_put_together) .none kVBlocks_put_together dcBlocks_put_together pmBlocks_put_together anBlocks_put_together cdBlocks_put_together ctBlocks_put_together), slBlocks_put_together⟩)
    (cBlocks_put_together : PySem.W.codeIn K cdBlocks_put_together "Blocks.put_together" = true)
    (kBlocks_put_together : PySem.W.keepIn K (.ref f_Blocks_put_together) = true)
    (aBlocks_centre : PySem.W.findIn K (.ref C_Blocks) "centre" = some (some (.ref f_Blocks_centre)))
    (iBlocks_centre : PySem.W.isFn K (.ref f_Blocks_centre) = true)
    (lBlocks_centre : K.lookup f_Blocks_centre = some ⟨ocBlocks_centre, odBlocks_centre, .func (PySem.W.fnOf "centre" "Blocks.centre" (defArgs s_Blocks_centre) (defBody s_Blocks_centre) (defScope s_Blocks_centre) .none kVBlocks_centre dcBlocks_centre pmBlocks_centre anBlocks_centre cdBlocks_centre ctBlocks_centre), slBlocks_centre⟩)
    (cBlocks_centre : PySem.W.codeIn K cdBlocks_centre "Blocks.centre" = true)
    (kBlocks_centre : PySem.W.keepIn K (.ref f_Blocks_centre) = true)
    (aBlocks_centre_after : PySem.W.findIn K (.ref C_Blocks) "centre_after" = some (some (.ref f_Blocks_centre_after)))
    (iBlocks_centre_after : PySem.W.isFn K (.ref f_Blocks_centre_after) = true)
    (lBlocks_centre_after : K.lookup f_Blocks_centre_after = some ⟨ocBlocks_centre_after, odBlocks_centre_after, .func (PySem.W.fnOf "centre_after" "Blocks.centre_after" (defArgs s_Blocks_centre_after) (defBody s_Blocks_centre_after) (defScope s_Blocks_centre_after) .none kVBlocks_centre_after dcBlocks_centre_after pmBlocks_centre_after anBlocks_centre_after cdBlocks_centre_after ctBlocks_centre_after), slBlocks_centre_after⟩)
    (cBlocks_centre_after : PySem.W.codeIn K cdBlocks_centre_after "Blocks.centre_after" = true)
    (kBlocks_centre_after : PySem.W.keepIn K (.ref f_Blocks_centre_after) = true)
    (afull_block : PySem.W.nsIn K mainGlobals "_full_block" = some (some (.ref f_full_block)))
    (lfull_block : K.lookup f_full_block = some ⟨ocfull_block, odfull_block, .func (PySem.W.fnOf "_full_block" "_full_block" (defArgs s_full_block) (defBody s_full_block) (defScope s_full_block) .none kVfull_block dcfull_block pmfull_block anfull_block cdfull_block ctfull_block), slfull_block⟩)
    (cfull_block : PySem.W.codeIn K cdfull_block "_full_block" = true)
    (kfull_block : PySem.W.keepIn K (.ref f_full_block) = true)
    (aStore_init : PySem.W.findIn K (.ref C_Store) "__init__" = some (some (.ref f_Store_init)))
    (iStore_init : PySem.W.isFn K (.ref f_Store_init) = true)
    (lStore_init : K.lookup f_Store_init = some ⟨ocStore_init, odStore_init, .func (PySem.W.fnOf "__init__" "Store.__init__" (defArgs s_Store_init) (defBody s_Store_init) (defScope s_Store_init) .none kVStore_init dcStore_init pmStore_init anStore_init cdStore_init ctStore_init), slStore_init⟩)
    (cStore_init : PySem.W.codeIn K cdStore_init "Store.__init__" = true)
    (kStore_init : PySem.W.keepIn K (.ref f_Store_init) = true)
    (aStore_joined : PySem.W.findIn K (.ref C_Store) "joined" = some (some (.ref f_Store_joined)))
    (iStore_joined : PySem.W.isFn K (.ref f_Store_joined) = true)
    (lStore_joined : K.lookup f_Store_joined = some ⟨ocStore_joined, odStore_joined, .func (PySem.W.fnOf "joined" "Store.joined" (defArgs s_Store_joined) (defBody s_Store_joined) (defScope s_Store_joined) .none kVStore_joined dcStore_joined pmStore_joined anStore_joined cdStore_joined ctStore_joined), slStore_joined⟩)
    (cStore_joined : PySem.W.codeIn K cdStore_joined "Store.joined" = true)
    (kStore_joined : PySem.W.keepIn K (.ref f_Store_joined) = true)
    (aStore_small : PySem.W.findIn K (.ref C_Store) "small" = some (some (.ref f_Store_small)))
    (iStore_small : PySem.W.isFn K (.ref f_Store_small) = true)
    (lStore_small : K.lookup f_Store_small = some ⟨ocStore_small, odStore_small, .func (PySem.W.fnOf "small" "Store.small" (defArgs s_Store_small) (defBody s_Store_small) (defScope s_Store_small) .none kVStore_small dcStore_small pmStore_small anStore_small cdStore_small ctStore_small), slStore_small⟩)
    (cStore_small : PySem.W.codeIn K cdStore_small "Store.small" = true)
    (kStore_small : PySem.W.keepIn K (.ref f_Store_small) = true)
    (aStore_new_square : PySem.W.findIn K (.ref C_Store) "_new_square" = some (some (.ref f_Store_new_square)))
    (iStore_new_square : PySem.W.isFn K (.ref f_Store_new_square) = true)
    (lStore_new_square : K.lookup f_Store_new_square = some ⟨ocStore_new_square, odStore_new_square, .func (PySem.W.fnOf "_new_square" "Store._new_square" (defArgs s_Store_new_square) (defBody s_Store_new_square) (defScope s_Store_new_square) .none kVStore_new_square dcStore_new_square pmStore_new_square anStore_new_square cdStore_new_square ctStore_new_square), slStore_new_square⟩)
    (cStore_new_square : PySem.W.codeIn K cdStore_new_square "Store._new_square" = true)
    (kStore_new_square : PySem.W.keepIn K (.ref f_Store_new_square) = true)
    (aStore_block : PySem.W.findIn K (.ref C_Store) "block" = some (some (.ref f_Store_block)))
    (iStore_block : PySem.W.isFn K (.ref f_Store_block) = true)
    (lStore_block : K.lookup f_Store_block = some ⟨ocStore_block, odStore_block, .func (PySem.W.fnOf "block" "Store.block" (defArgs s_Store_block) (defBody s_Store_block) (defScope s_Store_block) .none kVStore_block dcStore_block pmStore_block anStore_block cdStore_block ctStore_block), slStore_block⟩)
    (cStore_block : PySem.W.codeIn K cdStore_block "Store.block" = true)
    (kStore_block : PySem.W.keepIn K (.ref f_Store_block) = true)
    (aStore_parts : PySem.W.findIn K (.ref C_Store) "parts" = some (some (.ref f_Store_parts)))
    (iStore_parts : PySem.W.isFn K (.ref f_Store_parts) = true)
    (lStore_parts : K.lookup f_Store_parts = some ⟨ocStore_parts, odStore_parts, .func (PySem.W.fnOf "parts" "Store.parts" (defArgs s_Store_parts) (defBody s_Store_parts) (defScope s_Store_parts) .none kVStore_parts dcStore_parts pmStore_parts anStore_parts cdStore_parts ctStore_parts), slStore_parts⟩)
    (cStore_parts : PySem.W.codeIn K cdStore_parts "Store.parts" = true)
    (kStore_parts : PySem.W.keepIn K (.ref f_Store_parts) = true)
    (aStore_empty : PySem.W.findIn K (.ref C_Store) "empty" = some (some (.ref f_Store_empty)))
    (iStore_empty : PySem.W.isFn K (.ref f_Store_empty) = true)
    (lStore_empty : K.lookup f_Store_empty = some ⟨ocStore_empty, odStore_empty, .func (PySem.W.fnOf "empty" "Store.empty" (defArgs s_Store_empty) (defBody s_Store_empty) (defScope s_Store_empty) .none kVStore_empty dcStore_empty pmStore_empty anStore_empty cdStore_empty ctStore_empty), slStore_empty⟩)
    (cStore_empty : PySem.W.codeIn K cdStore_empty "Store.empty" = true)
    (kStore_empty : PySem.W.keepIn K (.ref f_Store_empty) = true)
    (aStore_future : PySem.W.findIn K (.ref C_Store) "future" = some (some (.ref f_Store_future)))
    (iStore_future : PySem.W.isFn K (.ref f_Store_future) = true)
    (lStore_future : K.lookup f_Store_future = some ⟨ocStore_future, odStore_future, .func (PySem.W.fnOf "future" "Store.future" (defArgs s_Store_future) (defBody s_Store_future) (defScope s_Store_future) .none kVStore_future dcStore_future pmStore_future anStore_future cdStore_future ctStore_future), slStore_future⟩)
    (cStore_future : PySem.W.codeIn K cdStore_future "Store.future" = true)
    (kStore_future : PySem.W.keepIn K (.ref f_Store_future) = true)
    (aStore_new_future : PySem.W.findIn K (.ref C_Store) "_new_future" = some (some (.ref f_Store_new_future)))
    (iStore_new_future : PySem.W.isFn K (.ref f_Store_new_future) = true)
    (lStore_new_future : K.lookup f_Store_new_future = some ⟨ocStore_new_future, odStore_new_future, .func (PySem.W.fnOf "_new_future" "Store._new_future" (defArgs s_Store_new_future) (defBody s_Store_new_future) (defScope s_Store_new_future) .none kVStore_new_future dcStore_new_future pmStore_new_future anStore_new_future cdStore_new_future ctStore_new_future), slStore_new_future⟩)
    (cStore_new_future : PySem.W.codeIn K cdStore_new_future "Store._new_future" = true)
    (kStore_new_future : PySem.W.keepIn K (.ref f_Store_new_future) = true)
    (aStore_at_level : PySem.W.findIn K (.ref C_Store) "at_level" = some (some (.ref f_Store_at_level)))
    (iStore_at_level : PySem.W.isFn K (.ref f_Store_at_level) = true)
    (lStore_at_level : K.lookup f_Store_at_level = some ⟨ocStore_at_level, odStore_at_level, .func (PySem.W.fnOf "at_level" "Store.at_level" (defArgs s_Store_at_level) (defBody s_Store_at_level) (defScope s_Store_at_level) .none kVStore_at_level dcStore_at_level pmStore_at_level anStore_at_level cdStore_at_level ctStore_at_level), slStore_at_level⟩)
    (cStore_at_level : PySem.W.codeIn K cdStore_at_level "Store.at_level" = true)
    (kStore_at_level : PySem.W.keepIn K (.ref f_Store_at_level) = true)
    (aStore_raised : PySem.W.findIn K (.ref C_Store) "_raised" = some (some (.ref f_Store_raised)))
    (iStore_raised : PySem.W.isFn K (.ref f_Store_raised) = true)
    (lStore_raised : K.lookup f_Store_raised = some ⟨ocStore_raised, odStore_raised, .func (PySem.W.fnOf "_raised" "Store._raised" (defArgs s_Store_raised) (defBody s_Store_raised) (defScope s_Store_raised) .none kVStore_raised dcStore_raised pmStore_raised anStore_raised cdStore_raised ctStore_raised), slStore_raised⟩)
    (cStore_raised : PySem.W.codeIn K cdStore_raised "Store._raised" = true)
    (kStore_raised : PySem.W.keepIn K (.ref f_Store_raised) = true)
    (aStore_lowered : PySem.W.findIn K (.ref C_Store) "_lowered" = some (some (.ref f_Store_lowered)))
    (iStore_lowered : PySem.W.isFn K (.ref f_Store_lowered) = true)
    (lStore_lowered : K.lookup f_Store_lowered = some ⟨ocStore_lowered, odStore_lowered, .func (PySem.W.fnOf "_lowered" "Store._lowered" (defArgs s_Store_lowered) (defBody s_Store_lowered) (defScope s_Store_lowered) .none kVStore_lowered dcStore_lowered pmStore_lowered anStore_lowered cdStore_lowered ctStore_lowered), slStore_lowered⟩)
    (cStore_lowered : PySem.W.codeIn K cdStore_lowered "Store._lowered" = true)
    (kStore_lowered : PySem.W.keepIn K (.ref f_Store_lowered) = true)
    (aStore_aged : PySem.W.findIn K (.ref C_Store) "aged" = some (some (.ref f_Store_aged)))
    (iStore_aged : PySem.W.isFn K (.ref f_Store_aged) = true)
    (lStore_aged : K.lookup f_Store_aged = some ⟨ocStore_aged, odStore_aged, .func (PySem.W.fnOf "aged" "Store.aged" (defArgs s_Store_aged) (defBody s_Store_aged) (defScope s_Store_aged) .none kVStore_aged dcStore_aged pmStore_aged anStore_aged cdStore_aged ctStore_aged), slStore_aged⟩)
    (cStore_aged : PySem.W.codeIn K cdStore_aged "Store.aged" = true)
    (kStore_aged : PySem.W.keepIn K (.ref f_Store_aged) = true)
    (aStore_surrounded : PySem.W.findIn K (.ref C_Store) "_surrounded" = some (some (.ref f_Store_surrounded)))
    (iStore_surrounded : PySem.W.isFn K (.ref f_Store_surrounded) = true)
    (lStore_surrounded : K.lookup f_Store_surrounded = some ⟨ocStore_surrounded, odStore_surrounded, .func (PySem.W.fnOf "_surrounded" "Store._surrounded" (defArgs s_Store_surrounded) (defBody s_Store_surrounded) (defScope s_Store_surrounded) .none kVStore_surrounded dcStore_surrounded pmStore_surrounded anStore_surrounded cdStore_surrounded ctStore_surrounded), slStore_surrounded⟩)
    (cStore_surrounded : PySem.W.codeIn K cdStore_surrounded "Store._surrounded" = true)
    (kStore_surrounded : PySem.W.keepIn K (.ref f_Store_surrounded) = true)
    (awith_places_around : PySem.W.nsIn K mainGlobals "_with_places_around" = some (some (.ref f_with_places_around)))
    (lwith_places_around : K.lookup f_with_places_around = some ⟨ocwith_places_around, odwith_places_around, .func (PySem.W.fnOf "_with_places_around" "_with_places_around" (defArgs s_with_places_around) (defBody s_with_places_around) (defScope s_with_places_around) .none kVwith_places_around dcwith_places_around pmwith_places_around anwith_places_around cdwith_places_around ctwith_places_around), slwith_places_around⟩)
    (cwith_places_around : PySem.W.codeIn K cdwith_places_around "_with_places_around" = true)
    (kwith_places_around : PySem.W.keepIn K (.ref f_with_places_around) = true)
    (aWorld_init : PySem.W.findIn K (.ref C_World) "__init__" = some (some (.ref f_World_init)))
    (iWorld_init : PySem.W.isFn K (.ref f_World_init) = true)
    (lWorld_init : K.lookup f_World_init = some ⟨ocWorld_init, odWorld_init, .func (PySem.W.fnOf "__init__" "World.__init__" (defArgs s_World_init) (defBody s_World_init) (defScope s_World_init) .none kVWorld_init dcWorld_init pmWorld_init anWorld_init cdWorld_init ctWorld_init), slWorld_init⟩)
    (cWorld_init : PySem.W.codeIn K cdWorld_init "World.__init__" = true)
    (kWorld_init : PySem.W.keepIn K (.ref f_World_init) = true)
    (aWorld_paste : PySem.W.findIn K (.ref C_World) "paste" = some (some (.ref f_World_paste)))
    (iWorld_paste : PySem.W.isFn K (.ref f_World_paste) = true)
    (lWorld_paste : K.lookup f_World_paste = some ⟨ocWorld_paste, odWorld_paste, .func (PySem.W.fnOf "paste" "World.paste" (defArgs s_World_paste) (defBody s_World_paste) (defScope s_World_paste) .none kVWorld_paste dcWorld_paste pmWorld_paste anWorld_paste cdWorld_paste ctWorld_paste), slWorld_paste⟩)
    (cWorld_paste : PySem.W.codeIn K cdWorld_paste "World.paste" = true)
    (kWorld_paste : PySem.W.keepIn K (.ref f_World_paste) = true)
    (aWorld_leap : PySem.W.findIn K (.ref C_World) "leap" = some (some (.ref f_World_leap)))
    (iWorld_leap : PySem.W.isFn K (.ref f_World_leap) = true)
    (lWorld_leap : K.lookup f_World_leap = some ⟨ocWorld_leap, odWorld_leap, .func (PySem.W.fnOf "leap" "World.leap" (defArgs s_World_leap) (defBody s_World_leap) (defScope s_World_leap) .none kVWorld_leap dcWorld_leap pmWorld_leap anWorld_leap cdWorld_leap ctWorld_leap), slWorld_leap⟩)
    (cWorld_leap : PySem.W.codeIn K cdWorld_leap "World.leap" = true)
    (kWorld_leap : PySem.W.keepIn K (.ref f_World_leap) = true)
    (aWorld_tidy : PySem.W.findIn K (.ref C_World) "tidy" = some (some (.ref f_World_tidy)))
    (iWorld_tidy : PySem.W.isFn K (.ref f_World_tidy) = true)
    (lWorld_tidy : K.lookup f_World_tidy = some ⟨ocWorld_tidy, odWorld_tidy, .func (PySem.W.fnOf "tidy" "World.tidy" (defArgs s_World_tidy) (defBody s_World_tidy) (defScope s_World_tidy) .none kVWorld_tidy dcWorld_tidy pmWorld_tidy anWorld_tidy cdWorld_tidy ctWorld_tidy), slWorld_tidy⟩)
    (cWorld_tidy : PySem.W.codeIn K cdWorld_tidy "World.tidy" = true)
    (kWorld_tidy : PySem.W.keepIn K (.ref f_World_tidy) = true)
    (aWorld_count : PySem.W.findIn K (.ref C_World) "count" = some (some (.ref f_World_count)))
    (iWorld_count : PySem.W.isFn K (.ref f_World_count) = true)
    (lWorld_count : K.lookup f_World_count = some ⟨ocWorld_count, odWorld_count, .func (PySem.W.fnOf "count" "World.count" (defArgs s_World_count) (defBody s_World_count) (defScope s_World_count) .none kVWorld_count dcWorld_count pmWorld_count anWorld_count cdWorld_count ctWorld_count), slWorld_count⟩)
    (cWorld_count : PySem.W.codeIn K cdWorld_count "World.count" = true)
    (kWorld_count : PySem.W.keepIn K (.ref f_World_count) = true)
    (aWorld_cells : PySem.W.findIn K (.ref C_World) "cells" = some (some (.ref f_World_cells)))
    (iWorld_cells : PySem.W.isFn K (.ref f_World_cells) = true)
    (lWorld_cells : K.lookup f_World_cells = some ⟨ocWorld_cells, odWorld_cells, .func (PySem.W.fnOf "cells" "World.cells" (defArgs s_World_cells) (defBody s_World_cells) (defScope s_World_cells) .none kVWorld_cells dcWorld_cells pmWorld_cells anWorld_cells cdWorld_cells ctWorld_cells), slWorld_cells⟩)
    (cWorld_cells : PySem.W.codeIn K cdWorld_cells "World.cells" = true)
    (kWorld_cells : PySem.W.keepIn K (.ref f_World_cells) = true)
    (aWorld_cells_of_blocks : PySem.W.findIn K (.ref C_World) "_cells_of_blocks" = some (some (.ref f_World_cells_of_blocks)))
    (iWorld_cells_of_blocks : PySem.W.isFn K (.ref f_World_cells_of_blocks) = true)
    (lWorld_cells_of_blocks : K.lookup f_World_cells_of_blocks = some ⟨ocWorld_cells_of_blocks, odWorld_cells_of_blocks, .func (PySem.W.fnOf "_cells_of_blocks" "World._cells_of_blocks" (defArgs s_World_cells_of_blocks) (defBody s_World_cells_of_blocks) (defScope s_World_cells_of_blocks) .none kVWorld_cells_of_blocks dcWorld_cells_of_blocks pmWorld_cells_of_blocks anWorld_cells_of_blocks cdWorld_cells_of_blocks ctWorld_cells_of_blocks), slWorld_cells_of_blocks⟩)
    (cWorld_cells_of_blocks : PySem.W.codeIn K cdWorld_cells_of_blocks "World._cells_of_blocks" = true)
    (kWorld_cells_of_blocks : PySem.W.keepIn K (.ref f_World_cells_of_blocks) = true)
    (aRule_init : PySem.W.findIn K (.ref C_Rule) "__init__" = some (some (.ref f_Rule_init)))
    (iRule_init : PySem.W.isFn K (.ref f_Rule_init) = true)
    (lRule_init : K.lookup f_Rule_init = some ⟨ocRule_init, odRule_init, .func (PySem.W.fnOf "__init__" "Rule.__init__" (defArgs s_Rule_init) (defBody s_Rule_init) (defScope s_Rule_init) .none kVRule_init dcRule_init pmRule_init anRule_init cdRule_init ctRule_init), slRule_init⟩)
    (cRule_init : PySem.W.codeIn K cdRule_init "Rule.__init__" = true)
    (kRule_init : PySem.W.keepIn K (.ref f_Rule_init) = true)
    (alaw_cell : PySem.W.nsIn K mainGlobals "_law_cell" = some (some (.ref f_law_cell)))
    (llaw_cell : K.lookup f_law_cell = some ⟨oclaw_cell, odlaw_cell, .func (PySem.W.fnOf "_law_cell" "_law_cell" (defArgs s_law_cell) (defBody s_law_cell) (defScope s_law_cell) .none kVlaw_cell dclaw_cell pmlaw_cell anlaw_cell cdlaw_cell ctlaw_cell), sllaw_cell⟩)
    (claw_cell : PySem.W.codeIn K cdlaw_cell "_law_cell" = true)
    (klaw_cell : PySem.W.keepIn K (.ref f_law_cell) = true)
    (alaw_row : PySem.W.nsIn K mainGlobals "_law_row" = some (some (.ref f_law_row)))
    (llaw_row : K.lookup f_law_row = some ⟨oclaw_row, odlaw_row, .func (PySem.W.fnOf "_law_row" "_law_row" (defArgs s_law_row) (defBody s_law_row) (defScope s_law_row) .none kVlaw_row dclaw_row pmlaw_row anlaw_row cdlaw_row ctlaw_row), sllaw_row⟩)
    (claw_row : PySem.W.codeIn K cdlaw_row "_law_row" = true)
    (klaw_row : PySem.W.keepIn K (.ref f_law_row) = true)
    (alaw_numbers : PySem.W.nsIn K mainGlobals "_law_numbers" = some (some (.ref f_law_numbers)))
    (llaw_numbers : K.lookup f_law_numbers = some ⟨oclaw_numbers, odlaw_numbers, .func (PySem.W.fnOf "_law_numbers" "_law_numbers" (defArgs s_law_numbers) (defBody s_law_numbers) (defScope s_law_numbers) .none kVlaw_numbers dclaw_numbers pmlaw_numbers anlaw_numbers cdlaw_numbers ctlaw_numbers), sllaw_numbers⟩)
    (claw_numbers : PySem.W.codeIn K cdlaw_numbers "_law_numbers" = true)
    (klaw_numbers : PySem.W.keepIn K (.ref f_law_numbers) = true)
    (alaw_some : PySem.W.nsIn K mainGlobals "_law_some" = some (some (.ref f_law_some)))
    (llaw_some : K.lookup f_law_some = some ⟨oclaw_some, odlaw_some, .func (PySem.W.fnOf "_law_some" "_law_some" (defArgs s_law_some) (defBody s_law_some) (defScope s_law_some) .none kVlaw_some dclaw_some pmlaw_some anlaw_some cdlaw_some ctlaw_some), sllaw_some⟩)
    (claw_some : PySem.W.codeIn K cdlaw_some "_law_some" = true)
    (klaw_some : PySem.W.keepIn K (.ref f_law_some) = true)
    (alaw_image : PySem.W.nsIn K mainGlobals "_law_image" = some (some (.ref f_law_image)))
    (llaw_image : K.lookup f_law_image = some ⟨oclaw_image, odlaw_image, .func (PySem.W.fnOf "_law_image" "_law_image" (defArgs s_law_image) (defBody s_law_image) (defScope s_law_image) .none kVlaw_image dclaw_image pmlaw_image anlaw_image cdlaw_image ctlaw_image), sllaw_image⟩)
    (claw_image : PySem.W.codeIn K cdlaw_image "_law_image" = true)
    (klaw_image : PySem.W.keepIn K (.ref f_law_image) = true)
    (alaw : PySem.W.nsIn K mainGlobals "law" = some (some (.ref f_law)))
    (llaw : K.lookup f_law = some ⟨oclaw, odlaw, .func (PySem.W.fnOf "law" "law" (defArgs s_law) (defBody s_law) (defScope s_law) .none kVlaw dclaw pmlaw anlaw cdlaw ctlaw), sllaw⟩)
    (claw : PySem.W.codeIn K cdlaw "law" = true)
    (klaw : PySem.W.keepIn K (.ref f_law) = true)
    (zdivmod : PySem.W.nsIn K mainGlobals "divmod" = some none)
    (zrange : PySem.W.nsIn K mainGlobals "range" = some none)
    (zlen : PySem.W.nsIn K mainGlobals "len" = some none)
    (ztuple : PySem.W.nsIn K mainGlobals "tuple" = some none)
    (zenumerate : PySem.W.nsIn K mainGlobals "enumerate" = some none)
    (zlist : PySem.W.nsIn K mainGlobals "list" = some none)
    (zmax : PySem.W.nsIn K mainGlobals "max" = some none)
    (zsum : PySem.W.nsIn K mainGlobals "sum" = some none)
    (zsorted : PySem.W.nsIn K mainGlobals "sorted" = some none)
    (zset : PySem.W.nsIn K mainGlobals "set" = some none)
    (zint : PySem.W.nsIn K mainGlobals "int" = some none)
    (zabs : PySem.W.nsIn K mainGlobals "abs" = some none)
    (xSIDE : PySem.W.nsIn K mainGlobals "SIDE" = some (some (.int (32) uSIDE)))
    (xTOP : PySem.W.nsIn K mainGlobals "TOP" = some (some (.int (5) uTOP))) :
    ∃ fd : FuncData, (∀ (s : Shared) (v : Value), BindsTo s fd ⟨[v], []⟩ [("script", v)]) ∧ ∀ base : Heap, K.In base → base.Ns mainGlobals mg → FnOk l.prog w K mg base CX0 10 fa fd ["script"] (sp_law K) := by
  have e := hfa.symm.trans (PySem.W.mg_of X G alaw)
  cases e
  have F_sums_of := fun_mk (st := s_sums_of) lsums_of csums_of ksums_of
  have b_sums_of := F_sums_of.binds (ps := ["left", "alive", "right"]) fun _ _ _ _ _ _ us hl => match us, hl with | [_, _, _], _ => rfl
  have F_totals_of := fun_mk (st := s_totals_of) ltotals_of ctotals_of ktotals_of
  have b_totals_of := F_totals_of.binds (ps := ["above", "here", "below"]) fun _ _ _ _ _ _ us hl => match us, hl with | [_, _, _], _ => rfl
  have F_next_strip := fun_mk (st := s_next_strip) lnext_strip cnext_strip knext_strip
  have b_next_strip := F_next_strip.binds (ps := ["alive", "totals", "rule"]) fun _ _ _ _ _ _ us hl => match us, hl with | [_, _, _], _ => rfl
  have F_place_of := fun_mk (st := s_place_of) lplace_of cplace_of kplace_of
  have b_place_of := F_place_of.binds (ps := ["row", "column"]) fun _ _ _ _ _ _ us hl => match us, hl with | [_, _], _ => rfl
  have F_blocks_of := fun_mk (st := s_blocks_of) lblocks_of cblocks_of kblocks_of
  have b_blocks_of := F_blocks_of.binds (ps := ["cells"]) fun _ _ _ _ _ _ us hl => match us, hl with | [_], _ => rfl
  have F_block_cells := fun_mk (st := s_block_cells) lblock_cells cblock_cells kblock_cells
  have b_block_cells := F_block_cells.binds (ps := ["block"]) fun _ _ _ _ _ _ us hl => match us, hl with | [_], _ => rfl
  have F_block_count := fun_mk (st := s_block_count) lblock_count cblock_count kblock_count
  have b_block_count := F_block_count.binds (ps := ["block"]) fun _ _ _ _ _ _ us hl => match us, hl with | [_], _ => rfl
  have F_block_changed := fun_mk (st := s_block_changed) lblock_changed cblock_changed kblock_changed
  have b_block_changed := F_block_changed.binds (ps := ["block", "other", "mode"]) fun _ _ _ _ _ _ us hl => match us, hl with | [_, _, _], _ => rfl
  have F_next_block := fun_mk (st := s_next_block) lnext_block cnext_block knext_block
  have b_next_block := F_next_block.binds (ps := ["block", "rule"]) fun _ _ _ _ _ _ us hl => match us, hl with | [_, _], _ => rfl
  have F_Blocks_init := fun_mk (st := s_Blocks_init) lBlocks_init cBlocks_init kBlocks_init
  have b_Blocks_init := F_Blocks_init.binds (ps := ["self", "rule"]) fun _ _ _ _ _ _ us hl => match us, hl with | [_, _], _ => rfl
  have F_Blocks_cut := fun_mk (st := s_Blocks_cut) lBlocks_cut cBlocks_cut kBlocks_cut
  have b_Blocks_cut := F_Blocks_cut.binds (ps := ["self", "level", "block", "row", "column"]) fun _ _ _ _ _ _ us hl => match us, hl with | [_, _, _, _, _], _ => rfl
  have F_Blocks_quarters := fun_mk (st := s_Blocks_quarters) lBlocks_quarters cBlocks_quarters kBlocks_quarters
  have b_Blocks_quarters := F_Blocks_quarters.binds (ps := ["self", "level", "block"]) fun _ _ _ _ _ _ us hl => match us, hl with | [_, _, _], _ => rfl
  have F_Blocks_put_together := fun_mk (st := s_Blocks_put_together) lBlocks_put_together cBlocks_put_together kBlocks_put_together
  have b_Blocks_put_together := F_Blocks_put_together.binds (ps := ["self", "level", "a", "b", "c", "d"]) fun _ _ _ _ _ _ us hl => match us, hl with | [_, _, _, _, _, _], _ => rfl
  have F_Blocks_centre := fun_mk (st := s_Blocks_centre) lBlocks_centre cBlocks_centre kBlocks_centre
  have b_Blocks_centre := F_Blocks_centre.binds (ps := ["self", "level", "block"]) fun _ _ _ _ _ _ us hl => match us, hl with | [_, _, _], _ => rfl
  have F_Blocks_centre_after := fun_mk (st := s_Blocks_centre_after) lBlocks_centre_after cBlocks_centre_after kBlocks_centre_after
  have b_Blocks_centre_after := F_Blocks_centre_after.binds (ps := ["self", "level", "block", "generations"]) fun _ _ _ _ _ _ us hl => match us, hl with | [_, _, _, _], _ => rfl
  have F_full_block := fun_mk (st := s_full_block) lfull_block cfull_block kfull_block
  have b_full_block := F_full_block.binds (ps := ["level"]) fun _ _ _ _ _ _ us hl => match us, hl with | [_], _ => rfl
  have F_Store_init := fun_mk (st := s_Store_init) lStore_init cStore_init kStore_init
  have b_Store_init := F_Store_init.binds (ps := ["self", "rule"]) fun _ _ _ _ _ _ us hl => match us, hl with | [_, _], _ => rfl
  have F_Store_joined := fun_mk (st := s_Store_joined) lStore_joined cStore_joined kStore_joined
  have b_Store_joined := F_Store_joined.binds (ps := ["self", "a", "b", "c", "d"]) fun _ _ _ _ _ _ us hl => match us, hl with | [_, _, _, _, _], _ => rfl
  have F_Store_small := fun_mk (st := s_Store_small) lStore_small cStore_small kStore_small
  have b_Store_small := F_Store_small.binds (ps := ["self", "level", "block"]) fun _ _ _ _ _ _ us hl => match us, hl with | [_, _, _], _ => rfl
  have F_Store_new_square := fun_mk (st := s_Store_new_square) lStore_new_square cStore_new_square kStore_new_square
  have b_Store_new_square := F_Store_new_square.binds (ps := ["self", "level", "count", "block", "parts"]) fun _ _ _ _ _ _ us hl => match us, hl with | [_, _, _, _, _], _ => rfl
  have F_Store_block := fun_mk (st := s_Store_block) lStore_block cStore_block kStore_block
  have b_Store_block := F_Store_block.binds (ps := ["self", "square"]) fun _ _ _ _ _ _ us hl => match us, hl with | [_, _], _ => rfl
  have F_Store_parts := fun_mk (st := s_Store_parts) lStore_parts cStore_parts kStore_parts
  have b_Store_parts := F_Store_parts.binds (ps := ["self", "square"]) fun _ _ _ _ _ _ us hl => match us, hl with | [_, _], _ => rfl
  have F_Store_empty := fun_mk (st := s_Store_empty) lStore_empty cStore_empty kStore_empty
  have b_Store_empty := F_Store_empty.binds (ps := ["self", "level"]) fun _ _ _ _ _ _ us hl => match us, hl with | [_, _], _ => rfl
  have F_Store_future := fun_mk (st := s_Store_future) lStore_future cStore_future kStore_future
  have b_Store_future := F_Store_future.binds (ps := ["self", "square", "j"]) fun _ _ _ _ _ _ us hl => match us, hl with | [_, _, _], _ => rfl
  have F_Store_new_future := fun_mk (st := s_Store_new_future) lStore_new_future cStore_new_future kStore_new_future
  have b_Store_new_future := F_Store_new_future.binds (ps := ["self", "square", "j"]) fun _ _ _ _ _ _ us hl => match us, hl with | [_, _, _], _ => rfl
  have F_Store_at_level := fun_mk (st := s_Store_at_level) lStore_at_level cStore_at_level kStore_at_level
  have b_Store_at_level := F_Store_at_level.binds (ps := ["self", "layout", "level", "wanted"]) fun _ _ _ _ _ _ us hl => match us, hl with | [_, _, _, _], _ => rfl
  have F_Store_raised := fun_mk (st := s_Store_raised) lStore_raised cStore_raised kStore_raised
  have b_Store_raised := F_Store_raised.binds (ps := ["self", "layout", "level"]) fun _ _ _ _ _ _ us hl => match us, hl with | [_, _, _], _ => rfl
  have F_Store_lowered := fun_mk (st := s_Store_lowered) lStore_lowered cStore_lowered kStore_lowered
  have b_Store_lowered := F_Store_lowered.binds (ps := ["self", "layout"]) fun _ _ _ _ _ _ us hl => match us, hl with | [_, _], _ => rfl
  have F_Store_aged := fun_mk (st := s_Store_aged) lStore_aged cStore_aged kStore_aged
  have b_Store_aged := F_Store_aged.binds (ps := ["self", "layout", "level", "j"]) fun _ _ _ _ _ _ us hl => match us, hl with | [_, _, _, _], _ => rfl
  have F_Store_surrounded := fun_mk (st := s_Store_surrounded) lStore_surrounded cStore_surrounded kStore_surrounded
  have b_Store_surrounded := F_Store_surrounded.binds (ps := ["self", "parts", "row", "column", "none"]) fun _ _ _ _ _ _ us hl => match us, hl with | [_, _, _, _, _], _ => rfl
  have F_with_places_around := fun_mk (st := s_with_places_around) lwith_places_around cwith_places_around kwith_places_around
  have b_with_places_around := F_with_places_around.binds (ps := ["layout"]) fun _ _ _ _ _ _ us hl => match us, hl with | [_], _ => rfl
  have F_World_init := fun_mk (st := s_World_init) lWorld_init cWorld_init kWorld_init
  have b_World_init := F_World_init.binds (ps := ["self", "rule"]) fun _ _ _ _ _ _ us hl => match us, hl with | [_, _], _ => rfl
  have F_World_paste := fun_mk (st := s_World_paste) lWorld_paste cWorld_paste kWorld_paste
  have b_World_paste := F_World_paste.binds (ps := ["self", "cells", "row", "column", "mode"]) fun _ _ _ _ _ _ us hl => match us, hl with | [_, _, _, _, _], _ => rfl
  have F_World_leap := fun_mk (st := s_World_leap) lWorld_leap cWorld_leap kWorld_leap
  have b_World_leap := F_World_leap.binds (ps := ["self", "generations"]) fun _ _ _ _ _ _ us hl => match us, hl with | [_, _], _ => rfl
  have F_World_tidy := fun_mk (st := s_World_tidy) lWorld_tidy cWorld_tidy kWorld_tidy
  have b_World_tidy := F_World_tidy.binds (ps := ["self"]) fun _ _ _ _ _ _ us hl => match us, hl with | [_], _ => rfl
  have F_World_count := fun_mk (st := s_World_count) lWorld_count cWorld_count kWorld_count
  have b_World_count := F_World_count.binds (ps := ["self"]) fun _ _ _ _ _ _ us hl => match us, hl with | [_], _ => rfl
  have F_World_cells := fun_mk (st := s_World_cells) lWorld_cells cWorld_cells kWorld_cells
  have b_World_cells := F_World_cells.binds (ps := ["self"]) fun _ _ _ _ _ _ us hl => match us, hl with | [_], _ => rfl
  have F_World_cells_of_blocks := fun_mk (st := s_World_cells_of_blocks) lWorld_cells_of_blocks cWorld_cells_of_blocks kWorld_cells_of_blocks
  have b_World_cells_of_blocks := F_World_cells_of_blocks.binds (ps := ["self", "places"]) fun _ _ _ _ _ _ us hl => match us, hl with | [_, _], _ => rfl
  have F_Rule_init := fun_mk (st := s_Rule_init) lRule_init cRule_init kRule_init
  have b_Rule_init := F_Rule_init.binds (ps := ["self", "births", "survival"]) fun _ _ _ _ _ _ us hl => match us, hl with | [_, _, _], _ => rfl
  have F_law_cell := fun_mk (st := s_law_cell) llaw_cell claw_cell klaw_cell
  have b_law_cell := F_law_cell.binds (ps := ["script", "k"]) fun _ _ _ _ _ _ us hl => match us, hl with | [_, _], _ => rfl
  have F_law_row := fun_mk (st := s_law_row) llaw_row claw_row klaw_row
  have b_law_row := F_law_row.binds (ps := ["cell", "count", "bound"]) fun _ _ _ _ _ _ us hl => match us, hl with | [_, _, _], _ => rfl
  have F_law_numbers := fun_mk (st := s_law_numbers) llaw_numbers claw_numbers klaw_numbers
  have b_law_numbers := F_law_numbers.binds (ps := ["cell"]) fun _ _ _ _ _ _ us hl => match us, hl with | [_], _ => rfl
  have F_law_some := fun_mk (st := s_law_some) llaw_some claw_some klaw_some
  have b_law_some := F_law_some.binds (ps := ["cell", "count", "height", "width"]) fun _ _ _ _ _ _ us hl => match us, hl with | [_, _, _, _], _ => rfl
  have F_law_image := fun_mk (st := s_law_image) llaw_image claw_image klaw_image
  have b_law_image := F_law_image.binds (ps := ["cells", "turns", "flipped", "r", "c"]) fun _ _ _ _ _ _ us hl => match us, hl with | [_, _, _, _, _], _ => rfl
  have F_law := fun_mk (st := s_law) llaw claw klaw
  have b_law := F_law.binds (ps := ["script"]) fun _ _ _ _ _ _ us hl => match us, hl with | [_], _ => rfl
  let T : Txt K mg := {
    C_Blocks := C_Blocks,
    g_Blocks := PySem.W.mg_of X G aCBlocks,
    cl_Blocks := ⟨pgBlocks, hdBlocks, poBlocks, saBlocks⟩,
    na_Blocks__rule := nBlocks_rule,
    na_Blocks__full := nBlocks_full,
    C_Store := C_Store,
    g_Store := PySem.W.mg_of X G aCStore,
    cl_Store := ⟨pgStore, hdStore, poStore, saStore⟩,
    na_Store__rule := nStore_rule,
    na_Store__blocks := nStore_blocks,
    na_Store__levels := nStore_levels,
    na_Store__counts := nStore_counts,
    na_Store__bits := nStore_bits,
    na_Store__parts := nStore_parts,
    na_Store__small := nStore_small,
    na_Store__large := nStore_large,
    na_Store__empty := nStore_empty,
    na_Store__futures := nStore_futures,
    C_World := C_World,
    g_World := PySem.W.mg_of X G aCWorld,
    cl_World := ⟨pgWorld, hdWorld, poWorld, saWorld⟩,
    na_World_generation := nWorldgeneration,
    na_World__rule := nWorld_rule,
    na_World__store := nWorld_store,
    na_World__living := nWorld_living,
    C_Rule := C_Rule,
    g_Rule := PySem.W.mg_of X G aCRule,
    cl_Rule := ⟨pgRule, hdRule, poRule, saRule⟩,
    na_Rule_births := nRulebirths,
    na_Rule_survival := nRulesurvival,
    f_sums_of := f_sums_of,
    d_sums_of := _,
    F_sums_of := F_sums_of,
    b_sums_of := b_sums_of,
    g_sums_of := PySem.W.mg_of X G asums_of,
    f_totals_of := f_totals_of,
    d_totals_of := _,
    F_totals_of := F_totals_of,
    b_totals_of := b_totals_of,
    g_totals_of := PySem.W.mg_of X G atotals_of,
    f_next_strip := f_next_strip,
    d_next_strip := _,
    F_next_strip := F_next_strip,
    b_next_strip := b_next_strip,
    g_next_strip := PySem.W.mg_of X G anext_strip,
    f_place_of := f_place_of,
    d_place_of := _,
    F_place_of := F_place_of,
    b_place_of := b_place_of,
    g_place_of := PySem.W.mg_of X G aplace_of,
    f_blocks_of := f_blocks_of,
    d_blocks_of := _,
    F_blocks_of := F_blocks_of,
    b_blocks_of := b_blocks_of,
    g_blocks_of := PySem.W.mg_of X G ablocks_of,
    f_block_cells := f_block_cells,
    d_block_cells := _,
    F_block_cells := F_block_cells,
    b_block_cells := b_block_cells,
    g_block_cells := PySem.W.mg_of X G ablock_cells,
    f_block_count := f_block_count,
    d_block_count := _,
    F_block_count := F_block_count,
    b_block_count := b_block_count,
    g_block_count := PySem.W.mg_of X G ablock_count,
    f_block_changed := f_block_changed,
    d_block_changed := _,
    F_block_changed := F_block_changed,
    b_block_changed := b_block_changed,
    g_block_changed := PySem.W.mg_of X G ablock_changed,
    f_next_block := f_next_block,
    d_next_block := _,
    F_next_block := F_next_block,
    b_next_block := b_next_block,
    g_next_block := PySem.W.mg_of X G anext_block,
    f_Blocks_init := f_Blocks_init,
    d_Blocks_init := _,
    F_Blocks_init := F_Blocks_init,
    b_Blocks_init := b_Blocks_init,
    M_Blocks := ⟨mkBlocks, aBlocks_init, iBlocks_init, kcBlocks⟩,
    f_Blocks_cut := f_Blocks_cut,
    d_Blocks_cut := _,
    F_Blocks_cut := F_Blocks_cut,
    b_Blocks_cut := b_Blocks_cut,
    m_Blocks_cut := ⟨aBlocks_cut, iBlocks_cut, kBlocks_cut⟩,
    f_Blocks_quarters := f_Blocks_quarters,
    d_Blocks_quarters := _,
    F_Blocks_quarters := F_Blocks_quarters,
    b_Blocks_quarters := b_Blocks_quarters,
    m_Blocks_quarters := ⟨aBlocks_quarters, iBlocks_quarters, kBlocks_quarters⟩,
    f_Blocks_put_together := f_Blocks_put_together,
    d_Blocks_put_together := _,
    F_Blocks_put_together := F_Blocks_put_together,
    b_Blocks_put_together := b_Blocks_put_together,
    m_Blocks_put_together := ⟨aBlocks_put_together, iBlocks_put_together, kBlocks_put_together⟩,
    f_Blocks_centre := f_Blocks_centre,
    d_Blocks_centre := _,
    F_Blocks_centre := F_Blocks_centre,
    b_Blocks_centre := b_Blocks_centre,
    m_Blocks_centre := ⟨aBlocks_centre, iBlocks_centre, kBlocks_centre⟩,
    f_Blocks_centre_after := f_Blocks_centre_after,
    d_Blocks_centre_after := _,
    F_Blocks_centre_after := F_Blocks_centre_after,
    b_Blocks_centre_after := b_Blocks_centre_after,
    m_Blocks_centre_after := ⟨aBlocks_centre_after, iBlocks_centre_after, kBlocks_centre_after⟩,
    f_full_block := f_full_block,
    d_full_block := _,
    F_full_block := F_full_block,
    b_full_block := b_full_block,
    g_full_block := PySem.W.mg_of X G afull_block,
    f_Store_init := f_Store_init,
    d_Store_init := _,
    F_Store_init := F_Store_init,
    b_Store_init := b_Store_init,
    M_Store := ⟨mkStore, aStore_init, iStore_init, kcStore⟩,
    f_Store_joined := f_Store_joined,
    d_Store_joined := _,
    F_Store_joined := F_Store_joined,
    b_Store_joined := b_Store_joined,
    m_Store_joined := ⟨aStore_joined, iStore_joined, kStore_joined⟩,
    f_Store_small := f_Store_small,
    d_Store_small := _,
    F_Store_small := F_Store_small,
    b_Store_small := b_Store_small,
    m_Store_small := ⟨aStore_small, iStore_small, kStore_small⟩,
    f_Store_new_square := f_Store_new_square,
    d_Store_new_square := _,
    F_Store_new_square := F_Store_new_square,
    b_Store_new_square := b_Store_new_square,
    m_Store_new_square := ⟨aStore_new_square, iStore_new_square, kStore_new_square⟩,
    f_Store_block := f_Store_block,
    d_Store_block := _,
    F_Store_block := F_Store_block,
    b_Store_block := b_Store_block,
    m_Store_block := ⟨aStore_block, iStore_block, kStore_block⟩,
    f_Store_parts := f_Store_parts,
    d_Store_parts := _,
    F_Store_parts := F_Store_parts,
    b_Store_parts := b_Store_parts,
    m_Store_parts := ⟨aStore_parts, iStore_parts, kStore_parts⟩,
    f_Store_empty := f_Store_empty,
    d_Store_empty := _,
    F_Store_empty := F_Store_empty,
    b_Store_empty := b_Store_empty,
    m_Store_empty := ⟨aStore_empty, iStore_empty, kStore_empty⟩,
    f_Store_future := f_Store_future,
    d_Store_future := _,
    F_Store_future := F_Store_future,
    b_Store_future := b_Store_future,
    m_Store_future := ⟨aStore_future, iStore_future, kStore_future⟩,
    f_Store_new_future := f_Store_new_future,
    d_Store_new_future := _,
    F_Store_new_future := F_Store_new_future,
    b_Store_new_future := b_Store_new_future,
    m_Store_new_future := ⟨aStore_new_future, iStore_new_future, kStore_new_future⟩,
    f_Store_at_level := f_Store_at_level,
    d_Store_at_level := _,
    F_Store_at_level := F_Store_at_level,
    b_Store_at_level := b_Store_at_level,
    m_Store_at_level := ⟨aStore_at_level, iStore_at_level, kStore_at_level⟩,
    f_Store_raised := f_Store_raised,
    d_Store_raised := _,
    F_Store_raised := F_Store_raised,
    b_Store_raised := b_Store_raised,
    m_Store_raised := ⟨aStore_raised, iStore_raised, kStore_raised⟩,
    f_Store_lowered := f_Store_lowered,
    d_Store_lowered := _,
    F_Store_lowered := F_Store_lowered,
    b_Store_lowered := b_Store_lowered,
    m_Store_lowered := ⟨aStore_lowered, iStore_lowered, kStore_lowered⟩,
    f_Store_aged := f_Store_aged,
    d_Store_aged := _,
    F_Store_aged := F_Store_aged,
    b_Store_aged := b_Store_aged,
    m_Store_aged := ⟨aStore_aged, iStore_aged, kStore_aged⟩,
    f_Store_surrounded := f_Store_surrounded,
    d_Store_surrounded := _,
    F_Store_surrounded := F_Store_surrounded,
    b_Store_surrounded := b_Store_surrounded,
    m_Store_surrounded := ⟨aStore_surrounded, iStore_surrounded, kStore_surrounded⟩,
    f_with_places_around := f_with_places_around,
    d_with_places_around := _,
    F_with_places_around := F_with_places_around,
    b_with_places_around := b_with_places_around,
    g_with_places_around := PySem.W.mg_of X G awith_places_around,
    f_World_init := f_World_init,
    d_World_init := _,
    F_World_init := F_World_init,
    b_World_init := b_World_init,
    M_World := ⟨mkWorld, aWorld_init, iWorld_init, kcWorld⟩,
    f_World_paste := f_World_paste,
    d_World_paste := _,
    F_World_paste := F_World_paste,
    b_World_paste := b_World_paste,
    m_World_paste := ⟨aWorld_paste, iWorld_paste, kWorld_paste⟩,
    f_World_leap := f_World_leap,
    d_World_leap := _,
    F_World_leap := F_World_leap,
    b_World_leap := b_World_leap,
    m_World_leap := ⟨aWorld_leap, iWorld_leap, kWorld_leap⟩,
    f_World_tidy := f_World_tidy,
    d_World_tidy := _,
    F_World_tidy := F_World_tidy,
    b_World_tidy := b_World_tidy,
    m_World_tidy := ⟨aWorld_tidy, iWorld_tidy, kWorld_tidy⟩,
    f_World_count := f_World_count,
    d_World_count := _,
    F_World_count := F_World_count,
    b_World_count := b_World_count,
    m_World_count := ⟨aWorld_count, iWorld_count, kWorld_count⟩,
    f_World_cells := f_World_cells,
    d_World_cells := _,
    F_World_cells := F_World_cells,
    b_World_cells := b_World_cells,
    m_World_cells := ⟨aWorld_cells, iWorld_cells, kWorld_cells⟩,
    f_World_cells_of_blocks := f_World_cells_of_blocks,
    d_World_cells_of_blocks := _,
    F_World_cells_of_blocks := F_World_cells_of_blocks,
    b_World_cells_of_blocks := b_World_cells_of_blocks,
    m_World_cells_of_blocks := ⟨aWorld_cells_of_blocks, iWorld_cells_of_blocks, kWorld_cells_of_blocks⟩,
    f_Rule_init := f_Rule_init,
    d_Rule_init := _,
    F_Rule_init := F_Rule_init,
    b_Rule_init := b_Rule_init,
    M_Rule := ⟨mkRule, aRule_init, iRule_init, kcRule⟩,
    f_law_cell := f_law_cell,
    d_law_cell := _,
    F_law_cell := F_law_cell,
    b_law_cell := b_law_cell,
    g_law_cell := PySem.W.mg_of X G alaw_cell,
    f_law_row := f_law_row,
    d_law_row := _,
    F_law_row := F_law_row,
    b_law_row := b_law_row,
    g_law_row := PySem.W.mg_of X G alaw_row,
    f_law_numbers := f_law_numbers,
    d_law_numbers := _,
    F_law_numbers := F_law_numbers,
    b_law_numbers := b_law_numbers,
    g_law_numbers := PySem.W.mg_of X G alaw_numbers,
    f_law_some := f_law_some,
    d_law_some := _,
    F_law_some := F_law_some,
    b_law_some := b_law_some,
    g_law_some := PySem.W.mg_of X G alaw_some,
    f_law_image := f_law_image,
    d_law_image := _,
    F_law_image := F_law_image,
    b_law_image := b_law_image,
    g_law_image := PySem.W.mg_of X G alaw_image,
    f_law := fa,
    d_law := _,
    F_law := F_law,
    b_law := b_law,
    g_law := PySem.W.mg_of X G alaw,
    z_divmod := PySem.W.mg_none_of X G zdivmod,
    z_range := PySem.W.mg_none_of X G zrange,
    z_len := PySem.W.mg_none_of X G zlen,
    z_tuple := PySem.W.mg_none_of X G ztuple,
    z_enumerate := PySem.W.mg_none_of X G zenumerate,
    z_list := PySem.W.mg_none_of X G zlist,
    z_max := PySem.W.mg_none_of X G zmax,
    z_sum := PySem.W.mg_none_of X G zsum,
    z_sorted := PySem.W.mg_none_of X G zsorted,
    z_set := PySem.W.mg_none_of X G zset,
    z_int := PySem.W.mg_none_of X G zint,
    z_abs := PySem.W.mg_none_of X G zabs,
    c_SIDE := ⟨_, PySem.W.mg_of X G xSIDE, ⟨_, rfl⟩⟩,
    c_TOP := ⟨_, PySem.W.mg_of X G xTOP, ⟨_, rfl⟩⟩ }
  exact ⟨_, fun s v => .of_eq rfl, fun base _ _ => ok_law T⟩
end My
open PySem PySem.W PyProof.Rows
set_option maxHeartbeats 0 in
theorem PySem.Challenge.cw_longlife_k14_whole_worlds_do_not_hang_on_holds : PySem.Challenge.rw_longlife_k14_whole_worlds_do_not_hang_on.Holds := by
  w_on; o_law; k_head; (case hw => w_witness2)
  k_fill
  refine L2.walk_of (l := PySem.Challenge.rw_longlife_k14_whole_worlds_do_not_hang_on) (n := 63) (k := 10) (x := "script") (CX := fun _ => L2.CX0) (sp := fun w => My.sp_law _) rfl (by decide) rfl ⟨rfl, by decide, by decide⟩ (fun w h Y => PySem.W.kIn_of Y) ?F (fun _ _ a ns hl _ hS => ⟨a, ns, rfl, hS, hl, fun _ => rfl⟩) (fun _ _ _ _ _ h => h)
  case F =>
    intro w mg fa h KX G hmg
    refine' My.all_mk KX G hmg ?aCBlocks ?pgBlocks ?hdBlocks ?poBlocks ?saBlocks ?mkBlocks ?kcBlocks ?nBlocks_rule ?nBlocks_full ?aCStore ?pgStore ?hdStore ?poStore ?saStore ?mkStore ?kcStore ?nStore_rule ?nStore_blocks ?nStore_levels ?nStore_counts ?nStore_bits ?nStore_parts ?nStore_small ?nStore_large ?nStore_empty ?nStore_futures ?aCWorld ?pgWorld ?hdWorld ?poWorld ?saWorld ?mkWorld ?kcWorld ?nWorldgeneration ?nWorld_rule ?nWorld_store ?nWorld_living ?aCRule ?pgRule ?hdRule ?poRule ?saRule ?mkRule ?kcRule ?nRulebirths ?nRulesurvival ?asums_of ?lsums_of ?csums_of ?ksums_of ?atotals_of ?ltotals_of ?ctotals_of ?ktotals_of ?anext_strip ?lnext_strip ?cnext_strip ?knext_strip ?aplace_of ?lplace_of ?cplace_of ?kplace_of ?ablocks_of ?lblocks_of ?cblocks_of ?kblocks_of ?ablock_cells ?lblock_cells ?cblock_cells ?kblock_cells ?ablock_count ?lblock_count ?cblock_count ?kblock_count ?ablock_changed ?lblock_changed ?cblock_changed ?kblock_changed ?anext_block ?lnext_block ?cnext_block ?knext_block ?aBlocks_init ?iBlocks_init ?lBlocks_init ?cBlocks_init ?kBlocks_init ?aBlocks_cut ?iBlocks_cut ?lBlocks_cut ?cBlocks_cut ?kBlocks_cut ?aBlocks_quarters ?iBlocks_quarters ?lBlocks_quarters ?cBlocks_quarters ?kBlocks_quarters ?aBlocks_put_together ?iBlocks_put_together ?lBlocks_put_together ?cBlocks_put_together ?kBlocks_put_together ?aBlocks_centre ?iBlocks_centre ?lBlocks_centre ?cBlocks_centre ?kBlocks_centre ?aBlocks_centre_after ?iBlocks_centre_after ?lBlocks_centre_after ?cBlocks_centre_after ?kBlocks_centre_after ?afull_block ?lfull_block ?cfull_block ?kfull_block ?aStore_init ?iStore_init ?lStore_init ?cStore_init ?kStore_init ?aStore_joined ?iStore_joined ?lStore_joined ?cStore_joined ?kStore_joined ?aStore_small ?iStore_small ?lStore_small ?cStore_small ?kStore_small ?aStore_new_square ?iStore_new_square ?lStore_new_square ?cStore_new_square ?kStore_new_square ?aStore_block ?iStore_block ?lStore_block ?cStore_block ?kStore_block ?aStore_parts ?iStore_parts ?lStore_parts ?cStore_parts ?kStore_parts ?aStore_empty ?iStore_empty ?lStore_empty ?cStore_empty ?kStore_empty ?aStore_future ?iStore_future ?lStore_future ?cStore_future ?kStore_future ?aStore_new_future ?iStore_new_future ?lStore_new_future ?cStore_new_future ?kStore_new_future ?aStore_at_level ?iStore_at_level ?lStore_at_level ?cStore_at_level ?kStore_at_level ?aStore_raised ?iStore_raised ?lStore_raised ?cStore_raised ?kStore_raised ?aStore_lowered ?iStore_lowered ?lStore_lowered ?cStore_lowered ?kStore_lowered ?aStore_aged ?iStore_aged ?lStore_aged ?cStore_aged ?kStore_aged ?aStore_surrounded ?iStore_surrounded ?lStore_surrounded ?cStore_surrounded ?kStore_surrounded ?awith_places_around ?lwith_places_around ?cwith_places_around ?kwith_places_around ?aWorld_init ?iWorld_init ?lWorld_init ?cWorld_init ?kWorld_init ?aWorld_paste ?iWorld_paste ?lWorld_paste ?cWorld_paste ?kWorld_paste ?aWorld_leap ?iWorld_leap ?lWorld_leap ?cWorld_leap ?kWorld_leap ?aWorld_tidy ?iWorld_tidy ?lWorld_tidy ?cWorld_tidy ?kWorld_tidy ?aWorld_count ?iWorld_count ?lWorld_count ?cWorld_count ?kWorld_count ?aWorld_cells ?iWorld_cells ?lWorld_cells ?cWorld_cells ?kWorld_cells ?aWorld_cells_of_blocks ?iWorld_cells_of_blocks ?lWorld_cells_of_blocks ?cWorld_cells_of_blocks ?kWorld_cells_of_blocks ?aRule_init ?iRule_init ?lRule_init ?cRule_init ?kRule_init ?alaw_cell ?llaw_cell ?claw_cell ?klaw_cell ?alaw_row ?llaw_row ?claw_row ?klaw_row ?alaw_numbers ?llaw_numbers ?claw_numbers ?klaw_numbers ?alaw_some ?llaw_some ?claw_some ?klaw_some ?alaw_image ?llaw_image ?claw_image ?klaw_image ?alaw ?llaw ?claw ?klaw ?zdivmod ?zrange ?zlen ?ztuple ?zenumerate ?zlist ?zmax ?zsum ?zsorted ?zset ?zint ?zabs ?xSIDE ?xTOP
    (case aCBlocks => k_is)
    (case pgBlocks => k_is)
    (case hdBlocks => k_is)
    (case poBlocks => k_is)
    (case saBlocks => k_is)
    (case mkBlocks => k_is)
    (case kcBlocks => k_is)
    (case nBlocks_rule => k_is)
    (case nBlocks_full => k_is)
    (case aCStore => k_is)
    (case pgStore => k_is)
    (case hdStore => k_is)
    (case poStore => k_is)
    (case saStore => k_is)
    (case mkStore => k_is)
    (case kcStore => k_is)
    (case nStore_rule => k_is)
    (case nStore_blocks => k_is)
    (case nStore_levels => k_is)
    (case nStore_counts => k_is)
    (case nStore_bits => k_is)
    (case nStore_parts => k_is)
    (case nStore_small => k_is)
    (case nStore_large => k_is)
    (case nStore_empty => k_is)
    (case nStore_futures => k_is)
    (case aCWorld => k_is)
    (case pgWorld => k_is)
    (case hdWorld => k_is)
    (case poWorld => k_is)
    (case saWorld => k_is)
    (case mkWorld => k_is)
    (case kcWorld => k_is)
    (case nWorldgeneration => k_is)
    (case nWorld_rule => k_is)
    (case nWorld_store => k_is)
    (case nWorld_living => k_is)
    (case aCRule => k_is)
    (case pgRule => k_is)
    (case hdRule => k_is)
    (case poRule => k_is)
    (case saRule => k_is)
    (case mkRule => k_is)
    (case kcRule => k_is)
    (case nRulebirths => k_is)
    (case nRulesurvival => k_is)
    (case asums_of => k_is)
    (case lsums_of => k_is)
    (case csums_of => k_is)
    (case ksums_of => k_is)
    (case atotals_of => k_is)
    (case ltotals_of => k_is)
    (case ctotals_of => k_is)
    (case ktotals_of => k_is)
    (case anext_strip => k_is)
    (case lnext_strip => k_is)
    (case cnext_strip => k_is)
    (case knext_strip => k_is)
    (case aplace_of => k_is)
    (case lplace_of => k_is)
    (case cplace_of => k_is)
    (case kplace_of => k_is)
    (case ablocks_of => k_is)
    (case lblocks_of => k_is)
    (case cblocks_of => k_is)
    (case kblocks_of => k_is)
    (case ablock_cells => k_is)
    (case lblock_cells => k_is)
    (case cblock_cells => k_is)
    (case kblock_cells => k_is)
    (case ablock_count => k_is)
    (case lblock_count => k_is)
    (case cblock_count => k_is)
    (case kblock_count => k_is)
    (case ablock_changed => k_is)
    (case lblock_changed => k_is)
    (case cblock_changed => k_is)
    (case kblock_changed => k_is)
    (case anext_block => k_is)
    (case lnext_block => k_is)
    (case cnext_block => k_is)
    (case knext_block => k_is)
    (case aBlocks_init => k_is)
    (case iBlocks_init => k_is)
    (case lBlocks_init => k_is)
    (case cBlocks_init => k_is)
    (case kBlocks_init => k_is)
    (case aBlocks_cut => k_is)
    (case iBlocks_cut => k_is)
    (case lBlocks_cut => k_is)
    (case cBlocks_cut => k_is)
    (case kBlocks_cut => k_is)
    (case aBlocks_quarters => k_is)
    (case iBlocks_quarters => k_is)
    (case lBlocks_quarters => k_is)
    (case cBlocks_quarters => k_is)
    (case kBlocks_quarters => k_is)
    (case aBlocks_put_together => k_is)
    (case iBlocks_put_together => k_is)
    (case lBlocks_put_together => k_is)
    (case cBlocks_put_together => k_is)
    (case kBlocks_put_together => k_is)
    (case aBlocks_centre => k_is)
    (case iBlocks_centre => k_is)
    (case lBlocks_centre => k_is)
    (case cBlocks_centre => k_is)
    (case kBlocks_centre => k_is)
    (case aBlocks_centre_after => k_is)
    (case iBlocks_centre_after => k_is)
    (case lBlocks_centre_after => k_is)
    (case cBlocks_centre_after => k_is)
    (case kBlocks_centre_after => k_is)
    (case afull_block => k_is)
    (case lfull_block => k_is)
    (case cfull_block => k_is)
    (case kfull_block => k_is)
    (case aStore_init => k_is)
    (case iStore_init => k_is)
    (case lStore_init => k_is)
    (case cStore_init => k_is)
    (case kStore_init => k_is)
    (case aStore_joined => k_is)
    (case iStore_joined => k_is)
    (case lStore_joined => k_is)
    (case cStore_joined => k_is)
    (case kStore_joined => k_is)
    (case aStore_small => k_is)
    (case iStore_small => k_is)
    (case lStore_small => k_is)
    (case cStore_small => k_is)
    (case kStore_small => k_is)
    (case aStore_new_square => k_is)
    (case iStore_new_square => k_is)
    (case lStore_new_square => k_is)
    (case cStore_new_square => k_is)
    (case kStore_new_square => k_is)
    (case aStore_block => k_is)
    (case iStore_block => k_is)
    (case lStore_block => k_is)
    (case cStore_block => k_is)
    (case kStore_block => k_is)
    (case aStore_parts => k_is)
    (case iStore_parts => k_is)
    (case lStore_parts => k_is)
    (case cStore_parts => k_is)
    (case kStore_parts => k_is)
    (case aStore_empty => k_is)
    (case iStore_empty => k_is)
    (case lStore_empty => k_is)
    (case cStore_empty => k_is)
    (case kStore_empty => k_is)
    (case aStore_future => k_is)
    (case iStore_future => k_is)
    (case lStore_future => k_is)
    (case cStore_future => k_is)
    (case kStore_future => k_is)
    (case aStore_new_future => k_is)
    (case iStore_new_future => k_is)
    (case lStore_new_future => k_is)
    (case cStore_new_future => k_is)
    (case kStore_new_future => k_is)
    (case aStore_at_level => k_is)
    (case iStore_at_level => k_is)
    (case lStore_at_level => k_is)
    (case cStore_at_level => k_is)
    (case kStore_at_level => k_is)
    (case aStore_raised => k_is)
    (case iStore_raised => k_is)
    (case lStore_raised => k_is)
    (case cStore_raised => k_is)
    (case kStore_raised => k_is)
    (case aStore_lowered => k_is)
    (case iStore_lowered => k_is)
    (case lStore_lowered => k_is)
    (case cStore_lowered => k_is)
    (case kStore_lowered => k_is)
    (case aStore_aged => k_is)
    (case iStore_aged => k_is)
    (case lStore_aged => k_is)
    (case cStore_aged => k_is)
    (case kStore_aged => k_is)
    (case aStore_surrounded => k_is)
    (case iStore_surrounded => k_is)
    (case lStore_surrounded => k_is)
    (case cStore_surrounded => k_is)
    (case kStore_surrounded => k_is)
    (case awith_places_around => k_is)
    (case lwith_places_around => k_is)
    (case cwith_places_around => k_is)
    (case kwith_places_around => k_is)
    (case aWorld_init => k_is)
    (case iWorld_init => k_is)
    (case lWorld_init => k_is)
    (case cWorld_init => k_is)
    (case kWorld_init => k_is)
    (case aWorld_paste => k_is)
    (case iWorld_paste => k_is)
    (case lWorld_paste => k_is)
    (case cWorld_paste => k_is)
    (case kWorld_paste => k_is)
    (case aWorld_leap => k_is)
    (case iWorld_leap => k_is)
    (case lWorld_leap => k_is)
    (case cWorld_leap => k_is)
    (case kWorld_leap => k_is)
    (case aWorld_tidy => k_is)
    (case iWorld_tidy => k_is)
    (case lWorld_tidy => k_is)
    (case cWorld_tidy => k_is)
    (case kWorld_tidy => k_is)
    (case aWorld_count => k_is)
    (case iWorld_count => k_is)
    (case lWorld_count => k_is)
    (case cWorld_count => k_is)
    (case kWorld_count => k_is)
    (case aWorld_cells => k_is)
    (case iWorld_cells => k_is)
    (case lWorld_cells => k_is)
    (case cWorld_cells => k_is)
    (case kWorld_cells => k_is)
    (case aWorld_cells_of_blocks => k_is)
    (case iWorld_cells_of_blocks => k_is)
    (case lWorld_cells_of_blocks => k_is)
    (case cWorld_cells_of_blocks => k_is)
    (case kWorld_cells_of_blocks => k_is)
    (case aRule_init => k_is)
    (case iRule_init => k_is)
    (case lRule_init => k_is)
    (case cRule_init => k_is)
    (case kRule_init => k_is)
    (case alaw_cell => k_is)
    (case llaw_cell => k_is)
    (case claw_cell => k_is)
    (case klaw_cell => k_is)
    (case alaw_row => k_is)
    (case llaw_row => k_is)
    (case claw_row => k_is)
    (case klaw_row => k_is)
    (case alaw_numbers => k_is)
    (case llaw_numbers => k_is)
    (case claw_numbers => k_is)
    (case klaw_numbers => k_is)
    (case alaw_some => k_is)
    (case llaw_some => k_is)
    (case claw_some => k_is)
    (case klaw_some => k_is)
    (case alaw_image => k_is)
    (case llaw_image => k_is)
    (case claw_image => k_is)
    (case klaw_image => k_is)
    (case alaw => k_is)
    (case llaw => k_is)
    (case claw => k_is)
    (case klaw => k_is)
    (case zdivmod => k_is)
    (case zrange => k_is)
    (case zlen => k_is)
    (case ztuple => k_is)
    (case zenumerate => k_is)
    (case zlist => k_is)
    (case zmax => k_is)
    (case zsum => k_is)
    (case zsorted => k_is)
    (case zset => k_is)
    (case zint => k_is)
    (case zabs => k_is)
    (case xSIDE => k_is)
    (case xTOP => k_is)
