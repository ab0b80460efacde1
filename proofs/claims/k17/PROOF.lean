import PyProof.Rows.All
import Wide.All
import OpenK.AllK
import Wide.FinOn
import HandS.ForMost
import HandS.Strs
import HandS.SetFor
import HandS.OwnEq
import HandS.SlotsOwn
import HandS.IsInst
import HandS.Wide
import HandS.Style
import HandS.Steps
import HandS.Walk
import HandS.TupSets
import HandS.SortRule
import PyProof.Rows.AssignMoreSeq
import HandS.NoneIn
import HandS.Deep
import PyProof.Rows.RegStrFacts
import HandS.DictTup
import HandS.Conv
import HandS.WideBits
import KE.OsArith
import PyProof.Rows.StrIntSpec
import KE.KxField
import HandS.FStr
import PyProof.Rows.RegReprOcc
import HandS.DictComp
import KE.DataMinMax
import KE.DataFind
import HandS.Exc
import HandS.TryOnly
import HandS.ExcOwn
import HandS.WordsExc
import HandS.RaiseMore
import HandS.ExcIs
import HandS.TupLen
import HandS.SortKw
import HandS.SetKeys
import PySem.Challenge.RW_longlife_k17_told_fates
set_option Elab.async false
set_option linter.all false
set_option maxRecDepth 100000
set_option maxHeartbeats 4000000
namespace Vx
open PySem PySem.Spec PyProof.Rows L2
/-! ### heaps that grow -/
theorem newS {H : Hp} {p : Addr} {o : HO} (n : H p = none) : Same H (upd H p o) := fun b x e => by
  rw [upd_ne (ne_of_none e n)]
  exact e
theorem mutS {H H' : Hp} {p : Addr} {o : HO} (e : Same H H') (n : H p = none) : Same H (upd H' p o) := fun b x hb => by
  rw [upd_ne (ne_of_none hb n)]
  exact e b x hb
theorem getS {H H' : Hp} {a : Addr} {o : HO} (e : Same H H') (h : H a = some o) : H' a = some o := e a o h
theorem tupS {K : PySem.W.Frag} {H H' : Hp} {a : Addr} {xs : List V} (e : Same H H') (h : SqT K H a xs) : SqT K H' a xs := by
  rcases h with (h | ⟨o, h⟩) | h
  · exact .inl (.inl (e _ _ h))
  · exact .inl (.inr ⟨o, e _ _ h⟩)
  · exact .inr h
theorem lst_of {K : PySem.W.Frag} {H : Hp} {a : Addr} {xs : List V} (h : H a = some (.lst xs)) : SqL K H a xs := .inl (.inl h)
theorem tup_of {K : PySem.W.Frag} {H : Hp} {a : Addr} {xs : List V} (h : H a = some (.tup xs)) : SqT K H a xs := .inl (.inl h)
theorem neS {H H' : Hp} {a p : Addr} {o : HO} (h : H a = some o) (e : Same H H') (n : H' p = none) : a ≠ p := ne_of_none (e a o h) n
theorem backS {H H' : Hp} {p : Addr} (e : Same H H') (n : H' p = none) : H p = none := Same.free e n
theorem gen_e {H H1 : Hp} {p : Addr} {o : HO} (q : upd H p o = H1) (n : H p = none) : Same H H1 ∧ H1 p = some o := by
  subst q
  exact ⟨newS n, upd_same⟩
/-! ### calls of built-ins, one way each -/
section
variable {X : Cx}
theorem call_intI : CallR X (.type "int") (fun xs H Q => ∃ i, xs = [.int i] ∧ Q (.int i) H) := fun pins s σ H xs us Q I r h => call_int1 pins s σ H xs us Q I r (.inl h)
theorem call_tupL : CallR X (.type "tuple") (fun xs H Q => ∃ p ys, xs = [.ref p] ∧ SqL X.K H p ys ∧ ∀ l, H l = none → Q (.ref l) (upd H l (.tup ys))) := fun pins s σ H xs us Q I r h => by
  obtain ⟨p, ys, e, hs, q⟩ := h
  exact call_tuple_of pins s σ H xs us Q I r ⟨p, ys, e, .inl ⟨hs, q⟩⟩
theorem call_lenL : CallR X (.builtin "len") (fun xs H Q => ∃ p ys, xs = [.ref p] ∧ SqL X.K H p ys ∧ Q (.int ys.length) H) := fun pins s σ H xs us Q I r h => by
  obtain ⟨p, ys, e, hs, q⟩ := h
  exact call_len_seq pins s σ H xs us Q I r ⟨p, ys, e, .inl hs, q⟩
theorem call_lenU : CallR X (.builtin "len") (fun xs H Q => ∃ p ys, xs = [.ref p] ∧ SqT X.K H p ys ∧ Q (.int ys.length) H) := fun pins s σ H xs us Q I r h => by
  obtain ⟨p, ys, e, hs, q⟩ := h
  exact call_len_seq pins s σ H xs us Q I r ⟨p, ys, e, .inr hs, q⟩
theorem call_listL : CallR X (.type "list") (fun xs H Q => ∃ p ys, xs = [.ref p] ∧ SqL X.K H p ys ∧ ∀ l, H l = none → Q (.ref l) (upd H l (.lst ys))) := fun pins s σ H xs us Q I r h => by
  obtain ⟨p, ys, e, hs, q⟩ := h
  exact call_list_of pins s σ H xs us Q I r ⟨p, ys, e, .inl hs, q⟩
/-- a class of the text is no built-in type -/
theorem op_isCT : OpR X (compareOp .Is) (fun x y H Q => ∃ a n, x = V.ref a ∧ y = V.ty n ∧ Q (.bl false) H) := by
  intro pins s σ H x y v u Q I rx ry h
  obtain ⟨a, n, rfl, rfl, q⟩ := h
  cases (show v = Value.ref a from rx)
  cases (show u = Value.type n from ry)
  exact wpAny_is_other rfl (fun z => by cases z) ⟨.bl false, H, I, rfl, q⟩
theorem looks_ty {M : Model} {s : Shared} {u : Value} {T : String} (h : s.TypeIs u T) : PySem.W.Looks M s.heap (typeOf u) (.type T) := by
  unfold Shared.TypeIs at h
  split at h
  · obtain ⟨o, ho, hc⟩ := h
    exact fun A Q E s' k q => wpAny_typeOf_ref (k _ _ ho) (by rw [hc]; exact q)
  · exact PySem.W.Looks.of_pure h
/-- x == y by the text's own __eq__; y an instance of that class, or of a built-in type -/
def rEqOwn (K : PySem.W.Frag) (C : Addr) (sp : Sp) (E : XK) : R2 := fun x y H Q => ∃ a dx fs, x = .ref a ∧ H a = some (.ins C dx fs) ∧
  ((∃ b dy gs, y = .ref b ∧ H b = some (.ins C dy gs)) ∨ ∃ T, TyB K H y T ∧ PySem.W.notFirst K C (.type T) = true) ∧ sp [x, y] H Q E
theorem op_eqOwn {CX : CXT} {C g : Addr} {n : Nat} {sp : Sp} {E : XK} (hs : PySem.W.findIn X.K (.ref C) "__eq__" = some (some (.ref g))) (hf : PySem.W.isFn X.K (.ref g) = true)
    (F : FnR X.prog X.w X.K X.mg X.base CX n g sp) (hr : Room n X.A) (hx : Passes CX X E) : OpR X (compareOp .Eq) (rEqOwn X.K C sp E) := by
  intro pins s σ H x y v u Q I rx ry h
  obtain ⟨a, dx, fs, rfl, ha, hy, q⟩ := h
  cases (show v = Value.ref a from rx)
  obtain ⟨mA, O, _⟩ := ins_get I.hok ha
  obtain ⟨od, J, _⟩ := O.look
  obtain ⟨m, hF⟩ := I.fr
  show wpAny (model X.prog X.w) X.A (richCompare .Eq (.ref a) u) (EP X pins σ Q) X.xe s
  have fin : wpAny (model X.prog X.w) X.A (call (.ref g) [.ref a, u]) (PySem.W.CmpBack (EP X pins σ Q)) X.xe s := by
    refine wpAny_mono (wpAny_call (run_fnR (us := [.ref a, u]) (vs := [.ref a, y]) F hr hx I (.cons rfl (.cons ry .nil)) q)) (fun w s' z => ?_) fun _ _ x => x
    obtain ⟨z', H', I', rz, qz⟩ := z
    exact SlX.cmpback rz ⟨z', H', I', rz, qz⟩
  rcases hy with ⟨b, dy, gs, rfl, hb⟩ | ⟨T, ty, nf⟩
  · cases (show u = Value.ref b from ry)
    obtain ⟨mB, O2, _⟩ := ins_get I.hok hb
    obtain ⟨od2, J2, _⟩ := O2.look
    exact PySem.W.cmp_K (op := .Eq) (tb := .ref C) hr.units0 hF I.ok.mod.kin J J2.type (by simp [PySem.W.notFirst]) hs hf fin
  · exact PySem.W.cmp_K (op := .Eq) (tb := .type T) hr.units0 hF I.ok.mod.kin J (looks_ty (ty.is I ry)) nf hs hf fin
theorem nf_str {K : PySem.W.Frag} {C : Addr} : PySem.W.notFirst K C (.type "str") = true := by rfl
theorem nf_tup {K : PySem.W.Frag} {C : Addr} : PySem.W.notFirst K C (.type "tuple") = true := by rfl
end
end Vx
namespace Vx
open PySem PySem.Spec PyProof.Rows L2
/-! ### set(xs) of a list of ints -/
abbrev bareSet (w : World) : Obj := { cls := .type "set", dict := none, data := .set #[] 0 (.fresh 0 0 (!w.params.followText "set-order")) }
section
variable {P : Program} {w : World} {A : Around} {E : Value → Shared → Prop} {s : Shared}
theorem set_of_list {l : Addr} {its : Array Value} (ns : List Int) {Q : Value → Shared → Prop} (calm : A.handled = none) (hl : s.heap.IsList l its) (hi : IntsAre its.toList ns) (room : ns.length + 1 < scanBound)
    (k : ∀ (g : Heap) (t c : Nat), SetR w g s.heap.objs.size (fun j => decide (j ∈ ns)) c → c ≤ ns.length → (∀ b o, s.heap.get? b = some o → g.get? b = some o) → Q (.ref s.heap.objs.size) { s with heap := g, toks := t }) :
    wpAny (model P w) A (call (.type "set") [.ref l]) Q E s := by
  have len : its.size = ns.length := by
    have z := IntsAre.length hi
    rwa [Array.length_toList] at z
  obtain ⟨c0, tl, hmro⟩ := F.called_set.mro
  have hmade := F.called_set.made
  have hsub := F.called_set.sub
  refine wpAny_call (codeAny_of_tree ?_)
  show wpAny _ _ (callAny (.type "set") _) _ _ _
  refine wpAny_pure ⟨Code.quiet_builtin _ (by decide +kernel), codeAny_builtin F.entry_type_call ?_⟩
  rw [Around.under_plain (weight_type_call_type "set" [.ref l] []) rfl]
  have n1 := F.called_set.notType
  have n2 := F.called_set.canCreate
  have n3 := F.typeCall_set_1 (.ref l)
  repeat (any_goals (first | assumption | wp_step))
  refine codeAny_mono (code_set_led1 (.ref l) (E := E) (Q₁ := fun ob s1 => ob = .ref s.heap.objs.size ∧ s1 = { s with heap := s.heap.push (bareSet w) }) ⟨rfl, rfl⟩) fun r s1 hr => ?_
  rcases r with e | fl
  · exact hr
  cases fl with
  | ret ob =>
    obtain ⟨rfl, rfl⟩ := hr
    have at0 : (s.heap.push (bareSet w)).get? s.heap.objs.size = some (bareSet w) := Heap.get?_push_size _ rfl
    have ty0 : Shared.TypeIs { s with heap := s.heap.push (bareSet w) } (.ref s.heap.objs.size) "set" := ⟨_, at0, rfl⟩
    have i1 := F.called_set.init.lookup
    have i2 := F.called_set.init.bind (.ref s.heap.objs.size)
    repeat (any_goals (first | assumption | wp_step))
    refine codeAny_mono (codeAny_call_builtin (R := wants (fun v s2 => v = .none ∧ ∃ g t c, s2 = { s with heap := g, toks := t } ∧ SetR w g s.heap.objs.size (fun j => decide (j ∈ ns)) c ∧ c ≤ ns.length ∧
        (∀ b o, s.heap.get? b = some o → g.get? b = some o)) E) F.called_set.init.plain F.entry_set_init (check_set_init_1 ty0 ?_)) fun r2 s2 hr2 => ?_
    · obtain ⟨⟨oc, od, ob, osl⟩, hol, hcl, nl, hdl⟩ := hl
      simp only at hcl hdl
      subst hcl hdl
      have at1 : (s.heap.push (bareSet w)).get? l = some { cls := .type "list", dict := od, data := .seq its nl, slots := osl } := Heap.get?_push_of_some _ hol
      have q1 := F.sub_list_set
      have q2 := F.sub_list_frozenset
      have q3 : (Value.type "list" == Value.type "dict") = false := by decide
      have isl : (s.heap.push (bareSet w)).IsList l its := ⟨_, at1, rfl, nl, rfl⟩
      unfold Builtin.«set.__init__» noKeywords Builtin.Frozenset.updateFrom
      generalize hPI : pyIter = PI
      wp_walk
      subst hPI
      refine wpAny_pyIter_list isl ?_
      refine wpAny_bind (wpAny_runValue ?_)
      have lS : l < s.heap.objs.size := Heap.lt_size hol
      have calm3 : A.in1.in1.in1.handled = none := by simp [calm]
      have neI : l ≠ (s.heap.push (bareSet w)).objs.size := by
        rw [Heap.size_push]
        exact Nat.ne_of_lt (Nat.lt_succ_of_lt lS)
      have noS : s.heap.objs.size ∉ [(s.heap.push (bareSet w)).objs.size, l] := by
        rw [Heap.size_push]
        simp only [List.mem_cons, List.mem_singleton, List.not_mem_nil, or_false, not_or]
        exact ⟨Nat.ne_of_lt (Nat.lt_succ_self _), Nat.ne_of_gt lS⟩
      have item : ∀ (i : Nat) (v : Value), its[i]? = some v → ∃ m t, ns[i]? = some m ∧ v = .int m t := fun i v hv => by
        have li : i < ns.length := by rw [← len]; exact (Array.getElem?_eq_some_iff.mp hv).1
        obtain ⟨t, e⟩ := PyProof.Rows.IntsAre.int_at hi i v (by rw [Array.getElem?_toList]; exact hv)
        refine ⟨ns[i], t, List.getElem?_eq_getElem li, ?_⟩
        rw [e, List.getD_eq_getElem?_getD, List.getElem?_eq_getElem li]
        rfl
      refine set_update_ints ((Walks.list calm3 _ l neI its).toS) s.heap.objs.size noS ns len room item (its.size - 0) 0 _ (by omega) (Nat.zero_le _) ⟨⟨_, Heap.get?_push_size _ rfl, rfl, rfl⟩, (isl.push _)⟩ ?s0 ?fin
      case s0 => exact ⟨0, Nat.le_refl 0, setR_new_at (Heap.get?_push_of_some _ at0)⟩
      case fin =>
        intro s3 c3 mv hc3 hS3
        obtain ⟨g3, ge, dr, t3, os3⟩ := s3
        cases (show ge = s.gens from mv.gens)
        cases (show dr = s.drawn from mv.drawn)
        cases (show os3 = s.os from mv.os)
        show wpAny _ _ _ _ _ _
        refine wpAny_pure ?_
        show wpAny _ _ (ret Value.none) _ _ _
        rw [len] at hc3
        refine wpAny_pure ⟨rfl, g3, t3, c3, rfl, hS3, hc3, fun b o e => ?_⟩
        have b0 : b < s.heap.objs.size := Heap.lt_size e
        have b2 : b ≠ (s.heap.push (bareSet w)).objs.size := by
          rw [Heap.size_push]
          exact Nat.ne_of_lt (Nat.lt_succ_of_lt b0)
        exact mv.heap b o (by simp only [List.mem_cons, List.mem_singleton, List.not_mem_nil, or_false, not_or]; exact ⟨Nat.ne_of_lt b0, b2⟩) (Heap.get?_push_of_some _ (Heap.get?_push_of_some _ e))
    · rcases r2 with e | fl2
      · exact hr2
      cases fl2 with
      | ret v =>
        obtain ⟨rfl, g, t, c, rfl, hS, hc, hk⟩ := hr2
        repeat (any_goals (first | assumption | wp_step))
        exact k _ _ _ hS hc hk
      | _ => exact hr2.elim
  | _ => exact hr.elim
end
section
variable {X : Cx}
theorem cr_setL (hc : X.calm = true) : CallR X (.type "set") (fun vs H Q => ∃ (l : Addr) (ns : List Int), vs = [V.ref l] ∧ SqL X.K H l (ns.map V.int) ∧ ns.length + 1 < scanBound ∧
    ∀ p c, H p = none → c ≤ ns.length → Q (.ref p) (upd H p (SetO X.w p (fun j => decide (j ∈ ns)) c))) := by
  intro pins s σ H xs us Q I r h
  obtain ⟨l, ns, rfl, hl, room, q⟩ := h
  rw [Vals.ref1 r]
  obtain ⟨its, rv, pl, hz⟩ := I.list hl
  refine set_of_list ns (I.ok.hd hc) pl.isList (by simpa using ints_of_vals rv) room fun g t c R hc' k => ?_
  have hn : H s.heap.objs.size = none := I.hok.fresh (Nat.le_refl _)
  exact ⟨.ref _, _, I.laid (a := s.heap.objs.size) (t' := t) k (Nat.le_refl _) (setO_new R), rfl, q _ c hn hc'⟩
end
end Vx
namespace Vx
open PySem PySem.Spec PyProof.Rows L2
/-! ### ascending lists -/
theorem asc_eq : ∀ {l m : List Int}, l.Pairwise (· < ·) → m.Pairwise (· < ·) → (∀ k, k ∈ l ↔ k ∈ m) → l = m
  | [], [], _, _, _ => rfl
  | [], y :: m, _, _, h => absurd ((h y).mpr List.mem_cons_self) (by simp)
  | x :: l, [], _, _, h => absurd ((h x).mp List.mem_cons_self) (by simp)
  | x :: l, y :: m, hl, hm, h => by
    obtain ⟨h1, h2⟩ := List.pairwise_cons.mp hl
    obtain ⟨h3, h4⟩ := List.pairwise_cons.mp hm
    have e : x = y := by
      rcases List.mem_cons.mp ((h x).mp List.mem_cons_self) with e | e
      · exact e
      · rcases List.mem_cons.mp ((h y).mpr List.mem_cons_self) with e2 | e2
        · exact e2.symm
        · have a := h3 _ e
          have b := h1 _ e2
          omega
    subst e
    rw [asc_eq h2 h4 fun k => ?_]
    have q := h k
    constructor
    · intro hk
      rcases List.mem_cons.mp (q.mp (List.mem_cons_of_mem _ hk)) with e | e
      · exact absurd (h1 _ hk) (by omega)
      · exact e
    · intro hk
      rcases List.mem_cons.mp (q.mpr (List.mem_cons_of_mem _ hk)) with e | e
      · exact absurd (h3 _ hk) (by omega)
      · exact e
/-! ### data -/
theorem eqvAll_ints : ∀ (l m : List Int), PyData.eqvAll (l.map PyData.int) (m.map PyData.int) = decide (l = m)
  | [], [] => by simp [PyData.eqvAll]
  | [], y :: m => by simp [PyData.eqvAll]
  | x :: l, [] => by simp [PyData.eqvAll]
  | x :: l, y :: m => by
    show (PyData.eqv (.int x) (.int y) && PyData.eqvAll (l.map PyData.int) (m.map PyData.int)) = _
    rw [eqvAll_ints l m]
    show ((x == y) && decide (l = m)) = _
    by_cases e : x = y <;> by_cases e2 : l = m <;> simp [e, e2]
theorem eqv_tupI (l m : List Int) : PyData.eqv (.tuple (l.map PyData.int)) (.tuple (m.map PyData.int)) = decide (l = m) := eqvAll_ints l m
theorem eqv_lstI (l m : List Int) : PyData.eqv (.list (l.map PyData.int)) (.list (m.map PyData.int)) = decide (l = m) := eqvAll_ints l m
theorem dpAll_ints {K : PySem.W.Frag} {H : Hp} : ∀ l : List Int, DpAll K H (l.map V.int) (l.map PyData.int)
  | [] => .nil
  | x :: l => .cons (.int x) (dpAll_ints l)
theorem dp_tupI {K : PySem.W.Frag} {H : Hp} {a : Addr} {l : List Int} (h : SqT K H a (l.map V.int)) : Dp K H (.ref a) (.tuple (l.map PyData.int)) := .tup h (dpAll_ints l)
theorem dp_lstI {K : PySem.W.Frag} {H : Hp} {a : Addr} {l : List Int} (h : SqL K H a (l.map V.int)) : Dp K H (.ref a) (.list (l.map PyData.int)) := .lst h (dpAll_ints l)
theorem inV_ints (x : Int) : ∀ l : List Int, inV (.int x) (l.map V.int) = decide (x ∈ l)
  | [] => by simp [inV]
  | y :: l => by
    have ih := inV_ints x l
    unfold inV at ih ⊢
    rw [List.map_cons, List.any_cons, ih]
    show ((y == x) || decide (x ∈ l)) = _
    by_cases e : y = x
    · simp [e]
    · have e' : ¬ x = y := fun z => e z.symm
      simp [e, e']
theorem flat_ints (l : List Int) : (l.map V.int).all flatV = true := by
  rw [List.all_map]
  exact List.all_eq_true.mpr fun _ _ => rfl
end Vx
namespace Vx
open PySem PySem.Spec PyProof.Rows L2
theorem canAll_ints : ∀ l : List Int, PyData.canLayAll0 (l.map PyData.int) = true
  | [] => by simp [PyData.canLayAll0]
  | x :: l => by
    rw [List.map_cons]
    simp [PyData.canLayAll0, PyData.canLay0, canAll_ints l]
theorem depAll_ints : ∀ l : List Int, PyData.depthAll (l.map PyData.int) = 0
  | [] => by simp [PyData.depthAll]
  | x :: l => by
    rw [List.map_cons]
    simp [PyData.depthAll, PyData.depth, depAll_ints l]
theorem shaped_tupI (l : List Int) : SeqAt.shaped (.tuple (l.map PyData.int)) = true := by
  unfold SeqAt.shaped
  simp [PyData.canLay0, PyData.depth, canAll_ints, depAll_ints]
theorem shaped_lstI (l : List Int) : SeqAt.shaped (.list (l.map PyData.int)) = true := by
  unfold SeqAt.shaped
  simp [PyData.canLay0, PyData.depth, canAll_ints, depAll_ints]
theorem tyesT {σ : L2.St} {H : Hp} {A B : Hp → Prop} (h : A H) : tYes σ H (fun b H3 => if b = true then A H3 else B H3) := h
theorem item_ints {xs : List Int} {i : Nat} {x : V} (h : (xs.map V.int)[i]? = some x) : ∃ z, x = .int z ∧ xs[i]? = some z ∧ z ∈ xs := by
  rw [List.getElem?_map] at h
  cases e : xs[i]? with
  | none => rw [e] at h; cases h
  | some z =>
    rw [e] at h
    exact ⟨z, (Option.some.inj h).symm, rfl, List.mem_of_getElem? e⟩
theorem at_ints {xs : List Int} {k : Int} (h0 : 0 ≤ k) (h1 : k < (xs.length : Int)) : ∃ z, z ∈ xs ∧ atI (xs.map V.int) k = some (.int z) := by
  have hj : k.toNat < xs.length := by omega
  refine ⟨xs[k.toNat], List.getElem_mem hj, ?_⟩
  refine at_of (j := k.toNat) (by omega) ?_
  rw [List.getElem?_map, List.getElem?_eq_getElem hj]
  rfl
theorem mem_ins {ys : List Int} {j : Nat} {y k : Int} (hy : y ∈ ys) : k ∈ ys.take j ++ [y] ++ ys.drop j ↔ k ∈ ys := by
  have e : k ∈ ys ↔ k ∈ ys.take j ∨ k ∈ ys.drop j := by rw [← List.mem_append, List.take_append_drop]
  rw [List.mem_append, List.mem_append, List.mem_singleton, e]
  constructor
  · rintro ((h | h) | h)
    · exact .inl h
    · subst h
      exact e.mp hy
    · exact .inr h
  · rintro (h | h)
    · exact .inl (.inl h)
    · exact .inr h
theorem madeS {C : Addr} {H : Hp} {x dx : Addr} (nx : H x = none) (nd : H dx = none) : Same H (upd (upd H dx (.own x)) x (.ins C dx [])) := fun b o e => by
  rw [upd_ne (ne_of_none e nx), upd_ne (ne_of_none e nd)]
  exact e
theorem pe_gcx {X : Cx} {x : Str} {pos : Pos} {v : V} (hg : Gl X x) (h : ∃ u, X.mg x = some u ∧ RelV v u) (hd : (x == ("__debug__" : Str)) = false := by decide +kernel) : PE X (.Name x pos) (tC v) := by
  obtain ⟨u, h, r⟩ := h
  exact pe_glob hg h r hd
theorem call_intB {X : Cx} : CallR X (.type "int") (fun xs H Q => ∃ k, xs = [.bl k] ∧ Q (.int (if k = true then 1 else 0)) H) := fun pins s σ H xs us Q I r h => call_int1 pins s σ H xs us Q I r (.inr h)
theorem cut_lo_len (z : Str) {k : Int} (h : 0 ≤ k) : (cutS z none (some k)).length ≤ k.toNat := by
  show (List.toArray _).size ≤ _
  rw [List.size_toArray, List.length_take]
  show min (HT.sIx z.length z.length (some k) - 0) _ ≤ _
  have e : HT.sIx z.length z.length (some k) = min k.toNat z.length := by
    show (if k < 0 then (k + (z.length : Int)).toNat else min k.toNat z.length) = _
    rw [if_neg (by omega)]
  omega
theorem cut_hi_len (z : Str) {k : Int} (h : 0 ≤ k) : (cutS z (some k) none).length ≤ z.length - k.toNat := by
  show (List.toArray _).size ≤ _
  have e : HT.sIx z.length 0 (some k) = min k.toNat z.length := by
    show (if k < 0 then (k + (z.length : Int)).toNat else min k.toNat z.length) = _
    rw [if_neg (by omega)]
  rw [List.size_toArray, List.length_take, List.length_drop, e]
  show min (z.length - min k.toNat z.length) (z.cps.toList.length - min k.toNat z.length) ≤ _
  have : z.cps.toList.length = z.length := Array.length_toList
  omega
end Vx
namespace Vx
open PySem PySem.Spec PyProof.Rows L2
/-! ### pairs and lists of them -/
abbrev Pr := Int × Int
def pr (l : List Int) : Pr := (l.getD 0 0, l.getD 1 0)
def Cells (H : Hp) (l : Addr) (ps : List Pr) : Prop :=
  ∃ ts : List (Addr × Pr), H l = some (.lst (ts.map fun t => V.ref t.1)) ∧ (∀ t ∈ ts, H t.1 = some (.tup [.int t.2.1, .int t.2.2])) ∧ ts.map (·.2) = ps
theorem Cells.up {H H' : Hp} {l : Addr} {ps : List Pr} (e : Same H H') (h : Cells H l ps) : Cells H' l ps := by
  obtain ⟨ts, h1, h2, h3⟩ := h
  exact ⟨ts, e _ _ h1, fun t m => e _ _ (h2 t m), h3⟩
def SetP (P : Program) (w : World) (H : Hp) (a : Addr) (ps : List Pr) : Prop :=
  ∃ L : List (Addr × List Int), H a = some (SetTO P w a L) ∧ (∀ q ∈ L, q.2.length = 2 ∧ H q.1 = some (.tup (q.2.map V.int))) ∧ ∀ x, x ∈ L.map (fun q => pr q.2) ↔ x ∈ ps
abbrev ltP (p q : Pr) : Prop := SrtO.lexB p q = true
theorem pr_inj : ∀ {l m : List Int}, l.length = 2 → m.length = 2 → pr l = pr m → l = m
  | [a, b], [c, d], _, _, h => by
    have h1 : a = c := congrArg Prod.fst h
    have h2 : b = d := congrArg Prod.snd h
    rw [h1, h2]
theorem len2 : ∀ {l : List Int}, l.length = 2 → l = [(pr l).1, (pr l).2]
  | [a, b], _ => rfl
section
variable {P : Program} {w : World} {A : Around} {E : Value → Shared → Prop} {s : Shared}
def adr : Value → Addr
  | .ref a => a
  | _ => 0
/-- the set's members, sorted -/
theorem sorted_pairs {a : Addr} {L : List (Addr × List Int)} {es : Array (Int × Value)} {ep : Nat} {t : SetTable} {Q : Value → Shared → Prop} (R : SetTR P w s.heap a L es ep t) (hh : A.handled = none) (h2 : ∀ q ∈ L, q.2.length = 2)
    (hQ : ∀ s' p (ts : List (Addr × Pr)) (c : Nat), (∀ b o, s.heap.get? b = some o → s'.heap.get? b = some o) → s'.gens = s.gens → s'.os = s.os → s.heap.objs.size ≤ p →
      s'.heap.get? p = some (seqObj "list" (ts.map fun q => Value.ref q.1).toArray c) → (∀ q ∈ ts, ∃ r ∈ L, r.1 = q.1 ∧ pr r.2 = q.2) → (∀ x, x ∈ ts.map (·.2) ↔ x ∈ L.map fun q => pr q.2) → (ts.map (·.2)).Pairwise ltP → ts.length = L.length → Q (.ref p) s') :
    wpAny (model P w) A (call (.builtin "sorted") [.ref a]) Q E s := by
  have few := R.few
  obtain ⟨o, go, xo, dat⟩ := R.ob
  refine Calls.call_function_entry kind_sorted plain_sorted entry_sorted (args_sorted1 _) ?_
  unfold Builtin.«sorted»
  refine wpAny_bind (m := checkCount "sorted" 1 1 _) (wpAny_pure ?_)
  refine wpAny_bind (collect_set (A := A.in1) hh ⟨o, go, xo.1, dat⟩ R.fits (by rw [R.size]; unfold scanBound; omega) R.tab.ris R.led fun s1 vs keep sz gg oo pm => ?_)
  have em : es.toList.map (·.2) = L.map fun q => Value.ref q.1 := by
    rw [R.rows]
    show (L.map fun q => (thash P w q.2, Value.ref q.1)).map (·.2) = _
    rw [List.map_map] <;> rfl
  rw [em] at pm
  have vl : vs.length = L.length := by rw [pm.length_eq, List.length_map]
  have lim : vs.length ≤ sizeLine := by
    rw [sizeLine_eq]
    omega
  refine wpAny_bind (wpAny_newList ?_ lim)
  have gl : (s1.heap.push (seqObj "list" vs.toArray 0)).get? s1.heap.objs.size = some (seqObj "list" vs.toArray 0) := Heap.get?_push_size _ rfl
  generalize hh1 : s1.heap.push (seqObj "list" vs.toArray 0) = h1 at gl
  have keep1 : ∀ b u, s1.heap.get? b = some u → h1.get? b = some u := fun b u e => by
    rw [← hh1]
    exact Heap.get?_push_of_some _ e
  have tin : ∀ q ∈ L, TS.TupInts h1 (.ref q.1) q.2 := fun q m => tupInts_of (P := P) (w := w) (isT_keep (R.tup q m) fun b u e => keep1 b u (keep b u e))
  have mem : ∀ v ∈ vs, ∃ q ∈ L, v = Value.ref q.1 := fun v m => by
    obtain ⟨q, m1, e⟩ := List.mem_map.mp (pm.mem_iff.mp m)
    exact ⟨q, m1, e.symm⟩
  have key : ∀ q ∈ L, pr (TS.intsOf h1 (.ref q.1)) = pr q.2 := fun q m => by rw [(tin q m).ints]
  have isP : ∀ v ∈ vs, Srt.IsPair h1 v (pr (TS.intsOf h1 v)).1 (pr (TS.intsOf h1 v)).2 := fun v m => by
    obtain ⟨q, m1, rfl⟩ := mem v m
    rw [key q m1]
    have i := tin q m1
    have l2 := len2 (h2 q m1)
    rw [l2] at i
    obtain ⟨b, items, eb, ⟨o1, go1, co1, n1, do1⟩, ia⟩ := i
    cases eb
    obtain ⟨xs⟩ := items
    cases ia with
    | cons _ t1 ia =>
      cases ia with
      | cons _ t2 ia =>
        cases ia
        exact ⟨_, o1, t1, t2, n1, rfl, go1, co1, do1⟩
  refine wpAny_bind (wpAny_holding (wpAny_call_entry (s := { s1 with heap := h1 }) slot_list_sort ⟨_, gl, rfl⟩ entry_list_sort (SrtO.list_sort_ord (s := { s1 with heap := h1 }) (SrtO.swo_lex fun v => pr (TS.intsOf h1 v)) gl lim (fun two => SrtO.pairs_sortableO (by omega) isP fun o1 e => ?_) fun out srt stb => ⟨_, rfl, ?_⟩) (args_list_sort _)))
  · have e' : some o1 = some (seqObj "list" vs.toArray 0) := e.symm.trans gl
    cases e'
    intro c
    exact absurd (Value.type.inj c) (by decide)
  · obtain ⟨c, gc⟩ := sortedHeap_at (vs := vs) (out := out.toArray) gl
    have omem : ∀ v ∈ out, ∃ q ∈ L, v = Value.ref q.1 := fun v m => mem v (stb.perm.mem_iff.mp m)
    refine wpAny_pure ⟨_, rfl, hQ _ s1.heap.objs.size (out.map fun v => (adr v, pr (TS.intsOf h1 v))) c (fun b u e => ?_) gg oo sz ?_ ?_ ?_ ?_ ?_⟩
    · have g1 := keep b u e
      have lt1 := Heap.lt_size g1
      show (sortedHeap h1 s1.heap.objs.size vs out.toArray).get? b = some u
      rw [sortedHeap_old (Nat.ne_of_lt lt1) (Heap.lt_size (keep1 b u g1))]
      exact keep1 b u g1
    · have eo : (out.map fun v => (adr v, pr (TS.intsOf h1 v))).map (fun q => Value.ref q.1) = out := by
        rw [List.map_map]
        refine (List.map_congr_left fun v m => ?_).trans (List.map_id _)
        obtain ⟨q, _, rfl⟩ := omem v m
        rfl
      rw [eo]
      exact gc
    · intro q m
      obtain ⟨v, m1, rfl⟩ := List.mem_map.mp m
      obtain ⟨r, mr, rfl⟩ := omem v m1
      exact ⟨r, mr, rfl, (key r mr).symm⟩
    · intro x
      rw [List.map_map]
      constructor
      · intro m
        obtain ⟨v, m1, rfl⟩ := List.mem_map.mp m
        obtain ⟨r, mr, rfl⟩ := omem v m1
        exact List.mem_map.mpr ⟨r, mr, (key r mr).symm⟩
      · intro m
        obtain ⟨r, mr, rfl⟩ := List.mem_map.mp m
        exact List.mem_map.mpr ⟨.ref r.1, stb.perm.mem_iff.mpr (pm.mem_iff.mpr (List.mem_map.mpr ⟨r, mr, rfl⟩)), key r mr⟩
    · rw [List.map_map]
      have nd : ((L.map fun q => Value.ref q.1).map fun v => pr (TS.intsOf h1 v)).Nodup := by
        rw [List.map_map]
        refine List.pairwise_map.mpr ((List.pairwise_map.mp R.nd).imp_of_mem fun {q r} mq mr ne e => ne ?_)
        refine pr_inj (h2 q mq) (h2 r mr) ?_
        rw [← key q mq, ← key r mr]
        exact e
      have nd2 : (out.map fun v => pr (TS.intsOf h1 v)).Nodup := ((stb.perm.trans pm).map _).nodup_iff.mpr nd
      refine List.pairwise_map.mpr ((srt.and (List.pairwise_map.mp nd2)).imp fun {u v} h => ?_)
      have a1 := SrtO.lexB_no.mp h.1
      refine SrtO.lexB_iff.mpr ?_
      have a2 : ¬ ((pr (TS.intsOf h1 u)).1 = (pr (TS.intsOf h1 v)).1 ∧ (pr (TS.intsOf h1 u)).2 = (pr (TS.intsOf h1 v)).2) := fun e => h.2 (Prod.ext e.1 e.2)
      show (pr (TS.intsOf h1 u)).1 < (pr (TS.intsOf h1 v)).1 ∨ (pr (TS.intsOf h1 u)).1 = (pr (TS.intsOf h1 v)).1 ∧ (pr (TS.intsOf h1 u)).2 < (pr (TS.intsOf h1 v)).2
      omega
    · rw [List.length_map, stb.perm.length_eq, vl]
end
section
variable {X : Cx}
theorem cr_setP (hc : X.calm = true) (hu : X.A.units + 64 < cLine) : CallR X (.type "set") (fun xs H Q => ∃ l ps, xs = [V.ref l] ∧ Cells H l ps ∧ ps.length < 64 ∧
    ∀ a H', Same H H' → H a = none → SetP X.prog X.w H' a ps → Q (.ref a) H') := by
  intro pins s σ H xs us Q I r h
  obtain ⟨l, ps, rfl, ⟨ts, hl, ht, rfl⟩, few, q⟩ := h
  rw [List.length_map] at few
  refine cr_setOfT hc hu pins s σ H [V.ref l] us Q I r ⟨l, ts.map fun t => (t.1, [t.2.1, t.2.2]), rfl, ?_, ?_, by rw [List.length_map]; exact few, fun a L n sub all => ?_⟩
  · rw [List.map_map]
    exact lst_of hl
  · intro p m
    obtain ⟨t, m1, rfl⟩ := List.mem_map.mp m
    exact tup_of (ht t m1)
  · refine q a _ (newS n) n ⟨L, upd_same, fun p m => ?_, fun x => ⟨fun m => ?_, fun m => ?_⟩⟩
    · obtain ⟨t, m1, rfl⟩ := List.mem_map.mp (sub p m)
      exact ⟨rfl, newS n _ _ (ht t m1)⟩
    · obtain ⟨p, m1, rfl⟩ := List.mem_map.mp m
      obtain ⟨t, m2, rfl⟩ := List.mem_map.mp (sub p m1)
      exact List.mem_map.mpr ⟨t, m2, rfl⟩
    · obtain ⟨t, m1, rfl⟩ := List.mem_map.mp m
      obtain ⟨p, m2, e⟩ := List.mem_map.mp (all _ (List.mem_map.mpr ⟨t, m1, rfl⟩))
      refine List.mem_map.mpr ⟨p, m2, ?_⟩
      rw [e]
      rfl
theorem cr_sortedP (hc : X.calm = true) : CallR X (.builtin "sorted") (fun xs H Q => ∃ a ps, xs = [V.ref a] ∧ SetP X.prog X.w H a ps ∧
    ∀ p H' qs, Same H H' → H p = none → Cells H' p qs → qs.Pairwise ltP → (∀ x, x ∈ qs ↔ x ∈ ps) → qs.length < 64 → Q (.ref p) H') := by
  intro pins s σ H vs us Q I r h
  obtain ⟨a, ps, rfl, ⟨L, ha, hL, mem⟩, q⟩ := h
  have R0 : SetT0 X.prog X.w s.heap a L := (I.hok a _ ha).1
  obtain ⟨es, ep, t, R⟩ := R0.full fun p hp => I.isT (tup_of (hL p hp).2)
  rw [Vals.ref1 r]
  refine sorted_pairs R (I.ok.hd hc) (fun q m => (hL q m).1) fun s' p ts c k g o hp hg own all pw le => ?_
  have few := R.few
  have lim : (ts.map fun q => V.ref q.1).length ≤ sizeLine := by
    rw [List.length_map, sizeLine_eq]
    omega
  have n : H p = none := I.hok.fresh hp
  have vals : ∀ ts : List (Addr × Pr), Vals (ts.map fun q => V.ref q.1) (ts.map fun q => Value.ref q.1) := fun ts => by
    induction ts with
    | nil => exact .nil
    | cons t ts ih => exact .cons rfl ih
  have J : Inv X pins σ (upd H p (.lst (ts.map fun q => V.ref q.1))) { s with heap := s'.heap, gens := s'.gens, drawn := s'.drawn, toks := s'.toks } :=
    I.call (ch := []) (Un.laid k hp n) (I.hok.laid k hp ⟨lim, _, c, vals ts, hg⟩) (by rw [g]; exact I.bare) (fun _ z => nomatch z)
  have e : s' = { s with heap := s'.heap, gens := s'.gens, drawn := s'.drawn, toks := s'.toks } := by
    obtain ⟨_, _, _, _, _⟩ := s'
    obtain ⟨_, _, _, _, _⟩ := s
    cases o
    rfl
  rw [e]
  have sm : Same H (upd H p (.lst (ts.map fun q => V.ref q.1))) := newS n
  refine ⟨.ref p, _, J, rfl, q p _ (ts.map (·.2)) sm n ⟨ts, upd_same, fun t m => ?_, rfl⟩ pw (fun x => (all x).trans (mem x)) (by rw [List.length_map, le]; exact few)⟩
  obtain ⟨r, mr, e1, e2⟩ := own t m
  have z := sm _ _ (hL r mr).2
  rw [len2 (hL r mr).1, e1, e2] at z
  exact z
end
section
variable {X : Cx}
theorem pg_tupK {K : PySem.W.Frag} {es : List Expr} {k : Nat} {t : TGs} {n : Nat} {pos : Pos} (hK : X.K = K) (hc : X.calm = true) (h : PGs X es t)
    (hn : (assignEach es X.env).length = n := by rfl) (hst : (assignEach es X.env).findIdx? (·.1) = none := by rfl) : PG X (.Tuple es k pos) (gTup K n t) := by
  subst hK
  exact pg_tup hc h hn hst
theorem ix_tupK {K : PySem.W.Frag} (hK : X.K = K) : IxR X (rIxT K) := by
  subst hK
  exact ix_tup
end
/-! ### comprehensions over such a list -/
theorem item_cells {H : Hp} {ts : List (Addr × Pr)} {ps : List Pr} {i : Nat} {x : V} (h : (ts.map fun t => V.ref t.1)[i]? = some x) (e : ts.map (·.2) = ps) :
    ∃ t ∈ ts, x = .ref t.1 ∧ ps[i]? = some t.2 := by
  rw [List.getElem?_map] at h
  cases q : ts[i]? with
  | none => rw [q] at h; cases h
  | some t =>
    rw [q] at h
    refine ⟨t, List.mem_of_getElem? q, (Option.some.inj h).symm, ?_⟩
    rw [← e, List.getElem?_map, q]
    rfl
theorem lc_cells {K : PySem.W.Frag} {l : Addr} {ps : List Pr} {g : TG} {tt : TT} {te : TE} {vs : List Nat} {σ : L2.St} {H1 : Hp} {D : Addr} {Qd : Hp → Prop} (f : Pr → Pr) (hC : Cells H1 l ps) (nD : H1 D = none) (few : ps.length < sizeLine)
    (hs : ∀ (t : Addr) (x : Pr) (H' : Hp) (Po : V → Hp → Prop) (Pn : Hp → Prop), Same H1 H' → H' t = some (.tup [.int x.1, .int x.2]) → (∀ t2, H' t2 = none → Po (.ref t2) (upd H' t2 (.tup [.int (f x).1, .int (f x).2]))) →
      g (.ref t) (wipe σ vs) H' fun σ2 H2 => wipe σ2 vs = wipe σ vs ∧ tt σ2 H2 fun b H3 => if b = true then te σ2 H3 Po else Pn H3)
    (hd : ∀ H', Same H1 H' → Cells H' D (ps.map f) → Qd H') :
    ∃ W : Nat → Nat → Hp → Prop, (∃ m, W 0 m (upd H1 D (.lst []))) ∧ ∀ i m H, W i m H →
      ((Itl K l).stop i H ∧ Qd H) ∨ ((Itl K l).go i H ∧ ∃ Nx : Hp → Prop, (∀ H', Nx H' → ∃ m', m' < m ∧ W (i + 1) m' H') ∧ ∀ x H', (Itl K l).yld i H x H' → g x (wipe σ vs) H' fun σ2 H2 => wipe σ2 vs = wipe σ vs ∧ tt σ2 H2 fun b H3 =>
        if b = true then te σ2 H3 fun y H4 => ∃ acc, H4 D = some (.lst acc) ∧ acc.length < sizeLine ∧ Nx (upd H4 D (.lst (acc ++ [y]))) else Nx H3) := by
  obtain ⟨ts, hl, ht, rfl⟩ := hC
  rw [List.length_map] at few
  refine lc_list (K := K) (a := l) (xs := ts.map fun t => V.ref t.1) (fun i H' => Same H1 H' ∧ ∃ us : List (Addr × Pr), H' D = some (.lst (us.map fun t => V.ref t.1)) ∧ (∀ t ∈ us, H' t.1 = some (.tup [.int t.2.1, .int t.2.2])) ∧ us.map (·.2) = ((ts.map (·.2)).take i).map f)
    ⟨newS nD, [], upd_same, fun _ m => (by cases m), rfl⟩ (fun i H' _ p => lst_of (p.1 _ _ hl)) ?_ ?_
  · rintro i x H' hi ⟨sm, us, h1, h2, h3⟩
    obtain ⟨t, mt, rfl, hp⟩ := item_cells (H := H') hi rfl
    have ul : us.length = i := by
      have z := congrArg List.length h3
      rw [List.length_map, List.length_map, List.length_take, List.length_map] at z
      have := (List.getElem?_eq_some_iff.mp hi).1
      rw [List.length_map] at this
      omega
    refine hs t.1 t.2 H' _ _ sm (sm _ _ (ht t mt)) fun t2 n2 => ⟨us.map fun t => V.ref t.1, ?_, ?_, ?_, us ++ [(t2, f t.2)], ?_, ?_, ?_⟩
    · exact newS n2 _ _ h1
    · rw [List.length_map, ul]
      have := (List.getElem?_eq_some_iff.mp hi).1
      rw [List.length_map] at this
      omega
    · exact mutS (sm.trans (newS n2)) nD
    · rw [upd_same, List.map_append]
      rfl
    · have nD2 : t2 ≠ D := fun e => by
        rw [e, h1] at n2
        cases n2
      intro u m
      rcases List.mem_append.mp m with m | m
      · have z := h2 u m
        rw [upd_ne (fun e => ?_)]
        · exact newS n2 _ _ z
        · rw [e, h1] at z
          cases z
      · rw [List.mem_singleton.mp m, upd_ne nD2, upd_same]
    · rw [List.map_append, h3, take_next hp, List.map_append]
      rfl
  · rintro H' ⟨sm, us, h1, h2, h3⟩
    refine hd H' sm ⟨us, h1, h2, ?_⟩
    rw [h3, List.length_map, List.take_of_length_le (by rw [List.length_map]; exact Nat.le_refl _)]
theorem lc_nums {K : PySem.W.Frag} {l : Addr} {ps : List Pr} {g : TG} {tt : TT} {te : TE} {vs : List Nat} {σ : L2.St} {H1 : Hp} {D : Addr} {Qd : Hp → Prop} (f : Pr → Int) (hC : Cells H1 l ps) (nD : H1 D = none) (few : ps.length < sizeLine)
    (hs : ∀ (t : Addr) (x : Pr) (H' : Hp) (Po : V → Hp → Prop) (Pn : Hp → Prop), Same H1 H' → H' t = some (.tup [.int x.1, .int x.2]) → Po (.int (f x)) H' →
      g (.ref t) (wipe σ vs) H' fun σ2 H2 => wipe σ2 vs = wipe σ vs ∧ tt σ2 H2 fun b H3 => if b = true then te σ2 H3 Po else Pn H3)
    (hd : ∀ H', Same H1 H' → H' D = some (.lst ((ps.map f).map V.int)) → Qd H') :
    ∃ W : Nat → Nat → Hp → Prop, (∃ m, W 0 m (upd H1 D (.lst []))) ∧ ∀ i m H, W i m H →
      ((Itl K l).stop i H ∧ Qd H) ∨ ((Itl K l).go i H ∧ ∃ Nx : Hp → Prop, (∀ H', Nx H' → ∃ m', m' < m ∧ W (i + 1) m' H') ∧ ∀ x H', (Itl K l).yld i H x H' → g x (wipe σ vs) H' fun σ2 H2 => wipe σ2 vs = wipe σ vs ∧ tt σ2 H2 fun b H3 =>
        if b = true then te σ2 H3 fun y H4 => ∃ acc, H4 D = some (.lst acc) ∧ acc.length < sizeLine ∧ Nx (upd H4 D (.lst (acc ++ [y]))) else Nx H3) := by
  obtain ⟨ts, hl, ht, rfl⟩ := hC
  rw [List.length_map] at few
  refine lc_list (K := K) (a := l) (xs := ts.map fun t => V.ref t.1) (fun i H' => Same H1 H' ∧ H' D = some (.lst ((((ts.map (·.2)).take i).map f).map V.int)))
    ⟨newS nD, upd_same⟩ (fun i H' _ p => lst_of (p.1 _ _ hl)) ?_ ?_
  · rintro i x H' hi ⟨sm, h1⟩
    obtain ⟨t, mt, rfl, hp⟩ := item_cells (H := H') hi rfl
    refine hs t.1 t.2 H' _ _ sm (sm _ _ (ht t mt)) ⟨_, h1, ?_, mutS sm nD, ?_⟩
    · rw [List.length_map, List.length_map, List.length_take, List.length_map]
      omega
    · rw [upd_same, take_next hp, List.map_append, List.map_append]
      rfl
  · rintro H' ⟨sm, h1⟩
    rw [List.length_map, List.take_of_length_le (by rw [List.length_map]; exact Nat.le_refl _)] at h1
    exact hd H' sm h1
/-! ### one such list -/
def CanP (ps qs : List Pr) : Prop := qs.Pairwise ltP ∧ ∀ x, x ∈ qs ↔ x ∈ ps
theorem ltP_iff {p q : Pr} : ltP p q ↔ p.1 < q.1 ∨ (p.1 = q.1 ∧ p.2 < q.2) := SrtO.lexB_iff
theorem ascP_eq : ∀ {l m : List Pr}, l.Pairwise ltP → m.Pairwise ltP → (∀ k, k ∈ l ↔ k ∈ m) → l = m
  | [], [], _, _, _ => rfl
  | [], y :: m, _, _, h => absurd ((h y).mpr List.mem_cons_self) (by simp)
  | x :: l, [], _, _, h => absurd ((h x).mp List.mem_cons_self) (by simp)
  | x :: l, y :: m, hl, hm, h => by
    obtain ⟨h1, h2⟩ := List.pairwise_cons.mp hl
    obtain ⟨h3, h4⟩ := List.pairwise_cons.mp hm
    have irr : ∀ a b : Pr, ltP a b → ltP b a → False := fun a b p q => by
      have p := ltP_iff.mp p
      have q := ltP_iff.mp q
      omega
    have e : x = y := by
      rcases List.mem_cons.mp ((h x).mp List.mem_cons_self) with e | e
      · exact e
      · rcases List.mem_cons.mp ((h y).mpr List.mem_cons_self) with e2 | e2
        · exact e2.symm
        · exact (irr _ _ (h3 _ e) (h1 _ e2)).elim
    subst e
    rw [ascP_eq h2 h4 fun k => ?_]
    have q := h k
    constructor
    · intro hk
      rcases List.mem_cons.mp (q.mp (List.mem_cons_of_mem _ hk)) with e | e
      · have z := h1 _ hk
        rw [e] at z
        exact (irr _ _ z z).elim
      · exact e
    · intro hk
      rcases List.mem_cons.mp (q.mpr (List.mem_cons_of_mem _ hk)) with e | e
      · have z := h3 _ hk
        rw [e] at z
        exact (irr _ _ z z).elim
      · exact e
theorem canP_eq {ps qs m : List Pr} (h : CanP ps qs) (h2 : m.Pairwise ltP) (h3 : ∀ k, k ∈ ps ↔ k ∈ m) : qs = m := ascP_eq h.1 h2 fun k => (h.2 k).trans (h3 k)
/-! ### as data -/
def pd (p : Pr) : PyData := .tuple [.int p.1, .int p.2]
theorem eqv_pd (p q : Pr) : PyData.eqv (pd p) (pd q) = decide (p = q) := by
  show ((p.1 == q.1) && ((p.2 == q.2) && true)) = _
  obtain ⟨a, b⟩ := p
  obtain ⟨c, d⟩ := q
  by_cases e1 : a = c <;> by_cases e2 : b = d <;> simp [e1, e2]
theorem eqvAll_pd : ∀ (l m : List Pr), PyData.eqvAll (l.map pd) (m.map pd) = decide (l = m)
  | [], [] => by simp [PyData.eqvAll]
  | [], y :: m => by simp [PyData.eqvAll]
  | x :: l, [] => by simp [PyData.eqvAll]
  | x :: l, y :: m => by
    show (PyData.eqv (pd x) (pd y) && PyData.eqvAll (l.map pd) (m.map pd)) = _
    rw [eqvAll_pd l m, eqv_pd]
    by_cases e : x = y <;> by_cases e2 : l = m <;> simp [e, e2]
theorem eqv_cells (l m : List Pr) : PyData.eqv (.list (l.map pd)) (.list (m.map pd)) = decide (l = m) := eqvAll_pd l m
theorem canAll_pd : ∀ l : List Pr, PyData.canLayAll0 (l.map pd) = true
  | [] => by simp [PyData.canLayAll0]
  | x :: l => by
    rw [List.map_cons]
    simp [PyData.canLayAll0, PyData.canLay0, pd, canAll_pd l]
theorem depAll_pd : ∀ l : List Pr, PyData.depthAll (l.map pd) ≤ 1
  | [] => by simp [PyData.depthAll]
  | x :: l => by
    rw [List.map_cons]
    have := depAll_pd l
    simp only [PyData.depthAll, PyData.depth, pd]
    omega
theorem shaped_cells (l : List Pr) : SeqAt.shaped (.list (l.map pd)) = true := by
  unfold SeqAt.shaped
  have := depAll_pd l
  simp only [PyData.canLay0, PyData.depth, canAll_pd]
  simp
  omega
theorem dp_cells {K : PySem.W.Frag} {H : Hp} {a : Addr} {ps : List Pr} (h : Cells H a ps) : Dp K H (.ref a) (.list (ps.map pd)) := by
  obtain ⟨ts, hl, ht, rfl⟩ := h
  refine .lst (lst_of hl) ?_
  have go : ∀ us : List (Addr × Pr), (∀ t ∈ us, H t.1 = some (.tup [.int t.2.1, .int t.2.2])) → DpAll K H (us.map fun t => V.ref t.1) ((us.map (·.2)).map pd) := fun us => by
    induction us with
    | nil => exact fun _ => .nil
    | cons t us ih => exact fun h => .cons (.tup (tup_of (h t List.mem_cons_self)) (.cons (.int _) (.cons (.int _) .nil))) (ih fun u m => h u (List.mem_cons_of_mem _ m))
  exact go ts ht
/-! ### sorted, of such a list -/
def kH (H : Hp) : V → Pr
  | .ref a => match H a with
    | some (.tup [.int x, .int y]) => (x, y)
    | _ => (0, 0)
  | _ => (0, 0)
def adV : V → Addr
  | .ref a => a
  | _ => 0
theorem kH_at {H : Hp} {a : Addr} {x : Pr} (h : H a = some (.tup [.int x.1, .int x.2])) : kH H (.ref a) = x := by
  show (match H a with
    | some (.tup [.int x, .int y]) => (x, y)
    | _ => (0, 0)) = x
  rw [h]
theorem ltP_irr {a b : Pr} (p : ltP a b) (q : ltP b a) : False := by
  have p := ltP_iff.mp p
  have q := ltP_iff.mp q
  omega
theorem nodup_lt {l : List Pr} (h : l.Pairwise ltP) : l.Nodup := h.imp fun {a b} q e => by
  subst e
  exact ltP_irr q q
theorem cr_sortedC {X : Cx} : CallR X (.builtin "sorted") (fun xs H Q => ∃ l ps, xs = [V.ref l] ∧ Cells H l ps ∧ ps.Nodup ∧
    ∀ p H' qs, Same H H' → H p = none → Cells H' p qs → CanP ps qs → qs.length = ps.length → Q (.ref p) H') := by
  intro pins s σ H xs us Q I r h
  obtain ⟨l, ps, rfl, ⟨ts, hl, ht, rfl⟩, nd, q⟩ := h
  refine cr_sortedPO pins s σ H [V.ref l] us Q I r ⟨l, ts.map fun t => V.ref t.1, kH H, rfl, lst_of hl, fun x m => ?_, fun ys p srt stb n => ?_⟩
  · obtain ⟨t, m1, rfl⟩ := List.mem_map.mp m
    have g := ht t m1
    refine ⟨t.1, rfl, ?_⟩
    rw [kH_at g]
    exact g
  · have own : ∀ y ∈ ys, ∃ t ∈ ts, y = V.ref t.1 := fun y m => by
      obtain ⟨t, m1, e⟩ := List.mem_map.mp (stb.perm.mem_iff.mp m)
      exact ⟨t, m1, e.symm⟩
    have key : ∀ t ∈ ts, kH H (.ref t.1) = t.2 := fun t m => kH_at (ht t m)
    have pm : (ys.map (kH H)).Perm (ts.map (·.2)) := by
      have z := stb.perm.map (kH H)
      rw [List.map_map] at z
      rw [show ts.map (·.2) = ts.map (kH H ∘ fun t => V.ref t.1) from List.map_congr_left fun t m => (key t m).symm]
      exact z
    have sm : Same H (upd H p (.lst ys)) := newS n
    have eo : (ys.map fun v => (adV v, kH H v)).map (fun t => V.ref t.1) = ys := by
      rw [List.map_map]
      refine (List.map_congr_left fun v m => ?_).trans (List.map_id _)
      obtain ⟨t, _, rfl⟩ := own v m
      rfl
    refine q p _ (ys.map (kH H)) sm n ⟨ys.map fun v => (adV v, kH H v), ?_, fun u m => ?_, ?_⟩ ⟨?_, fun x => pm.mem_iff⟩ pm.length_eq
    · rw [eo, upd_same]
    · obtain ⟨v, m1, rfl⟩ := List.mem_map.mp m
      obtain ⟨t, m2, rfl⟩ := own v m1
      refine sm _ _ ?_
      show H t.1 = _
      rw [key t m2]
      exact ht t m2
    · rw [List.map_map]
      rfl
    · have nd2 : (ys.map (kH H)).Nodup := pm.nodup_iff.mpr nd
      refine List.pairwise_map.mpr ((srt.and (List.pairwise_map.mp nd2)).imp fun {u v} h => ?_)
      have a1 := SrtO.lexB_no.mp h.1
      have a2 : ¬ ((kH H u).1 = (kH H v).1 ∧ (kH H u).2 = (kH H v).2) := fun e => h.2 (Prod.ext e.1 e.2)
      refine ltP_iff.mpr ?_
      omega
/-! ### dicts whose keys are such pairs -/
def keyP (x : Pr) : List L2.Key := [Sum.inl x.1, Sum.inl x.2]
theorem keyP_inj {x y : Pr} (h : keyP x = keyP y) : x = y := by
  injection h with h1 h2
  injection h2 with h2 _
  exact Prod.ext (Sum.inl.inj h1) (Sum.inl.inj h2)
def KeysP (kvs : List (List L2.Key × V)) (ps : List Pr) : Prop := kvs.map (·.1) = ps.map keyP ∧ ps.Nodup
theorem KeysP.put {kvs : List (List L2.Key × V)} {ps : List Pr} (h : KeysP kvs ps) (x : Pr) (v : V) :
    ∃ qs, KeysP (putK kvs (keyP x) v) qs ∧ qs.length ≤ ps.length + 1 ∧ ∀ y, y ∈ qs ↔ y ∈ ps ∨ y = x := by
  have mem : (kvs.any fun kv => decide (kv.1 = keyP x)) = true ↔ x ∈ ps := by
    rw [List.any_eq_true]
    constructor
    · rintro ⟨kv, m, e⟩
      have m2 : kv.1 ∈ ps.map keyP := by
        rw [← h.1]
        exact List.mem_map.mpr ⟨kv, m, rfl⟩
      obtain ⟨y, my, ey⟩ := List.mem_map.mp m2
      rw [← keyP_inj (ey.trans (of_decide_eq_true e))]
      exact my
    · intro m
      have m2 : keyP x ∈ kvs.map (·.1) := by
        rw [h.1]
        exact List.mem_map.mpr ⟨x, m, rfl⟩
      obtain ⟨kv, mk, e⟩ := List.mem_map.mp m2
      exact ⟨kv, mk, decide_eq_true e⟩
  by_cases c : x ∈ ps
  · refine ⟨ps, ⟨?_, h.2⟩, by omega, fun y => ⟨.inl, fun z => z.elim id fun e => e ▸ c⟩⟩
    unfold putK
    rw [if_pos (mem.mpr c), List.map_map, ← h.1]
    refine List.map_congr_left fun kv _ => ?_
    show (if kv.1 = keyP x then (kv.1, v) else kv).1 = kv.1
    by_cases e : kv.1 = keyP x
    · rw [if_pos e]
    · rw [if_neg e]
  · refine ⟨ps ++ [x], ⟨?_, ?_⟩, by rw [List.length_append]; exact Nat.le_refl _, fun y => by rw [List.mem_append, List.mem_singleton]⟩
    · unfold putK
      rw [if_neg (fun z => c (mem.mp z)), List.map_append, List.map_append, h.1]
      rfl
    · refine List.pairwise_append.mpr ⟨h.2, List.pairwise_cons.mpr ⟨fun _ m => (by cases m), List.Pairwise.nil⟩, fun a ma b mb e => ?_⟩
      rw [List.mem_singleton.mp mb] at e
      exact c (e ▸ ma)
theorem KeysP.len {kvs : List (List L2.Key × V)} {ps : List Pr} (h : KeysP kvs ps) : kvs.length = ps.length := by
  have z := congrArg List.length h.1
  rw [List.length_map, List.length_map] at z
  exact z
theorem KeysP.at {kvs : List (List L2.Key × V)} {ps : List Pr} (h : KeysP kvs ps) {i : Nat} {k : List L2.Key} {v : V} (e : kvs[i]? = some (k, v)) : ∃ x, ps[i]? = some x ∧ k.map kV = [.int x.1, .int x.2] := by
  have z := congrArg (fun l => l[i]?) h.1
  simp only [List.getElem?_map] at z
  rw [e] at z
  cases q : ps[i]? with
  | none => rw [q] at z; cases z
  | some x =>
    rw [q] at z
    refine ⟨x, rfl, ?_⟩
    have : k = keyP x := Option.some.inj z
    rw [this]
    rfl
/-- the keys of such a dict, listed -/
theorem lc_keysP {d : Addr} {od : Obj} {kvs : List (List L2.Key × V)} {ps : List Pr} {vs : List Nat} {σ : L2.St} {H1 : Hp} {D : Addr} {Qd : Hp → Prop} {g : TG} {tt : TT} {te : TE} (hK : KeysP kvs ps) (hD : H1 d = some (.frz od (.dT kvs))) (nD : H1 D = none) (few : ps.length < sizeLine)
    (hs : ∀ (t : Addr) (x : Pr) (H' : Hp) (Po : V → Hp → Prop) (Pn : Hp → Prop), H' t = some (.tup [.int x.1, .int x.2]) → Po (.ref t) H' →
      g (.ref t) (wipe σ vs) H' fun σ2 H2 => wipe σ2 vs = wipe σ vs ∧ tt σ2 H2 fun b H3 => if b = true then te σ2 H3 Po else Pn H3)
    (hd : ∀ H', Same H1 H' → Cells H' D ps → Qd H') :
    ∃ W : Nat → Nat → Hp → Prop, (∃ m, W 0 m (upd H1 D (.lst []))) ∧ ∀ i m H, W i m H →
      ((Itkt d od kvs).stop i H ∧ Qd H) ∨ ((Itkt d od kvs).go i H ∧ ∃ Nx : Hp → Prop, (∀ H', Nx H' → ∃ m', m' < m ∧ W (i + 1) m' H') ∧ ∀ x H', (Itkt d od kvs).yld i H x H' → g x (wipe σ vs) H' fun σ2 H2 => wipe σ2 vs = wipe σ vs ∧ tt σ2 H2 fun b H3 =>
        if b = true then te σ2 H3 fun y H4 => ∃ acc, H4 D = some (.lst acc) ∧ acc.length < sizeLine ∧ Nx (upd H4 D (.lst (acc ++ [y]))) else Nx H3) := by
  have len := hK.len
  refine lc_it walk_keysT (fun i H' => Same H1 H' ∧ ∃ us : List (Addr × Pr), H' D = some (.lst (us.map fun t => V.ref t.1)) ∧ (∀ t ∈ us, H' t.1 = some (.tup [.int t.2.1, .int t.2.2])) ∧ us.map (·.2) = ps.take i)
    ⟨newS nD, [], upd_same, fun _ m => (by cases m), rfl⟩ (fun i H' _ p => p.1 _ _ hD) ?_ ?_
  · rintro i x H' H2 hi ⟨sm, us, h1, h2, h3⟩ ⟨rfl, k, v, q, e, rfl, hq⟩
    obtain ⟨y, hy, ek⟩ := hK.at e
    rw [ek] at hq
    have ul : us.length = i := by
      have z := congrArg List.length h3
      rw [List.length_map, List.length_take] at z
      omega
    refine hs q y _ _ _ hq ⟨_, h1, ?_, mutS sm nD, us ++ [(q, y)], ?_, ?_, ?_⟩
    · rw [List.length_map]
      omega
    · rw [upd_same, List.map_append]
      rfl
    · intro u m
      have off : ∀ z : Addr × Pr, H2 z.1 = some (.tup [.int z.2.1, .int z.2.2]) → upd H2 D (.lst ((us.map fun t => V.ref t.1) ++ [V.ref q])) z.1 = some (.tup [.int z.2.1, .int z.2.2]) := fun z g => by
        rw [upd_ne (fun e => ?_)]
        · exact g
        · rw [e, h1] at g
          cases g
      rcases List.mem_append.mp m with m | m
      · exact off u (h2 u m)
      · rw [List.mem_singleton.mp m]
        exact off (q, y) hq
    · rw [List.map_append, h3, take_next hy]
      rfl
  · rintro H' ⟨sm, us, h1, h2, h3⟩
    refine hd H' sm ⟨us, h1, h2, ?_⟩
    rw [h3, List.take_of_length_le (by omega)]
/-- such a list outlives a change of an object that is no tuple and not the list -/
theorem Cells.mut {H : Hp} {l d : Addr} {ps : List Pr} {o : HO} (h : Cells H l ps) (ne : l ≠ d) (nt : ∀ xs, H d ≠ some (.tup xs)) : Cells (upd H d o) l ps := by
  obtain ⟨ts, h1, h2, h3⟩ := h
  refine ⟨ts, by rw [upd_ne ne]; exact h1, fun t m => ?_, h3⟩
  rw [upd_ne (fun e => nt _ (e ▸ h2 t m))]
  exact h2 t m
theorem cells_mk {H : Hp} {l : Addr} (us : List (Addr × Pr)) (h : H l = some (.lst (us.map fun t => V.ref t.1))) (ht : ∀ u ∈ us, H u.1 = some (.tup [.int u.2.1, .int u.2.2])) : Cells H l (us.map (·.2)) := ⟨us, h, ht, rfl⟩
def cutT {α : Type} (ts : List α) (lo hi : Option Int) : List α := (ts.drop (HT.sIx ts.length 0 lo)).take (HT.sIx ts.length ts.length hi - HT.sIx ts.length 0 lo)
theorem cutV_map {α : Type} (f : α → V) (ts : List α) (lo hi : Option Int) : cutV (ts.map f) lo hi = (cutT ts lo hi).map f := by
  unfold cutV cutT
  rw [List.length_map, List.map_take, List.map_drop]
theorem cutT_mem {α : Type} {ts : List α} {lo hi : Option Int} {x : α} (h : x ∈ cutT ts lo hi) : x ∈ ts := List.mem_of_mem_drop (List.mem_of_mem_take h)
theorem cutT_len {α : Type} (ts : List α) (lo hi : Option Int) : (cutT ts lo hi).length ≤ ts.length := by
  unfold cutT
  rw [List.length_take, List.length_drop]
  omega
theorem eq_cells {l m : List Pr} (h : l = m) : V.bl (PyData.eqv (.list (l.map pd)) (.list (m.map pd))) = V.bl true := by
  rw [eqv_cells, decide_eq_true h]
theorem ne_cells {l m : List Pr} (h : l = m) : V.bl (!PyData.eqv (.list (l.map pd)) (.list (m.map pd))) = V.bl false := by
  rw [eqv_cells, decide_eq_true h] <;> rfl
theorem pw_map {f : Pr → Pr} (hf : ∀ x y, ltP x y → ltP (f x) (f y)) {l : List Pr} (h : l.Pairwise ltP) : (l.map f).Pairwise ltP := List.pairwise_map.mpr (h.imp fun {x y} q => hf x y q)
theorem nodup_map {f : Pr → Pr} (hf : ∀ x y, f x = f y → x = y) {l : List Pr} (h : l.Nodup) : (l.map f).Nodup := List.pairwise_map.mpr (h.imp fun {x y} q e => q (hf x y e))
theorem mem_map2 {f : Pr → Pr} {l m : List Pr} (h : ∀ x, x ∈ l ↔ x ∈ m) (k : Pr) : k ∈ l.map f ↔ k ∈ m.map f := by
  rw [List.mem_map, List.mem_map]
  exact ⟨fun ⟨x, m1, e⟩ => ⟨x, (h x).mp m1, e⟩, fun ⟨x, m1, e⟩ => ⟨x, (h x).mpr m1, e⟩⟩
theorem wipe2 (σ : L2.St) (i j : Nat) (a b : Option V) : wipe (((wipe σ [i, j]).set i a).set j b) [i, j] = wipe σ [i, j] := by
  refine List.ext_getElem? fun k => ?_
  show ((((((σ.set j none).set i none).set i a).set j b).set j none).set i none)[k]? = ((σ.set j none).set i none)[k]?
  simp only [List.getElem?_set, List.length_set]
  by_cases e1 : i = k <;> by_cases e2 : j = k <;> by_cases e3 : k < σ.length <;> simp [e1, e2, e3]
end Vx
namespace Vx
open PySem PySem.Spec PyProof.Rows L2
/-! ### sets of many tuples: i -> 5 i + 1 meets every slot of a table of 2 ^ n slots -/
def S5 : Nat → Nat
  | 0 => 0
  | n + 1 => 5 * S5 n + 1
def T5 (i : Nat) : Nat → Nat
  | 0 => i
  | n + 1 => 5 * T5 i n + 1
theorem T5_S5 (i : Nat) : ∀ d, T5 i d = i + S5 d * (4 * i + 1)
  | 0 => by simp [T5, S5]
  | d + 1 => by
    show 5 * T5 i d + 1 = i + (5 * S5 d + 1) * (4 * i + 1)
    rw [T5_S5 i d, Nat.add_mul, Nat.mul_assoc]
    generalize S5 d * (4 * i + 1) = z
    omega
theorem T5_add (i d : Nat) : ∀ a, T5 i (d + a) = T5 i a + 5 ^ a * (S5 d * (4 * i + 1))
  | 0 => by
    show T5 i d = i + 5 ^ 0 * _
    rw [T5_S5, Nat.pow_zero, Nat.one_mul]
  | a + 1 => by
    show 5 * T5 i (d + a) + 1 = 5 * T5 i a + 1 + 5 ^ (a + 1) * _
    rw [T5_add i d a, Nat.pow_succ, Nat.mul_comm (5 ^ a) 5, Nat.mul_assoc]
    omega
theorem S5_two (e : Nat) : S5 (2 * e) = (5 ^ e + 1) * S5 e := by
  have h := T5_add 0 e e
  have z : ∀ n, T5 0 n = S5 n := fun n => by rw [T5_S5]; simp
  rw [z, z] at h
  rw [show 2 * e = e + e by omega, h, Nat.add_mul]
  simp
  omega
theorem S5_par : ∀ d, S5 d % 2 = d % 2
  | 0 => rfl
  | d + 1 => by
    have := S5_par d
    show (5 * S5 d + 1) % 2 = (d + 1) % 2
    omega
theorem five4 : ∀ e, ∃ q, 5 ^ e = 4 * q + 1
  | 0 => ⟨0, rfl⟩
  | e + 1 => by
    obtain ⟨q, h⟩ := five4 e
    refine ⟨5 * q + 1, ?_⟩
    rw [Nat.pow_succ, h]
    omega
/-- an odd factor is of no help -/
theorem strip_odd {o : Nat} (ho : o % 2 = 1) : ∀ (k x : Nat), 2 ^ k ∣ o * x → 2 ^ k ∣ x
  | 0, x, _ => by simp
  | k + 1, x, h => by
    have h2 : 2 ∣ o * x := Nat.dvd_trans ⟨2 ^ k, by rw [Nat.pow_succ, Nat.mul_comm]⟩ h
    have hx : x % 2 = 0 := by
      have : (o * x) % 2 = 0 := Nat.mod_eq_zero_of_dvd h2
      rw [Nat.mul_mod, ho, Nat.one_mul, Nat.mod_mod] at this
      exact this
    obtain ⟨y, rfl⟩ : ∃ y, x = 2 * y := ⟨x / 2, by omega⟩
    rw [show o * (2 * y) = 2 * (o * y) by rw [Nat.mul_left_comm], Nat.pow_succ, Nat.mul_comm (2 ^ k) 2] at h
    rw [Nat.pow_succ, Nat.mul_comm (2 ^ k) 2]
    exact Nat.mul_dvd_mul_left 2 (strip_odd ho k y (Nat.dvd_of_mul_dvd_mul_left (by decide) h))
theorem S5_dvd : ∀ (k d : Nat), 2 ^ k ∣ S5 d → 2 ^ k ∣ d
  | 0, d, _ => by simp
  | k + 1, d, h => by
    have h2 : 2 ∣ S5 d := Nat.dvd_trans ⟨2 ^ k, by rw [Nat.pow_succ, Nat.mul_comm]⟩ h
    have hd : d % 2 = 0 := by
      rw [← S5_par]
      exact Nat.mod_eq_zero_of_dvd h2
    obtain ⟨e, rfl⟩ : ∃ e, d = 2 * e := ⟨d / 2, by omega⟩
    obtain ⟨q, hq⟩ := five4 e
    rw [S5_two, hq, show 4 * q + 1 + 1 = 2 * (2 * q + 1) by omega, Nat.mul_assoc, Nat.pow_succ, Nat.mul_comm (2 ^ k) 2] at h
    rw [Nat.pow_succ, Nat.mul_comm (2 ^ k) 2]
    exact Nat.mul_dvd_mul_left 2 (S5_dvd k e (strip_odd (by omega) k _ (Nat.dvd_of_mul_dvd_mul_left (by decide) h)))
/-- the masks -/
def Mk (m : Nat) : Prop := ∃ k, m + 1 = 2 ^ k ∧ 3 ≤ k ∧ k ≤ 13
theorem lcgI_T5 {m i : Nat} (hi : i ≤ m) : ∀ n, lcgI m i n = T5 i n % (m + 1)
  | 0 => (Nat.mod_eq_of_lt (Nat.lt_succ_of_le hi)).symm
  | n + 1 => by
    show (lcgI m i n * 5 + 1) % (m + 1) = (5 * T5 i n + 1) % (m + 1)
    rw [lcgI_T5 hi n, Nat.add_mod, Nat.mul_mod, Nat.mod_mod, ← Nat.mul_mod, ← Nat.add_mod, Nat.mul_comm]
theorem lcgI_ne {m i a d : Nat} (hm : Mk m) (hi : i ≤ m) (d0 : 0 < d) (hd : d ≤ m) : lcgI m i (d + a) ≠ lcgI m i a := fun e => by
  obtain ⟨k, ek, _⟩ := hm
  rw [lcgI_T5 hi, lcgI_T5 hi] at e
  have z := Nat.sub_mod_eq_zero_of_mod_eq e
  rw [T5_add, Nat.add_sub_cancel_left, ek] at z
  obtain ⟨q, hq⟩ := five4 a
  have z1 := strip_odd (show 5 ^ a % 2 = 1 by omega) k _ (Nat.dvd_of_mod_eq_zero z)
  rw [Nat.mul_comm] at z1
  have z2 := S5_dvd k d (strip_odd (show (4 * i + 1) % 2 = 1 by omega) k _ z1)
  have := Nat.le_of_dvd d0 z2
  omega
theorem lcgI_lt {m i : Nat} (hi : i ≤ m) : ∀ n, lcgI m i n ≤ m
  | 0 => hi
  | n + 1 => Nat.le_of_lt_succ (Nat.mod_lt _ (Nat.succ_pos _))
theorem lcgI_on {m i j : Nat} (hm : Mk m) (hi : i ≤ m) (hj : j ≤ m) : ∃ n, n ≤ m ∧ lcgI m i n = j := by
  refine Classical.byContradiction fun no => ?_
  have nd : (j :: (List.range (m + 1)).map (lcgI m i)).Nodup := by
    refine List.nodup_cons.mpr ⟨fun mj => ?_, ?_⟩
    · obtain ⟨n, mn, e⟩ := List.mem_map.mp mj
      exact no ⟨n, Nat.le_of_lt_succ (List.mem_range.mp mn), e⟩
    · refine List.pairwise_map.mpr (List.Pairwise.imp_of_mem (fun {a b} ma mb ab e => ?_) List.pairwise_lt_range)
      have := List.mem_range.mp mb
      have ab : a < b := ab
      refine lcgI_ne (a := a) (d := b - a) hm hi (by omega) (by omega) ?_
      rw [show b - a + a = b by omega]
      exact e.symm
  have := nat_nodup_len _ (List.range (m + 1)) nd fun x mx => by
    rcases List.mem_cons.mp mx with e | mx
    · rw [e]
      exact List.mem_range.mpr (Nat.lt_succ_of_le hj)
    · obtain ⟨n, _, rfl⟩ := List.mem_map.mp mx
      exact List.mem_range.mpr (Nat.lt_succ_of_le (lcgI_lt hi n))
  rw [List.length_cons, List.length_map, List.length_range] at this
  omega
theorem runs_on {m j : Nat} (hm : Mk m) (h : Int) (hj : j ≤ m) : ∃ n, n ≤ m + 12 ∧ runI m (SetTable.bits h) n = j := by
  obtain ⟨n, ln, e⟩ := lcgI_on hm (runI_le m (SetTable.bits h) 12) hj
  refine ⟨12 + n, by omega, ?_⟩
  rw [runI_tail (bits_lt h)]
  exact e
theorem way_top {m : Nat} (h : Int) (c : Nat) : way m h c ≤ m := by
  have b := runEnd_bd (m := m) (i := SetTable.bits h % (m + 1)) (Nat.le_of_lt_succ (Nat.mod_lt _ (Nat.succ_pos _)))
  have z := nth_in (m := m) c (runAt m (SetTable.bits h % (m + 1)) (SetTable.bits h)) (by
    show _ % (m + 1) + (SetTable.runEnd m _ - _) ≤ m
    omega)
  have z : way m h c + _ ≤ m := z
  omega
theorem way_on {m j : Nat} (hm : Mk m) (h : Int) (hj : j ≤ m) : ∃ c, c < 10 * SetTable.turns m ∧ way m h c = j := by
  obtain ⟨n, ln, e⟩ := runs_on hm h hj
  obtain ⟨c, lc, e2⟩ := run_nth m (SetTable.bits h) n
  refine ⟨c, ?_, ?_⟩
  · have : SetTable.turns m = m + 15 := rfl
    omega
  · show (nth m _ c).j = j
    rw [e2]
    exact e
/-! ### the table -/
structure Tab (t : SetTable) (hs : List Int) : Prop where
  up : Ris t.place.toList
  nodum : t.dummies = #[]
  size : t.place.size = hs.length
  pow : Mk t.mask
  top : ∀ x ∈ t.place.toList, x ≤ t.mask
  met : ∀ (i : Nat) (g : Int) (j : Nat), hs[i]? = some g → t.place.toList[i]? = some j → ∃ c, way t.mask g c = j ∧ ∀ d < c, way t.mask g d ∈ t.place.toList
theorem Tab.len {t : SetTable} {hs : List Int} (T : Tab t hs) : t.place.toList.length = hs.length := Array.length_toList.trans T.size
theorem Mk.odd {m : Nat} (h : Mk m) : m % 2 = 1 := by
  obtain ⟨k, e, k3, _⟩ := h
  obtain ⟨j, rfl⟩ : ∃ j, k = j + 1 := ⟨k - 1, by omega⟩
  rw [Nat.pow_succ] at e
  omega
theorem Mk.le {m : Nat} (h : Mk m) : m ≤ 8191 := by
  obtain ⟨k, e, _, k13⟩ := h
  have : 2 ^ k ≤ 2 ^ 13 := Nat.pow_le_pow_right (by decide) k13
  omega
/-- where a search ends -/
theorem Tab.gap {t : SetTable} {hs : List Int} (T : Tab t hs) (l : hs.length ≤ t.mask) (g : Int) : ∃ c, c < 10 * SetTable.turns t.mask ∧ way t.mask g c ∉ t.place.toList ∧ ∀ d < c, way t.mask g d ∈ t.place.toList := by
  obtain ⟨j, lj, nj⟩ := st_missing t.place.toList (t.mask + 1) (by rw [T.len]; omega)
  obtain ⟨c0, l0, e0⟩ := way_on T.pow g (Nat.le_of_lt_succ lj)
  obtain ⟨c, lc, hc, low⟩ := st_least (p := fun c => way t.mask g c ∉ t.place.toList) c0 (by rw [e0]; exact nj)
  exact ⟨c, by omega, hc, fun d ld => Classical.not_not.mp (low d ld)⟩
/-- what is in the table is met before that -/
theorem Tab.ahead {t : SetTable} {hs : List Int} (T : Tab t hs) {g : Int} {c i j : Nat} (hc : way t.mask g c ∉ t.place.toList) (hi : hs[i]? = some g) (hj : t.place.toList[i]? = some j) : ∃ d < c, way t.mask g d = j := by
  obtain ⟨d, e, low⟩ := T.met i g j hi hj
  refine ⟨d, Nat.lt_of_not_le fun le => ?_, e⟩
  rcases Nat.eq_or_lt_of_le le with q | q
  · refine hc ?_
    rw [q, e]
    exact List.mem_of_getElem? hj
  · exact hc (low c q)
/-- one more -/
theorem Tab.more {t : SetTable} {hs : List Int} (T : Tab t hs) {g : Int} {c : Nat} (hc : way t.mask g c ∉ t.place.toList) (low : ∀ d < c, way t.mask g d ∈ t.place.toList) :
    ∃ p, (t.put (way t.mask g c)).2 = p ∧ p ≤ hs.length ∧ Tab (t.put (way t.mask g c)).1 (hs.take p ++ g :: hs.drop p) ∧ (t.put (way t.mask g c)).1.fill = hs.length + 1 := by
  obtain ⟨j, hj⟩ : ∃ j, way t.mask g c = j := ⟨_, rfl⟩
  have jt : j ≤ t.mask := hj ▸ way_top g c
  rw [hj] at hc ⊢
  have cut := (below_cut T.up j).1
  refine ⟨SetTable.below t.place j, rfl, T.size ▸ cut, ?_, ?_⟩
  · have lh : SetTable.below t.place j ≤ hs.length := T.size ▸ cut
    have lp : SetTable.below t.place j ≤ t.place.toList.length := T.len ▸ lh
    have pl := put_place t j
    have into : ∀ {x : Nat}, x ∈ t.place.toList → x ∈ (t.put j).1.place.toList := fun h => by
      rw [pl]
      exact L2.mem_ins.mpr (.inr h)
    constructor
    · exact ris_insert T.up fun e => hc (List.mem_of_getElem? ((Array.getElem?_toList).trans e))
    · exact put_dm T.nodum j
    · rw [len_ins hs lh, ← T.len, ← len_ins _ lp j, ← pl, Array.length_toList]
    · exact T.pow
    · intro x mx
      rw [pl] at mx
      exact (L2.mem_ins.mp mx).elim (fun e => e ▸ jt) (T.top x)
    · intro i g' j' hg' hj'
      show ∃ c', way t.mask g' c' = j' ∧ ∀ d < c', way t.mask g' d ∈ (t.put j).1.place.toList
      rw [tins_get hs lh] at hg'
      rw [pl, tins_get _ lp] at hj'
      have old : ∀ n, hs[n]? = some g' → t.place.toList[n]? = some j' → ∃ c', way t.mask g' c' = j' ∧ ∀ d < c', way t.mask g' d ∈ (t.put j).1.place.toList := fun n a b => by
        obtain ⟨c', e, low'⟩ := T.met n g' j' a b
        exact ⟨c', e, fun d ld => into (low' d ld)⟩
      rcases Nat.lt_trichotomy i (SetTable.below t.place j) with z | z | z
      · rw [if_pos z] at hg' hj'
        exact old i hg' hj'
      · have nz : ¬ i < SetTable.below t.place j := by omega
        rw [if_neg nz, if_pos z] at hg' hj'
        cases hg'
        cases hj'
        exact ⟨c, hj, fun d ld => into (low d ld)⟩
      · have nz : ¬ i < SetTable.below t.place j := by omega
        have ne : ¬ i = SetTable.below t.place j := by omega
        rw [if_neg nz, if_neg ne] at hg' hj'
        exact old (i - 1) hg' hj'
  · have lh : SetTable.below t.place j ≤ hs.length := T.size ▸ cut
    have lp : SetTable.below t.place j ≤ t.place.toList.length := T.len ▸ lh
    show (t.put j).1.place.size + (t.put j).1.dummies.size = _
    rw [put_dm T.nodum j, ← Array.length_toList, put_place, len_ins _ lp, T.len]
    rfl
/-! ### laid anew -/
theorem gap_free {m : Nat} (hm : Mk m) (ow : Array (Option Nat)) (g : Int) {j : Nat} (hj : j ≤ m) (fr : oAt ow j = none) :
    ∃ c, SetTable.layClean.free m ow (SetTable.turns m) (SetTable.bits g % (m + 1)) (SetTable.bits g) = some (way m g c) ∧ oAt ow (way m g c) = none ∧ ∀ d < c, oAt ow (way m g d) ≠ none := by
  obtain ⟨n, ln, e⟩ := runs_on hm g hj
  have at_n : way m g (off m (SetTable.bits g % (m + 1)) (SetTable.bits g) n) = j := by
    unfold way
    rw [nth_off, itL_run]
    exact e
  obtain ⟨c, lc, hc, low⟩ := st_least (p := fun c => oAt ow (way m g c) = none) _ (by rw [at_n]; exact fr)
  have t15 : SetTable.turns m = m + 15 := rfl
  refine ⟨c, free_spec m ow _ n _ _ c (by omega) lc (fun d ld => ?_) ?_, hc, low⟩
  · show (oAt ow (way m g d)).isNone = false
    cases z : oAt ow (way m g d) with
    | none => exact (low d ld z).elim
    | some _ => rfl
  · show (oAt ow (way m g c)).isNone = true
    rw [hc]
    rfl
theorem own_next {m : Nat} (hm : Mk m) {hs : List Int} {ow : Array (Option Nat)} (W : Own m hs ow) (l : hs.length ≤ m) (g : Int) :
    ∃ j, SetTable.layClean.free m ow (SetTable.turns m) (SetTable.bits g % (m + 1)) (SetTable.bits g) = some j ∧ Own m (hs ++ [g]) (ow.setIfInBounds j (some hs.length)) := by
  obtain ⟨us, lu, hu⟩ := W.ps
  obtain ⟨j0, l0, n0⟩ := st_missing us (m + 1) (by omega)
  have f0 : oAt ow j0 = none := Classical.byContradiction fun z => n0 (hu j0 (Nat.le_of_lt_succ l0) z)
  obtain ⟨c, e, hc, low⟩ := gap_free hm ow g (Nat.le_of_lt_succ l0) f0
  obtain ⟨j, ej⟩ : ∃ j, way m g c = j := ⟨_, rfl⟩
  have jm : j ≤ m := ej ▸ way_top g c
  rw [ej] at e hc
  have js : j < ow.size := by
    rw [W.sz]
    omega
  refine ⟨j, e, ?_⟩
  have here := oAt_set_self (some hs.length) js
  have there : ∀ {i : Nat}, i ≠ j → oAt (ow.setIfInBounds j (some hs.length)) i = oAt ow i := fun ne => oAt_set_ne _ ne
  have keep : ∀ {i : Nat}, oAt ow i ≠ none → oAt (ow.setIfInBounds j (some hs.length)) i ≠ none := fun {i} h => by
    by_cases z : i = j
    · rw [z, here]
      intro y
      cases y
    · rwa [there z]
  constructor
  · rw [Array.size_setIfInBounds, W.sz]
  · intro i k li hk
    by_cases z : i = j
    · rw [z, here] at hk
      cases hk
      exact ⟨g, c, by simp, ej.trans z.symm, fun d ld => keep (low d ld)⟩
    · rw [there z] at hk
      obtain ⟨g', c', a1, a2, a3⟩ := W.at_ i k li hk
      exact ⟨g', c', by rw [List.getElem?_append_left (List.getElem?_eq_some_iff.mp a1).1, a1], a2, fun d ld => keep (a3 d ld)⟩
  · intro k lk
    by_cases z : k = hs.length
    · subst z
      exact ⟨j, jm, here⟩
    · obtain ⟨i, li, hi⟩ := W.all k (by rw [List.length_append, List.length_singleton] at lk; omega)
      refine ⟨i, li, ?_⟩
      rwa [there fun y => ?_]
      rw [y, hc] at hi
      cases hi
  · refine ⟨j :: us, by simp [lu], fun i li hi => ?_⟩
    by_cases z : i = j
    · rw [z]
      exact List.mem_cons_self
    · rw [there z] at hi
      exact List.mem_cons_of_mem _ (hu i li hi)
theorem own_all {m : Nat} (hm : Mk m) : ∀ (gs hs : List Int) (ow : Array (Option Nat)), Own m hs ow → hs.length + gs.length ≤ m →
    ∃ ow', gs.foldl (stepF m) (some (ow, hs.length)) = some (ow', hs.length + gs.length) ∧ Own m (hs ++ gs) ow'
  | [], hs, ow, W, _ => ⟨ow, rfl, by rwa [List.append_nil]⟩
  | g :: gs, hs, ow, W, l => by
    rw [List.length_cons] at l ⊢
    obtain ⟨j, e, W1⟩ := own_next hm W (by omega) g
    have l1 : (hs ++ [g]).length = hs.length + 1 := by simp
    obtain ⟨ow', f, W2⟩ := own_all hm gs _ _ W1 (by omega)
    rw [l1] at f
    rw [List.append_assoc] at W2
    refine ⟨ow', ?_, W2⟩
    rw [List.foldl_cons, stepF_some e, f]
    congr 2
    omega
theorem lay_all {m : Nat} (hm : Mk m) {hs : Array Int} (l : hs.size ≤ m) : ∃ ow, SetTable.layClean m hs = some ow ∧ Own m hs.toList ow := by
  obtain ⟨ow, f, W⟩ := own_all hm hs.toList [] _ (Own.init m) (by rw [Array.length_toList]; show 0 + hs.size ≤ m; omega)
  rw [List.nil_append] at W
  refine ⟨ow, ?_, W⟩
  rw [layClean_eq]
  have f : hs.toList.foldl (stepF m) (some (Array.replicate (m + 1) none, 0)) = some (ow, _) := f
  rw [f]
  rfl
theorem relaid_tab (t : SetTable) {hs : Array Int} {wt m : Nat} (hw : SetTable.sizeAbove wt = m + 1) (hm : Mk m) (l : hs.size ≤ m) :
    ∃ t' od, t.relaid hs wt = some (t', od) ∧ od.toList.Perm (List.range hs.size) ∧ Tab t' (od.toList.map fun i => hs.getD i 0) ∧ t'.mask = m ∧ t'.led = t.led ∧ t'.plain = t.plain := by
  obtain ⟨ow, e, W⟩ := lay_all hm l
  have hw' : SetTable.sizeAbove wt - 1 = m := by omega
  have live := @mem_live m ow W.sz
  have ris := ris_live (fun j => ow.getD j none) (List.range (m + 1)) (show List.Pairwise (· < ·) _ from List.pairwise_lt_range)
  have nd : ((liveOf m ow).map (·.1)).Nodup := List.Pairwise.imp (fun {a b} (h : a < b) => Nat.ne_of_lt h) (show List.Pairwise (· < ·) ((liveOf m ow).map (·.1)) from ris.1)
  have size : (liveOf m ow).length = hs.size := by
    refine Nat.le_antisymm ?_ ?_
    · obtain ⟨us, lu, hu⟩ := W.ps
      have := nat_nodup_len _ us nd fun x mx => by
        obtain ⟨⟨y, k⟩, my, rfl⟩ := List.mem_map.mp mx
        obtain ⟨z1, z2⟩ := live.mp my
        exact hu y z1 (by rw [z2]; intro q; cases q)
      rwa [List.length_map, lu, Array.length_toList] at this
    · have := nat_nodup_len (List.range hs.size) ((liveOf m ow).map (·.2)) List.nodup_range fun k mk => by
        obtain ⟨j, z1, z2⟩ := W.all k (by rw [Array.length_toList]; exact List.mem_range.mp mk)
        exact List.mem_map.mpr ⟨(j, k), live.mpr ⟨z1, z2⟩, rfl⟩
      rwa [List.length_range, List.length_map] at this
  refine ⟨tabOf t m ow, ((liveOf m ow).map (·.2)).toArray, ?_, ?_, ?_, rfl, rfl, rfl⟩
  · rw [relaid_eq, hw', e]
    rfl
  · refine perm_range _ _ (by simp [size]) fun k lk => ?_
    obtain ⟨j, z1, z2⟩ := W.all k (by rw [Array.length_toList]; exact lk)
    exact List.mem_map.mpr ⟨(j, k), live.mpr ⟨z1, z2⟩, rfl⟩
  · refine ⟨ris.1, rfl, ?_, hm, fun x mx => Nat.le_of_lt_succ (List.mem_range.mp (ris.2 x mx)), fun i g j hg hj => ?_⟩
    · show ((liveOf m ow).map (·.1)).toArray.size = _
      simp
    · have hg : (((liveOf m ow).map (·.2)).map fun i => hs.getD i 0)[i]? = some g := hg
      have hj : ((liveOf m ow).map (·.1))[i]? = some j := hj
      rw [List.getElem?_map] at hj
      obtain ⟨⟨y, k⟩, hq, rfl⟩ := Option.map_eq_some_iff.mp hj
      rw [List.getElem?_map, List.getElem?_map, hq] at hg
      have hg : hs.getD k 0 = g := Option.some.inj hg
      obtain ⟨z1, z2⟩ := live.mp (List.mem_of_getElem? hq)
      obtain ⟨g', c, a1, a2, a3⟩ := W.at_ y k z1 z2
      have eg : g' = g := by
        rw [← hg, Array.getD_eq_getD_getElem?, ← Array.getElem?_toList, a1]
        rfl
      subst eg
      refine ⟨c, a2, fun d ld => ?_⟩
      show way m g' d ∈ (liveOf m ow).map (·.1)
      cases q : oAt ow (way m g' d) with
      | none => exact (a3 d ld q).elim
      | some k' => exact List.mem_map.mpr ⟨(_, k'), live.mpr ⟨way_top g' d, q⟩, rfl⟩
end Vx
namespace Vx
open PySem PySem.Spec PyProof.Rows L2
/-! ### a set of up to some thousand tuples -/
def seat (m : Nat) (g : Int) (c : Nat) : SetTable.Probe := nth m (runAt m (SetTable.bits g % (m + 1)) (SetTable.bits g)) c
theorem seat_j (m : Nat) (g : Int) (c : Nat) : (seat m g c).j = way m g c := rfl
theorem seat_add (m : Nat) (g : Int) (c q : Nat) : nth m (seat m g c) q = seat m g (c + q) := (nth_add m c _ q).symm
theorem nth_dummy (m : Nat) : ∀ (n : Nat) (p : SetTable.Probe), p.dummy = none → (nth m p n).dummy = none
  | 0, _, h => h
  | n + 1, p, h => nth_dummy m n (adv m p) (by unfold adv; split <;> exact h)
theorem seat_dummy (m : Nat) (g : Int) (c : Nat) : (seat m g c).dummy = none := nth_dummy m c _ rfl
abbrev hashes (P : Program) (w : World) (L : List (Addr × List Int)) : List Int := L.map fun p => thash P w p.2
structure MT (P : Program) (w : World) (h : Heap) (a : Addr) (L : List (Addr × List Int)) (es : Array (Int × Value)) (ep : Nat) (t : SetTable) : Prop where
  obj : ∃ o, h.get? a = some o ∧ o.ExactSet ∧ o.data = .set es ep t
  rws : es.toList = rowsOf P w L
  tb : Tab t (hashes P w L)
  ndp : (L.map (·.2)).Nodup
  tps : ∀ p ∈ L, IsT P w h p.2 p.1
  pln : t.plain = true
  ld : w.params.followText "set-order" = true ∨ t.led = true
  roomy : L.length * 5 < t.mask * 3
section
variable {P : Program} {w : World} {A : Around} {E : Value → Shared → Prop} {s : Shared} {a : Addr} {L : List (Addr × List Int)} {es : Array (Int × Value)} {ep : Nat} {t : SetTable}
theorem rows_size (h : es.toList = rowsOf P w L) : es.size = L.length := by
  rw [← Array.length_toList, h]
  exact List.length_map _
theorem MT.sz (R : MT P w s.heap a L es ep t) : es.size = L.length := rows_size R.rws
theorem MT.place (R : MT P w s.heap a L es ep t) : t.place.size = L.length := R.tb.size.trans (List.length_map _)
theorem fits_of {n : Nat} (h1 : t.place.size = n) (h2 : t.dummies = #[]) (h3 : n ≤ t.mask) : t.fits n = true := by
  unfold SetTable.fits SetTable.fill
  rw [h2, h1]
  simp [h3]
theorem MT.fit (R : MT P w s.heap a L es ep t) : t.fits es.size = true := by
  have := R.roomy
  have := R.sz
  exact fits_of (R.place.trans R.sz.symm) R.tb.nodum (by omega)
theorem MT.row (R : MT P w s.heap a L es ep t) {i : Nat} {p : Addr × List Int} (h : L[i]? = some p) : es[i]? = some (thash P w p.2, .ref p.1) := by
  rw [← Array.getElem?_toList, R.rws, rowsOf, List.getElem?_map, h]
  rfl
theorem MT.stays (R : MT P w s.heap a L es ep t) : ¬ t.gaveWay = true := by
  have := R.tb.pow.odd
  unfold SetTable.gaveWay
  simp [this]
/-- the search, from the c-th seat on; C is the first free one -/
theorem MT.seek (R : MT P w s.heap a L es ep t) {x : Addr} {k : List Int} (hx : IsT P w s.heap k x) (hu : A.units < cLine) {C : Nat} (hC : C < 10 * SetTable.turns t.mask)
    (free : way t.mask (thash P w k) C ∉ t.place.toList) (full : ∀ d < C, way t.mask (thash P w k) d ∈ t.place.toList) {Q : SetFound → Shared → Prop}
    (yes : k ∈ L.map (·.2) → Q (.there none) s) (no : k ∉ L.map (·.2) → Q (.free (way t.mask (thash P w k) C) false) s) : ∀ (f c : Nat) (st : Option SetTable.Probe),
      st.getD (t.probeStart (thash P w k)) = seat t.mask (thash P w k) c → c ≤ C → C < c + f →
      (∀ (i : Nat) (p : Addr × List Int), L[i]? = some p → p.2 = k → ∃ d, c ≤ d ∧ d < C ∧ t.place.toList[i]? = some (way t.mask (thash P w k) d)) →
      wpAny (model P w) A (setSearchFrom a (.ref x) (thash P w k) true f st) Q E s := by
  obtain ⟨o, go, xo, dat⟩ := R.obj
  obtain ⟨g, eg⟩ : ∃ g, thash P w k = g := ⟨_, rfl⟩
  rw [eg] at free full no ⊢
  intro f
  induction f with
  | zero => intro c st _ _ lt; omega
  | succ f ih =>
    intro c st hst le lt ahead
    rw [setSearchFrom_succ]
    refine wpAny_bind (wpAny_setState_of go dat R.fit ?_)
    dsimp only
    refine wp_if_neg R.stays ?_
    try refine wpAny_bind (wpAny_pure ?_)
    have lookup := go_spec t R.tb.up R.tb.nodum (fun i => (es[i]?.map (·.1)).getD 0) g (10 * SetTable.turns t.mask) (C - c) (seat t.mask g c) (seat_dummy _ _ _) (by omega)
      (fun d ld => by rw [seat_add]; exact full _ (by omega)) (by rw [seat_add, show c + (C - c) = C by omega]; exact free)
    simp only [seat_add, seat_j] at lookup
    have hash : ∀ (i : Nat) (p : Addr × List Int), L[i]? = some p → p.2 = k → ((es[i]?.map (·.1)).getD 0) = g := fun i p h e => by
      rw [R.row h, e]
      exact eg
    have probe : t.probe (fun i => (es[i]?.map (·.1)).getD 0) g (st.getD (t.probeStart g)) = SetTable.probe.go t (fun i => (es[i]?.map (·.1)).getD 0) g (10 * SetTable.turns t.mask) (seat t.mask g c) := by rw [hst]; rfl
    rw [probe]
    rcases lookup with ⟨q, i, lq, hi, _, before, res⟩ | ⟨none', res⟩
    · rw [res]
      dsimp only
      obtain ⟨p, hp⟩ : ∃ p, L[i]? = some p := by
        have li := (List.getElem?_eq_some_iff.mp hi).1
        rw [Array.length_toList, R.place] at li
        exact ⟨_, List.getElem?_eq_getElem li⟩
      have mp := List.mem_of_getElem? hp
      have hsl := slot_live R.tb.up hi
      have go_on : wpAny (model P w) A (searchRest a (.ref x) g true f es t (way t.mask g (c + q)) i (seat t.mask g (c + (q + 1)))) Q E s := by
        unfold searchRest
        rw [R.row hp]
        dsimp only
        refine wpAny_bind (wpAny_holding (wpAny_eqBool_tuple hu (R.tps p mp) hx ?_))
        refine wpAny_bind (wpAny_setState_of go dat R.fit ?_)
        dsimp only
        by_cases same : p.2 = k
        · exact wp_if_pos (by simp [same]) (wpAny_pure (yes (List.mem_map.mpr ⟨p, mp, same⟩)))
        · refine wp_if_neg (by simp [same]) ?_
          try refine wpAny_bind (wpAny_pure ?_)
          rw [sameMem]
          dsimp only
          simp only [if_true, hsl, R.row hp]
          refine wpAny_bind (wpAny_isSame_ref_self (wpAny_bind (wpAny_pure ?_)))
          simp only [if_true]
          refine wp_if_neg (by simp [same]) (ih (c + (q + 1)) _ rfl (by omega) (by omega) fun i' p' h' e' => ?_)
          obtain ⟨d, b1, b2, b3⟩ := ahead i' p' h' e'
          refine ⟨d, Nat.lt_of_not_le fun le' => ?_, b2, b3⟩
          rcases Nat.eq_or_lt_of_le le' with e | l
          · rw [e] at b3
            have z := (slot_live R.tb.up b3).symm.trans hsl
            injection z with z
            rw [z, hp] at h'
            cases h'
            exact same e'
          · have l : d < c + q := l
            exact before (d - c) i' (by omega) (by rw [show c + (d - c) = d by omega]; exact b3) (hash i' p' h' e')
      by_cases lead : t.led = true
      · refine wp_if_neg (by simp [lead]) ?_
        try refine wpAny_bind (wpAny_pure ?_)
        exact go_on
      · refine wp_if_pos (by simp [lead]) (wpAny_bind (seen_tup hx (fun y my => ?_) (wp_if_neg (by decide) ?_)))
        · obtain ⟨e, me, rfl⟩ := List.mem_map.mp my
          have me : e ∈ es.toList := by
            have : e ∈ es ∧ e.1 = g := by simpa using me
            simpa using this.1
          rw [R.rws] at me
          obtain ⟨p', mp', rfl⟩ := List.mem_map.mp me
          exact ⟨_, _, rfl, R.tps p' mp'⟩
        · try refine wpAny_bind (wpAny_pure ?_)
          exact go_on
    · rw [res, show c + (C - c) = C by omega]
      dsimp only
      refine wpAny_pure (no fun m => ?_)
      obtain ⟨p, mp, e⟩ := List.mem_map.mp m
      obtain ⟨i, li, ei⟩ := List.getElem_of_mem mp
      have h' : L[i]? = some p := by rw [List.getElem?_eq_getElem li, ei]
      obtain ⟨d, b1, b2, b3⟩ := ahead i p h' e
      exact none' (d - c) i (by omega) (by rw [show c + (d - c) = d by omega]; exact b3) (hash i p h' e)
theorem MT.search (R : MT P w s.heap a L es ep t) {x : Addr} {k : List Int} (hx : IsT P w s.heap k x) (hu : A.units < cLine) {Q : SetFound → Shared → Prop} (yes : k ∈ L.map (·.2) → Q (.there none) s)
    (no : ∀ C, k ∉ L.map (·.2) → way t.mask (thash P w k) C ∉ t.place.toList → (∀ d < C, way t.mask (thash P w k) d ∈ t.place.toList) → Q (.free (way t.mask (thash P w k) C) false) s) :
    wpAny (model P w) A (setSearch a (.ref x) (thash P w k) true) Q E s := by
  have rm := R.roomy
  have big := R.tb.pow.le
  obtain ⟨C, hC, free, full⟩ := R.tb.gap (by rw [hashes, List.length_map]; omega) (thash P w k)
  have t15 : SetTable.turns t.mask = t.mask + 15 := rfl
  unfold setSearch
  refine R.seek hx hu hC free full yes (fun n => no C n free full) 100000 0 none rfl (Nat.zero_le _) (by omega) fun i p hp e => ?_
  have li : i < t.place.toList.length := by
    rw [Array.length_toList, R.place]
    exact (List.getElem?_eq_some_iff.mp hp).1
  obtain ⟨d, ld, e2⟩ := R.tb.ahead (i := i) free (by rw [hashes, List.getElem?_map, hp, ← e]; rfl) (List.getElem?_eq_getElem li)
  exact ⟨d, Nat.zero_le _, ld, by rw [e2]; exact List.getElem?_eq_getElem li⟩
theorem MT.relay {o : Obj} (go : s.heap.get? a = some o) (xo : o.ExactSet) (dat : o.data = .set es ep t) (rws : es.toList = rowsOf P w L) (pl : t.place.size = es.size) (dm : t.dummies = #[]) (fl : es.size ≤ t.mask)
    (nd : (L.map (·.2)).Nodup) (tps : ∀ p ∈ L, IsT P w s.heap p.2 p.1) (pn : t.plain = true) (led : w.params.followText "set-order" = true ∨ t.led = true) {wt m : Nat} (hw : SetTable.sizeAbove wt = m + 1) (hm : Mk m) (rm : L.length * 5 < m * 3)
    {Q : Unit → Shared → Prop} (hQ : ∀ h' L' es' ep' t', Heap.SameBut a s.heap h' → MT P w h' a L' es' ep' t' → t'.mask = m → L'.Perm L → Q () { s with heap := h' }) : wpAny (model P w) A (setRelay a wt) Q E s := by
  have sz := rows_size rws
  have big := hm.le
  obtain ⟨t', od, e, pm, T, em, el, ep'⟩ := relaid_tab t (hs := es.map (·.1)) hw hm (by rw [Array.size_map, sz]; omega)
  rw [Array.size_map, sz] at pm
  obtain ⟨L2, r1, r2, r3⟩ := order_rows L es od rws pm
  rw [← r3] at T
  have sz2 : (od.filterMap (es[·]?)).size = es.size := (rows_size r1).trans (r2.length_eq.trans sz.symm)
  have line := sizeLine_eq
  rw [setRelay_eq]
  refine wpAny_bind (wpAny_setState_of go dat (fits_of pl dm fl) ?_)
  dsimp only
  refine wp_if_neg (by omega) ?_
  try refine wpAny_bind (wpAny_pure ?_)
  rw [e]
  dsimp only
  refine wpAny_bind (wp_if_neg (by simp [sz2]) ?_)
  try refine wpAny_bind (wpAny_pure ?_)
  refine wpAny_pure ?_
  dsimp only
  have but : Heap.SameBut a s.heap (s.heap.update a (Obj.putSet (od.filterMap (es[·]?)) t')) := Heap.SameBut.update ..
  refine wpAny_storeSet_of go dat (hQ _ L2 _ (ep + 1) t' but ⟨⟨_, store_at go dat, ⟨xo.1, xo.2.1, xo.2.2⟩, rfl⟩, r1, T, (r2.map (·.2)).nodup_iff.mpr nd, fun p mp => isT_same (tps p (r2.mem_iff.mp mp)) go dat but, ep' ▸ pn, el ▸ led, ?_⟩ em r2) (by omega)
  rw [r2.length_eq, em]
  exact rm
theorem mk7 : Mk 7 := ⟨3, rfl, by decide, by decide⟩
/-- the next size of a table -/
theorem next_size {n m : Nat} (hm : m = 7 ∨ m = 31 ∨ m = 127 ∨ m = 511 ∨ m = 2047) (l : n * 5 < m * 3) (u : (n + 1) * 5 ≥ m * 3) : ∃ m', SetTable.sizeAbove (SetTable.grown (n + 1)) = m' + 1 ∧ Mk m' ∧ (n + 1) * 5 < m' * 3 ∧ (m' = 31 ∨ m' = 127 ∨ m' = 511 ∨ m' = 2047 ∨ m' = 8191) := by
  rcases hm with e | e | e | e | e <;> subst e
  · obtain rfl : n = 4 := by omega
    exact ⟨31, by decide +kernel, ⟨5, rfl, by decide, by decide⟩, by decide, .inl rfl⟩
  · obtain rfl : n = 18 := by omega
    exact ⟨127, by decide +kernel, ⟨7, rfl, by decide, by decide⟩, by decide, .inr (.inl rfl)⟩
  · obtain rfl : n = 76 := by omega
    exact ⟨511, by decide +kernel, ⟨9, rfl, by decide, by decide⟩, by decide, .inr (.inr (.inl rfl))⟩
  · obtain rfl : n = 306 := by omega
    exact ⟨2047, by decide +kernel, ⟨11, rfl, by decide, by decide⟩, by decide, .inr (.inr (.inr (.inl rfl)))⟩
  · obtain rfl : n = 1228 := by omega
    exact ⟨8191, by decide +kernel, ⟨13, rfl, by decide, by decide⟩, by decide, .inr (.inr (.inr (.inr rfl)))⟩
end
end Vx
namespace Vx
open PySem PySem.Spec PyProof.Rows L2
section
variable {P : Program} {w : World} {A : Around} {E : Value → Shared → Prop} {s : Shared} {a : Addr} {L : List (Addr × List Int)} {es : Array (Int × Value)} {ep : Nat} {t : SetTable}
def Size6 (m : Nat) : Prop := m = 7 ∨ m = 31 ∨ m = 127 ∨ m = 511 ∨ m = 2047 ∨ m = 8191
/-- one tuple added -/
theorem MT.add (R : MT P w s.heap a L es ep t) (z6 : Size6 t.mask) {x : Addr} {k : List Int} (hx : IsT P w s.heap k x) (hu : A.units < cLine) (few : L.length < 4500) {Q : Bool → Shared → Prop}
    (hQ : ∀ b h' L' es' ep' t', Heap.SameBut a s.heap h' → MT P w h' a L' es' ep' t' → Size6 t'.mask → ((k ∈ L.map (·.2) ∧ L' = L) ∨ (k ∉ L.map (·.2) ∧ L'.Perm ((x, k) :: L))) → Q b { s with heap := h' }) :
    wpAny (model P w) A (setAddHashed a (.ref x) (thash P w k)) Q E s := by
  obtain ⟨o, go, xo, dat⟩ := R.obj
  have sz := R.sz
  have rm := R.roomy
  have line := sizeLine_eq
  unfold setAddHashed
  rw [show (100000 : Nat) = 99999 + 1 from rfl]
  refine wpAny_holding ?_
  rw [setAddHashedIn_succ]
  refine wpAny_bind (wpAny_setState_of go dat R.fit ?_)
  dsimp only
  refine wp_if_neg (by simp [byScan, Value.scannable]) ?_
  try refine wpAny_bind (wpAny_pure ?_)
  refine wpAny_bind (R.search hx hu (fun m => ?_) fun C m free full => ?_)
  · dsimp only
    exact wpAny_pure (hQ false s.heap L es ep t (Heap.SameBut.refl a s.heap) R z6 (.inl ⟨m, rfl⟩))
  · dsimp only
    refine wpAny_bind (wpAny_setState_of go dat R.fit ?_)
    dsimp only
    obtain ⟨p, ep1, lp, T1, fl⟩ := R.tb.more free full
    have pn1 : (t.put (way t.mask (thash P w k) C)).1.plain = true := R.pln
    have ld1 : w.params.followText "set-order" = true ∨ (t.put (way t.mask (thash P w k) C)).1.led = true := R.ld
    have mk1 : (t.put (way t.mask (thash P w k) C)).1.mask = t.mask := rfl
    generalize hpt : t.put (way t.mask (thash P w k) C) = pt at ep1 T1 fl pn1 ld1 mk1 ⊢
    obtain ⟨t1, p1⟩ := pt
    dsimp only at ep1 T1 fl pn1 ld1 mk1 ⊢
    subst ep1
    first
      | (refine wpAny_bind ?_; refine wp_if_pos pn1 ?_; refine hashBy_tup hx ?_)
      | refine wp_if_pos pn1 (wpAny_bind (hashBy_tup hx ?_))
    simp only [if_true]
    have ins : (SetTable.insertAt es p1 (thash P w k, Value.ref x)).toList = rowsOf P w (L.take p1 ++ (x, k) :: L.drop p1) := by
      rw [SetTable.toList_insertAt, R.rws, rows_put]
    have pm := put_perm L p1 (x, k)
    have hh : (hashes P w L).take p1 ++ thash P w k :: (hashes P w L).drop p1 = hashes P w (L.take p1 ++ (x, k) :: L.drop p1) := by
      unfold hashes
      rw [List.map_append, List.map_cons, List.map_take, List.map_drop]
    rw [hh] at T1
    rw [hashes, List.length_map] at fl
    generalize SetTable.insertAt es p1 (thash P w k, Value.ref x) = es1 at ins ⊢
    generalize L.take p1 ++ (x, k) :: L.drop p1 = L1 at pm T1 ins
    have l1 : L1.length = L.length + 1 := pm.length_eq
    have sz1 : es1.size = L.length + 1 := (rows_size ins).trans l1
    have nd1 : (L1.map (·.2)).Nodup := (pm.map (·.2)).nodup_iff.mpr (List.nodup_cons.mpr ⟨m, R.ndp⟩)
    refine wpAny_bind (wpAny_storeSet_of go dat ?_ (by omega))
    have but : Heap.SameBut a s.heap (s.heap.update a (Obj.putSet es1 t1)) := Heap.SameBut.update ..
    have go1 := store_at (es' := es1) (t' := t1) go dat
    generalize s.heap.update a (Obj.putSet es1 t1) = h1 at but go1 ⊢
    have tps1 : ∀ p ∈ L1, IsT P w h1 p.2 p.1 := fun p mp => (List.mem_cons.mp (pm.mem_iff.mp mp)).elim (fun e => e ▸ isT_same hx go dat but) fun mp => isT_same (R.tps p mp) go dat but
    have pl1 : t1.place.size = L1.length := T1.size.trans (List.length_map _)
    by_cases full1 : t1.tooFull = true
    · first
        | (refine wpAny_bind ?_; refine wp_if_pos (by simp [full1]) ?_)
        | (refine wp_if_pos (by simp [full1]) ?_; refine wpAny_bind ?_)
      have up : (L.length + 1) * 5 ≥ t.mask * 3 := by
        unfold SetTable.tooFull at full1
        rw [decide_eq_true_eq, fl, mk1] at full1
        exact full1
      have z5 : t.mask = 7 ∨ t.mask = 31 ∨ t.mask = 127 ∨ t.mask = 511 ∨ t.mask = 2047 := by
        rcases z6 with z | z | z | z | z | z
        · exact .inl z
        · exact .inr (.inl z)
        · exact .inr (.inr (.inl z))
        · exact .inr (.inr (.inr (.inl z)))
        · exact .inr (.inr (.inr (.inr z)))
        · omega
      obtain ⟨m', e1, e2, e3, e4⟩ := next_size z5 rm up
      rw [sz]
      refine MT.relay (s := { s with heap := h1 }) (L := L1) go1 ⟨xo.1, xo.2.1, xo.2.2⟩ rfl ins (by omega) T1.nodum (by omega) nd1 tps1 pn1 ld1 e1 e2 (by rw [l1]; exact e3) fun h2 L2 es2 ep2 t2 but2 R2 em2 pm2 => ?_
      have l2 : L2.length = L.length + 1 := pm2.length_eq.trans l1
      have z2 : Size6 t2.mask := by
        rw [em2]
        exact .inr e4
      exact wpAny_pure (hQ true h2 L2 es2 ep2 t2 (but.trans but2) R2 z2 (.inr ⟨m, pm2.trans pm⟩))
    · first
        | refine wp_if_neg (by simp [full1]) ?_
        | (refine wpAny_bind ?_; refine wp_if_neg (by simp [full1]) ?_; refine wpAny_pure ?_)
      refine wpAny_pure (hQ true h1 L1 es1 (ep + 1) t1 but ⟨⟨_, go1, ⟨xo.1, xo.2.1, xo.2.2⟩, rfl⟩, ins, T1, nd1, tps1, pn1, ld1, ?_⟩ (mk1 ▸ z6) (.inr ⟨m, pm⟩))
      unfold SetTable.tooFull at full1
      rw [decide_eq_true_eq, fl] at full1
      omega
theorem MT.up {h h' : Heap} (R : MT P w h a L es ep t) (ha : ∀ o, h.get? a = some o → h'.get? a = some o) (ht : ∀ p ∈ L, IsT P w h' p.2 p.1) : MT P w h' a L es ep t := by
  obtain ⟨⟨o, g, r⟩, r1, r2, r3, _, r5, r6, r7⟩ := R
  exact ⟨⟨o, ha o g, r⟩, r1, r2, r3, ht, r5, r6, r7⟩
theorem MT.empty {h : Heap} (ho : h.get? a = some (bareSet w)) : MT P w h a [] #[] 0 (.fresh 0 0 (!w.params.followText "set-order")) := by
  refine ⟨⟨_, ho, ⟨rfl, rfl, rfl⟩, rfl⟩, rfl, ⟨List.Pairwise.nil, rfl, rfl, mk7, fun x m => (by cases m), fun i g j e => (by simp at e)⟩, List.nodup_nil, fun p m => (by cases m), rfl, ?_, (by show 0 * 5 < 7 * 3; decide)⟩
  cases z : w.params.followText "set-order"
  · exact .inr rfl
  · exact .inl rfl
/-- all of them, one after the other -/
theorem add_all {I : Addr} {fp wr : List Addr} {G : Array GenState → Array GenState → Prop} {n : Nat} {Pv : Nat → Value → Prop} {St : Nat → Shared → Prop} {Z : Result → Shared → Prop} (W : WalksS P w A.in1 I fp wr G n Pv St) (S : Addr) (out : S ∉ fp)
    (ks : List (Addr × List Int)) (hn : n = ks.length) (few : ks.length ≤ 4500) (val : ∀ i v, Pv i v → ∃ p, ks[i]? = some p ∧ v = .ref p.1) (h0 : Heap) (hk : ∀ p ∈ ks, IsT P w h0 p.2 p.1) (nS : h0.get? S = none) (nw : ∀ b ∈ wr, h0.get? b = none) (hu : A.in1.units < cLine) :
    ∀ (d i : Nat) (s : Shared), i + d = n → St i s → (∀ b o, h0.get? b = some o → s.heap.get? b = some o) → (∃ L es ep t, MT P w s.heap S L es ep t ∧ Size6 t.mask ∧ Got ks i L) →
      (∀ s' L es ep t, Moved (S :: wr) G s s' → MT P w s'.heap S L es ep t → Size6 t.mask → Got ks n L → Z (.ok (.ret .none)) s') →
      codeAny (model P w) A (.builtin "set.update.loop" ⟨[.ref S, .ref I], []⟩) Z s := by
  have offw : S ∉ wr := fun m => out (W.sub _ m)
  have wider : ∀ b ∈ wr, b ∈ S :: wr := fun b m => List.mem_cons_of_mem _ m
  have still : ∀ {s s' : Shared}, Moved wr G s s' → (∀ b o, h0.get? b = some o → s.heap.get? b = some o) → ∀ b o, h0.get? b = some o → s'.heap.get? b = some o := fun mv kp b o e =>
    mv.heap b o (fun m => by rw [nw b m] at e; cases e) (kp b o e)
  intro d
  induction d with
  | zero =>
    intro i s hi st kp ⟨L, es, ep, t, hS, z6, g⟩ fin
    obtain rfl : i = n := hi
    refine codeAny_builtin F.entry_set_update_loop ?_
    rw [Around.under_plainId F.plain_set_update_loop _]
    show wpAny _ A.in1 (pyNext (.ref I) >>= _) _ _ s
    refine wpAny_bind (W.done s _ _ st fun s' mv => ?_)
    exact wpAny_pure (fin s' L es ep t (mv.mono wider) (hS.up (fun o e => mv.heap S o offw e) fun p mp => isT_keep (hk p (List.mem_of_mem_take (g.sub p mp))) (still mv kp)) z6 g)
  | succ d ih =>
    intro i s hi st kp ⟨L, es, ep, t, hS, z6, g⟩ fin
    refine codeAny_builtin F.entry_set_update_loop ?_
    rw [Around.under_plainId F.plain_set_update_loop _]
    show wpAny _ A.in1 (pyNext (.ref I) >>= _) _ _ s
    refine wpAny_bind (W.item i s _ _ (by omega) st fun v s' pv st' mv => ?_)
    obtain ⟨p, hp, rfl⟩ := val i v pv
    have kp' := still mv kp
    have hS' : MT P w s'.heap S L es ep t := hS.up (fun o e => mv.heap S o offw e) fun q mq => isT_keep (hk q (List.mem_of_mem_take (g.sub q mq))) kp'
    have hx : IsT P w s'.heap p.2 p.1 := isT_keep (hk p (List.mem_of_getElem? hp)) kp'
    show wpAny _ A.in1 (holding [Value.ref p.1] (setAdd S (.ref p.1)) >>= _) _ _ s'
    unfold setAdd
    refine wpAny_bind (wpAny_holding (wpAny_holding (wpAny_bind (wpAny_pyHash_tuple hu hx ?_))))
    have gl := g.len
    have li := (List.getElem?_eq_some_iff.mp hp).1
    refine MT.add (s := { s' with toks := s'.toks + (p.2.length + 1) }) hS' z6 hx hu (by omega) fun b h' L' es' ep' t' but hS2 z6' which => ?_
    have g' : Got ks (i + 1) L' := by
      rcases which with ⟨m, rfl⟩ | ⟨_, pm⟩
      · exact g.same hp m
      · exact g.more hp pm
    have kp2 : ∀ b o, h0.get? b = some o → h'.get? b = some o := fun b o e => by
      rw [but.2 b fun z => by rw [z, nS] at e; cases e]
      exact kp' b o e
    refine wpAny_pure ⟨plainId_quiet F.plain_set_update_loop _, ih (i + 1) _ (by omega) (W.frame _ s' _ _ st' (Nat.le_add_right _ _) fun b mb o e => ?_) kp2 ⟨L', es', ep', t', hS2, z6', g'⟩ fun s2 L2 es2 ep2 t2 mv2 r2 z2 g2 => ?_⟩
    · show h'.get? b = some o
      rw [but.2 b fun z : b = S => out (z ▸ mb)]
      exact e
    · refine fin s2 L2 es2 ep2 t2 (Moved.trans W.gtrans ((mv.mono wider).then_heap (Nat.le_add_right _ _) fun b o mb e => ?_) mv2) r2 z2 g2
      show h'.get? b = some o
      rw [but.2 b fun z : b = S => mb (z ▸ List.mem_cons_self)]
      exact e
theorem set_of_tups {l : Addr} {its : Array Value} (ks : List (Addr × List Int)) {Q : Value → Shared → Prop} (calm : A.handled = none) (hl : s.heap.IsList l its) (hi : its.toList = ks.map fun p => Value.ref p.1) (hk : ∀ p ∈ ks, IsT P w s.heap p.2 p.1) (few : ks.length ≤ 4500) (hu : A.units + 3 < cLine)
    (k : ∀ (g : Heap) (tk : Nat) L es ep t, MT P w g s.heap.objs.size L es ep t → Size6 t.mask → Got ks ks.length L → (∀ b o, s.heap.get? b = some o → g.get? b = some o) → Q (.ref s.heap.objs.size) { s with heap := g, toks := tk }) :
    wpAny (model P w) A (call (.type "set") [.ref l]) Q E s := by
  have len : its.size = ks.length := by rw [← Array.length_toList, hi, List.length_map]
  obtain ⟨c0, tl, hmro⟩ := F.called_set.mro
  have hmade := F.called_set.made
  have hsub := F.called_set.sub
  refine wpAny_call (codeAny_of_tree ?_)
  show wpAny _ _ (callAny (.type "set") _) _ _ _
  refine wpAny_pure ⟨Code.quiet_builtin _ (by decide +kernel), codeAny_builtin F.entry_type_call ?_⟩
  rw [Around.under_plain (weight_type_call_type "set" [.ref l] []) rfl]
  have n1 := F.called_set.notType
  have n2 := F.called_set.canCreate
  have n3 := F.typeCall_set_1 (.ref l)
  repeat (any_goals (first | assumption | wp_step))
  refine codeAny_mono (code_set_led1 (.ref l) (E := E) (Q₁ := fun ob s1 => ob = .ref s.heap.objs.size ∧ s1 = { s with heap := s.heap.push (bareSet w) }) ⟨rfl, rfl⟩) fun r s1 hr => ?_
  rcases r with e | fl
  · exact hr
  cases fl with
  | ret ob =>
    obtain ⟨rfl, rfl⟩ := hr
    have at0 : (s.heap.push (bareSet w)).get? s.heap.objs.size = some (bareSet w) := Heap.get?_push_size _ rfl
    have ty0 : Shared.TypeIs { s with heap := s.heap.push (bareSet w) } (.ref s.heap.objs.size) "set" := ⟨_, at0, rfl⟩
    have i1 := F.called_set.init.lookup
    have i2 := F.called_set.init.bind (.ref s.heap.objs.size)
    repeat (any_goals (first | assumption | wp_step))
    refine codeAny_mono (codeAny_call_builtin (R := wants (fun v s2 => v = .none ∧ ∃ g tk L es ep t, s2 = { s with heap := g, toks := tk } ∧ MT P w g s.heap.objs.size L es ep t ∧ Size6 t.mask ∧ Got ks ks.length L ∧
        (∀ b o, s.heap.get? b = some o → g.get? b = some o)) E) F.called_set.init.plain F.entry_set_init (check_set_init_1 ty0 ?_)) fun r2 s2 hr2 => ?_
    · obtain ⟨⟨oc, od, ob, osl⟩, hol, hcl, nl, hdl⟩ := hl
      simp only at hcl hdl
      subst hcl hdl
      have at1 : (s.heap.push (bareSet w)).get? l = some { cls := .type "list", dict := od, data := .seq its nl, slots := osl } := Heap.get?_push_of_some _ hol
      have q1 := F.sub_list_set
      have q2 := F.sub_list_frozenset
      have q3 : (Value.type "list" == Value.type "dict") = false := by decide
      have isl : (s.heap.push (bareSet w)).IsList l its := ⟨_, at1, rfl, nl, rfl⟩
      unfold Builtin.«set.__init__» noKeywords Builtin.Frozenset.updateFrom
      generalize hPI : pyIter = PI
      wp_walk
      subst hPI
      refine wpAny_pyIter_list isl ?_
      refine wpAny_bind (wpAny_runValue ?_)
      have lS : l < s.heap.objs.size := Heap.lt_size hol
      have calm3 : A.in1.in1.in1.handled = none := by simp [calm]
      have neI : l ≠ (s.heap.push (bareSet w)).objs.size := by
        rw [Heap.size_push]
        exact Nat.ne_of_lt (Nat.lt_succ_of_lt lS)
      have noS : s.heap.objs.size ∉ [(s.heap.push (bareSet w)).objs.size, l] := by
        rw [Heap.size_push]
        simp only [List.mem_cons, List.mem_singleton, List.not_mem_nil, or_false, not_or]
        exact ⟨Nat.ne_of_lt (Nat.lt_succ_self _), Nat.ne_of_gt lS⟩
      have item : ∀ (i : Nat) (v : Value), its[i]? = some v → ∃ p, ks[i]? = some p ∧ v = .ref p.1 := fun i v hv => by
        rw [← Array.getElem?_toList, hi, List.getElem?_map] at hv
        obtain ⟨p, hp, rfl⟩ := Option.map_eq_some_iff.mp hv
        exact ⟨p, hp, rfl⟩
      have bare : ∀ b, s.heap.objs.size ≤ b → s.heap.get? b = none := fun b le => Option.eq_none_iff_forall_ne_some.mpr fun o e => by
        exact Nat.lt_irrefl _ (Nat.lt_of_lt_of_le (Heap.lt_size e) le)
      refine add_all ((Walks.list calm3 _ l neI its).toS) s.heap.objs.size noS ks len few item s.heap hk (bare _ (Nat.le_refl _)) (fun b mb => bare b (by
          rw [List.mem_singleton.mp mb, Heap.size_push]
          exact Nat.le_succ _)) hu its.size 0 _ (Nat.zero_add _) ⟨⟨_, Heap.get?_push_size _ rfl, rfl, rfl⟩, (isl.push _)⟩ (fun b o e => Heap.get?_push_of_some _ (Heap.get?_push_of_some _ e)) ?s0 ?fin
      case s0 => exact ⟨[], #[], 0, _, MT.empty (Heap.get?_push_of_some _ at0), .inl rfl, Got.zero ks⟩
      case fin =>
        intro s3 L es ep t mv hS3 z6 g3
        obtain ⟨g, ge, dr, t3, os3⟩ := s3
        cases (show ge = s.gens from mv.gens)
        cases (show dr = s.drawn from mv.drawn)
        cases (show os3 = s.os from mv.os)
        show wpAny _ _ _ _ _ _
        refine wpAny_pure ?_
        show wpAny _ _ (ret Value.none) _ _ _
        rw [len] at g3
        refine wpAny_pure ⟨rfl, g, t3, L, es, ep, t, rfl, hS3, z6, g3, fun b o e => ?_⟩
        have b0 : b < s.heap.objs.size := Heap.lt_size e
        have b2 : b ≠ (s.heap.push (bareSet w)).objs.size := by
          rw [Heap.size_push]
          exact Nat.ne_of_lt (Nat.lt_succ_of_lt b0)
        exact mv.heap b o (by simp only [List.mem_cons, List.mem_singleton, List.not_mem_nil, or_false, not_or]; exact ⟨Nat.ne_of_lt b0, b2⟩) (Heap.get?_push_of_some _ (Heap.get?_push_of_some _ e))
    · rcases r2 with e | fl2
      · exact hr2
      cases fl2 with
      | ret v =>
        obtain ⟨rfl, g, tk, L, es, ep, t, rfl, hS, z6, hg, hk'⟩ := hr2
        repeat (any_goals (first | assumption | wp_step))
        exact k _ _ _ _ _ _ hS z6 hg hk'
      | _ => exact hr2.elim
  | _ => exact hr.elim
end
/-- such a set, its tuples told apart from it -/
def SetM (P : Program) (w : World) (a : Addr) (L : List (Addr × List Int)) : HO := .ext fun h => ∃ es ep t, (∃ o, h.get? a = some o ∧ o.ExactSet ∧ o.data = .set es ep t) ∧ es.toList = rowsOf P w L ∧ Tab t (hashes P w L) ∧ (L.map (·.2)).Nodup ∧ t.plain = true ∧
  (w.params.followText "set-order" = true ∨ t.led = true) ∧ L.length * 5 < t.mask * 3
theorem setM_new {P : Program} {w : World} {H : Hp} {h : Heap} {a : Addr} {L : List (Addr × List Int)} {es : Array (Int × Value)} {ep : Nat} {t : SetTable} (R : MT P w h a L es ep t) : ObjOk P w H h a (SetM P w a L) := by
  obtain ⟨⟨o, g, r⟩, r1, r2, r3, _, r5, r6, r7⟩ := R
  refine ⟨⟨es, ep, t, ⟨o, g, r⟩, r1, r2, r3, r5, r6, r7⟩, ⟨o, g⟩, fun h1 h2 p k => ?_⟩
  obtain ⟨es', ep', t', ⟨o', g', r'⟩, q⟩ := p
  exact ⟨es', ep', t', ⟨o', k o' g', r'⟩, q⟩
def SetB (P : Program) (w : World) (H : Hp) (a : Addr) (ps : List Pr) : Prop :=
  ∃ L : List (Addr × List Int), H a = some (SetM P w a L) ∧ L.length ≤ 4000 ∧ (∀ q ∈ L, q.2.length = 2 ∧ H q.1 = some (.tup (q.2.map V.int))) ∧ ∀ x, x ∈ L.map (fun q => pr q.2) ↔ x ∈ ps
section
variable {X : Cx}
theorem cr_setB (hc : X.calm = true) (hu : X.A.units + 64 < cLine) : CallR X (.type "set") (fun xs H Q => ∃ l ps, xs = [V.ref l] ∧ Cells H l ps ∧ ps.length ≤ 4000 ∧
    ∀ a H', Same H H' → H a = none → SetB X.prog X.w H' a ps → Q (.ref a) H') := by
  intro pins s σ H xs us Q I r h
  obtain ⟨l, ps, rfl, ⟨ts, hl, ht, rfl⟩, few, q⟩ := h
  rw [List.length_map] at few
  rw [Vals.ref1 r]
  obtain ⟨its, rv, pl, hz⟩ := I.list (lst_of hl)
  have n : H s.heap.objs.size = none := I.hok.fresh (Nat.le_refl _)
  have each : ∀ t ∈ ts, H t.1 = some (.tup (([t.2.1, t.2.2] : List Int).map V.int)) := ht
  have er : its = ts.map fun t => Value.ref t.1 := by
    refine refs_of_vals (ks := ts.map fun t => (t.1, ([t.2.1, t.2.2] : List Int))) ?_ |>.trans ?_
    · rw [List.map_map]
      exact rv
    · rw [List.map_map]
      rfl
  refine set_of_tups (P := X.prog) (w := X.w) (ts.map fun t => (t.1, [t.2.1, t.2.2])) (I.ok.hd hc) pl.isList (by simp [er]) (fun p mp => ?_) (by rw [List.length_map]; omega) (by omega) fun g tk L es ep t R _ got k => ?_
  · obtain ⟨t, mt, rfl⟩ := List.mem_map.mp mp
    exact I.isT (tup_of (each t mt))
  · have sub : ∀ p ∈ L, ∃ t ∈ ts, p = (t.1, [t.2.1, t.2.2]) := fun p mp => by
      obtain ⟨t, mt, e⟩ := List.mem_map.mp (List.mem_of_mem_take (got.sub p mp))
      exact ⟨t, mt, e.symm⟩
    have gl := got.len
    rw [List.length_map] at gl
    refine ⟨.ref s.heap.objs.size, upd H s.heap.objs.size (SetM X.prog X.w s.heap.objs.size L), I.laid (t' := tk) k (Nat.le_refl _) (setM_new R), rfl, q _ _ (newS n) n ⟨L, upd_same, by omega, fun p mp => ?_, fun x => ⟨fun m => ?_, fun m => ?_⟩⟩⟩
    · obtain ⟨t, mt, rfl⟩ := sub p mp
      exact ⟨rfl, newS n _ _ (each t mt)⟩
    · obtain ⟨p, mp, rfl⟩ := List.mem_map.mp m
      obtain ⟨t, mt, rfl⟩ := sub p mp
      exact List.mem_map.mpr ⟨t, mt, rfl⟩
    · obtain ⟨t, mt, rfl⟩ := List.mem_map.mp m
      obtain ⟨p, mp, e⟩ := List.mem_map.mp (got.all (t.1, [t.2.1, t.2.2]) (by rw [List.take_length]; exact List.mem_map.mpr ⟨t, mt, rfl⟩))
      exact List.mem_map.mpr ⟨p, mp, by rw [e]; rfl⟩
end
end Vx
namespace Vx
open PySem PySem.Spec PyProof.Rows L2
section
variable {P : Program} {w : World} {A : Around} {E : Value → Shared → Prop} {s : Shared}
/-- the set's members, sorted -/
theorem sorted_pairsB {a : Addr} {L : List (Addr × List Int)} {es : Array (Int × Value)} {ep : Nat} {t : SetTable} {Q : Value → Shared → Prop} (R : MT P w s.heap a L es ep t) (few : L.length ≤ 4000) (hh : A.handled = none) (h2 : ∀ q ∈ L, q.2.length = 2)
    (hQ : ∀ s' p (ts : List (Addr × Pr)) (c : Nat), (∀ b o, s.heap.get? b = some o → s'.heap.get? b = some o) → s'.gens = s.gens → s'.os = s.os → s.heap.objs.size ≤ p →
      s'.heap.get? p = some (seqObj "list" (ts.map fun q => Value.ref q.1).toArray c) → (∀ q ∈ ts, ∃ r ∈ L, r.1 = q.1 ∧ pr r.2 = q.2) → (∀ x, x ∈ ts.map (·.2) ↔ x ∈ L.map fun q => pr q.2) → (ts.map (·.2)).Pairwise ltP → ts.length = L.length → Q (.ref p) s') :
    wpAny (model P w) A (call (.builtin "sorted") [.ref a]) Q E s := by
  obtain ⟨o, go, xo, dat⟩ := R.obj
  refine Calls.call_function_entry kind_sorted plain_sorted entry_sorted (args_sorted1 _) ?_
  unfold Builtin.«sorted»
  refine wpAny_bind (m := checkCount "sorted" 1 1 _) (wpAny_pure ?_)
  refine wpAny_bind (collect_set (A := A.in1) hh ⟨o, go, xo.1, dat⟩ R.fit (by rw [R.sz]; unfold scanBound; omega) R.tb.up R.ld fun s1 vs keep sz gg oo pm => ?_)
  have em : es.toList.map (·.2) = L.map fun q => Value.ref q.1 := by
    rw [R.rws]
    show (L.map fun q => (thash P w q.2, Value.ref q.1)).map (·.2) = _
    rw [List.map_map] <;> rfl
  rw [em] at pm
  have vl : vs.length = L.length := by rw [pm.length_eq, List.length_map]
  have lim : vs.length ≤ sizeLine := by
    rw [sizeLine_eq]
    omega
  refine wpAny_bind (wpAny_newList ?_ lim)
  have gl : (s1.heap.push (seqObj "list" vs.toArray 0)).get? s1.heap.objs.size = some (seqObj "list" vs.toArray 0) := Heap.get?_push_size _ rfl
  generalize hh1 : s1.heap.push (seqObj "list" vs.toArray 0) = h1 at gl
  have keep1 : ∀ b u, s1.heap.get? b = some u → h1.get? b = some u := fun b u e => by
    rw [← hh1]
    exact Heap.get?_push_of_some _ e
  have tin : ∀ q ∈ L, TS.TupInts h1 (.ref q.1) q.2 := fun q m => tupInts_of (P := P) (w := w) (isT_keep (R.tps q m) fun b u e => keep1 b u (keep b u e))
  have mem : ∀ v ∈ vs, ∃ q ∈ L, v = Value.ref q.1 := fun v m => by
    obtain ⟨q, m1, e⟩ := List.mem_map.mp (pm.mem_iff.mp m)
    exact ⟨q, m1, e.symm⟩
  have key : ∀ q ∈ L, pr (TS.intsOf h1 (.ref q.1)) = pr q.2 := fun q m => by rw [(tin q m).ints]
  have isP : ∀ v ∈ vs, Srt.IsPair h1 v (pr (TS.intsOf h1 v)).1 (pr (TS.intsOf h1 v)).2 := fun v m => by
    obtain ⟨q, m1, rfl⟩ := mem v m
    rw [key q m1]
    have i := tin q m1
    have l2 := len2 (h2 q m1)
    rw [l2] at i
    obtain ⟨b, items, eb, ⟨o1, go1, co1, n1, do1⟩, ia⟩ := i
    cases eb
    obtain ⟨xs⟩ := items
    cases ia with
    | cons _ t1 ia =>
      cases ia with
      | cons _ t2 ia =>
        cases ia
        exact ⟨_, o1, t1, t2, n1, rfl, go1, co1, do1⟩
  refine wpAny_bind (wpAny_holding (wpAny_call_entry (s := { s1 with heap := h1 }) slot_list_sort ⟨_, gl, rfl⟩ entry_list_sort (SrtO.list_sort_ord (s := { s1 with heap := h1 }) (SrtO.swo_lex fun v => pr (TS.intsOf h1 v)) gl lim (fun two => SrtO.pairs_sortableO (by omega) isP fun o1 e => ?_) fun out srt stb => ⟨_, rfl, ?_⟩) (args_list_sort _)))
  · have e' : some o1 = some (seqObj "list" vs.toArray 0) := e.symm.trans gl
    cases e'
    intro c
    exact absurd (Value.type.inj c) (by decide)
  · obtain ⟨c, gc⟩ := sortedHeap_at (vs := vs) (out := out.toArray) gl
    have omem : ∀ v ∈ out, ∃ q ∈ L, v = Value.ref q.1 := fun v m => mem v (stb.perm.mem_iff.mp m)
    refine wpAny_pure ⟨_, rfl, hQ _ s1.heap.objs.size (out.map fun v => (adr v, pr (TS.intsOf h1 v))) c (fun b u e => ?_) gg oo sz ?_ ?_ ?_ ?_ ?_⟩
    · have g1 := keep b u e
      have lt1 := Heap.lt_size g1
      show (sortedHeap h1 s1.heap.objs.size vs out.toArray).get? b = some u
      rw [sortedHeap_old (Nat.ne_of_lt lt1) (Heap.lt_size (keep1 b u g1))]
      exact keep1 b u g1
    · have eo : (out.map fun v => (adr v, pr (TS.intsOf h1 v))).map (fun q => Value.ref q.1) = out := by
        rw [List.map_map]
        refine (List.map_congr_left fun v m => ?_).trans (List.map_id _)
        obtain ⟨q, _, rfl⟩ := omem v m
        rfl
      rw [eo]
      exact gc
    · intro q m
      obtain ⟨v, m1, rfl⟩ := List.mem_map.mp m
      obtain ⟨r, mr, rfl⟩ := omem v m1
      exact ⟨r, mr, rfl, (key r mr).symm⟩
    · intro x
      rw [List.map_map]
      constructor
      · intro m
        obtain ⟨v, m1, rfl⟩ := List.mem_map.mp m
        obtain ⟨r, mr, rfl⟩ := omem v m1
        exact List.mem_map.mpr ⟨r, mr, (key r mr).symm⟩
      · intro m
        obtain ⟨r, mr, rfl⟩ := List.mem_map.mp m
        exact List.mem_map.mpr ⟨.ref r.1, stb.perm.mem_iff.mpr (pm.mem_iff.mpr (List.mem_map.mpr ⟨r, mr, rfl⟩)), key r mr⟩
    · rw [List.map_map]
      have nd : ((L.map fun q => Value.ref q.1).map fun v => pr (TS.intsOf h1 v)).Nodup := by
        rw [List.map_map]
        refine List.pairwise_map.mpr ((List.pairwise_map.mp R.ndp).imp_of_mem fun {q r} mq mr ne e => ne ?_)
        refine pr_inj (h2 q mq) (h2 r mr) ?_
        rw [← key q mq, ← key r mr]
        exact e
      have nd2 : (out.map fun v => pr (TS.intsOf h1 v)).Nodup := ((stb.perm.trans pm).map _).nodup_iff.mpr nd
      refine List.pairwise_map.mpr ((srt.and (List.pairwise_map.mp nd2)).imp fun {u v} h => ?_)
      have a1 := SrtO.lexB_no.mp h.1
      refine SrtO.lexB_iff.mpr ?_
      have a2 : ¬ ((pr (TS.intsOf h1 u)).1 = (pr (TS.intsOf h1 v)).1 ∧ (pr (TS.intsOf h1 u)).2 = (pr (TS.intsOf h1 v)).2) := fun e => h.2 (Prod.ext e.1 e.2)
      show (pr (TS.intsOf h1 u)).1 < (pr (TS.intsOf h1 v)).1 ∨ (pr (TS.intsOf h1 u)).1 = (pr (TS.intsOf h1 v)).1 ∧ (pr (TS.intsOf h1 u)).2 < (pr (TS.intsOf h1 v)).2
      omega
    · rw [List.length_map, stb.perm.length_eq, vl]
end
section
variable {X : Cx}
theorem cr_sortedB (hc : X.calm = true) : CallR X (.builtin "sorted") (fun xs H Q => ∃ a ps, xs = [V.ref a] ∧ SetB X.prog X.w H a ps ∧
    ∀ p H' qs, Same H H' → H p = none → Cells H' p qs → qs.Pairwise ltP → (∀ x, x ∈ qs ↔ x ∈ ps) → qs.length ≤ 4000 → Q (.ref p) H') := by
  intro pins s σ H vs us Q I r h
  obtain ⟨a, ps, rfl, ⟨L, ha, few, hL, mem⟩, q⟩ := h
  obtain ⟨es, ep, t, r1, r2, r3, r4, r5, r6, r7⟩ := (I.hok a _ ha).1
  have R : MT X.prog X.w s.heap a L es ep t := ⟨r1, r2, r3, r4, fun p hp => I.isT (tup_of (hL p hp).2), r5, r6, r7⟩
  rw [Vals.ref1 r]
  refine sorted_pairsB R few (I.ok.hd hc) (fun q m => (hL q m).1) fun s' p ts c k g o hp hg own all pw le => ?_
  have lim : (ts.map fun q => V.ref q.1).length ≤ sizeLine := by
    rw [List.length_map, sizeLine_eq]
    omega
  have n : H p = none := I.hok.fresh hp
  have vals : ∀ ts : List (Addr × Pr), Vals (ts.map fun q => V.ref q.1) (ts.map fun q => Value.ref q.1) := fun ts => by
    induction ts with
    | nil => exact .nil
    | cons t ts ih => exact .cons rfl ih
  have J : Inv X pins σ (upd H p (.lst (ts.map fun q => V.ref q.1))) { s with heap := s'.heap, gens := s'.gens, drawn := s'.drawn, toks := s'.toks } :=
    I.call (ch := []) (Un.laid k hp n) (I.hok.laid k hp ⟨lim, _, c, vals ts, hg⟩) (by rw [g]; exact I.bare) (fun _ z => nomatch z)
  have e : s' = { s with heap := s'.heap, gens := s'.gens, drawn := s'.drawn, toks := s'.toks } := by
    obtain ⟨_, _, _, _, _⟩ := s'
    obtain ⟨_, _, _, _, _⟩ := s
    cases o
    rfl
  rw [e]
  have sm : Same H (upd H p (.lst (ts.map fun q => V.ref q.1))) := newS n
  refine ⟨.ref p, _, J, rfl, q p _ (ts.map (·.2)) sm n ⟨ts, upd_same, fun t m => ?_, rfl⟩ pw (fun x => (all x).trans (mem x)) (by rw [List.length_map, le]; exact few)⟩
  obtain ⟨r, mr, e1, e2⟩ := own t m
  have z := sm _ _ (hL r mr).2
  rw [len2 (hL r mr).1, e1, e2] at z
  exact z
end
end Vx
namespace Vx
open PySem PySem.Spec PyProof.Rows L2
section
variable {X : Cx}
/-- xs[j], read for xs[j] op= v -/
theorem pget_list : PGet X (fun o i H Q => ∃ p xs j v, o = .ref p ∧ i = .int ((j : Nat) : Int) ∧ SqL X.K H p xs ∧ xs[j]? = some v ∧ Q v H) := by
  intro pins s σ H o i ov iv Q I ro ri h
  obtain ⟨p, xs, j, v, rfl, rfl, hs, hv, q⟩ := h
  cases ro
  obtain ⟨t, rfl⟩ := ri
  obtain ⟨its, r, pl, hz⟩ := I.list hs
  obtain ⟨w, ew, rw'⟩ := r.get hv
  exact getItem_listL pl.isList (by omega) (by have := line63; have := (List.getElem?_eq_some_iff.mp hv).1; omega) (by simpa using ew) ⟨v, H, I, rw', q⟩
theorem ip_addS : PIp X .Add (fun x y H Q => ∃ i j, x = .str i ∧ y = .str j ∧ i.length + j.length ≤ sizeLine ∧ Q (.str (i ++ j)) H) := fun pins s σ H x y v u Q I r1 r2 h => iop_add_str pins s σ H x y v u Q I r1 r2 h
end
theorem lc_pairs {lo : Int} {n : Nat} {g : TG} {tt : TT} {te : TE} {vs : List Nat} {σ : L2.St} {H1 : Hp} {D : Addr} {Qd : Hp → Prop} (f : Nat → Pr) (nD : H1 D = none) (few : n < sizeLine)
    (hs : ∀ (i : Nat) (H' : Hp) (Po : V → Hp → Prop) (Pn : Hp → Prop), i < n → Same H1 H' → (∀ t2, H' t2 = none → Po (.ref t2) (upd H' t2 (.tup [.int (f i).1, .int (f i).2]))) →
      g (.int (lo + i)) (wipe σ vs) H' fun σ2 H2 => wipe σ2 vs = wipe σ vs ∧ tt σ2 H2 fun b H3 => if b = true then te σ2 H3 Po else Pn H3)
    (hd : ∀ (H' : Hp) (us : List (Addr × Pr)), Same H1 H' → H' D = some (.lst (us.map fun t => V.ref t.1)) → (∀ t ∈ us, H' t.1 = some (.tup [.int t.2.1, .int t.2.2])) → us.map (·.2) = (List.range n).map f → Qd H') :
    ∃ W : Nat → Nat → Hp → Prop, (∃ m, W 0 m (upd H1 D (.lst []))) ∧ ∀ i m H, W i m H →
      ((Itr lo n).stop i H ∧ Qd H) ∨ ((Itr lo n).go i H ∧ ∃ Nx : Hp → Prop, (∀ H', Nx H' → ∃ m', m' < m ∧ W (i + 1) m' H') ∧ ∀ x H', (Itr lo n).yld i H x H' → g x (wipe σ vs) H' fun σ2 H2 => wipe σ2 vs = wipe σ vs ∧ tt σ2 H2 fun b H3 =>
        if b = true then te σ2 H3 fun y H4 => ∃ acc, H4 D = some (.lst acc) ∧ acc.length < sizeLine ∧ Nx (upd H4 D (.lst (acc ++ [y]))) else Nx H3) := by
  refine lc_range (lo := lo) (n := n) (fun i H' => Same H1 H' ∧ ∃ us : List (Addr × Pr), H' D = some (.lst (us.map fun t => V.ref t.1)) ∧ (∀ t ∈ us, H' t.1 = some (.tup [.int t.2.1, .int t.2.2])) ∧ us.map (·.2) = (List.range i).map f)
    ⟨newS nD, [], upd_same, fun _ m => (by cases m), rfl⟩ ?_ ?_
  · rintro i H' hi ⟨sm, us, h1, h2, h3⟩
    have ul : us.length = i := by
      have z := congrArg List.length h3
      rw [List.length_map, List.length_map, List.length_range] at z
      exact z
    refine hs i H' _ _ hi sm fun t2 n2 => ⟨us.map fun t => V.ref t.1, newS n2 _ _ h1, ?_, mutS (sm.trans (newS n2)) nD, us ++ [(t2, f i)], ?_, ?_, ?_⟩
    · rw [List.length_map, ul]
      omega
    · rw [upd_same, List.map_append]
      rfl
    · have nD2 : t2 ≠ D := fun e => by
        rw [e, h1] at n2
        cases n2
      intro u m
      rcases List.mem_append.mp m with m | m
      · have z := h2 u m
        rw [upd_ne (fun e => ?_)]
        · exact newS n2 _ _ z
        · rw [e, h1] at z
          cases z
      · rw [List.mem_singleton.mp m, upd_ne nD2, upd_same]
    · rw [List.map_append, h3, List.range_succ, List.map_append]
      rfl
  · rintro H' ⟨sm, us, h1, h2, h3⟩
    exact hd H' us sm h1 h2 h3
/-- a pair in a list of pairs -/
theorem any_pd (p : Pr) : ∀ ps : List Pr, (ps.map pd).any (fun z => PyData.eqv z (pd p)) = decide (p ∈ ps)
  | [] => by simp
  | q :: ps => by
    rw [List.map_cons, List.any_cons, any_pd p ps, eqv_pd]
    by_cases e : q = p
    · subst e
      simp
    · have e2 : ¬ p = q := fun z => e z.symm
      simp [e, e2]
theorem shaped_pd (p : Pr) : SeqAt.shaped (pd p) = true := by
  unfold SeqAt.shaped pd
  simp [PyData.canLay0, PyData.canLayAll0, PyData.depth, PyData.depthAll]
theorem op_inP {X : Cx} (hu : X.A.units + 65 < cLine) : OpR X (compareOp .In) (fun x y H Q => ∃ (t a : Addr) (p : Pr) (ps : List Pr), x = .ref t ∧ y = .ref a ∧ H t = some (.tup [.int p.1, .int p.2]) ∧ Cells H a ps ∧ Q (.bl (decide (p ∈ ps))) H) := by
  intro pins s σ H x y v u Q I rx ry h
  obtain ⟨t, a, p, ps, rfl, rfl, ht, hc, q⟩ := h
  refine op_inD hu pins s σ H _ _ v u Q I rx ry ⟨pd p, ps.map pd, .tup (tup_of ht) (.cons (.int _) (.cons (.int _) .nil)), dp_cells hc, shaped_pd p, shaped_cells ps, ?_⟩
  rw [any_pd]
  exact q
/-- sorted, of a list of pairs that may hold one several times -/
theorem cr_sortedN {X : Cx} : CallR X (.builtin "sorted") (fun xs H Q => ∃ l ps, xs = [V.ref l] ∧ Cells H l ps ∧
    ∀ p H' qs, Same H H' → H p = none → Cells H' p qs → qs.Perm ps → qs.Pairwise (fun x y => ¬ ltP y x) → Q (.ref p) H') := by
  intro pins s σ H xs us Q I r h
  obtain ⟨l, ps, rfl, ⟨ts, hl, ht, rfl⟩, q⟩ := h
  refine cr_sortedPO pins s σ H [V.ref l] us Q I r ⟨l, ts.map fun t => V.ref t.1, kH H, rfl, lst_of hl, fun x m => ?_, fun ys p srt stb n => ?_⟩
  · obtain ⟨t, m1, rfl⟩ := List.mem_map.mp m
    have g := ht t m1
    refine ⟨t.1, rfl, ?_⟩
    rw [kH_at g]
    exact g
  · have own : ∀ y ∈ ys, ∃ t ∈ ts, y = V.ref t.1 := fun y m => by
      obtain ⟨t, m1, e⟩ := List.mem_map.mp (stb.perm.mem_iff.mp m)
      exact ⟨t, m1, e.symm⟩
    have key : ∀ t ∈ ts, kH H (.ref t.1) = t.2 := fun t m => kH_at (ht t m)
    have pm : (ys.map (kH H)).Perm (ts.map (·.2)) := by
      have z := stb.perm.map (kH H)
      rw [List.map_map] at z
      rw [show ts.map (·.2) = ts.map (kH H ∘ fun t => V.ref t.1) from List.map_congr_left fun t m => (key t m).symm]
      exact z
    have sm : Same H (upd H p (.lst ys)) := newS n
    have eo : (ys.map fun v => (adV v, kH H v)).map (fun t => V.ref t.1) = ys := by
      rw [List.map_map]
      refine (List.map_congr_left fun v m => ?_).trans (List.map_id _)
      obtain ⟨t, _, rfl⟩ := own v m
      rfl
    refine q p _ (ys.map (kH H)) sm n ⟨ys.map fun v => (adV v, kH H v), ?_, fun u m => ?_, ?_⟩ pm ?_
    · rw [eo, upd_same]
    · obtain ⟨v, m1, rfl⟩ := List.mem_map.mp m
      obtain ⟨t, m2, rfl⟩ := own v m1
      refine sm _ _ ?_
      show H t.1 = _
      rw [key t m2]
      exact ht t m2
    · rw [List.map_map]
      rfl
    · refine List.pairwise_map.mpr (srt.imp fun {u v} h z => ?_)
      have h : SrtO.lexB (kH H v) (kH H u) = false := h
      have z : SrtO.lexB (kH H v) (kH H u) = true := z
      rw [h] at z
      cases z
end Vx
namespace Vx
open PySem PySem.Spec PyProof.Rows L2
/-! ### the items of a dict whose keys are tuples -/
section
variable {X : Cx} {pins : List (Addr × Obj)} {σ : L2.St} {H : Hp} {s : Shared} {d : Addr} {o : Obj}
theorem frzT2 {kvs : List (List L2.Key × V)} (I : Inv X pins σ H s) (h : H d = some (.frz o (.dT kvs))) :
    (d == sysModules) = false ∧ s.heap.get? d = some o ∧ o.ExactDict ∧ ∃ (es : Array DictEntry) (ep : Nat), o.data = .dict es ep ∧ es.size = kvs.length ∧
      ∀ (i : Nat) (k : List L2.Key) (v : V), kvs[i]? = some (k, v) → ∃ (en : DictEntry) (q : Addr), es[i]? = some en ∧ en.key = .ref q ∧ H q = some (.tup (k.map kV)) ∧ RelV v en.val := by
  obtain ⟨hd, z, hs, xs, pr, o', es, ep, ho, hx, hdt, he, _⟩ := I.hok d _ h
  have eo : o = o' := Option.some.inj (hd.symm.trans ho)
  subst eo
  refine ⟨hs, hd, hx, es, ep, hdt, (size_of_entries he).trans (Paired.length pr).symm, fun i k v e => ?_⟩
  obtain ⟨b, hb, _, e2, e3⟩ := paired_get pr e
  refine ⟨entryOfKey (tupleKind (mixKind X.prog X.w)) b, b.2.1, ?_, rfl, e2, e3⟩
  rw [entry_at he i, hb]
  rfl
end
/-- its items, each a new pair of the key's tuple and the value -/
def ItiT (d : Addr) (o : Obj) (kvs : List (List L2.Key × V)) : It where
  go i H := H d = some (.frz o (.dT kvs)) ∧ i < kvs.length
  yld i H x H' := ∃ (T : Addr) (k : List L2.Key) (v : V) (q : Addr), kvs[i]? = some (k, v) ∧ x = .ref T ∧ H q = some (.tup (k.map kV)) ∧ H T = none ∧ H' = upd H T (.tup [.ref q, v])
  stop i H := H d = some (.frz o (.dT kvs)) ∧ kvs.length ≤ i
section
variable {P : Program} {w : World} {K : PySem.W.Frag} {d : Addr} {o : Obj} {es : Array DictEntry} {ep : Nat}
theorem turn_itemsT {kvs : List (List L2.Key × V)} {elts : List Expr} {kk : Nat} {tpos : Pos} (it : Addr) (hod : o.data = .dict es ep) :
    Turn P w K (.Tuple elts kk tpos) (ItiT d o kvs) [it] it (fun i h => ∃ ok ov, IsItemIter h it d i kvs.length ep ok ov) where
  mem := List.mem_singleton.mpr rfl
  obj := fun i h st b hb => by
    obtain ⟨ok, ov, e⟩ := st
    rw [List.mem_singleton.mp hb]
    exact ⟨_, e, fun v z => nomatch z⟩
  keep := fun i h h' st k => by
    obtain ⟨ok, ov, e⟩ := st
    exact ⟨ok, ov, k it (List.mem_singleton.mpr rfl) _ e⟩
  item := by
    intro X hP hw hK hc i pins s σ H E I hf st hg
    subst hP hw hK
    obtain ⟨hd, hi⟩ := hg
    obtain ⟨hs, hgd, hx, es', ep', hdt, hsz, ent⟩ := frzT2 I hd
    obtain ⟨rfl, rfl⟩ := dict_ep hod hdt
    obtain ⟨⟨k, v⟩, hkv⟩ : ∃ p, kvs[i]? = some p := ⟨kvs[i], List.getElem?_eq_getElem hi⟩
    obtain ⟨en, q, hen, hkey, hq, rv⟩ := ent i k v hkv
    obtain ⟨ok, ov, he⟩ := st
    have hlt : it < s.heap.objs.size := Heap.lt_size he
    have hi' : i < es'.size := by
      rw [hsz]
      exact hi
    have een : es'[i] = en := by
      rw [Array.getElem?_eq_getElem hi'] at hen
      exact Option.some.inj hen
    rw [← hsz] at he
    refine DT.nextI he ⟨o, hgd, hx, hdt⟩ hi' fun h' ho hT hz hk => ?_
    rw [een, hkey] at ho hT
    refine ⟨_, rfl, wpAny_letOwnedTupleGo_items (s := { s with heap := h' }) ho fun h'' he' sb => ?_⟩
    have hT2 : h''.get? s.heap.objs.size = some { cls := .type "tuple", data := .seq #[.ref q, en.val] } := (sb.2 _ (Nat.ne_of_gt hlt)).trans hT
    have new : ObjOk X.prog X.w (upd H s.heap.objs.size (.tup [.ref q, v])) h'' s.heap.objs.size (.tup [.ref q, v]) :=
      ⟨by show 2 ≤ sizeLine; decide, [.ref q, en.val], .cons rfl (.cons rv .nil), ⟨_, hT2, rfl, _, rfl⟩⟩
    have I1 : Inv X pins σ (upd H s.heap.objs.size (.tup [.ref q, v])) { s with heap := h'' } :=
      I.turnedNew (t' := s.toks) (ch := [it]) (fun b ob hb e => (sb.2 b (by simpa using hb)).trans (hk b ob (by simpa using hb) e)) hf (Nat.le_refl _) new
    refine ⟨.ref s.heap.objs.size, _, I1, rfl, ⟨_, k, v, q, hkv, rfl, hq, I.hok.fresh (Nat.le_refl _), rfl⟩, ⟨.ref q, en.val, ?_⟩, fun b hb => ?_⟩
    · rw [← hsz]
      exact he'
    · rw [List.mem_singleton.mp hb, upd_ne (Nat.ne_of_lt hlt)]
      exact (hf it (List.mem_singleton.mpr rfl)).1
  done := by
    intro X hP hw hK hc i pins s σ H E I hf st hg
    subst hP hw hK
    obtain ⟨hd, hi⟩ := hg
    obtain ⟨f0, f1, f2, f3, f4, f5⟩ := hf it (List.mem_singleton.mpr rfl)
    obtain ⟨hs, hgd, hx, es', ep', hdt, hsz, ent⟩ := frzT2 I hd
    obtain ⟨rfl, rfl⟩ := dict_ep hod hdt
    obtain ⟨ok, ov, he⟩ := st
    rw [← hsz] at he
    exact DT.endI (I.ok.hd hc) he ⟨o, hgd, hx, hdt⟩ (by omega) fun h' eb => ⟨rfl, I.turned (t' := s.toks) (fun b ob hb e => eb b ob hb e) f0 f1 f3 f4 f5⟩
  self := fun A i s Q E st h => by
    obtain ⟨_, _, e⟩ := st
    exact PySem.W.kcp_self e h
end
def iItemsT (td : TE) : TI := fun σ H R => td σ H fun x H1 => ∃ d o kvs, x = .ref d ∧ H1 d = some (.frz o (.dT kvs)) ∧ R (ItiT d o kvs) H1
theorem pi_itemsT {X : Cx} {e : Expr} {td : TE} {apos cpos tpos : Pos} {elts : List Expr} {kk : Nat} (he : PE X e td) (hbase : attributeBase e "items" X.env (eval e X.env) = eval e X.env := by rfl) (hline : (apos.endLine == cpos.line) = true := by rfl) :
    PI X (.Tuple elts kk tpos) (.Call (.Attribute e "items" apos) [] [] cpos) (iItemsT td) := by
  refine ⟨fun pins s σ H R I h => ?_⟩
  refine wpAny_Call_method (T := "dict") (id := "dict.items") hbase rfl hline F.plainAttrs_dict F.slot_dict_items F.type_dict_items (thn (he.run pins s σ H _ I h) fun u s1 ⟨x, H1, I1, rx, d, o, kvs, ex, hd, q⟩ => ?_)
  subst ex
  obtain rfl : u = Value.ref d := rx
  obtain ⟨hs, hgd, hx, es, ep, hdt, hsz, ent⟩ := frzT2 I1 hd
  have raw : DT.Raw s1.heap d es ep := ⟨o, hgd, hx, hdt⟩
  refine ⟨raw.typeIs, (fun a ea => by cases ea; exact ⟨o, hgd, hx.2.1⟩), ?_⟩
  have I2 : Inv X pins σ H1 { s1 with heap := s1.heap.push { cls := .type "dict_items", data := .fields #[.ref d] } } := I1.kept (t' := s1.toks) fun b ob q => Heap.get?_push_of_some _ q
  have fin : wpAny (model X.prog X.w) X.A (pyIter (.ref s1.heap.objs.size)) (PIE X pins σ (.Tuple elts kk tpos) R) X.xe { s1 with heap := s1.heap.push { cls := .type "dict_items", data := .fields #[.ref d] } } := by
    refine DT.iterI (d := d) (es := es) (ep := ep) ⟨_, Heap.get?_push_size _ rfl, rfl, rfl⟩ (raw.push _) (pi_one (tk := s1.toks) I2 _ (turn_itemsT _ hdt) ⟨.none, .none, ?_⟩ q)
    rw [hsz]
    exact Heap.get?_push_size _ rfl
  show wpAny _ _ (callWith cpos (.builtin "dict.items") [.ref d] [] []) _ X.xe s1
  exact method_meetsIn F.slot_dict_items F.entry_dict_items rfl (PySem.evalArgs_none ⟨rfl, raw.typeIs, F.args_dict_items_1 _, _, DT.meetsItems (es := es) (ep := ep) hs, ⟨raw, fin⟩⟩)
theorem walk_itemsT {d : Addr} {o : Obj} {kvs : List (List L2.Key × V)} : Walk (ItiT d o kvs) kvs.length (fun H => H d = some (.frz o (.dT kvs)))
    (fun i H x H' => ∃ (T : Addr) (k : List L2.Key) (v : V) (q : Addr), kvs[i]? = some (k, v) ∧ x = .ref T ∧ H q = some (.tup (k.map kV)) ∧ H T = none ∧ H' = upd H T (.tup [.ref q, v])) :=
  ⟨fun _ _ hi q => ⟨q, hi⟩, fun _ q => ⟨q, Nat.le_refl _⟩, fun _ _ _ _ _ _ y => y⟩
end Vx
namespace Vx
open PySem PySem.Spec PyProof.Rows L2
/-! ### bits of numbers from 0 on -/
theorem xor_and_add : ∀ a b : Nat, (a ^^^ b) + 2 * (a &&& b) = a + b := by
  intro a
  induction a using Nat.strongRecOn with
  | _ a ih =>
    intro b
    by_cases h : a = 0
    · subst h
      simp
    · have e := ih (a / 2) (by omega) (b / 2)
      have x1 : (a ^^^ b) / 2 = (a / 2) ^^^ (b / 2) := Nat.xor_div_two
      have x2 : (a &&& b) / 2 = (a / 2) &&& (b / 2) := Nat.and_div_two
      have t1 := Nat.testBit_xor a b 0
      have t2 := Nat.testBit_and a b 0
      rw [Nat.testBit_zero, Nat.testBit_zero, Nat.testBit_zero] at t1 t2
      have y1 : (a ^^^ b) % 2 = (a % 2 + b % 2) % 2 := by
        by_cases p : a % 2 = 1 <;> by_cases q : b % 2 = 1
        · rw [decide_eq_true p, decide_eq_true q] at t1
          have := of_decide_eq_false t1
          omega
        · rw [decide_eq_true p, decide_eq_false q] at t1
          have := of_decide_eq_true t1
          omega
        · rw [decide_eq_false p, decide_eq_true q] at t1
          have := of_decide_eq_true t1
          omega
        · rw [decide_eq_false p, decide_eq_false q] at t1
          have := of_decide_eq_false t1
          omega
      have y2 : (a &&& b) % 2 = if a % 2 = 1 ∧ b % 2 = 1 then 1 else 0 := by
        by_cases p : a % 2 = 1 <;> by_cases q : b % 2 = 1
        · rw [decide_eq_true p, decide_eq_true q] at t2
          rw [if_pos ⟨p, q⟩]
          exact of_decide_eq_true t2
        · rw [decide_eq_true p, decide_eq_false q] at t2
          rw [if_neg fun z => q z.2]
          have := of_decide_eq_false t2
          omega
        · rw [decide_eq_false p, decide_eq_true q] at t2
          rw [if_neg fun z => p z.1]
          have := of_decide_eq_false t2
          omega
        · rw [decide_eq_false p, decide_eq_false q] at t2
          rw [if_neg fun z => p z.1]
          have := of_decide_eq_false t2
          omega
      have z1 := Nat.div_add_mod (a ^^^ b) 2
      have z2 := Nat.div_add_mod (a &&& b) 2
      rw [x1, y1] at z1
      rw [x2, y2] at z2
      by_cases p : a % 2 = 1 ∧ b % 2 = 1
      · rw [if_pos p] at z2
        omega
      · rw [if_neg p] at z2
        omega
theorem or_and_xor (a b : Nat) : (a ||| b) = (a ^^^ b) + (a &&& b) := by
  have d : (a ^^^ b) &&& (a &&& b) = 0 := by
    refine Nat.eq_of_testBit_eq fun i => ?_
    simp only [Nat.testBit_and, Nat.testBit_xor, Nat.zero_testBit]
    cases a.testBit i <;> cases b.testBit i <;> rfl
  have e := xor_and_add (a ^^^ b) (a &&& b)
  rw [d] at e
  have f : (a ^^^ b) ^^^ (a &&& b) = a ||| b := by
    refine Nat.eq_of_testBit_eq fun i => ?_
    simp only [Nat.testBit_and, Nat.testBit_xor, Nat.testBit_or]
    cases a.testBit i <;> cases b.testBit i <;> rfl
  omega
theorem bAnd (a b : Nat) : Builtin.bitAnd (a : Int) (b : Int) = ((a &&& b : Nat) : Int) := PySem.W.os_band a b
theorem bOr (a b : Nat) : Builtin.bitOr (a : Int) (b : Int) = ((a ||| b : Nat) : Int) := by
  rw [bitOr_nn (Int.natCast_nonneg a) (Int.natCast_nonneg b), Int.toNat_natCast, Int.toNat_natCast]
theorem bXor (a b : Nat) : Builtin.bitXor (a : Int) (b : Int) = ((a ^^^ b : Nat) : Int) := by
  show Builtin.bitOr (a : Int) (b : Int) - Builtin.bitAnd (a : Int) (b : Int) = _
  rw [bAnd, bOr, or_and_xor]
  omega
section
variable {X : Cx}
theorem op_andNN : OpR X (binaryOp .BitAnd) (fun x y H Q => ∃ a b : Nat, x = .int (a : Int) ∧ y = .int (b : Int) ∧ Q (.int ((a &&& b : Nat) : Int)) H) := by
  intro pins s σ H x y v u Q I r1 r2 h
  obtain ⟨a, b, rfl, rfl, q⟩ := h
  exact op_and pins s σ H _ _ v u Q I r1 r2 ⟨_, _, rfl, rfl, (by show Q (V.int (Builtin.bitAnd (a : Int) (b : Int))) H; rw [bAnd]; exact q)⟩
theorem op_orNN : OpR X (binaryOp .BitOr) (fun x y H Q => ∃ a b : Nat, x = .int (a : Int) ∧ y = .int (b : Int) ∧ Q (.int ((a ||| b : Nat) : Int)) H) := by
  intro pins s σ H x y v u Q I r1 r2 h
  obtain ⟨a, b, rfl, rfl, q⟩ := h
  exact op_or pins s σ H _ _ v u Q I r1 r2 ⟨_, _, rfl, rfl, (by show Q (V.int (Builtin.bitOr (a : Int) (b : Int))) H; rw [bOr]; exact q)⟩
theorem op_xorNN : OpR X (binaryOp .BitXor) (fun x y H Q => ∃ a b : Nat, x = .int (a : Int) ∧ y = .int (b : Int) ∧ Q (.int ((a ^^^ b : Nat) : Int)) H) := by
  intro pins s σ H x y v u Q I r1 r2 h
  obtain ⟨a, b, rfl, rfl, q⟩ := h
  exact op_xor pins s σ H _ _ v u Q I r1 r2 ⟨_, _, rfl, rfl, (by show Q (V.int (Builtin.bitXor (a : Int) (b : Int))) H; rw [bXor]; exact q)⟩
theorem ip_orNN : PIp X .BitOr (fun x y H Q => ∃ a b : Nat, x = .int (a : Int) ∧ y = .int (b : Int) ∧ Q (.int ((a ||| b : Nat) : Int)) H) := by
  intro pins s σ H x y v u Q I r1 r2 h
  obtain ⟨a, b, rfl, rfl, q⟩ := h
  exact iop_or pins s σ H _ _ v u Q I r1 r2 ⟨_, _, rfl, rfl, (by show Q (V.int (Builtin.bitOr (a : Int) (b : Int))) H; rw [bOr]; exact q)⟩
theorem ip_xorNN : PIp X .BitXor (fun x y H Q => ∃ a b : Nat, x = .int (a : Int) ∧ y = .int (b : Int) ∧ Q (.int ((a ^^^ b : Nat) : Int)) H) := by
  intro pins s σ H x y v u Q I r1 r2 h
  obtain ⟨a, b, rfl, rfl, q⟩ := h
  exact iop_xor pins s σ H _ _ v u Q I r1 r2 ⟨_, _, rfl, rfl, (by show Q (V.int (Builtin.bitXor (a : Int) (b : Int))) H; rw [bXor]; exact q)⟩
theorem op_shrNN : OpR X (binaryOp .RShift) (fun x y H Q => ∃ a k : Nat, x = .int (a : Int) ∧ y = .int (k : Int) ∧ Q (.int ((a >>> k : Nat) : Int)) H) := by
  intro pins s σ H x y v u Q I r1 r2 h
  obtain ⟨a, k, rfl, rfl, q⟩ := h
  refine op_shrN pins s σ H _ _ v u Q I r1 r2 ⟨_, k, rfl, rfl, ?_⟩
  rw [show (a : Int) / 2 ^ k = ((a >>> k : Nat) : Int) by rw [Nat.shiftRight_eq_div_pow]; exact (by push_cast; rfl)]
  exact q
theorem op_shlNN : OpR X (binaryOp .LShift) (fun x y H Q => ∃ (a k n : Nat), x = .int (a : Int) ∧ y = .int (k : Int) ∧ a < 2 ^ n ∧ n + k ≤ 134217728 ∧ Q (.int ((a <<< k : Nat) : Int)) H) := by
  intro pins s σ H x y v u Q I r1 r2 h
  obtain ⟨a, k, n, rfl, rfl, la, lk, q⟩ := h
  refine op_shlN pins s σ H _ _ v u Q I r1 r2 ⟨_, k, rfl, rfl, shl_ok (n := n) la lk, ?_⟩
  rw [show (a : Int) * 2 ^ k = ((a <<< k : Nat) : Int) by rw [Nat.shiftLeft_eq]; exact (by push_cast; rfl)]
  exact q
end
/-! ### the bits that are set, ascending -/
def bitsB (N n : Nat) : List Nat := (List.range N).filter fun j => n.testBit j
theorem mem_bitsB {N n j : Nat} : j ∈ bitsB N n ↔ j < N ∧ n.testBit j = true := by
  unfold bitsB
  rw [List.mem_filter, List.mem_range]
theorem low_bit : ∀ n : Nat, n ≠ 0 → ∃ k a, n = 2 ^ k * (2 * a + 1) := by
  intro n
  induction n using Nat.strongRecOn with
  | _ n ih =>
    intro h
    by_cases e : n % 2 = 1
    · exact ⟨0, n / 2, by omega⟩
    · obtain ⟨k, a, q⟩ := ih (n / 2) (by omega) (by omega)
      refine ⟨k + 1, a, ?_⟩
      have : n = 2 * (n / 2) := by omega
      rw [this, q, Nat.pow_succ, Nat.mul_comm (2 ^ k) 2, Nat.mul_assoc]
theorem low_test {k a j : Nat} : (2 ^ k * (2 * a + 1)).testBit j = (decide (j = k) || (decide (k < j) && (2 ^ k * (2 * a)).testBit j)) := by
  rw [Nat.testBit_two_pow_mul, Nat.testBit_two_pow_mul]
  by_cases h : k ≤ j
  · by_cases e : j = k
    · subst e
      simp [Nat.testBit_zero]
    · have e2 : k < j := by omega
      have e3 : j - k = (j - k - 1) + 1 := by omega
      rw [e3, Nat.testBit_succ, Nat.testBit_succ]
      have e4 : (2 * a + 1) / 2 = 2 * a / 2 := by omega
      rw [e4]
      simp [h, e, e2]
  · have e : j ≠ k := by omega
    have e2 : ¬ k < j := by omega
    simp [h, e, e2]
theorem low_xor (k a : Nat) : 2 ^ k * (2 * a + 1) ^^^ 2 ^ k = 2 ^ k * (2 * a) := by
  refine Nat.eq_of_testBit_eq fun j => ?_
  rw [Nat.testBit_xor, low_test, Nat.testBit_two_pow]
  by_cases e : k = j
  · subst e
    simp [Nat.testBit_two_pow_mul, Nat.testBit_zero]
  · have e' : j ≠ k := fun z => e z.symm
    simp only [e, e', decide_false, Bool.false_or, Bool.xor_false]
    by_cases h : k < j
    · simp [h]
    · have : ¬ k ≤ j := by omega
      simp [h, this, Nat.testBit_two_pow_mul]
theorem bits_low {N k a : Nat} (h : 2 ^ k * (2 * a + 1) < 2 ^ N) : bitsB N (2 ^ k * (2 * a + 1)) = k :: bitsB N (2 ^ k * (2 * a)) := by
  have hk : k < N := by
    have : 2 ^ k < 2 ^ N := Nat.lt_of_le_of_lt (Nat.le_mul_of_pos_right _ (by omega)) h
    exact (Nat.pow_lt_pow_iff_right (by decide)).mp this
  have e : List.range N = List.range k ++ k :: (List.range (N - k - 1)).map (fun j => k + 1 + j) := by
    have e1 := List.range_add (n := k) (m := N - k)
    rw [show k + (N - k) = N by omega] at e1
    rw [e1, show N - k = (N - k - 1) + 1 by omega, List.range_succ_eq_map, List.map_cons, List.map_map]
    simp
    intro j _
    omega
  have z : ∀ m, (List.range k).filter (fun j => (2 ^ k * m).testBit j) = [] := fun m => by
    refine List.filter_eq_nil_iff.mpr fun j hj => ?_
    have := List.mem_range.mp hj
    rw [Nat.testBit_two_pow_mul]
    have : ¬ k ≤ j := by omega
    simp [this]
  unfold bitsB
  rw [e, List.filter_append, List.filter_append, z, z, List.nil_append, List.nil_append, List.filter_cons, List.filter_cons]
  rw [if_pos (by rw [low_test]; simp), if_neg (by rw [Nat.testBit_two_pow_mul]; simp [Nat.testBit_zero])]
  refine congrArg _ (List.filter_congr fun j hj => ?_)
  obtain ⟨i, _, rfl⟩ := List.mem_map.mp hj
  rw [low_test]
  have e1 : ¬ k + 1 + i = k := by omega
  have e2 : k < k + 1 + i := by omega
  simp [e1, e2]
theorem bits_zero (N : Nat) : bitsB N 0 = [] := by
  unfold bitsB
  exact List.filter_eq_nil_iff.mpr fun j _ => by simp
theorem low_and (k a : Nat) : Builtin.bitAnd ((2 ^ k * (2 * a + 1) : Nat) : Int) (-((2 ^ k * (2 * a + 1) : Nat) : Int)) = ((2 ^ k : Nat) : Int) := by
  have e := PySem.W.kbt_low k (a : Int)
  push_cast
  exact e
theorem intBits_pow (k : Nat) : Builtin.Int.intBits ((2 ^ k : Nat) : Int) = k + 1 := by
  unfold Builtin.Int.intBits
  have h : ¬ ((((2 ^ k : Nat) : Int)) == 0) = true := by
    have : 0 < 2 ^ k := Nat.two_pow_pos k
    simp only [beq_iff_eq]
    omega
  rw [if_neg h, Int.natAbs_natCast, Nat.log2_two_pow]
end Vx
namespace Vx
open PySem PySem.Spec PyProof.Rows L2
/-! ### dicts whose keys are pairs, told by the list of the keys and a function -/
def MapP (kvs : List (List L2.Key × V)) (ps : List Pr) (g : Pr → V) : Prop := kvs = ps.map (fun x => (keyP x, g x)) ∧ ps.Nodup
def addK (ps : List Pr) (x : Pr) : List Pr := if x ∈ ps then ps else ps ++ [x]
def setG (g : Pr → V) (x : Pr) (v : V) : Pr → V := fun y => if y = x then v else g y
theorem mem_addK {ps : List Pr} {x y : Pr} : y ∈ addK ps x ↔ y ∈ ps ∨ y = x := by
  unfold addK
  by_cases h : x ∈ ps
  · rw [if_pos h]
    exact ⟨.inl, fun q => q.elim id fun e => e ▸ h⟩
  · rw [if_neg h, List.mem_append, List.mem_singleton]
theorem addK_len {ps : List Pr} {x : Pr} : (addK ps x).length ≤ ps.length + 1 := by
  unfold addK
  by_cases h : x ∈ ps
  · rw [if_pos h]
    omega
  · rw [if_neg h, List.length_append]
    exact Nat.le_refl _
theorem addK_new {ps : List Pr} {x : Pr} (h : x ∉ ps) : addK ps x = ps ++ [x] := if_neg h
theorem addK_old {ps : List Pr} {x : Pr} (h : x ∈ ps) : addK ps x = ps := if_pos h
theorem MapP.nil (g : Pr → V) : MapP [] [] g := ⟨rfl, List.nodup_nil⟩
theorem MapP.keys {kvs : List (List L2.Key × V)} {ps : List Pr} {g : Pr → V} (h : MapP kvs ps g) : KeysP kvs ps := by
  refine ⟨?_, h.2⟩
  rw [h.1, List.map_map]
  rfl
theorem MapP.len {kvs : List (List L2.Key × V)} {ps : List Pr} {g : Pr → V} (h : MapP kvs ps g) : kvs.length = ps.length := by rw [h.1, List.length_map]
theorem MapP.congr {kvs : List (List L2.Key × V)} {ps : List Pr} {g g' : Pr → V} (h : MapP kvs ps g) (e : ∀ x ∈ ps, g x = g' x) : MapP kvs ps g' := by
  refine ⟨?_, h.2⟩
  rw [h.1]
  exact List.map_congr_left fun x m => by rw [e x m]
theorem MapP.at {kvs : List (List L2.Key × V)} {ps : List Pr} {g : Pr → V} (h : MapP kvs ps g) {i : Nat} {k : List L2.Key} {v : V} (e : kvs[i]? = some (k, v)) : ∃ x, ps[i]? = some x ∧ k = keyP x ∧ v = g x := by
  rw [h.1, List.getElem?_map] at e
  cases q : ps[i]? with
  | none => rw [q] at e; cases e
  | some x =>
    rw [q] at e
    injection e with e
    injection e with e1 e2
    exact ⟨x, rfl, e1.symm, e2.symm⟩
theorem MapP.get {kvs : List (List L2.Key × V)} {ps : List Pr} {g : Pr → V} (h : MapP kvs ps g) (x : Pr) : valV kvs (keyP x) = if x ∈ ps then some (g x) else none := by
  rw [h.1]
  have go : ∀ qs : List Pr, valV (qs.map fun x => (keyP x, g x)) (keyP x) = if x ∈ qs then some (g x) else none := fun qs => by
    induction qs with
    | nil => rfl
    | cons y qs ih =>
      rw [List.map_cons]
      by_cases e : y = x
      · subst e
        rw [valV_pos rfl, if_pos List.mem_cons_self]
      · rw [valV_neg (fun z => e (keyP_inj z)), ih]
        have e' : ¬ x = y := fun z => e z.symm
        by_cases m : x ∈ qs <;> simp [m, e']
  exact go ps
theorem MapP.put {kvs : List (List L2.Key × V)} {ps : List Pr} {g : Pr → V} (h : MapP kvs ps g) (x : Pr) (v : V) : MapP (putK kvs (keyP x) v) (addK ps x) (setG g x v) := by
  have any : (kvs.any fun kv => decide (kv.1 = keyP x)) = decide (x ∈ ps) := by
    rw [valV_any, h.get]
    by_cases m : x ∈ ps <;> simp [m]
  unfold putK
  rw [any]
  by_cases m : x ∈ ps
  · rw [if_pos (decide_eq_true m), addK_old m]
    refine ⟨?_, h.2⟩
    rw [h.1, List.map_map]
    refine List.map_congr_left fun y _ => ?_
    show (if keyP y = keyP x then (keyP y, v) else (keyP y, g y)) = (keyP y, if y = x then v else g y)
    by_cases e : y = x
    · rw [if_pos (by rw [e]), if_pos e]
    · rw [if_neg fun z => e (keyP_inj z), if_neg e]
  · rw [if_neg (by simp [m]), addK_new m]
    refine ⟨?_, ?_⟩
    · rw [h.1, List.map_append]
      congr 1
      · refine List.map_congr_left fun y my => ?_
        have e : ¬ y = x := fun e => m (e ▸ my)
        show (keyP y, g y) = (keyP y, if y = x then v else g y)
        rw [if_neg e]
      · show [(keyP x, v)] = [(keyP x, if x = x then v else g x)]
        rw [if_pos rfl]
    · refine List.pairwise_append.mpr ⟨h.2, List.pairwise_cons.mpr ⟨fun _ m => (by cases m), List.Pairwise.nil⟩, fun a ma b mb e => ?_⟩
      rw [List.mem_singleton.mp mb] at e
      exact m (e ▸ ma)
theorem MapP.drop {kvs : List (List L2.Key × V)} {ps : List Pr} {g : Pr → V} (h : MapP kvs ps g) (x : Pr) : MapP (dropK kvs (keyP x)) (ps.filter fun y => decide (y ≠ x)) g := by
  refine ⟨?_, h.2.filter _⟩
  unfold dropK
  rw [h.1, List.filter_map]
  congr 1
  refine List.filter_congr fun y _ => ?_
  show decide (keyP y ≠ keyP x) = decide (y ≠ x)
  by_cases e : y = x
  · simp [e]
  · have : keyP y ≠ keyP x := fun z => e (keyP_inj z)
    simp [e, this]
/-- at d: such a dict -/
def Dct (H : Hp) (d : Addr) (ps : List Pr) (g : Pr → V) : Prop := ∃ kvs, H d = some (.dT kvs) ∧ MapP kvs ps g
theorem Dct.up {H H' : Hp} {d : Addr} {ps : List Pr} {g : Pr → V} (e : Same H H') (h : Dct H d ps g) : Dct H' d ps g := by
  obtain ⟨kvs, h1, h2⟩ := h
  exact ⟨kvs, e _ _ h1, h2⟩
theorem Dct.new {H : Hp} {d : Addr} (g : Pr → V) (h : H d = some (.dT [])) : Dct H d [] g := ⟨[], h, .nil g⟩
theorem Dct.ne {H : Hp} {d p : Addr} {ps : List Pr} {g : Pr → V} (h : Dct H d ps g) (n : H p = none) : p ≠ d := fun e => by
  obtain ⟨kvs, h1, _⟩ := h
  rw [e, h1] at n
  cases n
theorem Dct.isD {H : Hp} {d : Addr} {ps : List Pr} {g : Pr → V} (h : Dct H d ps g) : IsD H d := by
  obtain ⟨kvs, h1, _⟩ := h
  exact .inr ⟨kvs, .inl h1⟩
theorem Dct.dget {H : Hp} {d b : Addr} {ps : List Pr} {g : Pr → V} {x : Pr} (h : Dct H d ps g) (e : H b = some (.tup [.int x.1, .int x.2])) : DGet H d (.ref b) (if x ∈ ps then some (g x) else none) := by
  obtain ⟨kvs, h1, h2⟩ := h
  rw [← h2.get x]
  exact .t (k := keyP x) h1 e
/-- the answer of d.get(x, z) -/
def orG (ps : List Pr) (g : Pr → V) (z : V) (x : Pr) : V := if x ∈ ps then g x else z
theorem getD_or {ps : List Pr} {g : Pr → V} {z : V} {x : Pr} : (if x ∈ ps then some (g x) else none : Option V).getD z = orG ps g z x := by
  unfold orG
  by_cases h : x ∈ ps <;> simp [h]
/-- what stands elsewhere stays, d's dict grows -/
def PutAt (H : Hp) (d : Addr) (ps : List Pr) (g : Pr → V) (x : Pr) (v : V) (H' : Hp) : Prop := Dct H' d (addK ps x) (setG g x v) ∧ ∀ b, b ≠ d → H' b = H b
theorem Dct.dput {H : Hp} {d b : Addr} {ps : List Pr} {g : Pr → V} {x : Pr} (h : Dct H d ps g) (few : ps.length < sizeLine) (e : H b = some (.tup [.int x.1, .int x.2])) (v : V) : ∃ H', DPut H d (.ref b) v H' ∧ PutAt H d ps g x v H' := by
  obtain ⟨kvs, h1, h2⟩ := h
  exact ⟨_, .t (k := keyP x) h1 e (by rw [h2.len]; exact few), ⟨_, upd_same, h2.put x v⟩, fun b n => upd_ne n⟩
theorem PutAt.mut {H0 H H' : Hp} {d : Addr} {ps : List Pr} {g : Pr → V} {x : Pr} {v : V} (p : PutAt H d ps g x v H') (sm : Same H0 H) (n : H0 d = none) : Same H0 H' := fun b o e => by
  rw [p.2 b fun z => by rw [z, n] at e; cases e]
  exact sm b o e
theorem Dct.congr {H : Hp} {d : Addr} {ps : List Pr} {g g' : Pr → V} (h : Dct H d ps g) (e : ∀ x ∈ ps, g x = g' x) : Dct H d ps g' := by
  obtain ⟨kvs, h1, h2⟩ := h
  exact ⟨kvs, h1, h2.congr e⟩
theorem updS {H H' : Hp} {d : Addr} {o : HO} (e : Same H H') : Same (upd H d o) (upd H' d o) := fun b u h => by
  by_cases c : b = d
  · rw [c, upd_same] at h
    rw [c, upd_same]
    exact h
  · rw [upd_ne c] at h
    rw [upd_ne c]
    exact e b u h
theorem Dct.off {H : Hp} {d e : Addr} {ps : List Pr} {g : Pr → V} {o : HO} (h : Dct H d ps g) (n : d ≠ e) : Dct (upd H e o) d ps g := by
  obtain ⟨kvs, h1, h2⟩ := h
  exact ⟨kvs, by rw [upd_ne n]; exact h1, h2⟩
theorem nodup_next {α : Type} {ps : List α} {i : Nat} {x : α} (nd : ps.Nodup) (h : ps[i]? = some x) : x ∉ ps.take i := fun m => by
  obtain ⟨j, hj, e⟩ := List.getElem_of_mem m
  rw [List.length_take] at hj
  obtain ⟨li, ei⟩ := List.getElem?_eq_some_iff.mp h
  rw [List.getElem_take] at e
  have := (List.getElem_inj nd (h₀ := by omega) (h₁ := li)).mp (e.trans ei.symm)
  omega
theorem addK_take {ps : List Pr} {i : Nat} {x : Pr} (nd : ps.Nodup) (h : ps[i]? = some x) : addK (ps.take i) x = ps.take (i + 1) := by
  rw [addK_new (nodup_next nd h), take_next h]
theorem unlock {H H' : Hp} {d : Addr} {od : Obj} {u : HO} (hd : H d = some u) (sm : Same (upd H d (.frz od u)) H') : Same H (upd H' d u) := fun b o e => by
  by_cases c : b = d
  · rw [c] at e ⊢
    rw [hd] at e
    rw [upd_same]
    exact e
  · rw [upd_ne c]
    exact sm b o (by rw [upd_ne c]; exact e)
/-! ### the program's lists of such keys -/
theorem isKeys_cells {H : Hp} {p : Addr} : ∀ {kvs : List (List L2.Key × V)} {ps : List Pr} {g : Pr → V} {bs : List Addr}, MapP kvs ps g → IsKeys H kvs bs → H p = some (.lst (bs.map V.ref)) → Cells H p ps := by
  have go : ∀ (ps : List Pr) (g : Pr → V) (bs : List Addr), IsKeys H (ps.map fun x => (keyP x, g x)) bs → ∃ ts : List (Addr × Pr), bs.map V.ref = ts.map (fun t => V.ref t.1) ∧ (∀ t ∈ ts, H t.1 = some (.tup [.int t.2.1, .int t.2.2])) ∧ ts.map (·.2) = ps := by
    intro ps g
    induction ps with
    | nil =>
      intro bs h
      cases h
      exact ⟨[], rfl, fun _ m => (by cases m), rfl⟩
    | cons x ps ih =>
      intro bs h
      cases h with
      | @cons _ b _ bs h1 h2 =>
        obtain ⟨ts, a1, a2, a3⟩ := ih bs h2
        refine ⟨(b, x) :: ts, ?_, ?_, ?_⟩
        · rw [List.map_cons, List.map_cons, a1]
        · intro t m
          rcases List.mem_cons.mp m with e | m
          · rw [e]
            exact h1
          · exact a2 t m
        · rw [List.map_cons, a3]
  intro kvs ps g bs h k e
  rw [h.1] at k
  obtain ⟨ts, a1, a2, a3⟩ := go ps g bs k
  exact ⟨ts, by rw [e, a1], a2, a3⟩
theorem cr_listP {X : Cx} (hc : X.calm = true) : CallR X (.type "list") (fun xs H Q => ∃ d ps g, xs = [V.ref d] ∧ Dct H d ps g ∧ ∀ H' p, Same H H' → H p = none → Cells H' p ps → Q (.ref p) H') := by
  intro pins s σ H xs us Q I r h
  obtain ⟨d, ps, g, rfl, ⟨kvs, h1, h2⟩, q⟩ := h
  refine call_list_dT hc pins s σ H _ us Q I r ⟨d, kvs, rfl, .inl h1, fun p bs n k => q _ p (newS n) n ?_⟩
  refine isKeys_cells (bs := bs) h2 ?_ upd_same
  exact Paired.mapP k fun a b e => newS n _ _ e
theorem truC {K : PySem.W.Frag} {H : Hp} {l : Addr} {ps : List Pr} (h : Cells H l ps) : TruV K (.ref l) H (!ps.isEmpty) := by
  obtain ⟨ts, h1, _, rfl⟩ := h
  exact .inl ⟨_, lst_of h1, by cases ts <;> rfl⟩
/-- sorted(d) -/
theorem cr_sortedDT {X : Cx} (hcalm : X.calm = true) : CallR X (.builtin "sorted") (fun xs H Q => ∃ d ps g, xs = [V.ref d] ∧ Dct H d ps g ∧ ∀ p H' qs, Same H H' → H p = none → Cells H' p qs → CanP ps qs → qs.length = ps.length → Q (.ref p) H') := by
  intro pins s σ H xs us Q I r h
  obtain ⟨d, ps, g, rfl, ⟨kvs, hd, hm⟩, q⟩ := h
  obtain ⟨u, rfl, rx⟩ := r.one
  cases rx
  obtain ⟨z, hs, ks, prd, o, es, ep, ho, hx, hdt, he, hn⟩ := (show ObjOk X.prog X.w H s.heap d (.dT kvs) from (Rd.of hd).ok I.hok)
  have l1 : es.size = ks.length := size_of_entries he
  have l2 : kvs.length = ks.length := Paired.length prd
  have lim : es.size ≤ sizeLine := by omega
  refine Calls.call_function_entry kind_sorted plain_sorted entry_sorted (args_sorted1 _) ?_
  unfold Builtin.«sorted»
  refine wpAny_bind (m := checkCount "sorted" 1 1 _) (wpAny_pure ?_)
  refine wpAny_bind (PySem.W.kdu_collect (A := X.A.in1) (kdl_raw hs hx hdt) (I.ok.hd hcalm) ho lim fun h' tk acc kp it => ?_)
  -- the key tuples
  have keyAt : ∀ (i : Nat) (x : Pr), ps[i]? = some x → ∃ b, acc.toList[i]? = some (.ref b) ∧ H b = some (.tup [.int x.1, .int x.2]) := fun i x e => by
    have e1 : kvs[i]? = some (keyP x, g x) := by rw [hm.1, List.getElem?_map, e]; rfl
    obtain ⟨b, hb, _, e2, _⟩ := paired_get prd e1
    have q1 := entry_at he i
    rw [hb] at q1
    have li : i < acc.toList.length := by
      rw [Array.length_toList, it.1, l1]
      exact (List.getElem?_eq_some_iff.mp hb).1
    obtain ⟨en, q2, q3⟩ := it.2 i acc.toList[i] (by rw [← Array.getElem?_toList]; exact List.getElem?_eq_getElem li)
    rw [q1] at q2
    have q4 : entryOfKey (tupleKind (mixKind X.prog X.w)) b = en := Option.some.inj q2
    refine ⟨b.2.1, ?_, e2⟩
    rw [List.getElem?_eq_getElem li, q3, ← q4]
    rfl
  have al : acc.toList.length = ps.length := by rw [Array.length_toList, it.1, l1, ← l2, hm.len]
  have lacc : acc.toList.length ≤ sizeLine := by rw [Array.length_toList, it.1]; exact lim
  have I1 : Inv X pins σ H { s with heap := h', toks := tk } := I.kept kp
  refine wpAny_bind (wpAny_newList ?_ lacc)
  have gl : (h'.push (seqObj "list" acc.toList.toArray 0)).get? h'.objs.size = some (seqObj "list" acc.toList.toArray 0) := Heap.get?_push_size _ rfl
  show wpAny _ _ _ _ _ { s with heap := h'.push (seqObj "list" acc.toList.toArray 0), toks := tk }
  generalize hh1 : h'.push (seqObj "list" acc.toList.toArray 0) = h1 at gl ⊢
  generalize acc.toList = vs at *
  have keep1 : ∀ b u, h'.get? b = some u → h1.get? b = some u := fun b u e => by
    rw [← hh1]
    exact Heap.get?_push_of_some _ e
  have own : ∀ v ∈ vs, ∃ b x, v = .ref b ∧ H b = some (.tup [.int x.1, .int x.2]) ∧ (x : Pr) ∈ ps := fun v m => by
    obtain ⟨i, li, e⟩ := List.getElem_of_mem m
    have lp : i < ps.length := by omega
    obtain ⟨b, e1, e2⟩ := keyAt i ps[i] (List.getElem?_eq_getElem lp)
    rw [List.getElem?_eq_getElem li] at e1
    exact ⟨b, ps[i], by rw [← e]; exact Option.some.inj e1, e2, List.getElem_mem lp⟩
  have tin : ∀ b (x : Pr), H b = some (.tup [.int x.1, .int x.2]) → TS.TupInts h1 (.ref b) [x.1, x.2] := fun b x e => tupInts_of (P := X.prog) (w := X.w) (isT_keep (Inv.isT (k := [x.1, x.2]) I1 (tup_of e)) keep1)
  have key : ∀ b (x : Pr), H b = some (.tup [.int x.1, .int x.2]) → pr (TS.intsOf h1 (.ref b)) = x := fun b x e => by
    rw [(tin b x e).ints]
    rfl
  have isP : ∀ v ∈ vs, Srt.IsPair h1 v (pr (TS.intsOf h1 v)).1 (pr (TS.intsOf h1 v)).2 := fun v m => by
    obtain ⟨b, x, rfl, e, _⟩ := own v m
    rw [key b x e]
    have i := tin b x e
    obtain ⟨b2, items, eb, ⟨o1, go1, co1, n1, do1⟩, ia⟩ := i
    cases eb
    obtain ⟨xs⟩ := items
    cases ia with
    | cons _ t1 ia =>
      cases ia with
      | cons _ t2 ia =>
        cases ia
        exact ⟨_, o1, t1, t2, n1, rfl, go1, co1, do1⟩
  have mapK : vs.map (fun v => pr (TS.intsOf h1 v)) = ps := by
    refine List.ext_getElem? fun i => ?_
    rw [List.getElem?_map]
    by_cases li : i < ps.length
    · obtain ⟨b, e1, e2⟩ := keyAt i ps[i] (List.getElem?_eq_getElem li)
      rw [e1, List.getElem?_eq_getElem li]
      exact congrArg some (key b _ e2)
    · rw [List.getElem?_eq_none (by omega), List.getElem?_eq_none (by omega)]
      rfl
  refine wpAny_bind (wpAny_holding (wpAny_call_entry (s := { s with heap := h1, toks := tk }) slot_list_sort ⟨_, gl, rfl⟩ entry_list_sort (SrtO.list_sort_ord (s := { s with heap := h1, toks := tk }) (SrtO.swo_lex fun v => pr (TS.intsOf h1 v)) gl lacc (fun two => SrtO.pairs_sortableO (by omega) isP fun o1 e => ?_) fun out srt stb => ⟨_, rfl, ?_⟩) (args_list_sort _)))
  · have e' : some o1 = some (seqObj "list" vs.toArray 0) := e.symm.trans gl
    cases e'
    intro c
    exact absurd (Value.type.inj c) (by decide)
  · obtain ⟨c, gc⟩ := sortedHeap_at (vs := vs) (out := out.toArray) gl
    have oown : ∀ v ∈ out, ∃ b x, v = Value.ref b ∧ H b = some (.tup [.int x.1, .int x.2]) ∧ (x : Pr) ∈ ps := fun v m => own v (stb.perm.mem_iff.mp m)
    have keepAll : ∀ b u, h'.get? b = some u → (sortedHeap h1 h'.objs.size vs out.toArray).get? b = some u := fun b u g1 => by
      have lt1 := Heap.lt_size g1
      rw [sortedHeap_old (Nat.ne_of_lt lt1) (Heap.lt_size (keep1 b u g1))]
      exact keep1 b u g1
    have nF : H h'.objs.size = none := I1.hok.fresh (Nat.le_refl _)
    let ts : List (Addr × Pr) := out.map fun v => (adr v, pr (TS.intsOf h1 v))
    have eo : ts.map (fun t => Value.ref t.1) = out := by
      rw [List.map_map]
      refine (List.map_congr_left fun v m => ?_).trans (List.map_id _)
      obtain ⟨b, x, rfl, _⟩ := oown v m
      rfl
    have vals : ∀ ts : List (Addr × Pr), Vals (ts.map fun q => V.ref q.1) (ts.map fun q => Value.ref q.1) := fun ts => by
      induction ts with
      | nil => exact .nil
      | cons t ts ih => exact .cons rfl ih
    have lo : ts.length ≤ sizeLine := by
      rw [List.length_map, stb.perm.length_eq]
      exact lacc
    have new : ObjOk X.prog X.w (upd H h'.objs.size (.lst (ts.map fun q => V.ref q.1))) (sortedHeap h1 h'.objs.size vs out.toArray) h'.objs.size (.lst (ts.map fun q => V.ref q.1)) := by
      refine ⟨by rw [List.length_map]; exact lo, ts.map fun q => Value.ref q.1, c, vals ts, ?_⟩
      rw [eo]
      exact gc
    have J := I1.laid (t' := tk) keepAll (Nat.le_refl _) new
    have pmk : (ts.map (·.2)).Perm ps := by
      rw [List.map_map, ← mapK]
      exact stb.perm.map fun v => pr (TS.intsOf h1 v)
    refine wpAny_pure ⟨_, rfl, .ref h'.objs.size, _, J, rfl, q _ _ (ts.map (·.2)) (newS nF) nF ⟨ts, upd_same, fun t m => ?_, rfl⟩ ⟨?_, fun x => pmk.mem_iff⟩ pmk.length_eq⟩
    · obtain ⟨v, m1, rfl⟩ := List.mem_map.mp m
      obtain ⟨b, x, rfl, e, _⟩ := oown v m1
      refine newS nF _ _ ?_
      show H b = some (.tup [.int (pr (TS.intsOf h1 (.ref b))).1, .int (pr (TS.intsOf h1 (.ref b))).2])
      rw [key b x e]
      exact e
    · have nd : (ts.map (·.2)).Nodup := pmk.nodup_iff.mpr hm.2
      rw [List.map_map] at nd ⊢
      refine List.pairwise_map.mpr ((srt.and (List.pairwise_map.mp nd)).imp fun {u v} h => ?_)
      have a1 := SrtO.lexB_no.mp h.1
      have a2 : ¬ ((pr (TS.intsOf h1 u)).1 = (pr (TS.intsOf h1 v)).1 ∧ (pr (TS.intsOf h1 u)).2 = (pr (TS.intsOf h1 v)).2) := fun e => h.2 (Prod.ext e.1 e.2)
      refine ltP_iff.mpr ?_
      show (pr (TS.intsOf h1 u)).1 < (pr (TS.intsOf h1 v)).1 ∨ (pr (TS.intsOf h1 u)).1 = (pr (TS.intsOf h1 v)).1 ∧ (pr (TS.intsOf h1 u)).2 < (pr (TS.intsOf h1 v)).2
      omega
end Vx
namespace Vx
open PySem PySem.Spec PyProof.Rows L2
/-! ### a number in binary digits -/
def binL (n : Nat) : List Nat := (Nat.toDigits 2 n).map Char.toNat
def binT (n : Nat) : Str := ⟨(binL n).toArray⟩
section
open PySem.Builtin PySem.Builtin.Int PySem.Builtin.Float
variable {prog : Program} {w : World} {A : Around} {E : Value → Shared → Prop} {s : Shared} {t : Tok}
def fB : FormatSpec := { align := 62, type := some 98 }
theorem parse_b : parseFormatSpec (Str.ofString "b").cps.toList "int" 62 = .ok fB := by rfl
theorem field_b {n : Nat} {Q : Value → Shared → Prop} (hl : (binT n).length ≤ sizeLine) (h : ∀ t' k, Q (.str (binT n) t') { s with toks := k }) : wpAny (model prog w) A (formatField (.int (n : Int) t) (Str.ofString "b")) Q E s := by
  refine PySem.W.KXf.field_int (spec' := Str.ofString "b") (y := binT n) rfl (by decide +kernel) (by decide +kernel) (fun u => ?_) h
  apply PySem.W.KPc.meets_of
  intro prog w A s P E k
  unfold Builtin.«int.__format__»
  have hne : ((Str.ofString "b").length == 0) = false := by decide +kernel
  have hasc : (((Str.ofString "b").cps.toList.drop 1).any (· ≥ 128) || ((Str.ofString "b").cps.getD 0 0 ≥ 128 && !([60, 62, 61, 94] : List Nat).contains ((Str.ofString "b").cps.getD 1 0))) = false := by decide +kernel
  simp only [selfAndOne, noKeywords, Int.intOfSelf, asInt?, asStr?, List.isEmpty_nil, if_true, pure_bind, bind_pure, bind_assoc, hne, hasc, Bool.false_eq_true, if_false,
    show (Value.str (Str.ofString "b") u == Value.none) = false from rfl]
  refine wpAny_bind (wpAny_typeNameOf (T := "str") (typeIs_str _ _ _) (by decide) fun _ => ?_)
  refine wpAny_bind (wpAny_typeNameOfCut_int ?_)
  simp only [parse_b]
  rw [if_pos (by decide +kernel)]
  have ne : Nat.toDigits 2 n ≠ [] := Nat.toDigits_ne_nil
  have main : intField' fB (decide ((n : Int) < 0)) [] ((Nat.toDigits 2 ((n : Int)).natAbs).map Char.toNat) [] 4 = binT n := by
    rw [decide_eq_false (show ¬ (n : Int) < 0 by omega), Int.natAbs_natCast]
    unfold binT binL
    cases hd : Nat.toDigits 2 n with
    | nil => exact absurd hd ne
    | cons c cs =>
      have go : ∀ L : List Nat, L.isEmpty = false → intField' fB false [] L [] 4 = ⟨L.toArray⟩ := fun L hL => by
        unfold intField'
        rw [hL]
        show (⟨(List.replicate (((-1 : Int) - (0 + 0 + 0) - ((List.replicate ((0 : Int).toNat - L.length) 48 ++ L).length : Int)).toNat) 32 ++ [] ++ [] ++ List.replicate 0 32 ++ (List.replicate ((0 : Int).toNat - L.length) 48 ++ L) ++ [] ++ List.replicate 0 32).toArray⟩ : Str) = ⟨L.toArray⟩
        have r0 : (0 : Int).toNat - L.length = 0 := Nat.zero_sub _
        have r1 : ((-1 : Int) - (((0 : Nat) : Int) + ((0 : Nat) : Int) + ((0 : Nat) : Int)) - (L.length : Int)).toNat = 0 := by omega
        rw [r0, List.replicate_zero, List.replicate_zero, List.nil_append, r1]
        simp
      exact go _ rfl
  show wpAny (model prog w) A (retStr _) P E s
  refine PySem.W.KXf.ret_text (T := binT n) ?_ ?_ k
  · exact main
  · refine Nat.le_trans (Nat.le_of_eq ?_) hl
    exact congrArg Str.length main
end
section
variable {X : Cx}
/-- f"{n:b}" -/
theorem pe_fmtB {e spec : Expr} {te : TE} {pos : Pos} (he : PE X e te) (hs : PE X spec (tC (.str (Str.ofString "b")))) : PE X (.FormattedValue e (-1) (some spec) pos) (fun σ H Q => te σ H fun x H1 => ∃ n : Nat, x = .int (n : Int) ∧ (binT n).length ≤ sizeLine ∧ Q (.str (binT n)) H1) := by
  refine ⟨fun pins s σ H Q I h => ?_⟩
  refine wpAny_FormattedValue_spec (thn (he.run pins s σ H _ I h) fun v s1 hv => ?_)
  obtain ⟨x, H1, I1, r1, n, rfl, hl, q⟩ := hv
  obtain ⟨t, rfl⟩ := r1
  refine thn (hs.run pins s1 σ H1 (fun y H2 => y = .str (Str.ofString "b") ∧ Q (.str (binT n)) H2) I1 ⟨rfl, q⟩) fun r s2 hr => ?_
  obtain ⟨y, H2, I2, r2, rfl, q2⟩ := hr
  obtain ⟨t2, rfl⟩ := r2
  exact ⟨_, _, rfl, field_b hl fun t' k => ⟨.str (binT n), H2, I2.tok k, ⟨_, rfl⟩, q2⟩⟩
end
theorem cnt_nat (c : Nat) : ∀ l : List Nat, cnt c l = ((l.count c : Nat) : Int)
  | [] => by rfl
  | x :: l => by
    have ih : countIn (.str ⟨#[c]⟩) (l.map fun n => PyData.str ⟨#[n]⟩) = _ := cnt_nat c l
    show (if same (PyData.str ⟨#[x]⟩) (.str ⟨#[c]⟩) = true then 1 else 0) + countIn (.str ⟨#[c]⟩) (l.map fun n => PyData.str ⟨#[n]⟩) = _
    rw [ih, List.count_cons]
    have e : same (PyData.str ⟨#[x]⟩) (PyData.str ⟨#[c]⟩) = (x == c) := by
      show ((⟨#[x]⟩ : Str) == ⟨#[c]⟩) = _
      by_cases h : x = c
      · subst h
        simp
      · have h2 : ((⟨#[x]⟩ : Str) == ⟨#[c]⟩) = false := beq_eq_false_iff_ne.mpr fun z => h (by injection z with z; injection z with z; injection z with z)
        rw [h2]
        exact (beq_eq_false_iff_ne.mpr h).symm
    rw [e]
    by_cases h : (x == c) = true
    · rw [if_pos h, if_pos h]
      omega
    · rw [if_neg h, if_neg h]
      omega
theorem bitsB_half (N n : Nat) : (bitsB (N + 1) n).length = n % 2 + (bitsB N (n / 2)).length := by
  unfold bitsB
  have e : ((fun j => n.testBit j) ∘ Nat.succ) = fun j => (n / 2).testBit j := funext fun j => Nat.testBit_succ n j
  rw [List.range_succ_eq_map, List.filter_cons, List.filter_map, e, Nat.testBit_zero]
  by_cases h : n % 2 = 1
  · rw [if_pos (decide_eq_true h), List.length_cons, List.length_map]
    omega
  · rw [if_neg (by simpa using h), List.length_map]
    omega
theorem binL_big {n : Nat} (h : 2 ≤ n) : binL n = binL (n / 2) ++ [n % 2 + 48] := by
  unfold binL
  rw [Nat.toDigits_of_base_le (by decide) h, List.map_append]
  congr 1
  have : n % 2 < 2 := Nat.mod_lt _ (by decide)
  rcases (show n % 2 = 0 ∨ n % 2 = 1 by omega) with e | e <;> rw [e] <;> rfl
theorem binL_small {n : Nat} (h : n < 2) : binL n = [n + 48] := by
  unfold binL
  rw [Nat.toDigits_of_lt_base h]
  rcases (show n = 0 ∨ n = 1 by omega) with e | e <;> rw [e] <;> rfl
/-- so many ones as there are bits -/
theorem ones_bits : ∀ (N n : Nat), n < 2 ^ N → (binL n).count 49 = (bitsB N n).length
  | 0, n, h => by
    have : n = 0 := by simpa using h
    subst this
    rw [binL_small (by decide), bits_zero]
    rfl
  | N + 1, n, h => by
    rw [bitsB_half]
    have h2 : n / 2 < 2 ^ N := by
      rw [Nat.pow_succ] at h
      omega
    by_cases b : 2 ≤ n
    · rw [binL_big b, List.count_append, ones_bits N (n / 2) h2, List.count_singleton]
      rcases (show n % 2 = 0 ∨ n % 2 = 1 by omega) with e | e <;> rw [e] <;> simp <;> omega
    · rw [binL_small (by omega), show n / 2 = 0 by omega, bits_zero]
      rcases (show n = 0 ∨ n = 1 by omega) with e | e <;> subst e <;> rfl
theorem bin_len : ∀ (N n : Nat), n < 2 ^ N → (binL n).length ≤ N + 1
  | 0, n, h => by
    have : n = 0 := by simpa using h
    subst this
    rw [binL_small (by decide)]
    exact Nat.le_refl _
  | N + 1, n, h => by
    have h2 : n / 2 < 2 ^ N := by
      rw [Nat.pow_succ] at h
      omega
    by_cases b : 2 ≤ n
    · rw [binL_big b, List.length_append]
      have := bin_len N (n / 2) h2
      simp
      omega
    · rw [binL_small (by omega)]
      simp
theorem count_bin {N n : Nat} (h : n < 2 ^ N) : Txt.count (binT n) (Str.ofString "1") = (((bitsB N n).length : Nat) : Int) := by
  have e : (Str.ofString "1") = ⟨#[49]⟩ := by decide +kernel
  rw [e, count_cnt, cnt_nat]
  show (((binL n).toArray.toList.count 49 : Nat) : Int) = _
  rw [ones_bits N n h]
theorem binT_len {N n : Nat} (h : n < 2 ^ N) (hN : N < 16000000) : (binT n).length ≤ sizeLine := by
  have := bin_len N n h
  show (binL n).toArray.size ≤ _
  rw [List.size_toArray, sizeLine_eq]
  omega
end Vx
namespace Vx
open PySem PySem.Spec PyProof.Rows L2
/-! ### a dict comprehension whose keys are tuples of ints -/
theorem set_compT {X : Cx} {pins : List (Addr × Obj)} {σ : L2.St} {H : Hp} {s : Shared} {E : Value → Shared → Prop} {D b : Addr} {kvs : List (List L2.Key × V)} {k : List L2.Key} {v : V} {r : Value} {Q : Unit → Shared → Prop} (hu : X.A.units < cLine) (I : Inv X pins σ H s)
    (hD : H D = some (.dT kvs)) (few : kvs.length < sizeLine) (eb : H b = some (.tup (k.map kV))) (rv : RelV v r) (h : ∀ s', Inv X pins σ (upd H D (.dT (putK kvs k v))) s' → Q () s') : wpAny (model X.prog X.w) X.A (dictSet D (.ref b) r) Q E s := by
  obtain ⟨lim, notSys, xs, rel, at_⟩ := dt_of I.hok hD
  have lx : xs.length ≤ sizeLine := Paired.length rel ▸ lim
  have lp := length_putK kvs k v
  refine wpAny_dictSet_heap (hsz := lx) (knd := tupleKind (mixKind X.prog X.w)) hu (key_of I.hok eb) at_ fun h' after same => h _ ?_
  obtain ⟨q, es, ep, gq, a1, a2, a3, _, a4⟩ := after
  have other : ∀ c ys, H c = some (.tup ys) → upd H D (.dT (putK kvs k v)) c = some (.tup ys) := fun c ys ec => by
    rw [upd_ne fun e => ?_]
    · exact ec
    · rw [e, hD] at ec
      cases ec
  exact d_write I (by rw [hD]; exact True.intro) same ⟨q, gq⟩ ⟨by omega, notSys, _, (rel.put k eb rv).keeps other, q, es, ep, gq, a1, a2, a3, a4⟩
/-- what one turn of the comprehension asks -/
def AskT (g : TG) (tt : TT) (tk tv : TE) (vs : List Nat) (σ0 : L2.St) (D : Addr) (Nx : Hp → Prop) (x : V) (H' : Hp) : Prop :=
  g x σ0 H' fun σ2 H2 => wipe σ2 vs = σ0 ∧ tt σ2 H2 fun b H3 =>
    if b = true then tk σ2 H3 fun y H4 => tv σ2 H4 fun z H5 => ∃ (kvs : List (List L2.Key × V)) (k : List L2.Key) (b : Addr), y = .ref b ∧ H5 b = some (.tup (k.map kV)) ∧ H5 D = some (.dT kvs) ∧ kvs.length < sizeLine ∧ Nx (upd H5 D (.dT (putK kvs k z))) else Nx H3
/-- one turn, in the comprehension's own block Y -/
theorem turnT {Y : Cx} {tg kx vx : Expr} {ifs : List Expr} {g : TG} {tt : TT} {tk tv : TE} {vs : List Nat} {σ0 : L2.St} {J : It} {fp : List Addr} {it D : Addr} {tn : Nat → Heap → Prop} {Nx : Hp → Prop} {R : Result → Shared → Prop} {Ex : Value → Shared → Prop} {G : Shared → Prop} {i : Nat} {H0 : Hp} {s0 : Shared}
    (hu : Y.A.units < cLine) (calm : Y.calm = true) (quiet : Y.xe = fun _ _ => False) (pg : PG Y tg g) (pt : PTs Y ifs tt) (pk : PE Y kx tk) (pv : PE Y vx tv) (T : Turn Y.prog Y.w Y.K tg J fp it tn)
    (own : ∀ {σ' : L2.St} {H' : Hp} {s' : Shared}, Inv Y [] σ' H' s' → (∀ b ∈ fp, H' b = none) → ∀ b ∈ fp, FpOk Y [] H' b)
    (I0 : Inv Y [] σ0 H0 s0) (st0 : tn i s0.heap) (no0 : ∀ b ∈ fp, H0 b = none) (go : J.go i H0) (ask : ∀ x H', J.yld i H0 x H' → AskT g tt tk tv vs σ0 D Nx x H')
    (fin : ∀ {s' : Shared} {H' : Hp}, Inv Y [] σ0 H' s' → tn (i + 1) s'.heap → (∀ b ∈ fp, H' b = none) → Nx H' → G s') :
    wpAny (model Y.prog Y.w) Y.A (pyNext (.ref it)) (fun r s₁ => match r with
      | none => R (.ok .next) s₁
      | some v => wpAny (model Y.prog Y.w) Y.A (letOwnedTupleGo tg (.ref it) v) (fun _ s₁' => wpAny (model Y.prog Y.w) Y.A (assign tg Y.env v) (fun _ s₂ =>
          wpAny (model Y.prog Y.w) Y.A (forIn ifs true fun c r => if r = true then do let ok ← isTrue c Y.env (eval c Y.env); pure (ForInStep.yield ok) else pure (ForInStep.yield r)) (fun ok s₃ =>
            if ok = true then wpAny (model Y.prog Y.w) Y.A (eval kx Y.env) (fun kv s₄ => wpAny (model Y.prog Y.w) Y.A (eval vx Y.env) (fun vv s₅ =>
              wpAny (model Y.prog Y.w) Y.A (dictSet D kv vv) (fun _ s₆ => G s₆) Ex s₅) Ex s₄) Ex s₃
            else G s₃) Ex s₂) Ex s₁') Ex s₁) Ex s0 := by
  have first := T.item Y rfl rfl rfl calm i [] s0 _ H0 (fun _ _ => False) I0 (own I0 no0) st0 go
  refine thnF first fun r s1 ⟨u, er, took⟩ => ?_
  subst er
  refine thnF took fun _ s2 ⟨x, H1, I1, rx, yx, st1, no1⟩ => ?_
  have J1 := I1.pinned (own I1 no1) (T.obj _ _ st1)
  have rg := pg.run _ s2 _ H1 x u _ J1 rx (ask x H1 yx)
  rw [quiet] at rg
  refine thnF rg fun _ s3 ⟨σ2, H2, I2, back, q2⟩ => ?_
  have rt := pt.run _ s3 σ2 H2 _ I2 q2
  rw [quiet] at rt
  refine thnF rt fun b s4 ⟨H3, I3, q3⟩ => ?_
  -- the end of the turn
  have close : ∀ {s' : Shared} {H' : Hp}, Inv Y ([] ++ pinsAt fp s2.heap) σ2 H' s' → Nx H' → G s' := fun {s' H'} I' nx => by
    have kept : ∀ c ∈ fp, ∀ o, s2.heap.get? c = some o → s'.heap.get? c = some o ∧ H' c = none := fun c hc o e => by
      have z := I'.pin (c, o) (List.mem_append_right _ (List.mem_append_right _ (mem_pinsAt hc e)))
      exact ⟨z.1, z.2.1⟩
    have len : σ0.length = σ2.length := by rw [← back, wipe_length]
    refine fin ((I'.unpinned (pins := [])).weak len fun j v e => ?_) (T.keep _ _ _ st1 fun c hc o e => (kept c hc o e).1) (fun c hc => ?_) nx
    · rw [← back] at e
      exact (wipe_some e).1
    · obtain ⟨o, e, _⟩ := T.obj _ _ st1 c hc
      exact (kept c hc o e).2
  cases b with
  | false => exact close I3 q3
  | true =>
    have rk := pk.run _ s4 σ2 H3 _ I3 q3
    rw [quiet] at rk
    refine thnF rk fun z s5 ⟨yk, H4, I4, ry, q4⟩ => ?_
    have rv := pv.run _ s5 σ2 H4 _ I4 q4
    rw [quiet] at rv
    refine thnF rv fun z2 s6 ⟨yv, H5, I5, rz, kvs, k, c, ek, hc, hD, few, nx⟩ => ?_
    subst ek
    cases ry
    exact set_compT hu I5 hD few hc rz fun s7 I7 => close I7 nx
section
variable {X : Cx}
/-- {k: v for target in iter if ..}: D the new dict -/
def tDcT (wi : TI) (g : TG) (tt : TT) (tk tv : TE) (vs : List Nat) : TE := fun σ H Q => wi σ H fun J H1 => ∀ D, H1 D = none → ∃ W : Nat → Nat → Hp → Prop, (∃ m, W 0 m (upd H1 D (.dT []))) ∧ ∀ i m H, W i m H →
  (J.stop i H ∧ Q (.ref D) H) ∨ (J.go i H ∧ ∃ Nx : Hp → Prop, (∀ H', Nx H' → ∃ m', m' < m ∧ W (i + 1) m' H') ∧ ∀ x H', J.yld i H x H' → AskT g tt tk tv vs (wipe σ vs) D Nx x H')
theorem dc_core {pins : List (Addr × Obj)} {s : Shared} {σ : L2.St} {H : Hp} {Q : VK} {kx vx tg iter : Expr} {ifs : List Expr} {scope : Scope} {own : List (Str × Nat)} {pos pos' : Pos} {wi : TI} {g : TG} {tt : TT} {tk tv : TE} {use : Option (Value → Sem Unit)} {Qf : Value → Shared → Prop} (calm : X.calm = true) (hu : X.A.units < cLine) (hN : X.N.Nodup) (I : Inv X pins σ H s) (hi : PI X tg iter wi) (ok : BlkOk X.N X.env.scope scope own)
    (hg : ∀ (s : Shared) (H : Hp) (C : Addr) (cl : List (Str × Addr)) (fp : List Addr), PG (X.blk s H scope (compEnvC scope cl C X.env) fp) tg g) (ht : ∀ (s : Shared) (H : Hp) (C : Addr) (cl : List (Str × Addr)) (fp : List Addr), PTs (X.blk s H scope (compEnvC scope cl C X.env) fp) ifs tt)
    (hk : ∀ (s : Shared) (H : Hp) (C : Addr) (cl : List (Str × Addr)) (fp : List Addr), PE (X.blk s H scope (compEnvC scope cl C X.env) fp) kx tk)
    (hv : ∀ (s : Shared) (H : Hp) (C : Addr) (cl : List (Str × Addr)) (fp : List Addr), PE (X.blk s H scope (compEnvC scope cl C X.env) fp) vx tv) (hs : ∀ x, foldedSetIterable iter X.env x = pure x) (h : tDcT wi g tt tk tv (own.map (·.2)) σ H Q)
    (hRR : ∀ D C s' m H', Inv X pins σ H' s' → Q (.ref D) H' → s'.heap.Ns C m → FpOk X pins H' C → compPost (model X.prog X.w) X.A X.xe use Qf (.ref D) C (.ok .next) s') :
    wpAny (model X.prog X.w) X.A (comprehension (.DictComp kx vx [⟨tg, iter, ifs, 0⟩] scope pos) scope X.env pos' newDict false (eval iter X.env) use) Qf X.xe s := by
  have hfree : ∀ y ∈ scope.names, y.2 = .free → ∃ c, X.env.cells.lookup y.1 = some c := fun y hy e => (ok.free y hy e).elim (fun k => I.ok.has _ (.inl k)) fun k => I.ok.has _ (.inr k)
  refine wpAny_comprehension_free (use := use) rfl hs (closure_ok hfree) ok.kind (fun y hy e => by rw [ok.uniq y hy, e]) (thn (hi.run pins s σ H _ I h) fun xv s1 hx => thn hx fun itv sI got => ?_)
  obtain ⟨it, fp, tn, J, HI, rfl, II, T, stI, fpI, q⟩ := got
  refine wpAny_newObj_type (newEnv_comp ?_)
  -- the new dict
  obtain ⟨D, eD⟩ : ∃ D, D = sI.heap.objs.size := ⟨_, rfl⟩
  have nD : HI D = none := II.hok.fresh (Nat.le_of_eq eD.symm)
  obtain ⟨W, ⟨m0, w0⟩, turns⟩ := q D nD
  have hE : ∃ sE : Shared, sE = { sI with heap := sI.heap.push { cls := .type "dict", data := .dict #[] } } := ⟨_, rfl⟩
  obtain ⟨sE, eE⟩ := hE
  have pushE : sE.heap = sI.heap.push { cls := .type "dict", data := .dict #[] } := by rw [eE]
  have IE : Inv X pins σ (upd HI D (.dT [])) sE := by
    rw [eE]
    refine II.laid (t' := sI.toks) (fun b o e => Heap.get?_push_of_some _ e) (Nat.le_of_eq eD.symm) ?_
    rw [eD]
    exact dt_empty sI.heap II.big
  have fpE : ∀ b ∈ fp, FpOk X pins (upd HI D (.dT [])) b ∧ b < sE.heap.objs.size := fun b hb => by
    obtain ⟨o, e, _⟩ := T.obj _ _ stI b hb
    have lb := Heap.lt_size e
    obtain ⟨no, more⟩ := fpI b hb
    refine ⟨⟨?_, more⟩, by rw [pushE, Heap.size_push]; exact Nat.lt_succ_of_lt lb⟩
    rw [upd_ne (Nat.ne_of_lt (by rw [eD]; exact lb))]
    exact no
  have stE : tn 0 sE.heap := T.keep _ _ _ stI fun b _ o e => by rw [pushE]; exact Heap.get?_push_of_some _ e
  -- the block
  have IB := block_start IE ok hN fpE
  have pgB := hg sE (upd HI D (.dT [])) sE.heap.objs.size (cellsFrom (sE.heap.objs.size + 1) scope.names (cloFrom X.env.cells scope.names [])) fp
  have ptB := ht sE (upd HI D (.dT [])) sE.heap.objs.size (cellsFrom (sE.heap.objs.size + 1) scope.names (cloFrom X.env.cells scope.names [])) fp
  have pkB := hk sE (upd HI D (.dT [])) sE.heap.objs.size (cellsFrom (sE.heap.objs.size + 1) scope.names (cloFrom X.env.cells scope.names [])) fp
  have pvB := hv sE (upd HI D (.dT [])) sE.heap.objs.size (cellsFrom (sE.heap.objs.size + 1) scope.names (cloFrom X.env.cells scope.names [])) fp
  rw [← eD]
  have eS : ({ sI with heap := sI.heap.push { cls := .type "dict", data := .dict #[] } } : Shared) = sE := eE.symm
  rw [eS]
  show codeAny _ _ (.compStart (.DictComp kx vx [⟨tg, iter, ifs, 0⟩] scope pos) 0 (.ref it) (.ref D) (compEnvC scope (cellsFrom (sE.heap.objs.size + 1) scope.names (cloFrom X.env.cells scope.names [])) sE.heap.objs.size X.env)) _ _
  have noE : ∀ b ∈ fp, upd HI D (.dT []) b = none := fun b hb => (fpE b hb).1.1
  obtain ⟨env, eEnv⟩ : ∃ env, env = compEnvC scope (cellsFrom (sE.heap.objs.size + 1) scope.names (cloFrom X.env.cells scope.names [])) sE.heap.objs.size X.env := ⟨_, rfl⟩
  have locE : env.locals = sE.heap.objs.size := by rw [eEnv]; rfl
  rw [← eEnv] at IB pgB ptB pkB pvB ⊢
  obtain ⟨HE, eHE⟩ : ∃ HE, HE = upd HI D (.dT []) := ⟨_, rfl⟩
  rw [← eHE] at IE IB pgB ptB pkB pvB w0 noE fpE
  obtain ⟨sB, eB⟩ : ∃ sB : Shared, sB = { sE with heap := pushCells (sE.heap.push { cls := .type "dict", data := .dict #[] }) scope.names } := ⟨_, rfl⟩
  rw [← eB] at IB ⊢
  have stB : tn 0 sB.heap := T.keep _ _ _ stE fun b _ o e => by rw [eB]; exact pushCells_keeps _ _ _ _ (Heap.get?_push_of_some _ e)
  have ownB : ∀ {σ' : L2.St} {H' : Hp} {s' : Shared}, Inv (X.blk sE HE scope env fp) [] σ' H' s' → (∀ b ∈ fp, H' b = none) → ∀ b ∈ fp, FpOk (X.blk sE HE scope env fp) [] H' b := fun {σ' H' s'} I' no b hb =>
    ⟨no b hb, (I'.ok.exf b hb).1, I'.ok.exfs b hb, .inl hb, fun x c e => (I'.ok.exf b hb).2 x c e, fun p hp => absurd (show p ∈ ([] : List (Addr × Obj)) ++ [] from hp) (by simp)⟩
  have loop : codeAny (model X.prog X.w) X.A (.compLoop (.DictComp kx vx [⟨tg, iter, ifs, 0⟩] scope pos) 0 (.ref it) (.ref D) env) (compPost (model X.prog X.w) X.A X.xe use Qf (.ref D) sE.heap.objs.size) sB := by
    refine compLoop_anyD (fun n s' => ∃ i H', Inv (X.blk sE HE scope env fp) [] (wipe σ (own.map (·.2))) H' s' ∧ tn i s'.heap ∧ (∀ b ∈ fp, H' b = none) ∧ W i n H') ?_ m0 ⟨0, HE, IB, stB, noE, w0⟩
    rintro n s5 ⟨i, H5, I5, st5, no5, w5⟩
    rcases turns i n H5 w5 with ⟨stop, done⟩ | ⟨go, Nx, less, ask⟩
    · refine thnF (T.done (X.blk sE HE scope env fp) rfl rfl rfl calm i [] s5 _ H5 (fun _ _ => False) I5 (ownB I5 no5) st5 stop) fun r s6 ⟨er, I6⟩ => ?_
      subst er
      have IX : Inv X pins σ H5 s6 := IE.call' (ch := fp) I6.os I6.base I6.hok I6.bare fun b hb => by
        obtain ⟨_, f1, _, f3, f4, f5⟩ := (fpE b hb).1
        exact ⟨f3, f1, f4, f5⟩
      have nC : H5 sE.heap.objs.size = none := by
        rw [← locE]
        exact I6.free
      obtain ⟨m, hn, _⟩ := I6.loc
      have hn : s6.heap.Ns env.locals m := hn
      rw [locE] at hn
      exact hRR D _ s6 m H5 IX done hn (IE.fpOk (Nat.le_refl _) nC)
    · refine turnT (Y := X.blk sE HE scope env fp) (G := fun s' => ∃ m, m < n ∧ ∃ i H', Inv (X.blk sE HE scope env fp) [] (wipe σ (own.map (·.2))) H' s' ∧ tn i s'.heap ∧ (∀ b ∈ fp, H' b = none) ∧ W i m H') hu calm rfl pgB ptB pkB pvB T ownB I5 st5 no5 go ask fun {s' H'} I' st' no' nx => ?_
      obtain ⟨m, lm, w'⟩ := less H' nx
      exact ⟨m, lm, i + 1, H', I', st', no', w'⟩
  exact codeAny_compStart_dict loop (T.self X.A 0 _ _ _ stB loop)
theorem pe_dcT {kx vx tg iter : Expr} {ifs : List Expr} {scope : Scope} {own : List (Str × Nat)} {pos : Pos} {wi : TI} {g : TG} {tt : TT} {tk tv : TE} (calm : X.calm = true) (hu : X.A.units < cLine) (hN : X.N.Nodup) (hi : PI X tg iter wi) (ok : BlkOk X.N X.env.scope scope own)
    (hg : ∀ (s : Shared) (H : Hp) (C : Addr) (cl : List (Str × Addr)) (fp : List Addr), PG (X.blk s H scope (compEnvC scope cl C X.env) fp) tg g) (ht : ∀ (s : Shared) (H : Hp) (C : Addr) (cl : List (Str × Addr)) (fp : List Addr), PTs (X.blk s H scope (compEnvC scope cl C X.env) fp) ifs tt)
    (hk : ∀ (s : Shared) (H : Hp) (C : Addr) (cl : List (Str × Addr)) (fp : List Addr), PE (X.blk s H scope (compEnvC scope cl C X.env) fp) kx tk)
    (hv : ∀ (s : Shared) (H : Hp) (C : Addr) (cl : List (Str × Addr)) (fp : List Addr), PE (X.blk s H scope (compEnvC scope cl C X.env) fp) vx tv) (hs : ∀ x, foldedSetIterable iter X.env x = pure x := by intro _; rfl) :
    PE X (.DictComp kx vx [⟨tg, iter, ifs, 0⟩] scope pos) (tDcT wi g tt tk tv (own.map (·.2))) := by
  refine ⟨fun pins s σ H Q I h => ?_⟩
  rw [arm_eval_DictComp]
  refine dc_core (use := none) calm hu hN I hi ok hg ht hk hv hs h fun D C s' m H' I' q hn f => ?_
  obtain ⟨f0, f1, f2, f3, f4, f5⟩ := f
  exact ⟨m, hn, fun h'' sb => ⟨.ref D, H', I'.turned (t' := s'.toks) (fun b o hb e => (sb.2 b hb).trans e) f0 f1 f3 f4 f5, rfl, q⟩⟩
theorem sw_dict {kx vx : Expr} {gs : List Comprehension} {scope : Scope} {pos py : Pos} {y : Str} {l : Nat} {env : Env} (hk : env.scope.kind = .function) (hy : env.scope.names.lookup y = some .local) (hl : (py.line == pos.line) = true)
    (ha : (scope.names.any fun (n, k) => n == y && (k == .local || k == .cell)) = false) : swapsWith (.DictComp kx vx gs scope pos) (some (.Name y py)) l env = pure true := by
  have ky : env.kindOf y = some .local := hy
  have hb : env.blockKind = .function := by unfold Env.blockKind; rw [hk]; rfl
  unfold swapsWith
  simp only [hb, ky, ha, Expr.pos, hl]
  rfl
theorem ps_setDcT {i : Nat} {y : Str} {py : Pos} {kx vx tg iter : Expr} {ifs : List Expr} {scope : Scope} {own : List (Str × Nat)} {pos spos : Pos} {wi : TI} {g : TG} {tt : TT} {tk tv : TE} (calm : X.calm = true) (hu : X.A.units < cLine) (hN : X.N.Nodup) (hy : X.N[i]? = some y) (hyl : X.env.scope.names.lookup y = some .local)
    (hsw : swapsWith (.DictComp kx vx [⟨tg, iter, ifs, 0⟩] scope pos) (some (.Name y py)) spos.line X.env = pure true) (hi : PI X tg iter wi) (ok : BlkOk X.N X.env.scope scope own)
    (hg : ∀ (s : Shared) (H : Hp) (C : Addr) (cl : List (Str × Addr)) (fp : List Addr), PG (X.blk s H scope (compEnvC scope cl C X.env) fp) tg g) (ht : ∀ (s : Shared) (H : Hp) (C : Addr) (cl : List (Str × Addr)) (fp : List Addr), PTs (X.blk s H scope (compEnvC scope cl C X.env) fp) ifs tt)
    (hk : ∀ (s : Shared) (H : Hp) (C : Addr) (cl : List (Str × Addr)) (fp : List Addr), PE (X.blk s H scope (compEnvC scope cl C X.env) fp) kx tk)
    (hv : ∀ (s : Shared) (H : Hp) (C : Addr) (cl : List (Str × Addr)) (fp : List Addr), PE (X.blk s H scope (compEnvC scope cl C X.env) fp) vx tv) (hs : ∀ x, foldedSetIterable iter X.env x = pure x := by intro _; rfl) :
    PS X (.Assign [.Name y py] (.DictComp kx vx [⟨tg, iter, ifs, 0⟩] scope pos) spos) (tAsg (tDcT wi g tt tk tv (own.map (·.2))) (gName i)) := by
  refine ⟨fun pins s σ H D I h => ?_⟩
  rw [exec_Assign_Name_used _ _ _ _ hsw]
  refine wpAny_bind (wpAny_standAt (wpAny_bind ?_))
  show wpAny _ X.A (do let _ ← comprehension (.DictComp kx vx [⟨tg, iter, ifs, 0⟩] scope pos) scope X.env (firstIterPos [⟨tg, iter, ifs, 0⟩] pos) newDict false (eval iter X.env) (some (assign (.Name y py) X.env))) _ _ s
  have h : tDcT wi g tt tk tv (own.map (·.2)) σ H (fun x H1 => gName i x σ H1 D.nx) := h
  refine wpAny_bind (thn (dc_core (Qf := fun _ s' => SP X pins D .next s') calm hu hN I hi ok hg ht hk hv hs h fun L C s' m H' I' q hn f => ?_) fun _ s' hq => wpAny_pure (wpAny_pure hq))
  show wpAny _ _ (assign (.Name y py) X.env (.ref L)) _ _ _
  refine wpAny_assign_Name (store_ok2 (v := V.ref L) I' hN hy (.inl hyl) rfl (fun s2 I2 ⟨a, sb, ha⟩ => ?_) (.inr hyl))
  obtain ⟨f0, f1, f2, f3, f4, f5⟩ := f
  have haC : C ≠ a := by
    rcases ha with z | z
    · rw [z]; exact f1
    · exact fun e => f4 y a z e.symm
  refine ⟨m, hn.sameBut sb haC, fun h3 sb3 => ?_⟩
  exact ⟨_, H', I2.turned (t' := s2.toks) (fun b o hb e => (sb3.2 b hb).trans e) f0 f1 f3 f4 f5, q⟩
/-- over a walk -/
theorem dcT_it {J : It} {n : Nat} {G : Hp → Prop} {Y : Nat → Hp → V → Hp → Prop} (w : Walk J n G Y) {g : TG} {tt : TT} {tk tv : TE} {vs : List Nat} {σ : L2.St} {H1 : Hp} {D : Addr} {Qd : Hp → Prop} (Pv : Nat → Hp → Prop) (h0 : Pv 0 (upd H1 D (.dT []))) (hG : ∀ i H, i ≤ n → Pv i H → G H)
    (hs : ∀ i x H H', i < n → Pv i H → Y i H x H' → AskT g tt tk tv vs (wipe σ vs) D (Pv (i + 1)) x H') (hd : ∀ H, Pv n H → Qd H) :
    ∃ W : Nat → Nat → Hp → Prop, (∃ m, W 0 m (upd H1 D (.dT []))) ∧ ∀ i m H, W i m H →
      (J.stop i H ∧ Qd H) ∨ (J.go i H ∧ ∃ Nx : Hp → Prop, (∀ H', Nx H' → ∃ m', m' < m ∧ W (i + 1) m' H') ∧ ∀ x H', J.yld i H x H' → AskT g tt tk tv vs (wipe σ vs) D Nx x H') := by
  refine ⟨fun i m H => m + i = n ∧ Pv i H, ⟨n, rfl, h0⟩, ?_⟩
  rintro i m H ⟨e, p⟩
  have st := hG i H (by omega) p
  by_cases lt : i < n
  · exact .inr ⟨w.goes i H lt st, Pv (i + 1), fun H' p' => ⟨m - 1, by omega, by omega, p'⟩, fun x H' y => hs i x H H' lt p (w.yields i H x H' lt st y)⟩
  · have : i = n := by omega
    subst this
    exact .inl ⟨w.stops H st, hd H p⟩
end
end Vx
namespace Vx
open PySem PySem.Spec PyProof.Rows L2
theorem op_notInP {X : Cx} (hu : X.A.units + 65 < cLine) : OpR X (compareOp .NotIn) (fun x y H Q => ∃ (t a : Addr) (p : Pr) (ps : List Pr), x = .ref t ∧ y = .ref a ∧ H t = some (.tup [.int p.1, .int p.2]) ∧ Cells H a ps ∧ Q (.bl (!decide (p ∈ ps))) H) := by
  intro pins s σ H x y v u Q I rx ry h
  obtain ⟨t, a, p, ps, rfl, rfl, ht, hc, q⟩ := h
  refine op_notInD hu pins s σ H _ _ v u Q I rx ry ⟨pd p, ps.map pd, .tup (tup_of ht) (.cons (.int _) (.cons (.int _) .nil)), dp_cells hc, shaped_pd p, shaped_cells ps, ?_⟩
  rw [any_pd]
  exact q
/-! ### lists of lists of pairs -/
def lp (ps : List Pr) : PyData := .list (ps.map pd)
def CellsL (H : Hp) (l : Addr) (pss : List (List Pr)) : Prop :=
  ∃ ts : List (Addr × List Pr), H l = some (.lst (ts.map fun t => V.ref t.1)) ∧ (∀ t ∈ ts, Cells H t.1 t.2) ∧ ts.map (·.2) = pss
theorem CellsL.up {H H' : Hp} {l : Addr} {pss : List (List Pr)} (e : Same H H') (h : CellsL H l pss) : CellsL H' l pss := by
  obtain ⟨ts, h1, h2, h3⟩ := h
  exact ⟨ts, e _ _ h1, fun t m => (h2 t m).up e, h3⟩
theorem CellsL.lst {H : Hp} {l : Addr} {pss : List (List Pr)} (h : CellsL H l pss) : ∃ xs, H l = some (.lst xs) ∧ xs.length = pss.length := by
  obtain ⟨ts, h1, h2, h3⟩ := h
  exact ⟨_, h1, by rw [← h3, List.length_map, List.length_map]⟩
theorem CellsL.at {H : Hp} {l : Addr} {pss : List (List Pr)} {i : Nat} {ps : List Pr} (h : CellsL H l pss) (e : pss[i]? = some ps) : ∃ xs a, H l = some (.lst xs) ∧ xs[i]? = some (.ref a) ∧ Cells H a ps := by
  obtain ⟨ts, h1, h2, rfl⟩ := h
  rw [List.getElem?_map] at e
  cases q : ts[i]? with
  | none => rw [q] at e; cases e
  | some t =>
    rw [q] at e
    refine ⟨_, t.1, h1, by rw [List.getElem?_map, q]; rfl, ?_⟩
    rw [← Option.some.inj e]
    exact h2 t (List.mem_of_getElem? q)
theorem CellsL.mut {H : Hp} {l d : Addr} {pss : List (List Pr)} {o : HO} (h : CellsL H l pss) (ne : l ≠ d) (nl : ∀ xs, H d ≠ some (.lst xs)) (nt : ∀ xs, H d ≠ some (.tup xs)) : CellsL (upd H d o) l pss := by
  obtain ⟨ts, h1, h2, h3⟩ := h
  refine ⟨ts, by rw [upd_ne ne]; exact h1, fun t m => (h2 t m).mut (fun e => ?_) nt, h3⟩
  obtain ⟨us, z, _⟩ := h2 t m
  rw [e] at z
  exact nl _ z
theorem eqv_lp (a b : List Pr) : PyData.eqv (lp a) (lp b) = decide (a = b) := eqv_cells a b
theorem eqvAll_lp : ∀ (l m : List (List Pr)), PyData.eqvAll (l.map lp) (m.map lp) = decide (l = m)
  | [], [] => by simp [PyData.eqvAll]
  | [], y :: m => by simp [PyData.eqvAll]
  | x :: l, [] => by simp [PyData.eqvAll]
  | x :: l, y :: m => by
    show (PyData.eqv (lp x) (lp y) && PyData.eqvAll (l.map lp) (m.map lp)) = _
    rw [eqvAll_lp l m, eqv_lp]
    by_cases e : x = y <;> by_cases e2 : l = m <;> simp [e, e2]
theorem eqv_lps (l m : List (List Pr)) : PyData.eqv (.list (l.map lp)) (.list (m.map lp)) = decide (l = m) := eqvAll_lp l m
theorem canAll_lp : ∀ l : List (List Pr), PyData.canLayAll0 (l.map lp) = true
  | [] => by simp [PyData.canLayAll0]
  | x :: l => by
    rw [List.map_cons]
    simp [PyData.canLayAll0, PyData.canLay0, lp, canAll_pd, canAll_lp l]
theorem depAll_lp : ∀ l : List (List Pr), PyData.depthAll (l.map lp) ≤ 2
  | [] => by simp [PyData.depthAll]
  | x :: l => by
    rw [List.map_cons]
    have := depAll_lp l
    have := depAll_pd x
    simp only [PyData.depthAll, PyData.depth, lp]
    omega
theorem shaped_lp (l : List Pr) : SeqAt.shaped (lp l) = true := shaped_cells l
theorem shaped_lps (l : List (List Pr)) : SeqAt.shaped (.list (l.map lp)) = true := by
  unfold SeqAt.shaped
  have := depAll_lp l
  simp only [PyData.canLay0, PyData.depth, canAll_lp]
  simp
  omega
theorem any_lp (p : List Pr) : ∀ ps : List (List Pr), (ps.map lp).any (fun z => PyData.eqv z (lp p)) = decide (p ∈ ps)
  | [] => by simp
  | q :: ps => by
    rw [List.map_cons, List.any_cons, any_lp p ps, eqv_lp]
    by_cases e : q = p
    · subst e
      simp
    · have e2 : ¬ p = q := fun z => e z.symm
      simp [e, e2]
theorem dp_cellsL {K : PySem.W.Frag} {H : Hp} {a : Addr} {pss : List (List Pr)} (h : CellsL H a pss) : Dp K H (.ref a) (.list (pss.map lp)) := by
  obtain ⟨ts, hl, ht, rfl⟩ := h
  refine .lst (lst_of hl) ?_
  have go : ∀ us : List (Addr × List Pr), (∀ t ∈ us, Cells H t.1 t.2) → DpAll K H (us.map fun t => V.ref t.1) ((us.map (·.2)).map lp) := fun us => by
    induction us with
    | nil => exact fun _ => .nil
    | cons t us ih => exact fun h => .cons (dp_cells (h t List.mem_cons_self)) (ih fun u m => h u (List.mem_cons_of_mem _ m))
  exact go ts ht
theorem op_inL {X : Cx} (hu : X.A.units + 65 < cLine) : OpR X (compareOp .In) (fun x y H Q => ∃ (t a : Addr) (p : List Pr) (ps : List (List Pr)), x = .ref t ∧ y = .ref a ∧ Cells H t p ∧ CellsL H a ps ∧ Q (.bl (decide (p ∈ ps))) H) := by
  intro pins s σ H x y v u Q I rx ry h
  obtain ⟨t, a, p, ps, rfl, rfl, ht, hc, q⟩ := h
  refine op_inD hu pins s σ H _ _ v u Q I rx ry ⟨lp p, ps.map lp, dp_cells ht, dp_cellsL hc, shaped_lp p, shaped_lps ps, ?_⟩
  rw [any_lp]
  exact q
theorem mt_indexL {X : Cx} (hu : X.A.units + 65 < cLine) : MtR X "list.index" (fun x xs H Q => ∃ (a t : Addr) (p : List Pr) (ps : List (List Pr)), x = .ref a ∧ xs = [.ref t] ∧ Cells H t p ∧ CellsL H a ps ∧
    ∃ j, ps[j]? = some p ∧ (∀ m p', m < j → ps[m]? = some p' → p' ≠ p) ∧ Q (.int (j : Nat)) H) := by
  intro pins s σ H x xs v us Q I rx rxs h
  obtain ⟨a, t, p, ps, rfl, rfl, ht, hc, j, hj, hno, q⟩ := h
  refine mt_indexD hu pins s σ H _ _ v us Q I rx rxs ⟨a, .ref t, lp p, ps.map lp, j, lp p, rfl, rfl, dp_cellsL hc, dp_cells ht, shaped_lps ps, shaped_lp p, by rw [List.getElem?_map, hj]; rfl, by rw [eqv_lp]; exact decide_eq_true rfl, fun m z' hm hz => ?_, q⟩
  rw [List.getElem?_map] at hz
  obtain ⟨p', hp, rfl⟩ := Option.map_eq_some_iff.mp hz
  rw [eqv_lp]
  exact decide_eq_false (hno m p' hm hp)
theorem CellsL.add {H : Hp} {l t : Addr} {pss : List (List Pr)} {ps : List Pr} {vs : List V} (h : CellsL H l pss) (hv : H l = some (.lst vs)) (hc : Cells H t ps) (ne : t ≠ l) : CellsL (upd H l (.lst (vs ++ [.ref t]))) l (pss ++ [ps]) := by
  obtain ⟨ts, h1, h2, rfl⟩ := h
  have e : vs = ts.map fun t => V.ref t.1 := by
    rw [h1] at hv
    injection hv with hv
    injection hv with hv
    exact hv.symm
  subst e
  have nt : ∀ xs, H l ≠ some (.tup xs) := fun xs z => by
    rw [h1] at z
    cases z
  have nl : ∀ u ∈ ts, u.1 ≠ l := fun u m e => by
    obtain ⟨us, g1, g2, _⟩ := h2 u m
    rw [e, h1] at g1
    injection g1 with g1
    injection g1 with g1
    have mu : V.ref u.1 ∈ ts.map fun t => V.ref t.1 := List.mem_map.mpr ⟨u, m, rfl⟩
    rw [g1] at mu
    obtain ⟨y, my, ey⟩ := List.mem_map.mp mu
    have ey : y.1 = u.1 := V.ref.inj ey
    have z := g2 y my
    rw [ey, e, h1] at z
    cases z
  refine ⟨ts ++ [(t, ps)], by rw [upd_same, List.map_append]; rfl, fun u m => ?_, by rw [List.map_append]; rfl⟩
  rcases List.mem_append.mp m with m | m
  · exact (h2 u m).mut (nl u m) nt
  · rw [List.mem_singleton.mp m]
    exact hc.mut ne nt
theorem CellsL.one {H : Hp} {l t : Addr} {ps : List Pr} (h : H l = some (.lst [.ref t])) (hc : Cells H t ps) : CellsL H l [ps] := ⟨[(t, ps)], h, fun u m => by rw [List.mem_singleton.mp m]; exact hc, rfl⟩
/-- a statement with a word of one's own behind it -/
def tMid (t : TS) : TS := fun D σ H => ∃ P : L2.St → Hp → Prop, t { D with nx := P } σ H ∧ ∀ σ' H', P σ' H' → D.nx σ' H'
theorem ps_mid {X : Cx} {st : Stmt} {t : TS} (h : PS X st t) : PS X st (tMid t) := by
  refine ⟨fun pins s σ H D I hw => ?_⟩
  obtain ⟨P, h1, h2⟩ := hw
  refine thn (h.run pins s σ H _ I h1) fun f s1 q => ?_
  cases f with
  | next =>
    obtain ⟨σ', H', I2, q⟩ := q
    exact ⟨σ', H', I2, h2 _ _ q⟩
  | brk => exact q
  | cont => exact q
  | ret v => exact q
/-- an expression with a word of one's own behind it -/
def tMidE (t : TE) : TE := fun σ H Q => ∃ P : V → Hp → Prop, t σ H P ∧ ∀ v H', P v H' → Q v H'
theorem pe_mid {X : Cx} {e : Expr} {t : TE} (h : PE X e t) : PE X e (tMidE t) := by
  refine ⟨fun pins s σ H Q I hw => ?_⟩
  obtain ⟨P, h1, h2⟩ := hw
  exact thn (h.run pins s σ H _ I h1) fun v s1 ⟨x, H1, I2, r, q⟩ => ⟨x, H1, I2, r, h2 _ _ q⟩
end Vx
namespace Vx
open PySem PySem.Spec PyProof.Rows L2
/-! ### the least one of some lists of pairs -/
def ltL (a b : List Pr) : Bool := W.dataLt (lp a) (lp b)
theorem toksAll_inj : ∀ (a b : List Pr), W.keyToksAll (a.map pd) = W.keyToksAll (b.map pd) → a = b
  | [], [], _ => rfl
  | [], y :: b, h => by simp [W.keyToksAll] at h
  | x :: a, [], h => by simp [W.keyToksAll] at h
  | x :: a, y :: b, h => by
    obtain ⟨x1, x2⟩ := x
    obtain ⟨y1, y2⟩ := y
    simp [W.keyToksAll, W.keyToks, pd] at h
    obtain ⟨h1, h2, h3⟩ := h
    rw [h1, h2, toksAll_inj a b h3]
theorem lp_inj {a b : List Pr} (h : lp a = lp b) : a = b := by
  have : PyData.eqv (lp a) (lp b) = true := by
    rw [h, eqv_lp]
    exact decide_eq_true rfl
  rw [eqv_lp] at this
  exact of_decide_eq_true this
theorem ltL_irr (a : List Pr) : ltL a a = false := lex_irrefl _
theorem ltL_trans {a b c : List Pr} (h : ltL a b = true) (h2 : ltL b c = true) : ltL a c = true := lex_trans _ _ _ h h2
theorem ltL_neg {a b c : List Pr} (h : ltL a c = true) : ltL a b = true ∨ ltL b c = true := lex_negTrans _ _ _ h
theorem ltL_total {a b : List Pr} (h : ltL a b = false) (h2 : ltL b a = false) : a = b := by
  have e := lex_total _ _ h h2
  exact toksAll_inj a b e
def minL (x : List Pr) (xs : List (List Pr)) : List Pr := xs.foldl (fun a y => if ltL y a then y else a) x
def LeastL (m : List Pr) (xs : List (List Pr)) : Prop := m ∈ xs ∧ ∀ y ∈ xs, ltL y m = false
theorem minL_least : ∀ (xs : List (List Pr)) (x : List Pr), LeastL (minL x xs) (x :: xs)
  | [], x => ⟨List.mem_cons_self, fun y m => by rw [List.mem_singleton.mp m]; exact ltL_irr x⟩
  | y :: xs, x => by
    show LeastL (minL (if ltL y x then y else x) xs) (x :: y :: xs)
    have ih := minL_least xs (if ltL y x then y else x)
    generalize minL (if ltL y x then y else x) xs = m at ih
    obtain ⟨h1, h2⟩ := ih
    by_cases c : ltL y x = true
    · rw [if_pos c] at h1 h2
      refine ⟨List.mem_cons_of_mem _ h1, fun z mz => ?_⟩
      rcases List.mem_cons.mp mz with e | mz
      · rw [e]
        refine Bool.eq_false_iff.mpr fun t => ?_
        have := h2 y List.mem_cons_self
        rw [ltL_trans c t] at this
        cases this
      · exact h2 z mz
    · rw [if_neg c] at h1 h2
      have c := Bool.eq_false_iff.mpr c
      refine ⟨?_, fun z mz => ?_⟩
      · rcases List.mem_cons.mp h1 with e | m1
        · rw [e]
          exact List.mem_cons_self
        · exact List.mem_cons_of_mem _ (List.mem_cons_of_mem _ m1)
      · rcases List.mem_cons.mp mz with e | mz
        · exact h2 z (e ▸ List.mem_cons_self)
        · rcases List.mem_cons.mp mz with e | mz
          · rw [e]
            refine Bool.eq_false_iff.mpr fun t => ?_
            rcases ltL_neg (b := x) t with t | t
            · rw [c] at t
              cases t
            · rw [h2 x List.mem_cons_self] at t
              cases t
          · exact h2 z (List.mem_cons_of_mem _ mz)
theorem LeastL.uniq {a b : List Pr} {xs ys : List (List Pr)} (h : LeastL a xs) (h2 : LeastL b ys) (e : ∀ x, x ∈ xs ↔ x ∈ ys) : a = b :=
  ltL_total (h2.2 a ((e a).mp h.1)) (h.2 b ((e b).mpr h2.1))
theorem minD_lp (x : List Pr) : ∀ xs : List (List Pr), W.minD (lp x) (xs.map lp) = lp (minL x xs) := by
  intro xs
  unfold W.minD minL
  induction xs generalizing x with
  | nil => rfl
  | cons y xs ih =>
    rw [List.map_cons, List.foldl_cons, List.foldl_cons, ← ih]
    congr 1
    show (if ltL y x = true then lp y else lp x) = _
    split <;> rfl
theorem alike_pd (x y : Pr) : W.alike (pd x) (pd y) = true := rfl
theorem alikeAll_pd : ∀ a b : List Pr, W.alikeAll (a.map pd) (b.map pd) = true
  | [], _ => by simp [W.alikeAll]
  | _ :: _, [] => by simp [W.alikeAll]
  | x :: a, y :: b => by
    rw [List.map_cons, List.map_cons, W.alikeAll, alike_pd, alikeAll_pd a b]
    rfl
theorem alike_lp (a b : List Pr) : W.alike (lp a) (lp b) = true := by
  unfold lp
  rw [W.alike]
  exact alikeAll_pd a b
theorem plainAll_pd : ∀ l : List Pr, PyData.plainAll (l.map pd) = true
  | [] => by simp [PyData.plainAll]
  | x :: l => by
    rw [List.map_cons]
    simp [PyData.plainAll, PyData.plain, pd, plainAll_pd l]
theorem plain_lp (l : List Pr) : PyData.plain (lp l) = true := by
  unfold lp
  rw [PyData.plain]
  exact plainAll_pd l
theorem plainAll_lp : ∀ l : List (List Pr), PyData.plainAll (l.map lp) = true
  | [] => by simp [PyData.plainAll]
  | x :: l => by
    rw [List.map_cons, PyData.plainAll, plain_lp, plainAll_lp l]
    rfl
section
variable {X : Cx}
theorem cr_minL (hc : X.calm = true) (hu : X.A.units + 65 < cLine) : CallR X (.builtin "min") (fun xs H Q => ∃ l x xss, xs = [V.ref l] ∧ CellsL H l (x :: xss) ∧ ∀ a, Cells H a (minL x xss) → Q (.ref a) H) := by
  intro pins s σ H xs us Q I r h
  obtain ⟨l, x, xss, rfl, ⟨ts, hl, ht, ets⟩, q⟩ := h
  obtain ⟨its, rv, pl, hz⟩ := I.list (lst_of hl)
  rw [Vals.ref1 r]
  have dpa : DpAll X.K H (ts.map fun t => V.ref t.1) ((x :: xss).map lp) := by
    rw [← ets]
    have go : ∀ us : List (Addr × List Pr), (∀ t ∈ us, Cells H t.1 t.2) → DpAll X.K H (us.map fun t => V.ref t.1) ((us.map (·.2)).map lp) := fun us => by
      induction us with
      | nil => exact fun _ => .nil
      | cons t us ih => exact fun h => .cons (dp_cells (h t List.mem_cons_self)) (ih fun u m => h u (List.mem_cons_of_mem _ m))
    exact go ts ht
  obtain ⟨as, hr⟩ := Dp.readsAll I _ _ its dpa rv
  have dep := depAll_lp (x :: xss)
  have er : its = ts.map fun t => Value.ref t.1 := by
    have go : ∀ (us : List (Addr × List Pr)) (vs : List Value), Vals (us.map fun t => V.ref t.1) vs → vs = us.map fun t => Value.ref t.1 := fun us => by
      induction us with
      | nil => intro vs h; cases h; rfl
      | cons u us ih =>
        intro vs h
        cases h with
        | cons r1 r2 =>
          cases r1
          rw [ih _ r2]
          rfl
    exact go ts its rv
  refine W.min_list_data (x := lp x) (xs := xss.map lp) (I.ok.hd hc) pl.isList hr ⟨fun a ma b mb => ?_, fun a ma => ?_⟩ (by rw [← List.map_cons]; omega) fun i v h' tk bs hv rd k => ?_
  · obtain ⟨a, _, rfl⟩ := List.mem_map.mp (show a ∈ (x :: xss).map lp from ma)
    obtain ⟨b, _, rfl⟩ := List.mem_map.mp (show b ∈ (x :: xss).map lp from mb)
    exact alike_lp a b
  · obtain ⟨a, _, rfl⟩ := List.mem_map.mp (show a ∈ (x :: xss).map lp from ma)
    intro z
    cases z
  · rw [minD_lp] at rd
    have hv' : its[i]? = some v := by simpa using hv
    rw [er, List.getElem?_map] at hv'
    obtain ⟨t, et, rfl⟩ := Option.map_eq_some_iff.mp hv'
    have mt := List.mem_of_getElem? et
    obtain ⟨as2, r2⟩ := Dp.reads I (lp t.2) (.ref t.1) (.ref t.1) (dp_cells (ht t mt)) rfl
    have e := W.alike_unique _ _ _ _ _ (alike_lp _ _) rd (Reads.keeps k r2)
    refine ⟨.ref t.1, H, I.kept k, rfl, q t.1 ?_⟩
    rw [lp_inj e]
    exact ht t mt
theorem count_lp (p : List Pr) : ∀ pss : List (List Pr), (pss.map lp).countP (fun y => PyData.eqv y (lp p)) = pss.count p
  | [] => rfl
  | x :: pss => by
    rw [List.map_cons, List.countP_cons, List.count_cons, count_lp p pss, eqv_lp]
    by_cases e : x = p
    · simp [e]
    · simp [e]
theorem mt_countL (hu : X.A.units + 65 < cLine) : MtR X "list.count" (fun x xs H Q => ∃ (a t : Addr) (p : List Pr) (pss : List (List Pr)), x = .ref a ∧ xs = [.ref t] ∧ Cells H t p ∧ CellsL H a pss ∧ Q (.int (pss.count p : Nat)) H) := by
  intro pins s σ H x xs v us Q I rx rxs h
  obtain ⟨a, t, p, pss, rfl, rfl, hp, hl, q⟩ := h
  cases rx
  obtain ⟨u, rfl, ru⟩ := rxs.one
  obtain ⟨as, r1⟩ := Dp.reads I (lp p) (.ref t) u (dp_cells hp) ru
  have dl := dp_cellsL (K := X.K) hl
  have dep := depAll_lp pss
  cases dl with
  | lst hs ha =>
    obtain ⟨its, rv, pl, hz⟩ := I.list hs
    obtain ⟨bs, hr⟩ := Dp.readsAll I _ _ its ha rv
    refine SeqAt.count_list_data pl.isList hr r1 (plainAll_lp pss) (plain_lp p) (by have := Nat.min_le_left (PyData.depthAll (pss.map lp)) (lp p).depth; omega) ?_
    rw [count_lp]
    exact ⟨.int (pss.count p : Nat), H, I.tok _, ⟨_, rfl⟩, q⟩
end
theorem ix_listK {X : Cx} {K : PySem.W.Frag} (hK : X.K = K) : IxR X (rIxL K) := by
  subst hK
  exact ix_list
theorem op_eqDK {X : Cx} {K : PySem.W.Frag} (hK : X.K = K) (hu : X.A.units + 64 < cLine) : OpR X (compareOp .Eq) (rEqD K) := by
  subst hK
  exact op_eqD hu
/-- a comprehension over such a list, a new list of pairs for each -/
theorem lc_lists {K : PySem.W.Frag} {l : Addr} {pss : List (List Pr)} {g : TG} {tt : TT} {te : TE} {vs : List Nat} {σ : L2.St} {H1 : Hp} {D : Addr} {Qd : Hp → Prop} (f : List Pr → List Pr) (hC : CellsL H1 l pss) (nD : H1 D = none) (few : pss.length < sizeLine)
    (hs : ∀ (t : Addr) (ps : List Pr) (H' : Hp) (Po : V → Hp → Prop) (Pn : Hp → Prop), ps ∈ pss → Same H1 H' → Cells H' t ps → (∀ H2 t2, Same H' H2 → H' t2 = none → Cells H2 t2 (f ps) → Po (.ref t2) H2) →
      g (.ref t) (wipe σ vs) H' fun σ2 H2 => wipe σ2 vs = wipe σ vs ∧ tt σ2 H2 fun b H3 => if b = true then te σ2 H3 Po else Pn H3)
    (hd : ∀ H', Same H1 H' → CellsL H' D (pss.map f) → Qd H') :
    ∃ W : Nat → Nat → Hp → Prop, (∃ m, W 0 m (upd H1 D (.lst []))) ∧ ∀ i m H, W i m H →
      ((Itl K l).stop i H ∧ Qd H) ∨ ((Itl K l).go i H ∧ ∃ Nx : Hp → Prop, (∀ H', Nx H' → ∃ m', m' < m ∧ W (i + 1) m' H') ∧ ∀ x H', (Itl K l).yld i H x H' → g x (wipe σ vs) H' fun σ2 H2 => wipe σ2 vs = wipe σ vs ∧ tt σ2 H2 fun b H3 =>
        if b = true then te σ2 H3 fun y H4 => ∃ acc, H4 D = some (.lst acc) ∧ acc.length < sizeLine ∧ Nx (upd H4 D (.lst (acc ++ [y]))) else Nx H3) := by
  obtain ⟨ts, hl, ht, rfl⟩ := hC
  rw [List.length_map] at few
  refine lc_list (K := K) (a := l) (xs := ts.map fun t => V.ref t.1) (fun i H' => Same H1 H' ∧ ∃ us : List (Addr × List Pr), H' D = some (.lst (us.map fun t => V.ref t.1)) ∧ (∀ t ∈ us, t.1 ≠ D ∧ Cells H' t.1 t.2) ∧ us.map (·.2) = ((ts.map (·.2)).take i).map f)
    ⟨newS nD, [], upd_same, fun _ m => (by cases m), rfl⟩ (fun i H' _ p => lst_of (p.1 _ _ hl)) ?_ ?_
  · rintro i x H' hi ⟨sm, us, h1, h2, h3⟩
    rw [List.getElem?_map] at hi
    obtain ⟨t, et, rfl⟩ := Option.map_eq_some_iff.mp hi
    have mt := List.mem_of_getElem? et
    have ei : (ts.map (·.2))[i]? = some t.2 := by rw [List.getElem?_map, et]; rfl
    have li := (List.getElem?_eq_some_iff.mp et).1
    have ul : us.length = i := by
      have z := congrArg List.length h3
      rw [List.length_map, List.length_map, List.length_take, List.length_map] at z
      omega
    refine hs t.1 t.2 H' _ _ (List.mem_map.mpr ⟨t, mt, rfl⟩) sm ((ht t mt).up sm) fun H2 t2 e2 n2 hc => ⟨us.map fun t => V.ref t.1, e2 _ _ h1, by rw [List.length_map]; omega, mutS (sm.trans e2) nD, us ++ [(t2, f t.2)], ?_, ?_, ?_⟩
    · rw [upd_same, List.map_append]
      rfl
    · have nD2 : t2 ≠ D := fun e => by
        rw [e, h1] at n2
        cases n2
      have nt : ∀ xs, H2 D ≠ some (.tup xs) := fun xs e => by
        rw [e2 _ _ h1] at e
        cases e
      intro u m
      rcases List.mem_append.mp m with m | m
      · exact ⟨(h2 u m).1, ((h2 u m).2.up e2).mut (h2 u m).1 nt⟩
      · rw [List.mem_singleton.mp m]
        exact ⟨nD2, hc.mut nD2 nt⟩
    · rw [List.map_append, h3, take_next ei, List.map_append]
      rfl
  · rintro H' ⟨sm, us, h1, h2, h3⟩
    refine hd H' sm ⟨us, h1, fun t m => (h2 t m).2, ?_⟩
    rw [h3, List.length_map, List.take_of_length_le (by rw [List.length_map]; exact Nat.le_refl _)]
end Vx
namespace Vx
open PySem PySem.Spec PyProof.Rows L2
/-- isinstance of the caught error, its class told by the reading -/
theorem call_isE2 {X : Cx} {a D : Addr} {oe : Obj} {cls : Value} {d : Option Addr} {pn : List (Addr × Obj)} (C : ExcC X.K D) (hz : Zc cls d oe) (hf : ∃ vs, oe.data = .fields vs) :
    CallR (X.suite a ((a, oe) :: pn)) (.builtin "isinstance") (fun xs H Q => cls = .ref D ∧ d = none ∧ rIsE X.K D a xs H Q) := fun pins s σ H xs us Q I r h => by
  obtain ⟨h1, h2, h3⟩ := h
  subst h1 h2
  exact call_isE C hz hf pins s σ H xs us Q I r h3
theorem kit_sub {K : PySem.W.Frag} {D C : Addr} {b : Bool} (hc : PySem.W.isClsIn K C = true) (ht : PySem.W.typeIn K (.ref C) = some (.type "type")) (h1 : PySem.W.subIn K (.ref D) (.ref D) = some true) (h2 : PySem.W.subIn K (.ref D) (.ref C) = some b) :
    PySem.W.kitOne K (.ref D) (.ref C) = some b := by
  unfold PySem.W.kitOne
  by_cases e : D = C
  · subst e
    rw [h1] at h2
    rw [if_pos (beq_self_eq_true _)]
    exact h2
  · rw [if_neg (by intro q; exact e (Value.ref.inj (beq_iff_eq.mp q)))]
    unfold PySem.W.kitCls
    have hc' : (PySem.W.clsIn K C).isSome = true := hc
    have e2 : ((PySem.W.clsIn K C).isSome && PySem.W.typeIn K (.ref C) == some (.type "type")) = true := by rw [hc', ht]; rfl
    show (if ((PySem.W.clsIn K C).isSome && PySem.W.typeIn K (.ref C) == some (.type "type")) = true then PySem.W.subIn K (.ref D) (.ref C) else none) = some b
    rw [if_pos e2]
    exact h2
theorem kit_ve {K : PySem.W.Frag} {D : Addr} {b : Bool} (h2 : PySem.W.subIn K (.ref D) (.type "ValueError") = some b) : PySem.W.kitOne K (.ref D) (.type "ValueError") = some b := by
  unfold PySem.W.kitOne
  rw [if_neg (by intro q; cases (beq_iff_eq.mp q))]
  show (if PySem.W.kitMeta "ValueError" = true then PySem.W.subIn K (.ref D) (.type "ValueError") else none) = some b
  rw [if_pos (by decide +kernel)]
  exact h2
end Vx
namespace PySem
open Sem (wp)
section
variable {prog : Program} {w : World} {K : Type} [DecidableEq K] {knd : HeapKind prog w K} {A : Around} {E : Value → Shared → Prop} {s : Shared}
theorem wpAny_truthy_dictH {d : Addr} {xs : List (K × Addr × Value)} {Q : Bool → Shared → Prop} (hd : (d == sysModules) = false) (hm : s.heap.DictOfH knd d xs) (hfit : (xs.length : Int) < 2 ^ 63)
    (h : Q (!xs.isEmpty) { s with toks := s.toks + 1 + 1 }) : wpAny (model prog w) A (truthy (.ref d)) Q E s := by
  have hne : ((xs.length : Int) != 0) = !xs.isEmpty := by cases xs <;> simp <;> omega
  have key : wpAny (model prog w) A (runValue (.builtin "len" ⟨[.ref d], []⟩)) (fun r s' => r = .int xs.length (s.toks + 1) ∧ Q (!xs.isEmpty) s') E s := by
    refine wpAny_runValue (codeAny_builtin entry_len ?_)
    rw [Around.under_plainId plain_len _]
    exact wpAny_mono (wpAny_len_body_dictH (Q := fun r s' => r = .int xs.length (s.toks + 1) ∧ Q (!xs.isEmpty) s') hd hm hfit ⟨rfl, h⟩)
      (fun fin s' h' => by obtain ⟨r, rfl, hq⟩ := h'; exact hq) fun _ _ e => e
  unfold truthy
  first
    | refine wpAny_bind (wpAny_callSpecial?_none (name := Str.ofString "__bool__") hm.typeIs noBool_dict ?_)
    | refine wpAny_bind (wpAny_pure (wpAny_bind (wpAny_callSpecial?_none (name := Str.ofString "__bool__") hm.typeIs noBool_dict ?_)))
  first
    | refine wpAny_bind (wpAny_specialOf (name := Str.ofString "__len__") hm.typeIs F.slot_dict_len.lookup ?_)
    | refine wpAny_bind (wpAny_pure (wpAny_bind (wpAny_specialOf (name := Str.ofString "__len__") hm.typeIs F.slot_dict_len.lookup ?_)))
  first
    | exact wpAny_bind (wpAny_mono key (fun r s' h' => by obtain ⟨rfl, hq⟩ := h'; exact wpAny_pure (hne ▸ hq)) fun _ _ e => e)
    | exact wpAny_bind (wpAny_pure (wpAny_bind (wpAny_mono key (fun r s' h' => by obtain ⟨rfl, hq⟩ := h'; exact wpAny_pure (hne ▸ hq)) fun _ _ e => e)))
end
end PySem
namespace Vx
open PySem PySem.Spec PyProof.Rows L2
theorem gName_go {i : Nat} {v : V} {σ : L2.St} {H : Hp} {Q : L2.St → Hp → Prop} (h : Q (σ.set i (some v)) H) : gName i v σ H Q := h
/-! ### min, max with a default, of ints -/
theorem foldl_min_mem : ∀ (ns : List Int) (n : Int), ns.foldl min n ∈ n :: ns ∧ ∀ y ∈ n :: ns, ns.foldl min n ≤ y
  | [], n => ⟨List.mem_cons_self, fun y m => by rw [List.mem_singleton.mp m]; exact Int.le_refl n⟩
  | k :: ns, n => by
    obtain ⟨h1, h2⟩ := foldl_min_mem ns (min n k)
    show ns.foldl min (min n k) ∈ _ ∧ ∀ y ∈ _, ns.foldl min (min n k) ≤ y
    have h0 := h2 _ List.mem_cons_self
    refine ⟨?_, fun y m => ?_⟩
    · rcases List.mem_cons.mp h1 with e | m
      · rw [e]
        rcases Int.le_total n k with c | c
        · rw [Int.min_eq_left c]; exact List.mem_cons_self
        · rw [Int.min_eq_right c]; exact List.mem_cons_of_mem _ List.mem_cons_self
      · exact List.mem_cons_of_mem _ (List.mem_cons_of_mem _ m)
    · rcases List.mem_cons.mp m with e | m
      · rw [e]; exact Int.le_trans h0 (Int.min_le_left _ _)
      · rcases List.mem_cons.mp m with e | m
        · rw [e]; exact Int.le_trans h0 (Int.min_le_right _ _)
        · exact h2 y (List.mem_cons_of_mem _ m)
theorem foldl_max_mem : ∀ (ns : List Int) (n : Int), ns.foldl max n ∈ n :: ns ∧ ∀ y ∈ n :: ns, y ≤ ns.foldl max n
  | [], n => ⟨List.mem_cons_self, fun y m => by rw [List.mem_singleton.mp m]; exact Int.le_refl n⟩
  | k :: ns, n => by
    obtain ⟨h1, h2⟩ := foldl_max_mem ns (max n k)
    show ns.foldl max (max n k) ∈ _ ∧ ∀ y ∈ _, y ≤ ns.foldl max (max n k)
    have h0 := h2 _ List.mem_cons_self
    refine ⟨?_, fun y m => ?_⟩
    · rcases List.mem_cons.mp h1 with e | m
      · rw [e]
        rcases Int.le_total n k with c | c
        · rw [Int.max_eq_right c]; exact List.mem_cons_of_mem _ List.mem_cons_self
        · rw [Int.max_eq_left c]; exact List.mem_cons_self
      · exact List.mem_cons_of_mem _ (List.mem_cons_of_mem _ m)
    · rcases List.mem_cons.mp m with e | m
      · rw [e]; exact Int.le_trans (Int.le_max_left _ _) h0
      · rcases List.mem_cons.mp m with e | m
        · rw [e]; exact Int.le_trans (Int.le_max_right _ _) h0
        · exact h2 y (List.mem_cons_of_mem _ m)
theorem alike_ints (ns : List Int) : W.AlikeAll (ns.map PyData.int) := ⟨fun a ma b mb => by
    obtain ⟨x, _, rfl⟩ := List.mem_map.mp ma
    obtain ⟨y, _, rfl⟩ := List.mem_map.mp mb
    simp [W.alike], fun a ma => by
    obtain ⟨x, _, rfl⟩ := List.mem_map.mp ma
    intro z
    cases z⟩
section
variable {X : Cx}
def rDflt (K : PySem.W.Frag) (le : Int → Int → Prop) : List V → List V → Hp → VK → Prop := fun vs zs H Q => ∃ (a : Addr) (ns : List Int) (d : V), vs = [V.ref a] ∧ zs = [d] ∧ SqL K H a (ns.map V.int) ∧ (ns = [] → Q d H) ∧ ∀ m, m ∈ ns → (∀ y ∈ ns, le m y) → Q (.int m) H
theorem cr_minD (hc : X.calm = true) (hu : X.A.units + 2 < cLine) : CallRK X (.builtin "min") [Str.ofString "default"] (rDflt X.K (fun m y => m ≤ y)) := by
  intro pins s σ H vs zs us ws Q I r rz h
  obtain ⟨a, ns, d, rfl, rfl, hs, q0, q⟩ := h
  obtain rfl := Vals.ref1 r
  obtain ⟨w1, rfl, e1⟩ := vals1 rz
  obtain ⟨its, rv, pl, hz⟩ := I.list hs
  obtain ⟨as, hr⟩ := Dp.readsAll I _ _ its (dpAll_ints ns) rv
  refine W.min_list_default (I.ok.hd hc) pl.isList hr (alike_ints ns) (by rw [depAll_ints]; omega) (fun z h' tk k => ?_) fun y ys i v h' tk bs e hv rd k => ?_
  · exact ⟨d, H, I.kept k, e1, q0 (List.map_eq_nil_iff.mp z)⟩
  · cases ns with
    | nil => cases e
    | cons n ns =>
      injection e with e1 e2
      subst e1 e2
      rw [W.minD_ints] at rd
      obtain ⟨h1, h2⟩ := foldl_min_mem ns n
      cases rd
      exact ⟨.int _, H, I.kept k, ⟨_, rfl⟩, q _ h1 h2⟩
theorem cr_maxD (hc : X.calm = true) (hu : X.A.units + 2 < cLine) : CallRK X (.builtin "max") [Str.ofString "default"] (rDflt X.K (fun m y => y ≤ m)) := by
  intro pins s σ H vs zs us ws Q I r rz h
  obtain ⟨a, ns, d, rfl, rfl, hs, q0, q⟩ := h
  obtain rfl := Vals.ref1 r
  obtain ⟨w1, rfl, e1⟩ := vals1 rz
  obtain ⟨its, rv, pl, hz⟩ := I.list hs
  obtain ⟨as, hr⟩ := Dp.readsAll I _ _ its (dpAll_ints ns) rv
  refine W.max_list_default (I.ok.hd hc) pl.isList hr (alike_ints ns) (by rw [depAll_ints]; omega) (fun z h' tk k => ?_) fun y ys i v h' tk bs e hv rd k => ?_
  · exact ⟨d, H, I.kept k, e1, q0 (List.map_eq_nil_iff.mp z)⟩
  · cases ns with
    | nil => cases e
    | cons n ns =>
      injection e with e1 e2
      subst e1 e2
      rw [W.maxD_ints] at rd
      obtain ⟨h1, h2⟩ := foldl_max_mem ns n
      cases rd
      exact ⟨.int _, H, I.kept k, ⟨_, rfl⟩, q _ h1 h2⟩
/-- if d: of a dict with tuple keys -/
theorem pt_truT {a : Expr} {ta : TE} (ha : PE X a ta) (he : ∀ whole, isTrue a X.env whole = (do let v ← whole; standAt a.pos; holding [v] (truthy v))) :
    PT X a (fun σ H Q => ta σ H fun x H' => ∃ (p : Addr) (kvs : List (List L2.Key × V)), x = .ref p ∧ H' p = some (.dT kvs) ∧ Q (!kvs.isEmpty) H') := by
  refine ⟨fun pins s σ H Q I h => ?_⟩
  refine isTrue_plain (thn (ha.run pins s σ H _ I h) fun v s1 ⟨x, H1, I1, r1, q1⟩ => ?_) (he _)
  obtain ⟨p, kvs, rfl, hp, q⟩ := q1
  obtain rfl : v = .ref p := r1
  obtain ⟨z, hd, ys, rel, dd⟩ := dt_of I1.hok hp
  have hl : kvs.length = ys.length := Paired.length rel
  have hi : (!ys.isEmpty) = !kvs.isEmpty := by
    cases ys <;> cases kvs <;> first | rfl | (simp at hl)
  refine PySem.wpAny_truthy_dictH hd dd (by rw [← hl]; rw [sizeLine_eq] at z; omega) ?_
  rw [hi]
  exact ⟨H1, I1.tok _, q⟩
end
/-- the keys of such a dict, a number of each -/
theorem lc_keysN {d : Addr} {od : Obj} {kvs : List (List L2.Key × V)} {ps : List Pr} {vs : List Nat} {σ : L2.St} {H1 : Hp} {D : Addr} {Qd : Hp → Prop} {g : TG} {tt : TT} {te : TE} (f : Pr → Int) (hK : KeysP kvs ps) (hD : H1 d = some (.frz od (.dT kvs))) (nD : H1 D = none) (few : ps.length < sizeLine)
    (hs : ∀ (t : Addr) (x : Pr) (H' : Hp) (Po : V → Hp → Prop) (Pn : Hp → Prop), x ∈ ps → H' t = some (.tup [.int x.1, .int x.2]) → Po (.int (f x)) H' →
      g (.ref t) (wipe σ vs) H' fun σ2 H2 => wipe σ2 vs = wipe σ vs ∧ tt σ2 H2 fun b H3 => if b = true then te σ2 H3 Po else Pn H3)
    (hd : ∀ H', Same H1 H' → H' D = some (.lst ((ps.map f).map V.int)) → Qd H') :
    ∃ W : Nat → Nat → Hp → Prop, (∃ m, W 0 m (upd H1 D (.lst []))) ∧ ∀ i m H, W i m H →
      ((Itkt d od kvs).stop i H ∧ Qd H) ∨ ((Itkt d od kvs).go i H ∧ ∃ Nx : Hp → Prop, (∀ H', Nx H' → ∃ m', m' < m ∧ W (i + 1) m' H') ∧ ∀ x H', (Itkt d od kvs).yld i H x H' → g x (wipe σ vs) H' fun σ2 H2 => wipe σ2 vs = wipe σ vs ∧ tt σ2 H2 fun b H3 =>
        if b = true then te σ2 H3 fun y H4 => ∃ acc, H4 D = some (.lst acc) ∧ acc.length < sizeLine ∧ Nx (upd H4 D (.lst (acc ++ [y]))) else Nx H3) := by
  have len := hK.len
  refine lc_it walk_keysT (fun i H' => Same H1 H' ∧ H' D = some (.lst (((ps.take i).map f).map V.int)))
    ⟨newS nD, upd_same⟩ (fun i H' _ p => p.1 _ _ hD) ?_ ?_
  · rintro i x H' H2 hi ⟨sm, h1⟩ ⟨rfl, k, v, q, e, rfl, hq⟩
    obtain ⟨y, hy, ek⟩ := hK.at e
    rw [ek] at hq
    refine hs q y _ _ _ (List.mem_of_getElem? hy) hq ⟨_, h1, ?_, mutS sm nD, ?_⟩
    · rw [List.length_map, List.length_map, List.length_take]
      omega
    · rw [upd_same, take_next hy, List.map_append, List.map_append]
      rfl
  · rintro H' ⟨sm, h1⟩
    rw [List.take_of_length_le (by omega)] at h1
    exact hd H' sm h1
end Vx
namespace My
open PySem PySem.Spec PyProof.Rows L2 Vx
def topS (i : Nat) : Stmt := PySem.Challenge.pw_longlife_k17_told_fates.main.body.getD i (.Pass ⟨0, 0, 0, 0⟩)
abbrev s_floor_of : Stmt := topS 3
abbrev N_floor_of : List Str := ["cells", "first", "floor", "row", "column", "at", "bit"]
theorem sc_floor_of : FnScope N_floor_of ["cells", "first"] (defScope s_floor_of) := ⟨rfl, rfl, rfl, by decide +kernel, rfl, by decide +kernel, by decide +kernel⟩
abbrev s_cells_of : Stmt := topS 4
abbrev N_cells_of : List Str := ["floor", "first", "cells", "row", "at", "start", "strip", "lowest"]
theorem sc_cells_of : FnScope N_cells_of ["floor", "first"] (defScope s_cells_of) := ⟨rfl, rfl, rfl, by decide +kernel, rfl, by decide +kernel, by decide +kernel⟩
abbrev s_home_floor : Stmt := topS 5
abbrev N_home_floor : List Str := ["floor", "full", "top", "first", "edge", "_", "at", "strip", "left", "homely", "row", "place", "shift", "here", "beyond"]
theorem sc_home_floor : FnScope N_home_floor ["floor"] (defScope s_home_floor) := ⟨rfl, rfl, rfl, by decide +kernel, rfl, by decide +kernel, by decide +kernel⟩
abbrev s_next_floor : Stmt := topS 6
abbrev N_next_floor : List Str := ["floor", "rule", "sums", "none", "after", "row", "at", "above", "here", "below", "strip"]
theorem sc_next_floor : FnScope N_next_floor ["floor", "rule"] (defScope s_next_floor) := ⟨rfl, rfl, rfl, by decide +kernel, rfl, by decide +kernel, by decide +kernel⟩
abbrev s_row_sums : Stmt := topS 7
abbrev N_row_sums : List Str := ["floor", "last", "full", "sums", "row", "at", "alive", "left", "right"]
theorem sc_row_sums : FnScope N_row_sums ["floor"] (defScope s_row_sums) := ⟨rfl, rfl, rfl, by decide +kernel, rfl, by decide +kernel, by decide +kernel⟩
abbrev s_sums_of : Stmt := topS 8
abbrev N_sums_of : List Str := ["left", "alive", "right", "odd"]
theorem sc_sums_of : FnScope N_sums_of ["left", "alive", "right"] (defScope s_sums_of) := ⟨rfl, rfl, rfl, by decide +kernel, rfl, by decide +kernel, by decide +kernel⟩
abbrev s_with_strips_beside : Stmt := topS 9
abbrev N_with_strips_beside : List Str := ["floor", "last", "keys", "row", "at", "strip"]
theorem sc_with_strips_beside : FnScope N_with_strips_beside ["floor"] (defScope s_with_strips_beside) := ⟨rfl, rfl, rfl, by decide +kernel, rfl, by decide +kernel, by decide +kernel⟩
abbrev s_with_rows_beside : Stmt := topS 10
abbrev N_with_rows_beside : List Str := ["sums", "keys", "row", "at"]
theorem sc_with_rows_beside : FnScope N_with_rows_beside ["sums"] (defScope s_with_rows_beside) := ⟨rfl, rfl, rfl, by decide +kernel, rfl, by decide +kernel, by decide +kernel⟩
abbrev s_totals_of : Stmt := topS 11
abbrev N_totals_of : List Str := ["above", "here", "below", "above_ones", "above_twos", "here_ones", "here_twos", "below_ones", "below_twos", "odd", "carried", "first", "second", "first_four", "second_four", "fours"]
theorem sc_totals_of : FnScope N_totals_of ["above", "here", "below"] (defScope s_totals_of) := ⟨rfl, rfl, rfl, by decide +kernel, rfl, by decide +kernel, by decide +kernel⟩
abbrev s_next_strip : Stmt := topS 12
abbrev N_next_strip : List Str := ["alive", "totals", "rule", "ones", "twos", "fours", "eights", "near", "not_ones", "not_twos", "low", "high", "born", "number", "kept", "total"]
theorem sc_next_strip : FnScope N_next_strip ["alive", "totals", "rule"] (defScope s_next_strip) := ⟨rfl, rfl, rfl, by decide +kernel, rfl, by decide +kernel, by decide +kernel⟩
abbrev s_pattern : Stmt := topS 14
abbrev N_pattern : List Str := ["cells"]
theorem sc_pattern : FnScope N_pattern ["cells"] (defScope s_pattern) := ⟨rfl, rfl, rfl, by decide +kernel, rfl, by decide +kernel, by decide +kernel⟩
abbrev s_moved : Stmt := topS 15
abbrev N_moved : List Str := ["cells", "rows", "columns", "row", "column"]
theorem sc_moved : FnScope N_moved ["cells", "rows", "columns"] (defScope s_moved) := ⟨rfl, rfl, rfl, by decide +kernel, rfl, by decide +kernel, by decide +kernel⟩
abbrev s_grown : Stmt := topS 16
abbrev N_grown : List Str := ["cells", "rule", "generations", "first", "floor", "_", "column"]
theorem sc_grown : FnScope N_grown ["cells", "rule", "generations"] (defScope s_grown) := ⟨rfl, rfl, rfl, by decide +kernel, rfl, by decide +kernel, by decide +kernel⟩
abbrev s_fate : Stmt := topS 20
abbrev N_fate : List Str := ["cells", "rule", "bound", "first", "floor", "seen", "generation", "mark", "row", "column", "start", "start_row", "start_column", "told", "_"]
theorem sc_fate : FnScope N_fate ["cells", "rule", "bound"] (defScope s_fate) := ⟨rfl, rfl, rfl, by decide +kernel, rfl, by decide +kernel, by decide +kernel⟩
abbrev s_marked : Stmt := topS 21
abbrev N_marked : List Str := ["floor", "homely", "least_row", "least_column", "mark", "row", "at"]
theorem sc_marked : FnScope N_marked ["floor"] (defScope s_marked) := ⟨rfl, rfl, rfl, by decide +kernel, rfl, by decide +kernel, by decide +kernel⟩
abbrev s_holds : Stmt := topS 22
abbrev N_holds : List Str := ["cells", "rule", "told", "start", "period", "rows", "columns", "first"]
theorem sc_holds : FnScope N_holds ["cells", "rule", "told"] (defScope s_holds) := ⟨rfl, rfl, rfl, by decide +kernel, rfl, by decide +kernel, by decide +kernel⟩
abbrev s_at_generation : Stmt := topS 23
abbrev N_at_generation : List Str := ["cells", "rule", "told", "generation", "start", "period", "rows", "columns", "times", "rest"]
theorem sc_at_generation : FnScope N_at_generation ["cells", "rule", "told", "generation"] (defScope s_at_generation) := ⟨rfl, rfl, rfl, by decide +kernel, rfl, by decide +kernel, by decide +kernel⟩
abbrev s_Rule_init : Stmt := inClass (topS 25) 0
abbrev N_Rule_init : List Str := ["self", "births", "survival"]
theorem sc_Rule_init : FnScope N_Rule_init ["self", "births", "survival"] (defScope s_Rule_init) := ⟨rfl, rfl, rfl, by decide +kernel, rfl, by decide +kernel, by decide +kernel⟩
abbrev s_law_cell : Stmt := topS 27
abbrev N_law_cell : List Str := ["script", "k"]
theorem sc_law_cell : FnScope N_law_cell ["script", "k"] (defScope s_law_cell) := ⟨rfl, rfl, rfl, by decide +kernel, rfl, by decide +kernel, by decide +kernel⟩
abbrev s_law_row : Stmt := topS 28
abbrev N_law_row : List Str := ["cell", "count", "bound", "rest", "mixed", "row", "k"]
theorem sc_law_row : FnScope N_law_row ["cell", "count", "bound"] (defScope s_law_row) := ⟨rfl, rfl, rfl, by decide +kernel, rfl, by decide +kernel, by decide +kernel⟩
abbrev s_law_numbers : Stmt := topS 31
abbrev N_law_numbers : List Str := ["cell", "x", "births", "survival", "k"]
theorem sc_law_numbers : FnScope N_law_numbers ["cell"] (defScope s_law_numbers) := ⟨rfl, rfl, rfl, by decide +kernel, rfl, by decide +kernel, by decide +kernel⟩
abbrev s_law_some : Stmt := topS 32
abbrev N_law_some : List Str := ["cell", "count", "height", "width", "x", "found", "y", "place"]
theorem sc_law_some : FnScope N_law_some ["cell", "count", "height", "width"] (defScope s_law_some) := ⟨rfl, rfl, rfl, by decide +kernel, rfl, by decide +kernel, by decide +kernel⟩
abbrev s_law_next : Stmt := topS 33
abbrev N_law_next : List Str := ["cells", "births", "survival", "counts", "alive", "r", "c", "i", "j", "found", "place"]
theorem sc_law_next : FnScope N_law_next ["cells", "births", "survival"] (defScope s_law_next) := ⟨rfl, rfl, rfl, by decide +kernel, rfl, by decide +kernel, by decide +kernel⟩
abbrev s_law_grown : Stmt := topS 34
abbrev N_law_grown : List Str := ["cells", "births", "survival", "count", "now", "k"]
theorem sc_law_grown : FnScope N_law_grown ["cells", "births", "survival", "count"] (defScope s_law_grown) := ⟨rfl, rfl, rfl, by decide +kernel, rfl, by decide +kernel, by decide +kernel⟩
abbrev s_law : Stmt := topS 35
abbrev N_law : List Str := ["script", "births", "survival", "rule", "first", "cells", "x", "told", "found", "start", "end", "due", "now", "g", "turns", "late", "r", "c"]
theorem sc_law : FnScope N_law ["script"] (defScope s_law) := ⟨rfl, rfl, rfl, by decide +kernel, rfl, by decide +kernel, by decide +kernel⟩
structure Txt (K : PySem.W.Frag) (mg : Str → Option Value) where
  C_Rule : Addr
  g_Rule : mg "Rule" = some (.ref C_Rule)
  cl_Rule : Cls K C_Rule
  na_Rule_births : NoAttr K C_Rule "births"
  na_Rule_survival : NoAttr K C_Rule "survival"
  f_floor_of : Addr
  d_floor_of : FuncData
  F_floor_of : Fun K "floor_of" "floor_of" s_floor_of f_floor_of d_floor_of
  b_floor_of : Binds K d_floor_of ["cells", "first"] []
  g_floor_of : mg "floor_of" = some (.ref f_floor_of)
  f_cells_of : Addr
  d_cells_of : FuncData
  F_cells_of : Fun K "cells_of" "cells_of" s_cells_of f_cells_of d_cells_of
  b_cells_of : Binds K d_cells_of ["floor", "first"] []
  g_cells_of : mg "cells_of" = some (.ref f_cells_of)
  f_home_floor : Addr
  d_home_floor : FuncData
  F_home_floor : Fun K "home_floor" "home_floor" s_home_floor f_home_floor d_home_floor
  b_home_floor : Binds K d_home_floor ["floor"] []
  g_home_floor : mg "home_floor" = some (.ref f_home_floor)
  f_next_floor : Addr
  d_next_floor : FuncData
  F_next_floor : Fun K "next_floor" "next_floor" s_next_floor f_next_floor d_next_floor
  b_next_floor : Binds K d_next_floor ["floor", "rule"] []
  g_next_floor : mg "next_floor" = some (.ref f_next_floor)
  f_row_sums : Addr
  d_row_sums : FuncData
  F_row_sums : Fun K "_row_sums" "_row_sums" s_row_sums f_row_sums d_row_sums
  b_row_sums : Binds K d_row_sums ["floor"] []
  g_row_sums : mg "_row_sums" = some (.ref f_row_sums)
  f_sums_of : Addr
  d_sums_of : FuncData
  F_sums_of : Fun K "sums_of" "sums_of" s_sums_of f_sums_of d_sums_of
  b_sums_of : Binds K d_sums_of ["left", "alive", "right"] []
  g_sums_of : mg "sums_of" = some (.ref f_sums_of)
  f_with_strips_beside : Addr
  d_with_strips_beside : FuncData
  F_with_strips_beside : Fun K "_with_strips_beside" "_with_strips_beside" s_with_strips_beside f_with_strips_beside d_with_strips_beside
  b_with_strips_beside : Binds K d_with_strips_beside ["floor"] []
  g_with_strips_beside : mg "_with_strips_beside" = some (.ref f_with_strips_beside)
  f_with_rows_beside : Addr
  d_with_rows_beside : FuncData
  F_with_rows_beside : Fun K "_with_rows_beside" "_with_rows_beside" s_with_rows_beside f_with_rows_beside d_with_rows_beside
  b_with_rows_beside : Binds K d_with_rows_beside ["sums"] []
  g_with_rows_beside : mg "_with_rows_beside" = some (.ref f_with_rows_beside)
  f_totals_of : Addr
  d_totals_of : FuncData
  F_totals_of : Fun K "totals_of" "totals_of" s_totals_of f_totals_of d_totals_of
  b_totals_of : Binds K d_totals_of ["above", "here", "below"] []
  g_totals_of : mg "totals_of" = some (.ref f_totals_of)
  f_next_strip : Addr
  d_next_strip : FuncData
  F_next_strip : Fun K "next_strip" "next_strip" s_next_strip f_next_strip d_next_strip
  b_next_strip : Binds K d_next_strip ["alive", "totals", "rule"] []
  g_next_strip : mg "next_strip" = some (.ref f_next_strip)
  f_pattern : Addr
  d_pattern : FuncData
  F_pattern : Fun K "pattern" "pattern" s_pattern f_pattern d_pattern
  b_pattern : Binds K d_pattern ["cells"] []
  g_pattern : mg "pattern" = some (.ref f_pattern)
  f_moved : Addr
  d_moved : FuncData
  F_moved : Fun K "moved" "moved" s_moved f_moved d_moved
  b_moved : Binds K d_moved ["cells", "rows", "columns"] []
  g_moved : mg "moved" = some (.ref f_moved)
  f_grown : Addr
  d_grown : FuncData
  F_grown : Fun K "grown" "grown" s_grown f_grown d_grown
  b_grown : Binds K d_grown ["cells", "rule", "generations"] []
  g_grown : mg "grown" = some (.ref f_grown)
  f_fate : Addr
  d_fate : FuncData
  F_fate : Fun K "fate" "fate" s_fate f_fate d_fate
  b_fate : Binds K d_fate ["cells", "rule", "bound"] []
  g_fate : mg "fate" = some (.ref f_fate)
  f_marked : Addr
  d_marked : FuncData
  F_marked : Fun K "_marked" "_marked" s_marked f_marked d_marked
  b_marked : Binds K d_marked ["floor"] []
  g_marked : mg "_marked" = some (.ref f_marked)
  f_holds : Addr
  d_holds : FuncData
  F_holds : Fun K "holds" "holds" s_holds f_holds d_holds
  b_holds : Binds K d_holds ["cells", "rule", "told"] []
  g_holds : mg "holds" = some (.ref f_holds)
  f_at_generation : Addr
  d_at_generation : FuncData
  F_at_generation : Fun K "at_generation" "at_generation" s_at_generation f_at_generation d_at_generation
  b_at_generation : Binds K d_at_generation ["cells", "rule", "told", "generation"] []
  g_at_generation : mg "at_generation" = some (.ref f_at_generation)
  f_Rule_init : Addr
  d_Rule_init : FuncData
  F_Rule_init : Fun K "__init__" "Rule.__init__" s_Rule_init f_Rule_init d_Rule_init
  b_Rule_init : Binds K d_Rule_init ["self", "births", "survival"] []
  M_Rule : Mk K C_Rule f_Rule_init
  f_law_cell : Addr
  d_law_cell : FuncData
  F_law_cell : Fun K "_law_cell" "_law_cell" s_law_cell f_law_cell d_law_cell
  b_law_cell : Binds K d_law_cell ["script", "k"] []
  g_law_cell : mg "_law_cell" = some (.ref f_law_cell)
  f_law_row : Addr
  d_law_row : FuncData
  F_law_row : Fun K "_law_row" "_law_row" s_law_row f_law_row d_law_row
  b_law_row : Binds K d_law_row ["cell", "count", "bound"] []
  g_law_row : mg "_law_row" = some (.ref f_law_row)
  f_law_numbers : Addr
  d_law_numbers : FuncData
  F_law_numbers : Fun K "_law_numbers" "_law_numbers" s_law_numbers f_law_numbers d_law_numbers
  b_law_numbers : Binds K d_law_numbers ["cell"] []
  g_law_numbers : mg "_law_numbers" = some (.ref f_law_numbers)
  f_law_some : Addr
  d_law_some : FuncData
  F_law_some : Fun K "_law_some" "_law_some" s_law_some f_law_some d_law_some
  b_law_some : Binds K d_law_some ["cell", "count", "height", "width"] []
  g_law_some : mg "_law_some" = some (.ref f_law_some)
  f_law_next : Addr
  d_law_next : FuncData
  F_law_next : Fun K "_law_next" "_law_next" s_law_next f_law_next d_law_next
  b_law_next : Binds K d_law_next ["cells", "births", "survival"] []
  g_law_next : mg "_law_next" = some (.ref f_law_next)
  f_law_grown : Addr
  d_law_grown : FuncData
  F_law_grown : Fun K "_law_grown" "_law_grown" s_law_grown f_law_grown d_law_grown
  b_law_grown : Binds K d_law_grown ["cells", "births", "survival", "count"] []
  g_law_grown : mg "_law_grown" = some (.ref f_law_grown)
  f_law : Addr
  d_law : FuncData
  F_law : Fun K "law" "law" s_law f_law d_law
  b_law : Binds K d_law ["script"] []
  g_law : mg "law" = some (.ref f_law)
  z_divmod : mg "divmod" = none
  z_sorted : mg "sorted" = none
  z_min : mg "min" = none
  z_list : mg "list" = none
  z_set : mg "set" = none
  z_range : mg "range" = none
  z_tuple : mg "tuple" = none
  z_len : mg "len" = none
  z_int : mg "int" = none
  z_abs : mg "abs" = none
  z_isinstance : mg "isinstance" = none
  z_bool : mg "bool" = none
  z_max : mg "max" = none
  c_WIDTH : ∃ u, mg "WIDTH" = some u ∧ RelV (.int (2048)) u
  c_PRIME : ∃ u, mg "PRIME" = some u ∧ RelV (.int (170141183460469231731687303715884105727)) u
  c_FACTOR : ∃ u, mg "FACTOR" = some u ∧ RelV (.int (298173405613920847650129384756192837465)) u
end My
namespace My
open PySem PySem.Spec PyProof.Rows L2 Vx
open TL
local macro_rules | `(tactic| k_invariant "new" ($n, $H:ident, $e:ident, $h:ident)) => `(tactic| (generalize hE : upd _ _ _ = $H; obtain ⟨$e:ident, $h:ident⟩ := gen_e hE $n; clear hE))
local macro_rules | `(tactic| k_places) => `(tactic| first
  | assumption
  | exact lst_of (by assumption)
  | exact tup_of (by assumption)
  | (refine getS (by assumption) ?_; k_places)
  | (refine Same.seq (by assumption) ?_; k_places)
  | (refine tupS (by assumption) ?_; k_places)
  | (refine lst_of ?_; k_places)
  | (refine tup_of ?_; k_places))
local macro_rules | `(tactic| k_subL) => `(tactic| first
  | k_places
  | solve_by_elim (maxDepth := 10) [getS, lst_of, tup_of, Same.seq, tupS])
local macro_rules | `(tactic| k_offL) => `(tactic| first
  | (show (0 : Int) < _; first | omega | decide)
  | (refine ⟨?_, ?_⟩ <;> first | omega | decide)
  | exact .inr ⟨by decide, by decide⟩
  | exact .inl ⟨by decide, by decide⟩
  | exact .inl ⟨by omega, by omega⟩
  | omega)
local macro_rules | `(tactic| k_clsL) => `(tactic| exact Nat.le_of_ble_eq_true rfl)
local macro_rules | `(tactic| k_upd) => `(tactic| simp only [L2.start, List.map_cons, List.map_nil, List.length_cons, List.length_nil, List.replicate_succ, List.replicate_zero, List.cons_append, List.nil_append, List.set_cons_zero, List.set_cons_succ])
section
variable {P : Program} {w : World} {K : PySem.W.Frag} {mg : Str → Option Value} {base : Heap}
/-! ### rules -/
theorem bs_ne : ¬ (("births" : Str) = "survival") := by decide +kernel
theorem sb_ne : ¬ (("survival" : Str) = "births") := by decide +kernel
def rf (tb ts : Addr) : List (Str × V) := putF "survival" (.ref ts) (putF "births" (.ref tb) [])
theorem rf_b (tb ts : Addr) : (rf tb ts).lookup ("births" : Str) = some (.ref tb) := by
  unfold rf
  rw [lookup_putF, if_neg bs_ne, lookup_putF, if_pos rfl]
theorem rf_s (tb ts : Addr) : (rf tb ts).lookup ("survival" : Str) = some (.ref ts) := by
  unfold rf
  rw [lookup_putF, if_pos rfl]
theorem rf_no (tb ts : Addr) {m : Str} (h1 : ¬ m = "survival") (h2 : ¬ m = "births") : (rf tb ts).lookup m = none := by
  unfold rf
  rw [lookup_putF, if_neg h1, lookup_putF, if_neg h2]
  rfl
def RuleAt (C : Addr) (H : Hp) (r : Addr) (bs ss : List Int) : Prop :=
  ∃ dx tb ts, H r = some (.ins C dx (rf tb ts)) ∧ H tb = some (.tup (bs.map V.int)) ∧ H ts = some (.tup (ss.map V.int))
theorem RuleAt.up {C : Addr} {H H' : Hp} {r : Addr} {bs ss : List Int} (e : Same H H') (h : RuleAt C H r bs ss) : RuleAt C H' r bs ss := by
  obtain ⟨dx, tb, ts, h1, h2, h3⟩ := h
  exact ⟨dx, tb, ts, e _ _ h1, e _ _ h2, e _ _ h3⟩
def Canon (ns l : List Int) : Prop := l.Pairwise (· < ·) ∧ ∀ k, k ∈ l ↔ k ∈ ns
theorem canon_eq {ns l m : List Int} (h : Canon ns l) (h2 : m.Pairwise (· < ·)) (h3 : ∀ k, k ∈ ns ↔ k ∈ m) : l = m := asc_eq h.1 h2 fun k => (h.2 k).trans (h3 k)
def sp_Rule_init (K : PySem.W.Frag) (C : Addr) : Sp := fun vs H Q _ => ∃ (H0 : Hp) (r lb ls dx : Addr) (nb ns : List Int), vs = [.ref r, .ref lb, .ref ls] ∧ Same H0 H ∧ H0 r = none ∧ H r = some (.ins C dx []) ∧
  SqL K H0 lb (nb.map V.int) ∧ SqL K H0 ls (ns.map V.int) ∧ nb.length ≤ 63 ∧ ns.length ≤ 63 ∧
  ∀ (H' : Hp) (bs ss : List Int), Same H0 H' → RuleAt C H' r bs ss → Canon nb bs → Canon ns ss → Q .non H'
theorem ok_Rule_init (T : Txt K mg) : FnOk P w K mg base CX0 1 T.f_Rule_init T.d_Rule_init ["self", "births", "survival"] (sp_Rule_init K T.C_Rule) := by
  refine T.F_Rule_init.ok sc_Rule_init (fun vs H Q E h => ?_) (fun cdv A outer s H vs Q E hr h => ?_)
  · obtain ⟨_, _, _, _, _, _, _, rfl, _⟩ := h
    rfl
  · obtain ⟨H0, r, lb, ls, dx, nb, ns, rfl, s0, r0, hr0, hb, hs, l1, l2, q⟩ := h
    refine ⟨_, (pss_cons (ps_fld (pv 0) (pe_callTy call_tupL (by rfl) T.z_tuple (by decide +kernel) (pa_cons (pe_callB (cr_sortedSet rfl) (by rfl) T.z_sorted (by decide +kernel) (pa_cons (pe_callTy (cr_setL rfl) (by rfl) T.z_set (by decide +kernel) (pa_cons (pv 1) pa_nil)) pa_nil)) pa_nil)) rfl)
      (pss_one (ps_fld (pv 0) (pe_callTy call_tupL (by rfl) T.z_tuple (by decide +kernel) (pa_cons (pe_callB (cr_sortedSet rfl) (by rfl) T.z_sorted (by decide +kernel) (pa_cons (pe_callTy (cr_setL rfl) (by rfl) T.z_set (by decide +kernel) (pa_cons (pv 2) pa_nil)) pa_nil)) pa_nil)) rfl))), ?_⟩
    refine ⟨_, rfl, lb, nb, rfl, s0.seq hb, Nat.lt_of_le_of_lt (Nat.add_le_add_right l1 1) (by decide), fun p1 c1 n1 hc1 => ?_⟩
    k_invariant "new" (n1, H1, e1, h1)
    refine ⟨_, _, _, rfl, h1, by omega, fun bs p2 pw1 mem1 len1 n2 => ?_⟩
    k_invariant "new" (n2, H2, e2, h2)
    refine ⟨_, _, rfl, lst_of h2, fun p3 n3 => ?_⟩
    k_invariant "new" (n3, H3, e3, h3)
    refine ⟨_, rfl, r, T.C_Rule, dx, [], rfl, by k_subL, T.cl_Rule, T.na_Rule_births, (by show 0 < 1000; decide), ?_⟩
    have s3 : Same H0 H3 := s0.trans (e1.trans (e2.trans e3))
    have r3 : p3 ≠ r := fun e => by
      have : H3 r = some (.ins T.C_Rule dx []) := by k_subL
      rw [e] at h3
      rw [h3] at this
      cases this
    have s4 : Same H0 (upd H3 r (.ins T.C_Rule dx (putF "births" (.ref p3) []))) := mutS s3 r0
    have g4 : upd H3 r (.ins T.C_Rule dx (putF "births" (.ref p3) [])) r = some (.ins T.C_Rule dx (putF "births" (.ref p3) [])) := upd_same
    have g3 : upd H3 r (.ins T.C_Rule dx (putF "births" (.ref p3) [])) p3 = some (.tup (bs.map V.int)) := by rw [upd_ne r3]; exact h3
    generalize upd H3 r (.ins T.C_Rule dx (putF "births" (.ref p3) [])) = H4 at s4 g4 g3
    refine ⟨_, rfl, ls, ns, rfl, s4.seq hs, Nat.lt_of_le_of_lt (Nat.add_le_add_right l2 1) (by decide), fun p5 c2 n5 hc2 => ?_⟩
    k_invariant "new" (n5, H5, e5, h5)
    refine ⟨_, _, _, rfl, h5, by omega, fun ss p6 pw2 mem2 len2 n6 => ?_⟩
    k_invariant "new" (n6, H6, e6, h6)
    refine ⟨_, _, rfl, lst_of h6, fun p7 n7 => ?_⟩
    k_invariant "new" (n7, H7, e7, h7)
    have g8 : H7 r = some (.ins T.C_Rule dx (putF "births" (.ref p3) [])) := by k_subL
    refine ⟨_, rfl, r, T.C_Rule, dx, _, rfl, g8, T.cl_Rule, T.na_Rule_survival, (by show 1 < 1000; decide), ?_⟩
    have r7 : p7 ≠ r := fun e => by
      have : H7 r = some (.ins T.C_Rule dx (putF "births" (.ref p3) [])) := by k_subL
      rw [e] at h7
      rw [h7] at this
      cases this
    have g7 : H7 p3 = some (.tup (bs.map V.int)) := by k_subL
    refine q _ bs ss (mutS (s4.trans (e5.trans (e6.trans e7))) r0) ⟨dx, p3, p7, upd_same, ?_, ?_⟩ ⟨pw1, fun k => (mem1 k).trans (by simp)⟩ ⟨pw2, fun k => (mem2 k).trans (by simp)⟩
    · rw [upd_ne r3]; exact g7
    · rw [upd_ne r7]; exact h7
/-! ### three rows of bits counted -/
def ones3 (l a r : Nat) : Nat := (l ^^^ r) ^^^ a
def twos3 (l a r : Nat) : Nat := (l &&& r) ||| ((l ^^^ r) &&& a)
def sp_sums_of : Sp := fun vs H Q _ => ∃ (l a r : Nat), vs = [.int (l : Int), .int (a : Int), .int (r : Int)] ∧
  ∀ (H' : Hp) (p : Addr), Same H H' → H p = none → H' p = some (.tup [.int (ones3 l a r : Nat), .int (twos3 l a r : Nat)]) → Q (.ref p) H'
theorem ok_sums_of (T : Txt K mg) : FnOk P w K mg base CX0 1 T.f_sums_of T.d_sums_of ["left", "alive", "right"] sp_sums_of := by
  refine T.F_sums_of.ok sc_sums_of (fun vs H Q E h => ?_) (fun cdv A outer s H vs Q E hr h => ?_)
  · obtain ⟨_, _, _, rfl, _⟩ := h
    rfl
  · obtain ⟨l, a, r, rfl, q⟩ := h
    refine ⟨_, (pss_cons (ps_set (i := 3) sc_sums_of.nd rfl (.inl rfl) (pe_op op_xorNN (pv 0) (pv 2)))
      (pss_one (ps_ret (pe_tup (pa_cons (pe_op op_xorNN (pv 3) (pv 1)) (pa_cons (pe_op op_orNN (pe_op op_andNN (pv 0) (pv 2)) (pe_op op_andNN (pv 3) (pv 1))) pa_nil)))))), ?_⟩
    exact ⟨_, rfl, _, rfl, _, _, rfl, rfl, _, rfl, _, rfl, _, _, rfl, rfl, _, rfl, _, rfl, _, _, rfl, rfl, _, rfl, _, rfl, _, _, rfl, rfl, _, _, rfl, rfl, (by k_clsL), fun p n => q _ p (newS n) n upd_same⟩
def one9 (ao ho bo : Nat) : Nat := (ao ^^^ bo) ^^^ ho
def car9 (ao ho bo : Nat) : Nat := (ao &&& bo) ||| ((ao ^^^ bo) &&& ho)
def two9 (ao at' ho ht bo bt : Nat) : Nat := (at' ^^^ bt) ^^^ (ht ^^^ car9 ao ho bo)
def four9 (ao at' ho ht bo bt : Nat) : Nat := ((at' &&& bt) ^^^ (ht &&& car9 ao ho bo)) ||| ((at' ^^^ bt) &&& (ht ^^^ car9 ao ho bo))
def eight9 (ao at' ho ht bo bt : Nat) : Nat := (at' &&& bt) &&& (ht &&& car9 ao ho bo)
def sp_totals_of : Sp := fun vs H Q _ => ∃ (pa ph pb : Addr) (ao at' ho ht bo bt : Nat), vs = [.ref pa, .ref ph, .ref pb] ∧
  H pa = some (.tup [.int (ao : Int), .int (at' : Int)]) ∧ H ph = some (.tup [.int (ho : Int), .int (ht : Int)]) ∧ H pb = some (.tup [.int (bo : Int), .int (bt : Int)]) ∧
  ∀ (H' : Hp) (p : Addr), Same H H' → H p = none → H' p = some (.tup [.int (one9 ao ho bo : Nat), .int (two9 ao at' ho ht bo bt : Nat), .int (four9 ao at' ho ht bo bt : Nat), .int (eight9 ao at' ho ht bo bt : Nat)]) → Q (.ref p) H'
theorem ok_totals_of (T : Txt K mg) : FnOk P w K mg base CX0 1 T.f_totals_of T.d_totals_of ["above", "here", "below"] sp_totals_of := by
  refine T.F_totals_of.ok sc_totals_of (fun vs H Q E h => ?_) (fun cdv A outer s H vs Q E hr h => ?_)
  · obtain ⟨_, _, _, _, _, _, _, _, _, rfl, _⟩ := h
    rfl
  · obtain ⟨pa, ph, pb, ao, at', ho, ht, bo, bt, rfl, ha, hh, hb, q⟩ := h
    refine ⟨_, (pss_cons (ps_asg (pv 0) (pg_tupK (K := K) (n := 2) rfl rfl (pgs_cons (pg_name (i := 3) sc_totals_of.nd rfl (.inl rfl)) (pgs_cons (pg_name (i := 4) sc_totals_of.nd rfl (.inl rfl)) pgs_nil))))
      (pss_cons (ps_asg (pv 1) (pg_tupK (K := K) (n := 2) rfl rfl (pgs_cons (pg_name (i := 5) sc_totals_of.nd rfl (.inl rfl)) (pgs_cons (pg_name (i := 6) sc_totals_of.nd rfl (.inl rfl)) pgs_nil))))
      (pss_cons (ps_asg (pv 2) (pg_tupK (K := K) (n := 2) rfl rfl (pgs_cons (pg_name (i := 7) sc_totals_of.nd rfl (.inl rfl)) (pgs_cons (pg_name (i := 8) sc_totals_of.nd rfl (.inl rfl)) pgs_nil))))
      (pss_cons (ps_set (i := 9) sc_totals_of.nd rfl (.inl rfl) (pe_op op_xorNN (pv 3) (pv 7)))
      (pss_cons (ps_set (i := 10) sc_totals_of.nd rfl (.inl rfl) (pe_op op_orNN (pe_op op_andNN (pv 3) (pv 7)) (pe_op op_andNN (pv 9) (pv 5))))
      (pss_cons (ps_set (i := 11) sc_totals_of.nd rfl (.inl rfl) (pe_op op_xorNN (pv 4) (pv 8)))
      (pss_cons (ps_set (i := 12) sc_totals_of.nd rfl (.inl rfl) (pe_op op_xorNN (pv 6) (pv 10)))
      (pss_cons (ps_set (i := 13) sc_totals_of.nd rfl (.inl rfl) (pe_op op_andNN (pv 4) (pv 8)))
      (pss_cons (ps_set (i := 14) sc_totals_of.nd rfl (.inl rfl) (pe_op op_andNN (pv 6) (pv 10)))
      (pss_cons (ps_set (i := 15) sc_totals_of.nd rfl (.inl rfl) (pe_op op_orNN (pe_op op_xorNN (pv 13) (pv 14)) (pe_op op_andNN (pv 11) (pv 12))))
      (pss_one (ps_ret (pe_tup (pa_cons (pe_op op_xorNN (pv 9) (pv 5)) (pa_cons (pe_op op_xorNN (pv 11) (pv 12)) (pa_cons (pv 15) (pa_cons (pe_op op_andNN (pv 13) (pv 14)) pa_nil))))))))))))))))), ?_⟩
    k_upd
    refine ⟨_, rfl, pa, _, rfl, tup_of ha, rfl, _, _, rfl, _, _, rfl, rfl, ?_⟩
    k_upd
    refine ⟨_, rfl, ph, _, rfl, tup_of hh, rfl, _, _, rfl, _, _, rfl, rfl, ?_⟩
    k_upd
    refine ⟨_, rfl, pb, _, rfl, tup_of hb, rfl, _, _, rfl, _, _, rfl, rfl, ?_⟩
    k_upd
    refine ⟨_, rfl, _, rfl, _, _, rfl, rfl, ?_⟩
    k_upd
    refine ⟨_, rfl, _, rfl, _, _, rfl, rfl, _, rfl, _, rfl, _, _, rfl, rfl, _, _, rfl, rfl, ?_⟩
    k_upd
    refine ⟨_, rfl, _, rfl, _, _, rfl, rfl, ?_⟩
    k_upd
    refine ⟨_, rfl, _, rfl, _, _, rfl, rfl, ?_⟩
    k_upd
    refine ⟨_, rfl, _, rfl, _, _, rfl, rfl, ?_⟩
    k_upd
    refine ⟨_, rfl, _, rfl, _, _, rfl, rfl, ?_⟩
    k_upd
    refine ⟨_, rfl, _, rfl, _, _, rfl, rfl, _, rfl, _, rfl, _, _, rfl, rfl, _, _, rfl, rfl, ?_⟩
    k_upd
    refine ⟨_, rfl, _, rfl, _, _, rfl, rfl, _, rfl, _, rfl, _, _, rfl, rfl, _, rfl, _, rfl, _, rfl, _, _, rfl, rfl, (by k_clsL), fun p n => q _ p (newS n) n upd_same⟩
/-! ### the next strip -/
def near9 (o t f e : Nat) : Nat := ((o ||| t) ||| f) ||| e
def low4 (o t f e : Nat) : Nat → Nat
  | 0 => (near9 o t f e ^^^ o) &&& (near9 o t f e ^^^ t)
  | 1 => o &&& (near9 o t f e ^^^ t)
  | 2 => (near9 o t f e ^^^ o) &&& t
  | _ => o &&& t
def high3 (o t f e : Nat) : Nat → Nat
  | 0 => near9 o t f e ^^^ (f ||| e)
  | 1 => f
  | _ => e
def pick (o t f e n : Nat) : Nat := low4 o t f e (n % 4) &&& high3 o t f e (n / 4)
def picks (o t f e : Nat) (ns : List Nat) : Nat := ns.foldl (fun acc n => acc ||| pick o t f e n) 0
def nextN (alive o t f e : Nat) (bs ss : List Int) : Nat :=
  (picks o t f e (bs.map Int.toNat) &&& (near9 o t f e ^^^ alive)) ||| (picks o t f e (ss.map fun n => n.toNat + 1) &&& alive)
theorem at_low (o t f e : Nat) {k : Nat} (h : k < 4) : atI [V.int (((near9 o t f e ^^^ o) &&& (near9 o t f e ^^^ t) : Nat) : Int), .int ((o &&& (near9 o t f e ^^^ t) : Nat) : Int), .int (((near9 o t f e ^^^ o) &&& t : Nat) : Int), .int ((o &&& t : Nat) : Int)] (k : Int) = some (.int (low4 o t f e k : Nat)) := by
  match k, h with
  | 0, _ => rfl
  | 1, _ => rfl
  | 2, _ => rfl
  | 3, _ => rfl
theorem at_high (o t f e : Nat) {k : Nat} (h : k < 3) : atI [V.int ((near9 o t f e ^^^ (f ||| e) : Nat) : Int), .int (f : Int), .int (e : Int)] (k : Int) = some (.int (high3 o t f e k : Nat)) := by
  match k, h with
  | 0, _ => rfl
  | 1, _ => rfl
  | 2, _ => rfl
theorem and3 (m : Nat) : m &&& 3 = m % 4 := Nat.and_two_pow_sub_one_eq_mod m 2
theorem shr2 (m : Nat) : m >>> 2 = m / 4 := by rw [Nat.shiftRight_eq_div_pow]
def sp_next_strip (C : Addr) : Sp := fun vs H Q _ => ∃ (pt r : Addr) (alive o t f e : Nat) (bs ss : List Int), vs = [.int (alive : Int), .ref pt, .ref r] ∧
  H pt = some (.tup [.int (o : Int), .int (t : Int), .int (f : Int), .int (e : Int)]) ∧ RuleAt C H r bs ss ∧ (∀ b ∈ bs, 0 ≤ b ∧ b ≤ 8) ∧ (∀ b ∈ ss, 0 ≤ b ∧ b ≤ 8) ∧
  ∀ (H' : Hp), Same H H' → Q (.int (nextN alive o t f e bs ss : Nat)) H'
theorem ok_next_strip (T : Txt K mg) : FnOk P w K mg base CX0 1 T.f_next_strip T.d_next_strip ["alive", "totals", "rule"] (sp_next_strip T.C_Rule) := by
  refine T.F_next_strip.ok sc_next_strip (fun vs H Q E h => ?_) (fun cdv A outer s H vs Q E hr h => ?_)
  · obtain ⟨_, _, _, _, _, _, _, _, _, rfl, _⟩ := h
    rfl
  · obtain ⟨pt, r, alive, o, t, f, e, bs, ss, rfl, hp, hR, bb, bss, q⟩ := h
    refine ⟨_, (pss_cons (ps_asg (pv 1) (pg_tupK (K := K) (n := 4) rfl rfl (pgs_cons (pg_name (i := 3) sc_next_strip.nd rfl (.inl rfl)) (pgs_cons (pg_name (i := 4) sc_next_strip.nd rfl (.inl rfl)) (pgs_cons (pg_name (i := 5) sc_next_strip.nd rfl (.inl rfl)) (pgs_cons (pg_name (i := 6) sc_next_strip.nd rfl (.inl rfl)) pgs_nil))))))
      (pss_cons (ps_set (i := 7) sc_next_strip.nd rfl (.inl rfl) (pe_op op_orNN (pe_op op_orNN (pe_op op_orNN (pv 3) (pv 4)) (pv 5)) (pv 6)))
      (pss_cons (ps_set (i := 8) sc_next_strip.nd rfl (.inl rfl) (pe_op op_xorNN (pv 7) (pv 3)))
      (pss_cons (ps_set (i := 9) sc_next_strip.nd rfl (.inl rfl) (pe_op op_xorNN (pv 7) (pv 4)))
      (pss_cons (ps_set (i := 10) sc_next_strip.nd rfl (.inl rfl) (pe_tup (pa_cons (pe_op op_andNN (pv 8) (pv 9)) (pa_cons (pe_op op_andNN (pv 3) (pv 9)) (pa_cons (pe_op op_andNN (pv 8) (pv 4)) (pa_cons (pe_op op_andNN (pv 3) (pv 4)) pa_nil))))))
      (pss_cons (ps_set (i := 11) sc_next_strip.nd rfl (.inl rfl) (pe_tup (pa_cons (pe_op op_xorNN (pv 7) (pe_op op_orNN (pv 5) (pv 6))) (pa_cons (pv 5) (pa_cons (pv 6) pa_nil)))))
      (pss_cons (ps_set (i := 12) sc_next_strip.nd rfl (.inl rfl) pe_int)
      (pss_cons (ps_for PassesOwn.never rfl (pi_tup (pe_fld (pv 2) rfl)) (pg_name (i := 13) sc_next_strip.nd rfl (.inl rfl))
      (pss_one (ps_aug (i := 12) sc_next_strip.nd rfl (.inl rfl) (pe_op op_andNN (pe_ix (ix_tupK (K := K) rfl) (pv 10) (pe_op op_andNN (pv 13) pe_int) (fun _ _ => rfl)) (pe_ix (ix_tupK (K := K) rfl) (pv 11) (pe_op op_shrNN (pv 13) pe_int) (fun _ _ => rfl))) ip_orNN)))
      (pss_cons (ps_set (i := 14) sc_next_strip.nd rfl (.inl rfl) pe_int)
      (pss_cons (ps_for PassesOwn.never rfl (pi_tup (pe_fld (pv 2) rfl)) (pg_name (i := 13) sc_next_strip.nd rfl (.inl rfl))
      (pss_cons (ps_set (i := 15) sc_next_strip.nd rfl (.inl rfl) (pe_op op_add (pv 13) pe_int))
      (pss_one (ps_aug (i := 14) sc_next_strip.nd rfl (.inl rfl) (pe_op op_andNN (pe_ix (ix_tupK (K := K) rfl) (pv 10) (pe_op op_andNN (pv 15) pe_int) (fun _ _ => rfl)) (pe_ix (ix_tupK (K := K) rfl) (pv 11) (pe_op op_shrNN (pv 15) pe_int) (fun _ _ => rfl))) ip_orNN))))
      (pss_one (ps_ret (pe_op op_orNN (pe_op op_andNN (pv 12) (pe_op op_xorNN (pv 7) (pv 0))) (pe_op op_andNN (pv 14) (pv 0))))))))))))))), ?_⟩
    k_upd
    refine ⟨_, rfl, pt, _, rfl, tup_of hp, rfl, _, _, rfl, _, _, rfl, _, _, rfl, _, _, rfl, rfl, ?_⟩
    k_upd
    refine ⟨_, rfl, _, rfl, _, _, rfl, rfl, _, rfl, _, _, rfl, rfl, _, rfl, _, _, rfl, rfl, ?_⟩
    k_upd
    refine ⟨_, rfl, _, rfl, _, _, rfl, rfl, ?_⟩
    k_upd
    refine ⟨_, rfl, _, rfl, _, _, rfl, rfl, ?_⟩
    k_upd
    refine ⟨_, rfl, _, rfl, _, _, rfl, rfl, _, rfl, _, rfl, _, _, rfl, rfl, _, rfl, _, rfl, _, _, rfl, rfl, _, rfl, _, rfl, _, _, rfl, rfl, (by k_clsL), fun pl nl => ?_⟩
    k_upd
    k_invariant "new" (nl, H1, e1, h1)
    refine ⟨_, rfl, _, rfl, _, rfl, _, _, rfl, rfl, _, _, rfl, rfl, _, rfl, _, rfl, (by k_clsL), fun ph nh => ?_⟩
    k_upd
    k_invariant "new" (nh, H2, e2, h2)
    have h1 := e2 _ _ h1
    obtain ⟨dx, tb, ts, r1, r2, r3⟩ := hR.up (e1.trans e2)
    refine ⟨_, rfl, r, _, _, _, _, rfl, r1, T.cl_Rule, T.na_Rule_births, rf_b _ _, tb, rfl, ⟨_, tup_of r2⟩, ?_⟩
    refine for_it (walk_tup (K := K) (a := tb) (xs := bs.map V.int)) (fun i σ H' => H' = H2 ∧ ∃ n : Option V, σ = [some (.int (alive : Int)), some (.ref pt), some (.ref r), some (.int (o : Int)), some (.int (t : Int)), some (.int (f : Int)), some (.int (e : Int)), some (.int (near9 o t f e : Nat)), some (.int ((near9 o t f e ^^^ o : Nat))), some (.int ((near9 o t f e ^^^ t : Nat))), some (.ref pl), some (.ref ph), some (.int (picks o t f e ((bs.take i).map Int.toNat) : Nat)), n, none, none])
      ⟨rfl, _, rfl⟩ (fun i σ H' _ p => by rw [p.1]; exact tup_of r2) ?_ ?_
    · rintro i x σ H' H'' hi ⟨rfl, n, rfl⟩ ⟨rfl, hx⟩
      obtain ⟨z, rfl, hz, mz⟩ := item_ints hx
      have bz := bb z mz
      obtain ⟨m, rfl⟩ := Int.eq_ofNat_of_zero_le bz.1
      have m4 : m % 4 < 4 := Nat.mod_lt _ (by decide)
      have m3 : m / 4 < 3 := by omega
      refine ⟨_, rfl, _, rfl, _, rfl, m, 3, rfl, rfl, pl, _, _, _, rfl, rfl, tup_of h1, (by rw [and3]; exact at_low o t f e m4), ?_⟩
      refine ⟨_, rfl, _, rfl, m, 2, rfl, rfl, ph, _, _, _, rfl, rfl, tup_of h2, (by rw [shr2]; exact at_high o t f e m3), _, _, rfl, rfl, ?_⟩
      refine ⟨_, _, rfl, rfl, ?_⟩
      k_upd
      refine ⟨trivial, some (.int (m : Int)), ?_⟩
      rw [take_next hz, List.map_append]
      unfold picks
      rw [List.foldl_append]
      rfl
    · rintro σ H' ⟨rfl, n, rfl⟩
      rw [List.length_map, List.take_of_length_le (Nat.le_refl _)]
      refine ⟨_, rfl, r, _, _, _, _, rfl, r1, T.cl_Rule, T.na_Rule_survival, rf_s _ _, ts, rfl, ⟨_, tup_of r3⟩, ?_⟩
      refine for_it (walk_tup (K := K) (a := ts) (xs := ss.map V.int)) (fun i σ H'' => H'' = H' ∧ ∃ n n2 : Option V, σ = [some (.int (alive : Int)), some (.ref pt), some (.ref r), some (.int (o : Int)), some (.int (t : Int)), some (.int (f : Int)), some (.int (e : Int)), some (.int (near9 o t f e : Nat)), some (.int ((near9 o t f e ^^^ o : Nat))), some (.int ((near9 o t f e ^^^ t : Nat))), some (.ref pl), some (.ref ph), some (.int (picks o t f e (bs.map Int.toNat) : Nat)), n, some (.int (picks o t f e ((ss.take i).map fun n => n.toNat + 1) : Nat)), n2])
        ⟨rfl, _, _, rfl⟩ (fun i σ H'' _ p => by rw [p.1]; exact tup_of r3) ?_ ?_
      · rintro i x σ H3 H4 hi ⟨rfl, n, n2, rfl⟩ ⟨rfl, hx⟩
        obtain ⟨z, rfl, hz, mz⟩ := item_ints hx
        have bz := bss z mz
        obtain ⟨m, rfl⟩ := Int.eq_ofNat_of_zero_le bz.1
        have m4 : (m + 1) % 4 < 4 := Nat.mod_lt _ (by decide)
        have m3 : (m + 1) / 4 < 3 := by omega
        refine ⟨_, rfl, _, _, rfl, rfl, ?_⟩
        refine ⟨_, rfl, _, rfl, _, rfl, m + 1, 3, rfl, rfl, pl, _, _, _, rfl, rfl, tup_of h1, (by rw [and3]; exact at_low o t f e m4), ?_⟩
        refine ⟨_, rfl, _, rfl, m + 1, 2, rfl, rfl, ph, _, _, _, rfl, rfl, tup_of h2, (by rw [shr2]; exact at_high o t f e m3), _, _, rfl, rfl, ?_⟩
        refine ⟨_, _, rfl, rfl, ?_⟩
        k_upd
        refine ⟨trivial, some (.int (m : Int)), some (.int ((m : Int) + 1)), ?_⟩
        rw [take_next hz, List.map_append]
        unfold picks
        rw [List.foldl_append]
        rfl
      · rintro σ H3 ⟨rfl, n, n2, rfl⟩
        rw [List.length_map, List.take_of_length_le (Nat.le_refl _)]
        exact ⟨_, rfl, _, rfl, _, rfl, _, _, rfl, rfl, _, _, rfl, rfl, _, rfl, _, rfl, _, _, rfl, rfl, _, _, rfl, rfl, q _ (e1.trans e2)⟩
end
end My
namespace My
open PySem PySem.Spec PyProof.Rows L2 Vx
open TL
local macro_rules | `(tactic| k_invariant "new" ($n, $H:ident, $e:ident, $h:ident)) => `(tactic| (generalize hE : upd _ _ _ = $H; obtain ⟨$e:ident, $h:ident⟩ := gen_e hE $n; clear hE))
local macro_rules | `(tactic| k_places) => `(tactic| first
  | assumption
  | exact lst_of (by assumption)
  | exact tup_of (by assumption)
  | (refine getS (by assumption) ?_; k_places)
  | (refine Same.seq (by assumption) ?_; k_places)
  | (refine tupS (by assumption) ?_; k_places)
  | (refine lst_of ?_; k_places)
  | (refine tup_of ?_; k_places))
local macro_rules | `(tactic| k_subL) => `(tactic| first
  | k_places
  | solve_by_elim (maxDepth := 10) [getS, lst_of, tup_of, Same.seq, tupS])
local macro_rules | `(tactic| k_offL) => `(tactic| first
  | (show (0 : Int) < _; first | omega | decide)
  | (refine ⟨?_, ?_⟩ <;> first | omega | decide)
  | exact .inr ⟨by decide, by decide⟩
  | exact .inl ⟨by decide, by decide⟩
  | exact .inl ⟨by omega, by omega⟩
  | omega)
local macro_rules | `(tactic| k_clsL) => `(tactic| exact Nat.le_of_ble_eq_true rfl)
local macro_rules | `(tactic| k_upd) => `(tactic| simp only [L2.start, List.map_cons, List.map_nil, List.length_cons, List.length_nil, List.replicate_succ, List.replicate_zero, List.cons_append, List.nil_append, List.set_cons_zero, List.set_cons_succ])
section
variable {P : Program} {w : World} {K : PySem.W.Frag} {mg : Str → Option Value} {base : Heap}
/-! ### floors: all in strip 0 of each row -/
def Floor (H : Hp) (d : Addr) (ps : List Pr) (S : Int → Nat) : Prop :=
  Dct H d ps (fun x => .int ((S x.1 : Nat) : Int)) ∧ (∀ x ∈ ps, x.2 = 0) ∧ ∀ r, (r, 0) ∉ ps → S r = 0
theorem Floor.up {H H' : Hp} {d : Addr} {ps : List Pr} {S : Int → Nat} (e : Same H H') (h : Floor H d ps S) : Floor H' d ps S := ⟨h.1.up e, h.2⟩
theorem Floor.get {H : Hp} {d b : Addr} {ps : List Pr} {S : Int → Nat} {r : Int} (h : Floor H d ps S) (e : H b = some (.tup [.int r, .int 0])) : DGet H d (.ref b) (if (r, 0) ∈ ps then some (.int ((S r : Nat) : Int)) else none) := h.1.dget (x := (r, 0)) e
theorem Floor.getD {ps : List Pr} {S : Int → Nat} {r : Int} (h : ∀ r, (r, 0) ∉ ps → S r = 0) : (if (r, 0) ∈ ps then some (V.int ((S r : Nat) : Int)) else none).getD (.int 0) = .int ((S r : Nat) : Int) := by
  by_cases m : (r, (0 : Int)) ∈ ps
  · rw [if_pos m]
    rfl
  · rw [if_neg m, h r m]
    rfl
/-- another strip than 0 -/
theorem Floor.off {H : Hp} {d b : Addr} {ps : List Pr} {S : Int → Nat} {r a : Int} (h : Floor H d ps S) (e : H b = some (.tup [.int r, .int a])) (na : a ≠ 0) : DGet H d (.ref b) none := by
  have z := h.1.dget (x := (r, a)) e
  rwa [if_neg fun m => na (h.2.1 _ m)] at z
theorem Floor.put {H H' : Hp} {d : Addr} {qs : List Pr} {S : Int → Nat} {row : Int} {v : Nat} (hF : Floor H d qs S) (pa : PutAt H d qs (fun x => V.int ((S x.1 : Nat) : Int)) (row, 0) (.int (v : Int)) H') :
    Floor H' d (addK qs (row, 0)) (fun r => if r = row then v else S r) := by
  refine ⟨pa.1.congr fun x m => ?_, fun x m => ?_, fun r nm => ?_⟩
  · have x0 : x.2 = 0 := (mem_addK.mp m).elim (hF.2.1 x) fun e => by rw [e]
    unfold setG
    by_cases e : x = (row, 0)
    · rw [if_pos e, e]
      dsimp only
      rw [if_pos rfl]
    · have e1 : ¬ x.1 = row := fun z => e (Prod.ext z x0)
      rw [if_neg e]
      dsimp only
      rw [if_neg e1]
  · exact (mem_addK.mp m).elim (hF.2.1 x) fun e => by rw [e]
  · have n1 : (r, (0 : Int)) ∉ qs := fun z => nm (mem_addK.mpr (.inl z))
    have n2 : ¬ r = row := fun z => nm (mem_addK.mpr (.inr (by rw [z])))
    dsimp only
    rw [if_neg n2]
    exact hF.2.2 r n1
def sp_floor_of : Sp := fun vs H Q _ => ∃ (l : Addr) (first : Int) (ps : List Pr), vs = [.ref l, .int first] ∧ Cells H l ps ∧ ps.length < 10000 ∧ (∀ x ∈ ps, 0 ≤ x.2 - first ∧ x.2 - first < 2048) ∧
  ∀ (H' : Hp) (d : Addr) (qs : List Pr) (S : Int → Nat), H d = none → Same H H' → Floor H' d qs S → (∀ r j, (S r).testBit j = true ↔ ∃ x ∈ ps, x.1 = r ∧ x.2 - first = (j : Int)) → (∀ x ∈ qs, ∃ y ∈ ps, y.1 = x.1) → Q (.ref d) H'
theorem ok_floor_of (T : Txt K mg) : FnOk P w K mg base CX0 1 T.f_floor_of T.d_floor_of ["cells", "first"] sp_floor_of := by
  refine T.F_floor_of.ok sc_floor_of (fun vs H Q E h => ?_) (fun cdv A outer s H vs Q E hr h => ?_)
  · obtain ⟨_, _, _, rfl, _⟩ := h
    rfl
  · obtain ⟨l, first, ps, rfl, hC, few, inS, q⟩ := h
    have hu : (A.deeper (envOfC (Str.ofString "floor_of") (defScope s_floor_of) s.heap.objs.size T.f_floor_of cdv)).units + 1 < cLine := by
      have := hr.units
      omega
    refine ⟨_, (pss_cons (ps_set (i := 2) sc_floor_of.nd rfl (.inl rfl) pe_dnewT)
      (pss_cons (ps_for PassesOwn.never rfl (pi_list (pv 0)) (pg_tupK (K := K) (n := 2) rfl rfl (pgs_cons (pg_name (i := 3) sc_floor_of.nd rfl (.inl rfl)) (pgs_cons (pg_name (i := 4) sc_floor_of.nd rfl (.inl rfl)) pgs_nil)))
      (pss_cons (ps_asg (pe_callB call_divmod (by rfl) T.z_divmod (by decide +kernel) (pa_cons (pe_op op_sub (pv 4) (pv 1)) (pa_cons (pe_gcx (by rfl) T.c_WIDTH) pa_nil))) (pg_tupK (K := K) (n := 2) rfl rfl (pgs_cons (pg_name (i := 5) sc_floor_of.nd rfl (.inl rfl)) (pgs_cons (pg_name (i := 6) sc_floor_of.nd rfl (.inl rfl)) pgs_nil))))
      (pss_one (ps_dput hu (pv 2) (pe_tup (pa_cons (pv 3) (pa_cons (pv 5) pa_nil))) (pe_op op_orNN (pe_dget2 hu (pv 2) (pe_tup (pa_cons (pv 3) (pa_cons (pv 5) pa_nil))) pe_int ⟨rfl, rfl, rfl, rfl⟩) (pe_op op_shlNN pe_int (pv 6))) rfl))))
      (pss_one (ps_ret (pv 2))))), ?_⟩
    k_upd
    obtain ⟨ts, hl, ht, ets⟩ := id hC
    refine fun d nd => ?_
    k_invariant "new" (nd, H1, e1, g1)
    k_upd
    have lts : ts.length = ps.length := by rw [← ets, List.length_map]
    refine ⟨_, rfl, l, rfl, ⟨_, lst_of (e1 _ _ hl)⟩, ?_⟩
    refine for_list (K := K) (a := l) (xs := ts.map fun t => V.ref t.1) (fun i σ H' => Same H H' ∧ (∃ x3 x4 x5 x6 : Option V, σ = [some (.ref l), some (.int first), some (.ref d), x3, x4, x5, x6]) ∧
      ∃ (qs : List Pr) (S : Int → Nat), Floor H' d qs S ∧ (∀ r j, (S r).testBit j = true ↔ ∃ x ∈ ps.take i, x.1 = r ∧ x.2 - first = (j : Int)) ∧ (∀ x ∈ qs, ∃ y ∈ ps, y.1 = x.1) ∧ qs.length ≤ i)
      ⟨e1, ⟨_, _, _, _, rfl⟩, [], fun _ => 0, ⟨Dct.new _ g1, fun _ m => (by cases m), fun _ _ => rfl⟩, fun r j => by simp, fun _ m => (by cases m), Nat.le_refl _⟩ (fun i σ H' _ p => lst_of (p.1 _ _ hl)) ?_ ?_
    · rintro i x σ H' hi ⟨sm, ⟨x3, x4, x5, x6, rfl⟩, qs, S, hF, hS, hq, lq⟩
      obtain ⟨t, mt, rfl, hx⟩ := item_cells (H := H') hi rfl
      rw [ets] at hx
      have li : i < ps.length := (List.getElem?_eq_some_iff.mp hx).1
      have bt := inS _ (List.mem_of_getElem? hx)
      have ht' := sm _ _ (ht t mt)
      obtain ⟨⟨ta, row, col⟩, ht''⟩ : ∃ t' : Addr × Pr, t' = t := ⟨t, rfl⟩
      subst ht''
      dsimp only at bt ht' hx
      have d0 : (col - first) / 2048 = 0 := by omega
      obtain ⟨k, ek⟩ := Int.eq_ofNat_of_zero_le bt.1
      have d1 : (col - first) % 2048 = (k : Int) := by omega
      have kl : k < 2048 := by omega
      refine ⟨ta, _, rfl, tup_of ht', rfl, _, _, rfl, _, _, rfl, rfl, ?_⟩
      k_upd
      refine ⟨_, rfl, _, rfl, _, _, rfl, rfl, _, _, rfl, ⟨by decide, by decide⟩, fun p1 n1 => ?_⟩
      rw [d0, d1]
      k_invariant "new" (n1, H2, e2, g2)
      refine ⟨p1, _, rfl, tup_of g2, rfl, _, _, rfl, _, _, rfl, rfl, ?_⟩
      k_upd
      refine ⟨_, rfl, d, rfl, (hF.up e2).1.isD, _, rfl, _, rfl, (by k_clsL), fun p3 n3 => ?_⟩
      k_invariant "new" (n3, H3, e3, g3)
      refine ⟨_, (hF.up (e2.trans e3)).get g3, ?_⟩
      rw [Floor.getD hF.2.2]
      refine ⟨_, rfl, 1, k, 1, rfl, rfl, by decide, by omega, _, _, rfl, rfl, _, rfl, _, rfl, _, rfl, (by k_clsL), fun p4 n4 => ?_⟩
      k_invariant "new" (n4, H4, e4, g4)
      have hF4 := hF.up (e2.trans (e3.trans e4))
      obtain ⟨H5, dp, pa⟩ := hF4.1.dput (x := (row, 0)) (by rw [sizeLine_eq]; omega) g4 (.int ((S row ||| 1 <<< k : Nat) : Int))
      refine ⟨d, H5, rfl, dp, pa.mut (sm.trans (e2.trans (e3.trans e4))) nd, ⟨_, _, _, _, rfl⟩, addK qs (row, 0), fun r => if r = row then S row ||| 1 <<< k else S r, hF4.put pa, fun r j => ?_, fun x m => ?_, Nat.le_trans addK_len (Nat.add_le_add_right lq 1)⟩
      · rw [take_next hx]
        show (if r = row then S row ||| 1 <<< k else S r).testBit j = true ↔ _
        constructor
        · intro h
          by_cases e : r = row
          · rw [if_pos e, Nat.testBit_or, Nat.one_shiftLeft, Nat.testBit_two_pow, Bool.or_eq_true] at h
            rcases h with h | h
            · obtain ⟨x, m, a, b⟩ := (hS _ _).mp h
              exact ⟨x, List.mem_append.mpr (.inl m), by rw [e]; exact a, b⟩
            · have h := of_decide_eq_true h
              exact ⟨(row, col), List.mem_append.mpr (.inr (List.mem_singleton.mpr rfl)), e.symm, by rw [← h]; exact ek⟩
          · rw [if_neg e] at h
            obtain ⟨x, m, a, b⟩ := (hS _ _).mp h
            exact ⟨x, List.mem_append.mpr (.inl m), a, b⟩
        · rintro ⟨x, m, a, b⟩
          rcases List.mem_append.mp m with m | m
          · have h := (hS r j).mpr ⟨x, m, a, b⟩
            by_cases e : r = row
            · rw [if_pos e, Nat.testBit_or, ← e, h, Bool.true_or]
            · rw [if_neg e]
              exact h
          · rw [List.mem_singleton.mp m] at a b
            have a : row = r := a
            have b : col - first = (j : Int) := b
            have jk : k = j := by omega
            rw [if_pos a.symm, Nat.testBit_or, Nat.one_shiftLeft, Nat.testBit_two_pow, decide_eq_true jk, Bool.or_true]
      · rcases mem_addK.mp m with m | e
        · exact hq x m
        · exact ⟨(row, col), List.mem_of_getElem? hx, by rw [e]⟩
    · rintro σ H' ⟨sm, ⟨x3, x4, x5, x6, rfl⟩, qs, S, hF, hS, hq, lq⟩
      refine ⟨_, rfl, q H' d qs S nd sm hF (fun r j => ?_) hq⟩
      rw [hS, List.length_map, List.take_of_length_le (by omega)]
end
end My
namespace My
open PySem PySem.Spec PyProof.Rows L2 Vx
open TL
local macro_rules | `(tactic| k_invariant "new" ($n, $H:ident, $e:ident, $h:ident)) => `(tactic| (generalize hE : upd _ _ _ = $H; obtain ⟨$e:ident, $h:ident⟩ := gen_e hE $n; clear hE))
local macro_rules | `(tactic| k_places) => `(tactic| first
  | assumption
  | exact lst_of (by assumption)
  | exact tup_of (by assumption)
  | (refine getS (by assumption) ?_; k_places)
  | (refine Same.seq (by assumption) ?_; k_places)
  | (refine tupS (by assumption) ?_; k_places)
  | (refine lst_of ?_; k_places)
  | (refine tup_of ?_; k_places))
local macro_rules | `(tactic| k_subL) => `(tactic| first
  | k_places
  | solve_by_elim (maxDepth := 10) [getS, lst_of, tup_of, Same.seq, tupS])
local macro_rules | `(tactic| k_offL) => `(tactic| first
  | (show (0 : Int) < _; first | omega | decide)
  | (refine ⟨?_, ?_⟩ <;> first | omega | decide)
  | exact .inr ⟨by decide, by decide⟩
  | exact .inl ⟨by decide, by decide⟩
  | exact .inl ⟨by omega, by omega⟩
  | omega)
local macro_rules | `(tactic| k_clsL) => `(tactic| exact Nat.le_of_ble_eq_true rfl)
local macro_rules | `(tactic| k_upd) => `(tactic| simp only [L2.start, List.map_cons, List.map_nil, List.length_cons, List.length_nil, List.replicate_succ, List.replicate_zero, List.cons_append, List.nil_append, List.set_cons_zero, List.set_cons_succ])
section
variable {P : Program} {w : World} {K : PySem.W.Frag} {mg : Str → Option Value} {base : Heap}
theorem keys_true {H H' : Hp} {d : Addr} {ps : List Pr} {i : Nat} {x : Pr} (nd : ps.Nodup) (h : ps[i]? = some x) (pa : PutAt H d (ps.take i) (fun _ => V.bl true) x (.bl true) H') : Dct H' d (ps.take (i + 1)) (fun _ => V.bl true) := by
  rw [← addK_take nd h]
  refine pa.1.congr fun y _ => ?_
  unfold setG
  by_cases e : y = x
  · rw [if_pos e]
  · rw [if_neg e]
theorem tru0 {K : PySem.W.Frag} {H : Hp} {n : Nat} (h : n = 0) : TruV K (.int ((n : Nat) : Int)) H false := by
  subst h
  rfl
theorem tru1 {K : PySem.W.Frag} {H : Hp} {n : Nat} (h : n ≠ 0) : TruV K (.int ((n : Nat) : Int)) H true := by
  show true = (((n : Nat) : Int) != 0)
  have : ((n : Nat) : Int) ≠ 0 := by omega
  exact (bne_iff_ne.mpr this).symm
def sp_with_strips_beside : Sp := fun vs H Q _ => ∃ (d : Addr) (ps : List Pr) (S : Int → Nat), vs = [.ref d] ∧ Floor H d ps S ∧ ps.length < 10000 ∧ (∀ r, S r &&& 1 = 0) ∧ (∀ r, S r >>> 2047 = 0) ∧
  ∀ (H' : Hp) (p : Addr), H p = none → Same H H' → Cells H' p ps → Q (.ref p) H'
theorem ok_with_strips_beside (T : Txt K mg) : FnOk P w K mg base CX0 1 T.f_with_strips_beside T.d_with_strips_beside ["floor"] sp_with_strips_beside := by
  refine T.F_with_strips_beside.ok sc_with_strips_beside (fun vs H Q E h => ?_) (fun cdv A outer s H vs Q E hr h => ?_)
  · obtain ⟨_, _, _, rfl, _⟩ := h
    rfl
  · obtain ⟨d, ps, S, rfl, hF, few, b0, b1, q⟩ := h
    have hu : (A.deeper (envOfC (Str.ofString "_with_strips_beside") (defScope s_with_strips_beside) s.heap.objs.size T.f_with_strips_beside cdv)).units + 1 < cLine := by
      have := hr.units
      omega
    refine ⟨_, (pss_cons (ps_set (i := 1) sc_with_strips_beside.nd rfl (.inl rfl) (pe_op op_sub (pe_gcx (by rfl) T.c_WIDTH) pe_int))
      (pss_cons (ps_set (i := 2) sc_with_strips_beside.nd rfl (.inl rfl) pe_dnewT)
      (pss_cons (ps_lock (ps_for PassesOwn.never rfl (pi_itemsT (pv 0)) (pg_tupK (K := K) (n := 2) rfl rfl (pgs_cons (pg_tupK (K := K) (n := 2) rfl rfl (pgs_cons (pg_name (i := 3) sc_with_strips_beside.nd rfl (.inl rfl)) (pgs_cons (pg_name (i := 4) sc_with_strips_beside.nd rfl (.inl rfl)) pgs_nil))) (pgs_cons (pg_name (i := 5) sc_with_strips_beside.nd rfl (.inl rfl)) pgs_nil)))
      (pss_cons (ps_dput hu (pv 2) (pe_tup (pa_cons (pv 3) (pa_cons (pv 4) pa_nil))) pe_bl rfl)
      (pss_cons (ps_if (pt_truth (pe_op op_andNN (pv 5) pe_int) (by intro _; rfl))
      (pss_one (ps_dput hu (pv 2) (pe_tup (pa_cons (pv 3) (pa_cons (pe_op op_sub (pv 4) pe_int) pa_nil))) pe_bl rfl))
      pss_nil)
      (pss_one (ps_if (pt_truth (pe_op op_shrNN (pv 5) (pv 1)) (by intro _; rfl))
      (pss_one (ps_dput hu (pv 2) (pe_tup (pa_cons (pv 3) (pa_cons (pe_op op_add (pv 4) pe_int) pa_nil))) pe_bl rfl))
      pss_nil))))))
      (pss_one (ps_ret (pe_callTy (cr_listP rfl) (by rfl) T.z_list (by decide +kernel) (pa_cons (pv 2) pa_nil))))))), ?_⟩
    k_upd
    obtain ⟨kvs, hd, hm⟩ := id hF.1
    refine ⟨_, _, rfl, rfl, fun kd nk => ?_⟩
    k_invariant "new" (nk, H1, e1, g1)
    k_upd
    have nekd : kd ≠ d := fun e => by rw [e, hd] at nk; cases nk
    refine ⟨d, _, e1 _ _ hd, trivial, fun od => ⟨_, rfl, d, od, kvs, rfl, upd_same, ?_⟩⟩
    obtain ⟨Hf, hHf⟩ : ∃ Hf, Hf = upd H d (.frz od (.dT kvs)) := ⟨_, rfl⟩
    have gf : Hf d = some (.frz od (.dT kvs)) := by rw [hHf, upd_same]
    have nf : Hf kd = none := by rw [hHf, upd_ne nekd]; exact nk
    refine for_it walk_itemsT (fun i σ H' => Same Hf H' ∧ (∃ x3 x4 x5 : Option V, σ = [some (.ref d), some (.int 2047), some (.ref kd), x3, x4, x5]) ∧ Dct H' kd (ps.take i) (fun _ => .bl true))
      ⟨by rw [hHf]; exact updS e1, ⟨_, _, _, rfl⟩, (Dct.new _ g1).off nekd⟩ (fun i σ H' _ p => p.1 _ _ gf) ?_ ?_
    · rintro i x σ H2 H3 hi ⟨sm, ⟨x3, x4, x5, rfl⟩, hK⟩ ⟨tt, k, v, q0, e, rfl, hq0, nt, rfl⟩
      obtain ⟨z, hz, rfl, rfl⟩ := hm.at e
      have li : i < ps.length := (List.getElem?_eq_some_iff.mp hz).1
      obtain ⟨row, c0⟩ := z
      have z0 : c0 = 0 := hF.2.1 _ (List.mem_of_getElem? hz)
      subst z0
      k_invariant "new" (nt, H3, e3, g3)
      have hq3 : H3 q0 = some (.tup [.int row, .int 0]) := e3 _ _ hq0
      refine ⟨tt, _, rfl, tup_of g3, rfl, _, _, rfl, ⟨q0, _, rfl, tup_of hq3, rfl, _, _, rfl, _, _, rfl, rfl, _, _, rfl, rfl, ?_⟩⟩
      k_upd
      refine ⟨_, rfl, _, rfl, _, rfl, (by k_clsL), fun p4 n4 => ?_⟩
      k_invariant "new" (n4, H4, e4, g4)
      obtain ⟨H5, dp, pa⟩ := (hK.up (e3.trans e4)).dput (x := (row, 0)) (by rw [List.length_take, sizeLine_eq]; omega) g4 (.bl true)
      refine ⟨kd, H5, rfl, dp, ?_⟩
      k_upd
      refine ⟨_, rfl, S row, 1, rfl, rfl, _, tru0 (b0 row), iteF ?_⟩
      refine ⟨_, rfl, _, rfl, S row, 2047, rfl, rfl, _, tru0 (b1 row), iteF ?_⟩
      exact ⟨pa.mut (sm.trans (e3.trans e4)) nf, ⟨_, _, _, rfl⟩, keys_true hm.2 hz pa⟩
    · rintro σ H2 ⟨sm, ⟨x3, x4, x5, rfl⟩, hK⟩
      rw [hm.len, List.take_of_length_le (Nat.le_refl _)] at hK
      have gd2 := sm _ _ gf
      rw [hHf] at sm
      refine ⟨gd2, ?_⟩
      refine ⟨_, rfl, kd, ps, _, rfl, hK.off nekd, fun H3 p s3 n3 c3 => q H3 p ?_ ((unlock hd sm).trans s3) c3⟩
      exact backS (unlock hd sm) n3
def sp_with_rows_beside : Sp := fun vs H Q _ => ∃ (d : Addr) (ps : List Pr) (g : Pr → V), vs = [.ref d] ∧ Dct H d ps g ∧ (∀ x ∈ ps, x.2 = 0) ∧ ps.length < 10000 ∧
  ∀ (H' : Hp) (p : Addr) (qs : List Pr), H p = none → Same H H' → Cells H' p qs → qs.Nodup → (∀ x, x ∈ qs ↔ x.2 = 0 ∧ ∃ y ∈ ps, x.1 = y.1 - 1 ∨ x.1 = y.1 ∨ x.1 = y.1 + 1) → qs.length ≤ 3 * ps.length → Q (.ref p) H'
theorem ok_with_rows_beside (T : Txt K mg) : FnOk P w K mg base CX0 1 T.f_with_rows_beside T.d_with_rows_beside ["sums"] sp_with_rows_beside := by
  refine T.F_with_rows_beside.ok sc_with_rows_beside (fun vs H Q E h => ?_) (fun cdv A outer s H vs Q E hr h => ?_)
  · obtain ⟨_, _, _, rfl, _⟩ := h
    rfl
  · obtain ⟨d, ps, g, rfl, hD, z0, few, q⟩ := h
    have hu : (A.deeper (envOfC (Str.ofString "_with_rows_beside") (defScope s_with_rows_beside) s.heap.objs.size T.f_with_rows_beside cdv)).units + 1 < cLine := by
      have := hr.units
      omega
    refine ⟨_, (pss_cons (ps_set (i := 1) sc_with_rows_beside.nd rfl (.inl rfl) pe_dnewT)
      (pss_cons (ps_lock (ps_for PassesOwn.never rfl (pi_keys (pv 0)) (pg_tupK (K := K) (n := 2) rfl rfl (pgs_cons (pg_name (i := 2) sc_with_rows_beside.nd rfl (.inl rfl)) (pgs_cons (pg_name (i := 3) sc_with_rows_beside.nd rfl (.inl rfl)) pgs_nil)))
      (pss_cons (ps_dput hu (pv 1) (pe_tup (pa_cons (pe_op op_sub (pv 2) pe_int) (pa_cons (pv 3) pa_nil))) pe_bl rfl)
      (pss_cons (ps_dput hu (pv 1) (pe_tup (pa_cons (pv 2) (pa_cons (pv 3) pa_nil))) pe_bl rfl)
      (pss_one (ps_dput hu (pv 1) (pe_tup (pa_cons (pe_op op_add (pv 2) pe_int) (pa_cons (pv 3) pa_nil))) pe_bl rfl))))))
      (pss_one (ps_ret (pe_callTy (cr_listP rfl) (by rfl) T.z_list (by decide +kernel) (pa_cons (pv 1) pa_nil)))))), ?_⟩
    k_upd
    obtain ⟨kvs, hd, hm⟩ := id hD
    refine fun kd nk => ?_
    k_invariant "new" (nk, H1, e1, g1)
    k_upd
    have nekd : kd ≠ d := fun e => by rw [e, hd] at nk; cases nk
    refine ⟨d, _, e1 _ _ hd, trivial, fun od => ⟨_, rfl, d, od, rfl, .inr ⟨kvs, upd_same, ?_⟩⟩⟩
    obtain ⟨Hf, hHf⟩ : ∃ Hf, Hf = upd H d (.frz od (.dT kvs)) := ⟨_, rfl⟩
    have gf : Hf d = some (.frz od (.dT kvs)) := by rw [hHf, upd_same]
    have nk2 : Hf kd = none := by rw [hHf, upd_ne nekd]; exact nk
    refine for_it walk_keysT (fun i σ H' => Same Hf H' ∧ (∃ x3 x4 : Option V, σ = [some (.ref d), some (.ref kd), x3, x4]) ∧ ∃ qs, Dct H' kd qs (fun _ => .bl true) ∧
        (∀ x, x ∈ qs ↔ x.2 = 0 ∧ ∃ y ∈ ps.take i, x.1 = y.1 - 1 ∨ x.1 = y.1 ∨ x.1 = y.1 + 1) ∧ qs.length ≤ 3 * i)
      ⟨by rw [hHf]; exact updS e1, ⟨_, _, rfl⟩, [], (Dct.new _ g1).off nekd, fun x => by simp, Nat.le_refl _⟩ (fun i σ H' _ p => p.1 _ _ gf) ?_ ?_
    · rintro i x σ H2 H3 hi ⟨sm, ⟨x3, x4, rfl⟩, qs, hK, mem, lq⟩ ⟨rfl, k, v, q0, e, rfl, hq0⟩
      obtain ⟨z, hz, rfl, rfl⟩ := hm.at e
      have li : i < ps.length := (List.getElem?_eq_some_iff.mp hz).1
      obtain ⟨row, c0⟩ := z
      have zz : c0 = 0 := z0 _ (List.mem_of_getElem? hz)
      subst zz
      have tr : ∀ (H H' : Hp) (qs : List Pr) (x : Pr), PutAt H kd qs (fun _ => V.bl true) x (.bl true) H' → Dct H' kd (addK qs x) (fun _ => V.bl true) := fun H H' qs x pa => pa.1.congr fun y _ => by
        unfold setG
        by_cases e : y = x
        · rw [if_pos e]
        · rw [if_neg e]
      refine ⟨q0, _, rfl, tup_of hq0, rfl, _, _, rfl, _, _, rfl, rfl, ?_⟩
      k_upd
      refine ⟨_, rfl, _, rfl, _, _, rfl, rfl, _, rfl, (by k_clsL), fun p4 n4 => ?_⟩
      k_invariant "new" (n4, H4, e4, g4)
      obtain ⟨H5, dp5, pa5⟩ := (hK.up e4).dput (x := (row - 1, 0)) (by rw [sizeLine_eq]; omega) g4 (.bl true)
      have s5 := pa5.mut (sm.trans e4) nk2
      have k5 := tr _ _ _ _ pa5
      refine ⟨kd, H5, rfl, dp5, ?_⟩
      k_upd
      refine ⟨_, rfl, _, rfl, _, rfl, (by k_clsL), fun p6 n6 => ?_⟩
      k_invariant "new" (n6, H6, e6, g6)
      have l5 := addK_len (ps := qs) (x := (row - 1, 0))
      obtain ⟨H7, dp7, pa7⟩ := (k5.up e6).dput (x := (row, 0)) (by rw [sizeLine_eq]; omega) g6 (.bl true)
      have s7 := pa7.mut (s5.trans e6) nk2
      have k7 := tr _ _ _ _ pa7
      refine ⟨kd, H7, rfl, dp7, ?_⟩
      k_upd
      refine ⟨_, rfl, _, rfl, _, _, rfl, rfl, _, rfl, (by k_clsL), fun p8 n8 => ?_⟩
      k_invariant "new" (n8, H8, e8, g8)
      have l7 := addK_len (ps := addK qs (row - 1, 0)) (x := (row, 0))
      obtain ⟨H9, dp9, pa9⟩ := (k7.up e8).dput (x := (row + 1, 0)) (by rw [sizeLine_eq]; omega) g8 (.bl true)
      have l9 := addK_len (ps := addK (addK qs (row - 1, 0)) (row, 0)) (x := (row + 1, 0))
      refine ⟨kd, H9, rfl, dp9, pa9.mut (s7.trans e8) nk2, ⟨_, _, rfl⟩, _, tr _ _ _ _ pa9, fun x => ?_, by omega⟩
      rw [mem_addK, mem_addK, mem_addK, mem, take_next hz]
      constructor
      · rintro (((⟨a, y, my, b⟩ | e) | e) | e)
        · exact ⟨a, y, List.mem_append.mpr (.inl my), b⟩
        all_goals rw [e]; exact ⟨rfl, (row, 0), List.mem_append.mpr (.inr (List.mem_singleton.mpr rfl)), by simp⟩
      · rintro ⟨a, y, my, b⟩
        rcases List.mem_append.mp my with my | my
        · exact .inl (.inl (.inl ⟨a, y, my, b⟩))
        · rw [List.mem_singleton.mp my] at b
          rcases b with b | b | b
          · exact .inl (.inl (.inr (Prod.ext b a)))
          · exact .inl (.inr (Prod.ext b a))
          · exact .inr (Prod.ext b a)
    · rintro σ H2 ⟨sm, ⟨x3, x4, rfl⟩, qs, hK, mem, lq⟩
      rw [hm.len] at lq
      rw [hm.len, List.take_of_length_le (Nat.le_refl _)] at mem
      have gd2 := sm _ _ gf
      rw [hHf] at sm
      refine ⟨gd2, ?_⟩
      refine ⟨_, rfl, kd, qs, _, rfl, hK.off nekd, fun H3 p s3 n3 c3 => q H3 p qs (backS (unlock hd sm) n3) ((unlock hd sm).trans s3) c3 hK.choose_spec.2.2 mem lq⟩
end
end My
namespace My
open PySem PySem.Spec PyProof.Rows L2 Vx
open TL
local macro_rules | `(tactic| k_invariant "new" ($n, $H:ident, $e:ident, $h:ident)) => `(tactic| (generalize hE : upd _ _ _ = $H; obtain ⟨$e:ident, $h:ident⟩ := gen_e hE $n; clear hE))
local macro_rules | `(tactic| k_places) => `(tactic| first
  | assumption
  | exact lst_of (by assumption)
  | exact tup_of (by assumption)
  | (refine getS (by assumption) ?_; k_places)
  | (refine Same.seq (by assumption) ?_; k_places)
  | (refine tupS (by assumption) ?_; k_places)
  | (refine lst_of ?_; k_places)
  | (refine tup_of ?_; k_places))
local macro_rules | `(tactic| k_subL) => `(tactic| first
  | k_places
  | solve_by_elim (maxDepth := 10) [getS, lst_of, tup_of, Same.seq, tupS])
local macro_rules | `(tactic| k_offL) => `(tactic| first
  | (show (0 : Int) < _; first | omega | decide)
  | (refine ⟨?_, ?_⟩ <;> first | omega | decide)
  | exact .inr ⟨by decide, by decide⟩
  | exact .inl ⟨by decide, by decide⟩
  | exact .inl ⟨by omega, by omega⟩
  | omega)
local macro_rules | `(tactic| k_clsL) => `(tactic| exact Nat.le_of_ble_eq_true rfl)
local macro_rules | `(tactic| k_upd) => `(tactic| simp only [L2.start, List.map_cons, List.map_nil, List.length_cons, List.length_nil, List.replicate_succ, List.replicate_zero, List.cons_append, List.nil_append, List.set_cons_zero, List.set_cons_succ])
section
variable {P : Program} {w : World} {K : PySem.W.Frag} {mg : Str → Option Value} {base : Heap}
def oneR (S : Int → Nat) (r : Int) : Nat := ones3 (S r <<< 1) (S r) (S r >>> 1)
def twoR (S : Int → Nat) (r : Int) : Nat := twos3 (S r <<< 1) (S r) (S r >>> 1)
def sp_row_sums : Sp := fun vs H Q _ => ∃ (d : Addr) (ps : List Pr) (S : Int → Nat), vs = [.ref d] ∧ Floor H d ps S ∧ ps.length < 10000 ∧ (∀ r, S r &&& 1 = 0) ∧ (∀ r, S r < 2 ^ 2047) ∧
  ∀ (H' : Hp) (sd : Addr) (A : Int → Addr), H sd = none → Same H H' → Dct H' sd ps (fun x => .ref (A x.1)) → (∀ x ∈ ps, H' (A x.1) = some (.tup [.int (oneR S x.1 : Nat), .int (twoR S x.1 : Nat)])) → Q (.ref sd) H'
theorem left_eq {n F : Nat} (h : n < 2 ^ 2047) (hF : F = 2 ^ 2048 - 1) : ((n <<< 1) &&& F) ||| (0 >>> 2047) = n <<< 1 := by
  have l : n <<< 1 < 2 ^ 2048 := by
    rw [Nat.shiftLeft_eq, show (2 : Nat) ^ 2048 = 2 ^ 2047 * 2 ^ 1 from Nat.pow_add 2 2047 1]
    exact Nat.mul_lt_mul_of_pos_right h (by decide)
  rw [hF, Nat.and_two_pow_sub_one_of_lt_two_pow l, Nat.zero_shiftRight, Nat.or_zero]
theorem right_eq (n : Nat) : (n >>> 1) ||| ((0 &&& 1) <<< 2047) = n >>> 1 := by
  rw [Nat.zero_and, Nat.zero_shiftLeft, Nat.or_zero]
theorem shr_zero {n : Nat} (h : n < 2 ^ 2047) : n >>> 2047 = 0 := by
  rw [Nat.shiftRight_eq_div_pow]
  exact Nat.div_eq_of_lt h
theorem full_eq : ∃ B F : Nat, B = 1 <<< 2048 ∧ F = 2 ^ 2048 - 1 ∧ (B : Int) - 1 = (F : Int) := by
  refine ⟨_, _, rfl, rfl, ?_⟩
  rw [Nat.one_shiftLeft]
  have : 0 < 2 ^ 2048 := Nat.two_pow_pos 2048
  omega
theorem ok_row_sums (T : Txt K mg) : FnOk P w K mg base CX0 2 T.f_row_sums T.d_row_sums ["floor"] sp_row_sums := by
  refine T.F_row_sums.ok sc_row_sums (fun vs H Q E h => ?_) (fun cdv A outer s H vs Q E hr h => ?_)
  · obtain ⟨_, _, _, rfl, _⟩ := h
    rfl
  · obtain ⟨d, ps, S, rfl, hF, few, b0, b1, q⟩ := h
    have hu : (A.deeper (envOfC (Str.ofString "_row_sums") (defScope s_row_sums) s.heap.objs.size T.f_row_sums cdv)).units + 1 < cLine := by
      have := hr.units
      omega
    refine ⟨_, (pss_cons (ps_set (i := 1) sc_row_sums.nd rfl (.inl rfl) (pe_op op_sub (pe_gcx (by rfl) T.c_WIDTH) pe_int))
      (pss_cons (ps_set (i := 2) sc_row_sums.nd rfl (.inl rfl) (pe_op op_sub (pe_op op_shlNN pe_int (pe_gcx (by rfl) T.c_WIDTH)) pe_int))
      (pss_cons (ps_set (i := 3) sc_row_sums.nd rfl (.inl rfl) pe_dnewT)
      (pss_cons (ps_for PassesOwn.never rfl (pi_list (pe_call (ok_with_strips_beside T) (hr.mono (by decide)) (by rfl) T.g_with_strips_beside T.F_with_strips_beside.kp T.b_with_strips_beside .nil pass0 (pa_cons (pv 0) pa_nil))) (pg_tupK (K := K) (n := 2) rfl rfl (pgs_cons (pg_name (i := 4) sc_row_sums.nd rfl (.inl rfl)) (pgs_cons (pg_name (i := 5) sc_row_sums.nd rfl (.inl rfl)) pgs_nil)))
      (pss_cons (ps_set (i := 6) sc_row_sums.nd rfl (.inl rfl) (pe_dget2 hu (pv 0) (pe_tup (pa_cons (pv 4) (pa_cons (pv 5) pa_nil))) pe_int ⟨rfl, rfl, rfl, rfl⟩))
      (pss_cons (ps_set (i := 7) sc_row_sums.nd rfl (.inl rfl) (pe_op op_orNN (pe_op op_andNN (pe_op op_shlNN (pv 6) pe_int) (pv 2)) (pe_op op_shrNN (pe_dget2 hu (pv 0) (pe_tup (pa_cons (pv 4) (pa_cons (pe_op op_sub (pv 5) pe_int) pa_nil))) pe_int ⟨rfl, rfl, rfl, rfl⟩) (pv 1))))
      (pss_cons (ps_set (i := 8) sc_row_sums.nd rfl (.inl rfl) (pe_op op_orNN (pe_op op_shrNN (pv 6) pe_int) (pe_op op_shlNN (pe_op op_andNN (pe_dget2 hu (pv 0) (pe_tup (pa_cons (pv 4) (pa_cons (pe_op op_add (pv 5) pe_int) pa_nil))) pe_int ⟨rfl, rfl, rfl, rfl⟩) pe_int) (pv 1))))
      (pss_one (ps_dput hu (pv 3) (pe_tup (pa_cons (pv 4) (pa_cons (pv 5) pa_nil))) (pe_call (ok_sums_of T) (hr.mono (by decide)) (by rfl) T.g_sums_of T.F_sums_of.kp T.b_sums_of .nil pass0 (pa_cons (pv 7) (pa_cons (pv 6) (pa_cons (pv 8) pa_nil)))) rfl))))))
      (pss_one (ps_ret (pv 3))))))), ?_⟩
    k_upd
    have hnd : ps.Nodup := hF.1.choose_spec.2.2
    refine ⟨_, _, rfl, rfl, ?_⟩
    refine ⟨1, 2048, 1, rfl, rfl, by decide, by decide, _, _, rfl, rfl, ?_⟩
    obtain ⟨B, F, hB, hFe, hBF⟩ := full_eq
    rw [← hB]
    k_upd
    rw [hBF]
    refine fun sd nsd => ?_
    k_invariant "new" (nsd, H1, e1, g1)
    k_upd
    refine ⟨_, rfl, d, ps, S, rfl, hF.up e1, few, b0, fun r => shr_zero (b1 r), fun H2 lp n2 e2 c2 => ?_⟩
    obtain ⟨ts, hl, ht, ets⟩ := id c2
    refine ⟨lp, rfl, ⟨_, lst_of hl⟩, ?_⟩
    have lts : ts.length = ps.length := by rw [← ets, List.length_map]
    have nlp : lp ≠ sd := fun e => by rw [e, g1] at n2; cases n2
    refine for_list (K := K) (a := lp) (xs := ts.map fun t => V.ref t.1) (fun i σ H' => Same H H' ∧ H' lp = some (.lst (ts.map fun t => V.ref t.1)) ∧ (∀ t ∈ ts, H' t.1 = some (.tup [.int t.2.1, .int t.2.2])) ∧
      (∃ x4 x5 x6 x7 x8 : Option V, σ = [some (.ref d), some (.int 2047), some (.int (F : Int)), some (.ref sd), x4, x5, x6, x7, x8]) ∧
      ∃ A : Int → Addr, Dct H' sd (ps.take i) (fun x => .ref (A x.1)) ∧ ∀ x ∈ ps.take i, H' (A x.1) = some (.tup [.int (oneR S x.1 : Nat), .int (twoR S x.1 : Nat)]))
      ⟨e1.trans e2, hl, ht, ⟨_, _, _, _, _, rfl⟩, fun _ => 0, (Dct.new _ g1).up e2, fun _ m => (by cases m)⟩ (fun i σ H' _ p => lst_of p.2.1) ?_ ?_
    · rintro i x σ H' hi ⟨sm, hl', htt, ⟨x4, x5, x6, x7, x8, rfl⟩, A, hK, hA⟩
      obtain ⟨t, mt, rfl, hx⟩ := item_cells (H := H') hi rfl
      rw [ets] at hx
      have li : i < ps.length := (List.getElem?_eq_some_iff.mp hx).1
      have ht' := htt t mt
      obtain ⟨⟨ta, row, c0⟩, ht''⟩ : ∃ t' : Addr × Pr, t' = t := ⟨t, rfl⟩
      subst ht''
      dsimp only at ht' hx
      have zz : c0 = 0 := hF.2.1 _ (List.mem_of_getElem? hx)
      subst zz
      have hF' := hF.up sm
      refine ⟨ta, _, rfl, tup_of ht', rfl, _, _, rfl, _, _, rfl, rfl, ?_⟩
      k_upd
      refine ⟨_, rfl, d, rfl, hF'.1.isD, _, rfl, _, rfl, (by k_clsL), fun p3 n3 => ?_⟩
      k_invariant "new" (n3, H3, e3, g3)
      refine ⟨_, (hF'.up e3).get g3, ?_⟩
      rw [Floor.getD hF.2.2]
      k_upd
      refine ⟨_, rfl, S row, 1, 2047, rfl, rfl, b1 row, by decide, _, rfl, _, _, rfl, rfl, _, rfl, d, rfl, (hF'.up e3).1.isD, _, rfl, _, rfl, _, _, rfl, rfl, (by k_clsL), fun p4 n4 => ?_⟩
      k_invariant "new" (n4, H4, e4, g4)
      refine ⟨_, (hF'.up (e3.trans e4)).off g4 (by decide), _, rfl, 0, 2047, rfl, rfl, _, _, rfl, rfl, ?_⟩
      rw [left_eq (b1 row) hFe]
      k_upd
      refine ⟨_, rfl, S row, 1, rfl, rfl, _, rfl, d, rfl, (hF'.up (e3.trans e4)).1.isD, _, rfl, _, rfl, _, _, rfl, rfl, (by k_clsL), fun p5 n5 => ?_⟩
      k_invariant "new" (n5, H5, e5, g5)
      refine ⟨_, (hF'.up (e3.trans (e4.trans e5))).off g5 (by decide), 0, 1, rfl, rfl, _, rfl, _, 2047, 1, rfl, rfl, by decide, by decide, _, _, rfl, rfl, ?_⟩
      rw [right_eq]
      k_upd
      refine ⟨_, rfl, _, rfl, _, rfl, _, _, _, rfl, fun H6 p6 e6 n6 g6 => ?_⟩
      refine ⟨_, rfl, _, rfl, _, rfl, (by k_clsL), fun p7 n7 => ?_⟩
      k_invariant "new" (n7, H7, e7, g7)
      have s7 : Same H' H7 := e3.trans (e4.trans (e5.trans (e6.trans e7)))
      obtain ⟨H8, dp, pa⟩ := (hK.up s7).dput (x := (row, 0)) (by rw [List.length_take, sizeLine_eq]; omega) g7 (.ref p6)
      have off : ∀ (b : Addr) (o : HO), H7 b = some o → (∀ kvs, o ≠ .dT kvs) → H8 b = some o := fun b o e ne => by
        rw [pa.2 b fun z => ?_]
        · exact e
        · obtain ⟨kvs, h1, _⟩ := hK.up s7
          rw [z, h1] at e
          exact ne kvs (Option.some.inj e).symm
      refine ⟨sd, H8, rfl, dp, pa.mut (sm.trans s7) nsd, off _ _ (s7 _ _ hl') (fun _ z => by cases z), fun t m => off _ _ (s7 _ _ (htt t m)) (fun _ z => by cases z), ⟨_, _, _, _, _, rfl⟩, fun r => if r = row then p6 else A r, ?_, fun x m => ?_⟩
      · rw [← addK_take hnd hx]
        refine pa.1.congr fun x m => ?_
        unfold setG
        by_cases e : x = (row, 0)
        · rw [if_pos e, e]
          dsimp only
          rw [if_pos rfl]
        · have x0 : x.2 = 0 := (mem_addK.mp m).elim (fun m => hF.2.1 x (List.mem_of_mem_take m)) fun z => absurd z e
          have e1 : ¬ x.1 = row := fun z => e (Prod.ext z x0)
          rw [if_neg e]
          dsimp only
          rw [if_neg e1]
      · rw [take_next hx] at m
        dsimp only
        by_cases e : x.1 = row
        · rw [if_pos e, e]
          exact off _ _ (e7 _ _ g6) (fun _ z => by cases z)
        · rw [if_neg e]
          rcases List.mem_append.mp m with m | m
          · exact off _ _ (s7 _ _ (hA x m)) (fun _ z => by cases z)
          · rw [List.mem_singleton.mp m] at e
            exact absurd rfl e
    · rintro σ H' ⟨sm, hl', htt, ⟨x4, x5, x6, x7, x8, rfl⟩, A, hK, hA⟩
      rw [List.length_map, List.take_of_length_le (by omega)] at hK hA
      exact ⟨_, rfl, q H' sd A nsd sm hK hA⟩
end
end My
namespace My
open PySem PySem.Spec PyProof.Rows L2 Vx
open TL
local macro_rules | `(tactic| k_invariant "new" ($n, $H:ident, $e:ident, $h:ident)) => `(tactic| (generalize hE : upd _ _ _ = $H; obtain ⟨$e:ident, $h:ident⟩ := gen_e hE $n; clear hE))
local macro_rules | `(tactic| k_places) => `(tactic| first
  | assumption
  | exact lst_of (by assumption)
  | exact tup_of (by assumption)
  | (refine getS (by assumption) ?_; k_places)
  | (refine Same.seq (by assumption) ?_; k_places)
  | (refine tupS (by assumption) ?_; k_places)
  | (refine lst_of ?_; k_places)
  | (refine tup_of ?_; k_places))
local macro_rules | `(tactic| k_subL) => `(tactic| first
  | k_places
  | solve_by_elim (maxDepth := 10) [getS, lst_of, tup_of, Same.seq, tupS])
local macro_rules | `(tactic| k_offL) => `(tactic| first
  | (show (0 : Int) < _; first | omega | decide)
  | (refine ⟨?_, ?_⟩ <;> first | omega | decide)
  | exact .inr ⟨by decide, by decide⟩
  | exact .inl ⟨by decide, by decide⟩
  | exact .inl ⟨by omega, by omega⟩
  | omega)
local macro_rules | `(tactic| k_clsL) => `(tactic| exact Nat.le_of_ble_eq_true rfl)
local macro_rules | `(tactic| k_upd) => `(tactic| simp only [L2.start, List.map_cons, List.map_nil, List.length_cons, List.length_nil, List.replicate_succ, List.replicate_zero, List.cons_append, List.nil_append, List.set_cons_zero, List.set_cons_succ])
section
variable {P : Program} {w : World} {K : PySem.W.Frag} {mg : Str → Option Value} {base : Heap}
/-! ### what the bits say -/
def nb (L : Int → Int → Bool) (r c : Int) : Nat :=
  (L (r - 1) (c - 1)).toNat + (L (r - 1) c).toNat + (L (r - 1) (c + 1)).toNat + (L r (c - 1)).toNat + (L r (c + 1)).toNat + (L (r + 1) (c - 1)).toNat + (L (r + 1) c).toNat + (L (r + 1) (c + 1)).toNat
def stepL (bs ss : List Int) (L : Int → Int → Bool) (r c : Int) : Bool := if L r c = true then decide ((nb L r c : Int) ∈ ss) else decide ((nb L r c : Int) ∈ bs)
def genL (bs ss : List Int) (L : Int → Int → Bool) : Nat → Int → Int → Bool
  | 0 => L
  | n + 1 => stepL bs ss (genL bs ss L n)
def oneB (l a r : Bool) : Bool := (l ^^ r) ^^ a
def twoB (l a r : Bool) : Bool := (l && r) || ((l ^^ r) && a)
def carB (ao ho bo : Bool) : Bool := (ao && bo) || ((ao ^^ bo) && ho)
def sum9 (a b c d e f g h i : Bool) : Nat := a.toNat + b.toNat + c.toNat + d.toNat + e.toNat + f.toNat + g.toNat + h.toNat + i.toNat
theorem bits9 : ∀ a b c d e f g h i : Bool,
    ((oneB a b c ^^ oneB g h i) ^^ oneB d e f) = decide (sum9 a b c d e f g h i % 2 = 1) ∧
    ((twoB a b c ^^ twoB g h i) ^^ (twoB d e f ^^ carB (oneB a b c) (oneB d e f) (oneB g h i))) = decide (sum9 a b c d e f g h i / 2 % 2 = 1) ∧
    (((twoB a b c && twoB g h i) ^^ (twoB d e f && carB (oneB a b c) (oneB d e f) (oneB g h i))) || ((twoB a b c ^^ twoB g h i) && (twoB d e f ^^ carB (oneB a b c) (oneB d e f) (oneB g h i)))) = decide (sum9 a b c d e f g h i / 4 % 2 = 1) ∧
    ((twoB a b c && twoB g h i) && (twoB d e f && carB (oneB a b c) (oneB d e f) (oneB g h i))) = decide (sum9 a b c d e f g h i / 8 % 2 = 1) ∧ sum9 a b c d e f g h i < 10 := by
  decide +kernel
def lowB (o t n : Bool) : Nat → Bool
  | 0 => (n ^^ o) && (n ^^ t)
  | 1 => o && (n ^^ t)
  | 2 => (n ^^ o) && t
  | _ => o && t
def highB (f e n : Bool) : Nat → Bool
  | 0 => n ^^ (f || e)
  | 1 => f
  | _ => e
theorem pickB : ∀ s < 10, ∀ n < 10, 1 ≤ n → (lowB (decide (s % 2 = 1)) (decide (s / 2 % 2 = 1)) (((decide (s % 2 = 1) || decide (s / 2 % 2 = 1)) || decide (s / 4 % 2 = 1)) || decide (s / 8 % 2 = 1)) (n % 4) &&
    highB (decide (s / 4 % 2 = 1)) (decide (s / 8 % 2 = 1)) (((decide (s % 2 = 1) || decide (s / 2 % 2 = 1)) || decide (s / 4 % 2 = 1)) || decide (s / 8 % 2 = 1)) (n / 4)) = decide (s = n) := by
  decide +kernel
theorem nearB : ∀ s < 10, (((decide (s % 2 = 1) || decide (s / 2 % 2 = 1)) || decide (s / 4 % 2 = 1)) || decide (s / 8 % 2 = 1)) = decide (s ≠ 0) := by decide +kernel
theorem low4_bit (o t f e j : Nat) : ∀ k, (low4 o t f e k).testBit j = lowB (o.testBit j) (t.testBit j) ((near9 o t f e).testBit j) k
  | 0 => by show ((near9 o t f e ^^^ o) &&& (near9 o t f e ^^^ t)).testBit j = _; rw [Nat.testBit_and, Nat.testBit_xor, Nat.testBit_xor]; rfl
  | 1 => by show (o &&& (near9 o t f e ^^^ t)).testBit j = _; rw [Nat.testBit_and, Nat.testBit_xor]; rfl
  | 2 => by show ((near9 o t f e ^^^ o) &&& t).testBit j = _; rw [Nat.testBit_and, Nat.testBit_xor]; rfl
  | _ + 3 => by show (o &&& t).testBit j = _; rw [Nat.testBit_and]; rfl
theorem high3_bit (o t f e j : Nat) : ∀ k, (high3 o t f e k).testBit j = highB (f.testBit j) (e.testBit j) ((near9 o t f e).testBit j) k
  | 0 => by show (near9 o t f e ^^^ (f ||| e)).testBit j = _; rw [Nat.testBit_xor, Nat.testBit_or]; rfl
  | 1 => rfl
  | _ + 2 => rfl
theorem picks_bit (o t f e j : Nat) (ns : List Nat) : (picks o t f e ns).testBit j = ns.any fun n => (pick o t f e n).testBit j := by
  have go : ∀ (ns : List Nat) (a : Nat), (ns.foldl (fun acc n => acc ||| pick o t f e n) a).testBit j = (a.testBit j || ns.any fun n => (pick o t f e n).testBit j) := fun ns => by
    induction ns with
    | nil => exact fun a => by simp
    | cons n ns ih =>
      intro a
      rw [List.foldl_cons, ih, Nat.testBit_or, List.any_cons, Bool.or_assoc]
  unfold picks
  rw [go, Nat.zero_testBit, Bool.false_or]
/-- the bit of the next strip, by the total s of the nine -/
theorem nextN_bit {alive o t f e j s : Nat} {bs ss : List Int} (hs : s < 10) (h1 : o.testBit j = decide (s % 2 = 1)) (h2 : t.testBit j = decide (s / 2 % 2 = 1)) (h4 : f.testBit j = decide (s / 4 % 2 = 1)) (h8 : e.testBit j = decide (s / 8 % 2 = 1))
    (hb : ∀ b ∈ bs, 1 ≤ b ∧ b ≤ 8) (hss : ∀ b ∈ ss, 0 ≤ b ∧ b ≤ 8) (ha : alive.testBit j = true → 1 ≤ s) :
    (nextN alive o t f e bs ss).testBit j = if alive.testBit j = true then decide (((s : Int) - 1) ∈ ss) else decide ((s : Int) ∈ bs) := by
  have hn : (near9 o t f e).testBit j = decide (s ≠ 0) := by
    unfold near9
    rw [Nat.testBit_or, Nat.testBit_or, Nat.testBit_or, h1, h2, h4, h8]
    exact nearB s hs
  have hp : ∀ n, 1 ≤ n → n < 10 → (pick o t f e n).testBit j = decide (s = n) := fun n n1 n2 => by
    unfold pick
    rw [Nat.testBit_and, low4_bit, high3_bit, hn, h1, h2, h4, h8, ← nearB s hs]
    exact pickB s hs n n2 n1
  have pb : (picks o t f e (bs.map Int.toNat)).testBit j = decide ((s : Int) ∈ bs) := by
    rw [picks_bit, Bool.eq_iff_iff, decide_eq_true_iff, List.any_eq_true]
    constructor
    · rintro ⟨n, m, h⟩
      obtain ⟨b, mb, rfl⟩ := List.mem_map.mp m
      have := hb b mb
      rw [hp _ (by omega) (by omega)] at h
      have h := of_decide_eq_true h
      rw [show (s : Int) = b by omega]
      exact mb
    · intro m
      have := hb _ m
      refine ⟨s, List.mem_map.mpr ⟨_, m, by omega⟩, ?_⟩
      rw [hp _ (by omega) hs]
      exact decide_eq_true rfl
  have pss : (picks o t f e (ss.map fun n => n.toNat + 1)).testBit j = decide (((s : Int) - 1) ∈ ss) := by
    rw [picks_bit, Bool.eq_iff_iff, decide_eq_true_iff, List.any_eq_true]
    constructor
    · rintro ⟨n, m, h⟩
      obtain ⟨b, mb, rfl⟩ := List.mem_map.mp m
      have := hss b mb
      rw [hp _ (by omega) (by omega)] at h
      have h := of_decide_eq_true h
      rw [show (s : Int) - 1 = b by omega]
      exact mb
    · intro m
      have := hss _ m
      refine ⟨s, List.mem_map.mpr ⟨_, m, by omega⟩, ?_⟩
      rw [hp _ (by omega) hs]
      exact decide_eq_true rfl
  unfold nextN
  rw [Nat.testBit_or, Nat.testBit_and, Nat.testBit_and, Nat.testBit_xor, pb, pss, hn]
  cases hal : alive.testBit j with
  | true =>
    have := ha hal
    rw [decide_eq_true (show s ≠ 0 by omega), if_pos rfl]
    simp
  | false =>
    rw [if_neg (by decide)]
    by_cases z : s = 0
    · have nm : ¬ (s : Int) ∈ bs := fun m => by
        have := hb _ m
        omega
      rw [decide_eq_false nm]
      simp
    · rw [decide_eq_true z]
      simp
end
end My
namespace My
open PySem PySem.Spec PyProof.Rows L2 Vx
open TL
local macro_rules | `(tactic| k_invariant "new" ($n, $H:ident, $e:ident, $h:ident)) => `(tactic| (generalize hE : upd _ _ _ = $H; obtain ⟨$e:ident, $h:ident⟩ := gen_e hE $n; clear hE))
local macro_rules | `(tactic| k_places) => `(tactic| first
  | assumption
  | exact lst_of (by assumption)
  | exact tup_of (by assumption)
  | (refine getS (by assumption) ?_; k_places)
  | (refine Same.seq (by assumption) ?_; k_places)
  | (refine tupS (by assumption) ?_; k_places)
  | (refine lst_of ?_; k_places)
  | (refine tup_of ?_; k_places))
local macro_rules | `(tactic| k_subL) => `(tactic| first
  | k_places
  | solve_by_elim (maxDepth := 10) [getS, lst_of, tup_of, Same.seq, tupS])
local macro_rules | `(tactic| k_offL) => `(tactic| first
  | (show (0 : Int) < _; first | omega | decide)
  | (refine ⟨?_, ?_⟩ <;> first | omega | decide)
  | exact .inr ⟨by decide, by decide⟩
  | exact .inl ⟨by decide, by decide⟩
  | exact .inl ⟨by omega, by omega⟩
  | omega)
local macro_rules | `(tactic| k_clsL) => `(tactic| exact Nat.le_of_ble_eq_true rfl)
local macro_rules | `(tactic| k_upd) => `(tactic| simp only [L2.start, List.map_cons, List.map_nil, List.length_cons, List.length_nil, List.replicate_succ, List.replicate_zero, List.cons_append, List.nil_append, List.set_cons_zero, List.set_cons_succ])
section
variable {P : Program} {w : World} {K : PySem.W.Frag} {mg : Str → Option Value} {base : Heap}
def nextRow (bs ss : List Int) (S : Int → Nat) (r : Int) : Nat :=
  nextN (S r) (one9 (oneR S (r - 1)) (oneR S r) (oneR S (r + 1))) (two9 (oneR S (r - 1)) (twoR S (r - 1)) (oneR S r) (twoR S r) (oneR S (r + 1)) (twoR S (r + 1)))
    (four9 (oneR S (r - 1)) (twoR S (r - 1)) (oneR S r) (twoR S r) (oneR S (r + 1)) (twoR S (r + 1))) (eight9 (oneR S (r - 1)) (twoR S (r - 1)) (oneR S r) (twoR S r) (oneR S (r + 1)) (twoR S (r + 1))) bs ss
def liveS (first : Int) (S : Int → Nat) (r c : Int) : Bool := decide (0 ≤ c - first) && (S r).testBit (c - first).toNat
theorem nb_sum {L : Int → Int → Bool} {r c : Int} : sum9 (L (r - 1) (c - 1)) (L (r - 1) c) (L (r - 1) (c + 1)) (L r (c - 1)) (L r c) (L r (c + 1)) (L (r + 1) (c - 1)) (L (r + 1) c) (L (r + 1) (c + 1)) = nb L r c + (L r c).toNat := by
  unfold sum9 nb
  omega
theorem liveS_at {first : Int} {S : Int → Nat} {r c : Int} {j : Nat} (h : c - first = (j : Int)) : liveS first S r c = (S r).testBit j := by
  unfold liveS
  rw [h, Int.toNat_natCast, decide_eq_true (Int.natCast_nonneg j), Bool.true_and]
theorem liveS_low {first : Int} {S : Int → Nat} {r c : Int} (h : c - first < 0) : liveS first S r c = false := by
  unfold liveS
  rw [decide_eq_false (by omega), Bool.false_and]
theorem bit0 {n : Nat} (h : n &&& 1 = 0) : n.testBit 0 = false := by
  have := Nat.testBit_and n 1 0
  rw [h, Nat.zero_testBit] at this
  simpa using this.symm
theorem oneR_bit {first : Int} {S : Int → Nat} {c : Int} {j : Nat} (h : c - first = (j : Int)) (r : Int) :
    (oneR S r).testBit j = oneB (liveS first S r (c - 1)) (liveS first S r c) (liveS first S r (c + 1)) ∧ (twoR S r).testBit j = twoB (liveS first S r (c - 1)) (liveS first S r c) (liveS first S r (c + 1)) := by
  have h0 : liveS first S r c = (S r).testBit j := liveS_at h
  have h1 : liveS first S r (c + 1) = (S r).testBit (j + 1) := liveS_at (by omega)
  have h2 : liveS first S r (c - 1) = ((S r) <<< 1).testBit j := by
    rw [Nat.testBit_shiftLeft]
    by_cases z : j = 0
    · rw [liveS_low (by omega), z]
      rfl
    · rw [liveS_at (j := j - 1) (by omega), decide_eq_true (show j ≥ 1 by omega), Bool.true_and]
  have h3 : ((S r) >>> 1).testBit j = (S r).testBit (j + 1) := by rw [Nat.testBit_shiftRight, Nat.add_comm]
  rw [h0, h1, h2]
  unfold oneR twoR ones3 twos3 oneB twoB
  simp only [Nat.testBit_xor, Nat.testBit_or, Nat.testBit_and, h3]
  exact ⟨trivial, trivial⟩
theorem nextRow_live {bs ss : List Int} {S : Int → Nat} (first : Int) (hb : ∀ b ∈ bs, 1 ≤ b ∧ b ≤ 8) (hss : ∀ b ∈ ss, 0 ≤ b ∧ b ≤ 8) (b0 : ∀ r, S r &&& 1 = 0) (r c : Int) :
    liveS first (nextRow bs ss S) r c = stepL bs ss (liveS first S) r c := by
  by_cases neg : c - first < 0
  · have hz : ∀ r', liveS first S r' (c + 1) = false := fun r' => by
      by_cases e : c - first = -1
      · rw [liveS_at (j := 0) (by omega)]
        exact bit0 (b0 r')
      · exact liveS_low (by omega)
    rw [liveS_low neg]
    unfold stepL nb
    rw [hz, hz, hz, liveS_low neg, liveS_low (c := c) neg, liveS_low (c := c) neg, liveS_low (c := c - 1) (by omega), liveS_low (c := c - 1) (by omega), liveS_low (c := c - 1) (by omega), if_neg (by decide)]
    refine (decide_eq_false fun m => ?_).symm
    have := hb _ m
    simp at this
  · obtain ⟨j, h⟩ := Int.eq_ofNat_of_zero_le (show 0 ≤ c - first by omega)
    obtain ⟨a1, a2⟩ := oneR_bit (S := S) h (r - 1)
    obtain ⟨b1, b2⟩ := oneR_bit (S := S) h r
    obtain ⟨c1, c2⟩ := oneR_bit (S := S) h (r + 1)
    have q := bits9 (liveS first S (r - 1) (c - 1)) (liveS first S (r - 1) c) (liveS first S (r - 1) (c + 1)) (liveS first S r (c - 1)) (liveS first S r c) (liveS first S r (c + 1)) (liveS first S (r + 1) (c - 1)) (liveS first S (r + 1) c) (liveS first S (r + 1) (c + 1))
    rw [nb_sum] at q
    obtain ⟨q1, q2, q4, q8, ql⟩ := q
    rw [liveS_at h]
    have al : (S r).testBit j = liveS first S r c := (liveS_at h).symm
    unfold nextRow
    rw [nextN_bit ql ?_ ?_ ?_ ?_ hb hss ?_, al]
    · unfold stepL
      by_cases z : liveS first S r c = true
      · rw [if_pos z, if_pos z, z]
        rw [show ((nb (liveS first S) r c + true.toNat : Nat) : Int) - 1 = (nb (liveS first S) r c : Int) by show ((nb (liveS first S) r c + 1 : Nat) : Int) - 1 = _; omega]
      · have z' : liveS first S r c = false := by simpa using z
        rw [if_neg z, if_neg z, z']
        rfl
    · rw [← q1]
      unfold one9
      simp only [Nat.testBit_xor, a1, b1, c1]
    · rw [← q2]
      unfold two9 car9 carB
      simp only [Nat.testBit_xor, Nat.testBit_or, Nat.testBit_and, a1, b1, c1, a2, b2, c2]
    · rw [← q4]
      unfold four9 car9 carB
      simp only [Nat.testBit_xor, Nat.testBit_or, Nat.testBit_and, a1, b1, c1, a2, b2, c2]
    · rw [← q8]
      unfold eight9 car9 carB
      simp only [Nat.testBit_xor, Nat.testBit_or, Nat.testBit_and, a1, b1, c1, a2, b2, c2]
    · intro z
      rw [al] at z
      rw [z]
      show 1 ≤ _ + 1
      omega
theorem nextN_zero (bs ss : List Int) : nextN 0 0 0 0 0 bs ss = 0 := by
  unfold nextN near9
  simp
theorem oneR_zero {S : Int → Nat} {r : Int} (h : S r = 0) : oneR S r = 0 ∧ twoR S r = 0 := by
  unfold oneR twoR ones3 twos3
  rw [h]
  simp
theorem nextRow_zero {bs ss : List Int} {S : Int → Nat} {r : Int} (h1 : S (r - 1) = 0) (h2 : S r = 0) (h3 : S (r + 1) = 0) : nextRow bs ss S r = 0 := by
  unfold nextRow
  rw [(oneR_zero h1).1, (oneR_zero h1).2, (oneR_zero h2).1, (oneR_zero h2).2, (oneR_zero h3).1, (oneR_zero h3).2, h2]
  unfold one9 two9 four9 eight9 car9
  simp [nextN_zero]
end
end My
namespace My
open PySem PySem.Spec PyProof.Rows L2 Vx
open TL
local macro_rules | `(tactic| k_invariant "new" ($n, $H:ident, $e:ident, $h:ident)) => `(tactic| (generalize hE : upd _ _ _ = $H; obtain ⟨$e:ident, $h:ident⟩ := gen_e hE $n; clear hE))
local macro_rules | `(tactic| k_places) => `(tactic| first
  | assumption
  | exact lst_of (by assumption)
  | exact tup_of (by assumption)
  | (refine getS (by assumption) ?_; k_places)
  | (refine Same.seq (by assumption) ?_; k_places)
  | (refine tupS (by assumption) ?_; k_places)
  | (refine lst_of ?_; k_places)
  | (refine tup_of ?_; k_places))
local macro_rules | `(tactic| k_subL) => `(tactic| first
  | k_places
  | solve_by_elim (maxDepth := 10) [getS, lst_of, tup_of, Same.seq, tupS])
local macro_rules | `(tactic| k_offL) => `(tactic| first
  | (show (0 : Int) < _; first | omega | decide)
  | (refine ⟨?_, ?_⟩ <;> first | omega | decide)
  | exact .inr ⟨by decide, by decide⟩
  | exact .inl ⟨by decide, by decide⟩
  | exact .inl ⟨by omega, by omega⟩
  | omega)
local macro_rules | `(tactic| k_clsL) => `(tactic| exact Nat.le_of_ble_eq_true rfl)
local macro_rules | `(tactic| k_upd) => `(tactic| simp only [L2.start, List.map_cons, List.map_nil, List.length_cons, List.length_nil, List.replicate_succ, List.replicate_zero, List.cons_append, List.nil_append, List.set_cons_zero, List.set_cons_succ])
section
variable {P : Program} {w : World} {K : PySem.W.Frag} {mg : Str → Option Value} {base : Heap}
theorem sum_get {H : Hp} {sd b pn : Addr} {ps : List Pr} {S : Int → Nat} {A : Int → Addr} {r : Int} (hD : Dct H sd ps (fun x => .ref (A x.1))) (hA : ∀ x ∈ ps, H (A x.1) = some (.tup [.int (oneR S x.1 : Nat), .int (twoR S x.1 : Nat)]))
    (hz : ∀ r, (r, 0) ∉ ps → S r = 0) (hn : H pn = some (.tup [.int 0, .int 0])) (e : H b = some (.tup [.int r, .int 0])) :
    ∃ (o : Option V) (pa : Addr), DGet H sd (.ref b) o ∧ o.getD (.ref pn) = .ref pa ∧ H pa = some (.tup [.int (oneR S r : Nat), .int (twoR S r : Nat)]) := by
  have g := hD.dget (x := (r, 0)) e
  by_cases m : (r, (0 : Int)) ∈ ps
  · rw [if_pos m] at g
    exact ⟨_, _, g, rfl, hA _ m⟩
  · rw [if_neg m] at g
    refine ⟨_, _, g, rfl, ?_⟩
    rw [(oneR_zero (hz r m)).1, (oneR_zero (hz r m)).2]
    exact hn
def sp_next_floor (C : Addr) : Sp := fun vs H Q _ => ∃ (d r : Addr) (ps : List Pr) (S : Int → Nat) (bs ss : List Int), vs = [.ref d, .ref r] ∧ Floor H d ps S ∧ RuleAt C H r bs ss ∧ (∀ b ∈ bs, 1 ≤ b ∧ b ≤ 8) ∧ (∀ b ∈ ss, 0 ≤ b ∧ b ≤ 8) ∧ ps.length < 5000 ∧ (∀ r, S r &&& 1 = 0) ∧ (∀ r, S r < 2 ^ 2047) ∧
  ∀ (H' : Hp) (d' : Addr) (qs : List Pr), H d' = none → Same H H' → Floor H' d' qs (nextRow bs ss S) → (∀ x ∈ qs, ∃ y ∈ ps, x.1 = y.1 - 1 ∨ x.1 = y.1 ∨ x.1 = y.1 + 1) → (∀ x ∈ qs, nextRow bs ss S x.1 ≠ 0) → Q (.ref d') H'
theorem ok_next_floor (T : Txt K mg) : FnOk P w K mg base CX0 3 T.f_next_floor T.d_next_floor ["floor", "rule"] (sp_next_floor T.C_Rule) := by
  refine T.F_next_floor.ok sc_next_floor (fun vs H Q E h => ?_) (fun cdv A outer s H vs Q E hr h => ?_)
  · obtain ⟨_, _, _, _, _, _, rfl, _⟩ := h
    rfl
  · obtain ⟨d, r, ps, S, bs, ss, rfl, hF, hR, hb, hss, few, b0, b1, q⟩ := h
    have hu : (A.deeper (envOfC (Str.ofString "next_floor") (defScope s_next_floor) s.heap.objs.size T.f_next_floor cdv)).units + 1 < cLine := by
      have := hr.units
      omega
    refine ⟨_, (pss_cons (ps_set (i := 2) sc_next_floor.nd rfl (.inl rfl) (pe_call (ok_row_sums T) (hr.mono (by decide)) (by rfl) T.g_row_sums T.F_row_sums.kp T.b_row_sums .nil pass0 (pa_cons (pv 0) pa_nil)))
      (pss_cons (ps_set (i := 3) sc_next_floor.nd rfl (.inl rfl) (pe_tup (pa_cons pe_int (pa_cons pe_int pa_nil))))
      (pss_cons (ps_set (i := 4) sc_next_floor.nd rfl (.inl rfl) pe_dnewT)
      (pss_cons (ps_for PassesOwn.never rfl (pi_list (pe_call (ok_with_rows_beside T) (hr.mono (by decide)) (by rfl) T.g_with_rows_beside T.F_with_rows_beside.kp T.b_with_rows_beside .nil pass0 (pa_cons (pv 2) pa_nil))) (pg_tupK (K := K) (n := 2) rfl rfl (pgs_cons (pg_name (i := 5) sc_next_floor.nd rfl (.inl rfl)) (pgs_cons (pg_name (i := 6) sc_next_floor.nd rfl (.inl rfl)) pgs_nil)))
      (pss_cons (ps_set (i := 7) sc_next_floor.nd rfl (.inl rfl) (pe_dget2 hu (pv 2) (pe_tup (pa_cons (pe_op op_sub (pv 5) pe_int) (pa_cons (pv 6) pa_nil))) (pv 3) ⟨rfl, rfl, rfl, rfl⟩))
      (pss_cons (ps_set (i := 8) sc_next_floor.nd rfl (.inl rfl) (pe_dget2 hu (pv 2) (pe_tup (pa_cons (pv 5) (pa_cons (pv 6) pa_nil))) (pv 3) ⟨rfl, rfl, rfl, rfl⟩))
      (pss_cons (ps_set (i := 9) sc_next_floor.nd rfl (.inl rfl) (pe_dget2 hu (pv 2) (pe_tup (pa_cons (pe_op op_add (pv 5) pe_int) (pa_cons (pv 6) pa_nil))) (pv 3) ⟨rfl, rfl, rfl, rfl⟩))
      (pss_cons (ps_set (i := 10) sc_next_floor.nd rfl (.inl rfl) (pe_call (ok_next_strip T) (hr.mono (by decide)) (by rfl) T.g_next_strip T.F_next_strip.kp T.b_next_strip .nil pass0 (pa_cons (pe_dget2 hu (pv 0) (pe_tup (pa_cons (pv 5) (pa_cons (pv 6) pa_nil))) pe_int ⟨rfl, rfl, rfl, rfl⟩) (pa_cons (pe_call (ok_totals_of T) (hr.mono (by decide)) (by rfl) T.g_totals_of T.F_totals_of.kp T.b_totals_of .nil pass0 (pa_cons (pv 7) (pa_cons (pv 8) (pa_cons (pv 9) pa_nil)))) (pa_cons (pv 1) pa_nil)))))
      (pss_one (ps_if (pt_truth (pv 10) (by intro _; rfl))
      (pss_one (ps_dput hu (pv 4) (pe_tup (pa_cons (pv 5) (pa_cons (pv 6) pa_nil))) (pv 10) rfl))
      pss_nil)))))))
      (pss_one (ps_ret (pv 4))))))), ?_⟩
    k_upd
    refine ⟨_, rfl, d, ps, S, rfl, hF, by omega, b0, b1, fun H1 sd A n1 e1 hD1 hA1 => ?_⟩
    k_upd
    refine ⟨by k_clsL, fun pn nn => ?_⟩
    k_invariant "new" (nn, H2, e2, g2)
    k_upd
    refine fun ad na => ?_
    k_invariant "new" (na, H3, e3, g3)
    k_upd
    have hD2 := hD1.up e2
    have hA2 : ∀ x ∈ ps, H2 (A x.1) = some (.tup [.int (oneR S x.1 : Nat), .int (twoR S x.1 : Nat)]) := fun x m => e2 _ _ (hA1 x m)
    refine ⟨_, rfl, sd, ps, _, rfl, hD2.up e3, hF.2.1, by omega, fun H4 lp rs n4 e4 c4 nd4 mem4 l4 => ?_⟩
    obtain ⟨ts, hl, ht, ets⟩ := id c4
    refine ⟨lp, rfl, ⟨_, lst_of hl⟩, ?_⟩
    have lts : ts.length = rs.length := by rw [← ets, List.length_map]
    refine for_list (K := K) (a := lp) (xs := ts.map fun t => V.ref t.1) (fun i σ H' => Same H2 H' ∧ H' lp = some (.lst (ts.map fun t => V.ref t.1)) ∧ (∀ t ∈ ts, H' t.1 = some (.tup [.int t.2.1, .int t.2.2])) ∧
      (∃ x5 x6 x7 x8 x9 x10 : Option V, σ = [some (.ref d), some (.ref r), some (.ref sd), some (.ref pn), some (.ref ad), x5, x6, x7, x8, x9, x10]) ∧
      ∃ (qs : List Pr) (S' : Int → Nat), Floor H' ad qs S' ∧ (∀ r, S' r = if (r, 0) ∈ rs.take i then nextRow bs ss S r else 0) ∧ (∀ x ∈ qs, x ∈ rs ∧ nextRow bs ss S x.1 ≠ 0) ∧ qs.length ≤ i)
      ⟨e3.trans e4, hl, ht, ⟨_, _, _, _, _, _, rfl⟩, [], fun _ => 0, ⟨(Dct.new _ g3).up e4, fun _ m => (by cases m), fun _ _ => rfl⟩, fun r => by simp, fun _ m => (by cases m), Nat.le_refl _⟩ (fun i σ H' _ p => lst_of p.2.1) ?_ ?_
    · rintro i x σ H' hi ⟨sm, hl', htt, ⟨x5, x6, x7, x8, x9, x10, rfl⟩, qs, S', hF', hS', mq, lq⟩
      obtain ⟨t, mt, rfl, hx⟩ := item_cells (H := H') hi rfl
      rw [ets] at hx
      have li : i < rs.length := (List.getElem?_eq_some_iff.mp hx).1
      have ht' := htt t mt
      obtain ⟨⟨ta, row, c0⟩, ht''⟩ : ∃ t' : Addr × Pr, t' = t := ⟨t, rfl⟩
      subst ht''
      dsimp only at ht' hx
      have zz : c0 = 0 := ((mem4 _).mp (List.mem_of_getElem? hx)).1
      subst zz
      have up : ∀ {Hx : Hp}, Same H' Hx → Dct Hx sd ps (fun x => .ref (A x.1)) ∧ (∀ x ∈ ps, Hx (A x.1) = some (.tup [.int (oneR S x.1 : Nat), .int (twoR S x.1 : Nat)])) ∧ Hx pn = some (.tup [.int 0, .int 0]) := fun sx =>
        ⟨hD2.up (sm.trans sx), fun x m => sx _ _ (sm _ _ (hA2 x m)), sx _ _ (sm _ _ g2)⟩
      refine ⟨ta, _, rfl, tup_of ht', rfl, _, _, rfl, _, _, rfl, rfl, ?_⟩
      k_upd
      refine ⟨_, rfl, sd, rfl, (hD2.up sm).isD, _, rfl, _, _, rfl, rfl, _, rfl, (by k_clsL), fun p5 n5 => ?_⟩
      k_invariant "new" (n5, H5, e5, g5)
      obtain ⟨u1, u2, u3⟩ := up e5
      obtain ⟨o5, pa, dg5, od5, ga⟩ := sum_get u1 u2 hF.2.2 u3 g5
      refine ⟨_, rfl, o5, dg5, ?_⟩
      rw [od5]
      k_upd
      have s5 := e5
      refine ⟨_, rfl, sd, rfl, u1.isD, _, rfl, _, rfl, (by k_clsL), fun p6 n6 => ?_⟩
      k_invariant "new" (n6, H6, e6, g6)
      obtain ⟨u1, u2, u3⟩ := up (s5.trans e6)
      obtain ⟨o6, ph, dg6, od6, gh⟩ := sum_get u1 u2 hF.2.2 u3 g6
      refine ⟨_, rfl, o6, dg6, ?_⟩
      rw [od6]
      k_upd
      have s6 := s5.trans e6
      refine ⟨_, rfl, sd, rfl, u1.isD, _, rfl, _, _, rfl, rfl, _, rfl, (by k_clsL), fun p7 n7 => ?_⟩
      k_invariant "new" (n7, H7, e7, g7)
      obtain ⟨u1, u2, u3⟩ := up (s6.trans e7)
      obtain ⟨o7, pb, dg7, od7, gb⟩ := sum_get u1 u2 hF.2.2 u3 g7
      refine ⟨_, rfl, o7, dg7, ?_⟩
      rw [od7]
      k_upd
      have s7 := s6.trans e7
      have ga := (e6.trans e7) _ _ ga
      have gh := e7 _ _ gh
      have hFd : Floor H7 d ps S := hF.up (e1.trans (e2.trans (sm.trans s7)))
      refine ⟨_, rfl, d, rfl, hFd.1.isD, _, rfl, _, rfl, (by k_clsL), fun p8 n8 => ?_⟩
      k_invariant "new" (n8, H8, e8, g8)
      refine ⟨_, (hFd.up e8).get g8, ?_⟩
      rw [Floor.getD hF.2.2]
      refine ⟨_, rfl, _, rfl, _, rfl, pa, ph, pb, _, _, _, _, _, _, rfl, e8 _ _ ga, e8 _ _ gh, e8 _ _ gb, fun H9 p9 e9 n9 g9 => ?_⟩
      refine ⟨_, rfl, p9, r, S row, _, _, _, _, bs, ss, rfl, g9, hR.up (e1.trans (e2.trans (sm.trans (s7.trans (e8.trans e9))))), fun b m => ?_, hss, fun H10 e10 => ?_⟩
      · have := hb b m
        omega
      have s10 : Same H' H10 := s7.trans (e8.trans (e9.trans e10))
      have eN : nextN (S row) (one9 (oneR S (row - 1)) (oneR S row) (oneR S (row + 1))) (two9 (oneR S (row - 1)) (twoR S (row - 1)) (oneR S row) (twoR S row) (oneR S (row + 1)) (twoR S (row + 1)))
        (four9 (oneR S (row - 1)) (twoR S (row - 1)) (oneR S row) (twoR S row) (oneR S (row + 1)) (twoR S (row + 1))) (eight9 (oneR S (row - 1)) (twoR S (row - 1)) (oneR S row) (twoR S row) (oneR S (row + 1)) (twoR S (row + 1))) bs ss = nextRow bs ss S row := rfl
      rw [eN]
      k_upd
      have notin := nodup_next nd4 hx
      by_cases z : nextRow bs ss S row = 0
      · refine ⟨_, rfl, _, tru0 z, iteF ?_⟩
        refine ⟨sm.trans s10, s10 _ _ hl', fun t m => s10 _ _ (htt t m), ⟨_, _, _, _, _, _, rfl⟩, qs, S', hF'.up s10, fun r => ?_, mq, by omega⟩
        rw [hS', take_next hx]
        by_cases e : r = row
        · rw [e, if_neg notin, if_pos (List.mem_append.mpr (.inr (List.mem_singleton.mpr rfl))), z]
        · have : (r, (0 : Int)) ∈ rs.take i ++ [(row, 0)] ↔ (r, (0 : Int)) ∈ rs.take i := by
            rw [List.mem_append, List.mem_singleton]
            exact ⟨fun h => h.elim id fun z => absurd (congrArg Prod.fst z) e, .inl⟩
          by_cases m : (r, (0 : Int)) ∈ rs.take i
          · rw [if_pos m, if_pos (this.mpr m)]
          · rw [if_neg m, if_neg fun z => m (this.mp z)]
      · refine ⟨_, rfl, _, tru1 z, iteT ?_⟩
        refine ⟨_, rfl, _, rfl, _, rfl, _, rfl, (by k_clsL), fun p11 n11 => ?_⟩
        k_invariant "new" (n11, H11, e11, g11)
        have hF11 := hF'.up (s10.trans e11)
        obtain ⟨H12, dp, pa12⟩ := hF11.1.dput (x := (row, 0)) (by rw [sizeLine_eq]; omega) g11 (.int ((nextRow bs ss S row : Nat) : Int))
        have off : ∀ (b : Addr) (o : HO), H11 b = some o → (∀ kvs, o ≠ .dT kvs) → H12 b = some o := fun b o e ne => by
          rw [pa12.2 b fun z => ?_]
          · exact e
          · obtain ⟨kvs, h1, _⟩ := hF11.1
            rw [z, h1] at e
            exact ne kvs (Option.some.inj e).symm
        have s11 := s10.trans e11
        refine ⟨ad, H12, rfl, dp, pa12.mut (sm.trans s11) na, off _ _ (s11 _ _ hl') (fun _ z => by cases z), fun t m => off _ _ (s11 _ _ (htt t m)) (fun _ z => by cases z), ⟨_, _, _, _, _, _, rfl⟩, addK qs (row, 0), _, hF11.put pa12, fun r => ?_, fun x m => ?_, Nat.le_trans addK_len (Nat.add_le_add_right lq 1)⟩
        · rw [hS', take_next hx]
          by_cases e : r = row
          · rw [if_pos e, e, if_pos (List.mem_append.mpr (.inr (List.mem_singleton.mpr rfl)))]
          · rw [if_neg e]
            have : (r, (0 : Int)) ∈ rs.take i ++ [(row, 0)] ↔ (r, (0 : Int)) ∈ rs.take i := by
              rw [List.mem_append, List.mem_singleton]
              exact ⟨fun h => h.elim id fun z => absurd (congrArg Prod.fst z) e, .inl⟩
            by_cases m : (r, (0 : Int)) ∈ rs.take i
            · rw [if_pos m, if_pos (this.mpr m)]
            · rw [if_neg m, if_neg fun z => m (this.mp z)]
        · rcases mem_addK.mp m with m | e
          · exact mq x m
          · rw [e]
            exact ⟨List.mem_of_getElem? hx, z⟩
    · rintro σ H' ⟨sm, hl', htt, ⟨x5, x6, x7, x8, x9, x10, rfl⟩, qs, S', hF', hS', mq, lq⟩
      rw [List.length_map, List.take_of_length_le (by omega)] at hS'
      have eS : S' = nextRow bs ss S := by
        funext r
        rw [hS']
        by_cases m : (r, (0 : Int)) ∈ rs
        · rw [if_pos m]
        · rw [if_neg m]
          have no : ∀ x : Int, (x = r - 1 ∨ x = r ∨ x = r + 1) → S x = 0 := fun x hx => hF.2.2 x fun mx => m ((mem4 _).mpr ⟨rfl, (x, 0), mx, by
            show r = x - 1 ∨ r = x ∨ r = x + 1
            omega⟩)
          exact (nextRow_zero (no _ (.inl rfl)) (no _ (.inr (.inl rfl))) (no _ (.inr (.inr rfl)))).symm
      rw [eS] at hF'
      refine ⟨_, rfl, q H' ad qs (backS (e1.trans e2) na) (e1.trans (e2.trans sm)) hF' (fun x m => ((mem4 x).mp (mq x m).1).2) fun x m => (mq x m).2⟩
end
end My
namespace My
open PySem PySem.Spec PyProof.Rows L2 Vx
open TL
local macro_rules | `(tactic| k_invariant "new" ($n, $H:ident, $e:ident, $h:ident)) => `(tactic| (generalize hE : upd _ _ _ = $H; obtain ⟨$e:ident, $h:ident⟩ := gen_e hE $n; clear hE))
local macro_rules | `(tactic| k_places) => `(tactic| first
  | assumption
  | exact lst_of (by assumption)
  | exact tup_of (by assumption)
  | (refine getS (by assumption) ?_; k_places)
  | (refine Same.seq (by assumption) ?_; k_places)
  | (refine tupS (by assumption) ?_; k_places)
  | (refine lst_of ?_; k_places)
  | (refine tup_of ?_; k_places))
local macro_rules | `(tactic| k_subL) => `(tactic| first
  | k_places
  | solve_by_elim (maxDepth := 10) [getS, lst_of, tup_of, Same.seq, tupS])
local macro_rules | `(tactic| k_offL) => `(tactic| first
  | (show (0 : Int) < _; first | omega | decide)
  | (refine ⟨?_, ?_⟩ <;> first | omega | decide)
  | exact .inr ⟨by decide, by decide⟩
  | exact .inl ⟨by decide, by decide⟩
  | exact .inl ⟨by omega, by omega⟩
  | omega)
local macro_rules | `(tactic| k_clsL) => `(tactic| exact Nat.le_of_ble_eq_true rfl)
local macro_rules | `(tactic| k_upd) => `(tactic| simp only [L2.start, List.map_cons, List.map_nil, List.length_cons, List.length_nil, List.replicate_succ, List.replicate_zero, List.cons_append, List.nil_append, List.set_cons_zero, List.set_cons_succ])
section
variable {P : Program} {w : World} {K : PySem.W.Frag} {mg : Str → Option Value} {base : Heap}
def rowCells (first : Int) (S : Int → Nat) (x : Pr) : List Pr := (bitsB 2048 (S x.1)).map fun (j : Nat) => (x.1, first + (j : Int))
theorem bitsB_len (N n : Nat) : (bitsB N n).length ≤ N := by
  unfold bitsB
  exact Nat.le_trans (List.length_filter_le _ _) (by rw [List.length_range]; exact Nat.le_refl _)
theorem flat_len {α : Type} (f : Pr → List α) (B : Nat) (h : ∀ x, (f x).length ≤ B) : ∀ l : List Pr, ((l.map f).flatten).length ≤ l.length * B
  | [] => by simp
  | x :: l => by
    rw [List.map_cons, List.flatten_cons, List.length_append, List.length_cons, Nat.add_mul, Nat.one_mul]
    have := flat_len f B h l
    have := h x
    omega
theorem bitsB_asc (N n : Nat) : (bitsB N n).Pairwise (· < ·) := List.Pairwise.filter _ List.pairwise_lt_range
def sp_cells_of : Sp := fun vs H Q _ => ∃ (d : Addr) (first : Int) (ps : List Pr) (S : Int → Nat), vs = [.ref d, .int first] ∧ Floor H d ps S ∧ ps.length < 5000 ∧ (∀ r, S r < 2 ^ 2048) ∧
  ∀ (H' : Hp) (p : Addr) (qs : List Pr), H p = none → Same H H' → Cells H' p qs → qs.Pairwise ltP → (∀ x, x ∈ qs ↔ liveS first S x.1 x.2 = true) → Q (.ref p) H'
theorem ok_cells_of (T : Txt K mg) : FnOk P w K mg base CX0 1 T.f_cells_of T.d_cells_of ["floor", "first"] sp_cells_of := by
  refine T.F_cells_of.ok sc_cells_of (fun vs H Q E h => ?_) (fun cdv A outer s H vs Q E hr h => ?_)
  · obtain ⟨_, _, _, _, rfl, _⟩ := h
    rfl
  · obtain ⟨d, first, ps, S, rfl, hF, few, b1, q⟩ := h
    have hu : (A.deeper (envOfC (Str.ofString "cells_of") (defScope s_cells_of) s.heap.objs.size T.f_cells_of cdv)).units + 1 < cLine := by
      have := hr.units
      omega
    refine ⟨_, (pss_cons (ps_set (i := 2) sc_cells_of.nd rfl (.inl rfl) (pe_lst pa_nil))
      (pss_cons (ps_for PassesOwn.never rfl (pi_list (pe_callB (cr_sortedDT rfl) (by rfl) T.z_sorted (by decide +kernel) (pa_cons (pv 0) pa_nil))) (pg_tupK (K := K) (n := 2) rfl rfl (pgs_cons (pg_name (i := 3) sc_cells_of.nd rfl (.inl rfl)) (pgs_cons (pg_name (i := 4) sc_cells_of.nd rfl (.inl rfl)) pgs_nil)))
      (pss_cons (ps_set (i := 5) sc_cells_of.nd rfl (.inl rfl) (pe_op op_add (pv 1) (pe_op op_mul (pv 4) (pe_gcx (by rfl) T.c_WIDTH))))
      (pss_cons (ps_set (i := 6) sc_cells_of.nd rfl (.inl rfl) (pe_dget hu (pv 0) (pe_tup (pa_cons (pv 3) (pa_cons (pv 4) pa_nil))) (fun _ _ => rfl)))
      (pss_one (ps_while PassesOwn.never (pt_truth (pv 6) (by intro _; rfl))
      (pss_cons (ps_set (i := 7) sc_cells_of.nd rfl (.inl rfl) (pe_op op_and (pv 6) (pe_un un_neg (pv 6))))
      (pss_cons (ps_expr (pe_bm PySem.F.plainAttrs_list PySem.F.slot_list_append PySem.F.type_list_append mt_append (pv 2) (pa_cons (pe_tup (pa_cons (pv 3) (pa_cons (pe_op op_sub (pe_op op_add (pv 5) (pe_bits (pv 7))) pe_int) pa_nil))) pa_nil)))
      (pss_one (ps_aug (i := 6) sc_cells_of.nd rfl (.inl rfl) (pv 7) ip_xorNN)))))))))
      (pss_one (ps_ret (pv 2))))), ?_⟩
    k_upd
    refine ⟨by k_clsL, fun cl nc => ?_⟩
    k_invariant "new" (nc, H1, e1, g1)
    k_upd
    refine ⟨_, rfl, d, ps, _, rfl, hF.1.up e1, fun lp H2 ks e2 n2 c2 hks lks => ?_⟩
    obtain ⟨ts, hl, ht, ets⟩ := id c2
    have lts : ts.length = ks.length := by rw [← ets, List.length_map]
    refine ⟨lp, rfl, ⟨_, lst_of hl⟩, ?_⟩
    have nelc : lp ≠ cl := fun e => by rw [e, g1] at n2; cases n2
    have small : ∀ i, (((ks.take i).map (rowCells first S)).flatten).length ≤ 5000 * 2048 := fun i => by
      refine Nat.le_trans (flat_len (rowCells first S) 2048 (fun x => ?_) _) (Nat.mul_le_mul_right _ ?_)
      · unfold rowCells
        rw [List.length_map]
        exact bitsB_len _ _
      · rw [List.length_take]
        omega
    refine for_list (K := K) (a := lp) (xs := ts.map fun t => V.ref t.1) (fun i σ H' => Same H H' ∧ H' lp = some (.lst (ts.map fun t => V.ref t.1)) ∧ (∀ t ∈ ts, H' t.1 = some (.tup [.int t.2.1, .int t.2.2])) ∧
      (∃ x3 x4 x5 x6 x7 : Option V, σ = [some (.ref d), some (.int first), some (.ref cl), x3, x4, x5, x6, x7]) ∧
      ∃ us : List (Addr × Pr), H' cl = some (.lst (us.map fun t => V.ref t.1)) ∧ (∀ t ∈ us, H' t.1 = some (.tup [.int t.2.1, .int t.2.2])) ∧ us.map (·.2) = ((ks.take i).map (rowCells first S)).flatten)
      ⟨e1.trans e2, hl, ht, ⟨_, _, _, _, _, rfl⟩, [], e2 _ _ g1, fun _ m => (by cases m), rfl⟩ (fun i σ H' _ p => lst_of p.2.1) ?_ ?_
    · rintro i x σ H' hi ⟨sm, hl', htt, ⟨x3, x4, x5, x6, x7, rfl⟩, us, hus, htu, eus⟩
      obtain ⟨t, mt, rfl, hx⟩ := item_cells (H := H') hi rfl
      rw [ets] at hx
      have li : i < ks.length := (List.getElem?_eq_some_iff.mp hx).1
      have ht' := htt t mt
      obtain ⟨⟨ta, row, c0⟩, ht''⟩ : ∃ t' : Addr × Pr, t' = t := ⟨t, rfl⟩
      subst ht''
      dsimp only at ht' hx
      have mk : (row, c0) ∈ ps := (hks.2 _).mp (List.mem_of_getElem? hx)
      have zz : c0 = 0 := hF.2.1 _ mk
      subst zz
      refine ⟨ta, _, rfl, tup_of ht', rfl, _, _, rfl, _, _, rfl, rfl, ?_⟩
      k_upd
      refine ⟨_, rfl, _, rfl, _, _, rfl, rfl, .inl ⟨by decide, by decide⟩, _, _, rfl, rfl, ?_⟩
      k_upd
      rw [Int.zero_mul, Int.add_zero]
      refine ⟨_, rfl, _, rfl, _, rfl, (by k_clsL), fun p3 n3 => ?_⟩
      k_invariant "new" (n3, H3, e3, g3)
      have dg := (hF.up (sm.trans e3)).get g3
      rw [if_pos mk] at dg
      refine ⟨d, _, rfl, dg, ?_⟩
      k_upd
      refine while_by (fun σ H' => Same H H' ∧ H' lp = some (.lst (ts.map fun t => V.ref t.1)) ∧ (∀ t ∈ ts, H' t.1 = some (.tup [.int t.2.1, .int t.2.2])) ∧
        ∃ (R : Nat) (x7 : Option V), σ = [some (.ref d), some (.int first), some (.ref cl), some (.int row), some (.int 0), some (.int first), some (.int (R : Int)), x7] ∧ R < 2 ^ 2048 ∧
          ∃ us : List (Addr × Pr), H' cl = some (.lst (us.map fun t => V.ref t.1)) ∧ (∀ t ∈ us, H' t.1 = some (.tup [.int t.2.1, .int t.2.2])) ∧ us.map (·.2) ++ (bitsB 2048 R).map (fun (j : Nat) => ((row, first + (j : Int)) : Pr)) = ((ks.take (i + 1)).map (rowCells first S)).flatten)
        (fun σ _ => match σ with | [_, _, _, _, _, _, some (.int R), _] => (bitsB 2048 R.toNat).length | _ => 0)
        ⟨sm.trans e3, e3 _ _ hl', fun t m => e3 _ _ (htt t m), S row, _, rfl, b1 row, us, e3 _ _ hus, fun t m => e3 _ _ (htu t m), ?_⟩ ?_ ?_
      · rw [eus, take_next hx, List.map_append, List.flatten_append]
        congr 1
        show _ = (rowCells first S (row, 0) :: []).flatten
        rw [List.flatten_cons, List.flatten_nil, List.append_nil]
        rfl
      · rintro σ H4 ⟨sm, hl', htt, R, x7, rfl, lR, us, hus, htu, eus⟩
        by_cases z : R = 0
        · refine ⟨_, rfl, _, tru0 z, iteF ?_⟩
          rw [z, bits_zero, List.map_nil, List.append_nil] at eus
          exact ⟨sm, hl', htt, ⟨_, _, _, _, _, rfl⟩, us, hus, htu, eus⟩
        · obtain ⟨k, a, eR⟩ := low_bit R z
          subst eR
          refine ⟨_, rfl, _, tru1 z, iteT ?_⟩
          refine ⟨_, rfl, _, rfl, _, rfl, _, _, rfl, rfl, ?_⟩
          k_upd
          rw [low_and]
          have lu : us.length < sizeLine := by
            have s1 := small (i + 1)
            rw [← eus, List.length_append, List.length_map] at s1
            rw [sizeLine_eq]
            omega
          refine ⟨_, rfl, .inl ⟨rfl, _, lst_of hus⟩, _, rfl, _, rfl, _, rfl, _, rfl, ?_⟩
          rw [intBits_pow]
          refine ⟨_, _, rfl, rfl, _, _, rfl, rfl, (by k_clsL), ?_⟩
          dsimp only
          rw [show first + ((k + 1 : Nat) : Int) - 1 = first + (k : Int) by omega]
          refine fun p5 n5 => ?_
          k_invariant "new" (n5, H5, e5, g5)
          refine ⟨_, _, _, rfl, rfl, e5 _ _ hus, by rw [List.length_map]; exact lu, ?_⟩
          refine ⟨_, rfl, _, rfl, _, _, rfl, rfl, ?_⟩
          rw [low_xor]
          k_upd
          have off : ∀ (b : Addr) (o : HO), H5 b = some o → (∀ xs, o ≠ .lst xs) → upd H5 cl (.lst ((us.map fun t => V.ref t.1) ++ [.ref p5])) b = some o := fun b o e ne => by
            rw [upd_ne fun z => ?_]
            · exact e
            · rw [z, e5 _ _ hus] at e
              exact ne _ (Option.some.inj e).symm
          have low := bits_low (N := 2048) lR
          refine ⟨⟨mutS (sm.trans e5) nc, ?_, fun t m => off _ _ (e5 _ _ (htt t m)) (fun _ z => by cases z), _, _, rfl, Nat.lt_of_le_of_lt ?_ lR, us ++ [(p5, (row, first + (k : Int)))], ?_, fun t m => ?_, ?_⟩, ?_⟩
          · rw [upd_ne nelc]
            exact e5 _ _ hl'
          · exact Nat.mul_le_mul_left _ (by omega)
          · rw [upd_same, List.map_append]
            rfl
          · rcases List.mem_append.mp m with m | m
            · exact off _ _ (e5 _ _ (htu t m)) (fun _ z => by cases z)
            · rw [List.mem_singleton.mp m]
              exact off _ _ g5 (fun _ z => by cases z)
          · rw [List.map_append, ← eus, low, List.map_cons, List.append_assoc]
            rfl
          · show (bitsB 2048 (((2 ^ k * (2 * a) : Nat) : Int)).toNat).length < (bitsB 2048 (((2 ^ k * (2 * a + 1) : Nat) : Int)).toNat).length
            rw [Int.toNat_natCast, Int.toNat_natCast, low, List.length_cons]
            exact Nat.lt_succ_self _
      · exact fun σ H Q Q' m h => h.elim fun v h => ⟨v, h.1, h.2.elim fun k h => ⟨k, h.1, m _ _ h.2⟩⟩
    · rintro σ H' ⟨sm, hl', htt, ⟨x3, x4, x5, x6, x7, rfl⟩, us, hus, htu, eus⟩
      rw [List.length_map, List.take_of_length_le (by omega)] at eus
      refine ⟨_, rfl, q H' cl (us.map (·.2)) nc sm ⟨us, hus, htu, rfl⟩ ?_ fun x => ?_⟩
      · rw [eus, List.pairwise_flatten]
        refine ⟨fun l ml => ?_, ?_⟩
        · obtain ⟨x, mx, rfl⟩ := List.mem_map.mp ml
          unfold rowCells
          refine List.pairwise_map.mpr ((bitsB_asc 2048 (S x.1)).imp (S := fun a b => Vx.ltP (x.1, first + ((a : Nat) : Int)) (x.1, first + ((b : Nat) : Int))) fun {a b} (h : a < b) => ltP_iff.mpr (.inr ⟨rfl, by show first + ((a : Nat) : Int) < first + ((b : Nat) : Int); omega⟩))
        · refine List.pairwise_map.mpr (hks.1.imp_of_mem fun {a b} ma mb h => fun u mu v mv => ?_)
          obtain ⟨j, _, rfl⟩ := List.mem_map.mp mu
          obtain ⟨k, _, rfl⟩ := List.mem_map.mp mv
          have a0 := hF.2.1 a ((hks.2 a).mp ma)
          have b0 := hF.2.1 b ((hks.2 b).mp mb)
          refine ltP_iff.mpr (.inl ?_)
          have := ltP_iff.mp h
          show a.1 < b.1
          omega
      · rw [eus, List.mem_flatten]
        constructor
        · rintro ⟨l, ml, mx⟩
          obtain ⟨y, my, rfl⟩ := List.mem_map.mp ml
          obtain ⟨j, mj, rfl⟩ := List.mem_map.mp mx
          rw [liveS_at (j := j) (by omega)]
          exact (mem_bitsB.mp mj).2
        · intro h
          unfold liveS at h
          rw [Bool.and_eq_true, decide_eq_true_iff] at h
          have nz : S x.1 ≠ 0 := fun z => by
            rw [z, Nat.zero_testBit] at h
            exact Bool.noConfusion h.2
          have mx : (x.1, (0 : Int)) ∈ ps := Decidable.byContradiction fun z => nz (hF.2.2 _ z)
          refine ⟨rowCells first S (x.1, 0), List.mem_map.mpr ⟨_, (hks.2 _).mpr mx, rfl⟩, List.mem_map.mpr ⟨(x.2 - first).toNat, mem_bitsB.mpr ⟨?_, h.2⟩, ?_⟩⟩
          · refine Decidable.byContradiction fun z => ?_
            rw [Nat.testBit_lt_two_pow (Nat.lt_of_lt_of_le (b1 x.1) (Nat.pow_le_pow_right (by decide) (by omega)))] at h
            exact Bool.noConfusion h.2
          · refine Prod.ext rfl ?_
            show first + (((x.2 - first).toNat : Nat) : Int) = x.2
            omega
end
end My
namespace My
open PySem PySem.Spec PyProof.Rows L2 Vx
open TL
local macro_rules | `(tactic| k_invariant "new" ($n, $H:ident, $e:ident, $h:ident)) => `(tactic| (generalize hE : upd _ _ _ = $H; obtain ⟨$e:ident, $h:ident⟩ := gen_e hE $n; clear hE))
local macro_rules | `(tactic| k_places) => `(tactic| first
  | assumption
  | exact lst_of (by assumption)
  | exact tup_of (by assumption)
  | (refine getS (by assumption) ?_; k_places)
  | (refine Same.seq (by assumption) ?_; k_places)
  | (refine tupS (by assumption) ?_; k_places)
  | (refine lst_of ?_; k_places)
  | (refine tup_of ?_; k_places))
local macro_rules | `(tactic| k_subL) => `(tactic| first
  | k_places
  | solve_by_elim (maxDepth := 10) [getS, lst_of, tup_of, Same.seq, tupS])
local macro_rules | `(tactic| k_offL) => `(tactic| first
  | (show (0 : Int) < _; first | omega | decide)
  | (refine ⟨?_, ?_⟩ <;> first | omega | decide)
  | exact .inr ⟨by decide, by decide⟩
  | exact .inl ⟨by decide, by decide⟩
  | exact .inl ⟨by omega, by omega⟩
  | omega)
local macro_rules | `(tactic| k_clsL) => `(tactic| exact Nat.le_of_ble_eq_true rfl)
local macro_rules | `(tactic| k_upd) => `(tactic| simp only [L2.start, List.map_cons, List.map_nil, List.length_cons, List.length_nil, List.replicate_succ, List.replicate_zero, List.cons_append, List.nil_append, List.set_cons_zero, List.set_cons_succ])
section
variable {P : Program} {w : World} {K : PySem.W.Frag} {mg : Str → Option Value} {base : Heap}
def memL (ps : List Pr) (r c : Int) : Bool := decide ((r, c) ∈ ps)
theorem stepL_near {bs ss : List Int} {L : Int → Int → Bool} {r c : Int} (hb : ∀ b ∈ bs, 1 ≤ b ∧ b ≤ 8) (h : stepL bs ss L r c = true) : ∃ r' c', r - 1 ≤ r' ∧ r' ≤ r + 1 ∧ c - 1 ≤ c' ∧ c' ≤ c + 1 ∧ L r' c' = true := by
  by_cases z : L r c = true
  · exact ⟨r, c, by omega, by omega, by omega, by omega, z⟩
  · unfold stepL at h
    rw [if_neg z] at h
    have m := hb _ (of_decide_eq_true h)
    refine Classical.byContradiction fun no => ?_
    have off : ∀ r' c', r - 1 ≤ r' → r' ≤ r + 1 → c - 1 ≤ c' → c' ≤ c + 1 → L r' c' = false := fun r' c' a1 a2 a3 a4 => by
      cases e : L r' c' with
      | false => rfl
      | true => exact absurd ⟨r', c', a1, a2, a3, a4, e⟩ no
    have e : nb L r c = 0 := by
      unfold nb
      rw [off (r - 1) (c - 1), off (r - 1) c, off (r - 1) (c + 1), off r (c - 1), off r (c + 1), off (r + 1) (c - 1), off (r + 1) c, off (r + 1) (c + 1)] <;> first | rfl | omega
    rw [e] at m
    omega
theorem stepL_congr {bs ss : List Int} {L M : Int → Int → Bool} (h : ∀ r c, L r c = M r c) (r c : Int) : stepL bs ss L r c = stepL bs ss M r c := by
  have e : L = M := funext fun r => funext fun c => h r c
  rw [e]
theorem genL_none {bs ss : List Int} {L : Int → Int → Bool} (hb : ∀ b ∈ bs, 1 ≤ b ∧ b ≤ 8) (h : ∀ r c, L r c = false) : ∀ n r c, genL bs ss L n r c = false
  | 0, r, c => h r c
  | n + 1, r, c => by
    cases e : genL bs ss L (n + 1) r c with
    | false => rfl
    | true =>
      obtain ⟨r', c', _, _, _, _, z⟩ := stepL_near hb e
      rw [genL_none hb h n] at z
      cases z
theorem rows_len {qs : List Pr} {a b : Int} (nd : qs.Nodup) (z0 : ∀ x ∈ qs, x.2 = 0) (h : ∀ x ∈ qs, a ≤ x.1 ∧ x.1 ≤ b) : qs.length ≤ (b - a + 1).toNat := by
  have nd2 : (qs.map fun x => (x.1 - a).toNat).Nodup := by
    refine List.pairwise_map.mpr (nd.imp_of_mem fun {x y} mx my ne e => ne ?_)
    have := h x mx
    have := h y my
    exact Prod.ext (by omega) (by rw [z0 x mx, z0 y my])
  have := nat_nodup_len _ (List.range (b - a + 1).toNat) nd2 fun k m => by
    obtain ⟨x, mx, rfl⟩ := List.mem_map.mp m
    have := h x mx
    rw [List.mem_range]
    omega
  rwa [List.length_map, List.length_range] at this
theorem live_low {first : Int} {S : Int → Nat} {a : Int} (h : ∀ r c, liveS first S r c = true → a ≤ c - first) (ha : 1 ≤ a) (r : Int) : S r &&& 1 = 0 := by
  rw [Nat.and_one_is_mod]
  have t := Nat.testBit_zero (S r)
  cases e : (S r).testBit 0 with
  | true =>
    have := h r first (by rw [liveS_at (j := 0) (by omega)]; exact e)
    omega
  | false =>
    rw [e] at t
    have := of_decide_eq_false t.symm
    omega
theorem live_high {first : Int} {S : Int → Nat} {b : Int} {N : Nat} (h : ∀ r c, liveS first S r c = true → c - first ≤ b) (hb : b < (N : Int)) (r : Int) : S r < 2 ^ N := by
  refine Nat.lt_pow_two_of_testBit _ fun i hi => ?_
  cases e : (S r).testBit i with
  | false => rfl
  | true =>
    have := h r (first + (i : Int)) (by rw [liveS_at (j := i) (by omega)]; exact e)
    omega
def sp_grown (C : Addr) : Sp := fun vs H Q _ => ∃ (l r : Addr) (n : Int) (ps : List Pr) (bs ss : List Int) (r0 c0 : Int), vs = [.ref l, .ref r, .int n] ∧ 0 ≤ n ∧ n ≤ 500 ∧ Cells H l ps ∧ RuleAt C H r bs ss ∧ (∀ b ∈ bs, 1 ≤ b ∧ b ≤ 8) ∧ (∀ b ∈ ss, 0 ≤ b ∧ b ≤ 8) ∧ ps.length < 10000 ∧
  (∀ x ∈ ps, r0 ≤ x.1 ∧ x.1 ≤ r0 + 1000 ∧ c0 ≤ x.2 ∧ x.2 ≤ c0 + 1000) ∧
  ∀ (H' : Hp) (p : Addr) (qs : List Pr), H p = none → Same H H' → Cells H' p qs → qs.Pairwise ltP → (∀ x, x ∈ qs ↔ genL bs ss (memL ps) n.toNat x.1 x.2 = true) → Q (.ref p) H'
theorem ok_grown (T : Txt K mg) : FnOk P w K mg base CX0 4 T.f_grown T.d_grown ["cells", "rule", "generations"] (sp_grown T.C_Rule) := by
  refine T.F_grown.ok sc_grown (fun vs H Q E h => ?_) (fun cdv A outer s H vs Q E hr h => ?_)
  · obtain ⟨_, _, _, _, _, _, _, _, rfl, _⟩ := h
    rfl
  · obtain ⟨l, r, n, ps, bs, ss, r0, c0, rfl, n0, n1, hC, hR, hb, hss, few, box, q⟩ := h
    refine ⟨_, (pss_cons (ps_if (pt_not (pt_truth (pv 0) (by intro _; rfl)))
      (pss_one (ps_ret (pe_lst pa_nil)))
      pss_nil)
      (pss_cons (ps_set (i := 3) sc_grown.nd rfl (.inl rfl) (pe_op op_sub (pe_callB (cr_min rfl) (by rfl) T.z_min (by decide +kernel) (pa_cons (pe_lc (own := [("_", 5), ("column", 6)]) (tt := tYes) rfl sc_grown.nd (pi_list (pv 0)) (blkOk_by (own := [("_", 5), ("column", 6)]) (N := N_grown) (sc := defScope s_grown) (by decide +kernel)) (fun _ _ _ _ _ => (pg_tupK (K := K) (n := 2) rfl rfl (pgs_cons (pg_name (i := 5) sc_grown.nd rfl (.inl rfl)) (pgs_cons (pg_name (i := 6) sc_grown.nd rfl (.inl rfl)) pgs_nil)))) (fun _ _ _ _ _ => pts_nil) (fun _ _ _ _ _ => (pv 6))) pa_nil)) (pv 2)))
      (pss_cons (ps_set (i := 4) sc_grown.nd rfl (.inl rfl) (pe_call (ok_floor_of T) (hr.mono (by decide)) (by rfl) T.g_floor_of T.F_floor_of.kp T.b_floor_of .nil pass0 (pa_cons (pv 0) (pa_cons (pv 3) pa_nil))))
      (pss_cons (ps_for PassesOwn.never rfl (pi_range1 (by rfl) T.z_range (pa_cons (pv 2) pa_nil)) (pg_name (i := 5) sc_grown.nd rfl (.inl rfl))
      (pss_one (ps_set (i := 4) sc_grown.nd rfl (.inl rfl) (pe_call (ok_next_floor T) (hr.mono (by decide)) (by rfl) T.g_next_floor T.F_next_floor.kp T.b_next_floor .nil pass0 (pa_cons (pv 4) (pa_cons (pv 1) pa_nil))))))
      (pss_one (ps_ret (pe_call (ok_cells_of T) (hr.mono (by decide)) (by rfl) T.g_cells_of T.F_cells_of.kp T.b_cells_of .nil pass0 (pa_cons (pv 4) (pa_cons (pv 3) pa_nil))))))))), ?_⟩
    k_upd
    refine ⟨_, rfl, _, truC hC, ?_⟩
    cases ps with
    | nil =>
      refine iteT ?_
      refine ⟨by k_clsL, fun p np => q _ p [] np (newS np) ⟨[], upd_same, fun _ m => (by cases m), rfl⟩ List.Pairwise.nil fun x => ?_⟩
      rw [genL_none (L := memL []) hb (fun _ _ => by simp [memL])]
      exact ⟨fun m => (by cases m), fun z => Bool.noConfusion z⟩
    | cons y0 ps =>
      refine iteF ?_
      refine ⟨_, rfl, _, rfl, ⟨_, lst_of hC.choose_spec.1⟩, fun D nD => lc_nums (·.2) hC nD (by rw [sizeLine_eq]; omega) ?_ fun H1 e1 h1 => ?_⟩
      · intro t x H' Po Pn _ ht hq
        exact ⟨t, _, rfl, tup_of ht, rfl, _, _, rfl, _, _, rfl, rfl, wipe2 _ 5 6 _ _, tyesT ⟨_, rfl, hq⟩⟩
      refine ⟨_, _, rfl, lst_of h1, by simp, fun b mb lb => ?_⟩
      obtain ⟨yb, myb, eyb⟩ := List.mem_map.mp mb
      have bb := box yb myb
      have eyb : yb.2 = b := eyb
      have lb : ∀ x ∈ y0 :: ps, b ≤ x.2 := fun x m => lb _ (List.mem_map.mpr ⟨x, m, rfl⟩)
      refine ⟨_, rfl, _, _, rfl, rfl, ?_⟩
      k_upd
      obtain ⟨n, rfl⟩ := Int.eq_ofNat_of_zero_le n0
      obtain ⟨first, ef⟩ : ∃ first, first = b - (n : Int) := ⟨_, rfl⟩
      rw [← ef]
      refine ⟨_, rfl, _, rfl, l, first, y0 :: ps, rfl, hC.up e1, few, fun x m => ?_, fun H2 d qs S n2 e2 hF hS hq => ?_⟩
      · have := box x m
        have := lb x m
        omega
      have lS : ∀ r c, liveS first S r c = memL (y0 :: ps) r c := fun r c => by
        unfold memL
        rw [Bool.eq_iff_iff, decide_eq_true_iff]
        by_cases z : c - first < 0
        · rw [liveS_low z]
          refine ⟨fun z => Bool.noConfusion z, fun m => ?_⟩
          have := lb _ m
          dsimp only at this
          omega
        · obtain ⟨j, ej⟩ := Int.eq_ofNat_of_zero_le (show 0 ≤ c - first by omega)
          rw [liveS_at ej, hS]
          constructor
          · rintro ⟨x, m, a1, a2⟩
            have : x = (r, c) := Prod.ext a1 (by show x.2 = c; omega)
            rwa [this] at m
          · exact fun m => ⟨_, m, rfl, ej⟩
      k_upd
      refine ⟨_, rfl, _, rfl, by omega, by omega, for_range (lo := 0) (n := n) (fun i σ H' => Same H H' ∧ (∃ (x5 x6 : Option V) (d : Addr) (qs : List Pr) (S : Int → Nat), σ = [some (.ref l), some (.ref r), some (.int (n : Int)), some (.int first), some (.ref d), x5, x6] ∧ Floor H' d qs S ∧
          (∀ r c, liveS first S r c = genL bs ss (memL (y0 :: ps)) i r c) ∧ (∀ r c, liveS first S r c = true → (n : Int) - (i : Int) ≤ c - first ∧ c - first ≤ n + 1000 + (i : Int)) ∧ (∀ x ∈ qs, r0 - (i : Int) ≤ x.1 ∧ x.1 ≤ r0 + 1000 + (i : Int))))
        ⟨e1.trans e2, _, _, d, qs, S, rfl, hF, lS, fun r c z => ?_, fun x m => ?_⟩ ?_ ?_⟩
      · rw [lS] at z
        have m := of_decide_eq_true z
        have h3 := box _ m
        have h4 := lb _ m
        dsimp only at h3 h4
        omega
      · obtain ⟨y, my, ey⟩ := hq x m
        have := box y my
        omega
      · rintro i σ H' hi ⟨sm, x5, x6, d, qs, S, rfl, hF, hL, hc, hrw⟩
        have few2 : qs.length < 5000 := by
          have := rows_len hF.1.choose_spec.2.2 hF.2.1 hrw
          omega
        have b0 := live_low (a := (n : Int) - i) (fun r c z => (hc r c z).1) (by omega)
        have b1 := live_high (b := (n : Int) + 1000 + i) (N := 2047) (fun r c z => (hc r c z).2) (by omega)
        refine ⟨_, rfl, _, rfl, d, r, qs, S, bs, ss, rfl, hF, hR.up sm, hb, hss, few2, b0, b1, fun H3 d3 qs3 n3 e3 hF3 hq3 _ => ?_⟩
        have hL3 : ∀ r c, liveS first (nextRow bs ss S) r c = genL bs ss (memL (y0 :: ps)) (i + 1) r c := fun r c => by
          rw [nextRow_live first hb hss b0]
          exact stepL_congr hL r c
        refine ⟨sm.trans e3, _, _, d3, qs3, _, rfl, hF3, hL3, fun r c z => ?_, fun x m => ?_⟩
        · rw [nextRow_live first hb hss b0] at z
          obtain ⟨r', c', a1, a2, a3, a4, z⟩ := stepL_near hb z
          have := hc r' c' z
          omega
        · obtain ⟨y, my, ey⟩ := hq3 x m
          have := hrw y my
          omega
      · rintro σ H' ⟨sm, x5, x6, d, qs, S, rfl, hF, hL, hc, hrw⟩
        have few2 : qs.length < 5000 := by
          have := rows_len hF.1.choose_spec.2.2 hF.2.1 hrw
          omega
        refine ⟨_, rfl, _, rfl, d, first, qs, S, rfl, hF, few2, live_high (b := (n : Int) + 1000 + n) (N := 2048) (fun r c z => (hc r c z).2) (by omega), fun H3 p qs3 n3 e3 c3 pw mem => ?_⟩
        refine q H3 p qs3 (backS sm n3) (sm.trans e3) c3 pw fun x => ?_
        rw [mem, hL]
        exact Iff.rfl
end
end My
namespace My
open PySem PySem.Spec PyProof.Rows L2 Vx
open TL
local macro_rules | `(tactic| k_invariant "new" ($n, $H:ident, $e:ident, $h:ident)) => `(tactic| (generalize hE : upd _ _ _ = $H; obtain ⟨$e:ident, $h:ident⟩ := gen_e hE $n; clear hE))
local macro_rules | `(tactic| k_places) => `(tactic| first
  | assumption
  | exact lst_of (by assumption)
  | exact tup_of (by assumption)
  | (refine getS (by assumption) ?_; k_places)
  | (refine Same.seq (by assumption) ?_; k_places)
  | (refine tupS (by assumption) ?_; k_places)
  | (refine lst_of ?_; k_places)
  | (refine tup_of ?_; k_places))
local macro_rules | `(tactic| k_subL) => `(tactic| first
  | k_places
  | solve_by_elim (maxDepth := 10) [getS, lst_of, tup_of, Same.seq, tupS])
local macro_rules | `(tactic| k_offL) => `(tactic| first
  | (show (0 : Int) < _; first | omega | decide)
  | (refine ⟨?_, ?_⟩ <;> first | omega | decide)
  | exact .inr ⟨by decide, by decide⟩
  | exact .inl ⟨by decide, by decide⟩
  | exact .inl ⟨by omega, by omega⟩
  | omega)
local macro_rules | `(tactic| k_clsL) => `(tactic| exact Nat.le_of_ble_eq_true rfl)
local macro_rules | `(tactic| k_upd) => `(tactic| simp only [L2.start, List.map_cons, List.map_nil, List.length_cons, List.length_nil, List.replicate_succ, List.replicate_zero, List.cons_append, List.nil_append, List.set_cons_zero, List.set_cons_succ])
section
variable {P : Program} {w : World} {K : PySem.W.Frag} {mg : Str → Option Value} {base : Heap}
/-! ### the home form of a floor -/
def sp_home_floor : Sp := fun vs H Q _ => ∃ (d : Addr) (ps : List Pr) (S : Int → Nat), vs = [.ref d] ∧ Floor H d ps S ∧ ps ≠ [] ∧ ps.length < 5000 ∧ (∀ x ∈ ps, S x.1 ≠ 0) ∧ (∀ r, S r < 2 ^ 2048) ∧
  ∀ (H' : Hp) (p hd : Addr) (qs : List Pr) (top : Int) (left : Nat), H p = none → Same H H' → H' p = some (.tup [.ref hd, .int top, .int (left : Int)]) → Dct H' hd qs (fun x => .int ((S (x.1 + top) >>> left : Nat) : Int)) → (∀ x, x ∈ qs ↔ (x.1 + top, 0) ∈ ps ∧ x.2 = 0) → qs.length = ps.length →
    (∃ x ∈ ps, x.1 = top) → (∀ x ∈ ps, top ≤ x.1) → (∃ x ∈ ps, (S x.1).testBit left = true) → (∀ x ∈ ps, ∀ j < left, (S x.1).testBit j = false) → left < 2048 → Q (.ref p) H'
theorem shr_all {n k : Nat} (h : n < 2 ^ k) : n >>> k = 0 := by
  rw [Nat.shiftRight_eq_div_pow]
  exact Nat.div_eq_of_lt h
theorem and_full {n : Nat} {F : Nat} (h : n < 2 ^ 2048) (hF : F = 2 ^ 2048 - 1) : n &&& (F >>> 0) = n := by
  rw [Nat.shiftRight_zero, hF]
  exact Nat.and_two_pow_sub_one_of_lt_two_pow h
theorem and_low {n k F : Nat} (hF : F = 2 ^ 2048 - 1) (hk : k ≤ 2048) (z : ∀ j < k, n.testBit j = false) : n &&& (F >>> (2048 - k)) = 0 := by
  refine Nat.eq_of_testBit_eq fun j => ?_
  rw [Nat.testBit_and, Nat.zero_testBit, Nat.testBit_shiftRight, hF, Nat.testBit_two_pow_sub_one]
  by_cases c : j < k
  · rw [z j c]
    rfl
  · rw [decide_eq_false (by omega), Bool.and_false]
theorem shr_ne {n k : Nat} (h : n ≠ 0) (z : ∀ j < k, n.testBit j = false) : n >>> k ≠ 0 := fun e => h (Nat.eq_of_testBit_eq fun j => by
  rw [Nat.zero_testBit]
  by_cases c : j < k
  · exact z j c
  · have this : (n >>> k).testBit (j - k) = (0 : Nat).testBit (j - k) := by rw [e]
    rw [Nat.testBit_shiftRight, Nat.zero_testBit, show k + (j - k) = j by omega] at this
    exact this)
theorem ok_home_floor (T : Txt K mg) : FnOk P w K mg base CX0 1 T.f_home_floor T.d_home_floor ["floor"] sp_home_floor := by
  refine T.F_home_floor.ok sc_home_floor (fun vs H Q E h => ?_) (fun cdv A outer s H vs Q E hr h => ?_)
  · obtain ⟨_, _, _, rfl, _⟩ := h
    rfl
  · obtain ⟨d, ps, S, rfl, hF, pne, few, nz, b1, q⟩ := h
    have hu : (A.deeper (envOfC (Str.ofString "home_floor") (defScope s_home_floor) s.heap.objs.size T.f_home_floor cdv)).units + 1 < cLine := by
      have := hr.units
      omega
    refine ⟨_, (pss_cons (ps_set (i := 1) sc_home_floor.nd rfl (.inl rfl) (pe_op op_sub (pe_op op_shlNN pe_int (pe_gcx (by rfl) T.c_WIDTH)) pe_int))
      (pss_cons (ps_set (i := 2) sc_home_floor.nd rfl (.inl rfl) (pe_callB (cr_min rfl) (by rfl) T.z_min (by decide +kernel) (pa_cons (pe_lock (pe_lc (own := [("row", 10), ("_", 5)]) (tt := tYes) rfl sc_home_floor.nd (pi_keys (pv 0)) (blkOk_by (own := [("row", 10), ("_", 5)]) (N := N_home_floor) (sc := defScope s_home_floor) (by decide +kernel)) (fun _ _ _ _ _ => (pg_tupK (K := K) (n := 2) rfl rfl (pgs_cons (pg_name (i := 10) sc_home_floor.nd rfl (.inl rfl)) (pgs_cons (pg_name (i := 5) sc_home_floor.nd rfl (.inl rfl)) pgs_nil)))) (fun _ _ _ _ _ => pts_nil) (fun _ _ _ _ _ => (pv 10)))) pa_nil)))
      (pss_cons (ps_set (i := 3) sc_home_floor.nd rfl (.inl rfl) (pe_callB (cr_min rfl) (by rfl) T.z_min (by decide +kernel) (pa_cons (pe_lock (pe_lc (own := [("_", 5), ("at", 6)]) (tt := tYes) rfl sc_home_floor.nd (pi_keys (pv 0)) (blkOk_by (own := [("_", 5), ("at", 6)]) (N := N_home_floor) (sc := defScope s_home_floor) (by decide +kernel)) (fun _ _ _ _ _ => (pg_tupK (K := K) (n := 2) rfl rfl (pgs_cons (pg_name (i := 5) sc_home_floor.nd rfl (.inl rfl)) (pgs_cons (pg_name (i := 6) sc_home_floor.nd rfl (.inl rfl)) pgs_nil)))) (fun _ _ _ _ _ => pts_nil) (fun _ _ _ _ _ => (pv 6)))) pa_nil)))
      (pss_cons (ps_set (i := 4) sc_home_floor.nd rfl (.inl rfl) pe_int)
      (pss_cons (ps_lock (ps_for PassesOwn.never rfl (pi_itemsT (pv 0)) (pg_tupK (K := K) (n := 2) rfl rfl (pgs_cons (pg_tupK (K := K) (n := 2) rfl rfl (pgs_cons (pg_name (i := 5) sc_home_floor.nd rfl (.inl rfl)) (pgs_cons (pg_name (i := 6) sc_home_floor.nd rfl (.inl rfl)) pgs_nil))) (pgs_cons (pg_name (i := 7) sc_home_floor.nd rfl (.inl rfl)) pgs_nil)))
      (pss_one (ps_if (pt_cmpR op_eq (pv 6) (pv 3) (nomark _))
      (pss_one (ps_aug (i := 4) sc_home_floor.nd rfl (.inl rfl) (pv 7) ip_orNN))
      pss_nil))))
      (pss_cons (ps_set (i := 8) sc_home_floor.nd rfl (.inl rfl) (pe_op op_sub (pe_op op_add (pe_op op_mul (pv 3) (pe_gcx (by rfl) T.c_WIDTH)) (pe_bits (pe_op op_and (pv 4) (pe_un un_neg (pv 4))))) pe_int))
      (pss_cons (ps_set (i := 9) sc_home_floor.nd rfl (.inl rfl) pe_dnewT)
      (pss_cons (ps_lock (ps_for PassesOwn.never rfl (pi_itemsT (pv 0)) (pg_tupK (K := K) (n := 2) rfl rfl (pgs_cons (pg_tupK (K := K) (n := 2) rfl rfl (pgs_cons (pg_name (i := 10) sc_home_floor.nd rfl (.inl rfl)) (pgs_cons (pg_name (i := 6) sc_home_floor.nd rfl (.inl rfl)) pgs_nil))) (pgs_cons (pg_name (i := 7) sc_home_floor.nd rfl (.inl rfl)) pgs_nil)))
      (pss_cons (ps_asg (pe_callB call_divmod (by rfl) T.z_divmod (by decide +kernel) (pa_cons (pe_op op_sub (pe_op op_mul (pv 6) (pe_gcx (by rfl) T.c_WIDTH)) (pv 8)) (pa_cons (pe_gcx (by rfl) T.c_WIDTH) pa_nil))) (pg_tupK (K := K) (n := 2) rfl rfl (pgs_cons (pg_name (i := 11) sc_home_floor.nd rfl (.inl rfl)) (pgs_cons (pg_name (i := 12) sc_home_floor.nd rfl (.inl rfl)) pgs_nil))))
      (pss_cons (ps_set (i := 13) sc_home_floor.nd rfl (.inl rfl) (pe_op op_shlNN (pe_op op_andNN (pv 7) (pe_op op_shrNN (pv 1) (pv 12))) (pv 12)))
      (pss_cons (ps_set (i := 14) sc_home_floor.nd rfl (.inl rfl) (pe_op op_shrNN (pv 7) (pe_op op_sub (pe_gcx (by rfl) T.c_WIDTH) (pv 12))))
      (pss_cons (ps_if (pt_truth (pv 13) (by intro _; rfl))
      (pss_one (ps_dput hu (pv 9) (pe_tup (pa_cons (pe_op op_sub (pv 10) (pv 2)) (pa_cons (pv 11) pa_nil))) (pe_op op_orNN (pe_dget2 hu (pv 9) (pe_tup (pa_cons (pe_op op_sub (pv 10) (pv 2)) (pa_cons (pv 11) pa_nil))) pe_int ⟨rfl, rfl, rfl, rfl⟩) (pv 13)) rfl))
      pss_nil)
      (pss_one (ps_if (pt_truth (pv 14) (by intro _; rfl))
      (pss_one (ps_dput hu (pv 9) (pe_tup (pa_cons (pe_op op_sub (pv 10) (pv 2)) (pa_cons (pe_op op_add (pv 11) pe_int) pa_nil))) (pe_op op_orNN (pe_dget2 hu (pv 9) (pe_tup (pa_cons (pe_op op_sub (pv 10) (pv 2)) (pa_cons (pe_op op_add (pv 11) pe_int) pa_nil))) pe_int ⟨rfl, rfl, rfl, rfl⟩) (pv 14)) rfl))
      pss_nil))))))))
      (pss_one (ps_ret (pe_tup (pa_cons (pv 9) (pa_cons (pv 2) (pa_cons (pv 8) pa_nil)))))))))))))), ?_⟩
    k_upd
    obtain ⟨kvs, hd, hm⟩ := id hF.1
    refine ⟨1, 2048, 1, rfl, rfl, by decide, by decide, _, _, rfl, rfl, ?_⟩
    obtain ⟨B, F, hB, hFe, hBF⟩ := full_eq
    rw [← hB]
    k_upd
    rw [hBF]
    -- top
    refine ⟨d, _, hd, trivial, fun od => ⟨_, rfl, d, od, rfl, .inr ⟨kvs, upd_same, fun D nD => lc_keysN (·.1) hm.keys upd_same nD (by rw [sizeLine_eq]; omega) ?_ fun H1 e1 g1 => ?_⟩⟩⟩
    · intro t x H' Po Pn mx ht hq
      exact ⟨t, _, rfl, tup_of ht, rfl, _, _, rfl, _, _, rfl, rfl, wipe2 _ 10 5 _ _, tyesT ⟨_, rfl, hq⟩⟩
    have neD : D ≠ d := fun e => by
      rw [e, upd_same] at nD
      cases nD
    refine ⟨e1 _ _ upd_same, D, _, rfl, lst_of (by rw [upd_ne neD]; exact g1), ?_, fun top mtop ltop => ?_⟩
    · rw [List.length_map]
      exact List.length_pos_iff.mpr pne
    have s1 := unlock hd e1
    generalize upd H1 d (.dT kvs) = H2 at s1 ⊢
    clear e1 g1 nD neD
    obtain ⟨xt, mxt, ext⟩ := List.mem_map.mp mtop
    have ltop : ∀ x ∈ ps, top ≤ x.1 := fun x m => ltop _ (List.mem_map.mpr ⟨x, m, rfl⟩)
    k_upd
    -- first
    refine ⟨d, _, s1 _ _ hd, trivial, fun od => ⟨_, rfl, d, od, rfl, .inr ⟨kvs, upd_same, fun D nD => lc_keysN (·.2) hm.keys upd_same nD (by rw [sizeLine_eq]; omega) ?_ fun H3 e3 g3 => ?_⟩⟩⟩
    · intro t x H' Po Pn mx ht hq
      exact ⟨t, _, rfl, tup_of ht, rfl, _, _, rfl, _, _, rfl, rfl, wipe2 _ 5 6 _ _, tyesT ⟨_, rfl, hq⟩⟩
    have neD : D ≠ d := fun e => by
      rw [e, upd_same] at nD
      cases nD
    refine ⟨e3 _ _ upd_same, D, _, rfl, lst_of (by rw [upd_ne neD]; exact g3), ?_, fun fst mfst _ => ?_⟩
    · rw [List.length_map]
      exact List.length_pos_iff.mpr pne
    have s3 := s1.trans (unlock (s1 _ _ hd) e3)
    generalize upd H3 d (.dT kvs) = H4 at s3 ⊢
    have f0 : fst = 0 := by
      obtain ⟨x, m, e⟩ := List.mem_map.mp mfst
      rw [← e]
      exact hF.2.1 x m
    subst f0
    clear e3 g3 nD neD mfst s1
    k_upd
    -- edge
    refine ⟨d, _, s3 _ _ hd, trivial, fun od => ⟨_, rfl, d, od, kvs, rfl, upd_same, ?_⟩⟩
    obtain ⟨Hf, hHf⟩ : ∃ Hf, Hf = upd H4 d (.frz od (.dT kvs)) := ⟨_, rfl⟩
    have gf : Hf d = some (.frz od (.dT kvs)) := by rw [hHf, upd_same]
    rw [← hHf]
    refine for_it walk_itemsT (fun i σ H' => Same Hf H' ∧ ∃ (x5 x6 x7 : Option V) (E : Nat), σ = [some (.ref d), some (.int (F : Int)), some (.int top), some (.int 0), some (.int (E : Int)), x5, x6, x7, none, none, none, none, none, none, none] ∧ ∀ j, E.testBit j = true ↔ ∃ x ∈ ps.take i, (S x.1).testBit j = true)
      ⟨fun _ _ e => e, _, _, _, 0, rfl, fun j => by simp⟩ (fun i σ H' _ p => p.1 _ _ gf) ?_ ?_
    · rintro i x σ H2 H3 hi ⟨sm, x5, x6, x7, E, rfl, hE⟩ ⟨tt, k, v, q0, e, rfl, hq0, nt, rfl⟩
      obtain ⟨z, hz, rfl, rfl⟩ := hm.at e
      obtain ⟨row, c0⟩ := z
      have z0 : c0 = 0 := hF.2.1 _ (List.mem_of_getElem? hz)
      subst z0
      k_invariant "new" (nt, H3, e3, g3)
      have hq3 : H3 q0 = some (.tup [.int row, .int 0]) := e3 _ _ hq0
      refine ⟨tt, _, rfl, tup_of g3, rfl, _, _, rfl, ⟨q0, _, rfl, tup_of hq3, rfl, _, _, rfl, _, _, rfl, rfl, _, _, rfl, rfl, ?_⟩⟩
      k_upd
      refine ⟨_, rfl, _, rfl, rfl, _, rfl, iteT ?_⟩
      refine ⟨_, rfl, _, rfl, E, S row, rfl, rfl, ?_⟩
      refine ⟨sm.trans e3, _, _, _, E ||| S row, rfl, fun j => ?_⟩
      rw [Nat.testBit_or, Bool.or_eq_true, hE, take_next hz]
      constructor
      · rintro (⟨x, m, h⟩ | h)
        · exact ⟨x, List.mem_append.mpr (.inl m), h⟩
        · exact ⟨(row, 0), List.mem_append.mpr (.inr List.mem_cons_self), h⟩
      · rintro ⟨x, m, h⟩
        rcases List.mem_append.mp m with m | m
        · exact .inl ⟨x, m, h⟩
        · rw [List.mem_singleton.mp m] at h
          exact .inr h
    rintro σ H5 ⟨sm, x5, x6, x7, E, rfl, hE⟩
    rw [hm.len, List.take_of_length_le (Nat.le_refl _)] at hE
    have gd5 := sm _ _ gf
    rw [hHf] at sm
    refine ⟨gd5, ?_⟩
    have s5 := s3.trans (unlock (s3 _ _ hd) sm)
    generalize upd H5 d (.dT kvs) = H6 at s5 ⊢
    clear sm gd5 gf hHf s3 Hf H4
    have E0 : E ≠ 0 := fun z => by
      obtain ⟨j, hj⟩ := Nat.exists_testBit_of_ne_zero (nz xt mxt)
      have := (hE j).mpr ⟨xt, mxt, hj⟩
      rw [z, Nat.zero_testBit] at this
      cases this
    obtain ⟨k, a, eE⟩ := low_bit E E0
    have hk : E.testBit k = true := by rw [eE, low_test]; simp
    have hlow : ∀ x ∈ ps, ∀ j < k, (S x.1).testBit j = false := fun x m j hj => by
      cases e : (S x.1).testBit j with
      | false => rfl
      | true =>
        have := (hE j).mpr ⟨x, m, e⟩
        rw [eE, low_test] at this
        simp at this
        omega
    obtain ⟨xk, mxk, hxk⟩ := (hE k).mp hk
    have k2048 : k < 2048 := by
      refine Nat.lt_of_not_le fun c => ?_
      rw [Nat.testBit_lt_two_pow (Nat.lt_of_lt_of_le (b1 xk.1) (Nat.pow_le_pow_right (by decide) c))] at hxk
      cases hxk
    k_upd
    refine ⟨_, rfl, _, _, rfl, rfl, .inl ⟨by decide, by decide⟩, _, rfl, _, rfl, _, rfl, _, _, rfl, rfl, ?_⟩
    dsimp only
    rw [eE, low_and]
    refine ⟨_, rfl, ?_⟩
    rw [intBits_pow]
    refine ⟨_, _, rfl, rfl, _, _, rfl, rfl, ?_⟩
    dsimp only
    rw [show (0 : Int) * 2048 + ((k + 1 : Nat) : Int) - 1 = (k : Int) by omega]
    refine gName_go ?_
    k_upd
    rw [← eE]
    refine fun hd' nhd => ?_
    have nhdH : H hd' = none := backS s5 nhd
    have nehd : hd' ≠ d := fun e => by rw [e, s5 _ _ hd] at nhd; cases nhd
    k_invariant "new" (nhd, H7, e7, g7)
    k_upd
    have s7 := s5.trans e7
    refine ⟨d, _, s7 _ _ hd, trivial, fun od => ⟨_, rfl, d, od, kvs, rfl, upd_same, ?_⟩⟩
    obtain ⟨Hf, hHf⟩ : ∃ Hf, Hf = upd H6 d (.frz od (.dT kvs)) := ⟨_, rfl⟩
    have gf : Hf d = some (.frz od (.dT kvs)) := by rw [hHf, upd_same]
    have nf : Hf hd' = none := by rw [hHf, upd_ne nehd]; exact nhd
    refine for_it walk_itemsT (fun i σ H' => Same Hf H' ∧ (∃ (x5 x6 x7 x10 x11 x12 x13 x14 : Option V), σ = [some (.ref d), some (.int (F : Int)), some (.int top), some (.int 0), some (.int (E : Int)), x5, x6, x7, some (.int (k : Int)), some (.ref hd'), x10, x11, x12, x13, x14]) ∧ Dct H' hd' ((ps.take i).map fun x => (x.1 - top, 0)) (fun x => .int ((S (x.1 + top) >>> k : Nat) : Int)))
      ⟨by rw [hHf]; exact updS e7, ⟨_, _, _, _, _, _, _, _, rfl⟩, (Dct.new _ g7).off nehd⟩ (fun i σ H' _ p => p.1 _ _ gf) ?_ ?_
    · rintro i x σ H8 H9 hi ⟨sm, ⟨x5, x6, x7, x10, x11, x12, x13, x14, rfl⟩, hK⟩ ⟨tt, kk, v, q0, e, rfl, hq0, nt, rfl⟩
      obtain ⟨z, hz, rfl, rfl⟩ := hm.at e
      have li : i < ps.length := (List.getElem?_eq_some_iff.mp hz).1
      obtain ⟨row, c0⟩ := z
      have mz := List.mem_of_getElem? hz
      have z0 : c0 = 0 := hF.2.1 _ mz
      subst z0
      k_invariant "new" (nt, H9, e9, g9)
      have hq9 : H9 q0 = some (.tup [.int row, .int 0]) := e9 _ _ hq0
      refine ⟨tt, _, rfl, tup_of g9, rfl, _, _, rfl, ⟨q0, _, rfl, tup_of hq9, rfl, _, _, rfl, _, _, rfl, rfl, _, _, rfl, rfl, ?_⟩⟩
      k_upd
      have hK9 := hK.up e9
      have nin : ((row - top, 0) : Pr) ∉ (ps.take i).map fun x => ((x.1 - top, 0) : Pr) := fun m => by
        obtain ⟨y, my, ey⟩ := List.mem_map.mp m
        have e1 : y.1 - top = row - top := congrArg Prod.fst ey
        have e2 : y = (row, 0) := Prod.ext (by show y.1 = row; omega) (hF.2.1 y (List.mem_of_mem_take my))
        rw [e2] at my
        exact nodup_next hm.2 hz my
      have done : ∀ {H10 H11 : Hp}, Same H9 H10 → PutAt H10 hd' ((ps.take i).map fun x => ((x.1 - top, 0) : Pr)) (fun x => V.int ((S (x.1 + top) >>> k : Nat) : Int)) (row - top, 0) (.int ((S row >>> k : Nat) : Int)) H11 →
          Same Hf H11 ∧ Dct H11 hd' ((ps.take (i + 1)).map fun x => ((x.1 - top, 0) : Pr)) (fun x => V.int ((S (x.1 + top) >>> k : Nat) : Int)) := fun {H10 H11} e10 pa => by
        refine ⟨pa.mut (sm.trans (e9.trans e10)) nf, ?_⟩
        have := pa.1
        unfold addK at this
        rw [if_neg nin] at this
        rw [take_next hz, List.map_append]
        refine this.congr fun y _ => ?_
        unfold setG
        by_cases c : y = (row - top, 0)
        · rw [if_pos c, c]
          dsimp only
          rw [Int.sub_add_cancel]
        · rw [if_neg c]
      have lK : ((ps.take i).map fun x => ((x.1 - top, 0) : Pr)).length < sizeLine := by
        rw [List.length_map, List.length_take, sizeLine_eq]
        omega
      have low := hlow _ mz
      dsimp only at low
      by_cases k0 : k = 0
      · subst k0
        refine ⟨_, rfl, _, _, rfl, rfl, .inl ⟨by decide, by decide⟩, _, rfl, _, _, rfl, rfl, ?_⟩
        refine ⟨_, _, rfl, ⟨by decide, by decide⟩, fun p1 n1 => ?_⟩
        rw [show ((0 : Int) * 2048 - ((0 : Nat) : Int)) / 2048 = 0 by decide, show ((0 : Int) * 2048 - ((0 : Nat) : Int)) % 2048 = 0 by decide]
        k_invariant "new" (n1, H10, e10, g10)
        refine ⟨p1, _, rfl, tup_of g10, rfl, _, _, rfl, _, _, rfl, rfl, ?_⟩
        k_upd
        refine ⟨_, rfl, _, rfl, _, rfl, F, 0, rfl, rfl, S row, F >>> 0, rfl, rfl, _, rfl, S row &&& (F >>> 0), 0, 2048, rfl, rfl, ?_, by decide, ?_⟩
        · rw [and_full (b1 row) hFe]
          exact b1 row
        rw [and_full (b1 row) hFe, Nat.shiftLeft_zero]
        k_upd
        refine ⟨_, rfl, _, rfl, _, _, rfl, rfl, S row, 2048, rfl, rfl, ?_⟩
        rw [shr_all (b1 row)]
        k_upd
        refine ⟨_, rfl, _, tru1 (nz _ mz), iteT ?_⟩
        refine ⟨_, rfl, hd', rfl, (hK9.up e10).isD, _, rfl, _, rfl, _, _, rfl, rfl, _, rfl, (by k_clsL), fun p3 n3 => ?_⟩
        k_invariant "new" (n3, H11, e11, g11)
        have dg := (hK9.up (e10.trans e11)).dget (x := (row - top, 0)) g11
        rw [if_neg nin] at dg
        refine ⟨_, dg, ?_⟩
        refine ⟨_, rfl, 0, S row, rfl, rfl, ?_⟩
        rw [Nat.zero_or]
        refine ⟨_, rfl, _, rfl, _, rfl, _, _, rfl, rfl, _, rfl, (by k_clsL), fun p4 n4 => ?_⟩
        k_invariant "new" (n4, H12, e12, g12)
        obtain ⟨H13, dp, pa⟩ := (hK9.up (e10.trans (e11.trans e12))).dput (x := (row - top, 0)) lK g12 (.int ((S row : Nat) : Int))
        refine ⟨hd', H13, rfl, dp, ?_⟩
        k_upd
        refine ⟨_, rfl, _, tru0 rfl, iteF ?_⟩
        obtain ⟨d1, d2⟩ := done (e10.trans (e11.trans e12)) (by rw [Nat.shiftRight_zero]; exact pa)
        exact ⟨d1, ⟨_, _, _, _, _, _, _, _, rfl⟩, d2⟩
      · refine ⟨_, rfl, _, _, rfl, rfl, .inl ⟨by decide, by decide⟩, _, rfl, _, _, rfl, rfl, ?_⟩
        refine ⟨_, _, rfl, ⟨by decide, by decide⟩, fun p1 n1 => ?_⟩
        rw [show ((0 : Int) * 2048 - ((k : Nat) : Int)) / 2048 = -1 by omega, show ((0 : Int) * 2048 - ((k : Nat) : Int)) % 2048 = ((2048 - k : Nat) : Int) by omega]
        k_invariant "new" (n1, H10, e10, g10)
        refine ⟨p1, _, rfl, tup_of g10, rfl, _, _, rfl, _, _, rfl, rfl, ?_⟩
        k_upd
        refine ⟨_, rfl, _, rfl, _, rfl, F, 2048 - k, rfl, rfl, S row, F >>> (2048 - k), rfl, rfl, _, rfl, S row &&& (F >>> (2048 - k)), 2048 - k, 2048, rfl, rfl, ?_, by omega, ?_⟩
        · rw [and_low hFe (by omega) low]
          exact Nat.two_pow_pos 2048
        rw [and_low hFe (by omega) low, Nat.zero_shiftLeft]
        k_upd
        refine ⟨_, rfl, _, rfl, _, _, rfl, rfl, ?_⟩
        dsimp only
        rw [show (2048 : Int) - ((2048 - k : Nat) : Int) = (k : Int) by omega]
        refine ⟨S row, k, rfl, rfl, ?_⟩
        k_upd
        refine ⟨_, rfl, _, tru0 rfl, iteF ?_⟩
        refine ⟨_, rfl, _, tru1 (shr_ne (nz _ mz) low), iteT ?_⟩
        refine ⟨_, rfl, hd', rfl, (hK9.up e10).isD, _, rfl, _, rfl, _, _, rfl, rfl, _, rfl, _, _, rfl, rfl, (by k_clsL), fun p3 n3 => ?_⟩
        dsimp only
        k_invariant "new" (n3, H11, e11, g11)
        rw [show (-1 : Int) + 1 = 0 by decide] at g11
        have dg := (hK9.up (e10.trans e11)).dget (x := (row - top, 0)) g11
        rw [if_neg nin] at dg
        refine ⟨_, dg, ?_⟩
        refine ⟨_, rfl, 0, S row >>> k, rfl, rfl, ?_⟩
        rw [Nat.zero_or]
        refine ⟨_, rfl, _, rfl, _, rfl, _, _, rfl, rfl, _, rfl, _, _, rfl, rfl, (by k_clsL), fun p4 n4 => ?_⟩
        dsimp only
        k_invariant "new" (n4, H12, e12, g12)
        rw [show (-1 : Int) + 1 = 0 by decide] at g12
        obtain ⟨H13, dp, pa⟩ := (hK9.up (e10.trans (e11.trans e12))).dput (x := (row - top, 0)) lK g12 (.int ((S row >>> k : Nat) : Int))
        refine ⟨hd', H13, rfl, dp, ?_⟩
        obtain ⟨d1, d2⟩ := done (e10.trans (e11.trans e12)) pa
        exact ⟨d1, ⟨_, _, _, _, _, _, _, _, rfl⟩, d2⟩
    · rintro σ H8 ⟨sm, ⟨x5, x6, x7, x10, x11, x12, x13, x14, rfl⟩, hK⟩
      rw [hm.len, List.take_of_length_le (Nat.le_refl _)] at hK
      have gd8 := sm _ _ gf
      rw [hHf] at sm
      refine ⟨gd8, ?_⟩
      have s8 := s5.trans (unlock (s5 _ _ hd) sm)
      have hK8 := hK.off (o := .dT kvs) nehd
      generalize upd H8 d (.dT kvs) = H9 at s8 hK8 ⊢
      refine ⟨_, rfl, _, rfl, _, rfl, by k_clsL, fun pt npt => ?_⟩
      refine q _ pt hd' _ top k (backS s8 npt) (s8.trans (newS npt)) upd_same (hK8.up (newS npt)) (fun x => ?_) (by rw [List.length_map]) ⟨xt, mxt, ext⟩ ltop ⟨xk, mxk, hxk⟩ hlow k2048
      constructor
      · intro m
        obtain ⟨y, my, ey⟩ := List.mem_map.mp m
        rw [← ey]
        dsimp only
        rw [Int.sub_add_cancel]
        refine ⟨?_, rfl⟩
        have : y = (y.1, 0) := Prod.ext rfl (hF.2.1 y my)
        rw [← this]
        exact my
      · rintro ⟨m, z0⟩
        exact List.mem_map.mpr ⟨_, m, Prod.ext (by dsimp only; omega) z0.symm⟩
end
end My
namespace My
open PySem PySem.Spec PyProof.Rows L2 Vx
open TL
local macro_rules | `(tactic| k_invariant "new" ($n, $H:ident, $e:ident, $h:ident)) => `(tactic| (generalize hE : upd _ _ _ = $H; obtain ⟨$e:ident, $h:ident⟩ := gen_e hE $n; clear hE))
local macro_rules | `(tactic| k_places) => `(tactic| first
  | assumption
  | exact lst_of (by assumption)
  | exact tup_of (by assumption)
  | (refine getS (by assumption) ?_; k_places)
  | (refine Same.seq (by assumption) ?_; k_places)
  | (refine tupS (by assumption) ?_; k_places)
  | (refine lst_of ?_; k_places)
  | (refine tup_of ?_; k_places))
local macro_rules | `(tactic| k_subL) => `(tactic| first
  | k_places
  | solve_by_elim (maxDepth := 10) [getS, lst_of, tup_of, Same.seq, tupS])
local macro_rules | `(tactic| k_offL) => `(tactic| first
  | (show (0 : Int) < _; first | omega | decide)
  | (refine ⟨?_, ?_⟩ <;> first | omega | decide)
  | exact .inr ⟨by decide, by decide⟩
  | exact .inl ⟨by decide, by decide⟩
  | exact .inl ⟨by omega, by omega⟩
  | omega)
local macro_rules | `(tactic| k_clsL) => `(tactic| exact Nat.le_of_ble_eq_true rfl)
local macro_rules | `(tactic| k_upd) => `(tactic| simp only [L2.start, List.map_cons, List.map_nil, List.length_cons, List.length_nil, List.replicate_succ, List.replicate_zero, List.cons_append, List.nil_append, List.set_cons_zero, List.set_cons_succ])
section
variable {P : Program} {w : World} {K : PySem.W.Frag} {mg : Str → Option Value} {base : Heap}
/-! ### the mark of a floor -/
def FA : Int := 298173405613920847650129384756192837465
def PM : Int := 170141183460469231731687303715884105727
def mkS (S : Int → Nat) (m : Int) (x : Pr) : Int := (((m * FA + x.1) * FA + x.2) * FA + ((S x.1 : Nat) : Int)) % PM
def mkF (S : Int → Nat) (rs : List Pr) : Int := rs.foldl (mkS S) 0
def IsMark (S : Int → Nat) (mark : Int) : Prop := ∃ rs : List Pr, rs.Pairwise ltP ∧ (∀ x, x ∈ rs ↔ S x.1 ≠ 0 ∧ x.2 = 0) ∧ mark = mkF S rs
theorem IsMark.uniq {S : Int → Nat} {m n : Int} (h : IsMark S m) (h2 : IsMark S n) : m = n := by
  obtain ⟨rs, a1, a2, rfl⟩ := h
  obtain ⟨ss, b1, b2, rfl⟩ := h2
  rw [ascP_eq a1 b1 fun x => (a2 x).trans (b2 x).symm]
def Mkd (ps : List Pr) (S : Int → Nat) (mark top left : Int) : Prop := (ps = [] ∧ mark = 0 ∧ top = 0 ∧ left = 0) ∨
  ∃ l : Nat, left = (l : Int) ∧ IsMark (fun r => S (r + top) >>> l) mark ∧ (∃ x ∈ ps, x.1 = top) ∧ (∀ x ∈ ps, top ≤ x.1) ∧ (∃ x ∈ ps, (S x.1).testBit l = true) ∧ ∀ x ∈ ps, ∀ j < l, (S x.1).testBit j = false
def sp_marked : Sp := fun vs H Q _ => ∃ (d : Addr) (ps : List Pr) (S : Int → Nat), vs = [.ref d] ∧ Floor H d ps S ∧ ps.length < 5000 ∧ (∀ x ∈ ps, S x.1 ≠ 0) ∧ (∀ r, S r < 2 ^ 2048) ∧ (∀ x ∈ ps, x.1.natAbs < 2 ^ 60) ∧
  ∀ (H' : Hp) (p : Addr) (mark top left : Int), H p = none → Same H H' → H' p = some (.tup [.int mark, .int top, .int left]) → Mkd ps S mark top left → Q (.ref p) H'
theorem nb_mul {x : Int} {a : Nat} (h : x.natAbs < 2 ^ a) : (x * FA).natAbs < 2 ^ (a + 128) := by
  rw [Int.natAbs_mul, Nat.pow_add]
  exact Nat.mul_lt_mul'' h (by decide)
theorem nb_add {x y : Int} {a : Nat} (hx : x.natAbs < 2 ^ a) (hy : y.natAbs < 2 ^ a) : (x + y).natAbs < 2 ^ (a + 1) := by
  have := Int.natAbs_add_le x y
  rw [Nat.pow_succ]
  omega
theorem nb_up {x : Int} {a b : Nat} (h : x.natAbs < 2 ^ a) (c : a ≤ b) : x.natAbs < 2 ^ b := Nat.lt_of_lt_of_le h (Nat.pow_le_pow_right (by decide) c)
theorem mkS_nb (S : Int → Nat) (m : Int) (x : Pr) : (mkS S m x).natAbs < 2 ^ 127 := by
  unfold mkS
  have h1 := Int.emod_nonneg (((m * FA + x.1) * FA + x.2) * FA + ((S x.1 : Nat) : Int)) (show PM ≠ 0 by decide)
  have h2 := Int.emod_lt_of_pos (((m * FA + x.1) * FA + x.2) * FA + ((S x.1 : Nat) : Int)) (show 0 < PM by decide)
  generalize (((m * FA + x.1) * FA + x.2) * FA + ((S x.1 : Nat) : Int)) % PM = z at h1 h2 ⊢
  have e : (2 : Nat) ^ 127 = 170141183460469231731687303715884105728 := by decide
  rw [e]
  unfold PM at h2
  omega
theorem ok_marked (T : Txt K mg) : FnOk P w K mg base CX0 2 T.f_marked T.d_marked ["floor"] sp_marked := by
  refine T.F_marked.ok sc_marked (fun vs H Q E h => ?_) (fun cdv A outer s H vs Q E hr h => ?_)
  · obtain ⟨_, _, _, rfl, _⟩ := h
    rfl
  · obtain ⟨d, ps, S, rfl, hF, few, nz, b1, bnd, q⟩ := h
    have hu : (A.deeper (envOfC (Str.ofString "_marked") (defScope s_marked) s.heap.objs.size T.f_marked cdv)).units + 1 < cLine := by
      have := hr.units
      omega
    refine ⟨_, (pss_cons (ps_if (pt_not (pt_truT (pv 0) (by intro _; rfl)))
      (pss_one (ps_ret (pe_tup (pa_cons pe_int (pa_cons pe_int (pa_cons pe_int pa_nil))))))
      pss_nil)
      (pss_cons (ps_asg (pe_call (ok_home_floor T) (hr.mono (by decide)) (by rfl) T.g_home_floor T.F_home_floor.kp T.b_home_floor .nil pass0 (pa_cons (pv 0) pa_nil)) (pg_tupK (K := K) (n := 3) rfl rfl (pgs_cons (pg_name (i := 1) sc_marked.nd rfl (.inl rfl)) (pgs_cons (pg_name (i := 2) sc_marked.nd rfl (.inl rfl)) (pgs_cons (pg_name (i := 3) sc_marked.nd rfl (.inl rfl)) pgs_nil)))))
      (pss_cons (ps_set (i := 4) sc_marked.nd rfl (.inl rfl) pe_int)
      (pss_cons (ps_for PassesOwn.never rfl (pi_list (pe_callB (cr_sortedDT rfl) (by rfl) T.z_sorted (by decide +kernel) (pa_cons (pv 1) pa_nil))) (pg_tupK (K := K) (n := 2) rfl rfl (pgs_cons (pg_name (i := 5) sc_marked.nd rfl (.inl rfl)) (pgs_cons (pg_name (i := 6) sc_marked.nd rfl (.inl rfl)) pgs_nil)))
      (pss_one (ps_set (i := 4) sc_marked.nd rfl (.inl rfl) (pe_op op_mod (pe_op op_add (pe_op op_mulW (pe_op op_add (pe_op op_mulW (pe_op op_add (pe_op op_mulW (pv 4) (pe_gcx (by rfl) T.c_FACTOR)) (pv 5)) (pe_gcx (by rfl) T.c_FACTOR)) (pv 6)) (pe_gcx (by rfl) T.c_FACTOR)) (pe_dget hu (pv 1) (pe_tup (pa_cons (pv 5) (pa_cons (pv 6) pa_nil))) (fun _ _ => rfl))) (pe_gcx (by rfl) T.c_PRIME)))))
      (pss_one (ps_ret (pe_tup (pa_cons (pv 4) (pa_cons (pv 2) (pa_cons (pv 3) pa_nil)))))))))), ?_⟩
    k_upd
    obtain ⟨kvs, hd, hm⟩ := id hF.1
    refine ⟨_, rfl, d, kvs, rfl, hd, ?_⟩
    by_cases pne : ps = []
    · subst pne
      obtain ⟨ek, _⟩ := id hm
      rw [List.map_nil] at ek
      subst ek
      refine iteT ?_
      exact ⟨by k_clsL, fun p np => q _ p 0 0 0 np (newS np) upd_same (.inl ⟨rfl, rfl, rfl, rfl⟩)⟩
    have ke : kvs.isEmpty = false := by
      cases kvs with
      | nil =>
        have := hm.len
        exact absurd (List.eq_nil_of_length_eq_zero this.symm) pne
      | cons _ _ => rfl
    rw [ke]
    refine iteF ?_
    refine ⟨_, rfl, d, ps, S, rfl, hF, pne, few, nz, b1, fun H1 p1 hd' qs top left n1 e1 g1 hK memq lq ⟨xt, mxt, ext⟩ ltop hleft hlow _ => ?_⟩
    refine ⟨p1, _, rfl, tup_of g1, rfl, _, _, rfl, _, _, rfl, _, _, rfl, rfl, ?_⟩
    k_upd
    have memS : ∀ x : Pr, x ∈ qs ↔ S (x.1 + top) >>> left ≠ 0 ∧ x.2 = 0 := fun x => by
      rw [memq]
      constructor
      · rintro ⟨m, z⟩
        exact ⟨shr_ne (nz _ m) (hlow _ m), z⟩
      · rintro ⟨m, z⟩
        refine ⟨Classical.byContradiction fun c => m ?_, z⟩
        rw [hF.2.2 _ c, Nat.zero_shiftRight]
    refine ⟨_, rfl, hd', qs, _, rfl, hK, fun pl H2 rs e2 n2 hrs can lrs => ?_⟩
    obtain ⟨ts, hl, htt, ets⟩ := id hrs
    obtain ⟨S', eS'⟩ : ∃ S' : Int → Nat, S' = fun r => S (r + top) >>> left := ⟨_, rfl⟩
    have hK2 : Dct H2 hd' qs (fun x => .int ((S' x.1 : Nat) : Int)) := by
      rw [eS']
      exact hK.up e2
    refine ⟨pl, rfl, ⟨_, lst_of hl⟩, for_list (K := K) (a := pl) (xs := ts.map fun t => V.ref t.1) (fun i σ H' => Same H2 H' ∧ ∃ (x5 x6 : Option V) (m : Int), σ = [some (.ref d), some (.ref hd'), some (.int top), some (.int (left : Int)), some (.int m), x5, x6] ∧ m = mkF S' (rs.take i) ∧ m.natAbs < 2 ^ 127)
      ⟨fun _ _ z => z, _, _, 0, rfl, rfl, by decide⟩ (fun i σ H' _ p => lst_of (p.1 _ _ hl)) ?_ ?_⟩
    · rintro i x σ H3 hi ⟨sm, x5, x6, m, rfl, em, bm⟩
      obtain ⟨t, mt, rfl, hx⟩ := item_cells (H := H3) hi rfl
      rw [ets] at hx
      have ht' := sm _ _ (htt t mt)
      obtain ⟨⟨ta, row, c0⟩, ht''⟩ : ∃ t' : Addr × Pr, t' = t := ⟨t, rfl⟩
      subst ht''
      dsimp only at ht' hx
      have mq : (row, c0) ∈ qs := (can.2 _).mp (List.mem_of_getElem? hx)
      have zz : c0 = 0 := ((memq _).mp mq).2
      subst zz
      have brow : row.natAbs < 2 ^ 61 := by
        have h1 := bnd _ ((memq _).mp mq).1
        have h2 := bnd _ mxt
        dsimp only at h1
        rw [ext] at h2
        have e : (2 : Nat) ^ 61 = 2 * 2 ^ 60 := by decide
        omega
      refine ⟨ta, _, rfl, tup_of ht', rfl, _, _, rfl, _, _, rfl, rfl, ?_⟩
      k_upd
      have u1 := nb_mul bm
      have u2 := nb_add u1 (nb_up brow (by decide))
      have u3 := nb_mul u2
      have u4 := nb_add u3 (show (0 : Int).natAbs < 2 ^ _ from Nat.two_pow_pos _)
      have fa : FA.natAbs < 2 ^ 128 := by decide
      refine ⟨_, rfl, _, _, rfl, rfl, wide_mul bm fa (by decide) (by decide) (by decide), _, rfl, _, _, rfl, rfl, _, _, rfl, rfl, wide_mul u2 fa (by decide) (by decide) (by decide), _, rfl, _, _, rfl, rfl, _, _, rfl, rfl, wide_mul u4 fa (by decide) (by decide) (by decide), ?_⟩
      refine ⟨_, rfl, _, rfl, _, rfl, (by k_clsL), fun p3 n3 => ?_⟩
      k_invariant "new" (n3, H4, e4, g4)
      have dg := (hK2.up (sm.trans e4)).dget (x := (row, 0)) g4
      rw [if_pos mq] at dg
      refine ⟨hd', _, rfl, dg, _, _, rfl, rfl, _, _, rfl, rfl, (by show (0 : Int) < PM; decide), ?_⟩
      refine ⟨sm.trans e4, _, _, mkS S' m (row, 0), rfl, ?_, mkS_nb _ _ _⟩
      rw [take_next hx, em]
      unfold mkF
      rw [List.foldl_append]
      rfl
    · rintro σ H3 ⟨sm, x5, x6, m, rfl, em, bm⟩
      have ll : (ts.map fun t => V.ref t.1).length = rs.length := by rw [← ets, List.length_map, List.length_map]
      rw [ll, List.take_of_length_le (Nat.le_refl _)] at em
      k_upd
      refine ⟨_, rfl, _, rfl, _, rfl, by k_clsL, fun pt npt => ?_⟩
      refine q _ pt m top left (backS (e1.trans (e2.trans sm)) npt) ((e1.trans (e2.trans sm)).trans (newS npt)) upd_same (.inr ⟨left, rfl, ?_, ⟨xt, mxt, ext⟩, ltop, hleft, hlow⟩)
      rw [← eS']
      refine ⟨rs, can.1, fun x => ?_, em⟩
      rw [can.2, memS, eS']
end
end My
namespace My
open PySem PySem.Spec PyProof.Rows L2 Vx
open TL
local macro_rules | `(tactic| k_invariant "new" ($n, $H:ident, $e:ident, $h:ident)) => `(tactic| (generalize hE : upd _ _ _ = $H; obtain ⟨$e:ident, $h:ident⟩ := gen_e hE $n; clear hE))
local macro_rules | `(tactic| k_places) => `(tactic| first
  | assumption
  | exact lst_of (by assumption)
  | exact tup_of (by assumption)
  | (refine getS (by assumption) ?_; k_places)
  | (refine Same.seq (by assumption) ?_; k_places)
  | (refine tupS (by assumption) ?_; k_places)
  | (refine lst_of ?_; k_places)
  | (refine tup_of ?_; k_places))
local macro_rules | `(tactic| k_subL) => `(tactic| first
  | k_places
  | solve_by_elim (maxDepth := 10) [getS, lst_of, tup_of, Same.seq, tupS])
local macro_rules | `(tactic| k_offL) => `(tactic| first
  | (show (0 : Int) < _; first | omega | decide)
  | (refine ⟨?_, ?_⟩ <;> first | omega | decide)
  | exact .inr ⟨by decide, by decide⟩
  | exact .inl ⟨by decide, by decide⟩
  | exact .inl ⟨by omega, by omega⟩
  | omega)
local macro_rules | `(tactic| k_clsL) => `(tactic| exact Nat.le_of_ble_eq_true rfl)
local macro_rules | `(tactic| k_upd) => `(tactic| simp only [L2.start, List.map_cons, List.map_nil, List.length_cons, List.length_nil, List.replicate_succ, List.replicate_zero, List.cons_append, List.nil_append, List.set_cons_zero, List.set_cons_succ])
section
variable {P : Program} {w : World} {K : PySem.W.Frag} {mg : Str → Option Value} {base : Heap}
/-! ### patterns -/
def addP (dr dc : Int) (x : Pr) : Pr := (x.1 + dr, x.2 + dc)
def turnP (x : Pr) : Pr := (x.2, -x.1)
def mirP (x : Pr) : Pr := (x.1, -x.2)
def sp_pattern : Sp := fun vs H Q _ => ∃ (l : Addr) (ps : List Pr), vs = [.ref l] ∧ Cells H l ps ∧ ps.length ≤ 4000 ∧
  ∀ (H' : Hp) (p : Addr) (qs : List Pr), H p = none → Same H H' → Cells H' p qs → CanP ps qs → qs.length ≤ 4000 → Q (.ref p) H'
theorem ok_pattern (T : Txt K mg) : FnOk P w K mg base CX0 1 T.f_pattern T.d_pattern ["cells"] sp_pattern := by
  refine T.F_pattern.ok sc_pattern (fun vs H Q E h => ?_) (fun cdv A outer s H vs Q E hr h => ?_)
  · obtain ⟨_, _, rfl, _⟩ := h
    rfl
  · obtain ⟨l, ps, rfl, hC, few, q⟩ := h
    refine ⟨_, (pss_one (ps_ret (pe_callB (cr_sortedB rfl) (by rfl) T.z_sorted (by decide +kernel) (pa_cons (pe_callTy (cr_setB rfl hr.units) (by rfl) T.z_set (by decide +kernel) (pa_cons (pv 0) pa_nil)) pa_nil)))), ?_⟩
    exact ⟨_, rfl, _, _, rfl, hC, few, fun a H1 e1 n1 h1 => ⟨_, _, rfl, h1, fun p H2 qs e2 n2 h2 pw mem l2 => q H2 p qs (backS e1 n2) (e1.trans e2) h2 ⟨pw, mem⟩ l2⟩⟩
def sp_moved : Sp := fun vs H Q _ => ∃ (l : Addr) (ps : List Pr) (dr dc : Int), vs = [.ref l, .int dr, .int dc] ∧ Cells H l ps ∧ ps.length ≤ 4000 ∧
  ∀ (H' : Hp) (p : Addr) (qs : List Pr), H p = none → Same H H' → Cells H' p qs → CanP (ps.map (addP dr dc)) qs → qs.length ≤ 4000 → Q (.ref p) H'
theorem lt_line {n : Nat} (h : n ≤ 4000) : n < sizeLine := by
  rw [sizeLine_eq]
  omega
theorem ok_moved (T : Txt K mg) : FnOk P w K mg base CX0 2 T.f_moved T.d_moved ["cells", "rows", "columns"] sp_moved := by
  refine T.F_moved.ok sc_moved (fun vs H Q E h => ?_) (fun cdv A outer s H vs Q E hr h => ?_)
  · obtain ⟨_, _, _, _, rfl, _⟩ := h
    rfl
  · obtain ⟨l, ps, dr, dc, rfl, hC, few, q⟩ := h
    refine ⟨_, (pss_one (ps_ret (pe_call (ok_pattern T) (hr.mono (by decide)) (by rfl) T.g_pattern T.F_pattern.kp T.b_pattern .nil pass0 (pa_cons (pe_lc (own := [("row", 3), ("column", 4)]) (tt := tYes) rfl sc_moved.nd (pi_list (pv 0)) (blkOk_by (own := [("row", 3), ("column", 4)]) (N := N_moved) (sc := defScope s_moved) (by decide +kernel)) (fun _ _ _ _ _ => (pg_tupK (K := K) (n := 2) rfl rfl (pgs_cons (pg_name (i := 3) sc_moved.nd rfl (.inl rfl)) (pgs_cons (pg_name (i := 4) sc_moved.nd rfl (.inl rfl)) pgs_nil)))) (fun _ _ _ _ _ => pts_nil) (fun _ _ _ _ _ => (pe_tup (pa_cons (pe_op op_add (pv 3) (pv 1)) (pa_cons (pe_op op_add (pv 4) (pv 2)) pa_nil))))) pa_nil)))), ?_⟩
    refine ⟨_, rfl, _, rfl, ⟨_, lst_of hC.choose_spec.1⟩, fun D nD => lc_cells (addP dr dc) hC nD (lt_line few) ?_ fun H1 e1 h1 => ?_⟩
    · intro t x H' Po Pn _ ht hq
      exact ⟨t, _, rfl, tup_of ht, rfl, _, _, rfl, _, _, rfl, rfl, rfl, tyesT ⟨_, rfl, _, rfl, _, _, rfl, rfl, _, rfl, _, rfl, _, _, rfl, rfl, (by k_clsL), fun t2 n2 => hq t2 n2⟩⟩
    · exact ⟨_, _, rfl, h1, by rw [List.length_map]; exact few, fun H2 p qs n2 e2 h2 c2 l2 => q H2 p qs (backS e1 n2) (e1.trans e2) h2 c2 l2⟩
def sp_turned : Sp := fun vs H Q _ => ∃ (l : Addr) (ps : List Pr), vs = [.ref l] ∧ Cells H l ps ∧ ps.length ≤ 4000 ∧
  ∀ (H' : Hp) (p : Addr) (qs : List Pr), H p = none → Same H H' → Cells H' p qs → CanP (ps.map turnP) qs → qs.length ≤ 4000 → Q (.ref p) H'
/-! ### told fates -/
theorem genL_add {bs ss : List Int} {L : Int → Int → Bool} (n : Nat) : ∀ m, genL bs ss (genL bs ss L n) m = genL bs ss L (n + m)
  | 0 => rfl
  | m + 1 => by
    show stepL bs ss (genL bs ss (genL bs ss L n) m) = stepL bs ss (genL bs ss L (n + m))
    rw [genL_add n m]
theorem memL_eq {qs : List Pr} {L : Int → Int → Bool} (h : ∀ x : Pr, x ∈ qs ↔ L x.1 x.2 = true) : memL qs = L := funext fun r => funext fun c => by
  unfold memL
  rw [Bool.eq_iff_iff, decide_eq_true_iff, h]
theorem gen_box2 {bs ss : List Int} {L : Int → Int → Bool} {r0 r1 c0 c1 : Int} (hb : ∀ b ∈ bs, 1 ≤ b ∧ b ≤ 8) (h : ∀ r c, L r c = true → r0 ≤ r ∧ r ≤ r1 ∧ c0 ≤ c ∧ c ≤ c1) :
    ∀ n r c, genL bs ss L n r c = true → r0 - (n : Int) ≤ r ∧ r ≤ r1 + n ∧ c0 - (n : Int) ≤ c ∧ c ≤ c1 + n
  | 0, r, c, z => by
    have := h r c z
    omega
  | n + 1, r, c, z => by
    obtain ⟨r', c', a1, a2, a3, a4, z'⟩ := stepL_near hb z
    have := gen_box2 hb h n r' c' z'
    omega
theorem box_len2 {ps : List Pr} {r0 c0 : Int} {w : Nat} (nd : ps.Nodup) (h : ∀ x ∈ ps, r0 ≤ x.1 ∧ x.1 < r0 + (w : Int) ∧ c0 ≤ x.2 ∧ x.2 < c0 + (w : Int)) : ps.length ≤ w * w := by
  have nd2 : (ps.map fun x => (x.1 - r0).toNat * w + (x.2 - c0).toNat).Nodup := by
    refine List.pairwise_map.mpr (nd.imp_of_mem fun {x y} mx my ne e => ne ?_)
    obtain ⟨a1, a2, a3, a4⟩ := h x mx
    obtain ⟨b1, b2, b3, b4⟩ := h y my
    have c1 : (x.2 - c0).toNat < w := by omega
    have c2 : (y.2 - c0).toNat < w := by omega
    have m1 : ((x.1 - r0).toNat * w + (x.2 - c0).toNat) / w = (x.1 - r0).toNat := by
      rw [Nat.mul_comm, Nat.mul_add_div (by omega), Nat.div_eq_of_lt c1, Nat.add_zero]
    have m2 : ((y.1 - r0).toNat * w + (y.2 - c0).toNat) / w = (y.1 - r0).toNat := by
      rw [Nat.mul_comm, Nat.mul_add_div (by omega), Nat.div_eq_of_lt c2, Nat.add_zero]
    have e1 : (x.1 - r0).toNat = (y.1 - r0).toNat := by rw [← m1, ← m2, e]
    rw [e1] at e
    exact Prod.ext (by omega) (by omega)
  have := nat_nodup_len _ (List.range (w * w)) nd2 fun k m => by
    obtain ⟨x, mx, rfl⟩ := List.mem_map.mp m
    obtain ⟨a1, a2, a3, a4⟩ := h x mx
    have d0 : (x.1 - r0).toNat + 1 ≤ w := by omega
    have d1 : (x.2 - c0).toNat < w := by omega
    rw [List.mem_range]
    have := Nat.mul_le_mul_right w d0
    rw [Nat.add_mul, Nat.one_mul] at this
    omega
  rwa [List.length_map, List.length_range] at this
def Shift (L M : Int → Int → Bool) (dr dc : Int) : Prop := ∀ r c, L r c = M (r - dr) (c - dc)
def sp_holds (C : Addr) : Sp := fun vs H Q _ => ∃ (l r t : Addr) (start period : Nat) (rows cols : Int) (ps : List Pr) (bs ss : List Int) (r0 c0 : Int) (B : Nat), vs = [.ref l, .ref r, .ref t] ∧ H t = some (.tup [.int (start : Int), .int (period : Int), .int rows, .int cols]) ∧ start ≤ 500 ∧ period ≤ 500 ∧ Cells H l ps ∧ RuleAt C H r bs ss ∧ (∀ b ∈ bs, 1 ≤ b ∧ b ≤ 8) ∧ (∀ b ∈ ss, 0 ≤ b ∧ b ≤ 8) ∧ ps.length < 10000 ∧
  (∀ x ∈ ps, r0 ≤ x.1 ∧ x.1 < r0 + (B : Int) ∧ c0 ≤ x.2 ∧ x.2 < c0 + (B : Int)) ∧ (B + 2 * start) * (B + 2 * start) ≤ 4000 ∧ B + 2 * start ≤ 500 ∧
  ∀ (H' : Hp) (b : Bool), Same H H' → (b = true ↔ Shift (genL bs ss (memL ps) (start + period)) (genL bs ss (memL ps) start) rows cols) → Q (.bl b) H'
theorem ok_holds (T : Txt K mg) : FnOk P w K mg base CX0 5 T.f_holds T.d_holds ["cells", "rule", "told"] (sp_holds T.C_Rule) := by
  refine T.F_holds.ok sc_holds (fun vs H Q E h => ?_) (fun cdv A outer s H vs Q E hr h => ?_)
  · obtain ⟨_, _, _, _, _, _, _, _, _, _, _, _, _, rfl, _⟩ := h
    rfl
  · obtain ⟨l, r, t, start, period, rows, cols, ps, bs, ss, r0, c0, B, rfl, ht, hs1, hp1, hC, hR, hb, hss, few, box, sq, wd, q⟩ := h
    refine ⟨_, (pss_cons (ps_asg (pv 2) (pg_tupK (K := K) (n := 4) rfl rfl (pgs_cons (pg_name (i := 3) sc_holds.nd rfl (.inl rfl)) (pgs_cons (pg_name (i := 4) sc_holds.nd rfl (.inl rfl)) (pgs_cons (pg_name (i := 5) sc_holds.nd rfl (.inl rfl)) (pgs_cons (pg_name (i := 6) sc_holds.nd rfl (.inl rfl)) pgs_nil))))))
      (pss_cons (ps_set (i := 7) sc_holds.nd rfl (.inl rfl) (pe_call (ok_grown T) (hr.mono (by decide)) (by rfl) T.g_grown T.F_grown.kp T.b_grown .nil pass0 (pa_cons (pv 0) (pa_cons (pv 1) (pa_cons (pv 3) pa_nil)))))
      (pss_one (ps_ret (pe_cmpR (op_eqD hr.units) (pe_call (ok_grown T) (hr.mono (by decide)) (by rfl) T.g_grown T.F_grown.kp T.b_grown .nil pass0 (pa_cons (pv 7) (pa_cons (pv 1) (pa_cons (pv 4) pa_nil)))) (pe_call (ok_moved T) (hr.mono (by decide)) (by rfl) T.g_moved T.F_moved.kp T.b_moved .nil pass0 (pa_cons (pv 7) (pa_cons (pv 5) (pa_cons (pv 6) pa_nil)))) (nomark _)))))), ?_⟩
    k_upd
    refine ⟨_, rfl, t, _, rfl, tup_of ht, rfl, _, _, rfl, _, _, rfl, _, _, rfl, _, _, rfl, rfl, ?_⟩
    k_upd
    refine ⟨_, rfl, _, rfl, _, rfl, l, r, _, ps, bs, ss, r0, c0, rfl, by omega, by omega, hC, hR, hb, hss, few, (fun x m => by have := box x m; omega), fun H1 p1 fs n1 e1 hf pwf memf => ?_⟩
    rw [Int.toNat_natCast] at memf
    have boxf : ∀ x ∈ fs, r0 - (start : Int) ≤ x.1 ∧ x.1 < r0 - (start : Int) + ((B + 2 * start : Nat) : Int) ∧ c0 - (start : Int) ≤ x.2 ∧ x.2 < c0 - (start : Int) + ((B + 2 * start : Nat) : Int) := fun x m => by
      have := gen_box2 (r0 := r0) (r1 := r0 + (B : Int) - 1) (c0 := c0) (c1 := c0 + (B : Int) - 1) hb (fun r c z => by
        have := box _ (of_decide_eq_true z)
        dsimp only at this
        omega) start x.1 x.2 ((memf x).mp m)
      omega
    have lf := box_len2 (nodup_lt pwf) boxf
    have ef := memL_eq memf
    k_upd
    refine ⟨_, rfl, _, rfl, _, rfl, p1, r, _, fs, bs, ss, r0 - (start : Int), c0 - (start : Int), rfl, by omega, by omega, hf, hR.up e1, hb, hss, by omega, (fun x m => by have := boxf x m; omega), fun H2 p2 es n2 e2 he pwe meme => ?_⟩
    rw [Int.toNat_natCast, ef, genL_add] at meme
    refine ⟨_, rfl, _, rfl, _, rfl, p1, fs, _, _, rfl, hf.up e2, by omega, fun H3 p3 ms n3 e3 hm can _ => ?_⟩
    refine ⟨_, _, dp_cells (he.up e3), dp_cells hm, shaped_cells _, shaped_cells _, ?_⟩
    rw [eqv_cells]
    refine q H3 _ (e1.trans (e2.trans e3)) ?_
    rw [decide_eq_true_iff]
    have memm : ∀ x : Pr, x ∈ ms ↔ genL bs ss (memL ps) start (x.1 - rows) (x.2 - cols) = true := fun x => by
      rw [can.2]
      constructor
      · intro m
        obtain ⟨y, my, ey⟩ := List.mem_map.mp m
        have := (memf y).mp my
        rw [← ey]
        unfold addP
        dsimp only
        rw [Int.add_sub_cancel, Int.add_sub_cancel]
        exact this
      · intro z
        refine List.mem_map.mpr ⟨(x.1 - rows, x.2 - cols), (memf _).mpr z, ?_⟩
        unfold addP
        dsimp only
        rw [Int.sub_add_cancel, Int.sub_add_cancel]
    constructor
    · intro e r c
      rw [Bool.eq_iff_iff, ← meme (r, c), ← memm (r, c), e]
    · intro z
      refine ascP_eq pwe can.1 fun x => ?_
      rw [meme, memm, z]
end
end My
namespace My
open PySem PySem.Spec PyProof.Rows L2 Vx
open TL
local macro_rules | `(tactic| k_invariant "new" ($n, $H:ident, $e:ident, $h:ident)) => `(tactic| (generalize hE : upd _ _ _ = $H; obtain ⟨$e:ident, $h:ident⟩ := gen_e hE $n; clear hE))
local macro_rules | `(tactic| k_places) => `(tactic| first
  | assumption
  | exact lst_of (by assumption)
  | exact tup_of (by assumption)
  | (refine getS (by assumption) ?_; k_places)
  | (refine Same.seq (by assumption) ?_; k_places)
  | (refine tupS (by assumption) ?_; k_places)
  | (refine lst_of ?_; k_places)
  | (refine tup_of ?_; k_places))
local macro_rules | `(tactic| k_subL) => `(tactic| first
  | k_places
  | solve_by_elim (maxDepth := 10) [getS, lst_of, tup_of, Same.seq, tupS])
local macro_rules | `(tactic| k_offL) => `(tactic| first
  | (show (0 : Int) < _; first | omega | decide)
  | (refine ⟨?_, ?_⟩ <;> first | omega | decide)
  | exact .inr ⟨by decide, by decide⟩
  | exact .inl ⟨by decide, by decide⟩
  | exact .inl ⟨by omega, by omega⟩
  | omega)
local macro_rules | `(tactic| k_clsL) => `(tactic| exact Nat.le_of_ble_eq_true rfl)
local macro_rules | `(tactic| k_upd) => `(tactic| simp only [L2.start, List.map_cons, List.map_nil, List.length_cons, List.length_nil, List.replicate_succ, List.replicate_zero, List.cons_append, List.nil_append, List.set_cons_zero, List.set_cons_succ])
section
variable {P : Program} {w : World} {K : PySem.W.Frag} {mg : Str → Option Value} {base : Heap}
/-! ### marks of patterns -/
def TopL (L : Int → Int → Bool) (t l : Int) : Prop := (∃ c, L t c = true) ∧ (∃ r, L r l = true) ∧ ∀ r c, L r c = true → t ≤ r ∧ l ≤ c
def MkL (first : Int) (L : Int → Int → Bool) (mark top left : Int) : Prop := ((∀ r c, L r c = false) ∧ mark = 0 ∧ top = 0 ∧ left = 0) ∨
  (TopL L top (left + first) ∧ ∃ S : Int → Nat, IsMark S mark ∧ ∀ (r : Int) (j : Nat), (S r).testBit j = L (r + top) ((j : Int) + left + first))
theorem mkL_of {H : Hp} {d : Addr} {qs : List Pr} {S : Int → Nat} {first m t l : Int} {L : Int → Int → Bool} (hF : Floor H d qs S) (h : Mkd qs S m t l) (nz : ∀ x ∈ qs, S x.1 ≠ 0) (hL : ∀ r c, liveS first S r c = L r c) : MkL first L m t l := by
  rcases h with ⟨rfl, h1, h2, h3⟩ | ⟨k, rfl, hm, ⟨x, mx, ex⟩, ht, ⟨y, my, hy⟩, hlow⟩
  · refine .inl ⟨fun r c => ?_, h1, h2, h3⟩
    rw [← hL]
    unfold liveS
    rw [hF.2.2 r (by intro z; cases z), Nat.zero_testBit, Bool.and_false]
  · have lv : ∀ r (j : Nat), L r ((j : Int) + first) = (S r).testBit j := fun r j => by
      rw [← hL]
      exact liveS_at (by omega)
    refine .inr ⟨⟨?_, ⟨y.1, by rw [lv]; exact hy⟩, fun r c z => ?_⟩, _, hm, fun r j => ?_⟩
    · obtain ⟨j, hj⟩ := Nat.exists_testBit_of_ne_zero (nz x mx)
      exact ⟨(j : Int) + first, by rw [lv, ← ex]; exact hj⟩
    · rw [← hL] at z
      by_cases c0 : c - first < 0
      · rw [liveS_low c0] at z
        cases z
      · obtain ⟨j, ej⟩ := Int.eq_ofNat_of_zero_le (show 0 ≤ c - first by omega)
        rw [liveS_at ej] at z
        have mr : (r, (0 : Int)) ∈ qs := Classical.byContradiction fun no => by
          rw [hF.2.2 r no, Nat.zero_testBit] at z
          cases z
        refine ⟨ht _ mr, ?_⟩
        have : k ≤ j := Nat.le_of_not_lt fun lt => by
          have := hlow _ mr j lt
          dsimp only at this
          rw [this] at z
          cases z
        omega
    · rw [Nat.testBit_shiftRight, show (j : Int) + (k : Int) + first = ((k + j : Nat) : Int) + first by omega, lv]
theorem topL_shift {L M : Int → Int → Bool} {t l t' l' dr dc : Int} (h : TopL L t l) (h2 : TopL M t' l') (s : Shift L M dr dc) : t - t' = dr ∧ l - l' = dc := by
  obtain ⟨⟨c1, a1⟩, ⟨r1, a2⟩, a3⟩ := h
  obtain ⟨⟨c2, b1⟩, ⟨r2, b2⟩, b3⟩ := h2
  have e1 := b3 (t - dr) (c1 - dc) (by rw [← s]; exact a1)
  have e2 := b3 (r1 - dr) (l - dc) (by rw [← s]; exact a2)
  have e3 := a3 (t' + dr) (c2 + dc) (by rw [s, Int.add_sub_cancel, Int.add_sub_cancel]; exact b1)
  have e4 := a3 (r2 + dr) (l' + dc) (by rw [s, Int.add_sub_cancel, Int.add_sub_cancel]; exact b2)
  omega
theorem shift_empty {L M : Int → Int → Bool} {dr dc : Int} (s : Shift L M dr dc) (h : ∀ r c, M r c = false) : ∀ r c, L r c = false := fun r c => by rw [s]; exact h _ _
theorem mkL_shift {first : Int} {L M : Int → Int → Bool} {m t l m' t' l' dr dc : Int} (h : MkL first L m t l) (h2 : MkL first M m' t' l') (s : Shift L M dr dc) : m = m' ∧ Shift L M (t - t') (l - l') := by
  rcases h with ⟨z, rfl, rfl, rfl⟩ | ⟨tl, S, hm, hS⟩
  · have z2 : ∀ r c, M r c = false := fun r c => by
      have := s (r + dr) (c + dc)
      rw [Int.add_sub_cancel, Int.add_sub_cancel, z] at this
      exact this.symm
    rcases h2 with ⟨_, rfl, rfl, rfl⟩ | ⟨⟨⟨c, b⟩, _⟩, _⟩
    · exact ⟨rfl, fun r c => by rw [z, z2]⟩
    · rw [z2] at b
      cases b
  · rcases h2 with ⟨z, rfl, rfl, rfl⟩ | ⟨tl2, S2, hm2, hS2⟩
    · obtain ⟨⟨c, b⟩, _⟩ := tl
      rw [shift_empty s z] at b
      cases b
    · obtain ⟨e1, e2⟩ := topL_shift tl tl2 s
      have e2' : l - l' = dc := by omega
      refine ⟨?_, by rw [e1, e2']; exact s⟩
      have eS : S = S2 := funext fun r => Nat.eq_of_testBit_eq fun j => by
        rw [hS, hS2, s]
        congr 1 <;> omega
      rw [eS] at hm
      exact hm.uniq hm2
def Rep (G : Nat → Int → Int → Bool) (g s : Nat) : Prop := ∃ dr dc, Shift (G g) (G s) dr dc
/-- what stands in an ascending list before j is what is less -/
theorem asc_before {l : List Nat} (h : l.Pairwise (· < ·)) {j a b : Nat} (e : l[j]? = some a) (m : b ∈ l) (lt : b < a) : b ∈ l.take j := by
  obtain ⟨k, hk, ek⟩ := List.getElem_of_mem m
  obtain ⟨hj, ej⟩ := List.getElem?_eq_some_iff.mp e
  have : k < j := by
    rcases Nat.lt_trichotomy k j with c | c | c
    · exact c
    · subst c
      omega
    · have := List.pairwise_iff_getElem.mp h j k hj hk c
      omega
  refine List.mem_iff_getElem.mpr ⟨k, by rw [List.length_take]; omega, ?_⟩
  rw [List.getElem_take]
  exact ek
/-! ### what has been seen -/
def SeenAt (H0 H : Hp) (sd : Addr) (i : Nat) (T : Nat → Int × Int × Int) : Prop := ∃ kvs : List (L2.Key × V), H sd = some (.dK kvs) ∧ kvs.length ≤ i ∧
  (∀ m, valV kvs (Sum.inl m) = none → ∀ g < i, (T g).1 ≠ m) ∧
  (∀ m v, valV kvs (Sum.inl m) = some v → ∃ (a : Addr) (ts : List (Addr × Nat)), v = .ref a ∧ H0 a = none ∧ a ≠ sd ∧ H a = some (.lst (ts.map fun t => V.ref t.1)) ∧
    (∀ t ∈ ts, H t.1 = some (.tup [.int (t.2 : Int), .int (T t.2).2.1, .int (T t.2).2.2])) ∧ ts.map (·.2) = (List.range i).filter fun g => decide ((T g).1 = m)) ∧
  ∀ m m' a, valV kvs (Sum.inl m) = some (.ref a) → valV kvs (Sum.inl m') = some (.ref a) → m = m'
theorem SeenAt.up {H0 H H' : Hp} {sd : Addr} {i : Nat} {T : Nat → Int × Int × Int} (e : Same H H') (h : SeenAt H0 H sd i T) : SeenAt H0 H' sd i T := by
  obtain ⟨kvs, h1, h2, h3, h4, h5⟩ := h
  refine ⟨kvs, e _ _ h1, h2, h3, fun m v q => ?_, h5⟩
  obtain ⟨a, ts, a1, a2, a3, a4, a5, a6⟩ := h4 m v q
  exact ⟨a, ts, a1, a2, a3, e _ _ a4, fun t mt => e _ _ (a5 t mt), a6⟩
theorem SeenAt.start {H0 H : Hp} {sd : Addr} {T : Nat → Int × Int × Int} (h : H sd = some (.dK [])) : SeenAt H0 H sd 0 T :=
  ⟨[], h, Nat.le_refl _, (fun _ _ g z => absurd z (Nat.not_lt_zero _)), (fun m v z => by cases z), (fun m m' a z => by cases z)⟩
theorem SeenAt.congr {H0 H : Hp} {sd : Addr} {i : Nat} {T T' : Nat → Int × Int × Int} (h : SeenAt H0 H sd i T) (e : ∀ g < i, T g = T' g) : SeenAt H0 H sd i T' := by
  obtain ⟨kvs, h1, h2, h3, h4, h5⟩ := h
  refine ⟨kvs, h1, h2, fun m q g lt => by rw [← e g lt]; exact h3 m q g lt, fun m v q => ?_, h5⟩
  obtain ⟨a, ts, a1, a2, a3, a4, a5, a6⟩ := h4 m v q
  have fe : ((List.range i).filter fun g => decide ((T g).1 = m)) = (List.range i).filter fun g => decide ((T' g).1 = m) := List.filter_congr fun g mg => by rw [e g (List.mem_range.mp mg)]
  refine ⟨a, ts, a1, a2, a3, a4, fun t mt => ?_, a6.trans fe⟩
  have m2 : t.2 ∈ ts.map (·.2) := List.mem_map.mpr ⟨t, mt, rfl⟩
  rw [a6] at m2
  have := List.mem_range.mp (List.mem_filter.mp m2).1
  rw [← e _ this]
  exact a5 t mt
/-- one more: its list, new or not, has been made longer -/
theorem SeenAt.put {H0 H : Hp} {sd : Addr} {i : Nat} {T : Nat → Int × Int × Int} {kvs : List (L2.Key × V)} {a t : Addr} {ts : List (Addr × Nat)} (nsd : H0 sd = none)
    (h1 : H sd = some (.dK kvs)) (h2 : kvs.length ≤ i + 1) (h3 : ∀ m, valV kvs (Sum.inl m) = none → m ≠ (T i).1 ∧ ∀ g < i, (T g).1 ≠ m)
    (h4 : ∀ m v, m ≠ (T i).1 → valV kvs (Sum.inl m) = some v → ∃ (a : Addr) (ts : List (Addr × Nat)), v = .ref a ∧ H0 a = none ∧ a ≠ sd ∧ H a = some (.lst (ts.map fun t => V.ref t.1)) ∧
      (∀ t ∈ ts, H t.1 = some (.tup [.int (t.2 : Int), .int (T t.2).2.1, .int (T t.2).2.2])) ∧ ts.map (·.2) = (List.range i).filter fun g => decide ((T g).1 = m))
    (h5 : ∀ m m' a, valV kvs (Sum.inl m) = some (.ref a) → valV kvs (Sum.inl m') = some (.ref a) → m = m')
    (ha : valV kvs (Sum.inl (T i).1) = some (.ref a)) (na : H0 a = none) (asd : a ≠ sd) (hl : H a = some (.lst (ts.map fun t => V.ref t.1)))
    (htt : ∀ t ∈ ts, H t.1 = some (.tup [.int (t.2 : Int), .int (T t.2).2.1, .int (T t.2).2.2])) (ets : ts.map (·.2) = (List.range i).filter fun g => decide ((T g).1 = (T i).1))
    (ht : H t = some (.tup [.int (i : Int), .int (T i).2.1, .int (T i).2.2])) : SeenAt H0 (upd H a (.lst ((ts.map fun t => V.ref t.1) ++ [V.ref t]))) sd (i + 1) T := by
  have tup_off : ∀ {b : Addr} {xs : List V}, H b = some (.tup xs) → upd H a (.lst ((ts.map fun t => V.ref t.1) ++ [V.ref t])) b = some (.tup xs) := fun {b xs} e => by
    rw [upd_ne fun z => by rw [z, hl] at e; cases e]
    exact e
  refine ⟨kvs, by rw [upd_ne asd.symm]; exact h1, h2, fun m q g lt => ?_, fun m v q => ?_, h5⟩
  · obtain ⟨q1, q2⟩ := h3 m q
    rcases Nat.lt_or_eq_of_le (Nat.le_of_lt_succ lt) with c | c
    · exact q2 g c
    · subst c
      exact q1.symm
  · by_cases e : m = (T i).1
    · subst e
      rw [ha] at q
      refine ⟨a, ts ++ [(t, i)], (Option.some.inj q).symm, na, asd, ?_, fun u mu => ?_, ?_⟩
      · rw [upd_same, List.map_append]
        rfl
      · rcases List.mem_append.mp mu with mu | mu
        · exact tup_off (htt u mu)
        · rw [List.mem_singleton.mp mu]
          exact tup_off ht
      · rw [List.map_append, ets, List.range_succ, List.filter_append, List.filter_cons_of_pos (p := fun g => decide ((T g).1 = (T i).1)) (decide_eq_true rfl)]
        rfl
    · obtain ⟨b, us, b1, b2, b3, b4, b5, b6⟩ := h4 m v e q
      have ab : b ≠ a := fun z => e (h5 _ _ _ (by rw [q, b1, z]) ha)
      refine ⟨b, us, b1, b2, b3, by rw [upd_ne ab]; exact b4, fun u mu => tup_off (b5 u mu), ?_⟩
      rw [b6, List.range_succ, List.filter_append, List.filter_cons_of_neg (p := fun g => decide ((T g).1 = m)) (by rw [decide_eq_true_iff]; exact fun z => e z.symm), List.filter_nil, List.append_nil]
end
end My
namespace My
open PySem PySem.Spec PyProof.Rows L2 Vx
open TL
local macro_rules | `(tactic| k_invariant "new" ($n, $H:ident, $e:ident, $h:ident)) => `(tactic| (generalize hE : upd _ _ _ = $H; obtain ⟨$e:ident, $h:ident⟩ := gen_e hE $n; clear hE))
local macro_rules | `(tactic| k_places) => `(tactic| first
  | assumption
  | exact lst_of (by assumption)
  | exact tup_of (by assumption)
  | (refine getS (by assumption) ?_; k_places)
  | (refine Same.seq (by assumption) ?_; k_places)
  | (refine tupS (by assumption) ?_; k_places)
  | (refine lst_of ?_; k_places)
  | (refine tup_of ?_; k_places))
local macro_rules | `(tactic| k_subL) => `(tactic| first
  | k_places
  | solve_by_elim (maxDepth := 10) [getS, lst_of, tup_of, Same.seq, tupS])
local macro_rules | `(tactic| k_offL) => `(tactic| first
  | (show (0 : Int) < _; first | omega | decide)
  | (refine ⟨?_, ?_⟩ <;> first | omega | decide)
  | exact .inr ⟨by decide, by decide⟩
  | exact .inl ⟨by decide, by decide⟩
  | exact .inl ⟨by omega, by omega⟩
  | omega)
local macro_rules | `(tactic| k_clsL) => `(tactic| exact Nat.le_of_ble_eq_true rfl)
local macro_rules | `(tactic| k_upd) => `(tactic| simp only [L2.start, List.map_cons, List.map_nil, List.length_cons, List.length_nil, List.replicate_succ, List.replicate_zero, List.cons_append, List.nil_append, List.set_cons_zero, List.set_cons_succ])
section
variable {P : Program} {w : World} {K : PySem.W.Frag} {mg : Str → Option Value} {base : Heap}
/-! ### floors whose strips lie anywhere: the next floor ends -/
def NatD (H : Hp) (d : Addr) (ps : List Pr) : Prop := ∃ g : Pr → Nat, Dct H d ps (fun x => .int ((g x : Nat) : Int)) ∧ ∀ x ∈ ps, g x < 2 ^ 2048
theorem NatD.up {H H' : Hp} {d : Addr} {ps : List Pr} (e : Same H H') (h : NatD H d ps) : NatD H' d ps := by
  obtain ⟨g, a, b⟩ := h
  exact ⟨g, a.up e, b⟩
theorem NatD.get {H : Hp} {d b : Addr} {ps : List Pr} {x : Pr} (h : NatD H d ps) (e : H b = some (.tup [.int x.1, .int x.2])) : ∃ (o : Option V) (n : Nat), DGet H d (.ref b) o ∧ o.getD (.int 0) = .int (n : Int) ∧ n < 2 ^ 2048 := by
  obtain ⟨g, a, lt⟩ := h
  by_cases m : x ∈ ps
  · have := a.dget e
    rw [if_pos m] at this
    exact ⟨_, g x, this, rfl, lt x m⟩
  · have := a.dget e
    rw [if_neg m] at this
    exact ⟨_, 0, this, rfl, Nat.two_pow_pos _⟩
def SumD (H : Hp) (d : Addr) (ps : List Pr) : Prop := ∃ A : Pr → Addr, Dct H d ps (fun x => .ref (A x)) ∧ ∀ x ∈ ps, ∃ a b : Nat, H (A x) = some (.tup [.int (a : Int), .int (b : Int)])
theorem SumD.up {H H' : Hp} {d : Addr} {ps : List Pr} (e : Same H H') (h : SumD H d ps) : SumD H' d ps := by
  obtain ⟨A, a, b⟩ := h
  refine ⟨A, a.up e, fun x m => ?_⟩
  obtain ⟨u, v, c⟩ := b x m
  exact ⟨u, v, e _ _ c⟩
theorem SumD.get {H : Hp} {d b pn : Addr} {ps : List Pr} {x : Pr} (h : SumD H d ps) (hn : H pn = some (.tup [.int 0, .int 0])) (e : H b = some (.tup [.int x.1, .int x.2])) :
    ∃ (o : Option V) (pa : Addr) (u v : Nat), DGet H d (.ref b) o ∧ o.getD (.ref pn) = .ref pa ∧ H pa = some (.tup [.int (u : Int), .int (v : Int)]) := by
  obtain ⟨A, a, hA⟩ := h
  by_cases m : x ∈ ps
  · have := a.dget e
    rw [if_pos m] at this
    obtain ⟨u, v, c⟩ := hA x m
    exact ⟨_, A x, u, v, this, rfl, c⟩
  · have := a.dget e
    rw [if_neg m] at this
    exact ⟨_, pn, 0, 0, this, rfl, hn⟩
theorem trueD {H H' : Hp} {kd : Addr} {qs : List Pr} {x : Pr} (pa : PutAt H kd qs (fun _ => V.bl true) x (.bl true) H') : Dct H' kd (addK qs x) (fun _ => V.bl true) := pa.1.congr fun y _ => by
  unfold setG
  by_cases e : y = x
  · rw [if_pos e]
  · rw [if_neg e]
def sp_with_strips_beside_w : Sp := fun vs H Q _ => ∃ (d : Addr) (ps : List Pr), vs = [.ref d] ∧ NatD H d ps ∧ ps.length < 10000 ∧
  ∀ (H' : Hp) (p : Addr) (qs : List Pr), H p = none → Same H H' → Cells H' p qs → qs.Nodup → qs.length ≤ 3 * ps.length → Q (.ref p) H'
theorem ok_with_strips_beside_w (T : Txt K mg) : FnOk P w K mg base CX0 1 T.f_with_strips_beside T.d_with_strips_beside ["floor"] sp_with_strips_beside_w := by
  refine T.F_with_strips_beside.ok sc_with_strips_beside (fun vs H Q E h => ?_) (fun cdv A outer s H vs Q E hr h => ?_)
  · obtain ⟨_, _, rfl, _⟩ := h
    rfl
  · obtain ⟨d, ps, rfl, ⟨g, hD, _⟩, few, q⟩ := h
    have hu : (A.deeper (envOfC (Str.ofString "_with_strips_beside") (defScope s_with_strips_beside) s.heap.objs.size T.f_with_strips_beside cdv)).units + 1 < cLine := by
      have := hr.units
      omega
    refine ⟨_, (pss_cons (ps_set (i := 1) sc_with_strips_beside.nd rfl (.inl rfl) (pe_op op_sub (pe_gcx (by rfl) T.c_WIDTH) pe_int))
      (pss_cons (ps_set (i := 2) sc_with_strips_beside.nd rfl (.inl rfl) pe_dnewT)
      (pss_cons (ps_lock (ps_for PassesOwn.never rfl (pi_itemsT (pv 0)) (pg_tupK (K := K) (n := 2) rfl rfl (pgs_cons (pg_tupK (K := K) (n := 2) rfl rfl (pgs_cons (pg_name (i := 3) sc_with_strips_beside.nd rfl (.inl rfl)) (pgs_cons (pg_name (i := 4) sc_with_strips_beside.nd rfl (.inl rfl)) pgs_nil))) (pgs_cons (pg_name (i := 5) sc_with_strips_beside.nd rfl (.inl rfl)) pgs_nil)))
      (pss_cons (ps_dput hu (pv 2) (pe_tup (pa_cons (pv 3) (pa_cons (pv 4) pa_nil))) pe_bl rfl)
      (pss_cons (ps_mid (ps_if (pt_truth (pe_op op_andNN (pv 5) pe_int) (by intro _; rfl))
      (pss_one (ps_dput hu (pv 2) (pe_tup (pa_cons (pv 3) (pa_cons (pe_op op_sub (pv 4) pe_int) pa_nil))) pe_bl rfl))
      pss_nil))
      (pss_one (ps_if (pt_truth (pe_op op_shrNN (pv 5) (pv 1)) (by intro _; rfl))
      (pss_one (ps_dput hu (pv 2) (pe_tup (pa_cons (pv 3) (pa_cons (pe_op op_add (pv 4) pe_int) pa_nil))) pe_bl rfl))
      pss_nil))))))
      (pss_one (ps_ret (pe_callTy (cr_listP rfl) (by rfl) T.z_list (by decide +kernel) (pa_cons (pv 2) pa_nil))))))), ?_⟩
    k_upd
    obtain ⟨kvs, hd, hm⟩ := id hD
    refine ⟨_, _, rfl, rfl, fun kd nk => ?_⟩
    k_invariant "new" (nk, H1, e1, g1)
    k_upd
    have nekd : kd ≠ d := fun e => by rw [e, hd] at nk; cases nk
    refine ⟨d, _, e1 _ _ hd, trivial, fun od => ⟨_, rfl, d, od, kvs, rfl, upd_same, ?_⟩⟩
    obtain ⟨Hf, hHf⟩ : ∃ Hf, Hf = upd H d (.frz od (.dT kvs)) := ⟨_, rfl⟩
    have gf : Hf d = some (.frz od (.dT kvs)) := by rw [hHf, upd_same]
    have nf : Hf kd = none := by rw [hHf, upd_ne nekd]; exact nk
    refine for_it walk_itemsT (fun i σ H' => Same Hf H' ∧ (∃ x3 x4 x5 : Option V, σ = [some (.ref d), some (.int 2047), some (.ref kd), x3, x4, x5]) ∧ ∃ qs, Dct H' kd qs (fun _ => .bl true) ∧ qs.length ≤ 3 * i)
      ⟨by rw [hHf]; exact updS e1, ⟨_, _, _, rfl⟩, [], (Dct.new _ g1).off nekd, Nat.le_refl _⟩ (fun i σ H' _ p => p.1 _ _ gf) ?_ ?_
    · rintro i x σ H2 H3 hi ⟨sm, ⟨x3, x4, x5, rfl⟩, qs, hK, lq⟩ ⟨tt, k, v, q0, e, rfl, hq0, nt, rfl⟩
      obtain ⟨z, hz, rfl, rfl⟩ := hm.at e
      have li : i < ps.length := (List.getElem?_eq_some_iff.mp hz).1
      obtain ⟨row, c0⟩ := z
      k_invariant "new" (nt, H3, e3, g3)
      have hq3 : H3 q0 = some (.tup [.int row, .int c0]) := e3 _ _ hq0
      refine ⟨tt, _, rfl, tup_of g3, rfl, _, _, rfl, ⟨q0, _, rfl, tup_of hq3, rfl, _, _, rfl, _, _, rfl, rfl, _, _, rfl, rfl, ?_⟩⟩
      k_upd
      refine ⟨_, rfl, _, rfl, _, rfl, (by k_clsL), fun p4 n4 => ?_⟩
      k_invariant "new" (n4, H4, e4, g4)
      obtain ⟨H5, dp, pa⟩ := (hK.up (e3.trans e4)).dput (x := (row, c0)) (by rw [sizeLine_eq]; omega) g4 (.bl true)
      refine ⟨kd, H5, rfl, dp, ?_⟩
      have s5 := pa.mut (sm.trans (e3.trans e4)) nf
      have k5 := trueD pa
      have l5 := addK_len (ps := qs) (x := (row, c0))
      k_upd
      refine ⟨fun σ' H' => σ' = [some (.ref d), some (.int 2047), some (.ref kd), some (.int row), some (.int c0), some (.int ((g (row, c0) : Nat) : Int))] ∧ Same Hf H' ∧ ∃ rs, Dct H' kd rs (fun _ => .bl true) ∧ rs.length ≤ 3 * i + 2, ?_, ?_⟩
      · refine ⟨_, rfl, g (row, c0), 1, rfl, rfl, ?_⟩
        by_cases z1 : g (row, c0) &&& 1 = 0
        · exact ⟨_, tru0 z1, iteF ⟨rfl, s5, _, k5, by omega⟩⟩
        · refine ⟨_, tru1 z1, iteT ?_⟩
          refine ⟨_, rfl, _, rfl, _, rfl, _, _, rfl, rfl, (by k_clsL), fun p8 n8 => ?_⟩
          k_invariant "new" (n8, H8, e8, g8)
          obtain ⟨H9, dp9, pa9⟩ := (k5.up e8).dput (x := (row, c0 - 1)) (by rw [sizeLine_eq]; omega) g8 (.bl true)
          have l9 := addK_len (ps := addK qs (row, c0)) (x := (row, c0 - 1))
          exact ⟨kd, H9, rfl, dp9, rfl, pa9.mut (s5.trans e8) nf, _, trueD pa9, by omega⟩
      rintro σ H6 ⟨rfl, s6, rs, k6, l6⟩
      refine ⟨_, rfl, _, rfl, g (row, c0), 2047, rfl, rfl, ?_⟩
      by_cases z2 : g (row, c0) >>> 2047 = 0
      · exact ⟨_, tru0 z2, iteF ⟨s6, ⟨_, _, _, rfl⟩, _, k6, by omega⟩⟩
      · refine ⟨_, tru1 z2, iteT ?_⟩
        refine ⟨_, rfl, _, rfl, _, rfl, _, _, rfl, rfl, (by k_clsL), fun p8 n8 => ?_⟩
        k_invariant "new" (n8, H8, e8, g8)
        obtain ⟨H9, dp9, pa9⟩ := (k6.up e8).dput (x := (row, c0 + 1)) (by rw [sizeLine_eq]; omega) g8 (.bl true)
        have l9 := addK_len (ps := rs) (x := (row, c0 + 1))
        exact ⟨kd, H9, rfl, dp9, pa9.mut (s6.trans e8) nf, ⟨_, _, _, rfl⟩, _, trueD pa9, by omega⟩
    · rintro σ H2 ⟨sm, ⟨x3, x4, x5, rfl⟩, qs, hK, lq⟩
      rw [hm.len] at lq
      have gd2 := sm _ _ gf
      rw [hHf] at sm
      refine ⟨gd2, ?_⟩
      refine ⟨_, rfl, kd, qs, _, rfl, hK.off nekd, fun H3 p s3 n3 c3 => q H3 p qs ?_ ((unlock hd sm).trans s3) c3 hK.choose_spec.2.2 lq⟩
      exact backS (unlock hd sm) n3
def sp_row_sums_w : Sp := fun vs H Q _ => ∃ (d : Addr) (ps : List Pr), vs = [.ref d] ∧ NatD H d ps ∧ ps.length < 10000 ∧
  ∀ (H' : Hp) (p : Addr) (qs : List Pr), H p = none → Same H H' → SumD H' p qs → qs.length ≤ 3 * ps.length → Q (.ref p) H'
theorem ok_row_sums_w (T : Txt K mg) : FnOk P w K mg base CX0 2 T.f_row_sums T.d_row_sums ["floor"] sp_row_sums_w := by
  refine T.F_row_sums.ok sc_row_sums (fun vs H Q E h => ?_) (fun cdv A outer s H vs Q E hr h => ?_)
  · obtain ⟨_, _, rfl, _⟩ := h
    rfl
  · obtain ⟨d, ps, hN0, hN, few, q⟩ := h
    cases hN0
    have hu : (A.deeper (envOfC (Str.ofString "_row_sums") (defScope s_row_sums) s.heap.objs.size T.f_row_sums cdv)).units + 1 < cLine := by
      have := hr.units
      omega
    refine ⟨_, (pss_cons (ps_set (i := 1) sc_row_sums.nd rfl (.inl rfl) (pe_op op_sub (pe_gcx (by rfl) T.c_WIDTH) pe_int))
      (pss_cons (ps_set (i := 2) sc_row_sums.nd rfl (.inl rfl) (pe_op op_sub (pe_op op_shlNN pe_int (pe_gcx (by rfl) T.c_WIDTH)) pe_int))
      (pss_cons (ps_set (i := 3) sc_row_sums.nd rfl (.inl rfl) pe_dnewT)
      (pss_cons (ps_for PassesOwn.never rfl (pi_list (pe_call (ok_with_strips_beside_w T) (hr.mono (by decide)) (by rfl) T.g_with_strips_beside T.F_with_strips_beside.kp T.b_with_strips_beside .nil pass0 (pa_cons (pv 0) pa_nil))) (pg_tupK (K := K) (n := 2) rfl rfl (pgs_cons (pg_name (i := 4) sc_row_sums.nd rfl (.inl rfl)) (pgs_cons (pg_name (i := 5) sc_row_sums.nd rfl (.inl rfl)) pgs_nil)))
      (pss_cons (ps_set (i := 6) sc_row_sums.nd rfl (.inl rfl) (pe_dget2 hu (pv 0) (pe_tup (pa_cons (pv 4) (pa_cons (pv 5) pa_nil))) pe_int ⟨rfl, rfl, rfl, rfl⟩))
      (pss_cons (ps_set (i := 7) sc_row_sums.nd rfl (.inl rfl) (pe_op op_orNN (pe_op op_andNN (pe_op op_shlNN (pv 6) pe_int) (pv 2)) (pe_op op_shrNN (pe_dget2 hu (pv 0) (pe_tup (pa_cons (pv 4) (pa_cons (pe_op op_sub (pv 5) pe_int) pa_nil))) pe_int ⟨rfl, rfl, rfl, rfl⟩) (pv 1))))
      (pss_cons (ps_set (i := 8) sc_row_sums.nd rfl (.inl rfl) (pe_op op_orNN (pe_op op_shrNN (pv 6) pe_int) (pe_op op_shlNN (pe_op op_andNN (pe_dget2 hu (pv 0) (pe_tup (pa_cons (pv 4) (pa_cons (pe_op op_add (pv 5) pe_int) pa_nil))) pe_int ⟨rfl, rfl, rfl, rfl⟩) pe_int) (pv 1))))
      (pss_one (ps_dput hu (pv 3) (pe_tup (pa_cons (pv 4) (pa_cons (pv 5) pa_nil))) (pe_call (ok_sums_of T) (hr.mono (by decide)) (by rfl) T.g_sums_of T.F_sums_of.kp T.b_sums_of .nil pass0 (pa_cons (pv 7) (pa_cons (pv 6) (pa_cons (pv 8) pa_nil)))) rfl))))))
      (pss_one (ps_ret (pv 3))))))), ?_⟩
    k_upd
    refine ⟨_, _, rfl, rfl, ?_⟩
    refine ⟨1, 2048, 1, rfl, rfl, by decide, by decide, _, _, rfl, rfl, ?_⟩
    obtain ⟨B, F, hB, hFe, hBF⟩ := full_eq
    rw [← hB]
    k_upd
    rw [hBF]
    refine fun sd nsd => ?_
    k_invariant "new" (nsd, H1, e1, g1)
    k_upd
    refine ⟨_, rfl, d, ps, rfl, hN.up e1, few, fun H2 lp ks n2 e2 c2 nd lk => ?_⟩
    obtain ⟨ts, hl, ht, ets⟩ := id c2
    refine ⟨lp, rfl, ⟨_, lst_of hl⟩, ?_⟩
    have lts : ts.length = ks.length := by rw [← ets, List.length_map]
    have nlp : lp ≠ sd := fun e => by rw [e, g1] at n2; cases n2
    refine for_list (K := K) (a := lp) (xs := ts.map fun t => V.ref t.1) (fun i σ H' => Same H H' ∧ H' lp = some (.lst (ts.map fun t => V.ref t.1)) ∧ (∀ t ∈ ts, H' t.1 = some (.tup [.int t.2.1, .int t.2.2])) ∧
      (∃ x4 x5 x6 x7 x8 : Option V, σ = [some (.ref d), some (.int 2047), some (.int (F : Int)), some (.ref sd), x4, x5, x6, x7, x8]) ∧
      ∃ qs, SumD H' sd qs ∧ qs.length ≤ i)
      ⟨e1.trans e2, hl, ht, ⟨_, _, _, _, _, rfl⟩, [], ⟨fun _ => 0, (Dct.new _ g1).up e2, fun _ m => (by cases m)⟩, Nat.le_refl _⟩ (fun i σ H' _ p => lst_of p.2.1) ?_ ?_
    · rintro i x σ H' hi ⟨sm, hl', htt, ⟨x4, x5, x6, x7, x8, rfl⟩, qs, hS, lq⟩
      obtain ⟨t, mt, rfl, hx⟩ := item_cells (H := H') hi rfl
      rw [ets] at hx
      have li : i < ks.length := (List.getElem?_eq_some_iff.mp hx).1
      have ht' := htt t mt
      obtain ⟨⟨ta, row, c0⟩, ht''⟩ : ∃ t' : Addr × Pr, t' = t := ⟨t, rfl⟩
      subst ht''
      dsimp only at ht' hx
      have hN' := hN.up sm
      obtain ⟨g0, hD', _⟩ := id hN'
      refine ⟨ta, _, rfl, tup_of ht', rfl, _, _, rfl, _, _, rfl, rfl, ?_⟩
      k_upd
      refine ⟨_, rfl, d, rfl, hD'.isD, _, rfl, _, rfl, (by k_clsL), fun p3 n3 => ?_⟩
      k_invariant "new" (n3, H3, e3, g3)
      obtain ⟨o3, a3, dg3, od3, b3⟩ := (hN'.up e3).get (x := (row, c0)) g3
      refine ⟨_, dg3, ?_⟩
      rw [od3]
      k_upd
      refine ⟨_, rfl, a3, 1, 2048, rfl, rfl, b3, by decide, _, rfl, _, _, rfl, rfl, _, rfl, d, rfl, (hD'.up e3).isD, _, rfl, _, rfl, _, _, rfl, rfl, (by k_clsL), fun p4 n4 => ?_⟩
      k_invariant "new" (n4, H4, e4, g4)
      obtain ⟨o4, a4, dg4, od4, b4⟩ := (hN'.up (e3.trans e4)).get (x := (row, c0 - 1)) g4
      refine ⟨_, dg4, ?_⟩
      rw [od4]
      refine ⟨_, rfl, a4, 2047, rfl, rfl, _, _, rfl, rfl, ?_⟩
      k_upd
      refine ⟨_, rfl, a3, 1, rfl, rfl, _, rfl, d, rfl, (hD'.up (e3.trans e4)).isD, _, rfl, _, rfl, _, _, rfl, rfl, (by k_clsL), fun p5 n5 => ?_⟩
      k_invariant "new" (n5, H5, e5, g5)
      obtain ⟨o5, a5, dg5, od5, b5⟩ := (hN'.up (e3.trans (e4.trans e5))).get (x := (row, c0 + 1)) g5
      refine ⟨_, dg5, ?_⟩
      rw [od5]
      refine ⟨a5, 1, rfl, rfl, _, rfl, _, 2047, 2048, rfl, rfl, ?_, by decide, _, _, rfl, rfl, ?_⟩
      · exact Nat.lt_of_le_of_lt Nat.and_le_left b5
      k_upd
      refine ⟨_, rfl, _, rfl, _, rfl, _, _, _, rfl, fun H6 p6 e6 n6 g6 => ?_⟩
      refine ⟨_, rfl, _, rfl, _, rfl, (by k_clsL), fun p7 n7 => ?_⟩
      k_invariant "new" (n7, H7, e7, g7)
      have s7 : Same H' H7 := e3.trans (e4.trans (e5.trans (e6.trans e7)))
      obtain ⟨AA, hK, hA⟩ := hS.up s7
      obtain ⟨H8, dp, pa⟩ := hK.dput (x := (row, c0)) (by rw [sizeLine_eq]; omega) g7 (.ref p6)
      have off : ∀ (b : Addr) (o : HO), H7 b = some o → (∀ kvs, o ≠ .dT kvs) → H8 b = some o := fun b o e ne => by
        rw [pa.2 b fun z => ?_]
        · exact e
        · obtain ⟨kvs, h1, _⟩ := hK
          rw [z, h1] at e
          exact ne kvs (Option.some.inj e).symm
      refine ⟨sd, H8, rfl, dp, pa.mut (sm.trans s7) nsd, off _ _ (s7 _ _ hl') (fun _ z => by cases z), fun t m => off _ _ (s7 _ _ (htt t m)) (fun _ z => by cases z), ⟨_, _, _, _, _, rfl⟩, addK qs (row, c0), ⟨fun x => if x = (row, c0) then p6 else AA x, ?_, fun x m => ?_⟩, Nat.le_trans addK_len (Nat.add_le_add_right lq 1)⟩
      · refine pa.1.congr fun x m => ?_
        unfold setG
        by_cases e : x = (row, c0)
        · rw [if_pos e]
          dsimp only
          rw [if_pos e]
        · rw [if_neg e]
          dsimp only
          rw [if_neg e]
      · dsimp only
        by_cases e : x = (row, c0)
        · rw [if_pos e]
          exact ⟨_, _, off _ _ (e7 _ _ g6) (fun _ z => by cases z)⟩
        · rw [if_neg e]
          rcases mem_addK.mp m with m | m
          · obtain ⟨u, v, c⟩ := hA x m
            exact ⟨u, v, off _ _ c (fun _ z => by cases z)⟩
          · exact absurd m e
    · rintro σ H' ⟨sm, hl', htt, ⟨x4, x5, x6, x7, x8, rfl⟩, qs, hS, lq⟩
      rw [List.length_map, lts] at lq
      exact ⟨_, rfl, q H' sd qs nsd sm hS (by omega)⟩
def sp_with_rows_beside_w : Sp := fun vs H Q _ => ∃ (d : Addr) (ps : List Pr) (g : Pr → V), vs = [.ref d] ∧ Dct H d ps g ∧ ps.length < 100000 ∧
  ∀ (H' : Hp) (p : Addr) (qs : List Pr), H p = none → Same H H' → Cells H' p qs → qs.length ≤ 3 * ps.length → Q (.ref p) H'
theorem ok_with_rows_beside_w (T : Txt K mg) : FnOk P w K mg base CX0 1 T.f_with_rows_beside T.d_with_rows_beside ["sums"] sp_with_rows_beside_w := by
  refine T.F_with_rows_beside.ok sc_with_rows_beside (fun vs H Q E h => ?_) (fun cdv A outer s H vs Q E hr h => ?_)
  · obtain ⟨_, _, _, rfl, _⟩ := h
    rfl
  · obtain ⟨d, ps, g, rfl, hD, few, q⟩ := h
    have hu : (A.deeper (envOfC (Str.ofString "_with_rows_beside") (defScope s_with_rows_beside) s.heap.objs.size T.f_with_rows_beside cdv)).units + 1 < cLine := by
      have := hr.units
      omega
    refine ⟨_, (pss_cons (ps_set (i := 1) sc_with_rows_beside.nd rfl (.inl rfl) pe_dnewT)
      (pss_cons (ps_lock (ps_for PassesOwn.never rfl (pi_keys (pv 0)) (pg_tupK (K := K) (n := 2) rfl rfl (pgs_cons (pg_name (i := 2) sc_with_rows_beside.nd rfl (.inl rfl)) (pgs_cons (pg_name (i := 3) sc_with_rows_beside.nd rfl (.inl rfl)) pgs_nil)))
      (pss_cons (ps_dput hu (pv 1) (pe_tup (pa_cons (pe_op op_sub (pv 2) pe_int) (pa_cons (pv 3) pa_nil))) pe_bl rfl)
      (pss_cons (ps_dput hu (pv 1) (pe_tup (pa_cons (pv 2) (pa_cons (pv 3) pa_nil))) pe_bl rfl)
      (pss_one (ps_dput hu (pv 1) (pe_tup (pa_cons (pe_op op_add (pv 2) pe_int) (pa_cons (pv 3) pa_nil))) pe_bl rfl))))))
      (pss_one (ps_ret (pe_callTy (cr_listP rfl) (by rfl) T.z_list (by decide +kernel) (pa_cons (pv 1) pa_nil)))))), ?_⟩
    k_upd
    obtain ⟨kvs, hd, hm⟩ := id hD
    refine fun kd nk => ?_
    k_invariant "new" (nk, H1, e1, g1)
    k_upd
    have nekd : kd ≠ d := fun e => by rw [e, hd] at nk; cases nk
    refine ⟨d, _, e1 _ _ hd, trivial, fun od => ⟨_, rfl, d, od, rfl, .inr ⟨kvs, upd_same, ?_⟩⟩⟩
    obtain ⟨Hf, hHf⟩ : ∃ Hf, Hf = upd H d (.frz od (.dT kvs)) := ⟨_, rfl⟩
    have gf : Hf d = some (.frz od (.dT kvs)) := by rw [hHf, upd_same]
    have nk2 : Hf kd = none := by rw [hHf, upd_ne nekd]; exact nk
    refine for_it walk_keysT (fun i σ H' => Same Hf H' ∧ (∃ x3 x4 : Option V, σ = [some (.ref d), some (.ref kd), x3, x4]) ∧ ∃ qs, Dct H' kd qs (fun _ => .bl true) ∧ qs.length ≤ 3 * i)
      ⟨by rw [hHf]; exact updS e1, ⟨_, _, rfl⟩, [], (Dct.new _ g1).off nekd, Nat.le_refl _⟩ (fun i σ H' _ p => p.1 _ _ gf) ?_ ?_
    · rintro i x σ H2 H3 hi ⟨sm, ⟨x3, x4, rfl⟩, qs, hK, lq⟩ ⟨rfl, k, v, q0, e, rfl, hq0⟩
      obtain ⟨z, hz, rfl, rfl⟩ := hm.at e
      have li : i < ps.length := (List.getElem?_eq_some_iff.mp hz).1
      obtain ⟨row, c0⟩ := z
      refine ⟨q0, _, rfl, tup_of hq0, rfl, _, _, rfl, _, _, rfl, rfl, ?_⟩
      k_upd
      refine ⟨_, rfl, _, rfl, _, _, rfl, rfl, _, rfl, (by k_clsL), fun p4 n4 => ?_⟩
      k_invariant "new" (n4, H4, e4, g4)
      obtain ⟨H5, dp5, pa5⟩ := (hK.up e4).dput (x := (row - 1, c0)) (by rw [sizeLine_eq]; omega) g4 (.bl true)
      have s5 := pa5.mut (sm.trans e4) nk2
      have k5 := trueD pa5
      refine ⟨kd, H5, rfl, dp5, ?_⟩
      k_upd
      refine ⟨_, rfl, _, rfl, _, rfl, (by k_clsL), fun p6 n6 => ?_⟩
      k_invariant "new" (n6, H6, e6, g6)
      have l5 := addK_len (ps := qs) (x := (row - 1, c0))
      obtain ⟨H7, dp7, pa7⟩ := (k5.up e6).dput (x := (row, c0)) (by rw [sizeLine_eq]; omega) g6 (.bl true)
      have s7 := pa7.mut (s5.trans e6) nk2
      have k7 := trueD pa7
      refine ⟨kd, H7, rfl, dp7, ?_⟩
      k_upd
      refine ⟨_, rfl, _, rfl, _, _, rfl, rfl, _, rfl, (by k_clsL), fun p8 n8 => ?_⟩
      k_invariant "new" (n8, H8, e8, g8)
      have l7 := addK_len (ps := addK qs (row - 1, c0)) (x := (row, c0))
      obtain ⟨H9, dp9, pa9⟩ := (k7.up e8).dput (x := (row + 1, c0)) (by rw [sizeLine_eq]; omega) g8 (.bl true)
      have l9 := addK_len (ps := addK (addK qs (row - 1, c0)) (row, c0)) (x := (row + 1, c0))
      exact ⟨kd, H9, rfl, dp9, pa9.mut (s7.trans e8) nk2, ⟨_, _, rfl⟩, _, trueD pa9, by omega⟩
    · rintro σ H2 ⟨sm, ⟨x3, x4, rfl⟩, qs, hK, lq⟩
      rw [hm.len] at lq
      have gd2 := sm _ _ gf
      rw [hHf] at sm
      refine ⟨gd2, ?_⟩
      refine ⟨_, rfl, kd, qs, _, rfl, hK.off nekd, fun H3 p s3 n3 c3 => q H3 p qs (backS (unlock hd sm) n3) ((unlock hd sm).trans s3) c3 lq⟩
def sp_next_floor_w (C : Addr) : Sp := fun vs H Q _ => ∃ (d r : Addr) (ps : List Pr) (bs ss : List Int), vs = [.ref d, .ref r] ∧ NatD H d ps ∧ RuleAt C H r bs ss ∧ (∀ b ∈ bs, 1 ≤ b ∧ b ≤ 8) ∧ (∀ b ∈ ss, 0 ≤ b ∧ b ≤ 8) ∧ ps.length < 5000 ∧
  ∀ (H' : Hp) (d' : Addr), H d' = none → Same H H' → Q (.ref d') H'
theorem ok_next_floor_w (T : Txt K mg) : FnOk P w K mg base CX0 3 T.f_next_floor T.d_next_floor ["floor", "rule"] (sp_next_floor_w T.C_Rule) := by
  refine T.F_next_floor.ok sc_next_floor (fun vs H Q E h => ?_) (fun cdv A outer s H vs Q E hr h => ?_)
  · obtain ⟨_, _, _, _, _, rfl, _⟩ := h
    rfl
  · obtain ⟨d, r, ps, bs, ss, e0, hN, hR, hb, hss, few, q⟩ := h
    cases e0
    have hu : (A.deeper (envOfC (Str.ofString "next_floor") (defScope s_next_floor) s.heap.objs.size T.f_next_floor cdv)).units + 1 < cLine := by
      have := hr.units
      omega
    refine ⟨_, (pss_cons (ps_set (i := 2) sc_next_floor.nd rfl (.inl rfl) (pe_call (ok_row_sums_w T) (hr.mono (by decide)) (by rfl) T.g_row_sums T.F_row_sums.kp T.b_row_sums .nil pass0 (pa_cons (pv 0) pa_nil)))
      (pss_cons (ps_set (i := 3) sc_next_floor.nd rfl (.inl rfl) (pe_tup (pa_cons pe_int (pa_cons pe_int pa_nil))))
      (pss_cons (ps_set (i := 4) sc_next_floor.nd rfl (.inl rfl) pe_dnewT)
      (pss_cons (ps_for PassesOwn.never rfl (pi_list (pe_call (ok_with_rows_beside_w T) (hr.mono (by decide)) (by rfl) T.g_with_rows_beside T.F_with_rows_beside.kp T.b_with_rows_beside .nil pass0 (pa_cons (pv 2) pa_nil))) (pg_tupK (K := K) (n := 2) rfl rfl (pgs_cons (pg_name (i := 5) sc_next_floor.nd rfl (.inl rfl)) (pgs_cons (pg_name (i := 6) sc_next_floor.nd rfl (.inl rfl)) pgs_nil)))
      (pss_cons (ps_set (i := 7) sc_next_floor.nd rfl (.inl rfl) (pe_dget2 hu (pv 2) (pe_tup (pa_cons (pe_op op_sub (pv 5) pe_int) (pa_cons (pv 6) pa_nil))) (pv 3) ⟨rfl, rfl, rfl, rfl⟩))
      (pss_cons (ps_set (i := 8) sc_next_floor.nd rfl (.inl rfl) (pe_dget2 hu (pv 2) (pe_tup (pa_cons (pv 5) (pa_cons (pv 6) pa_nil))) (pv 3) ⟨rfl, rfl, rfl, rfl⟩))
      (pss_cons (ps_set (i := 9) sc_next_floor.nd rfl (.inl rfl) (pe_dget2 hu (pv 2) (pe_tup (pa_cons (pe_op op_add (pv 5) pe_int) (pa_cons (pv 6) pa_nil))) (pv 3) ⟨rfl, rfl, rfl, rfl⟩))
      (pss_cons (ps_set (i := 10) sc_next_floor.nd rfl (.inl rfl) (pe_call (ok_next_strip T) (hr.mono (by decide)) (by rfl) T.g_next_strip T.F_next_strip.kp T.b_next_strip .nil pass0 (pa_cons (pe_dget2 hu (pv 0) (pe_tup (pa_cons (pv 5) (pa_cons (pv 6) pa_nil))) pe_int ⟨rfl, rfl, rfl, rfl⟩) (pa_cons (pe_call (ok_totals_of T) (hr.mono (by decide)) (by rfl) T.g_totals_of T.F_totals_of.kp T.b_totals_of .nil pass0 (pa_cons (pv 7) (pa_cons (pv 8) (pa_cons (pv 9) pa_nil)))) (pa_cons (pv 1) pa_nil)))))
      (pss_one (ps_if (pt_truth (pv 10) (by intro _; rfl))
      (pss_one (ps_dput hu (pv 4) (pe_tup (pa_cons (pv 5) (pa_cons (pv 6) pa_nil))) (pv 10) rfl))
      pss_nil)))))))
      (pss_one (ps_ret (pv 4))))))), ?_⟩
    k_upd
    refine ⟨_, rfl, d, ps, rfl, hN, by omega, fun H1 sd ks n1 e1 hS1 lk => ?_⟩
    k_upd
    refine ⟨by k_clsL, fun pn nn => ?_⟩
    k_invariant "new" (nn, H2, e2, g2)
    k_upd
    refine fun ad na => ?_
    k_invariant "new" (na, H3, e3, g3)
    k_upd
    have hS2 := hS1.up e2
    obtain ⟨A3, hD3, _⟩ := hS2.up e3
    refine ⟨_, rfl, sd, ks, _, rfl, hD3, by omega, fun H4 lp rs n4 e4 c4 l4 => ?_⟩
    obtain ⟨ts, hl, ht, ets⟩ := id c4
    refine ⟨lp, rfl, ⟨_, lst_of hl⟩, ?_⟩
    have lts : ts.length = rs.length := by rw [← ets, List.length_map]
    refine for_list (K := K) (a := lp) (xs := ts.map fun t => V.ref t.1) (fun i σ H' => Same H2 H' ∧ H' lp = some (.lst (ts.map fun t => V.ref t.1)) ∧ (∀ t ∈ ts, H' t.1 = some (.tup [.int t.2.1, .int t.2.2])) ∧
      (∃ x5 x6 x7 x8 x9 x10 : Option V, σ = [some (.ref d), some (.ref r), some (.ref sd), some (.ref pn), some (.ref ad), x5, x6, x7, x8, x9, x10]) ∧
      ∃ (qs : List Pr) (g : Pr → V), Dct H' ad qs g ∧ qs.length ≤ i)
      ⟨e3.trans e4, hl, ht, ⟨_, _, _, _, _, _, rfl⟩, [], fun _ => .non, (Dct.new _ g3).up e4, Nat.le_refl _⟩ (fun i σ H' _ p => lst_of p.2.1) ?_ ?_
    · rintro i x σ H' hi ⟨sm, hl', htt, ⟨x5, x6, x7, x8, x9, x10, rfl⟩, qs, g0, hF', lq⟩
      obtain ⟨t, mt, rfl, hx⟩ := item_cells (H := H') hi rfl
      rw [ets] at hx
      have li : i < rs.length := (List.getElem?_eq_some_iff.mp hx).1
      have ht' := htt t mt
      obtain ⟨⟨ta, row, c0⟩, ht''⟩ : ∃ t' : Addr × Pr, t' = t := ⟨t, rfl⟩
      subst ht''
      dsimp only at ht' hx
      have up : ∀ {Hx : Hp}, Same H' Hx → SumD Hx sd ks ∧ Hx pn = some (.tup [.int 0, .int 0]) := fun sx => ⟨hS2.up (sm.trans sx), sx _ _ (sm _ _ g2)⟩
      refine ⟨ta, _, rfl, tup_of ht', rfl, _, _, rfl, _, _, rfl, rfl, ?_⟩
      k_upd
      refine ⟨_, rfl, sd, rfl, (hS2.up sm).choose_spec.1.isD, _, rfl, _, _, rfl, rfl, _, rfl, (by k_clsL), fun p5 n5 => ?_⟩
      k_invariant "new" (n5, H5, e5, g5)
      obtain ⟨u1, u3⟩ := up e5
      obtain ⟨o5, pa, a1, a2, dg5, od5, ga⟩ := u1.get (x := (row - 1, c0)) u3 g5
      refine ⟨_, rfl, o5, dg5, ?_⟩
      rw [od5]
      k_upd
      have s5 := e5
      refine ⟨_, rfl, sd, rfl, u1.choose_spec.1.isD, _, rfl, _, rfl, (by k_clsL), fun p6 n6 => ?_⟩
      k_invariant "new" (n6, H6, e6, g6)
      obtain ⟨u1, u3⟩ := up (s5.trans e6)
      obtain ⟨o6, ph, h1, h2, dg6, od6, gh⟩ := u1.get (x := (row, c0)) u3 g6
      refine ⟨_, rfl, o6, dg6, ?_⟩
      rw [od6]
      k_upd
      have s6 := s5.trans e6
      refine ⟨_, rfl, sd, rfl, u1.choose_spec.1.isD, _, rfl, _, _, rfl, rfl, _, rfl, (by k_clsL), fun p7 n7 => ?_⟩
      k_invariant "new" (n7, H7, e7, g7)
      obtain ⟨u1, u3⟩ := up (s6.trans e7)
      obtain ⟨o7, pb, b1, b2, dg7, od7, gb⟩ := u1.get (x := (row + 1, c0)) u3 g7
      refine ⟨_, rfl, o7, dg7, ?_⟩
      rw [od7]
      k_upd
      have s7 := s6.trans e7
      have ga := (e6.trans e7) _ _ ga
      have gh := e7 _ _ gh
      have hN7 : NatD H7 d ps := hN.up (e1.trans (e2.trans (sm.trans s7)))
      refine ⟨_, rfl, d, rfl, hN7.choose_spec.1.isD, _, rfl, _, rfl, (by k_clsL), fun p8 n8 => ?_⟩
      k_invariant "new" (n8, H8, e8, g8)
      obtain ⟨o8, a8, dg8, od8, b8⟩ := (hN7.up e8).get (x := (row, c0)) g8
      refine ⟨_, dg8, ?_⟩
      rw [od8]
      refine ⟨_, rfl, _, rfl, _, rfl, pa, ph, pb, _, _, _, _, _, _, rfl, e8 _ _ ga, e8 _ _ gh, e8 _ _ gb, fun H9 p9 e9 n9 g9 => ?_⟩
      refine ⟨_, rfl, p9, r, a8, _, _, _, _, bs, ss, rfl, g9, hR.up (e1.trans (e2.trans (sm.trans (s7.trans (e8.trans e9))))), fun b m => ?_, hss, fun H10 e10 => ?_⟩
      · have := hb b m
        omega
      have s10 : Same H' H10 := s7.trans (e8.trans (e9.trans e10))
      generalize nextN a8 _ _ _ _ bs ss = nn'
      k_upd
      by_cases z : nn' = 0
      · refine ⟨_, rfl, _, tru0 z, iteF ?_⟩
        exact ⟨sm.trans s10, s10 _ _ hl', fun t m => s10 _ _ (htt t m), ⟨_, _, _, _, _, _, rfl⟩, qs, g0, hF'.up s10, by omega⟩
      · refine ⟨_, rfl, _, tru1 z, iteT ?_⟩
        refine ⟨_, rfl, _, rfl, _, rfl, _, rfl, (by k_clsL), fun p11 n11 => ?_⟩
        k_invariant "new" (n11, H11, e11, g11)
        have hF11 := hF'.up (s10.trans e11)
        obtain ⟨H12, dp, pa12⟩ := hF11.dput (x := (row, c0)) (by rw [sizeLine_eq]; omega) g11 (.int ((nn' : Nat) : Int))
        have off : ∀ (b : Addr) (o : HO), H11 b = some o → (∀ kvs, o ≠ .dT kvs) → H12 b = some o := fun b o e ne => by
          rw [pa12.2 b fun z => ?_]
          · exact e
          · obtain ⟨kvs, h1, _⟩ := hF11
            rw [z, h1] at e
            exact ne kvs (Option.some.inj e).symm
        have s11 := s10.trans e11
        exact ⟨ad, H12, rfl, dp, pa12.mut (sm.trans s11) na, off _ _ (s11 _ _ hl') (fun _ z => by cases z), (fun t m => off _ _ (s11 _ _ (htt t m)) (fun _ z => by cases z)), ⟨_, _, _, _, _, _, rfl⟩, addK qs (row, c0), _, pa12.1, Nat.le_trans addK_len (Nat.add_le_add_right lq 1)⟩
    · rintro σ H' ⟨sm, hl', htt, ⟨x5, x6, x7, x8, x9, x10, rfl⟩, qs, g0, hF', lq⟩
      exact ⟨_, rfl, q H' ad (backS (e1.trans e2) na) (e1.trans (e2.trans sm))⟩
theorem fn_or {CX : CXT} {k : Nat} {f : Addr} {fd : FuncData} {ps : List Str} {sp sp' : Sp} (F : FnOk P w K mg base CX k f fd ps sp) (G : FnOk P w K mg base CX k f fd ps sp') : FnOk P w K mg base CX k f fd ps (fun vs H Q E => sp vs H Q E ∨ sp' vs H Q E) :=
  ⟨fun vs H Q E h => h.elim (F.len vs H Q E) (G.len vs H Q E), fun A outer s H args us vs Q E hr he hb hv hs => hs.elim (F.run A outer s H args us vs Q E hr he hb hv) (G.run A outer s H args us vs Q E hr he hb hv)⟩
end
end My
namespace My
open PySem PySem.Spec PyProof.Rows L2 Vx
open TL
local macro_rules | `(tactic| k_invariant "new" ($n, $H:ident, $e:ident, $h:ident)) => `(tactic| (generalize hE : upd _ _ _ = $H; obtain ⟨$e:ident, $h:ident⟩ := gen_e hE $n; clear hE))
local macro_rules | `(tactic| k_places) => `(tactic| first
  | assumption
  | exact lst_of (by assumption)
  | exact tup_of (by assumption)
  | (refine getS (by assumption) ?_; k_places)
  | (refine Same.seq (by assumption) ?_; k_places)
  | (refine tupS (by assumption) ?_; k_places)
  | (refine lst_of ?_; k_places)
  | (refine tup_of ?_; k_places))
local macro_rules | `(tactic| k_subL) => `(tactic| first
  | k_places
  | solve_by_elim (maxDepth := 10) [getS, lst_of, tup_of, Same.seq, tupS])
local macro_rules | `(tactic| k_offL) => `(tactic| first
  | (show (0 : Int) < _; first | omega | decide)
  | (refine ⟨?_, ?_⟩ <;> first | omega | decide)
  | exact .inr ⟨by decide, by decide⟩
  | exact .inl ⟨by decide, by decide⟩
  | exact .inl ⟨by omega, by omega⟩
  | omega)
local macro_rules | `(tactic| k_clsL) => `(tactic| exact Nat.le_of_ble_eq_true rfl)
local macro_rules | `(tactic| k_upd) => `(tactic| simp only [L2.start, List.map_cons, List.map_nil, List.length_cons, List.length_nil, List.replicate_succ, List.replicate_zero, List.cons_append, List.nil_append, List.set_cons_zero, List.set_cons_succ])
section
variable {P : Program} {w : World} {K : PySem.W.Frag} {mg : Str → Option Value} {base : Heap}
/-! ### fate -/
def sp_fate (C : Addr) : Sp := fun vs H Q _ => ∃ (l r : Addr) (bound : Nat) (ps : List Pr) (bs ss : List Int) (r0 c0 : Int) (B : Nat), vs = [.ref l, .ref r, .int (bound : Int)] ∧ 1 ≤ bound ∧ Cells H l ps ∧ RuleAt C H r bs ss ∧ (∀ b ∈ bs, 1 ≤ b ∧ b ≤ 8) ∧ (∀ b ∈ ss, 0 ≤ b ∧ b ≤ 8) ∧ ps.length < 10000 ∧
  (∀ x ∈ ps, r0 ≤ x.1 ∧ x.1 < r0 + (B : Int) ∧ c0 ≤ x.2 ∧ x.2 < c0 + (B : Int)) ∧ (B + 2 * (bound - 1)) * (B + 2 * (bound - 1)) ≤ 4000 ∧ B + 2 * bound ≤ 400 ∧ r0.natAbs < 2 ^ 59 ∧
  (∀ H', (∀ g s, s < g → g ≤ bound → ¬ Rep (genL bs ss (memL ps)) g s) → Same H H' → Q .non H') ∧
  ∀ (H' : Hp) (p : Addr) (g s : Nat) (dr dc : Int), s < g → g ≤ bound → H p = none → Same H H' → H' p = some (.tup [.int (s : Int), .int ((g - s : Nat) : Int), .int dr, .int dc]) → Shift (genL bs ss (memL ps) g) (genL bs ss (memL ps) s) dr dc →
    ((∀ r c, genL bs ss (memL ps) s r c = false) → dr = 0 ∧ dc = 0) → (∀ g' s', s' < g' → (g' < g ∨ (g' = g ∧ s' < s)) → ¬ Rep (genL bs ss (memL ps)) g' s') → Q (.ref p) H'
def sp_next_floor_c (C : Addr) : Sp := fun vs H Q E => sp_next_floor C vs H Q E ∨ sp_next_floor_w C vs H Q E
theorem ok_next_floor_c (T : Txt K mg) : FnOk P w K mg base CX0 3 T.f_next_floor T.d_next_floor ["floor", "rule"] (sp_next_floor_c T.C_Rule) := fn_or (ok_next_floor T) (ok_next_floor_w T)
theorem ok_fate (T : Txt K mg) : FnOk P w K mg base CX0 6 T.f_fate T.d_fate ["cells", "rule", "bound"] (sp_fate T.C_Rule) := by
  refine T.F_fate.ok sc_fate (fun vs H Q E h => ?_) (fun cdv A outer s H vs Q E hr h => ?_)
  · obtain ⟨_, _, _, _, _, _, _, _, _, rfl, _⟩ := h
    rfl
  · obtain ⟨l, r, bound, ps, bs, ss, r0, c0, B, rfl, bd1, hC, hR, hb, hss, few, box, sq, wd, hr0, q0, q1⟩ := h
    have hu : (A.deeper (envOfC (Str.ofString "fate") (defScope s_fate) s.heap.objs.size T.f_fate cdv)).units + 1 < cLine := by
      have := hr.units
      omega
    have hu2 : (A.deeper (envOfC (Str.ofString "fate") (defScope s_fate) s.heap.objs.size T.f_fate cdv)).units + 2 < cLine := by
      have := hr.units
      omega
    refine ⟨_, (pss_cons (ps_mid (ps_set (i := 3) sc_fate.nd rfl (.inl rfl) (pe_op op_sub (pe_callBK (cr_minD rfl hu2) (by rfl) T.z_min (by decide +kernel) (pa_cons (pe_lc (own := [("_", 14), ("column", 9)]) (tt := tYes) rfl sc_fate.nd (pi_list (pv 0)) (blkOk_by (own := [("_", 14), ("column", 9)]) (N := N_fate) (sc := defScope s_fate) (by decide +kernel)) (fun _ _ _ _ _ => (pg_tupK (K := K) (n := 2) rfl rfl (pgs_cons (pg_name (i := 14) sc_fate.nd rfl (.inl rfl)) (pgs_cons (pg_name (i := 9) sc_fate.nd rfl (.inl rfl)) pgs_nil)))) (fun _ _ _ _ _ => pts_nil) (fun _ _ _ _ _ => (pv 9))) pa_nil) (pk_cons pe_int pk_nil)) (pv 2))))
      (pss_cons (ps_set (i := 4) sc_fate.nd rfl (.inl rfl) (pe_call (ok_floor_of T) (hr.mono (by decide)) (by rfl) T.g_floor_of T.F_floor_of.kp T.b_floor_of .nil pass0 (pa_cons (pv 0) (pa_cons (pv 3) pa_nil))))
      (pss_cons (ps_set (i := 5) sc_fate.nd rfl (.inl rfl) pe_dnewK)
      (pss_cons (ps_for PassesOwn.never rfl (pi_range1 (by rfl) T.z_range (pa_cons (pe_op op_add (pv 2) pe_int) pa_nil)) (pg_name (i := 6) sc_fate.nd rfl (.inl rfl))
      (pss_cons (ps_asg (pe_call (ok_marked T) (hr.mono (by decide)) (by rfl) T.g_marked T.F_marked.kp T.b_marked .nil pass0 (pa_cons (pv 4) pa_nil)) (pg_tupK (K := K) (n := 3) rfl rfl (pgs_cons (pg_name (i := 7) sc_fate.nd rfl (.inl rfl)) (pgs_cons (pg_name (i := 8) sc_fate.nd rfl (.inl rfl)) (pgs_cons (pg_name (i := 9) sc_fate.nd rfl (.inl rfl)) pgs_nil)))))
      (pss_cons (ps_for PassesOwn.never rfl (pi_list (pe_dget2 hu (pv 5) (pv 7) (pe_lst pa_nil) ⟨rfl, rfl, rfl, rfl⟩)) (pg_tupK (K := K) (n := 3) rfl rfl (pgs_cons (pg_name (i := 10) sc_fate.nd rfl (.inl rfl)) (pgs_cons (pg_name (i := 11) sc_fate.nd rfl (.inl rfl)) (pgs_cons (pg_name (i := 12) sc_fate.nd rfl (.inl rfl)) pgs_nil))))
      (pss_cons (ps_set (i := 13) sc_fate.nd rfl (.inl rfl) (pe_tup (pa_cons (pv 10) (pa_cons (pe_op op_sub (pv 6) (pv 10)) (pa_cons (pe_op op_sub (pv 8) (pv 11)) (pa_cons (pe_op op_sub (pv 9) (pv 12)) pa_nil))))))
      (pss_one (ps_if (pt_val (pe_call (ok_holds T) (hr.mono (by decide)) (by rfl) T.g_holds T.F_holds.kp T.b_holds .nil pass0 (pa_cons (pv 0) (pa_cons (pv 1) (pa_cons (pv 13) pa_nil)))))
      (pss_one (ps_ret (pv 13)))
      pss_nil))))
      (pss_cons (ps_mid (ps_expr (pe_bm PySem.F.plainAttrs_list PySem.F.slot_list_append PySem.F.type_list_append mt_append (pe_dsetd (pv 5) (pv 7) (pe_lst pa_nil) ⟨rfl, rfl, rfl, rfl⟩) (pa_cons (pe_tup (pa_cons (pv 6) (pa_cons (pv 8) (pa_cons (pv 9) pa_nil)))) pa_nil))))
      (pss_one (ps_set (i := 4) sc_fate.nd rfl (.inl rfl) (pe_call (ok_next_floor_c T) (hr.mono (by decide)) (by rfl) T.g_next_floor T.F_next_floor.kp T.b_next_floor .nil pass0 (pa_cons (pv 4) (pa_cons (pv 1) pa_nil)))))))))
      (pss_one (ps_ret pe_non)))))), ?_⟩
    k_upd
    obtain ⟨G, eG⟩ : ∃ G, G = genL bs ss (memL ps) := ⟨_, rfl⟩
    rw [← eG] at q0 q1
    -- first
    refine ⟨fun σ' H' => ∃ b : Int, σ' = [some (.ref l), some (.ref r), some (.int (bound : Int)), some (.int (b - (bound : Int))), none, none, none, none, none, none, none, none, none, none, none] ∧ Same H H' ∧ (∀ x ∈ ps, b ≤ x.2) ∧ (ps ≠ [] → c0 ≤ b), ?_, ?_⟩
    · refine ⟨_, rfl, _, rfl, ⟨_, lst_of hC.choose_spec.1⟩, fun D nD => lc_nums (·.2) hC nD (by rw [sizeLine_eq]; omega) ?_ fun H1 e1 h1 => ?_⟩
      · intro t x H' Po Pn _ ht hq
        exact ⟨t, _, rfl, tup_of ht, rfl, _, _, rfl, _, _, rfl, rfl, wipe2 _ 14 9 _ _, tyesT ⟨_, rfl, hq⟩⟩
      refine ⟨D, _, .int 0, rfl, rfl, lst_of h1, fun z => ?_, fun m mm lm => ?_⟩
      · have z := List.map_eq_nil_iff.mp z
        exact ⟨_, rfl, _, _, rfl, rfl, 0, rfl, e1, (fun x m => by rw [z] at m; cases m), fun n => absurd z n⟩
      · obtain ⟨y, my, ey⟩ := List.mem_map.mp mm
        refine ⟨_, rfl, _, _, rfl, rfl, m, rfl, e1, fun x m => lm _ (List.mem_map.mpr ⟨x, m, rfl⟩), fun _ => ?_⟩
        have := box y my
        have ey : y.2 = m := ey
        omega
    rintro σ H1 ⟨b, rfl, e1, hbl, hbc⟩
    obtain ⟨first, ef⟩ : ∃ first, first = b - (bound : Int) := ⟨_, rfl⟩
    rw [← ef]
    -- the first floor
    refine ⟨_, rfl, _, rfl, l, first, ps, rfl, hC.up e1, few, fun x m => ?_, fun H2 d qs S n2 e2 hF hS hq => ?_⟩
    · have h1 := box x m
      have h2 := hbl x m
      have h3 := hbc fun z => by rw [z] at m; cases m
      omega
    have lS : ∀ r c, liveS first S r c = memL ps r c := fun r c => by
      unfold memL
      rw [Bool.eq_iff_iff, decide_eq_true_iff]
      by_cases z : c - first < 0
      · rw [liveS_low z]
        refine ⟨fun z => Bool.noConfusion z, fun m => ?_⟩
        have := hbl _ m
        dsimp only at this
        omega
      · obtain ⟨j, ej⟩ := Int.eq_ofNat_of_zero_le (show 0 ≤ c - first by omega)
        rw [liveS_at ej, hS]
        constructor
        · rintro ⟨x, m, a1, a2⟩
          have : x = (r, c) := Prod.ext a1 (by show x.2 = c; omega)
          rwa [this] at m
        · exact fun m => ⟨_, m, rfl, ej⟩
    k_upd
    refine fun sd nsd => ?_
    have e02 := e1.trans e2
    have nsdH : H sd = none := backS e02 nsd
    k_invariant "new" (nsd, H3, e3, g3)
    k_upd
    have s3 := e02.trans e3
    refine ⟨_, rfl, _, _, rfl, rfl, _, rfl, by omega, by omega, for_range (lo := 0) (n := ((bound : Int) + 1).toNat) (fun i σ H' => Same H H' ∧ (∃ (x6 x7 x8 x9 x10 x11 x12 x13 x14 : Option V) (d : Addr), σ = [some (.ref l), some (.ref r), some (.int (bound : Int)), some (.int first), some (.ref d), some (.ref sd), x6, x7, x8, x9, x10, x11, x12, x13, x14] ∧ (i ≤ bound → ∃ (qs : List Pr) (S : Int → Nat), Floor H' d qs S ∧
          (∀ r c, liveS first S r c = G i r c) ∧ (∀ r c, liveS first S r c = true → (bound : Int) - (i : Int) ≤ c - first ∧ c - first ≤ (bound : Int) + B + (i : Int)) ∧ (∀ x ∈ qs, r0 - (i : Int) ≤ x.1 ∧ x.1 ≤ r0 + (B : Int) + (i : Int)) ∧ ∀ x ∈ qs, S x.1 ≠ 0)) ∧
          (∃ T : Nat → Int × Int × Int, SeenAt H H' sd i T ∧ ∀ g < i, MkL first (G g) (T g).1 (T g).2.1 (T g).2.2) ∧ ∀ g s, s < g → g < i → ¬ Rep G g s)
        ⟨s3, ⟨_, _, _, _, _, _, _, _, _, d, rfl, fun _ => ⟨qs, S, hF.up e3, (fun r c => by rw [lS, eG]; rfl), (fun r c z => ?_), (fun x m => ?_), fun x m => ?_⟩⟩, ⟨fun _ => (0, 0, 0), .start g3, fun g z => absurd z (Nat.not_lt_zero _)⟩, fun g s _ z => absurd z (Nat.not_lt_zero _)⟩ ?_ ?_⟩
    · rw [lS] at z
      have m := of_decide_eq_true z
      have h1 := box _ m
      have h2 := hbl _ m
      have h3 := hbc fun z => by rw [z] at m; cases m
      dsimp only at h1 h2
      omega
    · obtain ⟨y, my, ey⟩ := hq x m
      have := box y my
      omega
    · obtain ⟨y, my, ey⟩ := hq x m
      have h1 := box y my
      have h2 := hbl y my
      obtain ⟨j, ej⟩ := Int.eq_ofNat_of_zero_le (show 0 ≤ y.2 - first by omega)
      have := (hS x.1 j).mpr ⟨y, my, ey, ej⟩
      intro z
      rw [z, Nat.zero_testBit] at this
      cases this
    · clear hF hS hq lS g3 qs S d n2
      rintro i σ H4 hi ⟨s4, ⟨x6, x7, x8, x9, x10, x11, x12, x13, x14, d, rfl, hFl⟩, ⟨TT, hSeen, hMk⟩, noRep⟩
      have hi : i ≤ bound := by omega
      obtain ⟨qs, S, hF, hL, hc, hrw, nz⟩ := hFl hi
      have few2 : qs.length < 5000 := by
        have := rows_len hF.1.choose_spec.2.2 hF.2.1 hrw
        omega
      have b1 := live_high (b := (bound : Int) + B + i) (N := 2047) (fun r c z => (hc r c z).2) (by omega)
      have b48 : ∀ r, S r < 2 ^ 2048 := fun r => Nat.lt_of_lt_of_le (b1 r) (Nat.pow_le_pow_right (by decide) (by decide))
      refine gName_go ?_
      rw [Int.zero_add]
      k_upd
      have rnb : ∀ x ∈ qs, x.1.natAbs < 2 ^ 60 := fun x m => by
        have := hrw x m
        have e59 : (2 : Nat) ^ 59 = 576460752303423488 := by decide
        have e60 : (2 : Nat) ^ 60 = 1152921504606846976 := by decide
        rw [e59] at hr0
        rw [e60]
        omega
      refine ⟨_, rfl, d, qs, S, rfl, hF, few2, nz, b48, rnb, fun H5 pm m t lf n5 e5 g5 mk => ?_⟩
      have mkl := mkL_of hF mk nz hL
      refine ⟨pm, _, rfl, tup_of g5, rfl, _, _, rfl, _, _, rfl, _, _, rfl, rfl, ?_⟩
      k_upd
      have s5 := s4.trans e5
      obtain ⟨kvs, k1, k2, k3, k4, k5⟩ := hSeen.up e5
      refine ⟨_, rfl, sd, rfl, .inl ⟨_, .inl k1⟩, _, rfl, by k_clsL, fun p6 n6 => ?_⟩
      have nsd6 : p6 ≠ sd := fun z => by rw [z, k1] at n6; cases n6
      k_invariant "new" (n6, H6, e6, g6)
      refine ⟨valV kvs (Sum.inl m), DGet.k (k := Sum.inl m) (e6 _ _ k1), ?_⟩
      have s6 := s5.trans e6
      obtain ⟨la, ts, ela, hla, htt, ets⟩ : ∃ (la : Addr) (ts : List (Addr × Nat)), (valV kvs (Sum.inl m)).getD (.ref p6) = .ref la ∧ H6 la = some (.lst (ts.map fun t => V.ref t.1)) ∧ (∀ t ∈ ts, H6 t.1 = some (.tup [.int (t.2 : Int), .int (TT t.2).2.1, .int (TT t.2).2.2])) ∧ ts.map (·.2) = (List.range i).filter fun g => decide ((TT g).1 = m) := by
        cases ev : valV kvs (Sum.inl m) with
        | none =>
          refine ⟨p6, [], rfl, g6, (fun t z => by cases z), ?_⟩
          rw [List.filter_eq_nil_iff.mpr fun g mg => by rw [decide_eq_true_iff]; exact k3 m ev g (List.mem_range.mp mg)]
          rfl
        | some v =>
          obtain ⟨a, ts, a1, a2, a3, a4, a5, a6⟩ := k4 m v ev
          subst a1
          exact ⟨a, ts, rfl, e6 _ _ a4, fun t mt => e6 _ _ (a5 t mt), a6⟩
      rw [ela]
      have asc : ((List.range i).filter fun g => decide ((TT g).1 = m)).Pairwise (· < ·) := List.pairwise_lt_range.filter _
      have lts : ts.length ≤ i := by
        have h1 := congrArg List.length ets
        have h2 := List.length_filter_le (fun g => decide ((TT g).1 = m)) (List.range i)
        rw [List.length_map] at h1
        rw [List.length_range] at h2
        omega
      have hC6 := hC.up s6
      have hR6 := hR.up s6
      refine ⟨la, rfl, ⟨_, lst_of hla⟩, for_list (K := K) (a := la) (xs := ts.map fun t => V.ref t.1) (fun j σ H' => Same H6 H' ∧ (∃ x10 x11 x12 x13 : Option V, σ = [some (.ref l), some (.ref r), some (.int (bound : Int)), some (.int first), some (.ref d), some (.ref sd), some (.int (i : Int)), some (.int m), some (.int t), some (.int lf), x10, x11, x12, x13, x14]) ∧ ∀ u ∈ ts.take j, ¬ Shift (G i) (G u.2) (t - (TT u.2).2.1) (lf - (TT u.2).2.2))
        ⟨fun _ _ z => z, ⟨_, _, _, _, rfl⟩, fun u z => by cases z⟩ (fun j σ H' _ p => lst_of (p.1 _ _ hla)) ?_ ?_⟩
      · rintro j x σ H7 hj ⟨s7, ⟨y10, y11, y12, y13, rfl⟩, hno⟩
        rw [List.getElem?_map] at hj
        obtain ⟨u, eu, rfl⟩ := Option.map_eq_some_iff.mp hj
        have mu := List.mem_of_getElem? eu
        have ej : ((List.range i).filter fun g => decide ((TT g).1 = m))[j]? = some u.2 := by
          rw [← ets, List.getElem?_map, eu]
          rfl
        have mf := List.mem_filter.mp (List.mem_of_getElem? ej)
        have lu : u.2 < i := List.mem_range.mp mf.1
        have em : (TT u.2).1 = m := of_decide_eq_true mf.2
        have hu7 := s7 _ _ (htt u mu)
        refine ⟨u.1, _, rfl, tup_of hu7, rfl, _, _, rfl, _, _, rfl, _, _, rfl, rfl, ?_⟩
        k_upd
        refine ⟨_, rfl, _, rfl, _, rfl, _, _, rfl, rfl, _, rfl, _, rfl, _, _, rfl, rfl, _, rfl, _, rfl, _, _, rfl, rfl, by k_clsL, fun pt npt => ?_⟩
        dsimp only
        rw [show (i : Int) - (u.2 : Int) = ((i - u.2 : Nat) : Int) by omega]
        have npt6 : H6 pt = none := backS s7 npt
        have nptH : H pt = none := backS s6 npt6
        k_invariant "new" (npt, H8, e8, g8)
        refine gName_go ?_
        k_upd
        have s68 := s7.trans e8
        refine ⟨_, rfl, _, rfl, _, rfl, l, r, pt, u.2, i - u.2, _, _, ps, bs, ss, r0, c0, B, rfl, g8, by omega, by omega, hC6.up s68, hR6.up s68, hb, hss, few, box, ?_, by omega, fun H9 bb e9 hbb => ?_⟩
        · refine Nat.le_trans (Nat.mul_le_mul ?_ ?_) sq <;> omega
        rw [show u.2 + (i - u.2) = i by omega, ← eG] at hbb
        have s69 := s68.trans e9
        refine ⟨_, rfl, ite2 (fun c => ?_) (fun c => ?_)⟩
        · have sh := hbb.mp c
          refine ⟨_, rfl, q1 H9 pt i u.2 _ _ lu hi nptH (s6.trans s69) (e9 _ _ g8) sh (fun z => ?_) (fun g' s' lt' hh => ?_)⟩
          · have zi := shift_empty sh z
            rcases mkl with ⟨_, _, h1, h2⟩ | ⟨⟨⟨cc, h1⟩, _⟩, _⟩
            · rcases hMk u.2 lu with ⟨_, _, h3, h4⟩ | ⟨⟨⟨cc, h3⟩, _⟩, _⟩
              · omega
              · rw [z] at h3
                cases h3
            · rw [zi] at h1
              cases h1
          · rcases hh with hh | ⟨rfl, hh⟩
            · exact noRep g' s' lt' hh
            · rintro ⟨dr, dc, hs'⟩
              obtain ⟨f1, f2⟩ := mkL_shift mkl (hMk s' lt') hs'
              have mb : s' ∈ (List.range g').filter fun g => decide ((TT g).1 = m) := List.mem_filter.mpr ⟨List.mem_range.mpr lt', decide_eq_true f1.symm⟩
              have mt := asc_before asc ej mb hh
              rw [← ets, ← List.map_take] at mt
              obtain ⟨u2, mu2, eu2⟩ := List.mem_map.mp mt
              refine hno u2 mu2 ?_
              rw [eu2]
              exact f2
        · refine ⟨s69, ⟨_, _, _, _, rfl⟩, fun u' mu' => ?_⟩
          rw [take_next eu] at mu'
          rcases List.mem_append.mp mu' with mu' | mu'
          · exact hno u' mu'
          · rw [List.mem_singleton.mp mu']
            exact fun z => c (hbb.mpr z)
      · rintro σ H7 ⟨s7, ⟨y10, y11, y12, y13, rfl⟩, hno⟩
        rw [List.length_map, List.take_of_length_le (Nat.le_refl _)] at hno
        have noI : ∀ s' < i, ¬ Rep G i s' := fun s' lt' ⟨dr, dc, hs'⟩ => by
          obtain ⟨f1, f2⟩ := mkL_shift mkl (hMk s' lt') hs'
          have mb : s' ∈ (List.range i).filter fun g => decide ((TT g).1 = m) := List.mem_filter.mpr ⟨List.mem_range.mpr lt', decide_eq_true f1.symm⟩
          rw [← ets] at mb
          obtain ⟨u2, mu2, eu2⟩ := List.mem_map.mp mb
          refine hno u2 mu2 ?_
          rw [eu2]
          exact f2
        have hSeen7 := hSeen.up (e5.trans (e6.trans s7))
        have hF7 := hF.up (e5.trans (e6.trans s7))
        obtain ⟨kvd, gd7, _⟩ := id hF7.1
        have s47 := s6.trans s7
        obtain ⟨T', hT1, hT2⟩ : ∃ T' : Nat → Int × Int × Int, T' i = (m, t, lf) ∧ ∀ g < i, TT g = T' g := ⟨fun n => if n = i then (m, t, lf) else TT n, if_pos rfl, fun g lt => (if_neg (by omega)).symm⟩
        have hMk' : ∀ g < i + 1, MkL first (G g) (T' g).1 (T' g).2.1 (T' g).2.2 := fun g lt => by
          rcases Nat.lt_or_eq_of_le (Nat.le_of_lt_succ lt) with c | c
          · rw [← hT2 g c]
            exact hMk g c
          · rw [c, hT1]
            exact mkl
        have hS' := hSeen7.congr hT2
        clear hSeen hSeen7 k1 k2 k3 k4 k5 hla htt ets
        obtain ⟨kvs, k1, k2, k3, k4, k5⟩ := hS'
        k_upd
        refine ⟨fun σ' H' => σ' = [some (.ref l), some (.ref r), some (.int (bound : Int)), some (.int first), some (.ref d), some (.ref sd), some (.int (i : Int)), some (.int m), some (.int t), some (.int lf), y10, y11, y12, y13, x14] ∧ Same H H' ∧ SeenAt H H' sd (i + 1) T' ∧ Floor H' d qs S, ?_, ?_⟩
        · refine ⟨_, rfl, sd, rfl, .inl ⟨_, .inl k1⟩, _, rfl, by k_clsL, fun p8 n8 => ?_⟩
          have n8H : H p8 = none := backS s47 n8
          have p8sd : p8 ≠ sd := fun z => by rw [z, k1] at n8; cases n8
          have p8d : p8 ≠ d := fun z => by rw [z, gd7] at n8; cases n8
          k_invariant "new" (n8, H8, e8, g8)
          refine ⟨kvs, Sum.inl m, e8 _ _ k1, rfl, by rw [sizeLine_eq]; omega, fun v ev => ?_, fun ev => ?_⟩
          · obtain ⟨a, ts, rfl, a2, a3, a4, a5, a6⟩ := k4 m v ev
            have lts : ts.length ≤ i := by
              have h1 := congrArg List.length a6
              have h2 := List.length_filter_le (fun g => decide ((T' g).1 = m)) (List.range i)
              rw [List.length_map] at h1
              rw [List.length_range] at h2
              omega
            refine ⟨.inl ⟨rfl, _, lst_of (e8 _ _ a4)⟩, _, rfl, _, rfl, _, rfl, by k_clsL, fun pt npt => ?_⟩
            k_invariant "new" (npt, H9, e9, g9)
            have s79 := e8.trans e9
            refine ⟨a, _, _, rfl, rfl, s79 _ _ a4, by rw [List.length_map, sizeLine_eq]; omega, ?_⟩
            have da : d ≠ a := fun z => by
              rw [← z, gd7] at a4
              cases a4
            refine ⟨rfl, mutS (s47.trans s79) a2, ?_, ⟨(hF7.up s79).1.off da, hF7.2⟩⟩
            refine SeenAt.put (kvs := kvs) (T := T') nsdH (s79 _ _ k1) (by omega) (fun m' q => ⟨fun z => ?_, k3 m' q⟩) (fun m' v _ q => ?_) k5 (by rw [hT1]; exact ev) a2 a3 (s79 _ _ a4) (fun t mt => s79 _ _ (a5 t mt)) (by rw [hT1]; exact a6) (by rw [hT1]; exact g9)
            · rw [z, hT1, ev] at q
              cases q
            · obtain ⟨b, us, b1, b2, b3, b4, b5, b6⟩ := k4 m' v q
              exact ⟨b, us, b1, b2, b3, s79 _ _ b4, fun t mt => s79 _ _ (b5 t mt), b6⟩
          · refine ⟨.inl ⟨rfl, _, lst_of (by rw [upd_ne p8sd]; exact g8)⟩, _, rfl, _, rfl, _, rfl, by k_clsL, fun pt npt => ?_⟩
            have kk := k1
            have ptsd : pt ≠ sd := fun z => by rw [z, upd_same] at npt; cases npt
            have npt8 : H8 pt = none := by rw [upd_ne ptsd] at npt; exact npt
            have s8 : Same H (upd H8 sd (.dK (putK kvs (Sum.inl m) (.ref p8)))) := mutS (s47.trans e8) nsdH
            obtain ⟨H9, h9⟩ : ∃ H9, H9 = upd H8 sd (.dK (putK kvs (Sum.inl m) (.ref p8))) := ⟨_, rfl⟩
            have k9 : H9 sd = some (.dK (putK kvs (Sum.inl m) (.ref p8))) := by rw [h9, upd_same]
            have off9 : ∀ {b : Addr} {o : HO}, H7 b = some o → (∀ kv, o ≠ .dK kv) → H9 b = some o := fun {b o} e ne => by
              rw [h9, upd_ne fun z => by rw [z, k1] at e; exact ne _ (Option.some.inj e).symm]
              exact e8 _ _ e
            have g89 : H9 p8 = some (.lst []) := by rw [h9, upd_ne p8sd]; exact g8
            have sdd : d ≠ sd := fun z => by
              rw [← z, gd7] at k1
              cases k1
            have hF9 : Floor H9 d qs S := by rw [h9]; exact ⟨(hF7.up e8).1.off sdd, hF7.2⟩
            rw [← h9] at npt s8 ⊢
            k_invariant "new" (npt, H10, e10, g10)
            refine ⟨p8, _, _, rfl, rfl, e10 _ _ g89, by rw [sizeLine_eq]; decide, ?_⟩
            refine ⟨rfl, mutS (s8.trans e10) n8H, ?_, ⟨(hF9.up e10).1.off p8d.symm, hF9.2⟩⟩
            have vp : ∀ m', valV (putK kvs (Sum.inl m) (.ref p8)) (Sum.inl m') = if m' = m then some (.ref p8) else valV kvs (Sum.inl m') := fun m' => by
              rw [valV_put]
              by_cases c : m' = m
              · rw [c, if_pos rfl, if_pos rfl]
              · rw [if_neg c, if_neg fun z => c (Sum.inl.inj z)]
            have inot : ∀ m' a, valV kvs (Sum.inl m') = some (.ref a) → a ≠ p8 := fun m' a q z => by
              obtain ⟨b, us, b1, b2, b3, b4, b5, b6⟩ := k4 m' _ q
              have : b = p8 := by
                rw [← z]
                exact (V.ref.inj b1).symm
              rw [this] at b4
              rw [n8] at b4
              cases b4
            refine SeenAt.put (kvs := putK kvs (Sum.inl m) (.ref p8)) (T := T') (ts := []) nsdH (e10 _ _ k9) (by
              have := length_putK kvs (Sum.inl m) (V.ref p8)
              omega) (fun m' q => ?_) (fun m' v ne q => ?_) (fun m1 m2 a q1 q2 => ?_) (by rw [hT1, vp, if_pos rfl]) n8H p8sd (e10 _ _ g89) (fun t mt => by cases mt) ?_ (by rw [hT1]; exact g10)
            · rw [vp] at q
              by_cases c : m' = m
              · rw [if_pos c] at q
                cases q
              · rw [if_neg c] at q
                exact ⟨fun z => c (by rw [z, hT1]), k3 m' q⟩
            · rw [hT1] at ne
              rw [vp, if_neg ne] at q
              obtain ⟨b, us, b1, b2, b3, b4, b5, b6⟩ := k4 m' v q
              exact ⟨b, us, b1, b2, b3, e10 _ _ (off9 b4 fun _ z => by cases z), fun t mt => e10 _ _ (off9 (b5 t mt) fun _ z => by cases z), b6⟩
            · rw [vp] at q1 q2
              by_cases c1 : m1 = m
              · by_cases c2 : m2 = m
                · rw [c1, c2]
                · rw [if_pos c1] at q1
                  rw [if_neg c2] at q2
                  exact absurd (V.ref.inj (Option.some.inj q1)).symm (inot m2 a q2)
              · rw [if_neg c1] at q1
                by_cases c2 : m2 = m
                · rw [if_pos c2] at q2
                  exact absurd (V.ref.inj (Option.some.inj q2)).symm (inot m1 a q1)
                · rw [if_neg c2] at q2
                  exact k5 _ _ _ q1 q2
            · rw [hT1]
              exact (List.filter_eq_nil_iff.mpr fun g mg => by rw [decide_eq_true_iff]; exact k3 m ev g (List.mem_range.mp mg)).symm
        · rintro σ H8 ⟨rfl, s8, hSeen8, hF8⟩
          have noRep' : ∀ g s, s < g → g < i + 1 → ¬ Rep G g s := fun g s' lt le => by
            rcases Nat.lt_or_eq_of_le (Nat.le_of_lt_succ le) with c | c
            · exact noRep g s' lt c
            · subst c
              exact noI s' lt
          by_cases ib : i < bound
          · have b0 := live_low (a := (bound : Int) - i) (fun r c z => (hc r c z).1) (by omega)
            refine ⟨_, rfl, _, rfl, .inl ⟨d, r, qs, S, bs, ss, rfl, hF8, hR.up s8, hb, hss, few2, b0, b1, fun H9 d9 qs9 n9 e9 hF9 hq9 nz9 => ?_⟩⟩
            refine ⟨s8.trans e9, ⟨_, _, _, _, _, _, _, _, _, d9, rfl, fun _ => ⟨qs9, _, hF9, (fun r c => ?_), (fun r c z => ?_), (fun x m => ?_), nz9⟩⟩, ⟨T', hSeen8.up e9, hMk'⟩, noRep'⟩
            · rw [nextRow_live first hb hss b0, eG]
              exact stepL_congr (fun r c => by rw [hL, eG]) r c
            · rw [nextRow_live first hb hss b0] at z
              obtain ⟨r', c', a1, a2, a3, a4, z⟩ := stepL_near hb z
              have := hc r' c' z
              omega
            · obtain ⟨y, my, ey⟩ := hq9 x m
              have := hrw y my
              omega
          · refine ⟨_, rfl, _, rfl, .inr ⟨d, r, qs, bs, ss, rfl, ⟨_, hF8.1, fun x _ => b48 x.1⟩, hR.up s8, hb, hss, few2, fun H9 d9 n9 e9 => ?_⟩⟩
            exact ⟨s8.trans e9, ⟨_, _, _, _, _, _, _, _, _, d9, rfl, fun le => absurd le (by omega)⟩, ⟨T', hSeen8.up e9, hMk'⟩, noRep'⟩
    · rintro σ H4 ⟨s4, ⟨x6, x7, x8, x9, x10, x11, x12, x13, x14, d, rfl, hFl⟩, ⟨TT, hSeen, hMk⟩, noRep⟩
      exact q0 H4 (fun g s lt le => noRep g s lt (by omega)) s4
end
end My
namespace My
open PySem PySem.Spec PyProof.Rows L2 Vx
open TL
local macro_rules | `(tactic| k_invariant "new" ($n, $H:ident, $e:ident, $h:ident)) => `(tactic| (generalize hE : upd _ _ _ = $H; obtain ⟨$e:ident, $h:ident⟩ := gen_e hE $n; clear hE))
local macro_rules | `(tactic| k_places) => `(tactic| first
  | assumption
  | exact lst_of (by assumption)
  | exact tup_of (by assumption)
  | (refine getS (by assumption) ?_; k_places)
  | (refine Same.seq (by assumption) ?_; k_places)
  | (refine tupS (by assumption) ?_; k_places)
  | (refine lst_of ?_; k_places)
  | (refine tup_of ?_; k_places))
local macro_rules | `(tactic| k_subL) => `(tactic| first
  | k_places
  | solve_by_elim (maxDepth := 10) [getS, lst_of, tup_of, Same.seq, tupS])
local macro_rules | `(tactic| k_offL) => `(tactic| first
  | (show (0 : Int) < _; first | omega | decide)
  | (refine ⟨?_, ?_⟩ <;> first | omega | decide)
  | exact .inr ⟨by decide, by decide⟩
  | exact .inl ⟨by decide, by decide⟩
  | exact .inl ⟨by omega, by omega⟩
  | omega)
local macro_rules | `(tactic| k_clsL) => `(tactic| exact Nat.le_of_ble_eq_true rfl)
local macro_rules | `(tactic| k_upd) => `(tactic| simp only [L2.start, List.map_cons, List.map_nil, List.length_cons, List.length_nil, List.replicate_succ, List.replicate_zero, List.cons_append, List.nil_append, List.set_cons_zero, List.set_cons_succ])
section
variable {P : Program} {w : World} {K : PySem.W.Frag} {mg : Str → Option Value} {base : Heap}
/-! ### the law's own next generation -/
def nbq (qs : List Pr) (r c : Int) : Nat :=
  qs.count (r - 1, c - 1) + qs.count (r - 1, c) + qs.count (r - 1, c + 1) + qs.count (r, c - 1) + qs.count (r, c + 1) + qs.count (r + 1, c - 1) + qs.count (r + 1, c) + qs.count (r + 1, c + 1)
def nbr (y x : Pr) : Prop := y.1 - 1 ≤ x.1 ∧ x.1 ≤ y.1 + 1 ∧ y.2 - 1 ≤ x.2 ∧ x.2 ≤ y.2 + 1 ∧ x ≠ y
theorem nbq_nb {qs : List Pr} (nd : qs.Nodup) (r c : Int) : nbq qs r c = nb (memL qs) r c := by
  have e : ∀ p : Pr, qs.count p = (memL qs p.1 p.2).toNat := fun p => by
    unfold memL
    rw [List.Nodup.count nd]
    by_cases m : p ∈ qs
    · rw [if_pos m, decide_eq_true m]
      rfl
    · rw [if_neg m, decide_eq_false m]
      rfl
  unfold nbq nb
  rw [e, e, e, e, e, e, e, e]
theorem nbq_snoc (qs : List Pr) (y : Pr) (r c : Int) [Decidable (nbr y (r, c))] : nbq (qs ++ [y]) r c = nbq qs r c + if nbr y (r, c) then 1 else 0 := by
  have one : ∀ p : Pr, (qs ++ [y]).count p = qs.count p + if y = p then 1 else 0 := fun p => by
    rw [List.count_append, List.count_singleton]
    by_cases e : y = p
    · subst e
      simp
    · simp [e]
  obtain ⟨a, b⟩ := y
  unfold nbq
  rw [one, one, one, one, one, one, one, one]
  simp only [Prod.mk.injEq]
  by_cases h : nbr (a, b) (r, c)
  · rw [if_pos h]
    obtain ⟨h1, h2, h3, h4, h5⟩ := h
    have h5 : ¬ (r = a ∧ c = b) := fun z => h5 (Prod.ext z.1 z.2)
    dsimp only at h1 h2 h3 h4
    have c1 : a = r - 1 ∨ a = r ∨ a = r + 1 := by omega
    have c2 : b = c - 1 ∨ b = c ∨ b = c + 1 := by omega
    rcases c1 with e1 | e1 | e1 <;> rcases c2 with e2 | e2 | e2 <;> first
      | (exfalso; omega)
      | ((repeat (first | rw [if_neg (by omega)] | rw [if_pos (by omega)])); omega)
  · rw [if_neg h]
    have off : ∀ i j : Int, r - 1 ≤ i → i ≤ r + 1 → c - 1 ≤ j → j ≤ c + 1 → ¬ (i = r ∧ j = c) → ¬ (a = i ∧ b = j) := fun i j h1 h2 h3 h4 h5 h6 => h ⟨by dsimp only; omega, by dsimp only; omega, by dsimp only; omega, by dsimp only; omega, fun z => h5 (by
      have z1 : r = a := congrArg Prod.fst z
      have z2 : c = b := congrArg Prod.snd z
      omega)⟩
    rw [if_neg (off _ _ (by omega) (by omega) (by omega) (by omega) (by omega)), if_neg (off _ _ (by omega) (by omega) (by omega) (by omega) (by omega)), if_neg (off _ _ (by omega) (by omega) (by omega) (by omega) (by omega)), if_neg (off _ _ (by omega) (by omega) (by omega) (by omega) (by omega)),
      if_neg (off _ _ (by omega) (by omega) (by omega) (by omega) (by omega)), if_neg (off _ _ (by omega) (by omega) (by omega) (by omega) (by omega)), if_neg (off _ _ (by omega) (by omega) (by omega) (by omega) (by omega)), if_neg (off _ _ (by omega) (by omega) (by omega) (by omega) (by omega))]
    omega
end
end My
namespace My
open PySem PySem.Spec PyProof.Rows L2 Vx
open TL
local macro_rules | `(tactic| k_invariant "new" ($n, $H:ident, $e:ident, $h:ident)) => `(tactic| (generalize hE : upd _ _ _ = $H; obtain ⟨$e:ident, $h:ident⟩ := gen_e hE $n; clear hE))
local macro_rules | `(tactic| k_places) => `(tactic| first
  | assumption
  | exact lst_of (by assumption)
  | exact tup_of (by assumption)
  | (refine getS (by assumption) ?_; k_places)
  | (refine Same.seq (by assumption) ?_; k_places)
  | (refine tupS (by assumption) ?_; k_places)
  | (refine lst_of ?_; k_places)
  | (refine tup_of ?_; k_places))
local macro_rules | `(tactic| k_subL) => `(tactic| first
  | k_places
  | solve_by_elim (maxDepth := 10) [getS, lst_of, tup_of, Same.seq, tupS])
local macro_rules | `(tactic| k_offL) => `(tactic| first
  | (show (0 : Int) < _; first | omega | decide)
  | (refine ⟨?_, ?_⟩ <;> first | omega | decide)
  | exact .inr ⟨by decide, by decide⟩
  | exact .inl ⟨by decide, by decide⟩
  | exact .inl ⟨by omega, by omega⟩
  | omega)
local macro_rules | `(tactic| k_clsL) => `(tactic| exact Nat.le_of_ble_eq_true rfl)
local macro_rules | `(tactic| k_upd) => `(tactic| simp only [L2.start, List.map_cons, List.map_nil, List.length_cons, List.length_nil, List.replicate_succ, List.replicate_zero, List.cons_append, List.nil_append, List.set_cons_zero, List.set_cons_succ])
section
variable {P : Program} {w : World} {K : PySem.W.Frag} {mg : Str → Option Value} {base : Heap}
theorem nbq_zero {qs : List Pr} {x : Pr} (h : ∀ y ∈ qs, ¬ nbr y x) : nbq qs x.1 x.2 = 0 := by
  have z : ∀ p : Pr, nbr p x → qs.count p = 0 := fun p hp => List.count_eq_zero.mpr fun m => h p m hp
  obtain ⟨r, c⟩ := x
  have ne : ∀ i j : Int, ¬ (i = r ∧ j = c) → ((r, c) : Pr) ≠ (i, j) := fun i j h e => h ⟨(congrArg Prod.fst e).symm, (congrArg Prod.snd e).symm⟩
  have q : ∀ i j : Int, r - 1 ≤ i → i ≤ r + 1 → c - 1 ≤ j → j ≤ c + 1 → ¬ (i = r ∧ j = c) → qs.count ((i, j) : Pr) = 0 := fun i j a1 a2 a3 a4 a5 =>
    z (i, j) ⟨by dsimp only; omega, by dsimp only; omega, by dsimp only; omega, by dsimp only; omega, ne i j a5⟩
  unfold nbq
  dsimp only
  rw [q _ _ (by omega) (by omega) (by omega) (by omega) (by omega), q _ _ (by omega) (by omega) (by omega) (by omega) (by omega), q _ _ (by omega) (by omega) (by omega) (by omega) (by omega), q _ _ (by omega) (by omega) (by omega) (by omega) (by omega),
    q _ _ (by omega) (by omega) (by omega) (by omega) (by omega), q _ _ (by omega) (by omega) (by omega) (by omega) (by omega), q _ _ (by omega) (by omega) (by omega) (by omega) (by omega), q _ _ (by omega) (by omega) (by omega) (by omega) (by omega)]
theorem cnt_get {ks : List Pr} {g : Pr → Nat} {x : Pr} (h : x ∉ ks → g x = 0) : (if x ∈ ks then some (V.int ((g x : Nat) : Int)) else none).getD (.int 0) = .int ((g x : Nat) : Int) := by
  by_cases m : x ∈ ks
  · rw [if_pos m]
    rfl
  · rw [if_neg m, h m]
    rfl
theorem three {r : Int} {a : Nat} {v : V} (h : [V.int (r - 1), .int r, .int (r + 1)][a]? = some v) : v = .int (r - 1 + (a : Int)) ∧ a < 3 := by
  match a, h with
  | 0, h => exact ⟨(Option.some.inj h).symm.trans (by rw [show r - 1 + ((0 : Nat) : Int) = r - 1 by omega]), by decide⟩
  | 1, h => exact ⟨(Option.some.inj h).symm.trans (by rw [show r - 1 + ((1 : Nat) : Int) = r by omega]), by decide⟩
  | 2, h => exact ⟨(Option.some.inj h).symm.trans (by rw [show r - 1 + ((2 : Nat) : Int) = r + 1 by omega]), by decide⟩
  | _ + 3, h => cases h
theorem neT {i j : Int} (h : (!decide (V.int i = V.int j)) = true) : ¬ i = j := fun e => by
  rw [e] at h
  simp at h
theorem neF {i j : Int} (h : ¬ (!decide (V.int i = V.int j)) = true) : i = j := by
  simp at h
  exact h
def doneB (a b : Nat) (y x : Pr) : Prop := nbr y x ∧ (x.1 < y.1 - 1 + (a : Int) ∨ (x.1 = y.1 - 1 + (a : Int) ∧ x.2 < y.2 - 1 + (b : Int)))
instance (y x : Pr) : Decidable (nbr y x) := inferInstanceAs (Decidable (_ ∧ _))
instance (a b : Nat) (y x : Pr) : Decidable (doneB a b y x) := inferInstanceAs (Decidable (_ ∧ _))
def sp_law_next : Sp := fun vs H Q _ => ∃ (l lb ls : Addr) (ps : List Pr) (bs ss : List Int), vs = [.ref l, .ref lb, .ref ls] ∧ Cells H l ps ∧ H lb = some (.lst (bs.map V.int)) ∧ H ls = some (.lst (ss.map V.int)) ∧ (∀ b ∈ bs, 1 ≤ b ∧ b ≤ 8) ∧ ps.length < 100000 ∧
  ∀ (H' : Hp) (p : Addr) (qs : List Pr), H p = none → Same H H' → Cells H' p qs → qs.Pairwise ltP → (∀ x, x ∈ qs ↔ stepL bs ss (memL ps) x.1 x.2 = true) → Q (.ref p) H'
theorem ok_law_next (T : Txt K mg) : FnOk P w K mg base CX0 1 T.f_law_next T.d_law_next ["cells", "births", "survival"] sp_law_next := by
  refine T.F_law_next.ok sc_law_next (fun vs H Q E h => ?_) (fun cdv A outer s H vs Q E hr h => ?_)
  · obtain ⟨_, _, _, _, _, _, rfl, _⟩ := h
    rfl
  · obtain ⟨l, lb, ls, ps, bs, ss, rfl, hC, hB, hS, hb, few, q⟩ := h
    have hu : (A.deeper (envOfC (Str.ofString "_law_next") (defScope s_law_next) s.heap.objs.size T.f_law_next cdv)).units + 1 < cLine := by
      have := hr.units
      omega
    refine ⟨_, (pss_cons (ps_set (i := 3) sc_law_next.nd rfl (.inl rfl) pe_dnewT)
      (pss_cons (ps_set (i := 4) sc_law_next.nd rfl (.inl rfl) pe_dnewT)
      (pss_cons (ps_for PassesOwn.never rfl (pi_list (pv 0)) (pg_tupK (K := K) (n := 2) rfl rfl (pgs_cons (pg_name (i := 5) sc_law_next.nd rfl (.inl rfl)) (pgs_cons (pg_name (i := 6) sc_law_next.nd rfl (.inl rfl)) pgs_nil)))
      (pss_one (ps_dput hu (pv 4) (pe_tup (pa_cons (pv 5) (pa_cons (pv 6) pa_nil))) pe_bl rfl)))
      (pss_cons (ps_lock (ps_for PassesOwn.never rfl (pi_keys (pv 4)) (pg_tupK (K := K) (n := 2) rfl rfl (pgs_cons (pg_name (i := 5) sc_law_next.nd rfl (.inl rfl)) (pgs_cons (pg_name (i := 6) sc_law_next.nd rfl (.inl rfl)) pgs_nil)))
      (pss_cons (ps_dput hu (pv 3) (pe_tup (pa_cons (pv 5) (pa_cons (pv 6) pa_nil))) (pe_dget2 hu (pv 3) (pe_tup (pa_cons (pv 5) (pa_cons (pv 6) pa_nil))) pe_int ⟨rfl, rfl, rfl, rfl⟩) rfl)
      (pss_one (ps_for PassesOwn.never rfl (pi_list (pe_lst (pa_cons (pe_op op_sub (pv 5) pe_int) (pa_cons (pv 5) (pa_cons (pe_op op_add (pv 5) pe_int) pa_nil))))) (pg_name (i := 7) sc_law_next.nd rfl (.inl rfl))
      (pss_one (ps_for PassesOwn.never rfl (pi_list (pe_lst (pa_cons (pe_op op_sub (pv 6) pe_int) (pa_cons (pv 6) (pa_cons (pe_op op_add (pv 6) pe_int) pa_nil))))) (pg_name (i := 8) sc_law_next.nd rfl (.inl rfl))
      (pss_one (ps_if (PW.pt (pw_or (pt_cmpR op_ne (pv 7) (pv 5) (nomark _)) (pw_or1 (pt_cmpR op_ne (pv 8) (pv 6) (nomark _)))))
      (pss_one (ps_dput hu (pv 3) (pe_tup (pa_cons (pv 7) (pa_cons (pv 8) pa_nil))) (pe_op op_add (pe_dget2 hu (pv 3) (pe_tup (pa_cons (pv 7) (pa_cons (pv 8) pa_nil))) pe_int ⟨rfl, rfl, rfl, rfl⟩) pe_int) rfl))
      pss_nil)))))))))
      (pss_cons (ps_set (i := 9) sc_law_next.nd rfl (.inl rfl) (pe_lst pa_nil))
      (pss_cons (ps_lock (ps_for PassesOwn.never rfl (pi_keys (pv 3)) (pg_name (i := 10) sc_law_next.nd rfl (.inl rfl))
      (pss_one (ps_if (PW.pt (pw_or (PW.pt (pw_and (pt_cmp (pc_din hu (pv 10) (pv 4))) (pw_and1 (pt_cmpR op_in_seq (pe_dget hu (pv 3) (pv 10) (fun _ _ => rfl)) (pv 2) rfl)))) (pw_or1 (PW.pt (pw_and (pt_cmp (pc_dnotin hu (pv 10) (pv 4))) (pw_and1 (pt_cmpR op_in_seq (pe_dget hu (pv 3) (pv 10) (fun _ _ => rfl)) (pv 1) rfl)))))))
      (pss_one (ps_expr (pe_bm PySem.F.plainAttrs_list PySem.F.slot_list_append PySem.F.type_list_append mt_append (pv 9) (pa_cons (pv 10) pa_nil))))
      pss_nil))))
      (pss_one (ps_ret (pe_callB cr_sortedC (by rfl) T.z_sorted (by decide +kernel) (pa_cons (pv 9) pa_nil)))))))))), ?_⟩
    k_upd
    refine fun cd ncd => ?_
    k_invariant "new" (ncd, H1, e1, g1)
    k_upd
    refine fun ad nad => ?_
    k_invariant "new" (nad, H2, e2, g2)
    k_upd
    have ncad : cd ≠ ad := ne_of_none g1 nad
    have g1 := e2 _ _ g1
    obtain ⟨ts, hl, ht, ets⟩ := id hC
    have lts : ts.length = ps.length := by rw [← ets, List.length_map]
    have s02 := e1.trans e2
    refine ⟨_, rfl, l, rfl, ⟨_, lst_of (s02 _ _ hl)⟩, ?_⟩
    refine for_list (K := K) (a := l) (xs := ts.map fun t => V.ref t.1) (fun i σ H' => Same H1 H' ∧ (∃ x5 x6 : Option V, σ = [some (.ref l), some (.ref lb), some (.ref ls), some (.ref cd), some (.ref ad), x5, x6, none, none, none, none]) ∧
      ∃ qs, Dct H' ad qs (fun _ => .bl true) ∧ (∀ x, x ∈ qs ↔ x ∈ ps.take i) ∧ qs.length ≤ i)
      ⟨e2, ⟨_, _, rfl⟩, [], Dct.new _ g2, fun x => by simp, Nat.le_refl _⟩ (fun i σ H' _ p => lst_of (p.1 _ _ (e1 _ _ hl))) ?_ ?_
    · rintro i x σ H' hi ⟨sm, ⟨x5, x6, rfl⟩, qs, hD, mem, lq⟩
      obtain ⟨t, mt, rfl, hx⟩ := item_cells (H := H') hi rfl
      rw [ets] at hx
      have li : i < ps.length := (List.getElem?_eq_some_iff.mp hx).1
      have ht' := sm _ _ (e1 _ _ (ht t mt))
      refine ⟨t.1, _, rfl, tup_of ht', rfl, _, _, rfl, _, _, rfl, rfl, ?_⟩
      k_upd
      refine ⟨_, rfl, _, rfl, _, rfl, (by k_clsL), fun p4 n4 => ?_⟩
      k_invariant "new" (n4, H4, e4, g4)
      obtain ⟨H5, dp, pa⟩ := (hD.up e4).dput (x := t.2) (by rw [sizeLine_eq]; omega) g4 (.bl true)
      refine ⟨ad, H5, rfl, dp, pa.mut (sm.trans e4) nad, ⟨_, _, rfl⟩, addK qs t.2, pa.1.congr fun y _ => ?_, fun x => ?_, Nat.le_trans addK_len (Nat.add_le_add_right lq 1)⟩
      · unfold setG
        by_cases e : y = t.2
        · rw [if_pos e]
        · rw [if_neg e]
      · rw [mem_addK, mem, take_next hx, List.mem_append, List.mem_singleton]
    rintro σ H3 ⟨s13, ⟨x5, x6, rfl⟩, qs, hD, memq, lq⟩
    rw [List.length_map] at lq
    rw [List.length_map, List.take_of_length_le (by omega)] at memq
    have ndq : qs.Nodup := hD.choose_spec.2.2
    obtain ⟨kvs, gad, hm⟩ := hD
    have g1 := s13 _ _ (show H1 cd = _ from by assumption)
    refine ⟨ad, _, gad, trivial, fun od => ⟨_, rfl, ad, od, rfl, .inr ⟨kvs, upd_same, ?_⟩⟩⟩
    have h0 : Same H (upd H3 ad (.frz od (.dT kvs))) := mutS (e1.trans s13) (backS e1 nad)
    have h1 : upd H3 ad (.frz od (.dT kvs)) ad = some (.frz od (.dT kvs)) := upd_same
    have h2 : upd H3 ad (.frz od (.dT kvs)) cd = some (.dT []) := by rw [upd_ne ncad]; exact g1
    generalize upd H3 ad (.frz od (.dT kvs)) = Hf at h0 h1 h2 ⊢
    refine for_it walk_keysT (fun i σ H' => Same H H' ∧ H' ad = some (.frz od (.dT kvs)) ∧ (∃ x5 x6 x7 x8 : Option V, σ = [some (.ref l), some (.ref lb), some (.ref ls), some (.ref cd), some (.ref ad), x5, x6, x7, x8, none, none]) ∧
        ∃ ks, Dct H' cd ks (fun x => .int ((nbq (qs.take i) x.1 x.2 : Nat) : Int)) ∧ (∀ x, x ∈ ks ↔ ∃ y ∈ qs.take i, x = y ∨ nbr y x) ∧ ks.length ≤ 10 * i)
      ⟨h0, h1, ⟨_, _, _, _, rfl⟩, [], Dct.new _ h2, fun x => by simp, Nat.le_refl _⟩ (fun i σ H' _ p => p.2.1) ?_ ?_
    · rintro i x σ H2 H4 hi ⟨sm, had, ⟨x5, x6, x7, x8, rfl⟩, ks, hK, mk, lk⟩ ⟨rfl, k, v, q0, e, rfl, hq0⟩
      obtain ⟨y, hy, rfl, rfl⟩ := hm.at e
      have li : i < qs.length := (List.getElem?_eq_some_iff.mp hy).1
      obtain ⟨r, c⟩ := y
      have hq0 : _ = some (HO.tup [.int r, .int c]) := hq0
      refine ⟨q0, _, rfl, tup_of hq0, rfl, _, _, rfl, _, _, rfl, rfl, ?_⟩
      k_upd
      refine ⟨_, rfl, cd, rfl, hK.isD, _, rfl, _, rfl, (by k_clsL), fun p4 n4 => ?_⟩
      k_invariant "new" (n4, H5, e5, g5)
      refine ⟨_, (hK.up e5).dget (x := (r, c)) g5, ?_⟩
      rw [cnt_get (x := (r, c)) (g := fun x => nbq (qs.take i) x.1 x.2) fun nm => nbq_zero fun z mz nz => nm ((mk _).mpr ⟨z, mz, .inr nz⟩)]
      refine ⟨_, rfl, _, rfl, _, rfl, (by k_clsL), fun p6 n6 => ?_⟩
      k_invariant "new" (n6, H6, e6, g6)
      obtain ⟨H7, dp7, pa7⟩ := (hK.up (e5.trans e6)).dput (x := (r, c)) (by rw [sizeLine_eq]; omega) g6 (.int ((nbq (qs.take i) r c : Nat) : Int))
      have s7 := pa7.mut (sm.trans (e5.trans e6)) ncd
      refine ⟨cd, H7, rfl, dp7, ?_⟩
      have k7 : Dct H7 cd (addK ks (r, c)) (fun x => .int ((nbq (qs.take i) x.1 x.2 + (if doneB 0 0 (r, c) x then 1 else 0) : Nat) : Int)) := pa7.1.congr fun x m => by
        have n0 : ¬ doneB 0 0 (r, c) x := fun z => by
          obtain ⟨⟨a1, a2, a3, a4, a5⟩, b1⟩ := z
          dsimp only at a1 a2 a3 a4 b1
          omega
        rw [if_neg n0]
        unfold setG
        by_cases e : x = (r, c)
        · rw [if_pos e, e]
          rfl
        · rw [if_neg e]
          rfl
      have m7 : ∀ x, x ∈ addK ks (r, c) ↔ (∃ y ∈ qs.take i, x = y ∨ nbr y x) ∨ x = (r, c) ∨ doneB 0 0 (r, c) x := fun x => by
        rw [mem_addK, mk]
        refine ⟨fun z => z.elim .inl fun z => .inr (.inl z), fun z => z.elim .inl fun z => z.elim .inr fun z => ?_⟩
        obtain ⟨⟨a1, a2, a3, a4, a5⟩, b1⟩ := z
        dsimp only at a1 a2 a3 a4 b1
        omega
      have ad7 : H7 ad = some (.frz od (.dT kvs)) := by
        rw [pa7.2 ad fun e => ncad e.symm]
        exact e6 _ _ (e5 _ _ had)
      k_upd
      refine ⟨_, rfl, _, _, rfl, rfl, _, rfl, _, rfl, _, _, rfl, rfl, (by k_clsL), fun li1 nli1 => ?_⟩
      have ncl : li1 ≠ cd := k7.ne nli1
      k_invariant "new" (nli1, H8, e8, g8)
      have ad8 := e8 _ _ ad7
      have k8 := k7.up e8
      have l8 : (addK ks (r, c)).length ≤ 10 * i + 1 := Nat.le_trans addK_len (by omega)
      refine ⟨li1, rfl, ⟨_, lst_of g8⟩, ?_⟩
      refine for_list (K := K) (a := li1) (xs := [V.int (r - 1), .int r, .int (r + 1)]) (fun a σ H' => Same H H' ∧ H' ad = some (.frz od (.dT kvs)) ∧ H' li1 = some (.lst [.int (r - 1), .int r, .int (r + 1)]) ∧
          (∃ x7 x8 : Option V, σ = [some (.ref l), some (.ref lb), some (.ref ls), some (.ref cd), some (.ref ad), some (.int r), some (.int c), x7, x8, none, none]) ∧
          ∃ ks', Dct H' cd ks' (fun x => .int ((nbq (qs.take i) x.1 x.2 + (if doneB a 0 (r, c) x then 1 else 0) : Nat) : Int)) ∧ (∀ x, x ∈ ks' ↔ (∃ y ∈ qs.take i, x = y ∨ nbr y x) ∨ x = (r, c) ∨ doneB a 0 (r, c) x) ∧ ks'.length ≤ 10 * i + 1 + 3 * a)
        ⟨s7.trans e8, ad8, g8, ⟨_, _, rfl⟩, _, k8, m7, l8⟩ (fun a σ H' _ p => lst_of p.2.2.1) ?_ ?_
      · rintro a v σ H9 ha ⟨s9, ad9, g9, ⟨x7, x8, rfl⟩, ks9, k9, m9, l9⟩
        obtain ⟨rfl, a3⟩ := three ha
        k_upd
        refine ⟨_, rfl, _, _, rfl, rfl, _, rfl, _, rfl, _, _, rfl, rfl, (by k_clsL), fun li2 nli2 => ?_⟩
        k_invariant "new" (nli2, H10, e10, g10)
        have nl2 : li2 ≠ cd := k9.ne nli2
        refine ⟨li2, rfl, ⟨_, lst_of g10⟩, ?_⟩
        refine for_list (K := K) (a := li2) (xs := [V.int (c - 1), .int c, .int (c + 1)]) (fun b σ H' => Same H H' ∧ H' ad = some (.frz od (.dT kvs)) ∧ H' li1 = some (.lst [.int (r - 1), .int r, .int (r + 1)]) ∧ H' li2 = some (.lst [.int (c - 1), .int c, .int (c + 1)]) ∧
            (∃ x8 : Option V, σ = [some (.ref l), some (.ref lb), some (.ref ls), some (.ref cd), some (.ref ad), some (.int r), some (.int c), some (.int (r - 1 + (a : Int))), x8, none, none]) ∧
            ∃ ks', Dct H' cd ks' (fun x => .int ((nbq (qs.take i) x.1 x.2 + (if doneB a b (r, c) x then 1 else 0) : Nat) : Int)) ∧ (∀ x, x ∈ ks' ↔ (∃ y ∈ qs.take i, x = y ∨ nbr y x) ∨ x = (r, c) ∨ doneB a b (r, c) x) ∧ ks'.length ≤ 10 * i + 1 + 3 * a + b)
          ⟨s9.trans e10, e10 _ _ ad9, e10 _ _ g9, g10, ⟨_, rfl⟩, _, k9.up e10, m9, l9⟩ (fun b σ H' _ p => lst_of p.2.2.2.1) ?_ ?_
        · rintro b v σ H11 hb' ⟨s11, ad11, g11, g12, ⟨x8, rfl⟩, ks11, k11, m11, l11⟩
          obtain ⟨rfl, b3⟩ := three hb'
          k_upd
          refine ⟨_, rfl, _, rfl, rfl, _, rfl, ite2 (fun c1 => iteT ?_) (fun c1 => ⟨_, rfl, _, rfl, rfl, _, rfl, ite2 (fun c2 => ?_) (fun c2 => ?_)⟩)⟩
          rotate_left 2
          · have z1 := neF c1
            have z2 := neF c2
            have same : ∀ x, doneB a (b + 1) (r, c) x ↔ doneB a b (r, c) x := fun x => by
              unfold doneB nbr
              dsimp only
              refine ⟨fun ⟨h, h2⟩ => ⟨h, ?_⟩, fun ⟨h, h2⟩ => ⟨h, ?_⟩⟩
              · rcases h2 with h2 | ⟨h2, h3⟩
                · exact .inl h2
                · have n3 : ¬ x.2 = c - 1 + (b : Int) := fun e => h.2.2.2.2 (Prod.ext (by dsimp only; omega) (by dsimp only; omega))
                  exact .inr ⟨h2, by omega⟩
              · rcases h2 with h2 | ⟨h2, h3⟩
                · exact .inl h2
                · exact .inr ⟨h2, by omega⟩
            refine ⟨s11, ad11, g11, g12, ⟨_, rfl⟩, ks11, k11.congr fun x _ => ?_, fun x => ?_, by omega⟩
            · simp only [same]
            · rw [m11, same]
          all_goals
            have hne : ¬ (r - 1 + (a : Int) = r ∧ c - 1 + (b : Int) = c) := by
              first
                | exact fun z => neT c1 z.1
                | exact fun z => neT c2 z.2
            have nbx : nbr (r, c) (r - 1 + (a : Int), c - 1 + (b : Int)) := ⟨by dsimp only; omega, by dsimp only; omega, by dsimp only; omega, by dsimp only; omega, fun e => hne ⟨congrArg Prod.fst e, congrArg Prod.snd e⟩⟩
            have nd0 : ¬ doneB a b (r, c) (r - 1 + (a : Int), c - 1 + (b : Int)) := fun z => by
              obtain ⟨_, z⟩ := z
              dsimp only at z
              omega
            have step : ∀ x, doneB a (b + 1) (r, c) x ↔ doneB a b (r, c) x ∨ x = (r - 1 + (a : Int), c - 1 + (b : Int)) := fun x => by
              constructor
              · rintro ⟨h, h2⟩
                rcases h2 with h2 | ⟨h2, h3⟩
                · exact .inl ⟨h, .inl h2⟩
                · by_cases e : x.2 = c - 1 + (b : Int)
                  · exact .inr (Prod.ext h2 e)
                  · exact .inl ⟨h, .inr ⟨h2, by dsimp only at h3 ⊢; omega⟩⟩
              · rintro (⟨h, h2⟩ | e)
                · refine ⟨h, ?_⟩
                  rcases h2 with h2 | ⟨h2, h3⟩
                  · exact .inl h2
                  · exact .inr ⟨h2, by omega⟩
                · rw [e]
                  exact ⟨nbx, .inr ⟨rfl, by dsimp only; omega⟩⟩
            refine ⟨_, rfl, cd, rfl, k11.isD, _, rfl, _, rfl, (by k_clsL), fun p12 n12 => ?_⟩
            k_invariant "new" (n12, H12, e12, g13)
            refine ⟨_, (k11.up e12).dget (x := (r - 1 + (a : Int), c - 1 + (b : Int))) g13, ?_⟩
            rw [cnt_get (x := (r - 1 + (a : Int), c - 1 + (b : Int))) (g := fun x => nbq (qs.take i) x.1 x.2 + (if doneB a b (r, c) x then 1 else 0)) fun nm => ?_]
            rotate_left
            · dsimp only
              rw [if_neg nd0, nbq_zero (x := (r - 1 + (a : Int), c - 1 + (b : Int))) fun z mz nz => nm ((m11 _).mpr (.inl ⟨z, mz, .inr nz⟩))]
            dsimp only
            rw [if_neg nd0, Nat.add_zero]
            refine ⟨_, _, rfl, rfl, _, rfl, _, rfl, _, rfl, (by k_clsL), fun p14 n14 => ?_⟩
            k_invariant "new" (n14, H14, e14, g14)
            have fewk : ks11.length < sizeLine := by rw [sizeLine_eq]; omega
            obtain ⟨H15, dp15, pa15⟩ := (k11.up (e12.trans e14)).dput (x := (r - 1 + (a : Int), c - 1 + (b : Int))) fewk g14 (.int ((nbq (qs.take i) (r - 1 + (a : Int)) (c - 1 + (b : Int)) : Nat) + 1 : Int))
            have off : ∀ (p : Addr) (o : HO), H11 p = some o → p ≠ cd → H15 p = some o := fun p o e n => by
              rw [pa15.2 p n]
              exact e14 _ _ (e12 _ _ e)
            refine ⟨cd, H15, rfl, dp15, pa15.mut (s11.trans (e12.trans e14)) ncd, off _ _ ad11 (fun e => ncad e.symm), off _ _ g11 ncl, off _ _ g12 nl2, ⟨_, rfl⟩, addK ks11 (r - 1 + (a : Int), c - 1 + (b : Int)), pa15.1.congr fun x _ => ?_, fun x => ?_, ?_⟩
            · unfold setG
              by_cases e : x = (r - 1 + (a : Int), c - 1 + (b : Int))
              · rw [if_pos e, if_pos ((step x).mpr (.inr e)), e]
                rfl
              · rw [if_neg e]
                have : doneB a (b + 1) (r, c) x ↔ doneB a b (r, c) x := (step x).trans ⟨fun z => z.elim id fun z => absurd z e, .inl⟩
                simp only [this]
            · rw [mem_addK, m11, step]
              constructor
              · rintro ((h | h | h) | h)
                · exact .inl h
                · exact .inr (.inl h)
                · exact .inr (.inr (.inl h))
                · exact .inr (.inr (.inr h))
              · rintro (h | h | h | h)
                · exact .inl (.inl h)
                · exact .inl (.inr (.inl h))
                · exact .inl (.inr (.inr h))
                · exact .inr h
            · have := addK_len (ps := ks11) (x := (r - 1 + (a : Int), c - 1 + (b : Int)))
              omega
        · rintro σ H11 ⟨s11, ad11, g11, g12, ⟨x8, rfl⟩, ks11, k11, m11, l11⟩
          have same : ∀ x, doneB a 3 (r, c) x ↔ doneB (a + 1) 0 (r, c) x := fun x => by
            unfold doneB nbr
            dsimp only
            refine ⟨fun ⟨h, h2⟩ => ⟨h, ?_⟩, fun ⟨h, h2⟩ => ⟨h, ?_⟩⟩
            · omega
            · omega
          have k11 : Dct H11 cd ks11 (fun x => .int ((nbq (qs.take i) x.1 x.2 + (if doneB a 3 (r, c) x then 1 else 0) : Nat) : Int)) := k11
          have m11 : ∀ x, x ∈ ks11 ↔ (∃ y ∈ qs.take i, x = y ∨ nbr y x) ∨ x = (r, c) ∨ doneB a 3 (r, c) x := m11
          have l11 : ks11.length ≤ 10 * i + 1 + 3 * a + 3 := l11
          refine ⟨s11, ad11, g11, ⟨_, _, rfl⟩, ks11, k11.congr fun x _ => ?_, fun x => ?_, by omega⟩
          · simp only [same]
          · rw [m11, same]
      · rintro σ H9 ⟨s9, ad9, g9, ⟨x7, x8, rfl⟩, ks9, k9, m9, l9⟩
        have all : ∀ x, doneB 3 0 (r, c) x ↔ nbr (r, c) x := fun x => by
          unfold doneB nbr
          dsimp only
          refine ⟨fun h => h.1, fun h => ⟨h, .inl (by omega)⟩⟩
        have k9 : Dct H9 cd ks9 (fun x => .int ((nbq (qs.take i) x.1 x.2 + (if doneB 3 0 (r, c) x then 1 else 0) : Nat) : Int)) := k9
        have m9 : ∀ x, x ∈ ks9 ↔ (∃ y ∈ qs.take i, x = y ∨ nbr y x) ∨ x = (r, c) ∨ doneB 3 0 (r, c) x := m9
        have l9 : ks9.length ≤ 10 * i + 1 + 3 * 3 := l9
        refine ⟨s9, ad9, ⟨_, _, _, _, rfl⟩, ks9, k9.congr fun x _ => ?_, fun x => ?_, by omega⟩
        · rw [take_next hy, nbq_snoc]
          simp only [all]
        · rw [m9, all, take_next hy]
          constructor
          · rintro (⟨y, my, h⟩ | h | h)
            · exact ⟨y, List.mem_append.mpr (.inl my), h⟩
            · exact ⟨(r, c), List.mem_append.mpr (.inr (List.mem_singleton.mpr rfl)), .inl h⟩
            · exact ⟨(r, c), List.mem_append.mpr (.inr (List.mem_singleton.mpr rfl)), .inr h⟩
          · rintro ⟨y, my, h⟩
            rcases List.mem_append.mp my with my | my
            · exact .inl ⟨y, my, h⟩
            · rw [List.mem_singleton.mp my] at h
              exact .inr h
    · rintro σ H4 ⟨sm, had, ⟨x5, x6, x7, x8, rfl⟩, ks, hK, mk, lk⟩
      rw [hm.len] at lk
      rw [hm.len, List.take_of_length_le (Nat.le_refl _)] at hK mk
      have ndk : ks.Nodup := hK.choose_spec.2.2
      refine ⟨had, ?_⟩
      have sA : Same H (upd H4 ad (.dT kvs)) := mutS sm (backS e1 nad)
      have gA : upd H4 ad (.dT kvs) ad = some (.dT kvs) := upd_same
      have kA := hK.off (o := .dT kvs) ncad
      generalize upd H4 ad (.dT kvs) = H5 at sA gA kA ⊢
      k_upd
      refine ⟨by k_clsL, fun fl nfl => ?_⟩
      k_invariant "new" (nfl, H6, e6, g6)
      k_upd
      obtain ⟨kvc, gcd, hmc⟩ := kA.up e6
      have nfc : fl ≠ cd := fun e => by rw [e, gcd] at g6; cases g6
      have nfa : fl ≠ ad := fun e => by rw [e, e6 _ _ gA] at g6; cases g6
      refine ⟨cd, _, gcd, trivial, fun od2 => ⟨_, rfl, cd, od2, rfl, .inr ⟨kvc, upd_same, ?_⟩⟩⟩
      have b0 : Same H (upd H6 cd (.frz od2 (.dT kvc))) := mutS (sA.trans e6) ncd
      have b1 : upd H6 cd (.frz od2 (.dT kvc)) cd = some (.frz od2 (.dT kvc)) := upd_same
      have b2 : upd H6 cd (.frz od2 (.dT kvc)) ad = some (.dT kvs) := by rw [upd_ne fun e => ncad e.symm]; exact e6 _ _ gA
      have b3 : upd H6 cd (.frz od2 (.dT kvc)) fl = some (.lst []) := by rw [upd_ne nfc]; exact g6
      generalize upd H6 cd (.frz od2 (.dT kvc)) = Hg at b0 b1 b2 b3 ⊢
      have memE : ∀ x, memL ps x.1 x.2 = decide (x ∈ qs) := fun x => by
        unfold memL
        rw [Bool.eq_iff_iff, decide_eq_true_iff, decide_eq_true_iff, memq]
      have nbE : ∀ x : Pr, (nbq qs x.1 x.2 : Int) = (nb (memL ps) x.1 x.2 : Int) := fun x => by
        rw [nbq_nb ndq]
        have : memL qs = memL ps := funext fun r => funext fun c => by
          show decide ((r, c) ∈ qs) = _
          exact (memE (r, c)).symm
        rw [this]
      have nfl0 : H fl = none := backS sA nfl
      refine for_it walk_keysT (fun i σ H' => Same H H' ∧ H' cd = some (.frz od2 (.dT kvc)) ∧ H' ad = some (.dT kvs) ∧ (∃ x10 : Option V, σ = [some (.ref l), some (.ref lb), some (.ref ls), some (.ref cd), some (.ref ad), x5, x6, x7, x8, some (.ref fl), x10]) ∧
          ∃ us : List (Addr × Pr), H' fl = some (.lst (us.map fun t => V.ref t.1)) ∧ (∀ t ∈ us, H' t.1 = some (.tup [.int t.2.1, .int t.2.2])) ∧ us.map (·.2) = (ks.take i).filter fun x => stepL bs ss (memL ps) x.1 x.2)
        ⟨b0, b1, b2, ⟨_, rfl⟩, [], b3, fun _ m => (by cases m), by simp⟩ (fun i σ H' _ p => p.2.1) ?_ ?_
      · rintro i x σ H2 H7 hi ⟨sm, hcd, had, ⟨x10, rfl⟩, us, hus, htu, eus⟩ ⟨rfl, k, v, q0, e, rfl, hq0⟩
        obtain ⟨y, hy, rfl, rfl⟩ := hmc.at e
        have hq0 : _ = some (HO.tup [.int y.1, .int y.2]) := hq0
        have my := List.mem_of_getElem? hy
        have dgA := Dct.dget (H := H7) (d := ad) (g := fun _ => V.bl true) (x := y) ⟨kvs, had, hm⟩ hq0
        have dgC : DGet H7 cd (.ref q0) (some (.int ((nbq qs y.1 y.2 : Nat) : Int))) := .inr ⟨kvc, keyP y, q0, .inr ⟨od2, hcd⟩, rfl, hq0, by rw [hmc.get y, if_pos my]⟩
        have lu : us.length ≤ i := by
          have z := congrArg List.length eus
          rw [List.length_map] at z
          have := List.length_filter_le (fun x : Pr => stepL bs ss (memL ps) x.1 x.2) (ks.take i)
          rw [List.length_take] at this
          omega
        have lkc := hmc.len
        have hS' := sm _ _ hS
        have hB' := sm _ _ hB
        k_upd
        by_cases m : y ∈ qs
        · rw [if_pos m] at dgA
          have sE : stepL bs ss (memL ps) y.1 y.2 = decide ((nbq qs y.1 y.2 : Int) ∈ ss) := by
            unfold stepL
            rw [memE, if_pos (decide_eq_true m), nbE]
          refine ⟨_, rfl, _, rfl, ad, _, rfl, dgA, _, rfl, iteT ?_⟩
          refine ⟨_, rfl, _, rfl, cd, _, rfl, dgC, _, rfl, ls, _, rfl, .inl (lst_of hS'), rfl, flat_ints _, _, by rw [if_neg Bool.false_ne_true, inV_ints], ite2 (fun c => iteT ?_) (fun c => ?_)⟩
          · have sP : stepL bs ss (memL ps) y.1 y.2 = true := sE.trans c
            refine ⟨_, rfl, .inl ⟨rfl, _, lst_of hus⟩, _, rfl, _, _, _, rfl, rfl, hus, by rw [List.length_map, sizeLine_eq]; omega, ?_⟩
            have off : ∀ (b : Addr) (o : HO), H7 b = some o → (∀ xs, o ≠ .lst xs) → upd H7 fl (.lst ((us.map fun t => V.ref t.1) ++ [.ref q0])) b = some o := fun b o e ne => by
              rw [upd_ne fun z => ?_]
              · exact e
              · rw [z, hus] at e
                exact ne _ (Option.some.inj e).symm
            refine ⟨mutS sm nfl0, off _ _ hcd (fun _ z => by cases z), off _ _ had (fun _ z => by cases z), ⟨_, rfl⟩, us ++ [(q0, y)], by rw [upd_same, List.map_append]; rfl, fun t m => ?_, ?_⟩
            · rcases List.mem_append.mp m with m | m
              · exact off _ _ (htu t m) (fun _ z => by cases z)
              · rw [List.mem_singleton.mp m]
                exact off _ _ hq0 (fun _ z => by cases z)
            · rw [List.map_append, eus, take_next hy, List.filter_append, List.filter_cons, if_pos sP]
              rfl
          · have sP : stepL bs ss (memL ps) y.1 y.2 = false := by
              rw [sE]
              simpa using c
            refine ⟨_, rfl, _, rfl, ad, _, rfl, dgA, _, rfl, iteF ?_⟩
            refine iteF ?_
            refine ⟨sm, hcd, had, ⟨_, rfl⟩, us, hus, htu, ?_⟩
            rw [eus, take_next hy, List.filter_append, List.filter_cons, if_neg (by rw [sP]; decide)]
            exact (List.append_nil _).symm
        · rw [if_neg m] at dgA
          have sE : stepL bs ss (memL ps) y.1 y.2 = decide ((nbq qs y.1 y.2 : Int) ∈ bs) := by
            unfold stepL
            rw [memE, if_neg (by rw [decide_eq_false m]; decide), nbE]
          refine ⟨_, rfl, _, rfl, ad, _, rfl, dgA, _, rfl, iteF ?_⟩
          refine iteF ?_
          refine ⟨_, rfl, _, rfl, ad, _, rfl, dgA, _, rfl, iteT ?_⟩
          refine ⟨_, rfl, _, rfl, cd, _, rfl, dgC, _, rfl, lb, _, rfl, .inl (lst_of hB'), rfl, flat_ints _, _, by rw [if_neg Bool.false_ne_true, inV_ints], ite2 (fun c => ?_) (fun c => ?_)⟩
          · have sP : stepL bs ss (memL ps) y.1 y.2 = true := sE.trans c
            refine ⟨_, rfl, .inl ⟨rfl, _, lst_of hus⟩, _, rfl, _, _, _, rfl, rfl, hus, by rw [List.length_map, sizeLine_eq]; omega, ?_⟩
            have off : ∀ (b : Addr) (o : HO), H7 b = some o → (∀ xs, o ≠ .lst xs) → upd H7 fl (.lst ((us.map fun t => V.ref t.1) ++ [.ref q0])) b = some o := fun b o e ne => by
              rw [upd_ne fun z => ?_]
              · exact e
              · rw [z, hus] at e
                exact ne _ (Option.some.inj e).symm
            refine ⟨mutS sm nfl0, off _ _ hcd (fun _ z => by cases z), off _ _ had (fun _ z => by cases z), ⟨_, rfl⟩, us ++ [(q0, y)], by rw [upd_same, List.map_append]; rfl, fun t m => ?_, ?_⟩
            · rcases List.mem_append.mp m with m | m
              · exact off _ _ (htu t m) (fun _ z => by cases z)
              · rw [List.mem_singleton.mp m]
                exact off _ _ hq0 (fun _ z => by cases z)
            · rw [List.map_append, eus, take_next hy, List.filter_append, List.filter_cons, if_pos sP]
              rfl
          · have sP : stepL bs ss (memL ps) y.1 y.2 = false := by
              rw [sE]
              simpa using c
            refine ⟨sm, hcd, had, ⟨_, rfl⟩, us, hus, htu, ?_⟩
            rw [eus, take_next hy, List.filter_append, List.filter_cons, if_neg (by rw [sP]; decide)]
            exact (List.append_nil _).symm
      · rintro σ H7 ⟨sm, hcd, had, ⟨x10, rfl⟩, us, hus, htu, eus⟩
        rw [hmc.len, List.take_of_length_le (Nat.le_refl _)] at eus
        refine ⟨hcd, ?_⟩
        have sF : Same H (upd H7 cd (.dT kvc)) := mutS sm ncd
        have cF : Cells (upd H7 cd (.dT kvc)) fl (us.map (·.2)) := Cells.mut ⟨us, hus, htu, rfl⟩ nfc fun xs e => by
          rw [hcd] at e
          cases e
        have ndu : (us.map (·.2)).Nodup := by
          rw [eus]
          exact ndk.filter _
        refine ⟨_, rfl, fl, _, rfl, cF, ndu, fun p H8 rs e8 n8 c8 can l8 => q H8 p rs (backS sF n8) (sF.trans e8) c8 can.1 fun x => ?_⟩
        rw [can.2, eus, List.mem_filter]
        refine ⟨fun h => h.2, fun h => ⟨?_, h⟩⟩
        refine (mk x).mpr ?_
        by_cases m : x ∈ qs
        · exact ⟨x, m, .inl rfl⟩
        · refine Classical.byContradiction fun no => ?_
          have z := nbq_zero (qs := qs) (x := x) fun y my ny => no ⟨y, my, .inr ny⟩
          have h : stepL bs ss (memL ps) x.1 x.2 = true := h
          unfold stepL at h
          rw [memE, if_neg (by rw [decide_eq_false m]; decide), ← nbE, z] at h
          have := hb _ (of_decide_eq_true h)
          omega
end
end My
namespace My
open PySem PySem.Spec PyProof.Rows L2 Vx
open TL
local macro_rules | `(tactic| k_invariant "new" ($n, $H:ident, $e:ident, $h:ident)) => `(tactic| (generalize hE : upd _ _ _ = $H; obtain ⟨$e:ident, $h:ident⟩ := gen_e hE $n; clear hE))
local macro_rules | `(tactic| k_places) => `(tactic| first
  | assumption
  | exact lst_of (by assumption)
  | exact tup_of (by assumption)
  | (refine getS (by assumption) ?_; k_places)
  | (refine Same.seq (by assumption) ?_; k_places)
  | (refine tupS (by assumption) ?_; k_places)
  | (refine lst_of ?_; k_places)
  | (refine tup_of ?_; k_places))
local macro_rules | `(tactic| k_subL) => `(tactic| first
  | k_places
  | solve_by_elim (maxDepth := 10) [getS, lst_of, tup_of, Same.seq, tupS])
local macro_rules | `(tactic| k_offL) => `(tactic| first
  | (show (0 : Int) < _; first | omega | decide)
  | (refine ⟨?_, ?_⟩ <;> first | omega | decide)
  | exact .inr ⟨by decide, by decide⟩
  | exact .inl ⟨by decide, by decide⟩
  | exact .inl ⟨by omega, by omega⟩
  | omega)
local macro_rules | `(tactic| k_clsL) => `(tactic| exact Nat.le_of_ble_eq_true rfl)
local macro_rules | `(tactic| k_upd) => `(tactic| simp only [L2.start, List.map_cons, List.map_nil, List.length_cons, List.length_nil, List.replicate_succ, List.replicate_zero, List.cons_append, List.nil_append, List.set_cons_zero, List.set_cons_succ])
section
variable {P : Program} {w : World} {K : PySem.W.Frag} {mg : Str → Option Value} {base : Heap}
/-! ### far generations -/
theorem shift_step {bs ss : List Int} {L M : Int → Int → Bool} {dr dc : Int} (h : Shift L M dr dc) : Shift (stepL bs ss L) (stepL bs ss M) dr dc := fun r c => by
  unfold stepL nb
  rw [h r c, h (r - 1) (c - 1), h (r - 1) c, h (r - 1) (c + 1), h r (c - 1), h r (c + 1), h (r + 1) (c - 1), h (r + 1) c, h (r + 1) (c + 1),
    show r - 1 - dr = r - dr - 1 by omega, show r + 1 - dr = r - dr + 1 by omega, show c - 1 - dc = c - dc - 1 by omega, show c + 1 - dc = c - dc + 1 by omega]
theorem shift_gen {bs ss : List Int} {L M : Int → Int → Bool} {dr dc : Int} (h : Shift L M dr dc) : ∀ n, Shift (genL bs ss L n) (genL bs ss M n) dr dc
  | 0 => h
  | n + 1 => shift_step (shift_gen h n)
theorem shift_trans {L M N : Int → Int → Bool} {a b a' b' : Int} (h : Shift L M a b) (h2 : Shift M N a' b') : Shift L N (a + a') (b + b') := fun r c => by
  rw [h, h2, show r - a - a' = r - (a + a') by omega, show c - b - b' = c - (b + b') by omega]
theorem shift_zero (L : Int → Int → Bool) : Shift L L 0 0 := fun r c => by rw [Int.sub_zero, Int.sub_zero]
theorem holds_far {bs ss : List Int} {L : Int → Int → Bool} {start period : Nat} {rows cols : Int} (h : Shift (genL bs ss L (start + period)) (genL bs ss L start) rows cols) (t : Nat) :
    ∀ q : Nat, Shift (genL bs ss L (start + q * period + t)) (genL bs ss L (start + t)) ((q : Int) * rows) ((q : Int) * cols)
  | 0 => by
    rw [show ((0 : Nat) : Int) = 0 from rfl, Int.zero_mul, Int.zero_mul, Nat.zero_mul, Nat.add_zero]
    exact shift_zero _
  | q + 1 => by
    have h1 := shift_gen (bs := bs) (ss := ss) h (q * period + t)
    rw [genL_add, genL_add] at h1
    have h2 := shift_trans h1 (by rw [← Nat.add_assoc]; exact holds_far h t q)
    rw [show start + (q + 1) * period + t = start + period + (q * period + t) by rw [Nat.succ_mul]; omega,
      show ((q + 1 : Nat) : Int) * rows = rows + (q : Int) * rows by rw [show ((q + 1 : Nat) : Int) = (q : Int) + 1 by omega, Int.add_mul, Int.one_mul, Int.add_comm],
      show ((q + 1 : Nat) : Int) * cols = cols + (q : Int) * cols by rw [show ((q + 1 : Nat) : Int) = (q : Int) + 1 by omega, Int.add_mul, Int.one_mul, Int.add_comm]]
    exact h2
def AtG (G : Nat → Int → Int → Bool) (start period : Nat) (rows cols : Int) (n : Nat) (r c : Int) : Bool :=
  if n < start then G n r c else G (start + (n - start) % period) (r - (((n - start) / period : Nat) : Int) * rows) (c - (((n - start) / period : Nat) : Int) * cols)
theorem split_at {start period n : Nat} (h : ¬ n < start) : n = start + (n - start) / period * period + (n - start) % period := by
  have := Nat.div_add_mod (n - start) period
  rw [Nat.mul_comm] at this
  omega
theorem atG_eq {bs ss : List Int} {L : Int → Int → Bool} {start period : Nat} {rows cols : Int} (h : Shift (genL bs ss L (start + period)) (genL bs ss L start) rows cols) (n : Nat) (r c : Int) : AtG (genL bs ss L) start period rows cols n r c = genL bs ss L n r c := by
  unfold AtG
  by_cases lt : n < start
  · rw [if_pos lt]
  · rw [if_neg lt]
    have := holds_far h ((n - start) % period) ((n - start) / period) r c
    rw [← split_at lt] at this
    exact this.symm
theorem small_all {bs ss : List Int} {L : Int → Int → Bool} {s p : Nat} {dr dc : Int} (p0 : 0 < p) (h : Shift (genL bs ss L (s + p)) (genL bs ss L s) dr dc) (n : Nat) : ∃ n', n' < s + p ∧ ∃ a b, Shift (genL bs ss L n) (genL bs ss L n') a b := by
  by_cases lt : n < s
  · exact ⟨n, by omega, 0, 0, shift_zero _⟩
  · have := holds_far h ((n - s) % p) ((n - s) / p)
    rw [← split_at lt] at this
    exact ⟨s + (n - s) % p, by have := Nat.mod_lt (n - s) p0; omega, _, _, this⟩
def InBox (L : Int → Int → Bool) (r0 c0 : Int) (w : Nat) : Prop := ∀ r c, L r c = true → r0 ≤ r ∧ r < r0 + (w : Int) ∧ c0 ≤ c ∧ c < c0 + (w : Int)
theorem box_gen {bs ss : List Int} {L : Int → Int → Bool} {r0 c0 : Int} {w : Nat} (hb : ∀ b ∈ bs, 1 ≤ b ∧ b ≤ 8) (h : InBox L r0 c0 w) (n : Nat) : InBox (genL bs ss L n) (r0 - n) (c0 - n) (w + 2 * n) := fun r c z => by
  have := gen_box2 (r0 := r0) (r1 := r0 + (w : Int) - 1) (c0 := c0) (c1 := c0 + (w : Int) - 1) hb (fun r c z => by
    have := h r c z
    omega) n r c z
  omega
theorem box_size {L : Int → Int → Bool} {r0 c0 : Int} {w : Nat} (h : InBox L r0 c0 w) {qs : List Pr} (pw : qs.Pairwise ltP) (m : ∀ x : Pr, x ∈ qs → L x.1 x.2 = true) : qs.length ≤ w * w := box_len2 (nodup_lt pw) fun x mx => h _ _ (m x mx)
theorem shift_size {L M : Int → Int → Bool} {r0 c0 a b : Int} {w : Nat} (s : Shift L M a b) (h : InBox M r0 c0 w) {qs : List Pr} (pw : qs.Pairwise ltP) (m : ∀ x : Pr, x ∈ qs → L x.1 x.2 = true) : qs.length ≤ w * w := box_len2 (r0 := r0 + a) (c0 := c0 + b) (nodup_lt pw) fun x mx => by
  have := h _ _ (by rw [← s]; exact m x mx)
  omega
def SizeOk (L : Int → Int → Bool) (k : Nat) : Prop := ∀ qs : List Pr, qs.Pairwise ltP → (∀ x : Pr, x ∈ qs → L x.1 x.2 = true) → qs.length ≤ k
def sp_at_generation (C : Addr) : Sp := fun vs H Q _ => ∃ (l r t : Addr) (start period n : Nat) (rows cols : Int) (ps : List Pr) (bs ss : List Int) (r0 c0 : Int) (B : Nat), vs = [.ref l, .ref r, .ref t, .int (n : Int)] ∧ H t = some (.tup [.int (start : Int), .int (period : Int), .int rows, .int cols]) ∧ 1 ≤ period ∧ start + period ≤ 150 ∧
  (-1000000 ≤ rows ∧ rows ≤ 1000000) ∧ (-1000000 ≤ cols ∧ cols ≤ 1000000) ∧ Cells H l ps ∧ RuleAt C H r bs ss ∧ (∀ b ∈ bs, 1 ≤ b ∧ b ≤ 8) ∧ (∀ b ∈ ss, 0 ≤ b ∧ b ≤ 8) ∧ ps.length < 10000 ∧
  InBox (memL ps) r0 c0 B ∧ B ≤ 500 ∧ (∀ m < start + period, SizeOk (genL bs ss (memL ps) m) 4000) ∧
  ∀ (H' : Hp) (p : Addr) (qs : List Pr), H p = none → Same H H' → Cells H' p qs → qs.Pairwise ltP → (∀ x : Pr, x ∈ qs ↔ AtG (genL bs ss (memL ps)) start period rows cols n x.1 x.2 = true) → Q (.ref p) H'
theorem ok_at_generation (T : Txt K mg) : FnOk P w K mg base CX0 5 T.f_at_generation T.d_at_generation ["cells", "rule", "told", "generation"] (sp_at_generation T.C_Rule) := by
  refine T.F_at_generation.ok sc_at_generation (fun vs H Q E h => ?_) (fun cdv A outer s H vs Q E hr h => ?_)
  · obtain ⟨_, _, _, _, _, _, _, _, _, _, _, _, _, _, rfl, _⟩ := h
    rfl
  · obtain ⟨l, r, t, start, period, n, rows, cols, ps, bs, ss, r0, c0, B, rfl, ht, p1, sp150, hrows, hcols, hC, hR, hb, hss, few, box, b500, size, q⟩ := h
    have box' : ∀ x ∈ ps, r0 ≤ x.1 ∧ x.1 ≤ r0 + 1000 ∧ c0 ≤ x.2 ∧ x.2 ≤ c0 + 1000 := fun x m => by
      have := box x.1 x.2 (decide_eq_true m)
      omega
    refine ⟨_, (pss_cons (ps_asg (pv 2) (pg_tupK (K := K) (n := 4) rfl rfl (pgs_cons (pg_name (i := 4) sc_at_generation.nd rfl (.inl rfl)) (pgs_cons (pg_name (i := 5) sc_at_generation.nd rfl (.inl rfl)) (pgs_cons (pg_name (i := 6) sc_at_generation.nd rfl (.inl rfl)) (pgs_cons (pg_name (i := 7) sc_at_generation.nd rfl (.inl rfl)) pgs_nil))))))
      (pss_cons (ps_if (pt_cmpR op_lt (pv 3) (pv 4) (nomark _))
      (pss_one (ps_ret (pe_call (ok_grown T) (hr.mono (by decide)) (by rfl) T.g_grown T.F_grown.kp T.b_grown .nil pass0 (pa_cons (pv 0) (pa_cons (pv 1) (pa_cons (pv 3) pa_nil))))))
      pss_nil)
      (pss_cons (ps_asg (pe_callB call_divmod (by rfl) T.z_divmod (by decide +kernel) (pa_cons (pe_op op_sub (pv 3) (pv 4)) (pa_cons (pv 5) pa_nil))) (pg_tupK (K := K) (n := 2) rfl rfl (pgs_cons (pg_name (i := 8) sc_at_generation.nd rfl (.inl rfl)) (pgs_cons (pg_name (i := 9) sc_at_generation.nd rfl (.inl rfl)) pgs_nil))))
      (pss_one (ps_ret (pe_call (ok_moved T) (hr.mono (by decide)) (by rfl) T.g_moved T.F_moved.kp T.b_moved .nil pass0 (pa_cons (pe_call (ok_grown T) (hr.mono (by decide)) (by rfl) T.g_grown T.F_grown.kp T.b_grown .nil pass0 (pa_cons (pv 0) (pa_cons (pv 1) (pa_cons (pe_op op_add (pv 4) (pv 9)) pa_nil)))) (pa_cons (pe_op op_mul (pv 8) (pv 6)) (pa_cons (pe_op op_mul (pv 8) (pv 7)) pa_nil))))))))), ?_⟩
    k_upd
    refine ⟨_, rfl, t, _, rfl, tup_of ht, rfl, _, _, rfl, _, _, rfl, _, _, rfl, _, _, rfl, rfl, ?_⟩
    k_upd
    refine ⟨_, rfl, _, rfl, _, _, rfl, rfl, _, rfl, ite2 (fun c => ?_) (fun c => ?_)⟩
    · have lt : n < start := by have := of_decide_eq_true c; omega
      refine ⟨_, rfl, _, rfl, _, rfl, l, r, _, ps, bs, ss, r0, c0, rfl, by omega, by omega, hC, hR, hb, hss, few, box', fun H1 pg qs n1 e1 h1 pw mem => q H1 pg qs n1 e1 h1 pw fun x => ?_⟩
      rw [mem]
      unfold AtG
      rw [if_pos lt, Int.toNat_natCast]
    · have nlt : ¬ n < start := fun z => c (decide_eq_true (by omega))
      refine ⟨_, rfl, _, rfl, _, _, rfl, rfl, _, rfl, _, _, rfl, ⟨by omega, by omega⟩, fun pd' npd => ?_⟩
      dsimp only
      rw [show (n : Int) - (start : Int) = ((n - start : Nat) : Int) by omega, ← Int.natCast_ediv, ← Int.natCast_emod]
      have ml := Nat.mod_lt (n - start) (show 0 < period by omega)
      obtain ⟨tm, etm⟩ : ∃ tm, tm = (n - start) / period := ⟨_, rfl⟩
      obtain ⟨rs, ers⟩ : ∃ rs, rs = (n - start) % period := ⟨_, rfl⟩
      rw [← etm, ← ers]
      k_invariant "new" (npd, H1, e1, g1)
      refine ⟨pd', _, rfl, tup_of g1, rfl, _, _, rfl, _, _, rfl, rfl, ?_⟩
      k_upd
      refine ⟨_, rfl, _, rfl, _, rfl, _, rfl, _, _, rfl, rfl, ?_⟩
      dsimp only
      rw [show (start : Int) + (rs : Int) = ((start + rs : Nat) : Int) by omega]
      refine ⟨l, r, _, ps, bs, ss, r0, c0, rfl, by omega, by omega, hC.up e1, hR.up e1, hb, hss, few, box', fun H2 pg fs n2 e2 h2 pw mem => ?_⟩
      rw [Int.toNat_natCast] at mem
      refine ⟨_, rfl, _, rfl, _, _, rfl, rfl, .inr ⟨by omega, by omega⟩, _, rfl, _, rfl, _, _, rfl, rfl, .inr ⟨by omega, by omega⟩, ?_⟩
      refine ⟨pg, fs, _, _, rfl, h2, size _ (by omega) fs pw (fun x m => (mem x).mp m), fun H3 pm ms n3 e3 h3 can _ => ?_⟩
      refine q H3 pm ms (backS (e1.trans e2) n3) (e1.trans (e2.trans e3)) h3 can.1 fun x => ?_
      unfold AtG
      rw [if_neg nlt, can.2, ← etm, ← ers]
      constructor
      · intro m
        obtain ⟨y, my, ey⟩ := List.mem_map.mp m
        have := (mem y).mp my
        rw [← ey]
        unfold addP
        dsimp only
        rw [Int.add_sub_cancel, Int.add_sub_cancel]
        exact this
      · intro z
        refine List.mem_map.mpr ⟨(_, _), (mem (_, _)).mpr z, ?_⟩
        unfold addP
        dsimp only
        rw [Int.sub_add_cancel, Int.sub_add_cancel]
def sp_law_grown : Sp := fun vs H Q _ => ∃ (l lb ls : Addr) (n : Nat) (ps : List Pr) (bs ss : List Int), vs = [.ref l, .ref lb, .ref ls, .int (n : Int)] ∧ n ≤ 1000 ∧ Cells H l ps ∧ ps.Pairwise ltP ∧ H lb = some (.lst (bs.map V.int)) ∧ H ls = some (.lst (ss.map V.int)) ∧ (∀ b ∈ bs, 1 ≤ b ∧ b ≤ 8) ∧
  (∀ m ≤ n, SizeOk (genL bs ss (memL ps) m) 90000) ∧
  ∀ (H' : Hp) (p : Addr) (qs : List Pr), Same H H' → Cells H' p qs → qs.Pairwise ltP → (∀ x : Pr, x ∈ qs ↔ genL bs ss (memL ps) n x.1 x.2 = true) → Q (.ref p) H'
theorem ok_law_grown (T : Txt K mg) : FnOk P w K mg base CX0 2 T.f_law_grown T.d_law_grown ["cells", "births", "survival", "count"] sp_law_grown := by
  refine T.F_law_grown.ok sc_law_grown (fun vs H Q E h => ?_) (fun cdv A outer s H vs Q E hr h => ?_)
  · obtain ⟨_, _, _, _, _, _, _, rfl, _⟩ := h
    rfl
  · obtain ⟨l, lb, ls, n, ps, bs, ss, rfl, n1, hC, pw, hB, hS, hb, size, q⟩ := h
    refine ⟨_, (pss_cons (ps_set (i := 4) sc_law_grown.nd rfl (.inl rfl) (pv 0))
      (pss_cons (ps_for PassesOwn.never rfl (pi_range1 (by rfl) T.z_range (pa_cons (pv 3) pa_nil)) (pg_name (i := 5) sc_law_grown.nd rfl (.inl rfl))
      (pss_one (ps_set (i := 4) sc_law_grown.nd rfl (.inl rfl) (pe_call (ok_law_next T) (hr.mono (by decide)) (by rfl) T.g_law_next T.F_law_next.kp T.b_law_next .nil pass0 (pa_cons (pv 4) (pa_cons (pv 1) (pa_cons (pv 2) pa_nil)))))))
      (pss_one (ps_ret (pv 4))))), ?_⟩
    k_upd
    refine ⟨_, rfl, ?_⟩
    k_upd
    refine ⟨_, rfl, _, rfl, by omega, by omega, for_range (lo := 0) (n := ((n : Int)).toNat) (fun i σ H' => Same H H' ∧ ∃ (now : Addr) (qs : List Pr) (x5 : Option V), σ = [some (.ref l), some (.ref lb), some (.ref ls), some (.int (n : Int)), some (.ref now), x5] ∧ Cells H' now qs ∧ qs.Pairwise ltP ∧ ∀ x : Pr, x ∈ qs ↔ genL bs ss (memL ps) i x.1 x.2 = true)
      ⟨fun _ _ z => z, l, ps, _, rfl, hC, pw, fun x => decide_eq_true_iff.symm⟩ ?_ ?_⟩
    · rintro i σ H1 hi ⟨s1, now, qs, x5, rfl, hN, pwq, memq⟩
      refine gName_go ?_
      k_upd
      refine ⟨_, rfl, _, rfl, _, rfl, now, lb, ls, qs, bs, ss, rfl, hN, s1 _ _ hB, s1 _ _ hS, hb, by have := size i (by omega) qs pwq (fun x m => (memq x).mp m); omega, fun H2 pn rs n2 e2 hrs pwr memr => ?_⟩
      refine ⟨s1.trans e2, pn, rs, _, rfl, hrs, pwr, fun x => ?_⟩
      rw [memr, memL_eq memq]
      rfl
    · rintro σ H1 ⟨s1, now, qs, x5, rfl, hN, pwq, memq⟩
      exact ⟨_, rfl, q H1 now qs s1 hN pwq memq⟩
end
end My
namespace My
open PySem PySem.Spec PyProof.Rows L2 Vx
open TL
local macro_rules | `(tactic| k_invariant "new" ($n, $H:ident, $e:ident, $h:ident)) => `(tactic| (generalize hE : upd _ _ _ = $H; obtain ⟨$e:ident, $h:ident⟩ := gen_e hE $n; clear hE))
local macro_rules | `(tactic| k_places) => `(tactic| first
  | assumption
  | exact lst_of (by assumption)
  | exact tup_of (by assumption)
  | (refine getS (by assumption) ?_; k_places)
  | (refine Same.seq (by assumption) ?_; k_places)
  | (refine tupS (by assumption) ?_; k_places)
  | (refine lst_of ?_; k_places)
  | (refine tup_of ?_; k_places))
local macro_rules | `(tactic| k_subL) => `(tactic| first
  | k_places
  | solve_by_elim (maxDepth := 10) [getS, lst_of, tup_of, Same.seq, tupS])
local macro_rules | `(tactic| k_offL) => `(tactic| first
  | (show (0 : Int) < _; first | omega | decide)
  | (refine ⟨?_, ?_⟩ <;> first | omega | decide)
  | exact .inr ⟨by decide, by decide⟩
  | exact .inl ⟨by decide, by decide⟩
  | exact .inl ⟨by omega, by omega⟩
  | omega)
local macro_rules | `(tactic| k_clsL) => `(tactic| exact Nat.le_of_ble_eq_true rfl)
local macro_rules | `(tactic| k_upd) => `(tactic| simp only [L2.start, List.map_cons, List.map_nil, List.length_cons, List.length_nil, List.replicate_succ, List.replicate_zero, List.cons_append, List.nil_append, List.set_cons_zero, List.set_cons_succ])
section
variable {P : Program} {w : World} {K : PySem.W.Frag} {mg : Str → Option Value} {base : Heap}
theorem ok_law_cell (T : Txt K mg) : FnOk P w K mg base CX0 1 T.f_law_cell T.d_law_cell ["script", "k"] (spCell K) := by
  refine T.F_law_cell.ok sc_law_cell (fun vs H Q E h => ?_) (fun cdv A outer s H vs Q E hr h => ?_)
  · obtain ⟨l, ns, j, rfl, _⟩ := h
    rfl
  · obtain ⟨l, ns, j, rfl, hs, q⟩ := h
    refine ⟨_, (pss_cons (ps_if (pt_cmpR op_lt (pv 1) (pe_callB call_lenL (by rfl) T.z_len (by decide +kernel) (pa_cons (pv 0) pa_nil)) (nomark _))
      (pss_one (ps_ret (pe_callTy call_intI (by rfl) T.z_int (by decide +kernel) (pa_cons (pe_ix ix_list (pv 0) (pv 1) (fun _ _ => rfl)) pa_nil))))
      pss_nil)
      (pss_one (ps_ret pe_int))), ?_⟩
    refine ⟨_, rfl, _, rfl, _, _, rfl, hs, _, _, rfl, rfl, _, rfl, ite2 (fun c => ?_) (fun c => ?_)⟩
    · have hj : j < ns.length := by
        have z := of_decide_eq_true c
        rw [List.length_map] at z
        omega
      exact ⟨_, rfl, _, rfl, _, _, _, _, rfl, rfl, hs, atI_cell hj, _, rfl, q⟩
    · have hj : ¬ j < ns.length := fun z => c (decide_eq_true (by rw [List.length_map]; omega))
      rw [cell_out hj] at q
      exact q
/-! ### law_row: so many numbers from 0 to below the bound -/
def sp_law_row : Sp := fun vs H Q _ => ∃ (cell count bound : Int), vs = [.int cell, .int count, .int bound] ∧ 0 ≤ count ∧ count ≤ 100000 ∧ 0 < bound ∧ bound < 1000000000 ∧
  ∀ (H' : Hp) (p : Addr) (xs : List Int), H p = none → Same H H' → H' p = some (.lst (xs.map V.int)) → (xs.length : Int) = count → (∀ x ∈ xs, 0 ≤ x ∧ x < bound) → Q (.ref p) H'
theorem ok_law_row (T : Txt K mg) : FnOk P w K mg base CX0 1 T.f_law_row T.d_law_row ["cell", "count", "bound"] sp_law_row := by
  refine T.F_law_row.ok sc_law_row (fun vs H Q E h => ?_) (fun cdv A outer s H vs Q E hr h => ?_)
  · obtain ⟨_, _, _, rfl, _⟩ := h
    rfl
  · obtain ⟨cell, count, bound, rfl, c0, c1, b0, b1, q⟩ := h
    refine ⟨_, (pss_cons (ps_set (i := 3) sc_law_row.nd rfl (.inl rfl) (pe_callB call_abs (by rfl) T.z_abs (by decide +kernel) (pa_cons (pe_callTy call_intI (by rfl) T.z_int (by decide +kernel) (pa_cons (pv 0) pa_nil)) pa_nil)))
      (pss_cons (ps_set (i := 4) sc_law_row.nd rfl (.inl rfl) (pe_op op_add (pe_op op_mod (pe_callTy call_intI (by rfl) T.z_int (by decide +kernel) (pa_cons (pv 0) pa_nil)) pe_int) pe_int))
      (pss_cons (ps_set (i := 5) sc_law_row.nd rfl (.inl rfl) (pe_lst pa_nil))
      (pss_cons (ps_for PassesOwn.never rfl (pi_range1 (by rfl) T.z_range (pa_cons (pv 1) pa_nil)) (pg_name (i := 6) sc_law_row.nd rfl (.inl rfl))
      (pss_one (ps_if (pt_cmpR op_ge (pv 3) (pv 2) (nomark _))
      (pss_cons (ps_expr (pe_bm PySem.F.plainAttrs_list PySem.F.slot_list_append PySem.F.type_list_append mt_append (pv 5) (pa_cons (pe_op op_mod (pe_callTy call_intI (by rfl) T.z_int (by decide +kernel) (pa_cons (pv 3) pa_nil)) (pv 2)) pa_nil)))
      (pss_one (ps_set (i := 3) sc_law_row.nd rfl (.inl rfl) (pe_op op_fdiv (pv 3) (pv 2)))))
      (pss_cons (ps_set (i := 4) sc_law_row.nd rfl (.inl rfl) (pe_op op_mod (pe_callTy call_intI (by rfl) T.z_int (by decide +kernel) (pa_cons (pe_op op_add (pe_op op_add (pe_op op_mul (pv 4) pe_int) (pe_op op_mul pe_int (pv 6))) pe_int) pa_nil)) pe_int))
      (pss_one (ps_expr (pe_bm PySem.F.plainAttrs_list PySem.F.slot_list_append PySem.F.type_list_append mt_append (pv 5) (pa_cons (pe_op op_mod (pe_callTy call_intI (by rfl) T.z_int (by decide +kernel) (pa_cons (pe_op op_fdiv (pe_op op_mul (pv 4) pe_int) pe_int) pa_nil)) (pv 2)) pa_nil))))))))
      (pss_one (ps_ret (pv 5))))))), ?_⟩
    refine ⟨_, rfl, _, rfl, _, rfl, _, rfl, _, rfl, _, _, rfl, rfl, (by k_offL), _, _, rfl, rfl, Nat.zero_le _, fun p1 n1 => ?_⟩
    k_invariant "new" (n1, H1, e1, h1)
    refine ⟨_, rfl, _, rfl, by omega, by omega, for_range (lo := 0) (n := count.toNat) (fun i σ H' => ∃ (rest mixed : Int) (xs : List Int) (v : Option V), σ = [some (.int cell), some (.int count), some (.int bound), some (.int rest), some (.int mixed), some (.ref p1), v] ∧
      Same H H' ∧ H' p1 = some (.lst (xs.map V.int)) ∧ xs.length = i ∧ (∀ x ∈ xs, 0 ≤ x ∧ x < bound) ∧ 0 ≤ mixed ∧ mixed < 4294967296) ?_ ?_ ?_⟩
    · refine ⟨_, _, [], none, rfl, e1, h1, rfl, by simp, ?_, ?_⟩
      · have := Int.emod_nonneg cell (show (1000003 : Int) ≠ 0 by decide)
        omega
      · have := Int.emod_lt_of_pos cell (show (0 : Int) < 1000003 by decide)
        omega
    · rintro i σ H' hi ⟨rest, mixed, xs, v, rfl, sm, hp, hl, hx, m0, m1⟩
      refine ⟨_, rfl, _, rfl, _, _, rfl, rfl, _, rfl, ite2 (fun c => ?_) (fun c => ?_)⟩
      · refine ⟨_, rfl, .inl ⟨rfl, _, lst_of hp⟩, _, rfl, _, rfl, _, rfl, _, _, rfl, rfl, b0, _, _, _, rfl, rfl, hp, ?_, ?_⟩
        · rw [List.length_map]
          exact Nat.lt_of_lt_of_le (show xs.length < 100001 by omega) (by decide)
        · refine ⟨_, rfl, _, rfl, _, _, rfl, rfl, ⟨b0, by omega⟩, _, _, xs ++ [rest % bound], _, rfl, mutS sm n1, ?_, by simp [hl], fun x h => ?_, m0, m1⟩
          · rw [upd_same]
            simp
          · rcases List.mem_append.mp h with h | h
            · exact hx x h
            · rw [List.mem_singleton.mp h]
              exact ⟨Int.emod_nonneg _ (by omega), Int.emod_lt_of_pos _ b0⟩
      · refine ⟨_, rfl, _, _, rfl, rfl, .inr ⟨by decide, by decide⟩, _, rfl, _, _, rfl, rfl, .inl ⟨by decide, by decide⟩, _, _, rfl, rfl, _, _, rfl, rfl, _, rfl, _, _, rfl, rfl, (by k_offL), ?_⟩
        refine ⟨_, rfl, .inl ⟨rfl, _, lst_of hp⟩, _, rfl, _, _, rfl, rfl, .inr ⟨by decide, by decide⟩, _, _, rfl, rfl, ⟨by decide, by decide⟩, _, rfl, _, rfl, _, _, rfl, rfl, b0, _, _, _, rfl, rfl, hp, ?_, ?_⟩
        · rw [List.length_map]
          exact Nat.lt_of_lt_of_le (show xs.length < 100001 by omega) (by decide)
        · refine ⟨_, _, xs ++ [(mixed * 48271 + 11 * (0 + (i : Int)) + 7) % 2147483647 * 2862933555777941757 / 1024 % bound], _, rfl, mutS sm n1, ?_, by simp [hl], fun x h => ?_, Int.emod_nonneg _ (by decide), ?_⟩
          · rw [upd_same, List.map_append]
            rfl
          · rcases List.mem_append.mp h with h | h
            · exact hx x h
            · rw [List.mem_singleton.mp h]
              exact ⟨Int.emod_nonneg _ (by omega), Int.emod_lt_of_pos _ b0⟩
          · exact Int.lt_trans (Int.emod_lt_of_pos _ (by decide)) (by decide)
    · rintro σ H' ⟨rest, mixed, xs, v, rfl, sm, hp, hl, hx, _, _⟩
      exact ⟨_, rfl, q H' p1 xs n1 sm hp (by omega) hx⟩
def Good (lo : Int) (l : List Int) : Prop := l.Pairwise (· < ·) ∧ (∀ b ∈ l, lo ≤ b ∧ b ≤ 8) ∧ l.length ≤ 9
theorem pow9 : ∀ n : Nat, n ≤ 9 → 0 < (2 : Int) ^ n ∧ (2 : Int) ^ n ≤ 512 := by decide
theorem good_snoc {lo hi : Int} {l : List Int} (h1 : l.Pairwise (· < ·)) (h2 : ∀ b ∈ l, lo ≤ b ∧ b < hi) (h : lo ≤ hi) : (l ++ [hi]).Pairwise (· < ·) ∧ ∀ b ∈ l ++ [hi], lo ≤ b ∧ b < hi + 1 := by
  constructor
  · rw [List.pairwise_append]
    refine ⟨h1, by simp, fun a ha b hb => ?_⟩
    rw [List.mem_singleton.mp hb]
    exact (h2 a ha).2
  · intro b hb
    rcases List.mem_append.mp hb with hb | hb
    · have := h2 b hb
      omega
    · rw [List.mem_singleton.mp hb]
      omega
def sp_law_numbers : Sp := fun vs H Q _ => ∃ (cell : Int), vs = [.int cell] ∧
  ∀ (H' : Hp) (p pb ps : Addr) (bs ss : List Int), Same H H' → H' p = some (.tup [.ref pb, .ref ps]) → H' pb = some (.lst (bs.map V.int)) → H' ps = some (.lst (ss.map V.int)) → Good 1 bs → Good 0 ss → Q (.ref p) H'
theorem ok_law_numbers (T : Txt K mg) : FnOk P w K mg base CX0 1 T.f_law_numbers T.d_law_numbers ["cell"] sp_law_numbers := by
  refine T.F_law_numbers.ok sc_law_numbers (fun vs H Q E h => ?_) (fun cdv A outer s H vs Q E hr h => ?_)
  · obtain ⟨_, rfl, _⟩ := h
    rfl
  · obtain ⟨cell, rfl, q⟩ := h
    refine ⟨_, (pss_cons (ps_set (i := 1) sc_law_numbers.nd rfl (.inr rfl) (pe_callB call_abs (by rfl) T.z_abs (by decide +kernel) (pa_cons (pe_callTy call_intI (by rfl) T.z_int (by decide +kernel) (pa_cons (pv 0) pa_nil)) pa_nil)))
      (pss_cons (ps_setLc (i := 2) (own := [("k", 4)]) (g := gName 4) rfl sc_law_numbers.nd rfl rfl (sw_true rfl rfl rfl (by decide +kernel)) (pi_range2 (by rfl) T.z_range (pa_cons pe_int (pa_cons pe_int pa_nil))) (blkOk_by (own := [("k", 4)]) (N := N_law_numbers) (sc := defScope s_law_numbers) (by decide +kernel)) (fun _ _ _ _ _ => pg_name (i := 4) sc_law_numbers.nd rfl (Or.inl rfl)) (fun _ _ _ _ _ => pts_one (pt_cmpR op_eq (pe_op op_mod (pe_op op_fdiv (pv 1) (pe_op op_shl pe_int (pv 4))) pe_int) pe_int (nomark _))) (fun _ _ _ _ _ => (pv 4)))
      (pss_cons (ps_setLc (i := 3) (own := [("k", 4)]) (g := gName 4) rfl sc_law_numbers.nd rfl rfl (sw_true rfl rfl rfl (by decide +kernel)) (pi_range1 (by rfl) T.z_range (pa_cons pe_int pa_nil)) (blkOk_by (own := [("k", 4)]) (N := N_law_numbers) (sc := defScope s_law_numbers) (by decide +kernel)) (fun _ _ _ _ _ => pg_name (i := 4) sc_law_numbers.nd rfl (Or.inl rfl)) (fun _ _ _ _ _ => pts_one (pt_cmpR op_eq (pe_op op_mod (pe_op op_fdiv (pv 1) (pe_op op_shl pe_int (pv 4))) pe_int) pe_int (nomark _))) (fun _ _ _ _ _ => (pv 4)))
      (pss_cons (ps_if (pt_cmpR op_eq (pe_op op_mod (pe_op op_fdiv (pv 1) pe_int) pe_int) pe_int (nomark _))
      (pss_cons (ps_set (i := 2) sc_law_numbers.nd rfl (.inl rfl) (pe_ix ix_list (pe_lst (pa_cons (pe_lst (pa_cons pe_int pa_nil)) (pa_cons (pe_lst (pa_cons pe_int (pa_cons pe_int pa_nil))) (pa_cons (pe_lst (pa_cons pe_int pa_nil)) (pa_cons (pe_lst (pa_cons pe_int (pa_cons pe_int (pa_cons pe_int pa_nil)))) (pa_cons (pe_lst (pa_cons pe_int (pa_cons pe_int pa_nil))) pa_nil)))))) (pe_op op_mod (pe_op op_fdiv (pv 1) pe_int) pe_int) (fun _ _ => rfl)))
      (pss_one (ps_set (i := 3) sc_law_numbers.nd rfl (.inl rfl) (pe_ix ix_list (pe_lst (pa_cons (pe_lst (pa_cons pe_int (pa_cons pe_int pa_nil))) (pa_cons (pe_lst (pa_cons pe_int (pa_cons pe_int pa_nil))) (pa_cons (pe_lst pa_nil) (pa_cons (pe_lst (pa_cons pe_int (pa_cons pe_int (pa_cons pe_int (pa_cons pe_int pa_nil))))) (pa_cons (pe_lst (pa_cons pe_int (pa_cons pe_int (pa_cons pe_int pa_nil)))) pa_nil)))))) (pe_op op_mod (pe_op op_fdiv (pv 1) pe_int) pe_int) (fun _ _ => rfl)))))
      pss_nil)
      (pss_one (ps_ret (pe_tup (pa_cons (pv 2) (pa_cons (pv 3) pa_nil))))))))), ?_⟩
    refine ⟨_, rfl, _, rfl, _, rfl, ?_⟩
    generalize (if cell < 0 then -cell else cell) = x
    -- births
    refine ⟨1, 9, rfl, ⟨by decide, by decide, by decide, by decide⟩, fun p1 n1 => lc_range (lo := 1) (n := 8) (fun i H' => ∃ ys : List Int, Same H H' ∧ H' p1 = some (.lst (ys.map V.int)) ∧ ys.length ≤ i ∧ ys.Pairwise (· < ·) ∧ ∀ b ∈ ys, 1 ≤ b ∧ b < 1 + (i : Int))
      ⟨[], newS n1, upd_same, by simp, by simp, by simp⟩ ?_ ?_⟩
    · rintro i H' hi ⟨ys, sm, hp, hl, h1, h2⟩
      have pw := pow9 (1 + (i : Int)).toNat (by omega)
      refine ⟨rfl, _, rfl, _, rfl, _, _, rfl, rfl, ⟨by omega, by omega, by decide⟩, _, _, rfl, rfl, ⟨?_, ?_⟩, _, _, rfl, rfl, (by k_offL), rfl, _, rfl, ite2 (fun c => ?_) (fun c => ?_)⟩
      · show (0 : Int) < 1 * 2 ^ (1 + (i : Int)).toNat
        omega
      · show (1 : Int) * 2 ^ (1 + (i : Int)).toNat < 1073741824
        omega
      · have g := good_snoc h1 h2 (by omega)
        refine ⟨_, rfl, _, hp, ?_, ys ++ [1 + (i : Int)], mutS sm n1, ?_, by simp; omega, g.1, fun b hb => ?_⟩
        · rw [List.length_map]
          exact Nat.lt_of_lt_of_le (show ys.length < 100 by omega) (by decide)
        · rw [upd_same, List.map_append]
          rfl
        · have := g.2 b hb
          omega
      · exact ⟨ys, sm, hp, by omega, h1, fun b hb => by have := h2 b hb; omega⟩
    rintro H1 ⟨bs, e1, hb, lb, gb1, gb2⟩
    have gb : Good 1 bs := ⟨gb1, fun b h => by have := gb2 b h; omega, by omega⟩
    -- survival
    refine ⟨9, rfl, by decide, by decide, fun p2 n2 => lc_range (lo := 0) (n := 9) (fun i H' => ∃ ys : List Int, Same H1 H' ∧ H' p2 = some (.lst (ys.map V.int)) ∧ ys.length ≤ i ∧ ys.Pairwise (· < ·) ∧ ∀ b ∈ ys, 0 ≤ b ∧ b < 0 + (i : Int))
      ⟨[], newS n2, upd_same, by simp, by simp, by simp⟩ ?_ ?_⟩
    · rintro i H' hi ⟨ys, sm, hp, hl, h1, h2⟩
      have pw := pow9 (0 + (i : Int)).toNat (by omega)
      refine ⟨rfl, _, rfl, _, rfl, _, _, rfl, rfl, ⟨by omega, by omega, by decide⟩, _, _, rfl, rfl, ⟨?_, ?_⟩, _, _, rfl, rfl, (by k_offL), rfl, _, rfl, ite2 (fun c => ?_) (fun c => ?_)⟩
      · show (0 : Int) < 512 * 2 ^ (0 + (i : Int)).toNat
        omega
      · show (512 : Int) * 2 ^ (0 + (i : Int)).toNat < 1073741824
        omega
      · have g := good_snoc h1 h2 (by omega)
        refine ⟨_, rfl, _, hp, ?_, ys ++ [0 + (i : Int)], mutS sm n2, ?_, by simp; omega, g.1, fun b hb => ?_⟩
        · rw [List.length_map]
          exact Nat.lt_of_lt_of_le (show ys.length < 100 by omega) (by decide)
        · rw [upd_same, List.map_append]
          rfl
        · have := g.2 b hb
          omega
      · exact ⟨ys, sm, hp, by omega, h1, fun b hb => by have := h2 b hb; omega⟩
    rintro H2 ⟨ss, e2, hs, ls, gs1, gs2⟩
    have gs : Good 0 ss := ⟨gs1, fun b h => by have := gs2 b h; omega, by omega⟩
    have hb2 := getS e2 hb
    have e02 := e1.trans e2
    -- if
    refine ⟨_, rfl, _, _, rfl, rfl, ⟨by decide, by decide⟩, _, _, rfl, rfl, (by k_offL), rfl, _, rfl, ite2 (fun c => ?_) (fun c => ?_)⟩
    · refine ⟨by decide, fun a1 m1 => ?_⟩
      k_invariant "new" (m1, A1, ea1, h1)
      refine ⟨by decide, fun a2 m2 => ?_⟩
      k_invariant "new" (m2, A2, ea2, h2)
      refine ⟨by decide, fun a3 m3 => ?_⟩
      k_invariant "new" (m3, A3, ea3, h3)
      refine ⟨by decide, fun a4 m4 => ?_⟩
      k_invariant "new" (m4, A4, ea4, h4)
      refine ⟨by decide, fun a5 m5 => ?_⟩
      k_invariant "new" (m5, A5, ea5, h5)
      refine ⟨by k_clsL, fun a6 m6 => ?_⟩
      k_invariant "new" (m6, A6, ea6, h6)
      have pick : ∃ (pb : Addr) (l : List Int), atI [V.ref a1, .ref a2, .ref a3, .ref a4, .ref a5] (x / 786432 % 5) = some (.ref pb) ∧ A6 pb = some (.lst (l.map V.int)) ∧ Good 1 l := by
        have z0 := Int.emod_nonneg (x / 786432) (show (5 : Int) ≠ 0 by decide)
        have z1 := Int.emod_lt_of_pos (x / 786432) (show (0 : Int) < 5 by decide)
        generalize x / 786432 % 5 = j at z0 z1
        have : j = 0 ∨ j = 1 ∨ j = 2 ∨ j = 3 ∨ j = 4 := by omega
        rcases this with rfl | rfl | rfl | rfl | rfl
        · exact ⟨a1, [3], rfl, by k_subL, by unfold Good; decide⟩
        · exact ⟨a2, [3, 6], rfl, by k_subL, by unfold Good; decide⟩
        · exact ⟨a3, [2], rfl, by k_subL, by unfold Good; decide⟩
        · exact ⟨a4, [3, 7, 8], rfl, by k_subL, by unfold Good; decide⟩
        · exact ⟨a5, [2, 5], rfl, by k_subL, by unfold Good; decide⟩
      obtain ⟨pb, l, hpk, hl, gl⟩ := pick
      refine ⟨_, rfl, _, _, rfl, rfl, ⟨by decide, by decide⟩, _, _, rfl, rfl, (by k_offL), _, _, _, _, rfl, rfl, by k_subL, hpk, ?_⟩
      refine ⟨by decide, fun b1 m1 => ?_⟩
      k_invariant "new" (m1, B1, eb1, h1)
      refine ⟨by decide, fun b2 m2 => ?_⟩
      k_invariant "new" (m2, B2, eb2, h2)
      refine ⟨by decide, fun b3 m3 => ?_⟩
      k_invariant "new" (m3, B3, eb3, h3)
      refine ⟨by decide, fun b4 m4 => ?_⟩
      k_invariant "new" (m4, B4, eb4, h4)
      refine ⟨by decide, fun b5 m5 => ?_⟩
      k_invariant "new" (m5, B5, eb5, h5)
      refine ⟨by k_clsL, fun b6 m6 => ?_⟩
      k_invariant "new" (m6, B6, eb6, h6)
      have pick : ∃ (pb : Addr) (l : List Int), atI [V.ref b1, .ref b2, .ref b3, .ref b4, .ref b5] (x / 3932160 % 5) = some (.ref pb) ∧ B6 pb = some (.lst (l.map V.int)) ∧ Good 0 l := by
        have z0 := Int.emod_nonneg (x / 3932160) (show (5 : Int) ≠ 0 by decide)
        have z1 := Int.emod_lt_of_pos (x / 3932160) (show (0 : Int) < 5 by decide)
        generalize x / 3932160 % 5 = j at z0 z1
        have : j = 0 ∨ j = 1 ∨ j = 2 ∨ j = 3 ∨ j = 4 := by omega
        rcases this with rfl | rfl | rfl | rfl | rfl
        · exact ⟨b1, [2, 3], rfl, by k_subL, by unfold Good; decide⟩
        · exact ⟨b2, [2, 3], rfl, by k_subL, by unfold Good; decide⟩
        · exact ⟨b3, [], rfl, by k_subL, by unfold Good; decide⟩
        · exact ⟨b4, [2, 3, 4, 5], rfl, by k_subL, by unfold Good; decide⟩
        · exact ⟨b5, [3, 4, 6], rfl, by k_subL, by unfold Good; decide⟩
      obtain ⟨ps, m, hpk2, hm, gm⟩ := pick
      refine ⟨_, rfl, _, _, rfl, rfl, ⟨by decide, by decide⟩, _, _, rfl, rfl, (by k_offL), _, _, _, _, rfl, rfl, by k_subL, hpk2, ?_⟩
      refine ⟨_, rfl, _, rfl, by k_clsL, fun r nr => ?_⟩
      k_invariant "new" (nr, R1, er, hr1)
      exact q R1 r pb ps l m (e02.trans (ea1.trans (ea2.trans (ea3.trans (ea4.trans (ea5.trans (ea6.trans (eb1.trans (eb2.trans (eb3.trans (eb4.trans (eb5.trans (eb6.trans er))))))))))))) hr1 (by k_subL) (by k_subL) gl gm
    · refine ⟨_, rfl, _, rfl, by k_clsL, fun r nr => ?_⟩
      k_invariant "new" (nr, R1, er, hr1)
      exact q R1 r p1 p2 bs ss (e02.trans er) hr1 (by k_subL) (by k_subL) gb gs
/-! ### law_some: some cells of a box, ascending -/
def sp_law_some : Sp := fun vs H Q _ => ∃ (cell count h v : Int), vs = [.int cell, .int count, .int h, .int v] ∧ 0 ≤ count ∧ count ≤ 1000 ∧ 0 < h ∧ h ≤ 1000 ∧ 0 < v ∧ v ≤ 1000 ∧
  ∀ (H' : Hp) (p : Addr) (ps : List Pr), H p = none → Same H H' → Cells H' p ps → ps.Pairwise ltP → (ps.length : Int) ≤ count → (∀ x ∈ ps, 0 ≤ x.1 ∧ x.1 < h ∧ 0 ≤ x.2 ∧ x.2 < v) → Q (.ref p) H'
theorem ok_law_some (T : Txt K mg) : FnOk P w K mg base CX0 2 T.f_law_some T.d_law_some ["cell", "count", "height", "width"] sp_law_some := by
  refine T.F_law_some.ok sc_law_some (fun vs H Q E h => ?_) (fun cdv A outer s H vs Q E hr h => ?_)
  · obtain ⟨_, _, _, _, rfl, _⟩ := h
    rfl
  · obtain ⟨cell, count, h, v, rfl, c0, c1, h0, h1, v0, v1, q⟩ := h
    have hu : (A.deeper (envOfC (Str.ofString "_law_some") (defScope s_law_some) s.heap.objs.size T.f_law_some cdv)).units + 1 < cLine := by
      have := hr.units
      omega
    refine ⟨_, (pss_cons (ps_set (i := 4) sc_law_some.nd rfl (.inl rfl) (pe_callB call_abs (by rfl) T.z_abs (by decide +kernel) (pa_cons (pe_callTy call_intI (by rfl) T.z_int (by decide +kernel) (pa_cons (pv 0) pa_nil)) pa_nil)))
      (pss_cons (ps_set (i := 5) sc_law_some.nd rfl (.inl rfl) pe_dnewT)
      (pss_cons (ps_for PassesOwn.never rfl (pi_list (pe_call (ok_law_row T) (hr.mono (by decide)) (by rfl) T.g_law_row T.F_law_row.kp T.b_law_row .nil pass0 (pa_cons (pv 0) (pa_cons (pv 1) (pa_cons (pe_op op_mul (pv 2) (pv 3)) pa_nil))))) (pg_name (i := 6) sc_law_some.nd rfl (.inl rfl))
      (pss_one (ps_dput hu (pv 5) (pe_tup (pa_cons (pe_op op_fdiv (pv 6) (pv 3)) (pa_cons (pe_op op_mod (pv 6) (pv 3)) pa_nil))) pe_bl rfl)))
      (pss_one (ps_ret (pe_callB cr_sortedC (by rfl) T.z_sorted (by decide +kernel) (pa_cons (pe_lock (pe_lc (own := [("place", 7)]) (g := gName 7) (tt := tYes) rfl sc_law_some.nd (pi_keys (pv 5)) (blkOk_by (own := [("place", 7)]) (N := N_law_some) (sc := defScope s_law_some) (by decide +kernel)) (fun _ _ _ _ _ => pg_name (i := 7) sc_law_some.nd rfl (Or.inl rfl)) (fun _ _ _ _ _ => pts_nil) (fun _ _ _ _ _ => (pv 7)))) pa_nil))))))), ?_⟩
    have b0 : 0 < h * v := Int.mul_pos h0 v0
    have b1 : h * v < 1000000000 := by
      have := Int.mul_le_mul h1 v1 (by omega) (by decide)
      omega
    refine ⟨_, rfl, _, rfl, _, rfl, fun d nd => ?_⟩
    k_invariant "new" (nd, H1, e1, g1)
    refine ⟨_, rfl, _, rfl, _, rfl, _, rfl, _, _, rfl, rfl, (by k_offL), _, _, _, rfl, c0, by omega, b0, b1, fun H2 p2 xs n2 e2 g2 l2 m2 => ?_⟩
    have nd2 : d ≠ p2 := neS g1 (fun _ _ z => z) n2
    refine ⟨p2, rfl, ⟨_, lst_of g2⟩, for_list (K := K) (a := p2) (xs := xs.map V.int) (fun i σ H' => Same H H' ∧ H' p2 = some (.lst (xs.map V.int)) ∧ (∃ (x y z : Option V), σ = [some (.int cell), some (.int count), some (.int h), some (.int v), x, some (.ref d), y, z]) ∧ ∃ kvs ps, H' d = some (.dT kvs) ∧ KeysP kvs ps ∧ ps.length ≤ i ∧ ∀ x ∈ ps, 0 ≤ x.1 ∧ x.1 < h ∧ 0 ≤ x.2 ∧ x.2 < v)
      ⟨e1.trans e2, g2, ⟨_, _, _, rfl⟩, [], [], e2 _ _ g1, ⟨rfl, List.nodup_nil⟩, Nat.le_refl _, fun _ m => (by cases m)⟩ (fun i σ H' _ p => lst_of p.2.1) ?_ ?_⟩
    · rintro i z σ H' hi ⟨sm, gp, ⟨x, y, z1, rfl⟩, kvs, ps, gd, hK, lp, bd⟩
      obtain ⟨n, rfl, _, mn⟩ := item_ints hi
      have bn := m2 n mn
      have li := (List.getElem?_eq_some_iff.mp hi).1
      rw [List.length_map] at li
      refine ⟨_, rfl, _, rfl, _, rfl, _, _, rfl, rfl, ⟨v0, by omega⟩, _, rfl, _, rfl, _, _, rfl, rfl, v0, (by k_clsL), fun t nt => ?_⟩
      have ntd : t ≠ d := fun e => by
        rw [e, gd] at nt
        cases nt
      have ntp : p2 ≠ d := fun e => by
        rw [e, gd] at gp
        cases gp
      obtain ⟨qs, hQ, lq, mq⟩ := hK.put (n / v, n % v) (.bl true)
      refine ⟨d, _, rfl, DPut.t (k := keyP (n / v, n % v)) (newS nt _ _ gd) upd_same (by rw [hK.len, sizeLine_eq]; omega), mutS (sm.trans (newS nt)) nd, ?_, ⟨_, _, _, rfl⟩, _, qs, upd_same, hQ, by omega, fun x m => ?_⟩
      · rw [upd_ne ntp]
        exact newS nt _ _ gp
      · rcases (mq x).mp m with m | e
        · exact bd x m
        · rw [e]
          exact ⟨Int.ediv_nonneg bn.1 (by omega), Int.ediv_lt_of_lt_mul v0 bn.2, Int.emod_nonneg _ (by omega), Int.emod_lt_of_pos _ v0⟩
    · rintro σ H' ⟨sm, gp, ⟨x, y, z1, rfl⟩, kvs, ps, gd, hK, lp, bd⟩
      rw [List.length_map] at lp
      refine ⟨d, _, gd, trivial, fun od => ⟨_, rfl, d, od, rfl, .inr ⟨kvs, upd_same, fun D nD => lc_keysP hK upd_same nD (by rw [sizeLine_eq]; omega) ?_ fun H3 e3 g3 => ?_⟩⟩⟩
      · intro t x H' Po Pn ht hq
        exact ⟨rfl, tyesT ⟨_, rfl, hq⟩⟩
      · have gd3 : H3 d = some (.frz od (.dT kvs)) := e3 _ _ upd_same
        have s3 : Same H (upd H3 d (.dT kvs)) := mutS ((mutS sm nd).trans e3) nd
        have neD : D ≠ d := fun e => by
          rw [e, upd_same] at nD
          cases nD
        refine ⟨gd3, D, ps, rfl, g3.mut neD (fun xs e => ?_), hK.2, fun p H4 qs e4 n4 h4 c4 l4 => q H4 p qs (backS s3 n4) (s3.trans e4) h4 c4.1 (by omega) fun x m => bd x ((c4.2 x).mp m)⟩
        rw [gd3] at e
        cases e
end
end My
namespace My
open PySem PySem.Spec PyProof.Rows L2 Vx
open TL
local macro_rules | `(tactic| k_invariant "new" ($n, $H:ident, $e:ident, $h:ident)) => `(tactic| (generalize hE : upd _ _ _ = $H; obtain ⟨$e:ident, $h:ident⟩ := gen_e hE $n; clear hE))
local macro_rules | `(tactic| k_places) => `(tactic| first
  | assumption
  | exact lst_of (by assumption)
  | exact tup_of (by assumption)
  | (refine getS (by assumption) ?_; k_places)
  | (refine Same.seq (by assumption) ?_; k_places)
  | (refine tupS (by assumption) ?_; k_places)
  | (refine lst_of ?_; k_places)
  | (refine tup_of ?_; k_places))
local macro_rules | `(tactic| k_subL) => `(tactic| first
  | k_places
  | solve_by_elim (maxDepth := 10) [getS, lst_of, tup_of, Same.seq, tupS])
local macro_rules | `(tactic| k_offL) => `(tactic| first
  | (show (0 : Int) < _; first | omega | decide)
  | (refine ⟨?_, ?_⟩ <;> first | omega | decide)
  | exact .inr ⟨by decide, by decide⟩
  | exact .inl ⟨by decide, by decide⟩
  | exact .inl ⟨by omega, by omega⟩
  | omega)
local macro_rules | `(tactic| k_clsL) => `(tactic| exact Nat.le_of_ble_eq_true rfl)
local macro_rules | `(tactic| k_upd) => `(tactic| simp only [L2.start, List.map_cons, List.map_nil, List.length_cons, List.length_nil, List.replicate_succ, List.replicate_zero, List.cons_append, List.nil_append, List.set_cons_zero, List.set_cons_succ])
section
variable {P : Program} {w : World} {K : PySem.W.Frag} {mg : Str → Option Value} {base : Heap}
/-! ### the law -/
def FoundOk (G : Nat → Int → Int → Bool) (H : Hp) (fv : V) : Prop := fv = .non ∨ ∃ (p : Addr) (s pr : Nat) (dr dc : Int), fv = .ref p ∧ H p = some (.tup [.int (s : Int), .int (pr : Int), .int dr, .int dc]) ∧ 1 ≤ pr ∧ s + pr ≤ 20 ∧ Shift (G (s + pr)) (G s) dr dc ∧ (-100 ≤ dr ∧ dr ≤ 100) ∧ -100 ≤ dc ∧ dc ≤ 100
def ToldOk (G : Nat → Int → Int → Bool) (H : Hp) (t : Addr) (start period : Nat) (rows cols : Int) : Prop := H t = some (.tup [.int (start : Int), .int (period : Int), .int rows, .int cols]) ∧ start ≤ 22 ∧ 1 ≤ period ∧ period ≤ 40 ∧ (-1000 ≤ rows ∧ rows ≤ 1000) ∧ (-1000 ≤ cols ∧ cols ≤ 1000) ∧ ∀ m < start + period, SizeOk (G m) 4000
def sp_law (K : PySem.W.Frag) : Sp := fun vs H Q _ => ∃ (a : Addr) (ns : List Int), vs = [.ref a] ∧ SqL K H a (ns.map V.int) ∧ ns.length ≤ 63 ∧ ∀ H', Q (.bl true) H'
theorem ok_law (T : Txt K mg) : FnOk P w K mg base CX0 12 T.f_law T.d_law ["script"] (sp_law K) := by
  refine T.F_law.ok sc_law (fun vs H Q E h => ?_) (fun cdv A outer s H vs Q E hr h => ?_)
  · obtain ⟨a, ns, rfl, _⟩ := h
    rfl
  · obtain ⟨a, ns, rfl, hS, hlen, q⟩ := h
    refine ⟨_, (pss_cons (ps_asg (pe_call (ok_law_numbers T) (hr.mono (by decide)) (by rfl) T.g_law_numbers T.F_law_numbers.kp T.b_law_numbers .nil pass0 (pa_cons (pe_call (ok_law_cell T) (hr.mono (by decide)) (by rfl) T.g_law_cell T.F_law_cell.kp T.b_law_cell .nil pass0 (pa_cons (pv 0) (pa_cons pe_int pa_nil))) pa_nil)) (pg_tupK (K := K) (n := 2) rfl rfl (pgs_cons (pg_name (i := 1) sc_law.nd rfl (.inl rfl)) (pgs_cons (pg_name (i := 2) sc_law.nd rfl (.inl rfl)) pgs_nil))))
      (pss_cons (ps_set (i := 3) sc_law.nd rfl (.inl rfl) (pe_make T.M_Rule (ok_Rule_init T) (hr.mono (by decide)) rfl T.g_Rule T.b_Rule_init .nil pass0 (pa_cons (pv 1) (pa_cons (pv 2) pa_nil))))
      (pss_cons (ps_set (i := 4) sc_law.nd rfl (.inl rfl) (pe_call (ok_law_cell T) (hr.mono (by decide)) (by rfl) T.g_law_cell T.F_law_cell.kp T.b_law_cell .nil pass0 (pa_cons (pv 0) (pa_cons pe_int pa_nil))))
      (pss_cons (ps_set (i := 5) sc_law.nd rfl (.inl rfl) (pe_call (ok_law_some T) (hr.mono (by decide)) (by rfl) T.g_law_some T.F_law_some.kp T.b_law_some .nil pass0 (pa_cons (pe_call (ok_law_cell T) (hr.mono (by decide)) (by rfl) T.g_law_cell T.F_law_cell.kp T.b_law_cell .nil pass0 (pa_cons (pv 0) (pa_cons pe_int pa_nil))) (pa_cons (pe_op op_mod (pv 4) pe_int) (pa_cons (pe_op op_add pe_int (pe_op op_mod (pe_op op_fdiv (pv 4) pe_int) pe_int)) (pa_cons (pe_op op_add pe_int (pe_op op_mod (pe_op op_fdiv (pv 4) pe_int) pe_int)) pa_nil))))))
      (pss_cons (ps_set (i := 6) sc_law.nd rfl (.inl rfl) (pe_callB call_abs (by rfl) T.z_abs (by decide +kernel) (pa_cons (pe_call (ok_law_cell T) (hr.mono (by decide)) (by rfl) T.g_law_cell T.F_law_cell.kp T.b_law_cell .nil pass0 (pa_cons (pv 0) (pa_cons pe_int pa_nil))) pa_nil)))
      (pss_cons (ps_set (i := 7) sc_law.nd rfl (.inr rfl) (pe_tup (pa_cons (pe_op op_mod (pv 6) pe_int) (pa_cons (pe_op op_add pe_int (pe_op op_mod (pe_op op_fdiv (pv 6) pe_int) pe_int)) (pa_cons (pe_op op_sub (pe_op op_mod (pe_op op_fdiv (pv 6) pe_int) pe_int) pe_int) (pa_cons (pe_op op_sub (pe_op op_mod (pe_op op_fdiv (pv 6) pe_int) pe_int) pe_int) pa_nil))))))
      (pss_cons (ps_mid (ps_set (i := 8) sc_law.nd rfl (.inl rfl) (pe_call (ok_fate T) (hr.mono (by decide)) (by rfl) T.g_fate T.F_fate.kp T.b_fate .nil pass0 (pa_cons (pv 5) (pa_cons (pv 3) (pa_cons pe_int pa_nil))))))
      (pss_cons (ps_mid (ps_if (PW.pt (pw_and (pt_cmpR op_notN (pv 8) pe_non (nomark _)) (pw_and1 (pt_cmpR op_gt (pe_op op_mod (pe_op op_fdiv (pv 6) pe_int) pe_int) pe_int (nomark _)))))
      (pss_cons (ps_set (i := 7) sc_law.nd rfl (.inr rfl) (pv 8))
      (pss_cons (ps_if (pt_cmpR op_eq (pe_op op_mod (pe_op op_fdiv (pv 6) pe_int) pe_int) pe_int (nomark _))
      (pss_one (ps_set (i := 7) sc_law.nd rfl (.inr rfl) (pe_tup (pa_cons (pe_op op_add (pe_ix (ix_tupK (K := K) rfl) (pv 7) pe_int (fun _ _ => rfl)) (pe_op op_mod (pe_op op_fdiv (pv 6) pe_int) pe_int)) (pa_cons (pe_op op_mul (pe_ix (ix_tupK (K := K) rfl) (pv 7) pe_int (fun _ _ => rfl)) (pe_op op_add pe_int (pe_op op_mod (pe_op op_fdiv (pv 6) pe_int) pe_int))) (pa_cons (pe_op op_mul (pe_ix (ix_tupK (K := K) rfl) (pv 7) pe_int (fun _ _ => rfl)) (pe_op op_add pe_int (pe_op op_mod (pe_op op_fdiv (pv 6) pe_int) pe_int))) (pa_cons (pe_op op_mul (pe_ix (ix_tupK (K := K) rfl) (pv 7) pe_int (fun _ _ => rfl)) (pe_op op_add pe_int (pe_op op_mod (pe_op op_fdiv (pv 6) pe_int) pe_int))) pa_nil)))))))
      pss_nil)
      (pss_one (ps_if (pt_cmpR op_eq (pe_op op_mod (pe_op op_fdiv (pv 6) pe_int) pe_int) pe_int (nomark _))
      (pss_one (ps_set (i := 7) sc_law.nd rfl (.inr rfl) (pe_tup (pa_cons (pe_callB (call_max2 rfl) (by rfl) T.z_max (by decide +kernel) (pa_cons pe_int (pa_cons (pe_op op_sub (pe_ix (ix_tupK (K := K) rfl) (pv 7) pe_int (fun _ _ => rfl)) pe_int) pa_nil))) (pa_cons (pe_ix (ix_tupK (K := K) rfl) (pv 7) pe_int (fun _ _ => rfl)) (pa_cons (pe_ix (ix_tupK (K := K) rfl) (pv 7) pe_int (fun _ _ => rfl)) (pa_cons (pe_op op_add (pe_ix (ix_tupK (K := K) rfl) (pv 7) pe_int (fun _ _ => rfl)) (pe_op op_mod (pe_op op_fdiv (pv 6) pe_int) pe_int)) pa_nil)))))))
      pss_nil))))
      pss_nil))
      (pss_cons (ps_set (i := 9) sc_law.nd rfl (.inl rfl) (pe_call (ok_law_grown T) (hr.mono (by decide)) (by rfl) T.g_law_grown T.F_law_grown.kp T.b_law_grown .nil pass0 (pa_cons (pv 5) (pa_cons (pv 1) (pa_cons (pv 2) (pa_cons (pe_ix (ix_tupK (K := K) rfl) (pv 7) pe_int (fun _ _ => rfl)) pa_nil))))))
      (pss_cons (ps_set (i := 10) sc_law.nd rfl (.inl rfl) (pe_call (ok_law_grown T) (hr.mono (by decide)) (by rfl) T.g_law_grown T.F_law_grown.kp T.b_law_grown .nil pass0 (pa_cons (pv 9) (pa_cons (pv 1) (pa_cons (pv 2) (pa_cons (pe_ix (ix_tupK (K := K) rfl) (pv 7) pe_int (fun _ _ => rfl)) pa_nil))))))
      (pss_cons (ps_set (i := 11) sc_law.nd rfl (.inl rfl) (pe_cmpR (op_eqD hr.units) (pv 10) (pe_lc (own := [("r", 16), ("c", 17)]) (tt := tYes) rfl sc_law.nd (pi_list (pv 9)) (blkOk_by (own := [("r", 16), ("c", 17)]) (N := N_law) (sc := defScope s_law) (by decide +kernel)) (fun _ _ _ _ _ => (pg_tupK (K := K) (n := 2) rfl rfl (pgs_cons (pg_name (i := 16) sc_law.nd rfl (.inl rfl)) (pgs_cons (pg_name (i := 17) sc_law.nd rfl (.inl rfl)) pgs_nil)))) (fun _ _ _ _ _ => pts_nil) (fun _ _ _ _ _ => (pe_tup (pa_cons (pe_op op_add (pv 16) (pe_ix (ix_tupK (K := K) rfl) (pv 7) pe_int (fun _ _ => rfl))) (pa_cons (pe_op op_add (pv 17) (pe_ix (ix_tupK (K := K) rfl) (pv 7) pe_int (fun _ _ => rfl))) pa_nil))))) (nomark _)))
      (pss_cons (ps_if (PW.pt (pw_or (pt_not (pt_val (pe_callB call_isi (by rfl) T.z_isinstance (by decide +kernel) (pa_cons (pe_call (ok_holds T) (hr.mono (by decide)) (by rfl) T.g_holds T.F_holds.kp T.b_holds .nil pass0 (pa_cons (pv 5) (pa_cons (pv 3) (pa_cons (pv 7) pa_nil)))) (pa_cons (pe_bltn (v := .ty "bool") (by rfl) T.z_bool (by decide +kernel) rfl) pa_nil))))) (pw_or1 (pt_cmpR op_ne (pe_call (ok_holds T) (hr.mono (by decide)) (by rfl) T.g_holds T.F_holds.kp T.b_holds .nil pass0 (pa_cons (pv 5) (pa_cons (pv 3) (pa_cons (pv 7) pa_nil)))) (pv 11) (nomark _)))))
      (pss_one (ps_ret pe_bl))
      pss_nil)
      (pss_cons (ps_if (pt_not (pt_val (pv 11)))
      (pss_one (ps_ret pe_bl))
      pss_nil)
      (pss_cons (ps_set (i := 12) sc_law.nd rfl (.inl rfl) (pv 5))
      (pss_cons (ps_for PassesOwn.never rfl (pi_range1 (by rfl) T.z_range (pa_cons pe_int pa_nil)) (pg_name (i := 13) sc_law.nd rfl (.inl rfl))
      (pss_cons (ps_if (PW.pt (pw_and (pt_cmpR op_lt (pe_callB call_lenL (by rfl) T.z_len (by decide +kernel) (pa_cons (pv 12) pa_nil)) pe_int (nomark _)) (pw_and1 (pt_cmpR (op_neD hr.units) (pe_call (ok_at_generation T) (hr.mono (by decide)) (by rfl) T.g_at_generation T.F_at_generation.kp T.b_at_generation .nil pass0 (pa_cons (pv 5) (pa_cons (pv 3) (pa_cons (pv 7) (pa_cons (pv 13) pa_nil))))) (pv 12) (nomark _)))))
      (pss_one (ps_ret pe_bl))
      pss_nil)
      (pss_one (ps_if (pt_cmpR op_lt (pe_callB call_lenL (by rfl) T.z_len (by decide +kernel) (pa_cons (pv 12) pa_nil)) pe_int (nomark _))
      (pss_one (ps_set (i := 12) sc_law.nd rfl (.inl rfl) (pe_call (ok_law_next T) (hr.mono (by decide)) (by rfl) T.g_law_next T.F_law_next.kp T.b_law_next .nil pass0 (pa_cons (pv 12) (pa_cons (pv 1) (pa_cons (pv 2) pa_nil))))))
      pss_nil))))
      (pss_cons (ps_set (i := 13) sc_law.nd rfl (.inl rfl) (pe_op op_mod (pe_call (ok_law_cell T) (hr.mono (by decide)) (by rfl) T.g_law_cell T.F_law_cell.kp T.b_law_cell .nil pass0 (pa_cons (pv 0) (pa_cons pe_int pa_nil))) pe_int))
      (pss_cons (ps_if (pt_cmpR op_lt (pv 13) (pe_ix (ix_tupK (K := K) rfl) (pv 7) pe_int (fun _ _ => rfl)) (nomark _))
      (pss_one (ps_ret (pe_cmpR (op_eqD hr.units) (pe_call (ok_at_generation T) (hr.mono (by decide)) (by rfl) T.g_at_generation T.F_at_generation.kp T.b_at_generation .nil pass0 (pa_cons (pv 5) (pa_cons (pv 3) (pa_cons (pv 7) (pa_cons (pv 13) pa_nil))))) (pe_call (ok_law_grown T) (hr.mono (by decide)) (by rfl) T.g_law_grown T.F_law_grown.kp T.b_law_grown .nil pass0 (pa_cons (pv 5) (pa_cons (pv 1) (pa_cons (pv 2) (pa_cons (pv 13) pa_nil))))) (nomark _))))
      pss_nil)
      (pss_cons (ps_set (i := 14) sc_law.nd rfl (.inr rfl) (pe_op op_fdiv (pe_op op_sub (pv 13) (pe_ix (ix_tupK (K := K) rfl) (pv 7) pe_int (fun _ _ => rfl))) (pe_ix (ix_tupK (K := K) rfl) (pv 7) pe_int (fun _ _ => rfl))))
      (pss_cons (ps_set (i := 15) sc_law.nd rfl (.inl rfl) (pe_call (ok_law_grown T) (hr.mono (by decide)) (by rfl) T.g_law_grown T.F_law_grown.kp T.b_law_grown .nil pass0 (pa_cons (pv 9) (pa_cons (pv 1) (pa_cons (pv 2) (pa_cons (pe_op op_mod (pe_op op_sub (pv 13) (pe_ix (ix_tupK (K := K) rfl) (pv 7) pe_int (fun _ _ => rfl))) (pe_ix (ix_tupK (K := K) rfl) (pv 7) pe_int (fun _ _ => rfl))) pa_nil))))))
      (pss_one (ps_ret (pe_cmpR (op_eqD hr.units) (pe_call (ok_at_generation T) (hr.mono (by decide)) (by rfl) T.g_at_generation T.F_at_generation.kp T.b_at_generation .nil pass0 (pa_cons (pv 5) (pa_cons (pv 3) (pa_cons (pv 7) (pa_cons (pv 13) pa_nil))))) (pe_lc (own := [("r", 16), ("c", 17)]) (tt := tYes) rfl sc_law.nd (pi_list (pv 15)) (blkOk_by (own := [("r", 16), ("c", 17)]) (N := N_law) (sc := defScope s_law) (by decide +kernel)) (fun _ _ _ _ _ => (pg_tupK (K := K) (n := 2) rfl rfl (pgs_cons (pg_name (i := 16) sc_law.nd rfl (.inl rfl)) (pgs_cons (pg_name (i := 17) sc_law.nd rfl (.inl rfl)) pgs_nil)))) (fun _ _ _ _ _ => pts_nil) (fun _ _ _ _ _ => (pe_tup (pa_cons (pe_op op_add (pv 16) (pe_op op_mul (pv 14) (pe_ix (ix_tupK (K := K) rfl) (pv 7) pe_int (fun _ _ => rfl)))) (pa_cons (pe_op op_add (pv 17) (pe_op op_mul (pv 14) (pe_ix (ix_tupK (K := K) rfl) (pv 7) pe_int (fun _ _ => rfl)))) pa_nil))))) (nomark _))))))))))))))))))))))), ?_⟩
    k_upd
    refine ⟨_, rfl, a, ns, 0, rfl, hS, ?_⟩
    generalize cellOf ns 0 = z0
    refine ⟨z0, rfl, fun H1 p1 pb pss bs ss e1 g1 gb gs' good1 good0 => ?_⟩
    refine ⟨p1, _, rfl, tup_of g1, rfl, _, _, rfl, _, _, rfl, rfl, ?_⟩
    k_upd
    refine ⟨_, rfl, _, rfl, ?_⟩
    intro r dx nx nd nex
    refine ⟨H1, r, pb, pss, dx, bs, ss, rfl, madeS nx nd, nx, upd_same, lst_of gb, lst_of gs', by have := good1.2.2; omega, by have := good0.2.2; omega, fun H2 bs' ss' e2 ra c1 c2 => ⟨rfl, ?_⟩⟩
    have eb : bs' = bs := canon_eq c1 good1.1 fun _ => Iff.rfl
    have es : ss' = ss := canon_eq c2 good0.1 fun _ => Iff.rfl
    subst eb es
    have hb := good1.2.1
    have hss := good0.2.1
    k_upd
    refine ⟨_, rfl, a, ns, 1, rfl, (e1.trans e2).seq hS, ?_⟩
    generalize cellOf ns 1 = first
    k_upd
    have q1 := Int.emod_nonneg first (show (11 : Int) ≠ 0 by decide)
    have q2 := Int.emod_lt_of_pos first (show (0 : Int) < 11 by decide)
    have q3 := Int.emod_nonneg (first / 11) (show (3 : Int) ≠ 0 by decide)
    have q4 := Int.emod_lt_of_pos (first / 11) (show (0 : Int) < 3 by decide)
    have q5 := Int.emod_nonneg (first / 33) (show (4 : Int) ≠ 0 by decide)
    have q6 := Int.emod_lt_of_pos (first / 33) (show (0 : Int) < 4 by decide)
    refine ⟨_, rfl, a, ns, 2, rfl, (e1.trans e2).seq hS, _, rfl, _, _, rfl, rfl, (by k_offL), _, rfl, _, _, rfl, rfl, (by k_offL), _, _, rfl, rfl, (by k_offL), _, _, rfl, rfl, _, rfl, _, _, rfl, rfl, (by k_offL), _, _, rfl, rfl, (by k_offL), _, _, rfl, rfl, ?_⟩
    refine ⟨_, _, _, _, rfl, q1, by omega, by omega, by omega, by omega, by omega, fun H3 D ps n3 e3 hC pw lps box => ?_⟩
    k_upd
    have lc : ps.length ≤ 10 := by omega
    have box4 : ∀ x ∈ ps, (0 : Int) ≤ x.1 ∧ x.1 < 0 + ((4 : Nat) : Int) ∧ (0 : Int) ≤ x.2 ∧ x.2 < 0 + ((4 : Nat) : Int) := fun x m => by
      have := box x m
      omega
    have gb3 := e3 _ _ (e2 _ _ gb)
    have gs3 := e3 _ _ (e2 _ _ gs')
    have ra3 := ra.up e3
    have hS3 := (e1.trans (e2.trans e3)).seq hS
    clear box lps q1 q2 q3 q4 q5 q6 g1 gb gs' n3 e1 e2 e3 ra hS
    obtain ⟨G, eG⟩ : ∃ G, G = genL bs' ss' (memL ps) := ⟨_, rfl⟩
    have inb : InBox (memL ps) 0 0 4 := fun r c z => box4 _ (of_decide_eq_true z)
    have inbG : ∀ m, InBox (G m) (0 - (m : Int)) (0 - (m : Int)) (4 + 2 * m) := fun m => by rw [eG]; exact box_gen hb inb m
    -- x
    refine ⟨_, rfl, a, ns, 3, rfl, hS3, _, rfl, ?_⟩
    generalize (if cellOf ns 3 < 0 then -cellOf ns 3 else cellOf ns 3) = x
    k_upd
    have v0 := Int.emod_nonneg x (show (9 : Int) ≠ 0 by decide)
    have v1 := Int.emod_lt_of_pos x (show (0 : Int) < 9 by decide)
    have v2 := Int.emod_nonneg (x / 9) (show (8 : Int) ≠ 0 by decide)
    have v3 := Int.emod_lt_of_pos (x / 9) (show (0 : Int) < 8 by decide)
    have v4 := Int.emod_nonneg (x / 72) (show (5 : Int) ≠ 0 by decide)
    have v5 := Int.emod_lt_of_pos (x / 72) (show (0 : Int) < 5 by decide)
    have v6 := Int.emod_nonneg (x / 360) (show (5 : Int) ≠ 0 by decide)
    have v7 := Int.emod_lt_of_pos (x / 360) (show (0 : Int) < 5 by decide)
    refine ⟨_, rfl, _, _, rfl, rfl, (by k_offL), _, rfl, _, _, rfl, rfl, (by k_offL), _, _, rfl, rfl, (by k_offL), _, _, rfl, rfl, _, rfl, _, _, rfl, rfl, (by k_offL), _, _, rfl, rfl, (by k_offL), _, _, rfl, rfl, _, rfl, _, _, rfl, rfl, (by k_offL), _, _, rfl, rfl, (by k_offL), _, _, rfl, rfl, by k_clsL, fun t0 nt0 => ?_⟩
    dsimp only
    obtain ⟨st0, est0⟩ := Int.eq_ofNat_of_zero_le v0
    obtain ⟨pr0, epr0⟩ := Int.eq_ofNat_of_zero_le (show 0 ≤ 1 + x / 9 % 8 by omega)
    rw [est0, epr0]
    k_invariant "new" (nt0, H4, e4, g4)
    refine gName_go ?_
    k_upd
    have told0 : ToldOk G H4 t0 st0 pr0 (x / 72 % 5 - 2) (x / 360 % 5 - 2) := ⟨g4, by omega, by omega, by omega, ⟨by omega, by omega⟩, ⟨by omega, by omega⟩, fun m hm qs pwq mq => by
      have := box_size (inbG m) pwq mq
      have : (4 + 2 * m) * (4 + 2 * m) ≤ 60 * 60 := Nat.mul_le_mul (by omega) (by omega)
      omega⟩
    have hC4 := hC.up e4
    have ra4 := ra3.up e4
    have gb4 := e4 _ _ gb3
    have gs4 := e4 _ _ gs3
    have hS4 := e4.seq hS3
    clear hC ra3 gb3 gs3 hS3 e4 g4
    -- found
    refine ⟨fun σ' H' => Same H4 H' ∧ ∃ fv, σ' = [some (.ref a), some (.ref pb), some (.ref pss), some (.ref r), some (.int first), some (.ref D), some (.int x), some (.ref t0), some fv, none, none, none, none, none, none, none, none, none] ∧ FoundOk G H' fv, ?_, ?_⟩
    · refine ⟨_, rfl, _, rfl, D, r, 20, ps, bs', ss', 0, 0, 4, rfl, by decide, hC4, ra4, hb, hss, by omega, box4, by decide, by decide, by decide, fun H5 none5 e5 => ?_, fun H5 pf g s dr dc lt le nf e5 gf sh em min => ?_⟩
      · exact ⟨e5, _, rfl, .inl rfl⟩
      · rw [← eG] at sh em
        refine ⟨e5, _, rfl, .inr ⟨pf, s, g - s, dr, dc, rfl, gf, by omega, by omega, by rw [show s + (g - s) = g by omega]; exact sh, ?_⟩⟩
        by_cases z : ∃ r c, G s r c = true
        · obtain ⟨rr, cc, z⟩ := z
          have h1 := inbG s rr cc z
          have h2 := inbG g (rr + dr) (cc + dc) (by rw [sh, Int.add_sub_cancel, Int.add_sub_cancel]; exact z)
          omega
        · have z : ∀ r c, G s r c = false := fun r c => by
            cases e : G s r c with
            | false => rfl
            | true => exact absurd ⟨r, c, e⟩ z
          have := em z
          omega
    rintro σ H5 ⟨e5, fv, rfl, hfound⟩
    refine ⟨fun σ' H' => Same H4 H' ∧ ∃ (t : Addr) (start period : Nat) (rows cols : Int), σ' = [some (.ref a), some (.ref pb), some (.ref pss), some (.ref r), some (.int first), some (.ref D), some (.int x), some (.ref t), some fv, none, none, none, none, none, none, none, none, none] ∧ ToldOk G H' t start period rows cols, ?_, ?_⟩
    · have same0 : ∀ {H' : Hp}, Same H4 H' → ToldOk G H' t0 st0 pr0 (x / 72 % 5 - 2) (x / 360 % 5 - 2) := fun e => ⟨e _ _ told0.1, told0.2⟩
      rcases hfound with rfl | ⟨pf, s, pr, dr, dc, rfl, gf, pr1, spr, sh, hdr, hdc⟩
      · refine ⟨_, rfl, rfl, _, rfl, iteF ?_⟩
        exact ⟨e5, _, _, _, _, _, rfl, same0 e5⟩
      · refine ⟨_, rfl, rfl, _, rfl, iteT ?_⟩
        refine ⟨_, rfl, _, _, rfl, rfl, (by k_offL), _, _, rfl, rfl, (by k_offL), _, _, rfl, rfl, _, rfl, ite2 (fun c => ?_) (fun c => ?_)⟩
        · have small : ∀ m, SizeOk (G m) 4000 := fun m qs pwq mq => by
            obtain ⟨n', lt', a', b', sh'⟩ := small_all (bs := bs') (ss := ss') (L := memL ps) (s := s) (p := pr) (by omega) (by rw [← eG]; exact sh) m
            rw [← eG] at sh'
            have := shift_size sh' (inbG n') pwq mq
            have : (4 + 2 * n') * (4 + 2 * n') ≤ 60 * 60 := Nat.mul_le_mul (by omega) (by omega)
            omega
          refine ⟨_, rfl, ?_⟩
          refine gName_go ?_
          k_upd
          have w0 := Int.emod_nonneg (x / 36000) (show (3 : Int) ≠ 0 by decide)
          have w1 := Int.emod_lt_of_pos (x / 36000) (show (0 : Int) < 3 by decide)
          have w2 := Int.emod_nonneg (x / 36000) (show (2 : Int) ≠ 0 by decide)
          have w3 := Int.emod_lt_of_pos (x / 36000) (show (0 : Int) < 2 by decide)
          refine ⟨_, rfl, _, _, rfl, rfl, (by k_offL), _, _, rfl, rfl, (by k_offL), rfl, _, rfl, ite2 (fun c1 => ?_) (fun c1 => ?_)⟩
          · refine ⟨_, rfl, pf, _, _, _, rfl, rfl, tup_of gf, rfl, _, rfl, _, _, rfl, rfl, (by k_offL), _, _, rfl, rfl, (by k_offL), _, _, rfl, rfl, ?_⟩
            refine ⟨_, rfl, pf, _, _, _, rfl, rfl, tup_of gf, rfl, _, rfl, _, _, rfl, rfl, (by k_offL), _, _, rfl, rfl, (by k_offL), _, _, rfl, rfl, _, _, rfl, rfl, .inr ⟨by omega, by omega⟩, ?_⟩
            refine ⟨_, rfl, pf, _, _, _, rfl, rfl, tup_of gf, rfl, _, rfl, _, _, rfl, rfl, (by k_offL), _, _, rfl, rfl, (by k_offL), _, _, rfl, rfl, _, _, rfl, rfl, .inr ⟨by omega, by omega⟩, ?_⟩
            refine ⟨_, rfl, pf, _, _, _, rfl, rfl, tup_of gf, rfl, _, rfl, _, _, rfl, rfl, (by k_offL), _, _, rfl, rfl, (by k_offL), _, _, rfl, rfl, _, _, rfl, rfl, .inr ⟨by omega, by omega⟩, by k_clsL, fun t1 nt1 => ?_⟩
            dsimp only
            generalize x / 36000 % 3 = kk at w0 w1 ⊢
            generalize x / 36000 % 2 = mm at w2 w3 ⊢
            obtain ⟨st1, est1⟩ := Int.eq_ofNat_of_zero_le (show 0 ≤ (s : Int) + kk by omega)
            have mm01 : mm = 0 ∨ mm = 1 := by omega
            obtain ⟨pr2, epr2⟩ : ∃ pr2 : Nat, (pr : Int) * (1 + mm) = (pr2 : Int) ∧ 1 ≤ pr2 ∧ pr2 ≤ 40 := by
              rcases mm01 with rfl | rfl
              · exact ⟨pr, by omega, by omega, by omega⟩
              · exact ⟨2 * pr, by omega, by omega, by omega⟩
            have r2 : -1000 ≤ dr * (1 + mm) ∧ dr * (1 + mm) ≤ 1000 := by rcases mm01 with rfl | rfl <;> omega
            have c2 : -1000 ≤ dc * (1 + mm) ∧ dc * (1 + mm) ≤ 1000 := by rcases mm01 with rfl | rfl <;> omega
            rw [est1, epr2.1]
            k_invariant "new" (nt1, H6, e6, g6)
            refine gName_go ?_
            k_upd
            have fin : Same H4 H6 ∧ ToldOk G H6 t1 st1 pr2 (dr * (1 + mm)) (dc * (1 + mm)) := ⟨e5.trans e6, g6, by omega, epr2.2.1, epr2.2.2, r2, c2, fun m _ => small m⟩
            refine ⟨_, rfl, _, _, rfl, rfl, (by k_offL), _, _, rfl, rfl, (by k_offL), rfl, _, rfl, ite2 (fun c2 => ?_) (fun c2 => ?_)⟩
            · have h1 := of_decide_eq_true c1
              have h2 := of_decide_eq_true c2
              rw [h1] at h2
              cases h2
            · exact ⟨fin.1, _, _, _, _, _, rfl, fin.2⟩
          · refine ⟨_, rfl, _, _, rfl, rfl, (by k_offL), _, _, rfl, rfl, (by k_offL), rfl, _, rfl, ite2 (fun c2 => ?_) (fun c2 => ?_)⟩
            · refine ⟨_, rfl, pf, _, _, _, rfl, rfl, tup_of gf, rfl, _, _, rfl, rfl, _, _, rfl, ?_⟩
              dsimp only
              obtain ⟨st1, est1, lst1⟩ : ∃ st1 : Nat, (if (s : Int) - 1 > 0 then (s : Int) - 1 else 0) = (st1 : Int) ∧ st1 ≤ 22 := by
                by_cases z : (s : Int) - 1 > 0
                · exact ⟨s - 1, by rw [if_pos z]; omega, by omega⟩
                · exact ⟨0, by rw [if_neg z]; rfl, by omega⟩
              rw [est1]
              refine ⟨_, rfl, pf, _, _, _, rfl, rfl, tup_of gf, rfl, _, rfl, pf, _, _, _, rfl, rfl, tup_of gf, rfl, _, rfl, pf, _, _, _, rfl, rfl, tup_of gf, rfl, _, rfl, _, _, rfl, rfl, (by k_offL), _, _, rfl, rfl, (by k_offL), _, _, rfl, rfl, by k_clsL, fun t1 nt1 => ?_⟩
              dsimp only
              k_invariant "new" (nt1, H6, e6, g6)
              exact ⟨e5.trans e6, _, _, _, _, _, rfl, g6, lst1, pr1, by omega, ⟨by omega, by omega⟩, ⟨by omega, by omega⟩, fun m _ => small m⟩
            · exact ⟨e5, _, _, _, _, _, rfl, gf, by omega, pr1, by omega, ⟨by omega, by omega⟩, ⟨by omega, by omega⟩, fun m _ => small m⟩
        · exact ⟨e5, _, _, _, _, _, rfl, same0 e5⟩
    clear hfound told0
    rintro σ H6 ⟨e6, t, start, period, rows, cols, rfl, gt, st22, p1, p40, hrows, hcols, size⟩
    have size9 : ∀ m ≤ 70, SizeOk (G m) 90000 := fun m hm qs pwq mq => by
      have := box_size (inbG m) pwq mq
      have : (4 + 2 * m) * (4 + 2 * m) ≤ 150 * 150 := Nat.mul_le_mul (by omega) (by omega)
      omega
    -- start, end
    refine ⟨_, rfl, _, rfl, _, rfl, _, rfl, t, _, _, _, rfl, rfl, tup_of gt, rfl, D, pb, pss, start, ps, bs', ss', rfl, by omega, hC4.up e6, pw, e6 _ _ gb4, e6 _ _ gs4, hb, fun m hm => by rw [← eG]; exact size9 m (by omega), fun H7 ps7 ws e7 hw pww memw => ?_⟩
    rw [← eG] at memw
    have ew := memL_eq memw
    have gw : ∀ m, genL bs' ss' (memL ws) m = G (start + m) := fun m => by rw [ew, eG, genL_add]
    k_upd
    have gt7 := e7 _ _ gt
    have s47 := e6.trans e7
    refine ⟨_, rfl, _, rfl, _, rfl, _, rfl, t, _, _, _, rfl, rfl, tup_of gt7, rfl, ps7, pb, pss, period, ws, bs', ss', rfl, by omega, hw, pww, s47 _ _ gb4, s47 _ _ gs4, hb, fun m hm => by rw [gw]; exact size9 _ (by omega), fun H8 ps8 es e8 he pwe meme => ?_⟩
    rw [gw] at meme
    k_upd
    have gt8 := e8 _ _ gt7
    have s48 := s47.trans e8
    have hw8 := hw.up e8
    have lw : ws.length ≤ 90000 := size9 start (by omega) ws pww fun x m => (memw x).mp m
    -- due
    refine ⟨_, rfl, _, rfl, ps7, rfl, ⟨_, lst_of hw8.choose_spec.1⟩, fun D9 nD9 => lc_cells (addP rows cols) hw8 nD9 (by rw [sizeLine_eq]; omega) ?_ fun H9 e9 h9 => ?_⟩
    · intro u y H' Po Pn sm hu hq
      have gtx := sm _ _ gt8
      exact ⟨u, _, rfl, tup_of hu, rfl, _, _, rfl, _, _, rfl, rfl, wipe2 _ 16 17 _ _, tyesT ⟨_, rfl, _, rfl, t, _, _, _, rfl, rfl, tup_of gtx, rfl, _, _, rfl, rfl, _, rfl, _, rfl, t, _, _, _, rfl, rfl, tup_of gtx, rfl, _, _, rfl, rfl, (by k_clsL), fun t2 n2 => hq t2 n2⟩⟩
    refine ⟨_, _, dp_cells (he.up e9), dp_cells h9, shaped_cells _, shaped_cells _, ?_⟩
    rw [eqv_cells]
    have pwm : (ws.map (addP rows cols)).Pairwise ltP := pw_map (fun x y h => by
      have h := ltP_iff.mp h
      refine ltP_iff.mpr ?_
      unfold addP
      dsimp only
      omega) pww
    have memA : ∀ (ls : List Pr) (a b : Int) (x : Pr), x ∈ ls.map (addP a b) ↔ (x.1 - a, x.2 - b) ∈ ls := fun ls a b x => by
      constructor
      · intro m
        obtain ⟨y, my, ey⟩ := List.mem_map.mp m
        rw [← ey]
        unfold addP
        dsimp only
        rw [Int.add_sub_cancel, Int.add_sub_cancel]
        exact my
      · intro m
        refine List.mem_map.mpr ⟨_, m, ?_⟩
        unfold addP
        dsimp only
        rw [Int.sub_add_cancel, Int.sub_add_cancel]
    have hdue : es = ws.map (addP rows cols) ↔ Shift (G (start + period)) (G start) rows cols := by
      constructor
      · intro e rr cc
        rw [Bool.eq_iff_iff, ← meme (rr, cc), e, memA, memw]
      · intro z
        refine ascP_eq pwe pwm fun y => ?_
        rw [meme, memA, memw, z]
    obtain ⟨due, edue⟩ : ∃ due : Bool, due = decide (es = ws.map (addP rows cols)) := ⟨_, rfl⟩
    rw [← edue]
    have hdue' : due = true ↔ Shift (G (start + period)) (G start) rows cols := by rw [edue, decide_eq_true_iff, hdue]
    clear edue hdue
    refine gName_go ?_
    k_upd
    have s49 := s48.trans e9
    have gt9 := e9 _ _ gt8
    have hw9 := hw8.up e9
    clear he hw hw8 h9 nD9 gt gt7 gt8 e7 e8 e9 e6 e5
    -- holds
    have sqs : (4 + 2 * start) * (4 + 2 * start) ≤ 4000 := Nat.le_trans (Nat.mul_le_mul (show 4 + 2 * start ≤ 48 by omega) (show 4 + 2 * start ≤ 48 by omega)) (by decide)
    refine ⟨_, rfl, _, rfl, _, rfl, D, r, t, start, period, rows, cols, ps, bs', ss', 0, 0, 4, rfl, gt9, by omega, by omega, hC4.up s49, ra4.up s49, hb, hss, by omega, box4, sqs, by omega, fun H10 b10 e10 hb10 => ?_⟩
    refine ⟨_, _, _, _, true, rfl, .ty "bool", .base (.bl _), kit_ty (by decide +kernel), _, rfl, iteF ?_⟩
    have s410 := s49.trans e10
    refine ⟨_, rfl, _, rfl, _, rfl, D, r, t, start, period, rows, cols, ps, bs', ss', 0, 0, 4, rfl, e10 _ _ gt9, by omega, by omega, hC4.up s410, ra4.up s410, hb, hss, by omega, box4, sqs, by omega, fun H11 b11 e11 hb11 => ?_⟩
    rw [← eG] at hb11
    have eb11 : b11 = due := by rw [Bool.eq_iff_iff, hb11, hdue']
    subst eb11
    refine ⟨_, rfl, rfl, _, rfl, ite2 (fun c => by simp at c) (fun _ => ?_)⟩
    have s411 := s410.trans e11
    have gt11 := e11 _ _ (e10 _ _ gt9)
    have hw11 := hw9.up (e10.trans e11)
    clear hw9 gt9 e10 e11 s49 s410 hb10
    k_upd
    refine ⟨_, rfl, b11, rfl, ?_⟩
    by_cases hd : b11 = true
    · subst hd
      refine iteF ?_
      have hold := hdue'.mp rfl
      have atg : ∀ n rr cc, AtG (genL bs' ss' (memL ps)) start period rows cols n rr cc = G n rr cc := fun n rr cc => by
        rw [eG] at hold ⊢
        exact atG_eq hold n rr cc
      have Gs : ∀ i, stepL bs' ss' (G i) = G (i + 1) := fun i => by rw [eG]; rfl
      have mem0 : ∀ y : Pr, y ∈ ps ↔ G 0 y.1 y.2 = true := fun y => by
        rw [eG]
        exact decide_eq_true_iff.symm
      have size' : ∀ m < start + period, SizeOk (genL bs' ss' (memL ps) m) 4000 := by rw [← eG]; exact size
      refine ⟨_, rfl, ?_⟩
      refine gName_go ?_
      k_upd
      refine ⟨20, rfl, by decide, by decide, for_range (lo := 0) (n := 20) (fun i σ H' => Same H11 H' ∧ ∃ (now : Addr) (qs : List Pr) (m : Nat) (x13 : Option V), σ = [some (.ref a), some (.ref pb), some (.ref pss), some (.ref r), some (.int first), some (.ref D), some (.int x), some (.ref t), some fv, some (.ref ps7), some (.ref ps8), some (.bl true), some (.ref now), x13, none, none, none, none] ∧ Cells H' now qs ∧ qs.Pairwise ltP ∧ (∀ y : Pr, y ∈ qs ↔ G m y.1 y.2 = true) ∧ m ≤ i ∧ (m = i ∨ 80 ≤ qs.length))
        ⟨fun _ _ z => z, D, ps, 0, _, rfl, hC4.up s411, pw, mem0, Nat.le_refl _, .inl rfl⟩ ?_ ?_⟩
      · rintro i σ H12 hi ⟨s12, now, qs, m, x13, rfl, hN, pwq, memq, mi, hm⟩
        refine gName_go ?_
        rw [Int.zero_add]
        k_upd
        obtain ⟨us, hus, _, eus⟩ := id hN
        have lus : (us.map fun t => V.ref t.1).length = qs.length := by rw [← eus, List.length_map, List.length_map]
        have s412 := s411.trans s12
        refine ⟨_, rfl, now, _, rfl, lst_of hus, _, _, rfl, rfl, _, rfl, ite2 (fun c => ?_) (fun c => ?_)⟩
        · have c := of_decide_eq_true c
          rw [lus] at c
          have emi : m = i := by omega
          subst emi
          refine ⟨_, rfl, _, rfl, _, rfl, _, rfl, D, r, t, start, period, m, rows, cols, ps, bs', ss', 0, 0, 4, rfl, s12 _ _ gt11, p1, by omega, ⟨by omega, by omega⟩, ⟨by omega, by omega⟩, hC4.up s412, ra4.up s412, hb, hss, by omega, inb, by decide, size', fun H13 pg gs n13 e13 h13 pw13 mem13 => ?_⟩
          refine ⟨_, rfl, _, _, dp_cells h13, dp_cells (hN.up e13), shaped_cells _, shaped_cells _, _, ne_cells (ascP_eq pw13 pwq fun y => by rw [mem13, atg, memq]), iteF ?_⟩
          refine ⟨_, rfl, now, _, rfl, lst_of (e13 _ _ hus), _, _, rfl, rfl, _, rfl, ite2 (fun c2 => ?_) (fun c2 => ?_)⟩
          · have s413 := s412.trans e13
            refine ⟨_, rfl, _, rfl, _, rfl, now, pb, pss, qs, bs', ss', rfl, hN.up e13, s413 _ _ gb4, s413 _ _ gs4, hb, by omega, fun H14 pn rs n14 e14 h14 pw14 mem14 => ?_⟩
            refine ⟨s12.trans (e13.trans e14), pn, rs, m + 1, _, rfl, h14, pw14, fun y => ?_, Nat.le_refl _, .inl rfl⟩
            rw [mem14, memL_eq memq, Gs]
          · exact absurd (decide_eq_true (by rw [lus]; exact c)) c2
        · have c' : ¬ ((qs.length : Nat) : Int) < 80 := fun z => c (decide_eq_true (by rw [lus]; exact z))
          refine ⟨_, rfl, now, _, rfl, lst_of hus, _, _, rfl, rfl, _, rfl, ite2 (fun c2 => absurd c2 c) (fun c2 => ?_)⟩
          exact ⟨s12, now, qs, m, _, rfl, hN, pwq, memq, by omega, .inr (by omega)⟩
      · rintro σ H12 ⟨s12, now, qs, m, x13, rfl, hN, pwq, memq, mi, hm⟩
        have s412 := s411.trans s12
        have gt12 := s12 _ _ gt11
        have hw12 := hw11.up s12
        clear hN memq mi hm
        refine ⟨_, rfl, a, ns, 4, rfl, s412.seq hS4, _, _, rfl, rfl, (by k_offL), ?_⟩
        dsimp only
        obtain ⟨n, en⟩ := Int.eq_ofNat_of_zero_le (Int.emod_nonneg (cellOf ns 4) (show (1099511627777 : Int) ≠ 0 by decide))
        have ln := Int.emod_lt_of_pos (cellOf ns 4) (show (0 : Int) < 1099511627777 by decide)
        rw [en] at ln ⊢
        refine gName_go ?_
        k_upd
        refine ⟨_, rfl, _, rfl, t, _, _, _, rfl, rfl, tup_of gt12, rfl, _, _, rfl, rfl, _, rfl, ite2 (fun c => ?_) (fun c => ?_)⟩
        · have c := of_decide_eq_true c
          refine ⟨_, rfl, _, rfl, _, rfl, _, rfl, D, r, t, start, period, n, rows, cols, ps, bs', ss', 0, 0, 4, rfl, gt12, p1, by omega, ⟨by omega, by omega⟩, ⟨by omega, by omega⟩, hC4.up s412, ra4.up s412, hb, hss, by omega, inb, by decide, size', fun H13 pg gs n13 e13 h13 pw13 mem13 => ?_⟩
          have s413 := s412.trans e13
          refine ⟨_, rfl, _, rfl, _, rfl, _, rfl, D, pb, pss, n, ps, bs', ss', rfl, by omega, hC4.up s413, pw, s413 _ _ gb4, s413 _ _ gs4, hb, fun m' hm' => by rw [← eG]; exact size9 m' (by omega), fun H14 pl ls e14 h14 pw14 mem14 => ?_⟩
          refine ⟨_, _, dp_cells (h13.up e14), dp_cells h14, shaped_cells _, shaped_cells _, ?_⟩
          rw [eqv_cells, decide_eq_true (ascP_eq pw13 pw14 fun y => by rw [mem13, atg, mem14, eG])]
          exact q _
        · have c : ¬ (n : Int) < (start : Int) := fun z => c (decide_eq_true z)
          have nlt : ¬ n < start := by omega
          refine ⟨_, rfl, _, rfl, t, _, _, _, rfl, rfl, tup_of gt12, rfl, _, _, rfl, rfl, _, rfl, t, _, _, _, rfl, rfl, tup_of gt12, rfl, _, _, rfl, rfl, ⟨by omega, by omega⟩, ?_⟩
          dsimp only
          have ediv : ((n : Int) - (start : Int)) / (period : Int) = (((n - start) / period : Nat) : Int) := by rw [show (n : Int) - (start : Int) = ((n - start : Nat) : Int) by omega, ← Int.natCast_ediv]
          have emod : ((n : Int) - (start : Int)) % (period : Int) = (((n - start) % period : Nat) : Int) := by rw [show (n : Int) - (start : Int) = ((n - start : Nat) : Int) by omega, ← Int.natCast_emod]
          have ml := Nat.mod_lt (n - start) (show 0 < period by omega)
          rw [ediv]
          refine gName_go ?_
          k_upd
          refine ⟨_, rfl, _, rfl, _, rfl, _, rfl, _, rfl, t, _, _, _, rfl, rfl, tup_of gt12, rfl, _, _, rfl, rfl, _, rfl, t, _, _, _, rfl, rfl, tup_of gt12, rfl, _, _, rfl, rfl, (by show (0 : Int) < _; omega), ?_⟩
          dsimp only
          rw [emod]
          refine ⟨ps7, pb, pss, (n - start) % period, ws, bs', ss', rfl, by omega, hw12, pww, s412 _ _ gb4, s412 _ _ gs4, hb, fun m' hm' => by rw [gw]; exact size9 _ (by omega), fun H13 pl ls e13 hl pwl meml => ?_⟩
          rw [gw] at meml
          refine gName_go ?_
          k_upd
          have s413 := s412.trans e13
          have gt13 := e13 _ _ gt12
          refine ⟨_, rfl, _, rfl, _, rfl, _, rfl, D, r, t, start, period, n, rows, cols, ps, bs', ss', 0, 0, 4, rfl, gt13, p1, by omega, ⟨by omega, by omega⟩, ⟨by omega, by omega⟩, hC4.up s413, ra4.up s413, hb, hss, by omega, inb, by decide, size', fun H14 pg gs n14 e14 h14 pw14 mem14 => ?_⟩
          have hl14 := hl.up e14
          have gt14 := e14 _ _ gt13
          have ll : ls.length ≤ 90000 := size9 _ (by omega) ls pwl fun y m' => (meml y).mp m'
          obtain ⟨tm, etm⟩ : ∃ tm, tm = (n - start) / period := ⟨_, rfl⟩
          rw [← etm]
          refine ⟨_, rfl, pl, rfl, ⟨_, lst_of hl14.choose_spec.1⟩, fun D9 nD9 => lc_cells (addP ((tm : Int) * rows) ((tm : Int) * cols)) hl14 nD9 (by rw [sizeLine_eq]; omega) ?_ fun H15 e15 h15 => ?_⟩
          · intro u y H' Po Pn sm hu hq
            have gtx := sm _ _ gt14
            exact ⟨u, _, rfl, tup_of hu, rfl, _, _, rfl, _, _, rfl, rfl, wipe2 _ 16 17 _ _, tyesT ⟨_, rfl, _, rfl, _, rfl, t, _, _, _, rfl, rfl, tup_of gtx, rfl, _, _, rfl, rfl, .inr ⟨by omega, by omega⟩, _, _, rfl, rfl, _, rfl, _, rfl, _, rfl, t, _, _, _, rfl, rfl, tup_of gtx, rfl, _, _, rfl, rfl, .inr ⟨by omega, by omega⟩, _, _, rfl, rfl, (by k_clsL), fun t2 n2 => hq t2 n2⟩⟩
          refine ⟨_, _, dp_cells (h14.up e15), dp_cells h15, shaped_cells _, shaped_cells _, ?_⟩
          have pwl2 : (ls.map (addP ((tm : Int) * rows) ((tm : Int) * cols))).Pairwise ltP := pw_map (fun x y h => by
            have h := ltP_iff.mp h
            refine ltP_iff.mpr ?_
            unfold addP
            dsimp only
            omega) pwl
          rw [eqv_cells, decide_eq_true (ascP_eq pw14 pwl2 fun y => by
            rw [mem14, memA, meml, ← eG]
            unfold AtG
            rw [if_neg nlt, ← etm])]
          exact q _
    · rw [Bool.not_eq_true] at hd
      subst hd
      exact iteT (q _)
end
end My
namespace My
open PySem PySem.Spec PyProof.Rows L2 Vx
theorem all_mk {l : PySem.W.OpenLaw} {w : World} {K : PySem.W.Frag} {h : Heap} {mg : Str → Option Value} {fa : Addr} (X : K.In h) (G : h.Ns mainGlobals mg) (hfa : mg "law" = some (.ref fa))
    {C_Rule : Addr}
    {f_floor_of : Addr} {odfloor_of anfloor_of : Option Addr} {slfloor_of : Array (Option Value)} {ocfloor_of kVfloor_of dcfloor_of pmfloor_of cdfloor_of ctfloor_of : Value}
    {f_cells_of : Addr} {odcells_of ancells_of : Option Addr} {slcells_of : Array (Option Value)} {occells_of kVcells_of dccells_of pmcells_of cdcells_of ctcells_of : Value}
    {f_home_floor : Addr} {odhome_floor anhome_floor : Option Addr} {slhome_floor : Array (Option Value)} {ochome_floor kVhome_floor dchome_floor pmhome_floor cdhome_floor cthome_floor : Value}
    {f_next_floor : Addr} {odnext_floor annext_floor : Option Addr} {slnext_floor : Array (Option Value)} {ocnext_floor kVnext_floor dcnext_floor pmnext_floor cdnext_floor ctnext_floor : Value}
    {f_row_sums : Addr} {odrow_sums anrow_sums : Option Addr} {slrow_sums : Array (Option Value)} {ocrow_sums kVrow_sums dcrow_sums pmrow_sums cdrow_sums ctrow_sums : Value}
    {f_sums_of : Addr} {odsums_of ansums_of : Option Addr} {slsums_of : Array (Option Value)} {ocsums_of kVsums_of dcsums_of pmsums_of cdsums_of ctsums_of : Value}
    {f_with_strips_beside : Addr} {odwith_strips_beside anwith_strips_beside : Option Addr} {slwith_strips_beside : Array (Option Value)} {ocwith_strips_beside kVwith_strips_beside dcwith_strips_beside pmwith_strips_beside cdwith_strips_beside ctwith_strips_beside : Value}
    {f_with_rows_beside : Addr} {odwith_rows_beside anwith_rows_beside : Option Addr} {slwith_rows_beside : Array (Option Value)} {ocwith_rows_beside kVwith_rows_beside dcwith_rows_beside pmwith_rows_beside cdwith_rows_beside ctwith_rows_beside : Value}
    {f_totals_of : Addr} {odtotals_of antotals_of : Option Addr} {sltotals_of : Array (Option Value)} {octotals_of kVtotals_of dctotals_of pmtotals_of cdtotals_of cttotals_of : Value}
    {f_next_strip : Addr} {odnext_strip annext_strip : Option Addr} {slnext_strip : Array (Option Value)} {ocnext_strip kVnext_strip dcnext_strip pmnext_strip cdnext_strip ctnext_strip : Value}
    {f_pattern : Addr} {odpattern anpattern : Option Addr} {slpattern : Array (Option Value)} {ocpattern kVpattern dcpattern pmpattern cdpattern ctpattern : Value}
    {f_moved : Addr} {odmoved anmoved : Option Addr} {slmoved : Array (Option Value)} {ocmoved kVmoved dcmoved pmmoved cdmoved ctmoved : Value}
    {f_grown : Addr} {odgrown angrown : Option Addr} {slgrown : Array (Option Value)} {ocgrown kVgrown dcgrown pmgrown cdgrown ctgrown : Value}
    {f_fate : Addr} {odfate anfate : Option Addr} {slfate : Array (Option Value)} {ocfate kVfate dcfate pmfate cdfate ctfate : Value}
    {f_marked : Addr} {odmarked anmarked : Option Addr} {slmarked : Array (Option Value)} {ocmarked kVmarked dcmarked pmmarked cdmarked ctmarked : Value}
    {f_holds : Addr} {odholds anholds : Option Addr} {slholds : Array (Option Value)} {ocholds kVholds dcholds pmholds cdholds ctholds : Value}
    {f_at_generation : Addr} {odat_generation anat_generation : Option Addr} {slat_generation : Array (Option Value)} {ocat_generation kVat_generation dcat_generation pmat_generation cdat_generation ctat_generation : Value}
    {f_Rule_init : Addr} {odRule_init anRule_init : Option Addr} {slRule_init : Array (Option Value)} {ocRule_init kVRule_init dcRule_init pmRule_init cdRule_init ctRule_init : Value}
    {f_law_cell : Addr} {odlaw_cell anlaw_cell : Option Addr} {sllaw_cell : Array (Option Value)} {oclaw_cell kVlaw_cell dclaw_cell pmlaw_cell cdlaw_cell ctlaw_cell : Value}
    {f_law_row : Addr} {odlaw_row anlaw_row : Option Addr} {sllaw_row : Array (Option Value)} {oclaw_row kVlaw_row dclaw_row pmlaw_row cdlaw_row ctlaw_row : Value}
    {f_law_numbers : Addr} {odlaw_numbers anlaw_numbers : Option Addr} {sllaw_numbers : Array (Option Value)} {oclaw_numbers kVlaw_numbers dclaw_numbers pmlaw_numbers cdlaw_numbers ctlaw_numbers : Value}
    {f_law_some : Addr} {odlaw_some anlaw_some : Option Addr} {sllaw_some : Array (Option Value)} {oclaw_some kVlaw_some dclaw_some pmlaw_some cdlaw_some ctlaw_some : Value}
    {f_law_next : Addr} {odlaw_next anlaw_next : Option Addr} {sllaw_next : Array (Option Value)} {oclaw_next kVlaw_next dclaw_next pmlaw_next cdlaw_next ctlaw_next : Value}
    {f_law_grown : Addr} {odlaw_grown anlaw_grown : Option Addr} {sllaw_grown : Array (Option Value)} {oclaw_grown kVlaw_grown dclaw_grown pmlaw_grown cdlaw_grown ctlaw_grown : Value}
    {f_law : Addr} {odlaw anlaw : Option Addr} {sllaw : Array (Option Value)} {oclaw kVlaw dclaw pmlaw cdlaw ctlaw : Value}
    {uWIDTH : Tok}
    {uPRIME : Tok}
    {uFACTOR : Tok}
    (aCRule : PySem.W.nsIn K mainGlobals "Rule" = some (some (.ref C_Rule)))
    (pgRule : PySem.W.plainGet K C_Rule Str.empty = true)
    (hdRule : PySem.W.hasDictIn K C_Rule = true)
    (poRule : PySem.W.plainOver K C_Rule = true)
    (saRule : PySem.W.findIn K (.ref C_Rule) "__setattr__" = some (some (.builtin "object.__setattr__")))
    (mkRule : PySem.W.makesIn K C_Rule = true)
    (kcRule : PySem.W.keepIn K (.ref C_Rule) = true)
    (nRulebirths : PySem.W.findIn K (.ref C_Rule) "births" = some none)
    (nRulesurvival : PySem.W.findIn K (.ref C_Rule) "survival" = some none)
    (afloor_of : PySem.W.nsIn K mainGlobals "floor_of" = some (some (.ref f_floor_of)))
    (lfloor_of : K.lookup f_floor_of = some ⟨ocfloor_of, odfloor_of, .func (PySem.W.fnOf "floor_of" "floor_of" (defArgs s_floor_of) (defBody s_floor_of) (defScope s_floor_of) .none kVfloor_of dcfloor_of pmfloor_of anfloor_of cdfloor_of ctfloor_of), slfloor_of⟩)
    (cfloor_of : PySem.W.codeIn K cdfloor_of "floor_of" = true)
    (kfloor_of : PySem.W.keepIn K (.ref f_floor_of) = true)
    (acells_of : PySem.W.nsIn K mainGlobals "cells_of" = some (some (.ref f_cells_of)))
    (lcells_of : K.lookup f_cells_of = some ⟨occells_of, odcells_of, .func (PySem.W.fnOf "cells_of" "cells_of" (defArgs s_cells_of) (defBody s_cells_of) (defScope s_cells_of) .none kVcells_of dccells_of pmcells_of ancells_of cdcells_of ctcells_of), slcells_of⟩)
    (ccells_of : PySem.W.codeIn K cdcells_of "cells_of" = true)
    (kcells_of : PySem.W.keepIn K (.ref f_cells_of) = true)
    (ahome_floor : PySem.W.nsIn K mainGlobals "home_floor" = some (some (.ref f_home_floor)))
    (lhome_floor : K.lookup f_home_floor = some ⟨ochome_floor, odhome_floor, .func (PySem.W.fnOf "home_floor" "home_floor" (defArgs s_home_floor) (defBody s_home_floor) (defScope s_home_floor) .none kVhome_floor dchome_floor pmhome_floor anhome_floor cdhome_floor cthome_floor), slhome_floor⟩)
    (chome_floor : PySem.W.codeIn K cdhome_floor "home_floor" = true)
    (khome_floor : PySem.W.keepIn K (.ref f_home_floor) = true)
    (anext_floor : PySem.W.nsIn K mainGlobals "next_floor" = some (some (.ref f_next_floor)))
    (lnext_floor : K.lookup f_next_floor = some ⟨ocnext_floor, odnext_floor, .func (PySem.W.fnOf "next_floor" "next_floor" (defArgs s_next_floor) (defBody s_next_floor) (defScope s_next_floor) .none kVnext_floor dcnext_floor pmnext_floor annext_floor cdnext_floor ctnext_floor), slnext_floor⟩)
    (cnext_floor : PySem.W.codeIn K cdnext_floor "next_floor" = true)
    (knext_floor : PySem.W.keepIn K (.ref f_next_floor) = true)
    (arow_sums : PySem.W.nsIn K mainGlobals "_row_sums" = some (some (.ref f_row_sums)))
    (lrow_sums : K.lookup f_row_sums = some ⟨ocrow_sums, odrow_sums, .func (PySem.W.fnOf "_row_sums" "_row_sums" (defArgs s_row_sums) (defBody s_row_sums) (defScope s_row_sums) .none kVrow_sums dcrow_sums pmrow_sums anrow_sums cdrow_sums ctrow_sums), slrow_sums⟩)
    (crow_sums : PySem.W.codeIn K cdrow_sums "_row_sums" = true)
    (krow_sums : PySem.W.keepIn K (.ref f_row_sums) = true)
    (asums_of : PySem.W.nsIn K mainGlobals "sums_of" = some (some (.ref f_sums_of)))
    (lsums_of : K.lookup f_sums_of = some ⟨ocsums_of, odsums_of, .func (PySem.W.fnOf "sums_of" "sums_of" (defArgs s_sums_of) (defBody s_sums_of) (defScope s_sums_of) .none kVsums_of dcsums_of pmsums_of ansums_of cdsums_of ctsums_of), slsums_of⟩)
    (csums_of : PySem.W.codeIn K cdsums_of "sums_of" = true)
    (ksums_of : PySem.W.keepIn K (.ref f_sums_of) = true)
    (awith_strips_beside : PySem.W.nsIn K mainGlobals "_with_strips_beside" = some (some (.ref f_with_strips_beside)))
    (lwith_strips_beside : K.lookup f_with_strips_beside = some ⟨ocwith_strips_beside, odwith_strips_beside, .func (PySem.W.fnOf "_with_strips_beside" "_with_strips_beside" (defArgs s_with_strips_beside) (defBody s_with_strips_beside) (defScope s_with_strips_beside) .none kVwith_strips_beside dcwith_strips_beside pmwith_strips_beside anwith_strips_beside cdwith_strips_beside ctwith_strips_beside), slwith_strips_beside⟩)
    (cwith_strips_beside : PySem.W.codeIn K cdwith_strips_beside "_with_strips_beside" = true)
    (kwith_strips_beside : PySem.W.keepIn K (.ref f_with_strips_beside) = true)
    (awith_rows_beside : PySem.W.nsIn K mainGlobals "_with_rows_beside" = some (some (.ref f_with_rows_beside)))
    (lwith_rows_beside : K.lookup f_with_rows_beside = some ⟨ocwith_rows_beside, odwith_rows_beside, .func (PySem.W.fnOf "_with_rows_beside" "_with_rows_beside" (defArgs s_with_rows_beside) (defBody s_with_rows_beside) (defScope s_with_rows_beside) .none kVwith_rows_beside dcwith_rows_beside pmwith_rows_beside anwith_rows_beside cdwith_rows_beside ctwith_rows_beside), slwith_rows_beside⟩)
    (cwith_rows_beside : PySem.W.codeIn K cdwith_rows_beside "_with_rows_beside" = true)
    (kwith_rows_beside : PySem.W.keepIn K (.ref f_with_rows_beside) = true)
    (atotals_of : PySem.W.nsIn K mainGlobals "totals_of" = some (some (.ref f_totals_of)))
    (ltotals_of : K.lookup f_totals_of = some ⟨octotals_of, odtotals_of, .func (PySem.W.fnOf "totals_of" "totals_of" (defArgs s_totals_of) (defBody s_totals_of) (defScope s_totals_of) .none kVtotals_of dctotals_of pmtotals_of antotals_of cdtotals_of cttotals_of), sltotals_of⟩)
    (ctotals_of : PySem.W.codeIn K cdtotals_of "totals_of" = true)
    (ktotals_of : PySem.W.keepIn K (.ref f_totals_of) = true)
    (anext_strip : PySem.W.nsIn K mainGlobals "next_strip" = some (some (.ref f_next_strip)))
    (lnext_strip : K.lookup f_next_strip = some ⟨ocnext_strip, odnext_strip, .func (PySem.W.fnOf "next_strip" "next_strip" (defArgs s_next_strip) (defBody s_next_strip) (defScope s_next_strip) .none kVnext_strip dcnext_strip pmnext_strip annext_strip cdnext_strip ctnext_strip), slnext_strip⟩)
    (cnext_strip : PySem.W.codeIn K cdnext_strip "next_strip" = true)
    (knext_strip : PySem.W.keepIn K (.ref f_next_strip) = true)
    (apattern : PySem.W.nsIn K mainGlobals "pattern" = some (some (.ref f_pattern)))
    (lpattern : K.lookup f_pattern = some ⟨ocpattern, odpattern, .func (PySem.W.fnOf "pattern" "pattern" (defArgs s_pattern) (defBody s_pattern) (defScope s_pattern) .none kVpattern dcpattern pmpattern anpattern cdpattern ctpattern), slpattern⟩)
    (cpattern : PySem.W.codeIn K cdpattern "pattern" = true)
    (kpattern : PySem.W.keepIn K (.ref f_pattern) = true)
    (amoved : PySem.W.nsIn K mainGlobals "moved" = some (some (.ref f_moved)))
    (lmoved : K.lookup f_moved = some ⟨ocmoved, odmoved, .func (PySem.W.fnOf "moved" "moved" (defArgs s_moved) (defBody s_moved) (defScope s_moved) .none kVmoved dcmoved pmmoved anmoved cdmoved ctmoved), slmoved⟩)
    (cmoved : PySem.W.codeIn K cdmoved "moved" = true)
    (kmoved : PySem.W.keepIn K (.ref f_moved) = true)
    (agrown : PySem.W.nsIn K mainGlobals "grown" = some (some (.ref f_grown)))
    (lgrown : K.lookup f_grown = some ⟨ocgrown, odgrown, .func (PySem.W.fnOf "grown" "grown" (defArgs s_grown) (defBody s_grown) (defScope s_grown) .none kVgrown dcgrown pmgrown angrown cdgrown ctgrown), slgrown⟩)
    (cgrown : PySem.W.codeIn K cdgrown "grown" = true)
    (kgrown : PySem.W.keepIn K (.ref f_grown) = true)
    (afate : PySem.W.nsIn K mainGlobals "fate" = some (some (.ref f_fate)))
    (lfate : K.lookup f_fate = some ⟨ocfate, odfate, .func (PySem.W.fnOf "fate" "fate" (defArgs s_fate) (defBody s_fate) (defScope s_fate) .none kVfate dcfate pmfate anfate cdfate ctfate), slfate⟩)
    (cfate : PySem.W.codeIn K cdfate "fate" = true)
    (kfate : PySem.W.keepIn K (.ref f_fate) = true)
    (amarked : PySem.W.nsIn K mainGlobals "_marked" = some (some (.ref f_marked)))
    (lmarked : K.lookup f_marked = some ⟨ocmarked, odmarked, .func (PySem.W.fnOf "_marked" "_marked" (defArgs s_marked) (defBody s_marked) (defScope s_marked) .none kVmarked dcmarked pmmarked anmarked cdmarked ctmarked), slmarked⟩)
    (cmarked : PySem.W.codeIn K cdmarked "_marked" = true)
    (kmarked : PySem.W.keepIn K (.ref f_marked) = true)
    (aholds : PySem.W.nsIn K mainGlobals "holds" = some (some (.ref f_holds)))
    (lholds : K.lookup f_holds = some ⟨ocholds, odholds, .func (PySem.W.fnOf "holds" "holds" (defArgs s_holds) (defBody s_holds) (defScope s_holds) .none kVholds dcholds pmholds anholds cdholds ctholds), slholds⟩)
    (cholds : PySem.W.codeIn K cdholds "holds" = true)
    (kholds : PySem.W.keepIn K (.ref f_holds) = true)
    (aat_generation : PySem.W.nsIn K mainGlobals "at_generation" = some (some (.ref f_at_generation)))
    (lat_generation : K.lookup f_at_generation = some ⟨ocat_generation, odat_generation, .func (PySem.W.fnOf "at_generation" "at_generation" (defArgs s_at_generation) (defBody s_at_generation) (defScope s_at_generation) .none kVat_generation dcat_generation pmat_generation anat_generation cdat_generation ctat_generation), slat_generation⟩)
    (cat_generation : PySem.W.codeIn K cdat_generation "at_generation" = true)
    (kat_generation : PySem.W.keepIn K (.ref f_at_generation) = true)
    (aRule_init : PySem.W.findIn K (.ref C_Rule) "__init__" = some (some (.ref f_Rule_init)))
    (iRule_init : PySem.W.isFn K (.ref f_Rule_init) = true)
    (lRule_init : K.lookup f_Rule_init = some ⟨ocRule_init, odRule_init, .func (PySem.W.fnOf "__init__" "Rule.__init__" (defArgs s_Rule_init) (defBody s_Rule_init) (defScope s_Rule_init) .none kVRule_init dcRule_init pmRule_init anRule_init cdRule_init ctRule_init), slRule_init⟩)
    (cRule_init : PySem.W.codeIn K cdRule_init "Rule.__init__" = true)
    (kRule_init : PySem.W.keepIn K (.ref f_Rule_init) = true)
    (alaw_cell : PySem.W.nsIn K mainGlobals "_law_cell" = some (some (.ref f_law_cell)))
    (llaw_cell : K.lookup f_law_cell = some ⟨oclaw_cell, odlaw_cell, .func (PySem.W.fnOf "_law_cell" "_law_cell" (defArgs s_law_cell) (defBody s_law_cell) (defScope s_law_cell) .none kVlaw_cell dclaw_cell pmlaw_cell anlaw_cell cdlaw_cell ctlaw_cell), sllaw_cell⟩)
    (claw_cell : PySem.W.codeIn K cdlaw_cell "_law_cell" = true)
    (klaw_cell : PySem.W.keepIn K (.ref f_law_cell) = true)
    (alaw_row : PySem.W.nsIn K mainGlobals "_law_row" = some (some (.ref f_law_row)))
    (llaw_row : K.lookup f_law_row = some ⟨oclaw_row, odlaw_row, .func (PySem.W.fnOf "_law_row" "_law_row" (defArgs s_law_row) (defBody s_law_row) (defScope s_law_row) .none kVlaw_row dclaw_row pmlaw_row anlaw_row cdlaw_row ctlaw_row), sllaw_row⟩)
    (claw_row : PySem.W.codeIn K cdlaw_row "_law_row" = true)
    (klaw_row : PySem.W.keepIn K (.ref f_law_row) = true)
    (alaw_numbers : PySem.W.nsIn K mainGlobals "_law_numbers" = some (some (.ref f_law_numbers)))
    (llaw_numbers : K.lookup f_law_numbers = some ⟨oclaw_numbers, odlaw_numbers, .func (PySem.W.fnOf "_law_numbers" "_law_numbers" (defArgs s_law_numbers) (defBody s_law_numbers) (defScope s_law_numbers) .none kVlaw_numbers dclaw_numbers pmlaw_numbers anlaw_numbers cdlaw_numbers ctlaw_numbers), sllaw_numbers⟩)
    (claw_numbers : PySem.W.codeIn K cdlaw_numbers "_law_numbers" = true)
    (klaw_numbers : PySem.W.keepIn K (.ref f_law_numbers) = true)
    (alaw_some : PySem.W.nsIn K mainGlobals "_law_some" = some (some (.ref f_law_some)))
    (llaw_some : K.lookup f_law_some = some ⟨oclaw_some, odlaw_some, .func (PySem.W.fnOf "_law_some" "_law_some" (defArgs s_law_some) (defBody s_law_some) (defScope s_law_some) .none kVlaw_some dclaw_some pmlaw_some anlaw_some cdlaw_some ctlaw_some), sllaw_some⟩)
    (claw_some : PySem.W.codeIn K cdlaw_some "_law_some" = true)
    (klaw_some : PySem.W.keepIn K (.ref f_law_some) = true)
    (alaw_next : PySem.W.nsIn K mainGlobals "_law_next" = some (some (.ref f_law_next)))
    (llaw_next : K.lookup f_law_next = some ⟨oclaw_next, odlaw_next, .func (PySem.W.fnOf "_law_next" "_law_next" (defArgs s_law_next) (defBody s_law_next) (defScope s_law_next) .none kVlaw_next dclaw_next pmlaw_next anlaw_next cdlaw_next ctlaw_next), sllaw_next⟩)
    (claw_next : PySem.W.codeIn K cdlaw_next "_law_next" = true)
    (klaw_next : PySem.W.keepIn K (.ref f_law_next) = true)
    (alaw_grown : PySem.W.nsIn K mainGlobals "_law_grown" = some (some (.ref f_law_grown)))
    (llaw_grown : K.lookup f_law_grown = some ⟨oclaw_grown, odlaw_grown, .func (PySem.W.fnOf "_law_grown" "_law_grown" (defArgs s_law_grown) (defBody s_law_grown) (defScope s_law_grown) .none kVlaw_grown dclaw_grown pmlaw_grown anlaw_grown cdlaw_grown ctlaw_grown), sllaw_grown⟩)
    (claw_grown : PySem.W.codeIn K cdlaw_grown "_law_grown" = true)
    (klaw_grown : PySem.W.keepIn K (.ref f_law_grown) = true)
    (alaw : PySem.W.nsIn K mainGlobals "law" = some (some (.ref f_law)))
    (llaw : K.lookup f_law = some ⟨oclaw, odlaw, .func (PySem.W.fnOf "law" "law" (defArgs s_law) (defBody s_law) (defScope s_law) .none kVlaw dclaw pmlaw anlaw cdlaw ctlaw), sllaw⟩)
    (claw : PySem.W.codeIn K cdlaw "law" = true)
    (klaw : PySem.W.keepIn K (.ref f_law) = true)
    (zdivmod : PySem.W.nsIn K mainGlobals "divmod" = some none)
    (zsorted : PySem.W.nsIn K mainGlobals "sorted" = some none)
    (zmin : PySem.W.nsIn K mainGlobals "min" = some none)
    (zlist : PySem.W.nsIn K mainGlobals "list" = some none)
    (zset : PySem.W.nsIn K mainGlobals "set" = some none)
    (zrange : PySem.W.nsIn K mainGlobals "range" = some none)
    (ztuple : PySem.W.nsIn K mainGlobals "tuple" = some none)
    (zlen : PySem.W.nsIn K mainGlobals "len" = some none)
    (zint : PySem.W.nsIn K mainGlobals "int" = some none)
    (zabs : PySem.W.nsIn K mainGlobals "abs" = some none)
    (zisinstance : PySem.W.nsIn K mainGlobals "isinstance" = some none)
    (zbool : PySem.W.nsIn K mainGlobals "bool" = some none)
    (zmax : PySem.W.nsIn K mainGlobals "max" = some none)
    (xWIDTH : PySem.W.nsIn K mainGlobals "WIDTH" = some (some (.int (2048) uWIDTH)))
    (xPRIME : PySem.W.nsIn K mainGlobals "PRIME" = some (some (.int (170141183460469231731687303715884105727) uPRIME)))
    (xFACTOR : PySem.W.nsIn K mainGlobals "FACTOR" = some (some (.int (298173405613920847650129384756192837465) uFACTOR))) :
    ∃ fd : FuncData, (∀ (s : Shared) (v : Value), BindsTo s fd ⟨[v], []⟩ [("script", v)]) ∧ ∀ base : Heap, K.In base → base.Ns mainGlobals mg → FnOk l.prog w K mg base CX0 12 fa fd ["script"] (sp_law K) := by
  have e := hfa.symm.trans (PySem.W.mg_of X G alaw)
  cases e
  have F_floor_of := fun_mk (st := s_floor_of) lfloor_of cfloor_of kfloor_of
  have b_floor_of := F_floor_of.binds (ps := ["cells", "first"]) fun _ _ _ _ _ _ us hl => match us, hl with | [_, _], _ => rfl
  have F_cells_of := fun_mk (st := s_cells_of) lcells_of ccells_of kcells_of
  have b_cells_of := F_cells_of.binds (ps := ["floor", "first"]) fun _ _ _ _ _ _ us hl => match us, hl with | [_, _], _ => rfl
  have F_home_floor := fun_mk (st := s_home_floor) lhome_floor chome_floor khome_floor
  have b_home_floor := F_home_floor.binds (ps := ["floor"]) fun _ _ _ _ _ _ us hl => match us, hl with | [_], _ => rfl
  have F_next_floor := fun_mk (st := s_next_floor) lnext_floor cnext_floor knext_floor
  have b_next_floor := F_next_floor.binds (ps := ["floor", "rule"]) fun _ _ _ _ _ _ us hl => match us, hl with | [_, _], _ => rfl
  have F_row_sums := fun_mk (st := s_row_sums) lrow_sums crow_sums krow_sums
  have b_row_sums := F_row_sums.binds (ps := ["floor"]) fun _ _ _ _ _ _ us hl => match us, hl with | [_], _ => rfl
  have F_sums_of := fun_mk (st := s_sums_of) lsums_of csums_of ksums_of
  have b_sums_of := F_sums_of.binds (ps := ["left", "alive", "right"]) fun _ _ _ _ _ _ us hl => match us, hl with | [_, _, _], _ => rfl
  have F_with_strips_beside := fun_mk (st := s_with_strips_beside) lwith_strips_beside cwith_strips_beside kwith_strips_beside
  have b_with_strips_beside := F_with_strips_beside.binds (ps := ["floor"]) fun _ _ _ _ _ _ us hl => match us, hl with | [_], _ => rfl
  have F_with_rows_beside := fun_mk (st := s_with_rows_beside) lwith_rows_beside cwith_rows_beside kwith_rows_beside
  have b_with_rows_beside := F_with_rows_beside.binds (ps := ["sums"]) fun _ _ _ _ _ _ us hl => match us, hl with | [_], _ => rfl
  have F_totals_of := fun_mk (st := s_totals_of) ltotals_of ctotals_of ktotals_of
  have b_totals_of := F_totals_of.binds (ps := ["above", "here", "below"]) fun _ _ _ _ _ _ us hl => match us, hl with | [_, _, _], _ => rfl
  have F_next_strip := fun_mk (st := s_next_strip) lnext_strip cnext_strip knext_strip
  have b_next_strip := F_next_strip.binds (ps := ["alive", "totals", "rule"]) fun _ _ _ _ _ _ us hl => match us, hl with | [_, _, _], _ => rfl
  have F_pattern := fun_mk (st := s_pattern) lpattern cpattern kpattern
  have b_pattern := F_pattern.binds (ps := ["cells"]) fun _ _ _ _ _ _ us hl => match us, hl with | [_], _ => rfl
  have F_moved := fun_mk (st := s_moved) lmoved cmoved kmoved
  have b_moved := F_moved.binds (ps := ["cells", "rows", "columns"]) fun _ _ _ _ _ _ us hl => match us, hl with | [_, _, _], _ => rfl
  have F_grown := fun_mk (st := s_grown) lgrown cgrown kgrown
  have b_grown := F_grown.binds (ps := ["cells", "rule", "generations"]) fun _ _ _ _ _ _ us hl => match us, hl with | [_, _, _], _ => rfl
  have F_fate := fun_mk (st := s_fate) lfate cfate kfate
  have b_fate := F_fate.binds (ps := ["cells", "rule", "bound"]) fun _ _ _ _ _ _ us hl => match us, hl with | [_, _, _], _ => rfl
  have F_marked := fun_mk (st := s_marked) lmarked cmarked kmarked
  have b_marked := F_marked.binds (ps := ["floor"]) fun _ _ _ _ _ _ us hl => match us, hl with | [_], _ => rfl
  have F_holds := fun_mk (st := s_holds) lholds cholds kholds
  have b_holds := F_holds.binds (ps := ["cells", "rule", "told"]) fun _ _ _ _ _ _ us hl => match us, hl with | [_, _, _], _ => rfl
  have F_at_generation := fun_mk (st := s_at_generation) lat_generation cat_generation kat_generation
  have b_at_generation := F_at_generation.binds (ps := ["cells", "rule", "told", "generation"]) fun _ _ _ _ _ _ us hl => match us, hl with | [_, _, _, _], _ => rfl
  have F_Rule_init := fun_mk (st := s_Rule_init) lRule_init cRule_init kRule_init
  have b_Rule_init := F_Rule_init.binds (ps := ["self", "births", "survival"]) fun _ _ _ _ _ _ us hl => match us, hl with | [_, _, _], _ => rfl
  have F_law_cell := fun_mk (st := s_law_cell) llaw_cell claw_cell klaw_cell
  have b_law_cell := F_law_cell.binds (ps := ["script", "k"]) fun _ _ _ _ _ _ us hl => match us, hl with | [_, _], _ => rfl
  have F_law_row := fun_mk (st := s_law_row) llaw_row claw_row klaw_row
  have b_law_row := F_law_row.binds (ps := ["cell", "count", "bound"]) fun _ _ _ _ _ _ us hl => match us, hl with | [_, _, _], _ => rfl
  have F_law_numbers := fun_mk (st := s_law_numbers) llaw_numbers claw_numbers klaw_numbers
  have b_law_numbers := F_law_numbers.binds (ps := ["cell"]) fun _ _ _ _ _ _ us hl => match us, hl with | [_], _ => rfl
  have F_law_some := fun_mk (st := s_law_some) llaw_some claw_some klaw_some
  have b_law_some := F_law_some.binds (ps := ["cell", "count", "height", "width"]) fun _ _ _ _ _ _ us hl => match us, hl with | [_, _, _, _], _ => rfl
  have F_law_next := fun_mk (st := s_law_next) llaw_next claw_next klaw_next
  have b_law_next := F_law_next.binds (ps := ["cells", "births", "survival"]) fun _ _ _ _ _ _ us hl => match us, hl with | [_, _, _], _ => rfl
  have F_law_grown := fun_mk (st := s_law_grown) llaw_grown claw_grown klaw_grown
  have b_law_grown := F_law_grown.binds (ps := ["cells", "births", "survival", "count"]) fun _ _ _ _ _ _ us hl => match us, hl with | [_, _, _, _], _ => rfl
  have F_law := fun_mk (st := s_law) llaw claw klaw
  have b_law := F_law.binds (ps := ["script"]) fun _ _ _ _ _ _ us hl => match us, hl with | [_], _ => rfl
  let T : Txt K mg := {
    C_Rule := C_Rule,
    g_Rule := PySem.W.mg_of X G aCRule,
    cl_Rule := ⟨pgRule, hdRule, poRule, saRule⟩,
    na_Rule_births := nRulebirths,
    na_Rule_survival := nRulesurvival,
    f_floor_of := f_floor_of,
    d_floor_of := _,
    F_floor_of := F_floor_of,
    b_floor_of := b_floor_of,
    g_floor_of := PySem.W.mg_of X G afloor_of,
    f_cells_of := f_cells_of,
    d_cells_of := _,
    F_cells_of := F_cells_of,
    b_cells_of := b_cells_of,
    g_cells_of := PySem.W.mg_of X G acells_of,
    f_home_floor := f_home_floor,
    d_home_floor := _,
    F_home_floor := F_home_floor,
    b_home_floor := b_home_floor,
    g_home_floor := PySem.W.mg_of X G ahome_floor,
    f_next_floor := f_next_floor,
    d_next_floor := _,
    F_next_floor := F_next_floor,
    b_next_floor := b_next_floor,
    g_next_floor := PySem.W.mg_of X G anext_floor,
    f_row_sums := f_row_sums,
    d_row_sums := _,
    F_row_sums := F_row_sums,
    b_row_sums := b_row_sums,
    g_row_sums := PySem.W.mg_of X G arow_sums,
    f_sums_of := f_sums_of,
    d_sums_of := _,
    F_sums_of := F_sums_of,
    b_sums_of := b_sums_of,
    g_sums_of := PySem.W.mg_of X G asums_of,
    f_with_strips_beside := f_with_strips_beside,
    d_with_strips_beside := _,
    F_with_strips_beside := F_with_strips_beside,
    b_with_strips_beside := b_with_strips_beside,
    g_with_strips_beside := PySem.W.mg_of X G awith_strips_beside,
    f_with_rows_beside := f_with_rows_beside,
    d_with_rows_beside := _,
    F_with_rows_beside := F_with_rows_beside,
    b_with_rows_beside := b_with_rows_beside,
    g_with_rows_beside := PySem.W.mg_of X G awith_rows_beside,
    f_totals_of := f_totals_of,
    d_totals_of := _,
    F_totals_of := F_totals_of,
    b_totals_of := b_totals_of,
    g_totals_of := PySem.W.mg_of X G atotals_of,
    f_next_strip := f_next_strip,
    d_next_strip := _,
    F_next_strip := F_next_strip,
    b_next_strip := b_next_strip,
    g_next_strip := PySem.W.mg_of X G anext_strip,
    f_pattern := f_pattern,
    d_pattern := _,
    F_pattern := F_pattern,
    b_pattern := b_pattern,
    g_pattern := PySem.W.mg_of X G apattern,
    f_moved := f_moved,
    d_moved := _,
    F_moved := F_moved,
    b_moved := b_moved,
    g_moved := PySem.W.mg_of X G amoved,
    f_grown := f_grown,
    d_grown := _,
    F_grown := F_grown,
    b_grown := b_grown,
    g_grown := PySem.W.mg_of X G agrown,
    f_fate := f_fate,
    d_fate := _,
    F_fate := F_fate,
    b_fate := b_fate,
    g_fate := PySem.W.mg_of X G afate,
    f_marked := f_marked,
    d_marked := _,
    F_marked := F_marked,
    b_marked := b_marked,
    g_marked := PySem.W.mg_of X G amarked,
    f_holds := f_holds,
    d_holds := _,
    F_holds := F_holds,
    b_holds := b_holds,
    g_holds := PySem.W.mg_of X G aholds,
    f_at_generation := f_at_generation,
    d_at_generation := _,
    F_at_generation := F_at_generation,
    b_at_generation := b_at_generation,
    g_at_generation := PySem.W.mg_of X G aat_generation,
    f_Rule_init := f_Rule_init,
    d_Rule_init := _,
    F_Rule_init := F_Rule_init,
    b_Rule_init := b_Rule_init,
    M_Rule := ⟨mkRule, aRule_init, iRule_init, kcRule⟩,
    f_law_cell := f_law_cell,
    d_law_cell := _,
    F_law_cell := F_law_cell,
    b_law_cell := b_law_cell,
    g_law_cell := PySem.W.mg_of X G alaw_cell,
    f_law_row := f_law_row,
    d_law_row := _,
    F_law_row := F_law_row,
    b_law_row := b_law_row,
    g_law_row := PySem.W.mg_of X G alaw_row,
    f_law_numbers := f_law_numbers,
    d_law_numbers := _,
    F_law_numbers := F_law_numbers,
    b_law_numbers := b_law_numbers,
    g_law_numbers := PySem.W.mg_of X G alaw_numbers,
    f_law_some := f_law_some,
    d_law_some := _,
    F_law_some := F_law_some,
    b_law_some := b_law_some,
    g_law_some := PySem.W.mg_of X G alaw_some,
    f_law_next := f_law_next,
    d_law_next := _,
    F_law_next := F_law_next,
    b_law_next := b_law_next,
    g_law_next := PySem.W.mg_of X G alaw_next,
    f_law_grown := f_law_grown,
    d_law_grown := _,
    F_law_grown := F_law_grown,
    b_law_grown := b_law_grown,
    g_law_grown := PySem.W.mg_of X G alaw_grown,
    f_law := fa,
    d_law := _,
    F_law := F_law,
    b_law := b_law,
    g_law := PySem.W.mg_of X G alaw,
    z_divmod := PySem.W.mg_none_of X G zdivmod,
    z_sorted := PySem.W.mg_none_of X G zsorted,
    z_min := PySem.W.mg_none_of X G zmin,
    z_list := PySem.W.mg_none_of X G zlist,
    z_set := PySem.W.mg_none_of X G zset,
    z_range := PySem.W.mg_none_of X G zrange,
    z_tuple := PySem.W.mg_none_of X G ztuple,
    z_len := PySem.W.mg_none_of X G zlen,
    z_int := PySem.W.mg_none_of X G zint,
    z_abs := PySem.W.mg_none_of X G zabs,
    z_isinstance := PySem.W.mg_none_of X G zisinstance,
    z_bool := PySem.W.mg_none_of X G zbool,
    z_max := PySem.W.mg_none_of X G zmax,
    c_WIDTH := ⟨_, PySem.W.mg_of X G xWIDTH, ⟨_, rfl⟩⟩,
    c_PRIME := ⟨_, PySem.W.mg_of X G xPRIME, ⟨_, rfl⟩⟩,
    c_FACTOR := ⟨_, PySem.W.mg_of X G xFACTOR, ⟨_, rfl⟩⟩ }
  exact ⟨_, fun s v => .of_eq rfl, fun base _ _ => ok_law T⟩
end My
open PySem PySem.W PyProof.Rows
set_option maxHeartbeats 0 in
theorem PySem.Challenge.cw_longlife_k17_told_fates_holds : PySem.Challenge.rw_longlife_k17_told_fates.Holds := by
  w_on; o_law; k_head; (case hw => w_witness2)
  k_fill
  refine L2.walk_of (l := PySem.Challenge.rw_longlife_k17_told_fates) (n := 63) (k := 12) (x := "script") (CX := fun _ => L2.CX0) (sp := fun w => My.sp_law _) rfl (by decide) rfl ⟨rfl, by decide, by decide⟩ (fun w h Y => PySem.W.kIn_of Y) ?F (fun _ _ a ns hl _ hS => ⟨a, ns, rfl, hS, hl, fun _ => rfl⟩) (fun _ _ _ _ _ h => h)
  case F =>
    intro w mg fa h KX G hmg
    refine' My.all_mk KX G hmg ?aCRule ?pgRule ?hdRule ?poRule ?saRule ?mkRule ?kcRule ?nRulebirths ?nRulesurvival ?afloor_of ?lfloor_of ?cfloor_of ?kfloor_of ?acells_of ?lcells_of ?ccells_of ?kcells_of ?ahome_floor ?lhome_floor ?chome_floor ?khome_floor ?anext_floor ?lnext_floor ?cnext_floor ?knext_floor ?arow_sums ?lrow_sums ?crow_sums ?krow_sums ?asums_of ?lsums_of ?csums_of ?ksums_of ?awith_strips_beside ?lwith_strips_beside ?cwith_strips_beside ?kwith_strips_beside ?awith_rows_beside ?lwith_rows_beside ?cwith_rows_beside ?kwith_rows_beside ?atotals_of ?ltotals_of ?ctotals_of ?ktotals_of ?anext_strip ?lnext_strip ?cnext_strip ?knext_strip ?apattern ?lpattern ?cpattern ?kpattern ?amoved ?lmoved ?cmoved ?kmoved ?agrown ?lgrown ?cgrown ?kgrown ?afate ?lfate ?cfate ?kfate ?amarked ?lmarked ?cmarked ?kmarked ?aholds ?lholds ?cholds ?kholds ?aat_generation ?lat_generation ?cat_generation ?kat_generation ?aRule_init ?iRule_init ?lRule_init ?cRule_init ?kRule_init ?alaw_cell ?llaw_cell ?claw_cell ?klaw_cell ?alaw_row ?llaw_row ?claw_row ?klaw_row ?alaw_numbers ?llaw_numbers ?claw_numbers ?klaw_numbers ?alaw_some ?llaw_some ?claw_some ?klaw_some ?alaw_next ?llaw_next ?claw_next ?klaw_next ?alaw_grown ?llaw_grown ?claw_grown ?klaw_grown ?alaw ?llaw ?claw ?klaw ?zdivmod ?zsorted ?zmin ?zlist ?zset ?zrange ?ztuple ?zlen ?zint ?zabs ?zisinstance ?zbool ?zmax ?xWIDTH ?xPRIME ?xFACTOR
    (case aCRule => k_is)
    (case pgRule => k_is)
    (case hdRule => k_is)
    (case poRule => k_is)
    (case saRule => k_is)
    (case mkRule => k_is)
    (case kcRule => k_is)
    (case nRulebirths => k_is)
    (case nRulesurvival => k_is)
    (case afloor_of => k_is)
    (case lfloor_of => k_is)
    (case cfloor_of => k_is)
    (case kfloor_of => k_is)
    (case acells_of => k_is)
    (case lcells_of => k_is)
    (case ccells_of => k_is)
    (case kcells_of => k_is)
    (case ahome_floor => k_is)
    (case lhome_floor => k_is)
    (case chome_floor => k_is)
    (case khome_floor => k_is)
    (case anext_floor => k_is)
    (case lnext_floor => k_is)
    (case cnext_floor => k_is)
    (case knext_floor => k_is)
    (case arow_sums => k_is)
    (case lrow_sums => k_is)
    (case crow_sums => k_is)
    (case krow_sums => k_is)
    (case asums_of => k_is)
    (case lsums_of => k_is)
    (case csums_of => k_is)
    (case ksums_of => k_is)
    (case awith_strips_beside => k_is)
    (case lwith_strips_beside => k_is)
    (case cwith_strips_beside => k_is)
    (case kwith_strips_beside => k_is)
    (case awith_rows_beside => k_is)
    (case lwith_rows_beside => k_is)
    (case cwith_rows_beside => k_is)
    (case kwith_rows_beside => k_is)
    (case atotals_of => k_is)
    (case ltotals_of => k_is)
    (case ctotals_of => k_is)
    (case ktotals_of => k_is)
    (case anext_strip => k_is)
    (case lnext_strip => k_is)
    (case cnext_strip => k_is)
    (case knext_strip => k_is)
    (case apattern => k_is)
    (case lpattern => k_is)
    (case cpattern => k_is)
    (case kpattern => k_is)
    (case amoved => k_is)
    (case lmoved => k_is)
    (case cmoved => k_is)
    (case kmoved => k_is)
    (case agrown => k_is)
    (case lgrown => k_is)
    (case cgrown => k_is)
    (case kgrown => k_is)
    (case afate => k_is)
    (case lfate => k_is)
    (case cfate => k_is)
    (case kfate => k_is)
    (case amarked => k_is)
    (case lmarked => k_is)
    (case cmarked => k_is)
    (case kmarked => k_is)
    (case aholds => k_is)
    (case lholds => k_is)
    (case cholds => k_is)
    (case kholds => k_is)
    (case aat_generation => k_is)
    (case lat_generation => k_is)
    (case cat_generation => k_is)
    (case kat_generation => k_is)
    (case aRule_init => k_is)
    (case iRule_init => k_is)
    (case lRule_init => k_is)
    (case cRule_init => k_is)
    (case kRule_init => k_is)
    (case alaw_cell => k_is)
    (case llaw_cell => k_is)
    (case claw_cell => k_is)
    (case klaw_cell => k_is)
    (case alaw_row => k_is)
    (case llaw_row => k_is)
    (case claw_row => k_is)
    (case klaw_row => k_is)
    (case alaw_numbers => k_is)
    (case llaw_numbers => k_is)
    (case claw_numbers => k_is)
    (case klaw_numbers => k_is)
    (case alaw_some => k_is)
    (case llaw_some => k_is)
    (case claw_some => k_is)
    (case klaw_some => k_is)
    (case alaw_next => k_is)
    (case llaw_next => k_is)
    (case claw_next => k_is)
    (case klaw_next => k_is)
    (case alaw_grown => k_is)
    (case llaw_grown => k_is)
    (case claw_grown => k_is)
    (case klaw_grown => k_is)
    (case alaw => k_is)
    (case llaw => k_is)
    (case claw => k_is)
    (case klaw => k_is)
    (case zdivmod => k_is)
    (case zsorted => k_is)
    (case zmin => k_is)
    (case zlist => k_is)
    (case zset => k_is)
    (case zrange => k_is)
    (case ztuple => k_is)
    (case zlen => k_is)
    (case zint => k_is)
    (case zabs => k_is)
    (case zisinstance => k_is)
    (case zbool => k_is)
    (case zmax => k_is)
    (case xWIDTH => k_is)
    (case xPRIME => k_is)
    (case xFACTOR => k_is)
