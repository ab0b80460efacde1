import PyProof.Rows.All
import Wide.All
import OpenK.AllK
import Wide.FinOn
import HandS.ForMost
import HandS.Strs
import HandS.SetFor
import HandS.OwnEq
import HandS.SlotsOwn
import HandS.IsInst
import HandS.Wide
import HandS.Style
import HandS.Steps
import HandS.Walk
import HandS.Exc
import HandS.TryOnly
import HandS.ExcOwn
import HandS.WordsExc
import HandS.FStr
import HandS.RaiseMore
import HandS.ExcIs
import HandS.TupSets
import HandS.SortRule
import PyProof.Rows.AssignMoreSeq
import HandS.NoneIn
import HandS.Deep
import PyProof.Rows.RegStrFacts
import HandS.DictTup
import HandS.Conv
import HandS.WideBits
import KE.OsArith
import PySem.Challenge.RW_longlife_k27_rings_and_their_fates
set_option Elab.async false
set_option linter.all false
set_option maxRecDepth 100000
set_option maxHeartbeats 4000000
namespace Vx
open PySem PySem.Spec PyProof.Rows L2
/-! ### heaps that grow -/
theorem newS {H : Hp} {p : Addr} {o : HO} (n : H p = none) : Same H (upd H p o) := fun b x e => by
  rw [upd_ne (ne_of_none e n)]
  exact e
theorem mutS {H H' : Hp} {p : Addr} {o : HO} (e : Same H H') (n : H p = none) : Same H (upd H' p o) := fun b x hb => by
  rw [upd_ne (ne_of_none hb n)]
  exact e b x hb
theorem getS {H H' : Hp} {a : Addr} {o : HO} (e : Same H H') (h : H a = some o) : H' a = some o := e a o h
theorem tupS {K : PySem.W.Frag} {H H' : Hp} {a : Addr} {xs : List V} (e : Same H H') (h : SqT K H a xs) : SqT K H' a xs := by
  rcases h with (h | ⟨o, h⟩) | h
  · exact .inl (.inl (e _ _ h))
  · exact .inl (.inr ⟨o, e _ _ h⟩)
  · exact .inr h
theorem lst_of {K : PySem.W.Frag} {H : Hp} {a : Addr} {xs : List V} (h : H a = some (.lst xs)) : SqL K H a xs := .inl (.inl h)
theorem tup_of {K : PySem.W.Frag} {H : Hp} {a : Addr} {xs : List V} (h : H a = some (.tup xs)) : SqT K H a xs := .inl (.inl h)
theorem neS {H H' : Hp} {a p : Addr} {o : HO} (h : H a = some o) (e : Same H H') (n : H' p = none) : a ≠ p := ne_of_none (e a o h) n
theorem backS {H H' : Hp} {p : Addr} (e : Same H H') (n : H' p = none) : H p = none := Same.free e n
theorem gen_e {H H1 : Hp} {p : Addr} {o : HO} (q : upd H p o = H1) (n : H p = none) : Same H H1 ∧ H1 p = some o := by
  subst q
  exact ⟨newS n, upd_same⟩
/-! ### calls of built-ins, one way each -/
section
variable {X : Cx}
theorem call_intI : CallR X (.type "int") (fun xs H Q => ∃ i, xs = [.int i] ∧ Q (.int i) H) := fun pins s σ H xs us Q I r h => call_int1 pins s σ H xs us Q I r (.inl h)
theorem call_tupL : CallR X (.type "tuple") (fun xs H Q => ∃ p ys, xs = [.ref p] ∧ SqL X.K H p ys ∧ ∀ l, H l = none → Q (.ref l) (upd H l (.tup ys))) := fun pins s σ H xs us Q I r h => by
  obtain ⟨p, ys, e, hs, q⟩ := h
  exact call_tuple_of pins s σ H xs us Q I r ⟨p, ys, e, .inl ⟨hs, q⟩⟩
theorem call_lenL : CallR X (.builtin "len") (fun xs H Q => ∃ p ys, xs = [.ref p] ∧ SqL X.K H p ys ∧ Q (.int ys.length) H) := fun pins s σ H xs us Q I r h => by
  obtain ⟨p, ys, e, hs, q⟩ := h
  exact call_len_seq pins s σ H xs us Q I r ⟨p, ys, e, .inl hs, q⟩
theorem call_lenU : CallR X (.builtin "len") (fun xs H Q => ∃ p ys, xs = [.ref p] ∧ SqT X.K H p ys ∧ Q (.int ys.length) H) := fun pins s σ H xs us Q I r h => by
  obtain ⟨p, ys, e, hs, q⟩ := h
  exact call_len_seq pins s σ H xs us Q I r ⟨p, ys, e, .inr hs, q⟩
theorem call_listL : CallR X (.type "list") (fun xs H Q => ∃ p ys, xs = [.ref p] ∧ SqL X.K H p ys ∧ ∀ l, H l = none → Q (.ref l) (upd H l (.lst ys))) := fun pins s σ H xs us Q I r h => by
  obtain ⟨p, ys, e, hs, q⟩ := h
  exact call_list_of pins s σ H xs us Q I r ⟨p, ys, e, .inl hs, q⟩
/-- a class of the text is no built-in type -/
theorem op_isCT : OpR X (compareOp .Is) (fun x y H Q => ∃ a n, x = V.ref a ∧ y = V.ty n ∧ Q (.bl false) H) := by
  intro pins s σ H x y v u Q I rx ry h
  obtain ⟨a, n, rfl, rfl, q⟩ := h
  cases (show v = Value.ref a from rx)
  cases (show u = Value.type n from ry)
  exact wpAny_is_other rfl (fun z => by cases z) ⟨.bl false, H, I, rfl, q⟩
theorem looks_ty {M : Model} {s : Shared} {u : Value} {T : String} (h : s.TypeIs u T) : PySem.W.Looks M s.heap (typeOf u) (.type T) := by
  unfold Shared.TypeIs at h
  split at h
  · obtain ⟨o, ho, hc⟩ := h
    exact fun A Q E s' k q => wpAny_typeOf_ref (k _ _ ho) (by rw [hc]; exact q)
  · exact PySem.W.Looks.of_pure h
/-- x == y by the text's own __eq__; y an instance of that class, or of a built-in type -/
def rEqOwn (K : PySem.W.Frag) (C : Addr) (sp : Sp) (E : XK) : R2 := fun x y H Q => ∃ a dx fs, x = .ref a ∧ H a = some (.ins C dx fs) ∧
  ((∃ b dy gs, y = .ref b ∧ H b = some (.ins C dy gs)) ∨ ∃ T, TyB K H y T ∧ PySem.W.notFirst K C (.type T) = true) ∧ sp [x, y] H Q E
theorem op_eqOwn {CX : CXT} {C g : Addr} {n : Nat} {sp : Sp} {E : XK} (hs : PySem.W.findIn X.K (.ref C) "__eq__" = some (some (.ref g))) (hf : PySem.W.isFn X.K (.ref g) = true)
    (F : FnR X.prog X.w X.K X.mg X.base CX n g sp) (hr : Room n X.A) (hx : Passes CX X E) : OpR X (compareOp .Eq) (rEqOwn X.K C sp E) := by
  intro pins s σ H x y v u Q I rx ry h
  obtain ⟨a, dx, fs, rfl, ha, hy, q⟩ := h
  cases (show v = Value.ref a from rx)
  obtain ⟨mA, O, _⟩ := ins_get I.hok ha
  obtain ⟨od, J, _⟩ := O.look
  obtain ⟨m, hF⟩ := I.fr
  show wpAny (model X.prog X.w) X.A (richCompare .Eq (.ref a) u) (EP X pins σ Q) X.xe s
  have fin : wpAny (model X.prog X.w) X.A (call (.ref g) [.ref a, u]) (PySem.W.CmpBack (EP X pins σ Q)) X.xe s := by
    refine wpAny_mono (wpAny_call (run_fnR (us := [.ref a, u]) (vs := [.ref a, y]) F hr hx I (.cons rfl (.cons ry .nil)) q)) (fun w s' z => ?_) fun _ _ x => x
    obtain ⟨z', H', I', rz, qz⟩ := z
    exact SlX.cmpback rz ⟨z', H', I', rz, qz⟩
  rcases hy with ⟨b, dy, gs, rfl, hb⟩ | ⟨T, ty, nf⟩
  · cases (show u = Value.ref b from ry)
    obtain ⟨mB, O2, _⟩ := ins_get I.hok hb
    obtain ⟨od2, J2, _⟩ := O2.look
    exact PySem.W.cmp_K (op := .Eq) (tb := .ref C) hr.units0 hF I.ok.mod.kin J J2.type (by simp [PySem.W.notFirst]) hs hf fin
  · exact PySem.W.cmp_K (op := .Eq) (tb := .type T) hr.units0 hF I.ok.mod.kin J (looks_ty (ty.is I ry)) nf hs hf fin
theorem nf_str {K : PySem.W.Frag} {C : Addr} : PySem.W.notFirst K C (.type "str") = true := by rfl
theorem nf_tup {K : PySem.W.Frag} {C : Addr} : PySem.W.notFirst K C (.type "tuple") = true := by rfl
end
end Vx
namespace Vx
open PySem PySem.Spec PyProof.Rows L2
/-! ### set(xs) of a list of ints -/
abbrev bareSet (w : World) : Obj := { cls := .type "set", dict := none, data := .set #[] 0 (.fresh 0 0 (!w.params.followText "set-order")) }
section
variable {P : Program} {w : World} {A : Around} {E : Value → Shared → Prop} {s : Shared}
theorem set_of_list {l : Addr} {its : Array Value} (ns : List Int) {Q : Value → Shared → Prop} (calm : A.handled = none) (hl : s.heap.IsList l its) (hi : IntsAre its.toList ns) (room : ns.length + 1 < scanBound)
    (k : ∀ (g : Heap) (t c : Nat), SetR w g s.heap.objs.size (fun j => decide (j ∈ ns)) c → c ≤ ns.length → (∀ b o, s.heap.get? b = some o → g.get? b = some o) → Q (.ref s.heap.objs.size) { s with heap := g, toks := t }) :
    wpAny (model P w) A (call (.type "set") [.ref l]) Q E s := by
  have len : its.size = ns.length := by
    have z := IntsAre.length hi
    rwa [Array.length_toList] at z
  obtain ⟨c0, tl, hmro⟩ := F.called_set.mro
  have hmade := F.called_set.made
  have hsub := F.called_set.sub
  refine wpAny_call (codeAny_of_tree ?_)
  show wpAny _ _ (callAny (.type "set") _) _ _ _
  refine wpAny_pure ⟨Code.quiet_builtin _ (by decide +kernel), codeAny_builtin F.entry_type_call ?_⟩
  rw [Around.under_plain (weight_type_call_type "set" [.ref l] []) rfl]
  have n1 := F.called_set.notType
  have n2 := F.called_set.canCreate
  have n3 := F.typeCall_set_1 (.ref l)
  repeat (any_goals (first | assumption | wp_step))
  refine codeAny_mono (code_set_led1 (.ref l) (E := E) (Q₁ := fun ob s1 => ob = .ref s.heap.objs.size ∧ s1 = { s with heap := s.heap.push (bareSet w) }) ⟨rfl, rfl⟩) fun r s1 hr => ?_
  rcases r with e | fl
  · exact hr
  cases fl with
  | ret ob =>
    obtain ⟨rfl, rfl⟩ := hr
    have at0 : (s.heap.push (bareSet w)).get? s.heap.objs.size = some (bareSet w) := Heap.get?_push_size _ rfl
    have ty0 : Shared.TypeIs { s with heap := s.heap.push (bareSet w) } (.ref s.heap.objs.size) "set" := ⟨_, at0, rfl⟩
    have i1 := F.called_set.init.lookup
    have i2 := F.called_set.init.bind (.ref s.heap.objs.size)
    repeat (any_goals (first | assumption | wp_step))
    refine codeAny_mono (codeAny_call_builtin (R := wants (fun v s2 => v = .none ∧ ∃ g t c, s2 = { s with heap := g, toks := t } ∧ SetR w g s.heap.objs.size (fun j => decide (j ∈ ns)) c ∧ c ≤ ns.length ∧
        (∀ b o, s.heap.get? b = some o → g.get? b = some o)) E) F.called_set.init.plain F.entry_set_init (check_set_init_1 ty0 ?_)) fun r2 s2 hr2 => ?_
    · obtain ⟨⟨oc, od, ob, osl⟩, hol, hcl, nl, hdl⟩ := hl
      simp only at hcl hdl
      subst hcl hdl
      have at1 : (s.heap.push (bareSet w)).get? l = some { cls := .type "list", dict := od, data := .seq its nl, slots := osl } := Heap.get?_push_of_some _ hol
      have q1 := F.sub_list_set
      have q2 := F.sub_list_frozenset
      have q3 : (Value.type "list" == Value.type "dict") = false := by decide
      have isl : (s.heap.push (bareSet w)).IsList l its := ⟨_, at1, rfl, nl, rfl⟩
      unfold Builtin.«set.__init__» noKeywords Builtin.Frozenset.updateFrom
      generalize hPI : pyIter = PI
      wp_walk
      subst hPI
      refine wpAny_pyIter_list isl ?_
      refine wpAny_bind (wpAny_runValue ?_)
      have lS : l < s.heap.objs.size := Heap.lt_size hol
      have calm3 : A.in1.in1.in1.handled = none := by simp [calm]
      have neI : l ≠ (s.heap.push (bareSet w)).objs.size := by
        rw [Heap.size_push]
        exact Nat.ne_of_lt (Nat.lt_succ_of_lt lS)
      have noS : s.heap.objs.size ∉ [(s.heap.push (bareSet w)).objs.size, l] := by
        rw [Heap.size_push]
        simp only [List.mem_cons, List.mem_singleton, List.not_mem_nil, or_false, not_or]
        exact ⟨Nat.ne_of_lt (Nat.lt_succ_self _), Nat.ne_of_gt lS⟩
      have item : ∀ (i : Nat) (v : Value), its[i]? = some v → ∃ m t, ns[i]? = some m ∧ v = .int m t := fun i v hv => by
        have li : i < ns.length := by rw [← len]; exact (Array.getElem?_eq_some_iff.mp hv).1
        obtain ⟨t, e⟩ := PyProof.Rows.IntsAre.int_at hi i v (by rw [Array.getElem?_toList]; exact hv)
        refine ⟨ns[i], t, List.getElem?_eq_getElem li, ?_⟩
        rw [e, List.getD_eq_getElem?_getD, List.getElem?_eq_getElem li]
        rfl
      refine set_update_ints ((Walks.list calm3 _ l neI its).toS) s.heap.objs.size noS ns len room item (its.size - 0) 0 _ (by omega) (Nat.zero_le _) ⟨⟨_, Heap.get?_push_size _ rfl, rfl, rfl⟩, (isl.push _)⟩ ?s0 ?fin
      case s0 => exact ⟨0, Nat.le_refl 0, setR_new_at (Heap.get?_push_of_some _ at0)⟩
      case fin =>
        intro s3 c3 mv hc3 hS3
        obtain ⟨g3, ge, dr, t3, os3⟩ := s3
        cases (show ge = s.gens from mv.gens)
        cases (show dr = s.drawn from mv.drawn)
        cases (show os3 = s.os from mv.os)
        show wpAny _ _ _ _ _ _
        refine wpAny_pure ?_
        show wpAny _ _ (ret Value.none) _ _ _
        rw [len] at hc3
        refine wpAny_pure ⟨rfl, g3, t3, c3, rfl, hS3, hc3, fun b o e => ?_⟩
        have b0 : b < s.heap.objs.size := Heap.lt_size e
        have b2 : b ≠ (s.heap.push (bareSet w)).objs.size := by
          rw [Heap.size_push]
          exact Nat.ne_of_lt (Nat.lt_succ_of_lt b0)
        exact mv.heap b o (by simp only [List.mem_cons, List.mem_singleton, List.not_mem_nil, or_false, not_or]; exact ⟨Nat.ne_of_lt b0, b2⟩) (Heap.get?_push_of_some _ (Heap.get?_push_of_some _ e))
    · rcases r2 with e | fl2
      · exact hr2
      cases fl2 with
      | ret v =>
        obtain ⟨rfl, g, t, c, rfl, hS, hc, hk⟩ := hr2
        repeat (any_goals (first | assumption | wp_step))
        exact k _ _ _ hS hc hk
      | _ => exact hr2.elim
  | _ => exact hr.elim
end
section
variable {X : Cx}
theorem cr_setL (hc : X.calm = true) : CallR X (.type "set") (fun vs H Q => ∃ (l : Addr) (ns : List Int), vs = [V.ref l] ∧ SqL X.K H l (ns.map V.int) ∧ ns.length + 1 < scanBound ∧
    ∀ p c, H p = none → c ≤ ns.length → Q (.ref p) (upd H p (SetO X.w p (fun j => decide (j ∈ ns)) c))) := by
  intro pins s σ H xs us Q I r h
  obtain ⟨l, ns, rfl, hl, room, q⟩ := h
  rw [Vals.ref1 r]
  obtain ⟨its, rv, pl, hz⟩ := I.list hl
  refine set_of_list ns (I.ok.hd hc) pl.isList (by simpa using ints_of_vals rv) room fun g t c R hc' k => ?_
  have hn : H s.heap.objs.size = none := I.hok.fresh (Nat.le_refl _)
  exact ⟨.ref _, _, I.laid (a := s.heap.objs.size) (t' := t) k (Nat.le_refl _) (setO_new R), rfl, q _ c hn hc'⟩
end
end Vx
namespace Vx
open PySem PySem.Spec PyProof.Rows L2
/-! ### ascending lists -/
theorem asc_eq : ∀ {l m : List Int}, l.Pairwise (· < ·) → m.Pairwise (· < ·) → (∀ k, k ∈ l ↔ k ∈ m) → l = m
  | [], [], _, _, _ => rfl
  | [], y :: m, _, _, h => absurd ((h y).mpr List.mem_cons_self) (by simp)
  | x :: l, [], _, _, h => absurd ((h x).mp List.mem_cons_self) (by simp)
  | x :: l, y :: m, hl, hm, h => by
    obtain ⟨h1, h2⟩ := List.pairwise_cons.mp hl
    obtain ⟨h3, h4⟩ := List.pairwise_cons.mp hm
    have e : x = y := by
      rcases List.mem_cons.mp ((h x).mp List.mem_cons_self) with e | e
      · exact e
      · rcases List.mem_cons.mp ((h y).mpr List.mem_cons_self) with e2 | e2
        · exact e2.symm
        · have a := h3 _ e
          have b := h1 _ e2
          omega
    subst e
    rw [asc_eq h2 h4 fun k => ?_]
    have q := h k
    constructor
    · intro hk
      rcases List.mem_cons.mp (q.mp (List.mem_cons_of_mem _ hk)) with e | e
      · exact absurd (h1 _ hk) (by omega)
      · exact e
    · intro hk
      rcases List.mem_cons.mp (q.mpr (List.mem_cons_of_mem _ hk)) with e | e
      · exact absurd (h3 _ hk) (by omega)
      · exact e
/-! ### data -/
theorem eqvAll_ints : ∀ (l m : List Int), PyData.eqvAll (l.map PyData.int) (m.map PyData.int) = decide (l = m)
  | [], [] => by simp [PyData.eqvAll]
  | [], y :: m => by simp [PyData.eqvAll]
  | x :: l, [] => by simp [PyData.eqvAll]
  | x :: l, y :: m => by
    show (PyData.eqv (.int x) (.int y) && PyData.eqvAll (l.map PyData.int) (m.map PyData.int)) = _
    rw [eqvAll_ints l m]
    show ((x == y) && decide (l = m)) = _
    by_cases e : x = y <;> by_cases e2 : l = m <;> simp [e, e2]
theorem eqv_tupI (l m : List Int) : PyData.eqv (.tuple (l.map PyData.int)) (.tuple (m.map PyData.int)) = decide (l = m) := eqvAll_ints l m
theorem eqv_lstI (l m : List Int) : PyData.eqv (.list (l.map PyData.int)) (.list (m.map PyData.int)) = decide (l = m) := eqvAll_ints l m
theorem dpAll_ints {K : PySem.W.Frag} {H : Hp} : ∀ l : List Int, DpAll K H (l.map V.int) (l.map PyData.int)
  | [] => .nil
  | x :: l => .cons (.int x) (dpAll_ints l)
theorem dp_tupI {K : PySem.W.Frag} {H : Hp} {a : Addr} {l : List Int} (h : SqT K H a (l.map V.int)) : Dp K H (.ref a) (.tuple (l.map PyData.int)) := .tup h (dpAll_ints l)
theorem dp_lstI {K : PySem.W.Frag} {H : Hp} {a : Addr} {l : List Int} (h : SqL K H a (l.map V.int)) : Dp K H (.ref a) (.list (l.map PyData.int)) := .lst h (dpAll_ints l)
theorem inV_ints (x : Int) : ∀ l : List Int, inV (.int x) (l.map V.int) = decide (x ∈ l)
  | [] => by simp [inV]
  | y :: l => by
    have ih := inV_ints x l
    unfold inV at ih ⊢
    rw [List.map_cons, List.any_cons, ih]
    show ((y == x) || decide (x ∈ l)) = _
    by_cases e : y = x
    · simp [e]
    · have e' : ¬ x = y := fun z => e z.symm
      simp [e, e']
theorem flat_ints (l : List Int) : (l.map V.int).all flatV = true := by
  rw [List.all_map]
  exact List.all_eq_true.mpr fun _ _ => rfl
end Vx
namespace Vx
open PySem PySem.Spec PyProof.Rows L2
theorem canAll_ints : ∀ l : List Int, PyData.canLayAll0 (l.map PyData.int) = true
  | [] => by simp [PyData.canLayAll0]
  | x :: l => by
    rw [List.map_cons]
    simp [PyData.canLayAll0, PyData.canLay0, canAll_ints l]
theorem depAll_ints : ∀ l : List Int, PyData.depthAll (l.map PyData.int) = 0
  | [] => by simp [PyData.depthAll]
  | x :: l => by
    rw [List.map_cons]
    simp [PyData.depthAll, PyData.depth, depAll_ints l]
theorem shaped_tupI (l : List Int) : SeqAt.shaped (.tuple (l.map PyData.int)) = true := by
  unfold SeqAt.shaped
  simp [PyData.canLay0, PyData.depth, canAll_ints, depAll_ints]
theorem shaped_lstI (l : List Int) : SeqAt.shaped (.list (l.map PyData.int)) = true := by
  unfold SeqAt.shaped
  simp [PyData.canLay0, PyData.depth, canAll_ints, depAll_ints]
theorem tyesT {σ : L2.St} {H : Hp} {A B : Hp → Prop} (h : A H) : tYes σ H (fun b H3 => if b = true then A H3 else B H3) := h
theorem item_ints {xs : List Int} {i : Nat} {x : V} (h : (xs.map V.int)[i]? = some x) : ∃ z, x = .int z ∧ xs[i]? = some z ∧ z ∈ xs := by
  rw [List.getElem?_map] at h
  cases e : xs[i]? with
  | none => rw [e] at h; cases h
  | some z =>
    rw [e] at h
    exact ⟨z, (Option.some.inj h).symm, rfl, List.mem_of_getElem? e⟩
theorem at_ints {xs : List Int} {k : Int} (h0 : 0 ≤ k) (h1 : k < (xs.length : Int)) : ∃ z, z ∈ xs ∧ atI (xs.map V.int) k = some (.int z) := by
  have hj : k.toNat < xs.length := by omega
  refine ⟨xs[k.toNat], List.getElem_mem hj, ?_⟩
  refine at_of (j := k.toNat) (by omega) ?_
  rw [List.getElem?_map, List.getElem?_eq_getElem hj]
  rfl
theorem mem_ins {ys : List Int} {j : Nat} {y k : Int} (hy : y ∈ ys) : k ∈ ys.take j ++ [y] ++ ys.drop j ↔ k ∈ ys := by
  have e : k ∈ ys ↔ k ∈ ys.take j ∨ k ∈ ys.drop j := by rw [← List.mem_append, List.take_append_drop]
  rw [List.mem_append, List.mem_append, List.mem_singleton, e]
  constructor
  · rintro ((h | h) | h)
    · exact .inl h
    · subst h
      exact e.mp hy
    · exact .inr h
  · rintro (h | h)
    · exact .inl (.inl h)
    · exact .inr h
theorem madeS {C : Addr} {H : Hp} {x dx : Addr} (nx : H x = none) (nd : H dx = none) : Same H (upd (upd H dx (.own x)) x (.ins C dx [])) := fun b o e => by
  rw [upd_ne (ne_of_none e nx), upd_ne (ne_of_none e nd)]
  exact e
theorem pe_gcx {X : Cx} {x : Str} {pos : Pos} {v : V} (hg : Gl X x) (h : ∃ u, X.mg x = some u ∧ RelV v u) (hd : (x == ("__debug__" : Str)) = false := by decide +kernel) : PE X (.Name x pos) (tC v) := by
  obtain ⟨u, h, r⟩ := h
  exact pe_glob hg h r hd
theorem call_intB {X : Cx} : CallR X (.type "int") (fun xs H Q => ∃ k, xs = [.bl k] ∧ Q (.int (if k = true then 1 else 0)) H) := fun pins s σ H xs us Q I r h => call_int1 pins s σ H xs us Q I r (.inr h)
theorem cut_lo_len (z : Str) {k : Int} (h : 0 ≤ k) : (cutS z none (some k)).length ≤ k.toNat := by
  show (List.toArray _).size ≤ _
  rw [List.size_toArray, List.length_take]
  show min (HT.sIx z.length z.length (some k) - 0) _ ≤ _
  have e : HT.sIx z.length z.length (some k) = min k.toNat z.length := by
    show (if k < 0 then (k + (z.length : Int)).toNat else min k.toNat z.length) = _
    rw [if_neg (by omega)]
  omega
theorem cut_hi_len (z : Str) {k : Int} (h : 0 ≤ k) : (cutS z (some k) none).length ≤ z.length - k.toNat := by
  show (List.toArray _).size ≤ _
  have e : HT.sIx z.length 0 (some k) = min k.toNat z.length := by
    show (if k < 0 then (k + (z.length : Int)).toNat else min k.toNat z.length) = _
    rw [if_neg (by omega)]
  rw [List.size_toArray, List.length_take, List.length_drop, e]
  show min (z.length - min k.toNat z.length) (z.cps.toList.length - min k.toNat z.length) ≤ _
  have : z.cps.toList.length = z.length := Array.length_toList
  omega
end Vx
namespace Vx
open PySem PySem.Spec PyProof.Rows L2
/-- isinstance of the caught error, its class told by the reading -/
theorem call_isE2 {X : Cx} {a D : Addr} {oe : Obj} {cls : Value} {d : Option Addr} {pn : List (Addr × Obj)} (C : ExcC X.K D) (hz : Zc cls d oe) (hf : ∃ vs, oe.data = .fields vs) :
    CallR (X.suite a ((a, oe) :: pn)) (.builtin "isinstance") (fun xs H Q => cls = .ref D ∧ d = none ∧ rIsE X.K D a xs H Q) := fun pins s σ H xs us Q I r h => by
  obtain ⟨h1, h2, h3⟩ := h
  subst h1 h2
  exact call_isE C hz hf pins s σ H xs us Q I r h3
theorem kit_sub {K : PySem.W.Frag} {D C : Addr} {b : Bool} (hc : PySem.W.isClsIn K C = true) (ht : PySem.W.typeIn K (.ref C) = some (.type "type")) (h1 : PySem.W.subIn K (.ref D) (.ref D) = some true) (h2 : PySem.W.subIn K (.ref D) (.ref C) = some b) :
    PySem.W.kitOne K (.ref D) (.ref C) = some b := by
  unfold PySem.W.kitOne
  by_cases e : D = C
  · subst e
    rw [h1] at h2
    rw [if_pos (beq_self_eq_true _)]
    exact h2
  · rw [if_neg (by intro q; exact e (Value.ref.inj (beq_iff_eq.mp q)))]
    unfold PySem.W.kitCls
    have hc' : (PySem.W.clsIn K C).isSome = true := hc
    have e2 : ((PySem.W.clsIn K C).isSome && PySem.W.typeIn K (.ref C) == some (.type "type")) = true := by rw [hc', ht]; rfl
    show (if ((PySem.W.clsIn K C).isSome && PySem.W.typeIn K (.ref C) == some (.type "type")) = true then PySem.W.subIn K (.ref D) (.ref C) else none) = some b
    rw [if_pos e2]
    exact h2
theorem kit_ve {K : PySem.W.Frag} {D : Addr} {b : Bool} (h2 : PySem.W.subIn K (.ref D) (.type "ValueError") = some b) : PySem.W.kitOne K (.ref D) (.type "ValueError") = some b := by
  unfold PySem.W.kitOne
  rw [if_neg (by intro q; cases (beq_iff_eq.mp q))]
  show (if PySem.W.kitMeta "ValueError" = true then PySem.W.subIn K (.ref D) (.type "ValueError") else none) = some b
  rw [if_pos (by decide +kernel)]
  exact h2
end Vx
namespace Vx
open PySem PySem.Spec PyProof.Rows L2
/-! ### pairs and lists of them -/
abbrev Pr := Int × Int
def pr (l : List Int) : Pr := (l.getD 0 0, l.getD 1 0)
def Cells (H : Hp) (l : Addr) (ps : List Pr) : Prop :=
  ∃ ts : List (Addr × Pr), H l = some (.lst (ts.map fun t => V.ref t.1)) ∧ (∀ t ∈ ts, H t.1 = some (.tup [.int t.2.1, .int t.2.2])) ∧ ts.map (·.2) = ps
theorem Cells.up {H H' : Hp} {l : Addr} {ps : List Pr} (e : Same H H') (h : Cells H l ps) : Cells H' l ps := by
  obtain ⟨ts, h1, h2, h3⟩ := h
  exact ⟨ts, e _ _ h1, fun t m => e _ _ (h2 t m), h3⟩
def SetP (P : Program) (w : World) (H : Hp) (a : Addr) (ps : List Pr) : Prop :=
  ∃ L : List (Addr × List Int), H a = some (SetTO P w a L) ∧ (∀ q ∈ L, q.2.length = 2 ∧ H q.1 = some (.tup (q.2.map V.int))) ∧ ∀ x, x ∈ L.map (fun q => pr q.2) ↔ x ∈ ps
abbrev ltP (p q : Pr) : Prop := SrtO.lexB p q = true
theorem pr_inj : ∀ {l m : List Int}, l.length = 2 → m.length = 2 → pr l = pr m → l = m
  | [a, b], [c, d], _, _, h => by
    have h1 : a = c := congrArg Prod.fst h
    have h2 : b = d := congrArg Prod.snd h
    rw [h1, h2]
theorem len2 : ∀ {l : List Int}, l.length = 2 → l = [(pr l).1, (pr l).2]
  | [a, b], _ => rfl
section
variable {P : Program} {w : World} {A : Around} {E : Value → Shared → Prop} {s : Shared}
def adr : Value → Addr
  | .ref a => a
  | _ => 0
/-- the set's members, sorted -/
theorem sorted_pairs {a : Addr} {L : List (Addr × List Int)} {es : Array (Int × Value)} {ep : Nat} {t : SetTable} {Q : Value → Shared → Prop} (R : SetTR P w s.heap a L es ep t) (hh : A.handled = none) (h2 : ∀ q ∈ L, q.2.length = 2)
    (hQ : ∀ s' p (ts : List (Addr × Pr)) (c : Nat), (∀ b o, s.heap.get? b = some o → s'.heap.get? b = some o) → s'.gens = s.gens → s'.os = s.os → s.heap.objs.size ≤ p →
      s'.heap.get? p = some (seqObj "list" (ts.map fun q => Value.ref q.1).toArray c) → (∀ q ∈ ts, ∃ r ∈ L, r.1 = q.1 ∧ pr r.2 = q.2) → (∀ x, x ∈ ts.map (·.2) ↔ x ∈ L.map fun q => pr q.2) → (ts.map (·.2)).Pairwise ltP → ts.length = L.length → Q (.ref p) s') :
    wpAny (model P w) A (call (.builtin "sorted") [.ref a]) Q E s := by
  have few := R.few
  obtain ⟨o, go, xo, dat⟩ := R.ob
  refine Calls.call_function_entry kind_sorted plain_sorted entry_sorted (args_sorted1 _) ?_
  unfold Builtin.«sorted»
  refine wpAny_bind (m := checkCount "sorted" 1 1 _) (wpAny_pure ?_)
  refine wpAny_bind (collect_set (A := A.in1) hh ⟨o, go, xo.1, dat⟩ R.fits (by rw [R.size]; unfold scanBound; omega) R.tab.ris R.led fun s1 vs keep sz gg oo pm => ?_)
  have em : es.toList.map (·.2) = L.map fun q => Value.ref q.1 := by
    rw [R.rows]
    show (L.map fun q => (thash P w q.2, Value.ref q.1)).map (·.2) = _
    rw [List.map_map] <;> rfl
  rw [em] at pm
  have vl : vs.length = L.length := by rw [pm.length_eq, List.length_map]
  have lim : vs.length ≤ sizeLine := by
    rw [sizeLine_eq]
    omega
  refine wpAny_bind (wpAny_newList ?_ lim)
  have gl : (s1.heap.push (seqObj "list" vs.toArray 0)).get? s1.heap.objs.size = some (seqObj "list" vs.toArray 0) := Heap.get?_push_size _ rfl
  generalize hh1 : s1.heap.push (seqObj "list" vs.toArray 0) = h1 at gl
  have keep1 : ∀ b u, s1.heap.get? b = some u → h1.get? b = some u := fun b u e => by
    rw [← hh1]
    exact Heap.get?_push_of_some _ e
  have tin : ∀ q ∈ L, TS.TupInts h1 (.ref q.1) q.2 := fun q m => tupInts_of (P := P) (w := w) (isT_keep (R.tup q m) fun b u e => keep1 b u (keep b u e))
  have mem : ∀ v ∈ vs, ∃ q ∈ L, v = Value.ref q.1 := fun v m => by
    obtain ⟨q, m1, e⟩ := List.mem_map.mp (pm.mem_iff.mp m)
    exact ⟨q, m1, e.symm⟩
  have key : ∀ q ∈ L, pr (TS.intsOf h1 (.ref q.1)) = pr q.2 := fun q m => by rw [(tin q m).ints]
  have isP : ∀ v ∈ vs, Srt.IsPair h1 v (pr (TS.intsOf h1 v)).1 (pr (TS.intsOf h1 v)).2 := fun v m => by
    obtain ⟨q, m1, rfl⟩ := mem v m
    rw [key q m1]
    have i := tin q m1
    have l2 := len2 (h2 q m1)
    rw [l2] at i
    obtain ⟨b, items, eb, ⟨o1, go1, co1, n1, do1⟩, ia⟩ := i
    cases eb
    obtain ⟨xs⟩ := items
    cases ia with
    | cons _ t1 ia =>
      cases ia with
      | cons _ t2 ia =>
        cases ia
        exact ⟨_, o1, t1, t2, n1, rfl, go1, co1, do1⟩
  refine wpAny_bind (wpAny_holding (wpAny_call_entry (s := { s1 with heap := h1 }) slot_list_sort ⟨_, gl, rfl⟩ entry_list_sort (SrtO.list_sort_ord (s := { s1 with heap := h1 }) (SrtO.swo_lex fun v => pr (TS.intsOf h1 v)) gl lim (fun two => SrtO.pairs_sortableO (by omega) isP fun o1 e => ?_) fun out srt stb => ⟨_, rfl, ?_⟩) (args_list_sort _)))
  · have e' : some o1 = some (seqObj "list" vs.toArray 0) := e.symm.trans gl
    cases e'
    intro c
    exact absurd (Value.type.inj c) (by decide)
  · obtain ⟨c, gc⟩ := sortedHeap_at (vs := vs) (out := out.toArray) gl
    have omem : ∀ v ∈ out, ∃ q ∈ L, v = Value.ref q.1 := fun v m => mem v (stb.perm.mem_iff.mp m)
    refine wpAny_pure ⟨_, rfl, hQ _ s1.heap.objs.size (out.map fun v => (adr v, pr (TS.intsOf h1 v))) c (fun b u e => ?_) gg oo sz ?_ ?_ ?_ ?_ ?_⟩
    · have g1 := keep b u e
      have lt1 := Heap.lt_size g1
      show (sortedHeap h1 s1.heap.objs.size vs out.toArray).get? b = some u
      rw [sortedHeap_old (Nat.ne_of_lt lt1) (Heap.lt_size (keep1 b u g1))]
      exact keep1 b u g1
    · have eo : (out.map fun v => (adr v, pr (TS.intsOf h1 v))).map (fun q => Value.ref q.1) = out := by
        rw [List.map_map]
        refine (List.map_congr_left fun v m => ?_).trans (List.map_id _)
        obtain ⟨q, _, rfl⟩ := omem v m
        rfl
      rw [eo]
      exact gc
    · intro q m
      obtain ⟨v, m1, rfl⟩ := List.mem_map.mp m
      obtain ⟨r, mr, rfl⟩ := omem v m1
      exact ⟨r, mr, rfl, (key r mr).symm⟩
    · intro x
      rw [List.map_map]
      constructor
      · intro m
        obtain ⟨v, m1, rfl⟩ := List.mem_map.mp m
        obtain ⟨r, mr, rfl⟩ := omem v m1
        exact List.mem_map.mpr ⟨r, mr, (key r mr).symm⟩
      · intro m
        obtain ⟨r, mr, rfl⟩ := List.mem_map.mp m
        exact List.mem_map.mpr ⟨.ref r.1, stb.perm.mem_iff.mpr (pm.mem_iff.mpr (List.mem_map.mpr ⟨r, mr, rfl⟩)), key r mr⟩
    · rw [List.map_map]
      have nd : ((L.map fun q => Value.ref q.1).map fun v => pr (TS.intsOf h1 v)).Nodup := by
        rw [List.map_map]
        refine List.pairwise_map.mpr ((List.pairwise_map.mp R.nd).imp_of_mem fun {q r} mq mr ne e => ne ?_)
        refine pr_inj (h2 q mq) (h2 r mr) ?_
        rw [← key q mq, ← key r mr]
        exact e
      have nd2 : (out.map fun v => pr (TS.intsOf h1 v)).Nodup := ((stb.perm.trans pm).map _).nodup_iff.mpr nd
      refine List.pairwise_map.mpr ((srt.and (List.pairwise_map.mp nd2)).imp fun {u v} h => ?_)
      have a1 := SrtO.lexB_no.mp h.1
      refine SrtO.lexB_iff.mpr ?_
      have a2 : ¬ ((pr (TS.intsOf h1 u)).1 = (pr (TS.intsOf h1 v)).1 ∧ (pr (TS.intsOf h1 u)).2 = (pr (TS.intsOf h1 v)).2) := fun e => h.2 (Prod.ext e.1 e.2)
      show (pr (TS.intsOf h1 u)).1 < (pr (TS.intsOf h1 v)).1 ∨ (pr (TS.intsOf h1 u)).1 = (pr (TS.intsOf h1 v)).1 ∧ (pr (TS.intsOf h1 u)).2 < (pr (TS.intsOf h1 v)).2
      omega
    · rw [List.length_map, stb.perm.length_eq, vl]
end
section
variable {X : Cx}
theorem cr_setP (hc : X.calm = true) (hu : X.A.units + 64 < cLine) : CallR X (.type "set") (fun xs H Q => ∃ l ps, xs = [V.ref l] ∧ Cells H l ps ∧ ps.length < 64 ∧
    ∀ a H', Same H H' → H a = none → SetP X.prog X.w H' a ps → Q (.ref a) H') := by
  intro pins s σ H xs us Q I r h
  obtain ⟨l, ps, rfl, ⟨ts, hl, ht, rfl⟩, few, q⟩ := h
  rw [List.length_map] at few
  refine cr_setOfT hc hu pins s σ H [V.ref l] us Q I r ⟨l, ts.map fun t => (t.1, [t.2.1, t.2.2]), rfl, ?_, ?_, by rw [List.length_map]; exact few, fun a L n sub all => ?_⟩
  · rw [List.map_map]
    exact lst_of hl
  · intro p m
    obtain ⟨t, m1, rfl⟩ := List.mem_map.mp m
    exact tup_of (ht t m1)
  · refine q a _ (newS n) n ⟨L, upd_same, fun p m => ?_, fun x => ⟨fun m => ?_, fun m => ?_⟩⟩
    · obtain ⟨t, m1, rfl⟩ := List.mem_map.mp (sub p m)
      exact ⟨rfl, newS n _ _ (ht t m1)⟩
    · obtain ⟨p, m1, rfl⟩ := List.mem_map.mp m
      obtain ⟨t, m2, rfl⟩ := List.mem_map.mp (sub p m1)
      exact List.mem_map.mpr ⟨t, m2, rfl⟩
    · obtain ⟨t, m1, rfl⟩ := List.mem_map.mp m
      obtain ⟨p, m2, e⟩ := List.mem_map.mp (all _ (List.mem_map.mpr ⟨t, m1, rfl⟩))
      refine List.mem_map.mpr ⟨p, m2, ?_⟩
      rw [e]
      rfl
theorem cr_sortedP (hc : X.calm = true) : CallR X (.builtin "sorted") (fun xs H Q => ∃ a ps, xs = [V.ref a] ∧ SetP X.prog X.w H a ps ∧
    ∀ p H' qs, Same H H' → H p = none → Cells H' p qs → qs.Pairwise ltP → (∀ x, x ∈ qs ↔ x ∈ ps) → qs.length < 64 → Q (.ref p) H') := by
  intro pins s σ H vs us Q I r h
  obtain ⟨a, ps, rfl, ⟨L, ha, hL, mem⟩, q⟩ := h
  have R0 : SetT0 X.prog X.w s.heap a L := (I.hok a _ ha).1
  obtain ⟨es, ep, t, R⟩ := R0.full fun p hp => I.isT (tup_of (hL p hp).2)
  rw [Vals.ref1 r]
  refine sorted_pairs R (I.ok.hd hc) (fun q m => (hL q m).1) fun s' p ts c k g o hp hg own all pw le => ?_
  have few := R.few
  have lim : (ts.map fun q => V.ref q.1).length ≤ sizeLine := by
    rw [List.length_map, sizeLine_eq]
    omega
  have n : H p = none := I.hok.fresh hp
  have vals : ∀ ts : List (Addr × Pr), Vals (ts.map fun q => V.ref q.1) (ts.map fun q => Value.ref q.1) := fun ts => by
    induction ts with
    | nil => exact .nil
    | cons t ts ih => exact .cons rfl ih
  have J : Inv X pins σ (upd H p (.lst (ts.map fun q => V.ref q.1))) { s with heap := s'.heap, gens := s'.gens, drawn := s'.drawn, toks := s'.toks } :=
    I.call (ch := []) (Un.laid k hp n) (I.hok.laid k hp ⟨lim, _, c, vals ts, hg⟩) (by rw [g]; exact I.bare) (fun _ z => nomatch z)
  have e : s' = { s with heap := s'.heap, gens := s'.gens, drawn := s'.drawn, toks := s'.toks } := by
    obtain ⟨_, _, _, _, _⟩ := s'
    obtain ⟨_, _, _, _, _⟩ := s
    cases o
    rfl
  rw [e]
  have sm : Same H (upd H p (.lst (ts.map fun q => V.ref q.1))) := newS n
  refine ⟨.ref p, _, J, rfl, q p _ (ts.map (·.2)) sm n ⟨ts, upd_same, fun t m => ?_, rfl⟩ pw (fun x => (all x).trans (mem x)) (by rw [List.length_map, le]; exact few)⟩
  obtain ⟨r, mr, e1, e2⟩ := own t m
  have z := sm _ _ (hL r mr).2
  rw [len2 (hL r mr).1, e1, e2] at z
  exact z
end
section
variable {X : Cx}
theorem pg_tupK {K : PySem.W.Frag} {es : List Expr} {k : Nat} {t : TGs} {n : Nat} {pos : Pos} (hK : X.K = K) (hc : X.calm = true) (h : PGs X es t)
    (hn : (assignEach es X.env).length = n := by rfl) (hst : (assignEach es X.env).findIdx? (·.1) = none := by rfl) : PG X (.Tuple es k pos) (gTup K n t) := by
  subst hK
  exact pg_tup hc h hn hst
theorem ix_tupK {K : PySem.W.Frag} (hK : X.K = K) : IxR X (rIxT K) := by
  subst hK
  exact ix_tup
end
/-! ### comprehensions over such a list -/
theorem item_cells {H : Hp} {ts : List (Addr × Pr)} {ps : List Pr} {i : Nat} {x : V} (h : (ts.map fun t => V.ref t.1)[i]? = some x) (e : ts.map (·.2) = ps) :
    ∃ t ∈ ts, x = .ref t.1 ∧ ps[i]? = some t.2 := by
  rw [List.getElem?_map] at h
  cases q : ts[i]? with
  | none => rw [q] at h; cases h
  | some t =>
    rw [q] at h
    refine ⟨t, List.mem_of_getElem? q, (Option.some.inj h).symm, ?_⟩
    rw [← e, List.getElem?_map, q]
    rfl
theorem lc_cells {K : PySem.W.Frag} {l : Addr} {ps : List Pr} {g : TG} {tt : TT} {te : TE} {vs : List Nat} {σ : L2.St} {H1 : Hp} {D : Addr} {Qd : Hp → Prop} (f : Pr → Pr) (hC : Cells H1 l ps) (nD : H1 D = none) (few : ps.length < sizeLine)
    (hs : ∀ (t : Addr) (x : Pr) (H' : Hp) (Po : V → Hp → Prop) (Pn : Hp → Prop), Same H1 H' → H' t = some (.tup [.int x.1, .int x.2]) → (∀ t2, H' t2 = none → Po (.ref t2) (upd H' t2 (.tup [.int (f x).1, .int (f x).2]))) →
      g (.ref t) (wipe σ vs) H' fun σ2 H2 => wipe σ2 vs = wipe σ vs ∧ tt σ2 H2 fun b H3 => if b = true then te σ2 H3 Po else Pn H3)
    (hd : ∀ H', Same H1 H' → Cells H' D (ps.map f) → Qd H') :
    ∃ W : Nat → Nat → Hp → Prop, (∃ m, W 0 m (upd H1 D (.lst []))) ∧ ∀ i m H, W i m H →
      ((Itl K l).stop i H ∧ Qd H) ∨ ((Itl K l).go i H ∧ ∃ Nx : Hp → Prop, (∀ H', Nx H' → ∃ m', m' < m ∧ W (i + 1) m' H') ∧ ∀ x H', (Itl K l).yld i H x H' → g x (wipe σ vs) H' fun σ2 H2 => wipe σ2 vs = wipe σ vs ∧ tt σ2 H2 fun b H3 =>
        if b = true then te σ2 H3 fun y H4 => ∃ acc, H4 D = some (.lst acc) ∧ acc.length < sizeLine ∧ Nx (upd H4 D (.lst (acc ++ [y]))) else Nx H3) := by
  obtain ⟨ts, hl, ht, rfl⟩ := hC
  rw [List.length_map] at few
  refine lc_list (K := K) (a := l) (xs := ts.map fun t => V.ref t.1) (fun i H' => Same H1 H' ∧ ∃ us : List (Addr × Pr), H' D = some (.lst (us.map fun t => V.ref t.1)) ∧ (∀ t ∈ us, H' t.1 = some (.tup [.int t.2.1, .int t.2.2])) ∧ us.map (·.2) = ((ts.map (·.2)).take i).map f)
    ⟨newS nD, [], upd_same, fun _ m => (by cases m), rfl⟩ (fun i H' _ p => lst_of (p.1 _ _ hl)) ?_ ?_
  · rintro i x H' hi ⟨sm, us, h1, h2, h3⟩
    obtain ⟨t, mt, rfl, hp⟩ := item_cells (H := H') hi rfl
    have ul : us.length = i := by
      have z := congrArg List.length h3
      rw [List.length_map, List.length_map, List.length_take, List.length_map] at z
      have := (List.getElem?_eq_some_iff.mp hi).1
      rw [List.length_map] at this
      omega
    refine hs t.1 t.2 H' _ _ sm (sm _ _ (ht t mt)) fun t2 n2 => ⟨us.map fun t => V.ref t.1, ?_, ?_, ?_, us ++ [(t2, f t.2)], ?_, ?_, ?_⟩
    · exact newS n2 _ _ h1
    · rw [List.length_map, ul]
      have := (List.getElem?_eq_some_iff.mp hi).1
      rw [List.length_map] at this
      omega
    · exact mutS (sm.trans (newS n2)) nD
    · rw [upd_same, List.map_append]
      rfl
    · have nD2 : t2 ≠ D := fun e => by
        rw [e, h1] at n2
        cases n2
      intro u m
      rcases List.mem_append.mp m with m | m
      · have z := h2 u m
        rw [upd_ne (fun e => ?_)]
        · exact newS n2 _ _ z
        · rw [e, h1] at z
          cases z
      · rw [List.mem_singleton.mp m, upd_ne nD2, upd_same]
    · rw [List.map_append, h3, take_next hp, List.map_append]
      rfl
  · rintro H' ⟨sm, us, h1, h2, h3⟩
    refine hd H' sm ⟨us, h1, h2, ?_⟩
    rw [h3, List.length_map, List.take_of_length_le (by rw [List.length_map]; exact Nat.le_refl _)]
theorem lc_nums {K : PySem.W.Frag} {l : Addr} {ps : List Pr} {g : TG} {tt : TT} {te : TE} {vs : List Nat} {σ : L2.St} {H1 : Hp} {D : Addr} {Qd : Hp → Prop} (f : Pr → Int) (hC : Cells H1 l ps) (nD : H1 D = none) (few : ps.length < sizeLine)
    (hs : ∀ (t : Addr) (x : Pr) (H' : Hp) (Po : V → Hp → Prop) (Pn : Hp → Prop), Same H1 H' → H' t = some (.tup [.int x.1, .int x.2]) → Po (.int (f x)) H' →
      g (.ref t) (wipe σ vs) H' fun σ2 H2 => wipe σ2 vs = wipe σ vs ∧ tt σ2 H2 fun b H3 => if b = true then te σ2 H3 Po else Pn H3)
    (hd : ∀ H', Same H1 H' → H' D = some (.lst ((ps.map f).map V.int)) → Qd H') :
    ∃ W : Nat → Nat → Hp → Prop, (∃ m, W 0 m (upd H1 D (.lst []))) ∧ ∀ i m H, W i m H →
      ((Itl K l).stop i H ∧ Qd H) ∨ ((Itl K l).go i H ∧ ∃ Nx : Hp → Prop, (∀ H', Nx H' → ∃ m', m' < m ∧ W (i + 1) m' H') ∧ ∀ x H', (Itl K l).yld i H x H' → g x (wipe σ vs) H' fun σ2 H2 => wipe σ2 vs = wipe σ vs ∧ tt σ2 H2 fun b H3 =>
        if b = true then te σ2 H3 fun y H4 => ∃ acc, H4 D = some (.lst acc) ∧ acc.length < sizeLine ∧ Nx (upd H4 D (.lst (acc ++ [y]))) else Nx H3) := by
  obtain ⟨ts, hl, ht, rfl⟩ := hC
  rw [List.length_map] at few
  refine lc_list (K := K) (a := l) (xs := ts.map fun t => V.ref t.1) (fun i H' => Same H1 H' ∧ H' D = some (.lst ((((ts.map (·.2)).take i).map f).map V.int)))
    ⟨newS nD, upd_same⟩ (fun i H' _ p => lst_of (p.1 _ _ hl)) ?_ ?_
  · rintro i x H' hi ⟨sm, h1⟩
    obtain ⟨t, mt, rfl, hp⟩ := item_cells (H := H') hi rfl
    refine hs t.1 t.2 H' _ _ sm (sm _ _ (ht t mt)) ⟨_, h1, ?_, mutS sm nD, ?_⟩
    · rw [List.length_map, List.length_map, List.length_take, List.length_map]
      omega
    · rw [upd_same, take_next hp, List.map_append, List.map_append]
      rfl
  · rintro H' ⟨sm, h1⟩
    rw [List.length_map, List.take_of_length_le (by rw [List.length_map]; exact Nat.le_refl _)] at h1
    exact hd H' sm h1
/-! ### one such list -/
def CanP (ps qs : List Pr) : Prop := qs.Pairwise ltP ∧ ∀ x, x ∈ qs ↔ x ∈ ps
theorem ltP_iff {p q : Pr} : ltP p q ↔ p.1 < q.1 ∨ (p.1 = q.1 ∧ p.2 < q.2) := SrtO.lexB_iff
theorem ascP_eq : ∀ {l m : List Pr}, l.Pairwise ltP → m.Pairwise ltP → (∀ k, k ∈ l ↔ k ∈ m) → l = m
  | [], [], _, _, _ => rfl
  | [], y :: m, _, _, h => absurd ((h y).mpr List.mem_cons_self) (by simp)
  | x :: l, [], _, _, h => absurd ((h x).mp List.mem_cons_self) (by simp)
  | x :: l, y :: m, hl, hm, h => by
    obtain ⟨h1, h2⟩ := List.pairwise_cons.mp hl
    obtain ⟨h3, h4⟩ := List.pairwise_cons.mp hm
    have irr : ∀ a b : Pr, ltP a b → ltP b a → False := fun a b p q => by
      have p := ltP_iff.mp p
      have q := ltP_iff.mp q
      omega
    have e : x = y := by
      rcases List.mem_cons.mp ((h x).mp List.mem_cons_self) with e | e
      · exact e
      · rcases List.mem_cons.mp ((h y).mpr List.mem_cons_self) with e2 | e2
        · exact e2.symm
        · exact (irr _ _ (h3 _ e) (h1 _ e2)).elim
    subst e
    rw [ascP_eq h2 h4 fun k => ?_]
    have q := h k
    constructor
    · intro hk
      rcases List.mem_cons.mp (q.mp (List.mem_cons_of_mem _ hk)) with e | e
      · have z := h1 _ hk
        rw [e] at z
        exact (irr _ _ z z).elim
      · exact e
    · intro hk
      rcases List.mem_cons.mp (q.mpr (List.mem_cons_of_mem _ hk)) with e | e
      · have z := h3 _ hk
        rw [e] at z
        exact (irr _ _ z z).elim
      · exact e
theorem canP_eq {ps qs m : List Pr} (h : CanP ps qs) (h2 : m.Pairwise ltP) (h3 : ∀ k, k ∈ ps ↔ k ∈ m) : qs = m := ascP_eq h.1 h2 fun k => (h.2 k).trans (h3 k)
/-! ### as data -/
def pd (p : Pr) : PyData := .tuple [.int p.1, .int p.2]
theorem eqv_pd (p q : Pr) : PyData.eqv (pd p) (pd q) = decide (p = q) := by
  show ((p.1 == q.1) && ((p.2 == q.2) && true)) = _
  obtain ⟨a, b⟩ := p
  obtain ⟨c, d⟩ := q
  by_cases e1 : a = c <;> by_cases e2 : b = d <;> simp [e1, e2]
theorem eqvAll_pd : ∀ (l m : List Pr), PyData.eqvAll (l.map pd) (m.map pd) = decide (l = m)
  | [], [] => by simp [PyData.eqvAll]
  | [], y :: m => by simp [PyData.eqvAll]
  | x :: l, [] => by simp [PyData.eqvAll]
  | x :: l, y :: m => by
    show (PyData.eqv (pd x) (pd y) && PyData.eqvAll (l.map pd) (m.map pd)) = _
    rw [eqvAll_pd l m, eqv_pd]
    by_cases e : x = y <;> by_cases e2 : l = m <;> simp [e, e2]
theorem eqv_cells (l m : List Pr) : PyData.eqv (.list (l.map pd)) (.list (m.map pd)) = decide (l = m) := eqvAll_pd l m
theorem canAll_pd : ∀ l : List Pr, PyData.canLayAll0 (l.map pd) = true
  | [] => by simp [PyData.canLayAll0]
  | x :: l => by
    rw [List.map_cons]
    simp [PyData.canLayAll0, PyData.canLay0, pd, canAll_pd l]
theorem depAll_pd : ∀ l : List Pr, PyData.depthAll (l.map pd) ≤ 1
  | [] => by simp [PyData.depthAll]
  | x :: l => by
    rw [List.map_cons]
    have := depAll_pd l
    simp only [PyData.depthAll, PyData.depth, pd]
    omega
theorem shaped_cells (l : List Pr) : SeqAt.shaped (.list (l.map pd)) = true := by
  unfold SeqAt.shaped
  have := depAll_pd l
  simp only [PyData.canLay0, PyData.depth, canAll_pd]
  simp
  omega
theorem dp_cells {K : PySem.W.Frag} {H : Hp} {a : Addr} {ps : List Pr} (h : Cells H a ps) : Dp K H (.ref a) (.list (ps.map pd)) := by
  obtain ⟨ts, hl, ht, rfl⟩ := h
  refine .lst (lst_of hl) ?_
  have go : ∀ us : List (Addr × Pr), (∀ t ∈ us, H t.1 = some (.tup [.int t.2.1, .int t.2.2])) → DpAll K H (us.map fun t => V.ref t.1) ((us.map (·.2)).map pd) := fun us => by
    induction us with
    | nil => exact fun _ => .nil
    | cons t us ih => exact fun h => .cons (.tup (tup_of (h t List.mem_cons_self)) (.cons (.int _) (.cons (.int _) .nil))) (ih fun u m => h u (List.mem_cons_of_mem _ m))
  exact go ts ht
/-! ### sorted, of such a list -/
def kH (H : Hp) : V → Pr
  | .ref a => match H a with
    | some (.tup [.int x, .int y]) => (x, y)
    | _ => (0, 0)
  | _ => (0, 0)
def adV : V → Addr
  | .ref a => a
  | _ => 0
theorem kH_at {H : Hp} {a : Addr} {x : Pr} (h : H a = some (.tup [.int x.1, .int x.2])) : kH H (.ref a) = x := by
  show (match H a with
    | some (.tup [.int x, .int y]) => (x, y)
    | _ => (0, 0)) = x
  rw [h]
theorem ltP_irr {a b : Pr} (p : ltP a b) (q : ltP b a) : False := by
  have p := ltP_iff.mp p
  have q := ltP_iff.mp q
  omega
theorem nodup_lt {l : List Pr} (h : l.Pairwise ltP) : l.Nodup := h.imp fun {a b} q e => by
  subst e
  exact ltP_irr q q
theorem cr_sortedC {X : Cx} : CallR X (.builtin "sorted") (fun xs H Q => ∃ l ps, xs = [V.ref l] ∧ Cells H l ps ∧ ps.Nodup ∧
    ∀ p H' qs, Same H H' → H p = none → Cells H' p qs → CanP ps qs → qs.length = ps.length → Q (.ref p) H') := by
  intro pins s σ H xs us Q I r h
  obtain ⟨l, ps, rfl, ⟨ts, hl, ht, rfl⟩, nd, q⟩ := h
  refine cr_sortedPO pins s σ H [V.ref l] us Q I r ⟨l, ts.map fun t => V.ref t.1, kH H, rfl, lst_of hl, fun x m => ?_, fun ys p srt stb n => ?_⟩
  · obtain ⟨t, m1, rfl⟩ := List.mem_map.mp m
    have g := ht t m1
    refine ⟨t.1, rfl, ?_⟩
    rw [kH_at g]
    exact g
  · have own : ∀ y ∈ ys, ∃ t ∈ ts, y = V.ref t.1 := fun y m => by
      obtain ⟨t, m1, e⟩ := List.mem_map.mp (stb.perm.mem_iff.mp m)
      exact ⟨t, m1, e.symm⟩
    have key : ∀ t ∈ ts, kH H (.ref t.1) = t.2 := fun t m => kH_at (ht t m)
    have pm : (ys.map (kH H)).Perm (ts.map (·.2)) := by
      have z := stb.perm.map (kH H)
      rw [List.map_map] at z
      rw [show ts.map (·.2) = ts.map (kH H ∘ fun t => V.ref t.1) from List.map_congr_left fun t m => (key t m).symm]
      exact z
    have sm : Same H (upd H p (.lst ys)) := newS n
    have eo : (ys.map fun v => (adV v, kH H v)).map (fun t => V.ref t.1) = ys := by
      rw [List.map_map]
      refine (List.map_congr_left fun v m => ?_).trans (List.map_id _)
      obtain ⟨t, _, rfl⟩ := own v m
      rfl
    refine q p _ (ys.map (kH H)) sm n ⟨ys.map fun v => (adV v, kH H v), ?_, fun u m => ?_, ?_⟩ ⟨?_, fun x => pm.mem_iff⟩ pm.length_eq
    · rw [eo, upd_same]
    · obtain ⟨v, m1, rfl⟩ := List.mem_map.mp m
      obtain ⟨t, m2, rfl⟩ := own v m1
      refine sm _ _ ?_
      show H t.1 = _
      rw [key t m2]
      exact ht t m2
    · rw [List.map_map]
      rfl
    · have nd2 : (ys.map (kH H)).Nodup := pm.nodup_iff.mpr nd
      refine List.pairwise_map.mpr ((srt.and (List.pairwise_map.mp nd2)).imp fun {u v} h => ?_)
      have a1 := SrtO.lexB_no.mp h.1
      have a2 : ¬ ((kH H u).1 = (kH H v).1 ∧ (kH H u).2 = (kH H v).2) := fun e => h.2 (Prod.ext e.1 e.2)
      refine ltP_iff.mpr ?_
      omega
/-! ### dicts whose keys are such pairs -/
def keyP (x : Pr) : List L2.Key := [Sum.inl x.1, Sum.inl x.2]
theorem keyP_inj {x y : Pr} (h : keyP x = keyP y) : x = y := by
  injection h with h1 h2
  injection h2 with h2 _
  exact Prod.ext (Sum.inl.inj h1) (Sum.inl.inj h2)
def KeysP (kvs : List (List L2.Key × V)) (ps : List Pr) : Prop := kvs.map (·.1) = ps.map keyP ∧ ps.Nodup
theorem KeysP.put {kvs : List (List L2.Key × V)} {ps : List Pr} (h : KeysP kvs ps) (x : Pr) (v : V) :
    ∃ qs, KeysP (putK kvs (keyP x) v) qs ∧ qs.length ≤ ps.length + 1 ∧ ∀ y, y ∈ qs ↔ y ∈ ps ∨ y = x := by
  have mem : (kvs.any fun kv => decide (kv.1 = keyP x)) = true ↔ x ∈ ps := by
    rw [List.any_eq_true]
    constructor
    · rintro ⟨kv, m, e⟩
      have m2 : kv.1 ∈ ps.map keyP := by
        rw [← h.1]
        exact List.mem_map.mpr ⟨kv, m, rfl⟩
      obtain ⟨y, my, ey⟩ := List.mem_map.mp m2
      rw [← keyP_inj (ey.trans (of_decide_eq_true e))]
      exact my
    · intro m
      have m2 : keyP x ∈ kvs.map (·.1) := by
        rw [h.1]
        exact List.mem_map.mpr ⟨x, m, rfl⟩
      obtain ⟨kv, mk, e⟩ := List.mem_map.mp m2
      exact ⟨kv, mk, decide_eq_true e⟩
  by_cases c : x ∈ ps
  · refine ⟨ps, ⟨?_, h.2⟩, by omega, fun y => ⟨.inl, fun z => z.elim id fun e => e ▸ c⟩⟩
    unfold putK
    rw [if_pos (mem.mpr c), List.map_map, ← h.1]
    refine List.map_congr_left fun kv _ => ?_
    show (if kv.1 = keyP x then (kv.1, v) else kv).1 = kv.1
    by_cases e : kv.1 = keyP x
    · rw [if_pos e]
    · rw [if_neg e]
  · refine ⟨ps ++ [x], ⟨?_, ?_⟩, by rw [List.length_append]; exact Nat.le_refl _, fun y => by rw [List.mem_append, List.mem_singleton]⟩
    · unfold putK
      rw [if_neg (fun z => c (mem.mp z)), List.map_append, List.map_append, h.1]
      rfl
    · refine List.pairwise_append.mpr ⟨h.2, List.pairwise_cons.mpr ⟨fun _ m => (by cases m), List.Pairwise.nil⟩, fun a ma b mb e => ?_⟩
      rw [List.mem_singleton.mp mb] at e
      exact c (e ▸ ma)
theorem KeysP.len {kvs : List (List L2.Key × V)} {ps : List Pr} (h : KeysP kvs ps) : kvs.length = ps.length := by
  have z := congrArg List.length h.1
  rw [List.length_map, List.length_map] at z
  exact z
theorem KeysP.at {kvs : List (List L2.Key × V)} {ps : List Pr} (h : KeysP kvs ps) {i : Nat} {k : List L2.Key} {v : V} (e : kvs[i]? = some (k, v)) : ∃ x, ps[i]? = some x ∧ k.map kV = [.int x.1, .int x.2] := by
  have z := congrArg (fun l => l[i]?) h.1
  simp only [List.getElem?_map] at z
  rw [e] at z
  cases q : ps[i]? with
  | none => rw [q] at z; cases z
  | some x =>
    rw [q] at z
    refine ⟨x, rfl, ?_⟩
    have : k = keyP x := Option.some.inj z
    rw [this]
    rfl
/-- the keys of such a dict, listed -/
theorem lc_keysP {d : Addr} {od : Obj} {kvs : List (List L2.Key × V)} {ps : List Pr} {vs : List Nat} {σ : L2.St} {H1 : Hp} {D : Addr} {Qd : Hp → Prop} {g : TG} {tt : TT} {te : TE} (hK : KeysP kvs ps) (hD : H1 d = some (.frz od (.dT kvs))) (nD : H1 D = none) (few : ps.length < sizeLine)
    (hs : ∀ (t : Addr) (x : Pr) (H' : Hp) (Po : V → Hp → Prop) (Pn : Hp → Prop), H' t = some (.tup [.int x.1, .int x.2]) → Po (.ref t) H' →
      g (.ref t) (wipe σ vs) H' fun σ2 H2 => wipe σ2 vs = wipe σ vs ∧ tt σ2 H2 fun b H3 => if b = true then te σ2 H3 Po else Pn H3)
    (hd : ∀ H', Same H1 H' → Cells H' D ps → Qd H') :
    ∃ W : Nat → Nat → Hp → Prop, (∃ m, W 0 m (upd H1 D (.lst []))) ∧ ∀ i m H, W i m H →
      ((Itkt d od kvs).stop i H ∧ Qd H) ∨ ((Itkt d od kvs).go i H ∧ ∃ Nx : Hp → Prop, (∀ H', Nx H' → ∃ m', m' < m ∧ W (i + 1) m' H') ∧ ∀ x H', (Itkt d od kvs).yld i H x H' → g x (wipe σ vs) H' fun σ2 H2 => wipe σ2 vs = wipe σ vs ∧ tt σ2 H2 fun b H3 =>
        if b = true then te σ2 H3 fun y H4 => ∃ acc, H4 D = some (.lst acc) ∧ acc.length < sizeLine ∧ Nx (upd H4 D (.lst (acc ++ [y]))) else Nx H3) := by
  have len := hK.len
  refine lc_it walk_keysT (fun i H' => Same H1 H' ∧ ∃ us : List (Addr × Pr), H' D = some (.lst (us.map fun t => V.ref t.1)) ∧ (∀ t ∈ us, H' t.1 = some (.tup [.int t.2.1, .int t.2.2])) ∧ us.map (·.2) = ps.take i)
    ⟨newS nD, [], upd_same, fun _ m => (by cases m), rfl⟩ (fun i H' _ p => p.1 _ _ hD) ?_ ?_
  · rintro i x H' H2 hi ⟨sm, us, h1, h2, h3⟩ ⟨rfl, k, v, q, e, rfl, hq⟩
    obtain ⟨y, hy, ek⟩ := hK.at e
    rw [ek] at hq
    have ul : us.length = i := by
      have z := congrArg List.length h3
      rw [List.length_map, List.length_take] at z
      omega
    refine hs q y _ _ _ hq ⟨_, h1, ?_, mutS sm nD, us ++ [(q, y)], ?_, ?_, ?_⟩
    · rw [List.length_map]
      omega
    · rw [upd_same, List.map_append]
      rfl
    · intro u m
      have off : ∀ z : Addr × Pr, H2 z.1 = some (.tup [.int z.2.1, .int z.2.2]) → upd H2 D (.lst ((us.map fun t => V.ref t.1) ++ [V.ref q])) z.1 = some (.tup [.int z.2.1, .int z.2.2]) := fun z g => by
        rw [upd_ne (fun e => ?_)]
        · exact g
        · rw [e, h1] at g
          cases g
      rcases List.mem_append.mp m with m | m
      · exact off u (h2 u m)
      · rw [List.mem_singleton.mp m]
        exact off (q, y) hq
    · rw [List.map_append, h3, take_next hy]
      rfl
  · rintro H' ⟨sm, us, h1, h2, h3⟩
    refine hd H' sm ⟨us, h1, h2, ?_⟩
    rw [h3, List.take_of_length_le (by omega)]
/-- such a list outlives a change of an object that is no tuple and not the list -/
theorem Cells.mut {H : Hp} {l d : Addr} {ps : List Pr} {o : HO} (h : Cells H l ps) (ne : l ≠ d) (nt : ∀ xs, H d ≠ some (.tup xs)) : Cells (upd H d o) l ps := by
  obtain ⟨ts, h1, h2, h3⟩ := h
  refine ⟨ts, by rw [upd_ne ne]; exact h1, fun t m => ?_, h3⟩
  rw [upd_ne (fun e => nt _ (e ▸ h2 t m))]
  exact h2 t m
theorem cells_mk {H : Hp} {l : Addr} (us : List (Addr × Pr)) (h : H l = some (.lst (us.map fun t => V.ref t.1))) (ht : ∀ u ∈ us, H u.1 = some (.tup [.int u.2.1, .int u.2.2])) : Cells H l (us.map (·.2)) := ⟨us, h, ht, rfl⟩
def cutT {α : Type} (ts : List α) (lo hi : Option Int) : List α := (ts.drop (HT.sIx ts.length 0 lo)).take (HT.sIx ts.length ts.length hi - HT.sIx ts.length 0 lo)
theorem cutV_map {α : Type} (f : α → V) (ts : List α) (lo hi : Option Int) : cutV (ts.map f) lo hi = (cutT ts lo hi).map f := by
  unfold cutV cutT
  rw [List.length_map, List.map_take, List.map_drop]
theorem cutT_mem {α : Type} {ts : List α} {lo hi : Option Int} {x : α} (h : x ∈ cutT ts lo hi) : x ∈ ts := List.mem_of_mem_drop (List.mem_of_mem_take h)
theorem cutT_len {α : Type} (ts : List α) (lo hi : Option Int) : (cutT ts lo hi).length ≤ ts.length := by
  unfold cutT
  rw [List.length_take, List.length_drop]
  omega
theorem eq_cells {l m : List Pr} (h : l = m) : V.bl (PyData.eqv (.list (l.map pd)) (.list (m.map pd))) = V.bl true := by
  rw [eqv_cells, decide_eq_true h]
theorem ne_cells {l m : List Pr} (h : l = m) : V.bl (!PyData.eqv (.list (l.map pd)) (.list (m.map pd))) = V.bl false := by
  rw [eqv_cells, decide_eq_true h] <;> rfl
theorem pw_map {f : Pr → Pr} (hf : ∀ x y, ltP x y → ltP (f x) (f y)) {l : List Pr} (h : l.Pairwise ltP) : (l.map f).Pairwise ltP := List.pairwise_map.mpr (h.imp fun {x y} q => hf x y q)
theorem nodup_map {f : Pr → Pr} (hf : ∀ x y, f x = f y → x = y) {l : List Pr} (h : l.Nodup) : (l.map f).Nodup := List.pairwise_map.mpr (h.imp fun {x y} q e => q (hf x y e))
theorem mem_map2 {f : Pr → Pr} {l m : List Pr} (h : ∀ x, x ∈ l ↔ x ∈ m) (k : Pr) : k ∈ l.map f ↔ k ∈ m.map f := by
  rw [List.mem_map, List.mem_map]
  exact ⟨fun ⟨x, m1, e⟩ => ⟨x, (h x).mp m1, e⟩, fun ⟨x, m1, e⟩ => ⟨x, (h x).mpr m1, e⟩⟩
theorem wipe2 (σ : L2.St) (i j : Nat) (a b : Option V) : wipe (((wipe σ [i, j]).set i a).set j b) [i, j] = wipe σ [i, j] := by
  refine List.ext_getElem? fun k => ?_
  show ((((((σ.set j none).set i none).set i a).set j b).set j none).set i none)[k]? = ((σ.set j none).set i none)[k]?
  simp only [List.getElem?_set, List.length_set]
  by_cases e1 : i = k <;> by_cases e2 : j = k <;> by_cases e3 : k < σ.length <;> simp [e1, e2, e3]
end Vx
namespace Vx
open PySem PySem.Spec PyProof.Rows L2
section
variable {X : Cx}
/-- xs[j], read for xs[j] op= v -/
theorem pget_list : PGet X (fun o i H Q => ∃ p xs j v, o = .ref p ∧ i = .int ((j : Nat) : Int) ∧ SqL X.K H p xs ∧ xs[j]? = some v ∧ Q v H) := by
  intro pins s σ H o i ov iv Q I ro ri h
  obtain ⟨p, xs, j, v, rfl, rfl, hs, hv, q⟩ := h
  cases ro
  obtain ⟨t, rfl⟩ := ri
  obtain ⟨its, r, pl, hz⟩ := I.list hs
  obtain ⟨w, ew, rw'⟩ := r.get hv
  exact getItem_listL pl.isList (by omega) (by have := line63; have := (List.getElem?_eq_some_iff.mp hv).1; omega) (by simpa using ew) ⟨v, H, I, rw', q⟩
theorem ip_addS : PIp X .Add (fun x y H Q => ∃ i j, x = .str i ∧ y = .str j ∧ i.length + j.length ≤ sizeLine ∧ Q (.str (i ++ j)) H) := fun pins s σ H x y v u Q I r1 r2 h => iop_add_str pins s σ H x y v u Q I r1 r2 h
end
theorem lc_pairs {lo : Int} {n : Nat} {g : TG} {tt : TT} {te : TE} {vs : List Nat} {σ : L2.St} {H1 : Hp} {D : Addr} {Qd : Hp → Prop} (f : Nat → Pr) (nD : H1 D = none) (few : n < sizeLine)
    (hs : ∀ (i : Nat) (H' : Hp) (Po : V → Hp → Prop) (Pn : Hp → Prop), i < n → Same H1 H' → (∀ t2, H' t2 = none → Po (.ref t2) (upd H' t2 (.tup [.int (f i).1, .int (f i).2]))) →
      g (.int (lo + i)) (wipe σ vs) H' fun σ2 H2 => wipe σ2 vs = wipe σ vs ∧ tt σ2 H2 fun b H3 => if b = true then te σ2 H3 Po else Pn H3)
    (hd : ∀ (H' : Hp) (us : List (Addr × Pr)), Same H1 H' → H' D = some (.lst (us.map fun t => V.ref t.1)) → (∀ t ∈ us, H' t.1 = some (.tup [.int t.2.1, .int t.2.2])) → us.map (·.2) = (List.range n).map f → Qd H') :
    ∃ W : Nat → Nat → Hp → Prop, (∃ m, W 0 m (upd H1 D (.lst []))) ∧ ∀ i m H, W i m H →
      ((Itr lo n).stop i H ∧ Qd H) ∨ ((Itr lo n).go i H ∧ ∃ Nx : Hp → Prop, (∀ H', Nx H' → ∃ m', m' < m ∧ W (i + 1) m' H') ∧ ∀ x H', (Itr lo n).yld i H x H' → g x (wipe σ vs) H' fun σ2 H2 => wipe σ2 vs = wipe σ vs ∧ tt σ2 H2 fun b H3 =>
        if b = true then te σ2 H3 fun y H4 => ∃ acc, H4 D = some (.lst acc) ∧ acc.length < sizeLine ∧ Nx (upd H4 D (.lst (acc ++ [y]))) else Nx H3) := by
  refine lc_range (lo := lo) (n := n) (fun i H' => Same H1 H' ∧ ∃ us : List (Addr × Pr), H' D = some (.lst (us.map fun t => V.ref t.1)) ∧ (∀ t ∈ us, H' t.1 = some (.tup [.int t.2.1, .int t.2.2])) ∧ us.map (·.2) = (List.range i).map f)
    ⟨newS nD, [], upd_same, fun _ m => (by cases m), rfl⟩ ?_ ?_
  · rintro i H' hi ⟨sm, us, h1, h2, h3⟩
    have ul : us.length = i := by
      have z := congrArg List.length h3
      rw [List.length_map, List.length_map, List.length_range] at z
      exact z
    refine hs i H' _ _ hi sm fun t2 n2 => ⟨us.map fun t => V.ref t.1, newS n2 _ _ h1, ?_, mutS (sm.trans (newS n2)) nD, us ++ [(t2, f i)], ?_, ?_, ?_⟩
    · rw [List.length_map, ul]
      omega
    · rw [upd_same, List.map_append]
      rfl
    · have nD2 : t2 ≠ D := fun e => by
        rw [e, h1] at n2
        cases n2
      intro u m
      rcases List.mem_append.mp m with m | m
      · have z := h2 u m
        rw [upd_ne (fun e => ?_)]
        · exact newS n2 _ _ z
        · rw [e, h1] at z
          cases z
      · rw [List.mem_singleton.mp m, upd_ne nD2, upd_same]
    · rw [List.map_append, h3, List.range_succ, List.map_append]
      rfl
  · rintro H' ⟨sm, us, h1, h2, h3⟩
    exact hd H' us sm h1 h2 h3
/-- a pair in a list of pairs -/
theorem any_pd (p : Pr) : ∀ ps : List Pr, (ps.map pd).any (fun z => PyData.eqv z (pd p)) = decide (p ∈ ps)
  | [] => by simp
  | q :: ps => by
    rw [List.map_cons, List.any_cons, any_pd p ps, eqv_pd]
    by_cases e : q = p
    · subst e
      simp
    · have e2 : ¬ p = q := fun z => e z.symm
      simp [e, e2]
theorem shaped_pd (p : Pr) : SeqAt.shaped (pd p) = true := by
  unfold SeqAt.shaped pd
  simp [PyData.canLay0, PyData.canLayAll0, PyData.depth, PyData.depthAll]
theorem op_inP {X : Cx} (hu : X.A.units + 65 < cLine) : OpR X (compareOp .In) (fun x y H Q => ∃ (t a : Addr) (p : Pr) (ps : List Pr), x = .ref t ∧ y = .ref a ∧ H t = some (.tup [.int p.1, .int p.2]) ∧ Cells H a ps ∧ Q (.bl (decide (p ∈ ps))) H) := by
  intro pins s σ H x y v u Q I rx ry h
  obtain ⟨t, a, p, ps, rfl, rfl, ht, hc, q⟩ := h
  refine op_inD hu pins s σ H _ _ v u Q I rx ry ⟨pd p, ps.map pd, .tup (tup_of ht) (.cons (.int _) (.cons (.int _) .nil)), dp_cells hc, shaped_pd p, shaped_cells ps, ?_⟩
  rw [any_pd]
  exact q
/-- sorted, of a list of pairs that may hold one several times -/
theorem cr_sortedN {X : Cx} : CallR X (.builtin "sorted") (fun xs H Q => ∃ l ps, xs = [V.ref l] ∧ Cells H l ps ∧
    ∀ p H' qs, Same H H' → H p = none → Cells H' p qs → qs.Perm ps → qs.Pairwise (fun x y => ¬ ltP y x) → Q (.ref p) H') := by
  intro pins s σ H xs us Q I r h
  obtain ⟨l, ps, rfl, ⟨ts, hl, ht, rfl⟩, q⟩ := h
  refine cr_sortedPO pins s σ H [V.ref l] us Q I r ⟨l, ts.map fun t => V.ref t.1, kH H, rfl, lst_of hl, fun x m => ?_, fun ys p srt stb n => ?_⟩
  · obtain ⟨t, m1, rfl⟩ := List.mem_map.mp m
    have g := ht t m1
    refine ⟨t.1, rfl, ?_⟩
    rw [kH_at g]
    exact g
  · have own : ∀ y ∈ ys, ∃ t ∈ ts, y = V.ref t.1 := fun y m => by
      obtain ⟨t, m1, e⟩ := List.mem_map.mp (stb.perm.mem_iff.mp m)
      exact ⟨t, m1, e.symm⟩
    have key : ∀ t ∈ ts, kH H (.ref t.1) = t.2 := fun t m => kH_at (ht t m)
    have pm : (ys.map (kH H)).Perm (ts.map (·.2)) := by
      have z := stb.perm.map (kH H)
      rw [List.map_map] at z
      rw [show ts.map (·.2) = ts.map (kH H ∘ fun t => V.ref t.1) from List.map_congr_left fun t m => (key t m).symm]
      exact z
    have sm : Same H (upd H p (.lst ys)) := newS n
    have eo : (ys.map fun v => (adV v, kH H v)).map (fun t => V.ref t.1) = ys := by
      rw [List.map_map]
      refine (List.map_congr_left fun v m => ?_).trans (List.map_id _)
      obtain ⟨t, _, rfl⟩ := own v m
      rfl
    refine q p _ (ys.map (kH H)) sm n ⟨ys.map fun v => (adV v, kH H v), ?_, fun u m => ?_, ?_⟩ pm ?_
    · rw [eo, upd_same]
    · obtain ⟨v, m1, rfl⟩ := List.mem_map.mp m
      obtain ⟨t, m2, rfl⟩ := own v m1
      refine sm _ _ ?_
      show H t.1 = _
      rw [key t m2]
      exact ht t m2
    · rw [List.map_map]
      rfl
    · refine List.pairwise_map.mpr (srt.imp fun {u v} h z => ?_)
      have h : SrtO.lexB (kH H v) (kH H u) = false := h
      have z : SrtO.lexB (kH H v) (kH H u) = true := z
      rw [h] at z
      cases z
end Vx
namespace Vx
open PySem PySem.Spec PyProof.Rows L2
/-! ### the items of a dict whose keys are tuples -/
section
variable {X : Cx} {pins : List (Addr × Obj)} {σ : L2.St} {H : Hp} {s : Shared} {d : Addr} {o : Obj}
theorem frzT2 {kvs : List (List L2.Key × V)} (I : Inv X pins σ H s) (h : H d = some (.frz o (.dT kvs))) :
    (d == sysModules) = false ∧ s.heap.get? d = some o ∧ o.ExactDict ∧ ∃ (es : Array DictEntry) (ep : Nat), o.data = .dict es ep ∧ es.size = kvs.length ∧
      ∀ (i : Nat) (k : List L2.Key) (v : V), kvs[i]? = some (k, v) → ∃ (en : DictEntry) (q : Addr), es[i]? = some en ∧ en.key = .ref q ∧ H q = some (.tup (k.map kV)) ∧ RelV v en.val := by
  obtain ⟨hd, z, hs, xs, pr, o', es, ep, ho, hx, hdt, he, _⟩ := I.hok d _ h
  have eo : o = o' := Option.some.inj (hd.symm.trans ho)
  subst eo
  refine ⟨hs, hd, hx, es, ep, hdt, (size_of_entries he).trans (Paired.length pr).symm, fun i k v e => ?_⟩
  obtain ⟨b, hb, _, e2, e3⟩ := paired_get pr e
  refine ⟨entryOfKey (tupleKind (mixKind X.prog X.w)) b, b.2.1, ?_, rfl, e2, e3⟩
  rw [entry_at he i, hb]
  rfl
end
/-- its items, each a new pair of the key's tuple and the value -/
def ItiT (d : Addr) (o : Obj) (kvs : List (List L2.Key × V)) : It where
  go i H := H d = some (.frz o (.dT kvs)) ∧ i < kvs.length
  yld i H x H' := ∃ (T : Addr) (k : List L2.Key) (v : V) (q : Addr), kvs[i]? = some (k, v) ∧ x = .ref T ∧ H q = some (.tup (k.map kV)) ∧ H T = none ∧ H' = upd H T (.tup [.ref q, v])
  stop i H := H d = some (.frz o (.dT kvs)) ∧ kvs.length ≤ i
section
variable {P : Program} {w : World} {K : PySem.W.Frag} {d : Addr} {o : Obj} {es : Array DictEntry} {ep : Nat}
theorem turn_itemsT {kvs : List (List L2.Key × V)} {elts : List Expr} {kk : Nat} {tpos : Pos} (it : Addr) (hod : o.data = .dict es ep) :
    Turn P w K (.Tuple elts kk tpos) (ItiT d o kvs) [it] it (fun i h => ∃ ok ov, IsItemIter h it d i kvs.length ep ok ov) where
  mem := List.mem_singleton.mpr rfl
  obj := fun i h st b hb => by
    obtain ⟨ok, ov, e⟩ := st
    rw [List.mem_singleton.mp hb]
    exact ⟨_, e, fun v z => nomatch z⟩
  keep := fun i h h' st k => by
    obtain ⟨ok, ov, e⟩ := st
    exact ⟨ok, ov, k it (List.mem_singleton.mpr rfl) _ e⟩
  item := by
    intro X hP hw hK hc i pins s σ H E I hf st hg
    subst hP hw hK
    obtain ⟨hd, hi⟩ := hg
    obtain ⟨hs, hgd, hx, es', ep', hdt, hsz, ent⟩ := frzT2 I hd
    obtain ⟨rfl, rfl⟩ := dict_ep hod hdt
    obtain ⟨⟨k, v⟩, hkv⟩ : ∃ p, kvs[i]? = some p := ⟨kvs[i], List.getElem?_eq_getElem hi⟩
    obtain ⟨en, q, hen, hkey, hq, rv⟩ := ent i k v hkv
    obtain ⟨ok, ov, he⟩ := st
    have hlt : it < s.heap.objs.size := Heap.lt_size he
    have hi' : i < es'.size := by
      rw [hsz]
      exact hi
    have een : es'[i] = en := by
      rw [Array.getElem?_eq_getElem hi'] at hen
      exact Option.some.inj hen
    rw [← hsz] at he
    refine DT.nextI he ⟨o, hgd, hx, hdt⟩ hi' fun h' ho hT hz hk => ?_
    rw [een, hkey] at ho hT
    refine ⟨_, rfl, wpAny_letOwnedTupleGo_items (s := { s with heap := h' }) ho fun h'' he' sb => ?_⟩
    have hT2 : h''.get? s.heap.objs.size = some { cls := .type "tuple", data := .seq #[.ref q, en.val] } := (sb.2 _ (Nat.ne_of_gt hlt)).trans hT
    have new : ObjOk X.prog X.w (upd H s.heap.objs.size (.tup [.ref q, v])) h'' s.heap.objs.size (.tup [.ref q, v]) :=
      ⟨by show 2 ≤ sizeLine; decide, [.ref q, en.val], .cons rfl (.cons rv .nil), ⟨_, hT2, rfl, _, rfl⟩⟩
    have I1 : Inv X pins σ (upd H s.heap.objs.size (.tup [.ref q, v])) { s with heap := h'' } :=
      I.turnedNew (t' := s.toks) (ch := [it]) (fun b ob hb e => (sb.2 b (by simpa using hb)).trans (hk b ob (by simpa using hb) e)) hf (Nat.le_refl _) new
    refine ⟨.ref s.heap.objs.size, _, I1, rfl, ⟨_, k, v, q, hkv, rfl, hq, I.hok.fresh (Nat.le_refl _), rfl⟩, ⟨.ref q, en.val, ?_⟩, fun b hb => ?_⟩
    · rw [← hsz]
      exact he'
    · rw [List.mem_singleton.mp hb, upd_ne (Nat.ne_of_lt hlt)]
      exact (hf it (List.mem_singleton.mpr rfl)).1
  done := by
    intro X hP hw hK hc i pins s σ H E I hf st hg
    subst hP hw hK
    obtain ⟨hd, hi⟩ := hg
    obtain ⟨f0, f1, f2, f3, f4, f5⟩ := hf it (List.mem_singleton.mpr rfl)
    obtain ⟨hs, hgd, hx, es', ep', hdt, hsz, ent⟩ := frzT2 I hd
    obtain ⟨rfl, rfl⟩ := dict_ep hod hdt
    obtain ⟨ok, ov, he⟩ := st
    rw [← hsz] at he
    exact DT.endI (I.ok.hd hc) he ⟨o, hgd, hx, hdt⟩ (by omega) fun h' eb => ⟨rfl, I.turned (t' := s.toks) (fun b ob hb e => eb b ob hb e) f0 f1 f3 f4 f5⟩
  self := fun A i s Q E st h => by
    obtain ⟨_, _, e⟩ := st
    exact PySem.W.kcp_self e h
end
def iItemsT (td : TE) : TI := fun σ H R => td σ H fun x H1 => ∃ d o kvs, x = .ref d ∧ H1 d = some (.frz o (.dT kvs)) ∧ R (ItiT d o kvs) H1
theorem pi_itemsT {X : Cx} {e : Expr} {td : TE} {apos cpos tpos : Pos} {elts : List Expr} {kk : Nat} (he : PE X e td) (hbase : attributeBase e "items" X.env (eval e X.env) = eval e X.env := by rfl) (hline : (apos.endLine == cpos.line) = true := by rfl) :
    PI X (.Tuple elts kk tpos) (.Call (.Attribute e "items" apos) [] [] cpos) (iItemsT td) := by
  refine ⟨fun pins s σ H R I h => ?_⟩
  refine wpAny_Call_method (T := "dict") (id := "dict.items") hbase rfl hline F.plainAttrs_dict F.slot_dict_items F.type_dict_items (thn (he.run pins s σ H _ I h) fun u s1 ⟨x, H1, I1, rx, d, o, kvs, ex, hd, q⟩ => ?_)
  subst ex
  obtain rfl : u = Value.ref d := rx
  obtain ⟨hs, hgd, hx, es, ep, hdt, hsz, ent⟩ := frzT2 I1 hd
  have raw : DT.Raw s1.heap d es ep := ⟨o, hgd, hx, hdt⟩
  refine ⟨raw.typeIs, (fun a ea => by cases ea; exact ⟨o, hgd, hx.2.1⟩), ?_⟩
  have I2 : Inv X pins σ H1 { s1 with heap := s1.heap.push { cls := .type "dict_items", data := .fields #[.ref d] } } := I1.kept (t' := s1.toks) fun b ob q => Heap.get?_push_of_some _ q
  have fin : wpAny (model X.prog X.w) X.A (pyIter (.ref s1.heap.objs.size)) (PIE X pins σ (.Tuple elts kk tpos) R) X.xe { s1 with heap := s1.heap.push { cls := .type "dict_items", data := .fields #[.ref d] } } := by
    refine DT.iterI (d := d) (es := es) (ep := ep) ⟨_, Heap.get?_push_size _ rfl, rfl, rfl⟩ (raw.push _) (pi_one (tk := s1.toks) I2 _ (turn_itemsT _ hdt) ⟨.none, .none, ?_⟩ q)
    rw [hsz]
    exact Heap.get?_push_size _ rfl
  show wpAny _ _ (callWith cpos (.builtin "dict.items") [.ref d] [] []) _ X.xe s1
  exact method_meetsIn F.slot_dict_items F.entry_dict_items rfl (PySem.evalArgs_none ⟨rfl, raw.typeIs, F.args_dict_items_1 _, _, DT.meetsItems (es := es) (ep := ep) hs, ⟨raw, fin⟩⟩)
theorem walk_itemsT {d : Addr} {o : Obj} {kvs : List (List L2.Key × V)} : Walk (ItiT d o kvs) kvs.length (fun H => H d = some (.frz o (.dT kvs)))
    (fun i H x H' => ∃ (T : Addr) (k : List L2.Key) (v : V) (q : Addr), kvs[i]? = some (k, v) ∧ x = .ref T ∧ H q = some (.tup (k.map kV)) ∧ H T = none ∧ H' = upd H T (.tup [.ref q, v])) :=
  ⟨fun _ _ hi q => ⟨q, hi⟩, fun _ q => ⟨q, Nat.le_refl _⟩, fun _ _ _ _ _ _ y => y⟩
end Vx
namespace Vx
open PySem PySem.Spec PyProof.Rows L2
/-! ### bits of numbers from 0 on -/
theorem xor_and_add : ∀ a b : Nat, (a ^^^ b) + 2 * (a &&& b) = a + b := by
  intro a
  induction a using Nat.strongRecOn with
  | _ a ih =>
    intro b
    by_cases h : a = 0
    · subst h
      simp
    · have e := ih (a / 2) (by omega) (b / 2)
      have x1 : (a ^^^ b) / 2 = (a / 2) ^^^ (b / 2) := Nat.xor_div_two
      have x2 : (a &&& b) / 2 = (a / 2) &&& (b / 2) := Nat.and_div_two
      have t1 := Nat.testBit_xor a b 0
      have t2 := Nat.testBit_and a b 0
      rw [Nat.testBit_zero, Nat.testBit_zero, Nat.testBit_zero] at t1 t2
      have y1 : (a ^^^ b) % 2 = (a % 2 + b % 2) % 2 := by
        by_cases p : a % 2 = 1 <;> by_cases q : b % 2 = 1
        · rw [decide_eq_true p, decide_eq_true q] at t1
          have := of_decide_eq_false t1
          omega
        · rw [decide_eq_true p, decide_eq_false q] at t1
          have := of_decide_eq_true t1
          omega
        · rw [decide_eq_false p, decide_eq_true q] at t1
          have := of_decide_eq_true t1
          omega
        · rw [decide_eq_false p, decide_eq_false q] at t1
          have := of_decide_eq_false t1
          omega
      have y2 : (a &&& b) % 2 = if a % 2 = 1 ∧ b % 2 = 1 then 1 else 0 := by
        by_cases p : a % 2 = 1 <;> by_cases q : b % 2 = 1
        · rw [decide_eq_true p, decide_eq_true q] at t2
          rw [if_pos ⟨p, q⟩]
          exact of_decide_eq_true t2
        · rw [decide_eq_true p, decide_eq_false q] at t2
          rw [if_neg fun z => q z.2]
          have := of_decide_eq_false t2
          omega
        · rw [decide_eq_false p, decide_eq_true q] at t2
          rw [if_neg fun z => p z.1]
          have := of_decide_eq_false t2
          omega
        · rw [decide_eq_false p, decide_eq_false q] at t2
          rw [if_neg fun z => p z.1]
          have := of_decide_eq_false t2
          omega
      have z1 := Nat.div_add_mod (a ^^^ b) 2
      have z2 := Nat.div_add_mod (a &&& b) 2
      rw [x1, y1] at z1
      rw [x2, y2] at z2
      by_cases p : a % 2 = 1 ∧ b % 2 = 1
      · rw [if_pos p] at z2
        omega
      · rw [if_neg p] at z2
        omega
theorem or_and_xor (a b : Nat) : (a ||| b) = (a ^^^ b) + (a &&& b) := by
  have d : (a ^^^ b) &&& (a &&& b) = 0 := by
    refine Nat.eq_of_testBit_eq fun i => ?_
    simp only [Nat.testBit_and, Nat.testBit_xor, Nat.zero_testBit]
    cases a.testBit i <;> cases b.testBit i <;> rfl
  have e := xor_and_add (a ^^^ b) (a &&& b)
  rw [d] at e
  have f : (a ^^^ b) ^^^ (a &&& b) = a ||| b := by
    refine Nat.eq_of_testBit_eq fun i => ?_
    simp only [Nat.testBit_and, Nat.testBit_xor, Nat.testBit_or]
    cases a.testBit i <;> cases b.testBit i <;> rfl
  omega
theorem bAnd (a b : Nat) : Builtin.bitAnd (a : Int) (b : Int) = ((a &&& b : Nat) : Int) := PySem.W.os_band a b
theorem bOr (a b : Nat) : Builtin.bitOr (a : Int) (b : Int) = ((a ||| b : Nat) : Int) := by
  rw [bitOr_nn (Int.natCast_nonneg a) (Int.natCast_nonneg b), Int.toNat_natCast, Int.toNat_natCast]
theorem bXor (a b : Nat) : Builtin.bitXor (a : Int) (b : Int) = ((a ^^^ b : Nat) : Int) := by
  show Builtin.bitOr (a : Int) (b : Int) - Builtin.bitAnd (a : Int) (b : Int) = _
  rw [bAnd, bOr, or_and_xor]
  omega
section
variable {X : Cx}
theorem op_andNN : OpR X (binaryOp .BitAnd) (fun x y H Q => ∃ a b : Nat, x = .int (a : Int) ∧ y = .int (b : Int) ∧ Q (.int ((a &&& b : Nat) : Int)) H) := by
  intro pins s σ H x y v u Q I r1 r2 h
  obtain ⟨a, b, rfl, rfl, q⟩ := h
  exact op_and pins s σ H _ _ v u Q I r1 r2 ⟨_, _, rfl, rfl, (by show Q (V.int (Builtin.bitAnd (a : Int) (b : Int))) H; rw [bAnd]; exact q)⟩
theorem op_orNN : OpR X (binaryOp .BitOr) (fun x y H Q => ∃ a b : Nat, x = .int (a : Int) ∧ y = .int (b : Int) ∧ Q (.int ((a ||| b : Nat) : Int)) H) := by
  intro pins s σ H x y v u Q I r1 r2 h
  obtain ⟨a, b, rfl, rfl, q⟩ := h
  exact op_or pins s σ H _ _ v u Q I r1 r2 ⟨_, _, rfl, rfl, (by show Q (V.int (Builtin.bitOr (a : Int) (b : Int))) H; rw [bOr]; exact q)⟩
theorem op_xorNN : OpR X (binaryOp .BitXor) (fun x y H Q => ∃ a b : Nat, x = .int (a : Int) ∧ y = .int (b : Int) ∧ Q (.int ((a ^^^ b : Nat) : Int)) H) := by
  intro pins s σ H x y v u Q I r1 r2 h
  obtain ⟨a, b, rfl, rfl, q⟩ := h
  exact op_xor pins s σ H _ _ v u Q I r1 r2 ⟨_, _, rfl, rfl, (by show Q (V.int (Builtin.bitXor (a : Int) (b : Int))) H; rw [bXor]; exact q)⟩
theorem ip_orNN : PIp X .BitOr (fun x y H Q => ∃ a b : Nat, x = .int (a : Int) ∧ y = .int (b : Int) ∧ Q (.int ((a ||| b : Nat) : Int)) H) := by
  intro pins s σ H x y v u Q I r1 r2 h
  obtain ⟨a, b, rfl, rfl, q⟩ := h
  exact iop_or pins s σ H _ _ v u Q I r1 r2 ⟨_, _, rfl, rfl, (by show Q (V.int (Builtin.bitOr (a : Int) (b : Int))) H; rw [bOr]; exact q)⟩
theorem ip_xorNN : PIp X .BitXor (fun x y H Q => ∃ a b : Nat, x = .int (a : Int) ∧ y = .int (b : Int) ∧ Q (.int ((a ^^^ b : Nat) : Int)) H) := by
  intro pins s σ H x y v u Q I r1 r2 h
  obtain ⟨a, b, rfl, rfl, q⟩ := h
  exact iop_xor pins s σ H _ _ v u Q I r1 r2 ⟨_, _, rfl, rfl, (by show Q (V.int (Builtin.bitXor (a : Int) (b : Int))) H; rw [bXor]; exact q)⟩
theorem op_shrNN : OpR X (binaryOp .RShift) (fun x y H Q => ∃ a k : Nat, x = .int (a : Int) ∧ y = .int (k : Int) ∧ Q (.int ((a >>> k : Nat) : Int)) H) := by
  intro pins s σ H x y v u Q I r1 r2 h
  obtain ⟨a, k, rfl, rfl, q⟩ := h
  refine op_shrN pins s σ H _ _ v u Q I r1 r2 ⟨_, k, rfl, rfl, ?_⟩
  rw [show (a : Int) / 2 ^ k = ((a >>> k : Nat) : Int) by rw [Nat.shiftRight_eq_div_pow]; exact (by push_cast; rfl)]
  exact q
theorem op_shlNN : OpR X (binaryOp .LShift) (fun x y H Q => ∃ (a k n : Nat), x = .int (a : Int) ∧ y = .int (k : Int) ∧ a < 2 ^ n ∧ n + k ≤ 134217728 ∧ Q (.int ((a <<< k : Nat) : Int)) H) := by
  intro pins s σ H x y v u Q I r1 r2 h
  obtain ⟨a, k, n, rfl, rfl, la, lk, q⟩ := h
  refine op_shlN pins s σ H _ _ v u Q I r1 r2 ⟨_, k, rfl, rfl, shl_ok (n := n) la lk, ?_⟩
  rw [show (a : Int) * 2 ^ k = ((a <<< k : Nat) : Int) by rw [Nat.shiftLeft_eq]; exact (by push_cast; rfl)]
  exact q
end
/-! ### the bits that are set, ascending -/
def bitsB (N n : Nat) : List Nat := (List.range N).filter fun j => n.testBit j
theorem mem_bitsB {N n j : Nat} : j ∈ bitsB N n ↔ j < N ∧ n.testBit j = true := by
  unfold bitsB
  rw [List.mem_filter, List.mem_range]
theorem low_bit : ∀ n : Nat, n ≠ 0 → ∃ k a, n = 2 ^ k * (2 * a + 1) := by
  intro n
  induction n using Nat.strongRecOn with
  | _ n ih =>
    intro h
    by_cases e : n % 2 = 1
    · exact ⟨0, n / 2, by omega⟩
    · obtain ⟨k, a, q⟩ := ih (n / 2) (by omega) (by omega)
      refine ⟨k + 1, a, ?_⟩
      have : n = 2 * (n / 2) := by omega
      rw [this, q, Nat.pow_succ, Nat.mul_comm (2 ^ k) 2, Nat.mul_assoc]
theorem low_test {k a j : Nat} : (2 ^ k * (2 * a + 1)).testBit j = (decide (j = k) || (decide (k < j) && (2 ^ k * (2 * a)).testBit j)) := by
  rw [Nat.testBit_two_pow_mul, Nat.testBit_two_pow_mul]
  by_cases h : k ≤ j
  · by_cases e : j = k
    · subst e
      simp [Nat.testBit_zero]
    · have e2 : k < j := by omega
      have e3 : j - k = (j - k - 1) + 1 := by omega
      rw [e3, Nat.testBit_succ, Nat.testBit_succ]
      have e4 : (2 * a + 1) / 2 = 2 * a / 2 := by omega
      rw [e4]
      simp [h, e, e2]
  · have e : j ≠ k := by omega
    have e2 : ¬ k < j := by omega
    simp [h, e, e2]
theorem low_xor (k a : Nat) : 2 ^ k * (2 * a + 1) ^^^ 2 ^ k = 2 ^ k * (2 * a) := by
  refine Nat.eq_of_testBit_eq fun j => ?_
  rw [Nat.testBit_xor, low_test, Nat.testBit_two_pow]
  by_cases e : k = j
  · subst e
    simp [Nat.testBit_two_pow_mul, Nat.testBit_zero]
  · have e' : j ≠ k := fun z => e z.symm
    simp only [e, e', decide_false, Bool.false_or, Bool.xor_false]
    by_cases h : k < j
    · simp [h]
    · have : ¬ k ≤ j := by omega
      simp [h, this, Nat.testBit_two_pow_mul]
theorem bits_low {N k a : Nat} (h : 2 ^ k * (2 * a + 1) < 2 ^ N) : bitsB N (2 ^ k * (2 * a + 1)) = k :: bitsB N (2 ^ k * (2 * a)) := by
  have hk : k < N := by
    have : 2 ^ k < 2 ^ N := Nat.lt_of_le_of_lt (Nat.le_mul_of_pos_right _ (by omega)) h
    exact (Nat.pow_lt_pow_iff_right (by decide)).mp this
  have e : List.range N = List.range k ++ k :: (List.range (N - k - 1)).map (fun j => k + 1 + j) := by
    have e1 := List.range_add (n := k) (m := N - k)
    rw [show k + (N - k) = N by omega] at e1
    rw [e1, show N - k = (N - k - 1) + 1 by omega, List.range_succ_eq_map, List.map_cons, List.map_map]
    simp
    intro j _
    omega
  have z : ∀ m, (List.range k).filter (fun j => (2 ^ k * m).testBit j) = [] := fun m => by
    refine List.filter_eq_nil_iff.mpr fun j hj => ?_
    have := List.mem_range.mp hj
    rw [Nat.testBit_two_pow_mul]
    have : ¬ k ≤ j := by omega
    simp [this]
  unfold bitsB
  rw [e, List.filter_append, List.filter_append, z, z, List.nil_append, List.nil_append, List.filter_cons, List.filter_cons]
  rw [if_pos (by rw [low_test]; simp), if_neg (by rw [Nat.testBit_two_pow_mul]; simp [Nat.testBit_zero])]
  refine congrArg _ (List.filter_congr fun j hj => ?_)
  obtain ⟨i, _, rfl⟩ := List.mem_map.mp hj
  rw [low_test]
  have e1 : ¬ k + 1 + i = k := by omega
  have e2 : k < k + 1 + i := by omega
  simp [e1, e2]
theorem bits_zero (N : Nat) : bitsB N 0 = [] := by
  unfold bitsB
  exact List.filter_eq_nil_iff.mpr fun j _ => by simp
theorem low_and (k a : Nat) : Builtin.bitAnd ((2 ^ k * (2 * a + 1) : Nat) : Int) (-((2 ^ k * (2 * a + 1) : Nat) : Int)) = ((2 ^ k : Nat) : Int) := by
  have e := PySem.W.kbt_low k (a : Int)
  push_cast
  exact e
theorem intBits_pow (k : Nat) : Builtin.Int.intBits ((2 ^ k : Nat) : Int) = k + 1 := by
  unfold Builtin.Int.intBits
  have h : ¬ ((((2 ^ k : Nat) : Int)) == 0) = true := by
    have : 0 < 2 ^ k := Nat.two_pow_pos k
    simp only [beq_iff_eq]
    omega
  rw [if_neg h, Int.natAbs_natCast, Nat.log2_two_pow]
end Vx
namespace Vx
open PySem PySem.Spec PyProof.Rows L2
/-! ### dicts whose keys are pairs, told by the list of the keys and a function -/
def MapP (kvs : List (List L2.Key × V)) (ps : List Pr) (g : Pr → V) : Prop := kvs = ps.map (fun x => (keyP x, g x)) ∧ ps.Nodup
def addK (ps : List Pr) (x : Pr) : List Pr := if x ∈ ps then ps else ps ++ [x]
def setG (g : Pr → V) (x : Pr) (v : V) : Pr → V := fun y => if y = x then v else g y
theorem mem_addK {ps : List Pr} {x y : Pr} : y ∈ addK ps x ↔ y ∈ ps ∨ y = x := by
  unfold addK
  by_cases h : x ∈ ps
  · rw [if_pos h]
    exact ⟨.inl, fun q => q.elim id fun e => e ▸ h⟩
  · rw [if_neg h, List.mem_append, List.mem_singleton]
theorem addK_len {ps : List Pr} {x : Pr} : (addK ps x).length ≤ ps.length + 1 := by
  unfold addK
  by_cases h : x ∈ ps
  · rw [if_pos h]
    omega
  · rw [if_neg h, List.length_append]
    exact Nat.le_refl _
theorem addK_new {ps : List Pr} {x : Pr} (h : x ∉ ps) : addK ps x = ps ++ [x] := if_neg h
theorem addK_old {ps : List Pr} {x : Pr} (h : x ∈ ps) : addK ps x = ps := if_pos h
theorem MapP.nil (g : Pr → V) : MapP [] [] g := ⟨rfl, List.nodup_nil⟩
theorem MapP.keys {kvs : List (List L2.Key × V)} {ps : List Pr} {g : Pr → V} (h : MapP kvs ps g) : KeysP kvs ps := by
  refine ⟨?_, h.2⟩
  rw [h.1, List.map_map]
  rfl
theorem MapP.len {kvs : List (List L2.Key × V)} {ps : List Pr} {g : Pr → V} (h : MapP kvs ps g) : kvs.length = ps.length := by rw [h.1, List.length_map]
theorem MapP.congr {kvs : List (List L2.Key × V)} {ps : List Pr} {g g' : Pr → V} (h : MapP kvs ps g) (e : ∀ x ∈ ps, g x = g' x) : MapP kvs ps g' := by
  refine ⟨?_, h.2⟩
  rw [h.1]
  exact List.map_congr_left fun x m => by rw [e x m]
theorem MapP.at {kvs : List (List L2.Key × V)} {ps : List Pr} {g : Pr → V} (h : MapP kvs ps g) {i : Nat} {k : List L2.Key} {v : V} (e : kvs[i]? = some (k, v)) : ∃ x, ps[i]? = some x ∧ k = keyP x ∧ v = g x := by
  rw [h.1, List.getElem?_map] at e
  cases q : ps[i]? with
  | none => rw [q] at e; cases e
  | some x =>
    rw [q] at e
    injection e with e
    injection e with e1 e2
    exact ⟨x, rfl, e1.symm, e2.symm⟩
theorem MapP.get {kvs : List (List L2.Key × V)} {ps : List Pr} {g : Pr → V} (h : MapP kvs ps g) (x : Pr) : valV kvs (keyP x) = if x ∈ ps then some (g x) else none := by
  rw [h.1]
  have go : ∀ qs : List Pr, valV (qs.map fun x => (keyP x, g x)) (keyP x) = if x ∈ qs then some (g x) else none := fun qs => by
    induction qs with
    | nil => rfl
    | cons y qs ih =>
      rw [List.map_cons]
      by_cases e : y = x
      · subst e
        rw [valV_pos rfl, if_pos List.mem_cons_self]
      · rw [valV_neg (fun z => e (keyP_inj z)), ih]
        have e' : ¬ x = y := fun z => e z.symm
        by_cases m : x ∈ qs <;> simp [m, e']
  exact go ps
theorem MapP.put {kvs : List (List L2.Key × V)} {ps : List Pr} {g : Pr → V} (h : MapP kvs ps g) (x : Pr) (v : V) : MapP (putK kvs (keyP x) v) (addK ps x) (setG g x v) := by
  have any : (kvs.any fun kv => decide (kv.1 = keyP x)) = decide (x ∈ ps) := by
    rw [valV_any, h.get]
    by_cases m : x ∈ ps <;> simp [m]
  unfold putK
  rw [any]
  by_cases m : x ∈ ps
  · rw [if_pos (decide_eq_true m), addK_old m]
    refine ⟨?_, h.2⟩
    rw [h.1, List.map_map]
    refine List.map_congr_left fun y _ => ?_
    show (if keyP y = keyP x then (keyP y, v) else (keyP y, g y)) = (keyP y, if y = x then v else g y)
    by_cases e : y = x
    · rw [if_pos (by rw [e]), if_pos e]
    · rw [if_neg fun z => e (keyP_inj z), if_neg e]
  · rw [if_neg (by simp [m]), addK_new m]
    refine ⟨?_, ?_⟩
    · rw [h.1, List.map_append]
      congr 1
      · refine List.map_congr_left fun y my => ?_
        have e : ¬ y = x := fun e => m (e ▸ my)
        show (keyP y, g y) = (keyP y, if y = x then v else g y)
        rw [if_neg e]
      · show [(keyP x, v)] = [(keyP x, if x = x then v else g x)]
        rw [if_pos rfl]
    · refine List.pairwise_append.mpr ⟨h.2, List.pairwise_cons.mpr ⟨fun _ m => (by cases m), List.Pairwise.nil⟩, fun a ma b mb e => ?_⟩
      rw [List.mem_singleton.mp mb] at e
      exact m (e ▸ ma)
theorem MapP.drop {kvs : List (List L2.Key × V)} {ps : List Pr} {g : Pr → V} (h : MapP kvs ps g) (x : Pr) : MapP (dropK kvs (keyP x)) (ps.filter fun y => decide (y ≠ x)) g := by
  refine ⟨?_, h.2.filter _⟩
  unfold dropK
  rw [h.1, List.filter_map]
  congr 1
  refine List.filter_congr fun y _ => ?_
  show decide (keyP y ≠ keyP x) = decide (y ≠ x)
  by_cases e : y = x
  · simp [e]
  · have : keyP y ≠ keyP x := fun z => e (keyP_inj z)
    simp [e, this]
/-- at d: such a dict -/
def Dct (H : Hp) (d : Addr) (ps : List Pr) (g : Pr → V) : Prop := ∃ kvs, H d = some (.dT kvs) ∧ MapP kvs ps g
theorem Dct.up {H H' : Hp} {d : Addr} {ps : List Pr} {g : Pr → V} (e : Same H H') (h : Dct H d ps g) : Dct H' d ps g := by
  obtain ⟨kvs, h1, h2⟩ := h
  exact ⟨kvs, e _ _ h1, h2⟩
theorem Dct.new {H : Hp} {d : Addr} (g : Pr → V) (h : H d = some (.dT [])) : Dct H d [] g := ⟨[], h, .nil g⟩
theorem Dct.ne {H : Hp} {d p : Addr} {ps : List Pr} {g : Pr → V} (h : Dct H d ps g) (n : H p = none) : p ≠ d := fun e => by
  obtain ⟨kvs, h1, _⟩ := h
  rw [e, h1] at n
  cases n
theorem Dct.isD {H : Hp} {d : Addr} {ps : List Pr} {g : Pr → V} (h : Dct H d ps g) : IsD H d := by
  obtain ⟨kvs, h1, _⟩ := h
  exact .inr ⟨kvs, .inl h1⟩
theorem Dct.dget {H : Hp} {d b : Addr} {ps : List Pr} {g : Pr → V} {x : Pr} (h : Dct H d ps g) (e : H b = some (.tup [.int x.1, .int x.2])) : DGet H d (.ref b) (if x ∈ ps then some (g x) else none) := by
  obtain ⟨kvs, h1, h2⟩ := h
  rw [← h2.get x]
  exact .t (k := keyP x) h1 e
/-- the answer of d.get(x, z) -/
def orG (ps : List Pr) (g : Pr → V) (z : V) (x : Pr) : V := if x ∈ ps then g x else z
theorem getD_or {ps : List Pr} {g : Pr → V} {z : V} {x : Pr} : (if x ∈ ps then some (g x) else none : Option V).getD z = orG ps g z x := by
  unfold orG
  by_cases h : x ∈ ps <;> simp [h]
/-- what stands elsewhere stays, d's dict grows -/
def PutAt (H : Hp) (d : Addr) (ps : List Pr) (g : Pr → V) (x : Pr) (v : V) (H' : Hp) : Prop := Dct H' d (addK ps x) (setG g x v) ∧ ∀ b, b ≠ d → H' b = H b
theorem Dct.dput {H : Hp} {d b : Addr} {ps : List Pr} {g : Pr → V} {x : Pr} (h : Dct H d ps g) (few : ps.length < sizeLine) (e : H b = some (.tup [.int x.1, .int x.2])) (v : V) : ∃ H', DPut H d (.ref b) v H' ∧ PutAt H d ps g x v H' := by
  obtain ⟨kvs, h1, h2⟩ := h
  exact ⟨_, .t (k := keyP x) h1 e (by rw [h2.len]; exact few), ⟨_, upd_same, h2.put x v⟩, fun b n => upd_ne n⟩
theorem PutAt.mut {H0 H H' : Hp} {d : Addr} {ps : List Pr} {g : Pr → V} {x : Pr} {v : V} (p : PutAt H d ps g x v H') (sm : Same H0 H) (n : H0 d = none) : Same H0 H' := fun b o e => by
  rw [p.2 b fun z => by rw [z, n] at e; cases e]
  exact sm b o e
theorem Dct.congr {H : Hp} {d : Addr} {ps : List Pr} {g g' : Pr → V} (h : Dct H d ps g) (e : ∀ x ∈ ps, g x = g' x) : Dct H d ps g' := by
  obtain ⟨kvs, h1, h2⟩ := h
  exact ⟨kvs, h1, h2.congr e⟩
theorem updS {H H' : Hp} {d : Addr} {o : HO} (e : Same H H') : Same (upd H d o) (upd H' d o) := fun b u h => by
  by_cases c : b = d
  · rw [c, upd_same] at h
    rw [c, upd_same]
    exact h
  · rw [upd_ne c] at h
    rw [upd_ne c]
    exact e b u h
theorem Dct.off {H : Hp} {d e : Addr} {ps : List Pr} {g : Pr → V} {o : HO} (h : Dct H d ps g) (n : d ≠ e) : Dct (upd H e o) d ps g := by
  obtain ⟨kvs, h1, h2⟩ := h
  exact ⟨kvs, by rw [upd_ne n]; exact h1, h2⟩
theorem nodup_next {α : Type} {ps : List α} {i : Nat} {x : α} (nd : ps.Nodup) (h : ps[i]? = some x) : x ∉ ps.take i := fun m => by
  obtain ⟨j, hj, e⟩ := List.getElem_of_mem m
  rw [List.length_take] at hj
  obtain ⟨li, ei⟩ := List.getElem?_eq_some_iff.mp h
  rw [List.getElem_take] at e
  have := (List.getElem_inj nd (h₀ := by omega) (h₁ := li)).mp (e.trans ei.symm)
  omega
theorem addK_take {ps : List Pr} {i : Nat} {x : Pr} (nd : ps.Nodup) (h : ps[i]? = some x) : addK (ps.take i) x = ps.take (i + 1) := by
  rw [addK_new (nodup_next nd h), take_next h]
theorem unlock {H H' : Hp} {d : Addr} {od : Obj} {u : HO} (hd : H d = some u) (sm : Same (upd H d (.frz od u)) H') : Same H (upd H' d u) := fun b o e => by
  by_cases c : b = d
  · rw [c] at e ⊢
    rw [hd] at e
    rw [upd_same]
    exact e
  · rw [upd_ne c]
    exact sm b o (by rw [upd_ne c]; exact e)
/-! ### the program's lists of such keys -/
theorem isKeys_cells {H : Hp} {p : Addr} : ∀ {kvs : List (List L2.Key × V)} {ps : List Pr} {g : Pr → V} {bs : List Addr}, MapP kvs ps g → IsKeys H kvs bs → H p = some (.lst (bs.map V.ref)) → Cells H p ps := by
  have go : ∀ (ps : List Pr) (g : Pr → V) (bs : List Addr), IsKeys H (ps.map fun x => (keyP x, g x)) bs → ∃ ts : List (Addr × Pr), bs.map V.ref = ts.map (fun t => V.ref t.1) ∧ (∀ t ∈ ts, H t.1 = some (.tup [.int t.2.1, .int t.2.2])) ∧ ts.map (·.2) = ps := by
    intro ps g
    induction ps with
    | nil =>
      intro bs h
      cases h
      exact ⟨[], rfl, fun _ m => (by cases m), rfl⟩
    | cons x ps ih =>
      intro bs h
      cases h with
      | @cons _ b _ bs h1 h2 =>
        obtain ⟨ts, a1, a2, a3⟩ := ih bs h2
        refine ⟨(b, x) :: ts, ?_, ?_, ?_⟩
        · rw [List.map_cons, List.map_cons, a1]
        · intro t m
          rcases List.mem_cons.mp m with e | m
          · rw [e]
            exact h1
          · exact a2 t m
        · rw [List.map_cons, a3]
  intro kvs ps g bs h k e
  rw [h.1] at k
  obtain ⟨ts, a1, a2, a3⟩ := go ps g bs k
  exact ⟨ts, by rw [e, a1], a2, a3⟩
theorem cr_listP {X : Cx} (hc : X.calm = true) : CallR X (.type "list") (fun xs H Q => ∃ d ps g, xs = [V.ref d] ∧ Dct H d ps g ∧ ∀ H' p, Same H H' → H p = none → Cells H' p ps → Q (.ref p) H') := by
  intro pins s σ H xs us Q I r h
  obtain ⟨d, ps, g, rfl, ⟨kvs, h1, h2⟩, q⟩ := h
  refine call_list_dT hc pins s σ H _ us Q I r ⟨d, kvs, rfl, .inl h1, fun p bs n k => q _ p (newS n) n ?_⟩
  refine isKeys_cells (bs := bs) h2 ?_ upd_same
  exact Paired.mapP k fun a b e => newS n _ _ e
theorem truC {K : PySem.W.Frag} {H : Hp} {l : Addr} {ps : List Pr} (h : Cells H l ps) : TruV K (.ref l) H (!ps.isEmpty) := by
  obtain ⟨ts, h1, _, rfl⟩ := h
  exact .inl ⟨_, lst_of h1, by cases ts <;> rfl⟩
/-- sorted(d) -/
theorem cr_sortedDT {X : Cx} (hcalm : X.calm = true) : CallR X (.builtin "sorted") (fun xs H Q => ∃ d ps g, xs = [V.ref d] ∧ Dct H d ps g ∧ ∀ p H' qs, Same H H' → H p = none → Cells H' p qs → CanP ps qs → qs.length = ps.length → Q (.ref p) H') := by
  intro pins s σ H xs us Q I r h
  obtain ⟨d, ps, g, rfl, ⟨kvs, hd, hm⟩, q⟩ := h
  obtain ⟨u, rfl, rx⟩ := r.one
  cases rx
  obtain ⟨z, hs, ks, prd, o, es, ep, ho, hx, hdt, he, hn⟩ := (show ObjOk X.prog X.w H s.heap d (.dT kvs) from (Rd.of hd).ok I.hok)
  have l1 : es.size = ks.length := size_of_entries he
  have l2 : kvs.length = ks.length := Paired.length prd
  have lim : es.size ≤ sizeLine := by omega
  refine Calls.call_function_entry kind_sorted plain_sorted entry_sorted (args_sorted1 _) ?_
  unfold Builtin.«sorted»
  refine wpAny_bind (m := checkCount "sorted" 1 1 _) (wpAny_pure ?_)
  refine wpAny_bind (PySem.W.kdu_collect (A := X.A.in1) (kdl_raw hs hx hdt) (I.ok.hd hcalm) ho lim fun h' tk acc kp it => ?_)
  -- the key tuples
  have keyAt : ∀ (i : Nat) (x : Pr), ps[i]? = some x → ∃ b, acc.toList[i]? = some (.ref b) ∧ H b = some (.tup [.int x.1, .int x.2]) := fun i x e => by
    have e1 : kvs[i]? = some (keyP x, g x) := by rw [hm.1, List.getElem?_map, e]; rfl
    obtain ⟨b, hb, _, e2, _⟩ := paired_get prd e1
    have q1 := entry_at he i
    rw [hb] at q1
    have li : i < acc.toList.length := by
      rw [Array.length_toList, it.1, l1]
      exact (List.getElem?_eq_some_iff.mp hb).1
    obtain ⟨en, q2, q3⟩ := it.2 i acc.toList[i] (by rw [← Array.getElem?_toList]; exact List.getElem?_eq_getElem li)
    rw [q1] at q2
    have q4 : entryOfKey (tupleKind (mixKind X.prog X.w)) b = en := Option.some.inj q2
    refine ⟨b.2.1, ?_, e2⟩
    rw [List.getElem?_eq_getElem li, q3, ← q4]
    rfl
  have al : acc.toList.length = ps.length := by rw [Array.length_toList, it.1, l1, ← l2, hm.len]
  have lacc : acc.toList.length ≤ sizeLine := by rw [Array.length_toList, it.1]; exact lim
  have I1 : Inv X pins σ H { s with heap := h', toks := tk } := I.kept kp
  refine wpAny_bind (wpAny_newList ?_ lacc)
  have gl : (h'.push (seqObj "list" acc.toList.toArray 0)).get? h'.objs.size = some (seqObj "list" acc.toList.toArray 0) := Heap.get?_push_size _ rfl
  show wpAny _ _ _ _ _ { s with heap := h'.push (seqObj "list" acc.toList.toArray 0), toks := tk }
  generalize hh1 : h'.push (seqObj "list" acc.toList.toArray 0) = h1 at gl ⊢
  generalize acc.toList = vs at *
  have keep1 : ∀ b u, h'.get? b = some u → h1.get? b = some u := fun b u e => by
    rw [← hh1]
    exact Heap.get?_push_of_some _ e
  have own : ∀ v ∈ vs, ∃ b x, v = .ref b ∧ H b = some (.tup [.int x.1, .int x.2]) ∧ (x : Pr) ∈ ps := fun v m => by
    obtain ⟨i, li, e⟩ := List.getElem_of_mem m
    have lp : i < ps.length := by omega
    obtain ⟨b, e1, e2⟩ := keyAt i ps[i] (List.getElem?_eq_getElem lp)
    rw [List.getElem?_eq_getElem li] at e1
    exact ⟨b, ps[i], by rw [← e]; exact Option.some.inj e1, e2, List.getElem_mem lp⟩
  have tin : ∀ b (x : Pr), H b = some (.tup [.int x.1, .int x.2]) → TS.TupInts h1 (.ref b) [x.1, x.2] := fun b x e => tupInts_of (P := X.prog) (w := X.w) (isT_keep (Inv.isT (k := [x.1, x.2]) I1 (tup_of e)) keep1)
  have key : ∀ b (x : Pr), H b = some (.tup [.int x.1, .int x.2]) → pr (TS.intsOf h1 (.ref b)) = x := fun b x e => by
    rw [(tin b x e).ints]
    rfl
  have isP : ∀ v ∈ vs, Srt.IsPair h1 v (pr (TS.intsOf h1 v)).1 (pr (TS.intsOf h1 v)).2 := fun v m => by
    obtain ⟨b, x, rfl, e, _⟩ := own v m
    rw [key b x e]
    have i := tin b x e
    obtain ⟨b2, items, eb, ⟨o1, go1, co1, n1, do1⟩, ia⟩ := i
    cases eb
    obtain ⟨xs⟩ := items
    cases ia with
    | cons _ t1 ia =>
      cases ia with
      | cons _ t2 ia =>
        cases ia
        exact ⟨_, o1, t1, t2, n1, rfl, go1, co1, do1⟩
  have mapK : vs.map (fun v => pr (TS.intsOf h1 v)) = ps := by
    refine List.ext_getElem? fun i => ?_
    rw [List.getElem?_map]
    by_cases li : i < ps.length
    · obtain ⟨b, e1, e2⟩ := keyAt i ps[i] (List.getElem?_eq_getElem li)
      rw [e1, List.getElem?_eq_getElem li]
      exact congrArg some (key b _ e2)
    · rw [List.getElem?_eq_none (by omega), List.getElem?_eq_none (by omega)]
      rfl
  refine wpAny_bind (wpAny_holding (wpAny_call_entry (s := { s with heap := h1, toks := tk }) slot_list_sort ⟨_, gl, rfl⟩ entry_list_sort (SrtO.list_sort_ord (s := { s with heap := h1, toks := tk }) (SrtO.swo_lex fun v => pr (TS.intsOf h1 v)) gl lacc (fun two => SrtO.pairs_sortableO (by omega) isP fun o1 e => ?_) fun out srt stb => ⟨_, rfl, ?_⟩) (args_list_sort _)))
  · have e' : some o1 = some (seqObj "list" vs.toArray 0) := e.symm.trans gl
    cases e'
    intro c
    exact absurd (Value.type.inj c) (by decide)
  · obtain ⟨c, gc⟩ := sortedHeap_at (vs := vs) (out := out.toArray) gl
    have oown : ∀ v ∈ out, ∃ b x, v = Value.ref b ∧ H b = some (.tup [.int x.1, .int x.2]) ∧ (x : Pr) ∈ ps := fun v m => own v (stb.perm.mem_iff.mp m)
    have keepAll : ∀ b u, h'.get? b = some u → (sortedHeap h1 h'.objs.size vs out.toArray).get? b = some u := fun b u g1 => by
      have lt1 := Heap.lt_size g1
      rw [sortedHeap_old (Nat.ne_of_lt lt1) (Heap.lt_size (keep1 b u g1))]
      exact keep1 b u g1
    have nF : H h'.objs.size = none := I1.hok.fresh (Nat.le_refl _)
    let ts : List (Addr × Pr) := out.map fun v => (adr v, pr (TS.intsOf h1 v))
    have eo : ts.map (fun t => Value.ref t.1) = out := by
      rw [List.map_map]
      refine (List.map_congr_left fun v m => ?_).trans (List.map_id _)
      obtain ⟨b, x, rfl, _⟩ := oown v m
      rfl
    have vals : ∀ ts : List (Addr × Pr), Vals (ts.map fun q => V.ref q.1) (ts.map fun q => Value.ref q.1) := fun ts => by
      induction ts with
      | nil => exact .nil
      | cons t ts ih => exact .cons rfl ih
    have lo : ts.length ≤ sizeLine := by
      rw [List.length_map, stb.perm.length_eq]
      exact lacc
    have new : ObjOk X.prog X.w (upd H h'.objs.size (.lst (ts.map fun q => V.ref q.1))) (sortedHeap h1 h'.objs.size vs out.toArray) h'.objs.size (.lst (ts.map fun q => V.ref q.1)) := by
      refine ⟨by rw [List.length_map]; exact lo, ts.map fun q => Value.ref q.1, c, vals ts, ?_⟩
      rw [eo]
      exact gc
    have J := I1.laid (t' := tk) keepAll (Nat.le_refl _) new
    have pmk : (ts.map (·.2)).Perm ps := by
      rw [List.map_map, ← mapK]
      exact stb.perm.map fun v => pr (TS.intsOf h1 v)
    refine wpAny_pure ⟨_, rfl, .ref h'.objs.size, _, J, rfl, q _ _ (ts.map (·.2)) (newS nF) nF ⟨ts, upd_same, fun t m => ?_, rfl⟩ ⟨?_, fun x => pmk.mem_iff⟩ pmk.length_eq⟩
    · obtain ⟨v, m1, rfl⟩ := List.mem_map.mp m
      obtain ⟨b, x, rfl, e, _⟩ := oown v m1
      refine newS nF _ _ ?_
      show H b = some (.tup [.int (pr (TS.intsOf h1 (.ref b))).1, .int (pr (TS.intsOf h1 (.ref b))).2])
      rw [key b x e]
      exact e
    · have nd : (ts.map (·.2)).Nodup := pmk.nodup_iff.mpr hm.2
      rw [List.map_map] at nd ⊢
      refine List.pairwise_map.mpr ((srt.and (List.pairwise_map.mp nd)).imp fun {u v} h => ?_)
      have a1 := SrtO.lexB_no.mp h.1
      have a2 : ¬ ((pr (TS.intsOf h1 u)).1 = (pr (TS.intsOf h1 v)).1 ∧ (pr (TS.intsOf h1 u)).2 = (pr (TS.intsOf h1 v)).2) := fun e => h.2 (Prod.ext e.1 e.2)
      refine ltP_iff.mpr ?_
      show (pr (TS.intsOf h1 u)).1 < (pr (TS.intsOf h1 v)).1 ∨ (pr (TS.intsOf h1 u)).1 = (pr (TS.intsOf h1 v)).1 ∧ (pr (TS.intsOf h1 u)).2 < (pr (TS.intsOf h1 v)).2
      omega
end Vx
namespace Vx
open PySem PySem.Spec PyProof.Rows L2
theorem op_notInP {X : Cx} (hu : X.A.units + 65 < cLine) : OpR X (compareOp .NotIn) (fun x y H Q => ∃ (t a : Addr) (p : Pr) (ps : List Pr), x = .ref t ∧ y = .ref a ∧ H t = some (.tup [.int p.1, .int p.2]) ∧ Cells H a ps ∧ Q (.bl (!decide (p ∈ ps))) H) := by
  intro pins s σ H x y v u Q I rx ry h
  obtain ⟨t, a, p, ps, rfl, rfl, ht, hc, q⟩ := h
  refine op_notInD hu pins s σ H _ _ v u Q I rx ry ⟨pd p, ps.map pd, .tup (tup_of ht) (.cons (.int _) (.cons (.int _) .nil)), dp_cells hc, shaped_pd p, shaped_cells ps, ?_⟩
  rw [any_pd]
  exact q
/-! ### lists of lists of pairs -/
def lp (ps : List Pr) : PyData := .list (ps.map pd)
def CellsL (H : Hp) (l : Addr) (pss : List (List Pr)) : Prop :=
  ∃ ts : List (Addr × List Pr), H l = some (.lst (ts.map fun t => V.ref t.1)) ∧ (∀ t ∈ ts, Cells H t.1 t.2) ∧ ts.map (·.2) = pss
theorem CellsL.up {H H' : Hp} {l : Addr} {pss : List (List Pr)} (e : Same H H') (h : CellsL H l pss) : CellsL H' l pss := by
  obtain ⟨ts, h1, h2, h3⟩ := h
  exact ⟨ts, e _ _ h1, fun t m => (h2 t m).up e, h3⟩
theorem CellsL.lst {H : Hp} {l : Addr} {pss : List (List Pr)} (h : CellsL H l pss) : ∃ xs, H l = some (.lst xs) ∧ xs.length = pss.length := by
  obtain ⟨ts, h1, h2, h3⟩ := h
  exact ⟨_, h1, by rw [← h3, List.length_map, List.length_map]⟩
theorem CellsL.at {H : Hp} {l : Addr} {pss : List (List Pr)} {i : Nat} {ps : List Pr} (h : CellsL H l pss) (e : pss[i]? = some ps) : ∃ xs a, H l = some (.lst xs) ∧ xs[i]? = some (.ref a) ∧ Cells H a ps := by
  obtain ⟨ts, h1, h2, rfl⟩ := h
  rw [List.getElem?_map] at e
  cases q : ts[i]? with
  | none => rw [q] at e; cases e
  | some t =>
    rw [q] at e
    refine ⟨_, t.1, h1, by rw [List.getElem?_map, q]; rfl, ?_⟩
    rw [← Option.some.inj e]
    exact h2 t (List.mem_of_getElem? q)
theorem CellsL.mut {H : Hp} {l d : Addr} {pss : List (List Pr)} {o : HO} (h : CellsL H l pss) (ne : l ≠ d) (nl : ∀ xs, H d ≠ some (.lst xs)) (nt : ∀ xs, H d ≠ some (.tup xs)) : CellsL (upd H d o) l pss := by
  obtain ⟨ts, h1, h2, h3⟩ := h
  refine ⟨ts, by rw [upd_ne ne]; exact h1, fun t m => (h2 t m).mut (fun e => ?_) nt, h3⟩
  obtain ⟨us, z, _⟩ := h2 t m
  rw [e] at z
  exact nl _ z
theorem eqv_lp (a b : List Pr) : PyData.eqv (lp a) (lp b) = decide (a = b) := eqv_cells a b
theorem eqvAll_lp : ∀ (l m : List (List Pr)), PyData.eqvAll (l.map lp) (m.map lp) = decide (l = m)
  | [], [] => by simp [PyData.eqvAll]
  | [], y :: m => by simp [PyData.eqvAll]
  | x :: l, [] => by simp [PyData.eqvAll]
  | x :: l, y :: m => by
    show (PyData.eqv (lp x) (lp y) && PyData.eqvAll (l.map lp) (m.map lp)) = _
    rw [eqvAll_lp l m, eqv_lp]
    by_cases e : x = y <;> by_cases e2 : l = m <;> simp [e, e2]
theorem eqv_lps (l m : List (List Pr)) : PyData.eqv (.list (l.map lp)) (.list (m.map lp)) = decide (l = m) := eqvAll_lp l m
theorem canAll_lp : ∀ l : List (List Pr), PyData.canLayAll0 (l.map lp) = true
  | [] => by simp [PyData.canLayAll0]
  | x :: l => by
    rw [List.map_cons]
    simp [PyData.canLayAll0, PyData.canLay0, lp, canAll_pd, canAll_lp l]
theorem depAll_lp : ∀ l : List (List Pr), PyData.depthAll (l.map lp) ≤ 2
  | [] => by simp [PyData.depthAll]
  | x :: l => by
    rw [List.map_cons]
    have := depAll_lp l
    have := depAll_pd x
    simp only [PyData.depthAll, PyData.depth, lp]
    omega
theorem shaped_lp (l : List Pr) : SeqAt.shaped (lp l) = true := shaped_cells l
theorem shaped_lps (l : List (List Pr)) : SeqAt.shaped (.list (l.map lp)) = true := by
  unfold SeqAt.shaped
  have := depAll_lp l
  simp only [PyData.canLay0, PyData.depth, canAll_lp]
  simp
  omega
theorem any_lp (p : List Pr) : ∀ ps : List (List Pr), (ps.map lp).any (fun z => PyData.eqv z (lp p)) = decide (p ∈ ps)
  | [] => by simp
  | q :: ps => by
    rw [List.map_cons, List.any_cons, any_lp p ps, eqv_lp]
    by_cases e : q = p
    · subst e
      simp
    · have e2 : ¬ p = q := fun z => e z.symm
      simp [e, e2]
theorem dp_cellsL {K : PySem.W.Frag} {H : Hp} {a : Addr} {pss : List (List Pr)} (h : CellsL H a pss) : Dp K H (.ref a) (.list (pss.map lp)) := by
  obtain ⟨ts, hl, ht, rfl⟩ := h
  refine .lst (lst_of hl) ?_
  have go : ∀ us : List (Addr × List Pr), (∀ t ∈ us, Cells H t.1 t.2) → DpAll K H (us.map fun t => V.ref t.1) ((us.map (·.2)).map lp) := fun us => by
    induction us with
    | nil => exact fun _ => .nil
    | cons t us ih => exact fun h => .cons (dp_cells (h t List.mem_cons_self)) (ih fun u m => h u (List.mem_cons_of_mem _ m))
  exact go ts ht
theorem op_inL {X : Cx} (hu : X.A.units + 65 < cLine) : OpR X (compareOp .In) (fun x y H Q => ∃ (t a : Addr) (p : List Pr) (ps : List (List Pr)), x = .ref t ∧ y = .ref a ∧ Cells H t p ∧ CellsL H a ps ∧ Q (.bl (decide (p ∈ ps))) H) := by
  intro pins s σ H x y v u Q I rx ry h
  obtain ⟨t, a, p, ps, rfl, rfl, ht, hc, q⟩ := h
  refine op_inD hu pins s σ H _ _ v u Q I rx ry ⟨lp p, ps.map lp, dp_cells ht, dp_cellsL hc, shaped_lp p, shaped_lps ps, ?_⟩
  rw [any_lp]
  exact q
theorem mt_indexL {X : Cx} (hu : X.A.units + 65 < cLine) : MtR X "list.index" (fun x xs H Q => ∃ (a t : Addr) (p : List Pr) (ps : List (List Pr)), x = .ref a ∧ xs = [.ref t] ∧ Cells H t p ∧ CellsL H a ps ∧
    ∃ j, ps[j]? = some p ∧ (∀ m p', m < j → ps[m]? = some p' → p' ≠ p) ∧ Q (.int (j : Nat)) H) := by
  intro pins s σ H x xs v us Q I rx rxs h
  obtain ⟨a, t, p, ps, rfl, rfl, ht, hc, j, hj, hno, q⟩ := h
  refine mt_indexD hu pins s σ H _ _ v us Q I rx rxs ⟨a, .ref t, lp p, ps.map lp, j, lp p, rfl, rfl, dp_cellsL hc, dp_cells ht, shaped_lps ps, shaped_lp p, by rw [List.getElem?_map, hj]; rfl, by rw [eqv_lp]; exact decide_eq_true rfl, fun m z' hm hz => ?_, q⟩
  rw [List.getElem?_map] at hz
  obtain ⟨p', hp, rfl⟩ := Option.map_eq_some_iff.mp hz
  rw [eqv_lp]
  exact decide_eq_false (hno m p' hm hp)
theorem CellsL.add {H : Hp} {l t : Addr} {pss : List (List Pr)} {ps : List Pr} {vs : List V} (h : CellsL H l pss) (hv : H l = some (.lst vs)) (hc : Cells H t ps) (ne : t ≠ l) : CellsL (upd H l (.lst (vs ++ [.ref t]))) l (pss ++ [ps]) := by
  obtain ⟨ts, h1, h2, rfl⟩ := h
  have e : vs = ts.map fun t => V.ref t.1 := by
    rw [h1] at hv
    injection hv with hv
    injection hv with hv
    exact hv.symm
  subst e
  have nt : ∀ xs, H l ≠ some (.tup xs) := fun xs z => by
    rw [h1] at z
    cases z
  have nl : ∀ u ∈ ts, u.1 ≠ l := fun u m e => by
    obtain ⟨us, g1, g2, _⟩ := h2 u m
    rw [e, h1] at g1
    injection g1 with g1
    injection g1 with g1
    have mu : V.ref u.1 ∈ ts.map fun t => V.ref t.1 := List.mem_map.mpr ⟨u, m, rfl⟩
    rw [g1] at mu
    obtain ⟨y, my, ey⟩ := List.mem_map.mp mu
    have ey : y.1 = u.1 := V.ref.inj ey
    have z := g2 y my
    rw [ey, e, h1] at z
    cases z
  refine ⟨ts ++ [(t, ps)], by rw [upd_same, List.map_append]; rfl, fun u m => ?_, by rw [List.map_append]; rfl⟩
  rcases List.mem_append.mp m with m | m
  · exact (h2 u m).mut (nl u m) nt
  · rw [List.mem_singleton.mp m]
    exact hc.mut ne nt
theorem CellsL.one {H : Hp} {l t : Addr} {ps : List Pr} (h : H l = some (.lst [.ref t])) (hc : Cells H t ps) : CellsL H l [ps] := ⟨[(t, ps)], h, fun u m => by rw [List.mem_singleton.mp m]; exact hc, rfl⟩
/-- a statement with a word of one's own behind it -/
def tMid (t : TS) : TS := fun D σ H => ∃ P : L2.St → Hp → Prop, t { D with nx := P } σ H ∧ ∀ σ' H', P σ' H' → D.nx σ' H'
theorem ps_mid {X : Cx} {st : Stmt} {t : TS} (h : PS X st t) : PS X st (tMid t) := by
  refine ⟨fun pins s σ H D I hw => ?_⟩
  obtain ⟨P, h1, h2⟩ := hw
  refine thn (h.run pins s σ H _ I h1) fun f s1 q => ?_
  cases f with
  | next =>
    obtain ⟨σ', H', I2, q⟩ := q
    exact ⟨σ', H', I2, h2 _ _ q⟩
  | brk => exact q
  | cont => exact q
  | ret v => exact q
/-- an expression with a word of one's own behind it -/
def tMidE (t : TE) : TE := fun σ H Q => ∃ P : V → Hp → Prop, t σ H P ∧ ∀ v H', P v H' → Q v H'
theorem pe_mid {X : Cx} {e : Expr} {t : TE} (h : PE X e t) : PE X e (tMidE t) := by
  refine ⟨fun pins s σ H Q I hw => ?_⟩
  obtain ⟨P, h1, h2⟩ := hw
  exact thn (h.run pins s σ H _ I h1) fun v s1 ⟨x, H1, I2, r, q⟩ => ⟨x, H1, I2, r, h2 _ _ q⟩
end Vx
namespace My
open PySem PySem.Spec PyProof.Rows L2 Vx
def topS (i : Nat) : Stmt := PySem.Challenge.pw_longlife_k27_rings_and_their_fates.main.body.getD i (.Pass ⟨0, 0, 0, 0⟩)
abbrev s_sums_of : Stmt := topS 2
abbrev N_sums_of : List Str := ["left", "alive", "right", "odd"]
theorem sc_sums_of : FnScope N_sums_of ["left", "alive", "right"] (defScope s_sums_of) := ⟨rfl, rfl, rfl, by decide +kernel, rfl, by decide +kernel, by decide +kernel⟩
abbrev s_totals_of : Stmt := topS 3
abbrev N_totals_of : List Str := ["above", "here", "below", "above_ones", "above_twos", "here_ones", "here_twos", "below_ones", "below_twos", "odd", "carried", "first", "second", "first_four", "second_four", "fours"]
theorem sc_totals_of : FnScope N_totals_of ["above", "here", "below"] (defScope s_totals_of) := ⟨rfl, rfl, rfl, by decide +kernel, rfl, by decide +kernel, by decide +kernel⟩
abbrev s_next_strip : Stmt := topS 4
abbrev N_next_strip : List Str := ["alive", "totals", "rule", "ones", "twos", "fours", "eights", "near", "not_ones", "not_twos", "low", "high", "born", "number", "kept", "total"]
theorem sc_next_strip : FnScope N_next_strip ["alive", "totals", "rule"] (defScope s_next_strip) := ⟨rfl, rfl, rfl, by decide +kernel, rfl, by decide +kernel, by decide +kernel⟩
abbrev s_Ring_init : Stmt := inClass (topS 6) 0
abbrev N_Ring_init : List Str := ["self", "rule", "height", "width", "row"]
theorem sc_Ring_init : FnScope N_Ring_init ["self", "rule", "height", "width"] (defScope s_Ring_init) := ⟨rfl, rfl, rfl, by decide +kernel, rfl, by decide +kernel, by decide +kernel⟩
abbrev s_Ring_bits : Stmt := inClass (topS 6) 1
abbrev N_Ring_bits : List Str := ["self", "cells", "bits", "row", "column"]
theorem sc_Ring_bits : FnScope N_Ring_bits ["self", "cells"] (defScope s_Ring_bits) := ⟨rfl, rfl, rfl, by decide +kernel, rfl, by decide +kernel, by decide +kernel⟩
abbrev s_Ring_cells : Stmt := inClass (topS 6) 2
abbrev N_Ring_cells : List Str := ["self", "bits", "cells", "lowest"]
theorem sc_Ring_cells : FnScope N_Ring_cells ["self", "bits"] (defScope s_Ring_cells) := ⟨rfl, rfl, rfl, by decide +kernel, rfl, by decide +kernel, by decide +kernel⟩
abbrev s_Ring_after : Stmt := inClass (topS 6) 3
abbrev N_Ring_after : List Str := ["self", "bits", "ones", "twos", "above", "below"]
theorem sc_Ring_after : FnScope N_Ring_after ["self", "bits"] (defScope s_Ring_after) := ⟨rfl, rfl, rfl, by decide +kernel, rfl, by decide +kernel, by decide +kernel⟩
abbrev s_Ring_from_left : Stmt := inClass (topS 6) 4
abbrev N_Ring_from_left : List Str := ["self", "bits", "inner"]
theorem sc_Ring_from_left : FnScope N_Ring_from_left ["self", "bits"] (defScope s_Ring_from_left) := ⟨rfl, rfl, rfl, by decide +kernel, rfl, by decide +kernel, by decide +kernel⟩
abbrev s_Ring_from_right : Stmt := inClass (topS 6) 5
abbrev N_Ring_from_right : List Str := ["self", "bits", "inner"]
theorem sc_Ring_from_right : FnScope N_Ring_from_right ["self", "bits"] (defScope s_Ring_from_right) := ⟨rfl, rfl, rfl, by decide +kernel, rfl, by decide +kernel, by decide +kernel⟩
abbrev s_Ring_from_above : Stmt := inClass (topS 6) 6
abbrev N_Ring_from_above : List Str := ["self", "bits"]
theorem sc_Ring_from_above : FnScope N_Ring_from_above ["self", "bits"] (defScope s_Ring_from_above) := ⟨rfl, rfl, rfl, by decide +kernel, rfl, by decide +kernel, by decide +kernel⟩
abbrev s_Ring_from_below : Stmt := inClass (topS 6) 7
abbrev N_Ring_from_below : List Str := ["self", "bits"]
theorem sc_Ring_from_below : FnScope N_Ring_from_below ["self", "bits"] (defScope s_Ring_from_below) := ⟨rfl, rfl, rfl, by decide +kernel, rfl, by decide +kernel, by decide +kernel⟩
abbrev s_Ring_history : Stmt := inClass (topS 6) 8
abbrev N_Ring_history : List Str := ["self", "cells", "bound", "states", "numbers", "generation", "state"]
theorem sc_Ring_history : FnScope N_Ring_history ["self", "cells", "bound"] (defScope s_Ring_history) := ⟨rfl, rfl, rfl, by decide +kernel, rfl, by decide +kernel, by decide +kernel⟩
abbrev s_ring_next : Stmt := topS 7
abbrev N_ring_next : List Str := ["cells", "rule", "height", "width"]
theorem sc_ring_next : FnScope N_ring_next ["cells", "rule", "height", "width"] (defScope s_ring_next) := ⟨rfl, rfl, rfl, by decide +kernel, rfl, by decide +kernel, by decide +kernel⟩
abbrev s_ring_grown : Stmt := topS 8
abbrev N_ring_grown : List Str := ["cells", "rule", "height", "width", "generations", "ring", "states", "start"]
theorem sc_ring_grown : FnScope N_ring_grown ["cells", "rule", "height", "width", "generations"] (defScope s_ring_grown) := ⟨rfl, rfl, rfl, by decide +kernel, rfl, by decide +kernel, by decide +kernel⟩
abbrev s_ring_fate : Stmt := topS 9
abbrev N_ring_fate : List Str := ["cells", "rule", "height", "width", "bound", "states", "start"]
theorem sc_ring_fate : FnScope N_ring_fate ["cells", "rule", "height", "width", "bound"] (defScope s_ring_fate) := ⟨rfl, rfl, rfl, by decide +kernel, rfl, by decide +kernel, by decide +kernel⟩
abbrev s_Rule_init : Stmt := inClass (topS 11) 0
abbrev N_Rule_init : List Str := ["self", "births", "survival"]
theorem sc_Rule_init : FnScope N_Rule_init ["self", "births", "survival"] (defScope s_Rule_init) := ⟨rfl, rfl, rfl, by decide +kernel, rfl, by decide +kernel, by decide +kernel⟩
abbrev s_law_cell : Stmt := topS 13
abbrev N_law_cell : List Str := ["script", "k"]
theorem sc_law_cell : FnScope N_law_cell ["script", "k"] (defScope s_law_cell) := ⟨rfl, rfl, rfl, by decide +kernel, rfl, by decide +kernel, by decide +kernel⟩
abbrev s_law_row : Stmt := topS 14
abbrev N_law_row : List Str := ["cell", "count", "bound", "rest", "mixed", "row", "k"]
theorem sc_law_row : FnScope N_law_row ["cell", "count", "bound"] (defScope s_law_row) := ⟨rfl, rfl, rfl, by decide +kernel, rfl, by decide +kernel, by decide +kernel⟩
abbrev s_law_integer : Stmt := topS 15
abbrev N_law_integer : List Str := ["value"]
theorem sc_law_integer : FnScope N_law_integer ["value"] (defScope s_law_integer) := ⟨rfl, rfl, rfl, by decide +kernel, rfl, by decide +kernel, by decide +kernel⟩
abbrev s_law_cells : Stmt := topS 16
abbrev N_law_cells : List Str := ["value", "cell"]
theorem sc_law_cells : FnScope N_law_cells ["value"] (defScope s_law_cells) := ⟨rfl, rfl, rfl, by decide +kernel, rfl, by decide +kernel, by decide +kernel⟩
abbrev s_law_numbers : Stmt := topS 17
abbrev N_law_numbers : List Str := ["cell", "x", "births", "survival", "k"]
theorem sc_law_numbers : FnScope N_law_numbers ["cell"] (defScope s_law_numbers) := ⟨rfl, rfl, rfl, by decide +kernel, rfl, by decide +kernel, by decide +kernel⟩
abbrev s_law_some : Stmt := topS 18
abbrev N_law_some : List Str := ["cell", "count", "height", "width", "x", "found", "y", "place"]
theorem sc_law_some : FnScope N_law_some ["cell", "count", "height", "width"] (defScope s_law_some) := ⟨rfl, rfl, rfl, by decide +kernel, rfl, by decide +kernel, by decide +kernel⟩
abbrev s_law_ring : Stmt := topS 19
abbrev N_law_ring : List Str := ["cells", "births", "survival", "h", "w", "found", "r", "c", "count", "i", "j"]
theorem sc_law_ring : FnScope N_law_ring ["cells", "births", "survival", "h", "w"] (defScope s_law_ring) := ⟨rfl, rfl, rfl, by decide +kernel, rfl, by decide +kernel, by decide +kernel⟩
abbrev s_law : Stmt := topS 20
abbrev N_law : List Str := ["script", "births", "survival", "rule", "first", "h", "w", "cells", "handed", "given", "history", "start", "k", "now", "told", "bound", "due", "fate", "cell", "g", "expected"]
theorem sc_law : FnScope N_law ["script"] (defScope s_law) := ⟨rfl, rfl, rfl, by decide +kernel, rfl, by decide +kernel, by decide +kernel⟩
structure Txt (K : PySem.W.Frag) (mg : Str → Option Value) where
  C_Ring : Addr
  g_Ring : mg "Ring" = some (.ref C_Ring)
  cl_Ring : Cls K C_Ring
  na_Ring__rule : NoAttr K C_Ring "_rule"
  na_Ring__height : NoAttr K C_Ring "_height"
  na_Ring__width : NoAttr K C_Ring "_width"
  na_Ring__full : NoAttr K C_Ring "_full"
  na_Ring__first_column : NoAttr K C_Ring "_first_column"
  na_Ring__last_column : NoAttr K C_Ring "_last_column"
  C_Rule : Addr
  g_Rule : mg "Rule" = some (.ref C_Rule)
  cl_Rule : Cls K C_Rule
  na_Rule_births : NoAttr K C_Rule "births"
  na_Rule_survival : NoAttr K C_Rule "survival"
  f_sums_of : Addr
  d_sums_of : FuncData
  F_sums_of : Fun K "sums_of" "sums_of" s_sums_of f_sums_of d_sums_of
  b_sums_of : Binds K d_sums_of ["left", "alive", "right"] []
  g_sums_of : mg "sums_of" = some (.ref f_sums_of)
  f_totals_of : Addr
  d_totals_of : FuncData
  F_totals_of : Fun K "totals_of" "totals_of" s_totals_of f_totals_of d_totals_of
  b_totals_of : Binds K d_totals_of ["above", "here", "below"] []
  g_totals_of : mg "totals_of" = some (.ref f_totals_of)
  f_next_strip : Addr
  d_next_strip : FuncData
  F_next_strip : Fun K "next_strip" "next_strip" s_next_strip f_next_strip d_next_strip
  b_next_strip : Binds K d_next_strip ["alive", "totals", "rule"] []
  g_next_strip : mg "next_strip" = some (.ref f_next_strip)
  f_Ring_init : Addr
  d_Ring_init : FuncData
  F_Ring_init : Fun K "__init__" "Ring.__init__" s_Ring_init f_Ring_init d_Ring_init
  b_Ring_init : Binds K d_Ring_init ["self", "rule", "height", "width"] []
  M_Ring : Mk K C_Ring f_Ring_init
  f_Ring_bits : Addr
  d_Ring_bits : FuncData
  F_Ring_bits : Fun K "bits" "Ring.bits" s_Ring_bits f_Ring_bits d_Ring_bits
  b_Ring_bits : Binds K d_Ring_bits ["self", "cells"] []
  m_Ring_bits : Meth K C_Ring "bits" f_Ring_bits
  f_Ring_cells : Addr
  d_Ring_cells : FuncData
  F_Ring_cells : Fun K "cells" "Ring.cells" s_Ring_cells f_Ring_cells d_Ring_cells
  b_Ring_cells : Binds K d_Ring_cells ["self", "bits"] []
  m_Ring_cells : Meth K C_Ring "cells" f_Ring_cells
  f_Ring_after : Addr
  d_Ring_after : FuncData
  F_Ring_after : Fun K "after" "Ring.after" s_Ring_after f_Ring_after d_Ring_after
  b_Ring_after : Binds K d_Ring_after ["self", "bits"] []
  m_Ring_after : Meth K C_Ring "after" f_Ring_after
  f_Ring_from_left : Addr
  d_Ring_from_left : FuncData
  F_Ring_from_left : Fun K "_from_left" "Ring._from_left" s_Ring_from_left f_Ring_from_left d_Ring_from_left
  b_Ring_from_left : Binds K d_Ring_from_left ["self", "bits"] []
  m_Ring_from_left : Meth K C_Ring "_from_left" f_Ring_from_left
  f_Ring_from_right : Addr
  d_Ring_from_right : FuncData
  F_Ring_from_right : Fun K "_from_right" "Ring._from_right" s_Ring_from_right f_Ring_from_right d_Ring_from_right
  b_Ring_from_right : Binds K d_Ring_from_right ["self", "bits"] []
  m_Ring_from_right : Meth K C_Ring "_from_right" f_Ring_from_right
  f_Ring_from_above : Addr
  d_Ring_from_above : FuncData
  F_Ring_from_above : Fun K "_from_above" "Ring._from_above" s_Ring_from_above f_Ring_from_above d_Ring_from_above
  b_Ring_from_above : Binds K d_Ring_from_above ["self", "bits"] []
  m_Ring_from_above : Meth K C_Ring "_from_above" f_Ring_from_above
  f_Ring_from_below : Addr
  d_Ring_from_below : FuncData
  F_Ring_from_below : Fun K "_from_below" "Ring._from_below" s_Ring_from_below f_Ring_from_below d_Ring_from_below
  b_Ring_from_below : Binds K d_Ring_from_below ["self", "bits"] []
  m_Ring_from_below : Meth K C_Ring "_from_below" f_Ring_from_below
  f_Ring_history : Addr
  d_Ring_history : FuncData
  F_Ring_history : Fun K "history" "Ring.history" s_Ring_history f_Ring_history d_Ring_history
  b_Ring_history : Binds K d_Ring_history ["self", "cells", "bound"] []
  m_Ring_history : Meth K C_Ring "history" f_Ring_history
  f_ring_next : Addr
  d_ring_next : FuncData
  F_ring_next : Fun K "ring_next" "ring_next" s_ring_next f_ring_next d_ring_next
  b_ring_next : Binds K d_ring_next ["cells", "rule", "height", "width"] []
  g_ring_next : mg "ring_next" = some (.ref f_ring_next)
  f_ring_grown : Addr
  d_ring_grown : FuncData
  F_ring_grown : Fun K "ring_grown" "ring_grown" s_ring_grown f_ring_grown d_ring_grown
  b_ring_grown : Binds K d_ring_grown ["cells", "rule", "height", "width", "generations"] []
  g_ring_grown : mg "ring_grown" = some (.ref f_ring_grown)
  f_ring_fate : Addr
  d_ring_fate : FuncData
  F_ring_fate : Fun K "ring_fate" "ring_fate" s_ring_fate f_ring_fate d_ring_fate
  b_ring_fate : Binds K d_ring_fate ["cells", "rule", "height", "width", "bound"] []
  g_ring_fate : mg "ring_fate" = some (.ref f_ring_fate)
  f_Rule_init : Addr
  d_Rule_init : FuncData
  F_Rule_init : Fun K "__init__" "Rule.__init__" s_Rule_init f_Rule_init d_Rule_init
  b_Rule_init : Binds K d_Rule_init ["self", "births", "survival"] []
  M_Rule : Mk K C_Rule f_Rule_init
  f_law_cell : Addr
  d_law_cell : FuncData
  F_law_cell : Fun K "_law_cell" "_law_cell" s_law_cell f_law_cell d_law_cell
  b_law_cell : Binds K d_law_cell ["script", "k"] []
  g_law_cell : mg "_law_cell" = some (.ref f_law_cell)
  f_law_row : Addr
  d_law_row : FuncData
  F_law_row : Fun K "_law_row" "_law_row" s_law_row f_law_row d_law_row
  b_law_row : Binds K d_law_row ["cell", "count", "bound"] []
  g_law_row : mg "_law_row" = some (.ref f_law_row)
  f_law_integer : Addr
  d_law_integer : FuncData
  F_law_integer : Fun K "_law_integer" "_law_integer" s_law_integer f_law_integer d_law_integer
  b_law_integer : Binds K d_law_integer ["value"] []
  g_law_integer : mg "_law_integer" = some (.ref f_law_integer)
  f_law_cells : Addr
  d_law_cells : FuncData
  F_law_cells : Fun K "_law_cells" "_law_cells" s_law_cells f_law_cells d_law_cells
  b_law_cells : Binds K d_law_cells ["value"] []
  g_law_cells : mg "_law_cells" = some (.ref f_law_cells)
  f_law_numbers : Addr
  d_law_numbers : FuncData
  F_law_numbers : Fun K "_law_numbers" "_law_numbers" s_law_numbers f_law_numbers d_law_numbers
  b_law_numbers : Binds K d_law_numbers ["cell"] []
  g_law_numbers : mg "_law_numbers" = some (.ref f_law_numbers)
  f_law_some : Addr
  d_law_some : FuncData
  F_law_some : Fun K "_law_some" "_law_some" s_law_some f_law_some d_law_some
  b_law_some : Binds K d_law_some ["cell", "count", "height", "width"] []
  g_law_some : mg "_law_some" = some (.ref f_law_some)
  f_law_ring : Addr
  d_law_ring : FuncData
  F_law_ring : Fun K "_law_ring" "_law_ring" s_law_ring f_law_ring d_law_ring
  b_law_ring : Binds K d_law_ring ["cells", "births", "survival", "h", "w"] []
  g_law_ring : mg "_law_ring" = some (.ref f_law_ring)
  f_law : Addr
  d_law : FuncData
  F_law : Fun K "law" "law" s_law f_law d_law
  b_law : Binds K d_law ["script"] []
  g_law : mg "law" = some (.ref f_law)
  z_range : mg "range" = none
  z_divmod : mg "divmod" = none
  z_len : mg "len" = none
  z_tuple : mg "tuple" = none
  z_sorted : mg "sorted" = none
  z_set : mg "set" = none
  z_int : mg "int" = none
  z_abs : mg "abs" = none
  z_isinstance : mg "isinstance" = none
  z_bool : mg "bool" = none
  z_list : mg "list" = none
end My
namespace My
open PySem PySem.Spec PyProof.Rows L2 Vx
open TL
local macro_rules | `(tactic| k_invariant "new" ($n, $H:ident, $e:ident, $h:ident)) => `(tactic| (generalize hE : upd _ _ _ = $H; obtain ⟨$e:ident, $h:ident⟩ := gen_e hE $n; clear hE))
local macro_rules | `(tactic| k_places) => `(tactic| first
  | assumption
  | exact lst_of (by assumption)
  | exact tup_of (by assumption)
  | (refine getS (by assumption) ?_; k_places)
  | (refine Same.seq (by assumption) ?_; k_places)
  | (refine tupS (by assumption) ?_; k_places)
  | (refine lst_of ?_; k_places)
  | (refine tup_of ?_; k_places))
local macro_rules | `(tactic| k_subL) => `(tactic| first
  | k_places
  | solve_by_elim (maxDepth := 10) [getS, lst_of, tup_of, Same.seq, tupS])
local macro_rules | `(tactic| k_offL) => `(tactic| first
  | (show (0 : Int) < _; first | omega | decide)
  | (refine ⟨?_, ?_⟩ <;> first | omega | decide)
  | exact .inr ⟨by decide, by decide⟩
  | exact .inl ⟨by decide, by decide⟩
  | exact .inl ⟨by omega, by omega⟩
  | omega)
local macro_rules | `(tactic| k_clsL) => `(tactic| exact Nat.le_of_ble_eq_true rfl)
local macro_rules | `(tactic| k_upd) => `(tactic| simp only [L2.start, List.map_cons, List.map_nil, List.length_cons, List.length_nil, List.replicate_succ, List.replicate_zero, List.cons_append, List.nil_append, List.set_cons_zero, List.set_cons_succ])
section
variable {P : Program} {w : World} {K : PySem.W.Frag} {mg : Str → Option Value} {base : Heap}
/-! ### rules -/
theorem bs_ne : ¬ (("births" : Str) = "survival") := by decide +kernel
theorem sb_ne : ¬ (("survival" : Str) = "births") := by decide +kernel
def rf (tb ts : Addr) : List (Str × V) := putF "survival" (.ref ts) (putF "births" (.ref tb) [])
theorem rf_b (tb ts : Addr) : (rf tb ts).lookup ("births" : Str) = some (.ref tb) := by
  unfold rf
  rw [lookup_putF, if_neg bs_ne, lookup_putF, if_pos rfl]
theorem rf_s (tb ts : Addr) : (rf tb ts).lookup ("survival" : Str) = some (.ref ts) := by
  unfold rf
  rw [lookup_putF, if_pos rfl]
theorem rf_no (tb ts : Addr) {m : Str} (h1 : ¬ m = "survival") (h2 : ¬ m = "births") : (rf tb ts).lookup m = none := by
  unfold rf
  rw [lookup_putF, if_neg h1, lookup_putF, if_neg h2]
  rfl
def RuleAt (C : Addr) (H : Hp) (r : Addr) (bs ss : List Int) : Prop :=
  ∃ dx tb ts, H r = some (.ins C dx (rf tb ts)) ∧ H tb = some (.tup (bs.map V.int)) ∧ H ts = some (.tup (ss.map V.int))
theorem RuleAt.up {C : Addr} {H H' : Hp} {r : Addr} {bs ss : List Int} (e : Same H H') (h : RuleAt C H r bs ss) : RuleAt C H' r bs ss := by
  obtain ⟨dx, tb, ts, h1, h2, h3⟩ := h
  exact ⟨dx, tb, ts, e _ _ h1, e _ _ h2, e _ _ h3⟩
def Canon (ns l : List Int) : Prop := l.Pairwise (· < ·) ∧ ∀ k, k ∈ l ↔ k ∈ ns
theorem canon_eq {ns l m : List Int} (h : Canon ns l) (h2 : m.Pairwise (· < ·)) (h3 : ∀ k, k ∈ ns ↔ k ∈ m) : l = m := asc_eq h.1 h2 fun k => (h.2 k).trans (h3 k)
def sp_Rule_init (K : PySem.W.Frag) (C : Addr) : Sp := fun vs H Q _ => ∃ (H0 : Hp) (r lb ls dx : Addr) (nb ns : List Int), vs = [.ref r, .ref lb, .ref ls] ∧ Same H0 H ∧ H0 r = none ∧ H r = some (.ins C dx []) ∧
  SqL K H0 lb (nb.map V.int) ∧ SqL K H0 ls (ns.map V.int) ∧ nb.length ≤ 63 ∧ ns.length ≤ 63 ∧
  ∀ (H' : Hp) (bs ss : List Int), Same H0 H' → RuleAt C H' r bs ss → Canon nb bs → Canon ns ss → Q .non H'
theorem ok_Rule_init (T : Txt K mg) : FnOk P w K mg base CX0 1 T.f_Rule_init T.d_Rule_init ["self", "births", "survival"] (sp_Rule_init K T.C_Rule) := by
  refine T.F_Rule_init.ok sc_Rule_init (fun vs H Q E h => ?_) (fun cdv A outer s H vs Q E hr h => ?_)
  · obtain ⟨_, _, _, _, _, _, _, rfl, _⟩ := h
    rfl
  · obtain ⟨H0, r, lb, ls, dx, nb, ns, rfl, s0, r0, hr0, hb, hs, l1, l2, q⟩ := h
    refine ⟨_, (pss_cons (ps_fld (pv 0) (pe_callTy call_tupL (by rfl) T.z_tuple (by decide +kernel) (pa_cons (pe_callB (cr_sortedSet rfl) (by rfl) T.z_sorted (by decide +kernel) (pa_cons (pe_callTy (cr_setL rfl) (by rfl) T.z_set (by decide +kernel) (pa_cons (pv 1) pa_nil)) pa_nil)) pa_nil)) rfl)
      (pss_one (ps_fld (pv 0) (pe_callTy call_tupL (by rfl) T.z_tuple (by decide +kernel) (pa_cons (pe_callB (cr_sortedSet rfl) (by rfl) T.z_sorted (by decide +kernel) (pa_cons (pe_callTy (cr_setL rfl) (by rfl) T.z_set (by decide +kernel) (pa_cons (pv 2) pa_nil)) pa_nil)) pa_nil)) rfl))), ?_⟩
    refine ⟨_, rfl, lb, nb, rfl, s0.seq hb, Nat.lt_of_le_of_lt (Nat.add_le_add_right l1 1) (by decide), fun p1 c1 n1 hc1 => ?_⟩
    k_invariant "new" (n1, H1, e1, h1)
    refine ⟨_, _, _, rfl, h1, by omega, fun bs p2 pw1 mem1 len1 n2 => ?_⟩
    k_invariant "new" (n2, H2, e2, h2)
    refine ⟨_, _, rfl, lst_of h2, fun p3 n3 => ?_⟩
    k_invariant "new" (n3, H3, e3, h3)
    refine ⟨_, rfl, r, T.C_Rule, dx, [], rfl, by k_subL, T.cl_Rule, T.na_Rule_births, (by show 0 < 1000; decide), ?_⟩
    have s3 : Same H0 H3 := s0.trans (e1.trans (e2.trans e3))
    have r3 : p3 ≠ r := fun e => by
      have : H3 r = some (.ins T.C_Rule dx []) := by k_subL
      rw [e] at h3
      rw [h3] at this
      cases this
    have s4 : Same H0 (upd H3 r (.ins T.C_Rule dx (putF "births" (.ref p3) []))) := mutS s3 r0
    have g4 : upd H3 r (.ins T.C_Rule dx (putF "births" (.ref p3) [])) r = some (.ins T.C_Rule dx (putF "births" (.ref p3) [])) := upd_same
    have g3 : upd H3 r (.ins T.C_Rule dx (putF "births" (.ref p3) [])) p3 = some (.tup (bs.map V.int)) := by rw [upd_ne r3]; exact h3
    generalize upd H3 r (.ins T.C_Rule dx (putF "births" (.ref p3) [])) = H4 at s4 g4 g3
    refine ⟨_, rfl, ls, ns, rfl, s4.seq hs, Nat.lt_of_le_of_lt (Nat.add_le_add_right l2 1) (by decide), fun p5 c2 n5 hc2 => ?_⟩
    k_invariant "new" (n5, H5, e5, h5)
    refine ⟨_, _, _, rfl, h5, by omega, fun ss p6 pw2 mem2 len2 n6 => ?_⟩
    k_invariant "new" (n6, H6, e6, h6)
    refine ⟨_, _, rfl, lst_of h6, fun p7 n7 => ?_⟩
    k_invariant "new" (n7, H7, e7, h7)
    have g8 : H7 r = some (.ins T.C_Rule dx (putF "births" (.ref p3) [])) := by k_subL
    refine ⟨_, rfl, r, T.C_Rule, dx, _, rfl, g8, T.cl_Rule, T.na_Rule_survival, (by show 1 < 1000; decide), ?_⟩
    have r7 : p7 ≠ r := fun e => by
      have : H7 r = some (.ins T.C_Rule dx (putF "births" (.ref p3) [])) := by k_subL
      rw [e] at h7
      rw [h7] at this
      cases this
    have g7 : H7 p3 = some (.tup (bs.map V.int)) := by k_subL
    refine q _ bs ss (mutS (s4.trans (e5.trans (e6.trans e7))) r0) ⟨dx, p3, p7, upd_same, ?_, ?_⟩ ⟨pw1, fun k => (mem1 k).trans (by simp)⟩ ⟨pw2, fun k => (mem2 k).trans (by simp)⟩
    · rw [upd_ne r3]; exact g7
    · rw [upd_ne r7]; exact h7
/-! ### three rows of bits counted -/
def ones3 (l a r : Nat) : Nat := (l ^^^ r) ^^^ a
def twos3 (l a r : Nat) : Nat := (l &&& r) ||| ((l ^^^ r) &&& a)
def sp_sums_of : Sp := fun vs H Q _ => ∃ (l a r : Nat), vs = [.int (l : Int), .int (a : Int), .int (r : Int)] ∧
  ∀ (H' : Hp) (p : Addr), Same H H' → H p = none → H' p = some (.tup [.int (ones3 l a r : Nat), .int (twos3 l a r : Nat)]) → Q (.ref p) H'
theorem ok_sums_of (T : Txt K mg) : FnOk P w K mg base CX0 1 T.f_sums_of T.d_sums_of ["left", "alive", "right"] sp_sums_of := by
  refine T.F_sums_of.ok sc_sums_of (fun vs H Q E h => ?_) (fun cdv A outer s H vs Q E hr h => ?_)
  · obtain ⟨_, _, _, rfl, _⟩ := h
    rfl
  · obtain ⟨l, a, r, rfl, q⟩ := h
    refine ⟨_, (pss_cons (ps_set (i := 3) sc_sums_of.nd rfl (.inl rfl) (pe_op op_xorNN (pv 0) (pv 2)))
      (pss_one (ps_ret (pe_tup (pa_cons (pe_op op_xorNN (pv 3) (pv 1)) (pa_cons (pe_op op_orNN (pe_op op_andNN (pv 0) (pv 2)) (pe_op op_andNN (pv 3) (pv 1))) pa_nil)))))), ?_⟩
    exact ⟨_, rfl, _, rfl, _, _, rfl, rfl, _, rfl, _, rfl, _, _, rfl, rfl, _, rfl, _, rfl, _, _, rfl, rfl, _, rfl, _, rfl, _, _, rfl, rfl, _, _, rfl, rfl, (by k_clsL), fun p n => q _ p (newS n) n upd_same⟩
def one9 (ao ho bo : Nat) : Nat := (ao ^^^ bo) ^^^ ho
def car9 (ao ho bo : Nat) : Nat := (ao &&& bo) ||| ((ao ^^^ bo) &&& ho)
def two9 (ao at' ho ht bo bt : Nat) : Nat := (at' ^^^ bt) ^^^ (ht ^^^ car9 ao ho bo)
def four9 (ao at' ho ht bo bt : Nat) : Nat := ((at' &&& bt) ^^^ (ht &&& car9 ao ho bo)) ||| ((at' ^^^ bt) &&& (ht ^^^ car9 ao ho bo))
def eight9 (ao at' ho ht bo bt : Nat) : Nat := (at' &&& bt) &&& (ht &&& car9 ao ho bo)
def sp_totals_of : Sp := fun vs H Q _ => ∃ (pa ph pb : Addr) (ao at' ho ht bo bt : Nat), vs = [.ref pa, .ref ph, .ref pb] ∧
  H pa = some (.tup [.int (ao : Int), .int (at' : Int)]) ∧ H ph = some (.tup [.int (ho : Int), .int (ht : Int)]) ∧ H pb = some (.tup [.int (bo : Int), .int (bt : Int)]) ∧
  ∀ (H' : Hp) (p : Addr), Same H H' → H p = none → H' p = some (.tup [.int (one9 ao ho bo : Nat), .int (two9 ao at' ho ht bo bt : Nat), .int (four9 ao at' ho ht bo bt : Nat), .int (eight9 ao at' ho ht bo bt : Nat)]) → Q (.ref p) H'
theorem ok_totals_of (T : Txt K mg) : FnOk P w K mg base CX0 1 T.f_totals_of T.d_totals_of ["above", "here", "below"] sp_totals_of := by
  refine T.F_totals_of.ok sc_totals_of (fun vs H Q E h => ?_) (fun cdv A outer s H vs Q E hr h => ?_)
  · obtain ⟨_, _, _, _, _, _, _, _, _, rfl, _⟩ := h
    rfl
  · obtain ⟨pa, ph, pb, ao, at', ho, ht, bo, bt, rfl, ha, hh, hb, q⟩ := h
    refine ⟨_, (pss_cons (ps_asg (pv 0) (pg_tupK (K := K) (n := 2) rfl rfl (pgs_cons (pg_name (i := 3) sc_totals_of.nd rfl (.inl rfl)) (pgs_cons (pg_name (i := 4) sc_totals_of.nd rfl (.inl rfl)) pgs_nil))))
      (pss_cons (ps_asg (pv 1) (pg_tupK (K := K) (n := 2) rfl rfl (pgs_cons (pg_name (i := 5) sc_totals_of.nd rfl (.inl rfl)) (pgs_cons (pg_name (i := 6) sc_totals_of.nd rfl (.inl rfl)) pgs_nil))))
      (pss_cons (ps_asg (pv 2) (pg_tupK (K := K) (n := 2) rfl rfl (pgs_cons (pg_name (i := 7) sc_totals_of.nd rfl (.inl rfl)) (pgs_cons (pg_name (i := 8) sc_totals_of.nd rfl (.inl rfl)) pgs_nil))))
      (pss_cons (ps_set (i := 9) sc_totals_of.nd rfl (.inl rfl) (pe_op op_xorNN (pv 3) (pv 7)))
      (pss_cons (ps_set (i := 10) sc_totals_of.nd rfl (.inl rfl) (pe_op op_orNN (pe_op op_andNN (pv 3) (pv 7)) (pe_op op_andNN (pv 9) (pv 5))))
      (pss_cons (ps_set (i := 11) sc_totals_of.nd rfl (.inl rfl) (pe_op op_xorNN (pv 4) (pv 8)))
      (pss_cons (ps_set (i := 12) sc_totals_of.nd rfl (.inl rfl) (pe_op op_xorNN (pv 6) (pv 10)))
      (pss_cons (ps_set (i := 13) sc_totals_of.nd rfl (.inl rfl) (pe_op op_andNN (pv 4) (pv 8)))
      (pss_cons (ps_set (i := 14) sc_totals_of.nd rfl (.inl rfl) (pe_op op_andNN (pv 6) (pv 10)))
      (pss_cons (ps_set (i := 15) sc_totals_of.nd rfl (.inl rfl) (pe_op op_orNN (pe_op op_xorNN (pv 13) (pv 14)) (pe_op op_andNN (pv 11) (pv 12))))
      (pss_one (ps_ret (pe_tup (pa_cons (pe_op op_xorNN (pv 9) (pv 5)) (pa_cons (pe_op op_xorNN (pv 11) (pv 12)) (pa_cons (pv 15) (pa_cons (pe_op op_andNN (pv 13) (pv 14)) pa_nil))))))))))))))))), ?_⟩
    k_upd
    refine ⟨_, rfl, pa, _, rfl, tup_of ha, rfl, _, _, rfl, _, _, rfl, rfl, ?_⟩
    k_upd
    refine ⟨_, rfl, ph, _, rfl, tup_of hh, rfl, _, _, rfl, _, _, rfl, rfl, ?_⟩
    k_upd
    refine ⟨_, rfl, pb, _, rfl, tup_of hb, rfl, _, _, rfl, _, _, rfl, rfl, ?_⟩
    k_upd
    refine ⟨_, rfl, _, rfl, _, _, rfl, rfl, ?_⟩
    k_upd
    refine ⟨_, rfl, _, rfl, _, _, rfl, rfl, _, rfl, _, rfl, _, _, rfl, rfl, _, _, rfl, rfl, ?_⟩
    k_upd
    refine ⟨_, rfl, _, rfl, _, _, rfl, rfl, ?_⟩
    k_upd
    refine ⟨_, rfl, _, rfl, _, _, rfl, rfl, ?_⟩
    k_upd
    refine ⟨_, rfl, _, rfl, _, _, rfl, rfl, ?_⟩
    k_upd
    refine ⟨_, rfl, _, rfl, _, _, rfl, rfl, ?_⟩
    k_upd
    refine ⟨_, rfl, _, rfl, _, _, rfl, rfl, _, rfl, _, rfl, _, _, rfl, rfl, _, _, rfl, rfl, ?_⟩
    k_upd
    refine ⟨_, rfl, _, rfl, _, _, rfl, rfl, _, rfl, _, rfl, _, _, rfl, rfl, _, rfl, _, rfl, _, rfl, _, _, rfl, rfl, (by k_clsL), fun p n => q _ p (newS n) n upd_same⟩
/-! ### the next strip -/
def near9 (o t f e : Nat) : Nat := ((o ||| t) ||| f) ||| e
def low4 (o t f e : Nat) : Nat → Nat
  | 0 => (near9 o t f e ^^^ o) &&& (near9 o t f e ^^^ t)
  | 1 => o &&& (near9 o t f e ^^^ t)
  | 2 => (near9 o t f e ^^^ o) &&& t
  | _ => o &&& t
def high3 (o t f e : Nat) : Nat → Nat
  | 0 => near9 o t f e ^^^ (f ||| e)
  | 1 => f
  | _ => e
def pick (o t f e n : Nat) : Nat := low4 o t f e (n % 4) &&& high3 o t f e (n / 4)
def picks (o t f e : Nat) (ns : List Nat) : Nat := ns.foldl (fun acc n => acc ||| pick o t f e n) 0
def nextN (alive o t f e : Nat) (bs ss : List Int) : Nat :=
  (picks o t f e (bs.map Int.toNat) &&& (near9 o t f e ^^^ alive)) ||| (picks o t f e (ss.map fun n => n.toNat + 1) &&& alive)
theorem at_low (o t f e : Nat) {k : Nat} (h : k < 4) : atI [V.int (((near9 o t f e ^^^ o) &&& (near9 o t f e ^^^ t) : Nat) : Int), .int ((o &&& (near9 o t f e ^^^ t) : Nat) : Int), .int (((near9 o t f e ^^^ o) &&& t : Nat) : Int), .int ((o &&& t : Nat) : Int)] (k : Int) = some (.int (low4 o t f e k : Nat)) := by
  match k, h with
  | 0, _ => rfl
  | 1, _ => rfl
  | 2, _ => rfl
  | 3, _ => rfl
theorem at_high (o t f e : Nat) {k : Nat} (h : k < 3) : atI [V.int ((near9 o t f e ^^^ (f ||| e) : Nat) : Int), .int (f : Int), .int (e : Int)] (k : Int) = some (.int (high3 o t f e k : Nat)) := by
  match k, h with
  | 0, _ => rfl
  | 1, _ => rfl
  | 2, _ => rfl
theorem and3 (m : Nat) : m &&& 3 = m % 4 := Nat.and_two_pow_sub_one_eq_mod m 2
theorem shr2 (m : Nat) : m >>> 2 = m / 4 := by rw [Nat.shiftRight_eq_div_pow]
def sp_next_strip (C : Addr) : Sp := fun vs H Q _ => ∃ (pt r : Addr) (alive o t f e : Nat) (bs ss : List Int), vs = [.int (alive : Int), .ref pt, .ref r] ∧
  H pt = some (.tup [.int (o : Int), .int (t : Int), .int (f : Int), .int (e : Int)]) ∧ RuleAt C H r bs ss ∧ (∀ b ∈ bs, 0 ≤ b ∧ b ≤ 8) ∧ (∀ b ∈ ss, 0 ≤ b ∧ b ≤ 8) ∧
  ∀ (H' : Hp), Same H H' → Q (.int (nextN alive o t f e bs ss : Nat)) H'
theorem ok_next_strip (T : Txt K mg) : FnOk P w K mg base CX0 1 T.f_next_strip T.d_next_strip ["alive", "totals", "rule"] (sp_next_strip T.C_Rule) := by
  refine T.F_next_strip.ok sc_next_strip (fun vs H Q E h => ?_) (fun cdv A outer s H vs Q E hr h => ?_)
  · obtain ⟨_, _, _, _, _, _, _, _, _, rfl, _⟩ := h
    rfl
  · obtain ⟨pt, r, alive, o, t, f, e, bs, ss, rfl, hp, hR, bb, bss, q⟩ := h
    refine ⟨_, (pss_cons (ps_asg (pv 1) (pg_tupK (K := K) (n := 4) rfl rfl (pgs_cons (pg_name (i := 3) sc_next_strip.nd rfl (.inl rfl)) (pgs_cons (pg_name (i := 4) sc_next_strip.nd rfl (.inl rfl)) (pgs_cons (pg_name (i := 5) sc_next_strip.nd rfl (.inl rfl)) (pgs_cons (pg_name (i := 6) sc_next_strip.nd rfl (.inl rfl)) pgs_nil))))))
      (pss_cons (ps_set (i := 7) sc_next_strip.nd rfl (.inl rfl) (pe_op op_orNN (pe_op op_orNN (pe_op op_orNN (pv 3) (pv 4)) (pv 5)) (pv 6)))
      (pss_cons (ps_set (i := 8) sc_next_strip.nd rfl (.inl rfl) (pe_op op_xorNN (pv 7) (pv 3)))
      (pss_cons (ps_set (i := 9) sc_next_strip.nd rfl (.inl rfl) (pe_op op_xorNN (pv 7) (pv 4)))
      (pss_cons (ps_set (i := 10) sc_next_strip.nd rfl (.inl rfl) (pe_tup (pa_cons (pe_op op_andNN (pv 8) (pv 9)) (pa_cons (pe_op op_andNN (pv 3) (pv 9)) (pa_cons (pe_op op_andNN (pv 8) (pv 4)) (pa_cons (pe_op op_andNN (pv 3) (pv 4)) pa_nil))))))
      (pss_cons (ps_set (i := 11) sc_next_strip.nd rfl (.inl rfl) (pe_tup (pa_cons (pe_op op_xorNN (pv 7) (pe_op op_orNN (pv 5) (pv 6))) (pa_cons (pv 5) (pa_cons (pv 6) pa_nil)))))
      (pss_cons (ps_set (i := 12) sc_next_strip.nd rfl (.inl rfl) pe_int)
      (pss_cons (ps_for PassesOwn.never rfl (pi_tup (pe_fld (pv 2) rfl)) (pg_name (i := 13) sc_next_strip.nd rfl (.inl rfl))
      (pss_one (ps_aug (i := 12) sc_next_strip.nd rfl (.inl rfl) (pe_op op_andNN (pe_ix (ix_tupK (K := K) rfl) (pv 10) (pe_op op_andNN (pv 13) pe_int) (fun _ _ => rfl)) (pe_ix (ix_tupK (K := K) rfl) (pv 11) (pe_op op_shrNN (pv 13) pe_int) (fun _ _ => rfl))) ip_orNN)))
      (pss_cons (ps_set (i := 14) sc_next_strip.nd rfl (.inl rfl) pe_int)
      (pss_cons (ps_for PassesOwn.never rfl (pi_tup (pe_fld (pv 2) rfl)) (pg_name (i := 13) sc_next_strip.nd rfl (.inl rfl))
      (pss_cons (ps_set (i := 15) sc_next_strip.nd rfl (.inl rfl) (pe_op op_add (pv 13) pe_int))
      (pss_one (ps_aug (i := 14) sc_next_strip.nd rfl (.inl rfl) (pe_op op_andNN (pe_ix (ix_tupK (K := K) rfl) (pv 10) (pe_op op_andNN (pv 15) pe_int) (fun _ _ => rfl)) (pe_ix (ix_tupK (K := K) rfl) (pv 11) (pe_op op_shrNN (pv 15) pe_int) (fun _ _ => rfl))) ip_orNN))))
      (pss_one (ps_ret (pe_op op_orNN (pe_op op_andNN (pv 12) (pe_op op_xorNN (pv 7) (pv 0))) (pe_op op_andNN (pv 14) (pv 0))))))))))))))), ?_⟩
    k_upd
    refine ⟨_, rfl, pt, _, rfl, tup_of hp, rfl, _, _, rfl, _, _, rfl, _, _, rfl, _, _, rfl, rfl, ?_⟩
    k_upd
    refine ⟨_, rfl, _, rfl, _, _, rfl, rfl, _, rfl, _, _, rfl, rfl, _, rfl, _, _, rfl, rfl, ?_⟩
    k_upd
    refine ⟨_, rfl, _, rfl, _, _, rfl, rfl, ?_⟩
    k_upd
    refine ⟨_, rfl, _, rfl, _, _, rfl, rfl, ?_⟩
    k_upd
    refine ⟨_, rfl, _, rfl, _, _, rfl, rfl, _, rfl, _, rfl, _, _, rfl, rfl, _, rfl, _, rfl, _, _, rfl, rfl, _, rfl, _, rfl, _, _, rfl, rfl, (by k_clsL), fun pl nl => ?_⟩
    k_upd
    k_invariant "new" (nl, H1, e1, h1)
    refine ⟨_, rfl, _, rfl, _, rfl, _, _, rfl, rfl, _, _, rfl, rfl, _, rfl, _, rfl, (by k_clsL), fun ph nh => ?_⟩
    k_upd
    k_invariant "new" (nh, H2, e2, h2)
    have h1 := e2 _ _ h1
    obtain ⟨dx, tb, ts, r1, r2, r3⟩ := hR.up (e1.trans e2)
    refine ⟨_, rfl, r, _, _, _, _, rfl, r1, T.cl_Rule, T.na_Rule_births, rf_b _ _, tb, rfl, ⟨_, tup_of r2⟩, ?_⟩
    refine for_it (walk_tup (K := K) (a := tb) (xs := bs.map V.int)) (fun i σ H' => H' = H2 ∧ ∃ n : Option V, σ = [some (.int (alive : Int)), some (.ref pt), some (.ref r), some (.int (o : Int)), some (.int (t : Int)), some (.int (f : Int)), some (.int (e : Int)), some (.int (near9 o t f e : Nat)), some (.int ((near9 o t f e ^^^ o : Nat))), some (.int ((near9 o t f e ^^^ t : Nat))), some (.ref pl), some (.ref ph), some (.int (picks o t f e ((bs.take i).map Int.toNat) : Nat)), n, none, none])
      ⟨rfl, _, rfl⟩ (fun i σ H' _ p => by rw [p.1]; exact tup_of r2) ?_ ?_
    · rintro i x σ H' H'' hi ⟨rfl, n, rfl⟩ ⟨rfl, hx⟩
      obtain ⟨z, rfl, hz, mz⟩ := item_ints hx
      have bz := bb z mz
      obtain ⟨m, rfl⟩ := Int.eq_ofNat_of_zero_le bz.1
      have m4 : m % 4 < 4 := Nat.mod_lt _ (by decide)
      have m3 : m / 4 < 3 := by omega
      refine ⟨_, rfl, _, rfl, _, rfl, m, 3, rfl, rfl, pl, _, _, _, rfl, rfl, tup_of h1, (by rw [and3]; exact at_low o t f e m4), ?_⟩
      refine ⟨_, rfl, _, rfl, m, 2, rfl, rfl, ph, _, _, _, rfl, rfl, tup_of h2, (by rw [shr2]; exact at_high o t f e m3), _, _, rfl, rfl, ?_⟩
      refine ⟨_, _, rfl, rfl, ?_⟩
      k_upd
      refine ⟨trivial, some (.int (m : Int)), ?_⟩
      rw [take_next hz, List.map_append]
      unfold picks
      rw [List.foldl_append]
      rfl
    · rintro σ H' ⟨rfl, n, rfl⟩
      rw [List.length_map, List.take_of_length_le (Nat.le_refl _)]
      refine ⟨_, rfl, r, _, _, _, _, rfl, r1, T.cl_Rule, T.na_Rule_survival, rf_s _ _, ts, rfl, ⟨_, tup_of r3⟩, ?_⟩
      refine for_it (walk_tup (K := K) (a := ts) (xs := ss.map V.int)) (fun i σ H'' => H'' = H' ∧ ∃ n n2 : Option V, σ = [some (.int (alive : Int)), some (.ref pt), some (.ref r), some (.int (o : Int)), some (.int (t : Int)), some (.int (f : Int)), some (.int (e : Int)), some (.int (near9 o t f e : Nat)), some (.int ((near9 o t f e ^^^ o : Nat))), some (.int ((near9 o t f e ^^^ t : Nat))), some (.ref pl), some (.ref ph), some (.int (picks o t f e (bs.map Int.toNat) : Nat)), n, some (.int (picks o t f e ((ss.take i).map fun n => n.toNat + 1) : Nat)), n2])
        ⟨rfl, _, _, rfl⟩ (fun i σ H'' _ p => by rw [p.1]; exact tup_of r3) ?_ ?_
      · rintro i x σ H3 H4 hi ⟨rfl, n, n2, rfl⟩ ⟨rfl, hx⟩
        obtain ⟨z, rfl, hz, mz⟩ := item_ints hx
        have bz := bss z mz
        obtain ⟨m, rfl⟩ := Int.eq_ofNat_of_zero_le bz.1
        have m4 : (m + 1) % 4 < 4 := Nat.mod_lt _ (by decide)
        have m3 : (m + 1) / 4 < 3 := by omega
        refine ⟨_, rfl, _, _, rfl, rfl, ?_⟩
        refine ⟨_, rfl, _, rfl, _, rfl, m + 1, 3, rfl, rfl, pl, _, _, _, rfl, rfl, tup_of h1, (by rw [and3]; exact at_low o t f e m4), ?_⟩
        refine ⟨_, rfl, _, rfl, m + 1, 2, rfl, rfl, ph, _, _, _, rfl, rfl, tup_of h2, (by rw [shr2]; exact at_high o t f e m3), _, _, rfl, rfl, ?_⟩
        refine ⟨_, _, rfl, rfl, ?_⟩
        k_upd
        refine ⟨trivial, some (.int (m : Int)), some (.int ((m : Int) + 1)), ?_⟩
        rw [take_next hz, List.map_append]
        unfold picks
        rw [List.foldl_append]
        rfl
      · rintro σ H3 ⟨rfl, n, n2, rfl⟩
        rw [List.length_map, List.take_of_length_le (Nat.le_refl _)]
        exact ⟨_, rfl, _, rfl, _, rfl, _, _, rfl, rfl, _, _, rfl, rfl, _, rfl, _, rfl, _, _, rfl, rfl, _, _, rfl, rfl, q _ (e1.trans e2)⟩
/-! ### what the bits say -/
def nb (L : Int → Int → Bool) (r c : Int) : Nat :=
  (L (r - 1) (c - 1)).toNat + (L (r - 1) c).toNat + (L (r - 1) (c + 1)).toNat + (L r (c - 1)).toNat + (L r (c + 1)).toNat + (L (r + 1) (c - 1)).toNat + (L (r + 1) c).toNat + (L (r + 1) (c + 1)).toNat
def stepL (bs ss : List Int) (L : Int → Int → Bool) (r c : Int) : Bool := if L r c = true then decide ((nb L r c : Int) ∈ ss) else decide ((nb L r c : Int) ∈ bs)
def genL (bs ss : List Int) (L : Int → Int → Bool) : Nat → Int → Int → Bool
  | 0 => L
  | n + 1 => stepL bs ss (genL bs ss L n)
def oneB (l a r : Bool) : Bool := (l ^^ r) ^^ a
def twoB (l a r : Bool) : Bool := (l && r) || ((l ^^ r) && a)
def carB (ao ho bo : Bool) : Bool := (ao && bo) || ((ao ^^ bo) && ho)
def sum9 (a b c d e f g h i : Bool) : Nat := a.toNat + b.toNat + c.toNat + d.toNat + e.toNat + f.toNat + g.toNat + h.toNat + i.toNat
theorem bits9 : ∀ a b c d e f g h i : Bool,
    ((oneB a b c ^^ oneB g h i) ^^ oneB d e f) = decide (sum9 a b c d e f g h i % 2 = 1) ∧
    ((twoB a b c ^^ twoB g h i) ^^ (twoB d e f ^^ carB (oneB a b c) (oneB d e f) (oneB g h i))) = decide (sum9 a b c d e f g h i / 2 % 2 = 1) ∧
    (((twoB a b c && twoB g h i) ^^ (twoB d e f && carB (oneB a b c) (oneB d e f) (oneB g h i))) || ((twoB a b c ^^ twoB g h i) && (twoB d e f ^^ carB (oneB a b c) (oneB d e f) (oneB g h i)))) = decide (sum9 a b c d e f g h i / 4 % 2 = 1) ∧
    ((twoB a b c && twoB g h i) && (twoB d e f && carB (oneB a b c) (oneB d e f) (oneB g h i))) = decide (sum9 a b c d e f g h i / 8 % 2 = 1) ∧ sum9 a b c d e f g h i < 10 := by
  decide +kernel
def lowB (o t n : Bool) : Nat → Bool
  | 0 => (n ^^ o) && (n ^^ t)
  | 1 => o && (n ^^ t)
  | 2 => (n ^^ o) && t
  | _ => o && t
def highB (f e n : Bool) : Nat → Bool
  | 0 => n ^^ (f || e)
  | 1 => f
  | _ => e
theorem pickB : ∀ s < 10, ∀ n < 10, 1 ≤ n → (lowB (decide (s % 2 = 1)) (decide (s / 2 % 2 = 1)) (((decide (s % 2 = 1) || decide (s / 2 % 2 = 1)) || decide (s / 4 % 2 = 1)) || decide (s / 8 % 2 = 1)) (n % 4) &&
    highB (decide (s / 4 % 2 = 1)) (decide (s / 8 % 2 = 1)) (((decide (s % 2 = 1) || decide (s / 2 % 2 = 1)) || decide (s / 4 % 2 = 1)) || decide (s / 8 % 2 = 1)) (n / 4)) = decide (s = n) := by
  decide +kernel
theorem nearB : ∀ s < 10, (((decide (s % 2 = 1) || decide (s / 2 % 2 = 1)) || decide (s / 4 % 2 = 1)) || decide (s / 8 % 2 = 1)) = decide (s ≠ 0) := by decide +kernel
theorem low4_bit (o t f e j : Nat) : ∀ k, (low4 o t f e k).testBit j = lowB (o.testBit j) (t.testBit j) ((near9 o t f e).testBit j) k
  | 0 => by show ((near9 o t f e ^^^ o) &&& (near9 o t f e ^^^ t)).testBit j = _; rw [Nat.testBit_and, Nat.testBit_xor, Nat.testBit_xor]; rfl
  | 1 => by show (o &&& (near9 o t f e ^^^ t)).testBit j = _; rw [Nat.testBit_and, Nat.testBit_xor]; rfl
  | 2 => by show ((near9 o t f e ^^^ o) &&& t).testBit j = _; rw [Nat.testBit_and, Nat.testBit_xor]; rfl
  | _ + 3 => by show (o &&& t).testBit j = _; rw [Nat.testBit_and]; rfl
theorem high3_bit (o t f e j : Nat) : ∀ k, (high3 o t f e k).testBit j = highB (f.testBit j) (e.testBit j) ((near9 o t f e).testBit j) k
  | 0 => by show (near9 o t f e ^^^ (f ||| e)).testBit j = _; rw [Nat.testBit_xor, Nat.testBit_or]; rfl
  | 1 => rfl
  | _ + 2 => rfl
theorem picks_bit (o t f e j : Nat) (ns : List Nat) : (picks o t f e ns).testBit j = ns.any fun n => (pick o t f e n).testBit j := by
  have go : ∀ (ns : List Nat) (a : Nat), (ns.foldl (fun acc n => acc ||| pick o t f e n) a).testBit j = (a.testBit j || ns.any fun n => (pick o t f e n).testBit j) := fun ns => by
    induction ns with
    | nil => exact fun a => by simp
    | cons n ns ih =>
      intro a
      rw [List.foldl_cons, ih, Nat.testBit_or, List.any_cons, Bool.or_assoc]
  unfold picks
  rw [go, Nat.zero_testBit, Bool.false_or]
/-- the bit of the next strip, by the total s of the nine -/
theorem nextN_bit {alive o t f e j s : Nat} {bs ss : List Int} (hs : s < 10) (h1 : o.testBit j = decide (s % 2 = 1)) (h2 : t.testBit j = decide (s / 2 % 2 = 1)) (h4 : f.testBit j = decide (s / 4 % 2 = 1)) (h8 : e.testBit j = decide (s / 8 % 2 = 1))
    (hb : ∀ b ∈ bs, 1 ≤ b ∧ b ≤ 8) (hss : ∀ b ∈ ss, 0 ≤ b ∧ b ≤ 8) (ha : alive.testBit j = true → 1 ≤ s) :
    (nextN alive o t f e bs ss).testBit j = if alive.testBit j = true then decide (((s : Int) - 1) ∈ ss) else decide ((s : Int) ∈ bs) := by
  have hn : (near9 o t f e).testBit j = decide (s ≠ 0) := by
    unfold near9
    rw [Nat.testBit_or, Nat.testBit_or, Nat.testBit_or, h1, h2, h4, h8]
    exact nearB s hs
  have hp : ∀ n, 1 ≤ n → n < 10 → (pick o t f e n).testBit j = decide (s = n) := fun n n1 n2 => by
    unfold pick
    rw [Nat.testBit_and, low4_bit, high3_bit, hn, h1, h2, h4, h8, ← nearB s hs]
    exact pickB s hs n n2 n1
  have pb : (picks o t f e (bs.map Int.toNat)).testBit j = decide ((s : Int) ∈ bs) := by
    rw [picks_bit, Bool.eq_iff_iff, decide_eq_true_iff, List.any_eq_true]
    constructor
    · rintro ⟨n, m, h⟩
      obtain ⟨b, mb, rfl⟩ := List.mem_map.mp m
      have := hb b mb
      rw [hp _ (by omega) (by omega)] at h
      have h := of_decide_eq_true h
      rw [show (s : Int) = b by omega]
      exact mb
    · intro m
      have := hb _ m
      refine ⟨s, List.mem_map.mpr ⟨_, m, by omega⟩, ?_⟩
      rw [hp _ (by omega) hs]
      exact decide_eq_true rfl
  have pss : (picks o t f e (ss.map fun n => n.toNat + 1)).testBit j = decide (((s : Int) - 1) ∈ ss) := by
    rw [picks_bit, Bool.eq_iff_iff, decide_eq_true_iff, List.any_eq_true]
    constructor
    · rintro ⟨n, m, h⟩
      obtain ⟨b, mb, rfl⟩ := List.mem_map.mp m
      have := hss b mb
      rw [hp _ (by omega) (by omega)] at h
      have h := of_decide_eq_true h
      rw [show (s : Int) - 1 = b by omega]
      exact mb
    · intro m
      have := hss _ m
      refine ⟨s, List.mem_map.mpr ⟨_, m, by omega⟩, ?_⟩
      rw [hp _ (by omega) hs]
      exact decide_eq_true rfl
  unfold nextN
  rw [Nat.testBit_or, Nat.testBit_and, Nat.testBit_and, Nat.testBit_xor, pb, pss, hn]
  cases hal : alive.testBit j with
  | true =>
    have := ha hal
    rw [decide_eq_true (show s ≠ 0 by omega), if_pos rfl]
    simp
  | false =>
    rw [if_neg (by decide)]
    by_cases z : s = 0
    · have nm : ¬ (s : Int) ∈ bs := fun m => by
        have := hb _ m
        omega
      rw [decide_eq_false nm]
      simp
    · rw [decide_eq_true z]
      simp
end
end My
namespace My
open PySem PySem.Spec PyProof.Rows L2 Vx
open TL
local macro_rules | `(tactic| k_invariant "new" ($n, $H:ident, $e:ident, $h:ident)) => `(tactic| (generalize hE : upd _ _ _ = $H; obtain ⟨$e:ident, $h:ident⟩ := gen_e hE $n; clear hE))
local macro_rules | `(tactic| k_places) => `(tactic| first
  | assumption
  | exact lst_of (by assumption)
  | exact tup_of (by assumption)
  | (refine getS (by assumption) ?_; k_places)
  | (refine Same.seq (by assumption) ?_; k_places)
  | (refine tupS (by assumption) ?_; k_places)
  | (refine lst_of ?_; k_places)
  | (refine tup_of ?_; k_places))
local macro_rules | `(tactic| k_subL) => `(tactic| first
  | k_places
  | solve_by_elim (maxDepth := 10) [getS, lst_of, tup_of, Same.seq, tupS])
local macro_rules | `(tactic| k_offL) => `(tactic| first
  | (show (0 : Int) < _; first | omega | decide)
  | (refine ⟨?_, ?_⟩ <;> first | omega | decide)
  | exact .inr ⟨by decide, by decide⟩
  | exact .inl ⟨by decide, by decide⟩
  | exact .inl ⟨by omega, by omega⟩
  | omega)
local macro_rules | `(tactic| k_clsL) => `(tactic| exact Nat.le_of_ble_eq_true rfl)
local macro_rules | `(tactic| k_upd) => `(tactic| simp only [L2.start, List.map_cons, List.map_nil, List.length_cons, List.length_nil, List.replicate_succ, List.replicate_zero, List.cons_append, List.nil_append, List.set_cons_zero, List.set_cons_succ])
section
variable {P : Program} {w : World} {K : PySem.W.Frag} {mg : Str → Option Value} {base : Heap}
/-! ### rings: their bits -/
theorem p_div {w r c : Nat} (hc : c < w) : (r * w + c) / w = r := by
  rw [Nat.add_comm, Nat.add_mul_div_right _ _ (by omega), Nat.div_eq_of_lt hc, Nat.zero_add]
theorem p_mod {w r c : Nat} (hc : c < w) : (r * w + c) % w = c := by
  rw [Nat.add_comm, Nat.add_mul_mod_self_right, Nat.mod_eq_of_lt hc]
theorem p_eq {w r c r' c' : Nat} (hc : c < w) (hc' : c' < w) : r * w + c = r' * w + c' ↔ r = r' ∧ c = c' := by
  constructor
  · intro e
    have e1 : (r * w + c) / w = (r' * w + c') / w := congrArg (· / w) e
    have e2 : (r * w + c) % w = (r' * w + c') % w := congrArg (· % w) e
    rw [p_div hc, p_div hc'] at e1
    rw [p_mod hc, p_mod hc'] at e2
    exact ⟨e1, e2⟩
  · rintro ⟨rfl, rfl⟩
    rfl
theorem p_lt {w r c h : Nat} (hc : c < w) : r * w + c < h * w ↔ r < h := by
  rw [← Nat.div_lt_iff_lt_mul (by omega), p_div hc]
theorem p_split (w p : Nat) (hw : 0 < w) : ∃ r c, c < w ∧ p = r * w + c := ⟨p / w, p % w, Nat.mod_lt _ hw, by rw [Nat.mul_comm]; exact (Nat.div_add_mod p w).symm⟩
def fullR (h w : Nat) : Nat := 2 ^ (h * w) - 1
def firstC (w : Nat) : Nat → Nat
  | 0 => 0
  | r + 1 => firstC w r ||| (1 <<< (r * w))
def lastC (h w : Nat) : Nat := (firstC w h <<< w) >>> 1
theorem full_at {h w r c : Nat} (hc : c < w) : (fullR h w).testBit (r * w + c) = decide (r < h) := by
  unfold fullR
  rw [Nat.testBit_two_pow_sub_one]
  exact decide_eq_decide.mpr (p_lt hc)
theorem first_at {w r c : Nat} (hc : c < w) : ∀ h, (firstC w h).testBit (r * w + c) = (decide (c = 0) && decide (r < h))
  | 0 => by simp [firstC]
  | h + 1 => by
    show (firstC w h ||| (1 <<< (h * w))).testBit (r * w + c) = _
    rw [Nat.testBit_or, first_at hc h, Nat.one_shiftLeft, Nat.testBit_two_pow]
    have e : (h * w = r * w + c) ↔ (r = h ∧ c = 0) := by
      have q := p_eq (w := w) (r := h) (c := 0) (r' := r) (c' := c) (by omega) hc
      rw [Nat.add_zero] at q
      rw [q]
      omega
    rw [Bool.eq_iff_iff]
    simp only [Bool.or_eq_true, Bool.and_eq_true, decide_eq_true_eq, e]
    omega
theorem last_at {h w r c : Nat} (hc : c < w) : (lastC h w).testBit (r * w + c) = (decide (c = w - 1) && decide (r < h)) := by
  unfold lastC
  rw [Nat.testBit_shiftRight, Nat.testBit_shiftLeft]
  by_cases e : c = w - 1
  · have e1 : 1 + (r * w + c) - w = r * w + 0 := by omega
    rw [e1, first_at (by omega), decide_eq_true (show 1 + (r * w + c) ≥ w by omega), decide_eq_true e]
    simp
  · rw [decide_eq_false e, Bool.false_and]
    cases r with
    | zero =>
      rw [decide_eq_false (by omega), Bool.false_and]
    | succ r =>
      have e1 : 1 + ((r + 1) * w + c) - w = r * w + (c + 1) := by
        rw [Nat.succ_mul]
        omega
      rw [e1, first_at (by omega), decide_eq_false (show ¬ c + 1 = 0 by omega), Bool.false_and, Bool.and_false]
def leftR (h w b : Nat) : Nat := ((b <<< 1) &&& (fullR h w ^^^ firstC w h)) ||| ((b >>> (w - 1)) &&& firstC w h)
def rightR (h w b : Nat) : Nat := ((b >>> 1) &&& (fullR h w ^^^ lastC h w)) ||| ((b <<< (w - 1)) &&& lastC h w)
def aboveR (h w b : Nat) : Nat := ((b <<< w) &&& fullR h w) ||| (b >>> ((h - 1) * w))
def belowR (h w b : Nat) : Nat := (b >>> w) ||| ((b <<< ((h - 1) * w)) &&& fullR h w)
def prv (n k : Nat) : Nat := (k + n - 1) % n
def nxt (n k : Nat) : Nat := (k + 1) % n
theorem prv_lt {n k : Nat} (h : 0 < n) : prv n k < n := Nat.mod_lt _ h
theorem nxt_lt {n k : Nat} (h : 0 < n) : nxt n k < n := Nat.mod_lt _ h
theorem prv_0 {n : Nat} (h : 0 < n) : prv n 0 = n - 1 := by
  unfold prv
  rw [Nat.zero_add, Nat.mod_eq_of_lt (by omega)]
theorem prv_s {n k : Nat} (h : k + 1 < n) : prv n (k + 1) = k := by
  unfold prv
  rw [show k + 1 + n - 1 = k + n by omega, Nat.add_mod_right, Nat.mod_eq_of_lt (by omega)]
theorem nxt_l {n : Nat} (h : 0 < n) : nxt n (n - 1) = 0 := by
  unfold nxt
  rw [show n - 1 + 1 = n by omega, Nat.mod_self]
theorem nxt_s {n k : Nat} (h : k + 1 < n) : nxt n k = k + 1 := Nat.mod_eq_of_lt h
theorem left_bit {h w r c b : Nat} (hr : r < h) (hc : c < w) : (leftR h w b).testBit (r * w + c) = b.testBit (r * w + prv w c) := by
  unfold leftR
  rw [Nat.testBit_or, Nat.testBit_and, Nat.testBit_and, Nat.testBit_xor, full_at hc, first_at hc, Nat.testBit_shiftLeft, Nat.testBit_shiftRight, decide_eq_true hr, Bool.and_true]
  cases c with
  | zero =>
    rw [prv_0 hc, show w - 1 + (r * w + 0) = r * w + (w - 1) by omega]
    simp
  | succ c =>
    rw [prv_s hc, show r * w + (c + 1) - 1 = r * w + c by omega, decide_eq_true (show r * w + (c + 1) ≥ 1 by omega)]
    simp
theorem right_bit {h w r c b : Nat} (hr : r < h) (hc : c < w) : (rightR h w b).testBit (r * w + c) = b.testBit (r * w + nxt w c) := by
  unfold rightR
  rw [Nat.testBit_or, Nat.testBit_and, Nat.testBit_and, Nat.testBit_xor, full_at hc, last_at hc, Nat.testBit_shiftLeft, Nat.testBit_shiftRight, decide_eq_true hr, Bool.and_true]
  by_cases e : c = w - 1
  · subst e
    rw [nxt_l (by omega), show r * w + (w - 1) - (w - 1) = r * w + 0 by omega, decide_eq_true (show r * w + (w - 1) ≥ w - 1 by omega)]
    simp
  · rw [nxt_s (by omega), show 1 + (r * w + c) = r * w + (c + 1) by omega, decide_eq_false e]
    simp
theorem fit_bit {h w r c b : Nat} (fb : b < 2 ^ (h * w)) (hr : h ≤ r) (hc : c < w) : b.testBit (r * w + c) = false :=
  Nat.testBit_lt_two_pow (Nat.lt_of_lt_of_le fb (Nat.pow_le_pow_right (by decide) (Nat.le_of_not_lt fun z => by have := (p_lt hc).mp z; omega)))
theorem above_bit {h w r c b : Nat} (fb : b < 2 ^ (h * w)) (hr : r < h) (hc : c < w) : (aboveR h w b).testBit (r * w + c) = b.testBit (prv h r * w + c) := by
  unfold aboveR
  rw [Nat.testBit_or, Nat.testBit_and, full_at hc, Nat.testBit_shiftLeft, Nat.testBit_shiftRight, decide_eq_true hr, Bool.and_true]
  cases r with
  | zero =>
    rw [prv_0 hr, Nat.zero_mul, Nat.zero_add, decide_eq_false (by omega)]
    simp
  | succ r =>
    rw [prv_s hr, show (r + 1) * w + c - w = r * w + c by rw [Nat.succ_mul]; omega, decide_eq_true (show (r + 1) * w + c ≥ w by rw [Nat.succ_mul]; omega)]
    have e : (h - 1) * w + ((r + 1) * w + c) = (h + r) * w + c := by
      rw [← Nat.add_assoc, ← Nat.add_mul]
      congr 2
      omega
    rw [e, fit_bit (r := h + r) fb (by omega) hc]
    simp
theorem below_bit {h w r c b : Nat} (fb : b < 2 ^ (h * w)) (hr : r < h) (hc : c < w) : (belowR h w b).testBit (r * w + c) = b.testBit (nxt h r * w + c) := by
  unfold belowR
  rw [Nat.testBit_or, Nat.testBit_and, full_at hc, Nat.testBit_shiftLeft, Nat.testBit_shiftRight, decide_eq_true hr, Bool.and_true]
  have e : w + (r * w + c) = (r + 1) * w + c := by
    rw [Nat.succ_mul]
    omega
  rw [e]
  by_cases l : r = h - 1
  · subst l
    rw [nxt_l (by omega), fit_bit fb (by omega) hc, show (h - 1) * w + c - (h - 1) * w = 0 * w + c by omega, decide_eq_true (show (h - 1) * w + c ≥ (h - 1) * w by omega)]
    simp
  · have lt : r * w + c < (h - 1) * w := (p_lt hc).mpr (by omega)
    rw [nxt_s (by omega), decide_eq_false (by omega)]
    simp
theorem left_out {h w r c b : Nat} (hr : h ≤ r) (hc : c < w) : (leftR h w b).testBit (r * w + c) = false := by
  unfold leftR
  rw [Nat.testBit_or, Nat.testBit_and, Nat.testBit_and, Nat.testBit_xor, full_at hc, first_at hc, decide_eq_false (show ¬ r < h by omega)]
  simp
theorem right_out {h w r c b : Nat} (hr : h ≤ r) (hc : c < w) : (rightR h w b).testBit (r * w + c) = false := by
  unfold rightR
  rw [Nat.testBit_or, Nat.testBit_and, Nat.testBit_and, Nat.testBit_xor, full_at hc, last_at hc, decide_eq_false (show ¬ r < h by omega)]
  simp
theorem above_out {h w r c b : Nat} (h0 : 0 < h) (fb : b < 2 ^ (h * w)) (hr : h ≤ r) (hc : c < w) : (aboveR h w b).testBit (r * w + c) = false := by
  unfold aboveR
  have e : (h - 1) * w + (r * w + c) = (h - 1 + r) * w + c := by
    rw [← Nat.add_assoc, ← Nat.add_mul]
  rw [Nat.testBit_or, Nat.testBit_and, full_at hc, Nat.testBit_shiftRight, e, fit_bit fb (by omega) hc, decide_eq_false (show ¬ r < h by omega)]
  simp
theorem below_out {h w r c b : Nat} (fb : b < 2 ^ (h * w)) (hr : h ≤ r) (hc : c < w) : (belowR h w b).testBit (r * w + c) = false := by
  unfold belowR
  have e : w + (r * w + c) = (r + 1) * w + c := by
    rw [Nat.succ_mul]
    omega
  rw [Nat.testBit_or, Nat.testBit_and, full_at hc, Nat.testBit_shiftRight, e, fit_bit fb (by omega) hc, decide_eq_false (show ¬ r < h by omega)]
  simp
theorem fit_of {h w b : Nat} (hw : 0 < w) (f : ∀ r c, h ≤ r → c < w → b.testBit (r * w + c) = false) : b < 2 ^ (h * w) := by
  refine Nat.lt_pow_two_of_testBit _ fun p hp => ?_
  obtain ⟨r, c, hc, rfl⟩ := p_split w p hw
  refine f r c ?_ hc
  exact Nat.le_of_not_lt fun z => by have := (p_lt hc).mpr z; omega
theorem ones_bit (l a r j : Nat) : (ones3 l a r).testBit j = oneB (l.testBit j) (a.testBit j) (r.testBit j) := by
  unfold ones3 oneB
  rw [Nat.testBit_xor, Nat.testBit_xor]
theorem twos_bit (l a r j : Nat) : (twos3 l a r).testBit j = twoB (l.testBit j) (a.testBit j) (r.testBit j) := by
  unfold twos3 twoB
  rw [Nat.testBit_or, Nat.testBit_and, Nat.testBit_and, Nat.testBit_xor]
def onesG (h w b : Nat) : Nat := ones3 (leftR h w b) b (rightR h w b)
def twosG (h w b : Nat) : Nat := twos3 (leftR h w b) b (rightR h w b)
theorem onesG_fit {h w b : Nat} (hw : 0 < w) (fb : b < 2 ^ (h * w)) : onesG h w b < 2 ^ (h * w) := fit_of hw fun r c hr hc => by
  unfold onesG
  rw [ones_bit, left_out hr hc, right_out hr hc, fit_bit fb hr hc]
  rfl
theorem twosG_fit {h w b : Nat} (hw : 0 < w) (fb : b < 2 ^ (h * w)) : twosG h w b < 2 ^ (h * w) := fit_of hw fun r c hr hc => by
  unfold twosG
  rw [twos_bit, left_out hr hc, right_out hr hc, fit_bit fb hr hc]
  rfl
def afterN (h w : Nat) (bs ss : List Int) (b : Nat) : Nat :=
  nextN b (one9 (aboveR h w (onesG h w b)) (onesG h w b) (belowR h w (onesG h w b)))
    (two9 (aboveR h w (onesG h w b)) (aboveR h w (twosG h w b)) (onesG h w b) (twosG h w b) (belowR h w (onesG h w b)) (belowR h w (twosG h w b)))
    (four9 (aboveR h w (onesG h w b)) (aboveR h w (twosG h w b)) (onesG h w b) (twosG h w b) (belowR h w (onesG h w b)) (belowR h w (twosG h w b)))
    (eight9 (aboveR h w (onesG h w b)) (aboveR h w (twosG h w b)) (onesG h w b) (twosG h w b) (belowR h w (onesG h w b)) (belowR h w (twosG h w b))) bs ss
def nbR (h w b r c : Nat) : Nat :=
  (b.testBit (prv h r * w + prv w c)).toNat + (b.testBit (prv h r * w + c)).toNat + (b.testBit (prv h r * w + nxt w c)).toNat + (b.testBit (r * w + prv w c)).toNat + (b.testBit (r * w + nxt w c)).toNat +
  (b.testBit (nxt h r * w + prv w c)).toNat + (b.testBit (nxt h r * w + c)).toNat + (b.testBit (nxt h r * w + nxt w c)).toNat
def liveR (h w : Nat) (bs ss : List Int) (b r c : Nat) : Bool := if b.testBit (r * w + c) = true then decide ((nbR h w b r c : Int) ∈ ss) else decide ((nbR h w b r c : Int) ∈ bs)
theorem after_bit {h w r c b : Nat} {bs ss : List Int} (hb : ∀ b ∈ bs, 1 ≤ b ∧ b ≤ 8) (hss : ∀ b ∈ ss, 0 ≤ b ∧ b ≤ 8) (hw : 0 < w) (fb : b < 2 ^ (h * w)) (hr : r < h) (hc : c < w) :
    (afterN h w bs ss b).testBit (r * w + c) = liveR h w bs ss b r c := by
  have h0 : 0 < h := by omega
  have fo := onesG_fit hw fb
  have ft := twosG_fit hw fb
  have o : ∀ r' < h, (onesG h w b).testBit (r' * w + c) = oneB (b.testBit (r' * w + prv w c)) (b.testBit (r' * w + c)) (b.testBit (r' * w + nxt w c)) := fun r' h' => by
    unfold onesG
    rw [ones_bit, left_bit h' hc, right_bit h' hc]
  have t : ∀ r' < h, (twosG h w b).testBit (r' * w + c) = twoB (b.testBit (r' * w + prv w c)) (b.testBit (r' * w + c)) (b.testBit (r' * w + nxt w c)) := fun r' h' => by
    unfold twosG
    rw [twos_bit, left_bit h' hc, right_bit h' hc]
  have a1 := (above_bit fo hr hc).trans (o _ (prv_lt h0))
  have a2 := (above_bit ft hr hc).trans (t _ (prv_lt h0))
  have b1 := o r hr
  have b2 := t r hr
  have c1 := (below_bit fo hr hc).trans (o _ (nxt_lt h0))
  have c2 := (below_bit ft hr hc).trans (t _ (nxt_lt h0))
  have q := bits9 (b.testBit (prv h r * w + prv w c)) (b.testBit (prv h r * w + c)) (b.testBit (prv h r * w + nxt w c)) (b.testBit (r * w + prv w c)) (b.testBit (r * w + c)) (b.testBit (r * w + nxt w c)) (b.testBit (nxt h r * w + prv w c)) (b.testBit (nxt h r * w + c)) (b.testBit (nxt h r * w + nxt w c))
  have e9 : sum9 (b.testBit (prv h r * w + prv w c)) (b.testBit (prv h r * w + c)) (b.testBit (prv h r * w + nxt w c)) (b.testBit (r * w + prv w c)) (b.testBit (r * w + c)) (b.testBit (r * w + nxt w c)) (b.testBit (nxt h r * w + prv w c)) (b.testBit (nxt h r * w + c)) (b.testBit (nxt h r * w + nxt w c)) = nbR h w b r c + (b.testBit (r * w + c)).toNat := by
    unfold sum9 nbR
    omega
  rw [e9] at q
  obtain ⟨q1, q2, q4, q8, ql⟩ := q
  unfold afterN
  rw [nextN_bit ql ?_ ?_ ?_ ?_ hb hss ?_]
  · unfold liveR
    by_cases z : b.testBit (r * w + c) = true
    · rw [if_pos z, if_pos z, z, show ((nbR h w b r c + true.toNat : Nat) : Int) - 1 = (nbR h w b r c : Int) by show ((nbR h w b r c + 1 : Nat) : Int) - 1 = _; omega]
    · have z' : b.testBit (r * w + c) = false := by simpa using z
      rw [if_neg z, if_neg z, z']
      rfl
  · rw [← q1]
    unfold one9
    simp only [Nat.testBit_xor, a1, b1, c1]
  · rw [← q2]
    unfold two9 car9 carB
    simp only [Nat.testBit_xor, Nat.testBit_or, Nat.testBit_and, a1, b1, c1, a2, b2, c2]
  · rw [← q4]
    unfold four9 car9 carB
    simp only [Nat.testBit_xor, Nat.testBit_or, Nat.testBit_and, a1, b1, c1, a2, b2, c2]
  · rw [← q8]
    unfold eight9 car9 carB
    simp only [Nat.testBit_xor, Nat.testBit_or, Nat.testBit_and, a1, b1, c1, a2, b2, c2]
  · intro z
    rw [z]
    show 1 ≤ _ + 1
    omega
theorem after_fit {h w b : Nat} {bs ss : List Int} (hb : ∀ b ∈ bs, 1 ≤ b ∧ b ≤ 8) (hss : ∀ b ∈ ss, 0 ≤ b ∧ b ≤ 8) (hw : 0 < w) (h0 : 0 < h) (fb : b < 2 ^ (h * w)) : afterN h w bs ss b < 2 ^ (h * w) := fit_of hw fun r c hr hc => by
  have fo := onesG_fit hw fb
  have ft := twosG_fit hw fb
  have a1 := above_out h0 fo hr hc
  have a2 := above_out h0 ft hr hc
  have b1 := fit_bit fo hr hc
  have b2 := fit_bit ft hr hc
  have c1 := below_out fo hr hc
  have c2 := below_out ft hr hc
  have z := fit_bit fb hr hc
  unfold afterN
  rw [nextN_bit (s := 0) (by decide) ?_ ?_ ?_ ?_ hb hss ?_]
  · rw [z, if_neg (by decide)]
    exact decide_eq_false fun m => by have := hb _ m; omega
  · unfold one9
    simp [Nat.testBit_xor, a1, b1, c1]
  · unfold two9 car9
    simp [Nat.testBit_xor, Nat.testBit_or, Nat.testBit_and, a1, b1, c1, a2, b2, c2]
  · unfold four9 car9
    simp [Nat.testBit_xor, Nat.testBit_or, Nat.testBit_and, a1, b1, c1, a2, b2, c2]
  · unfold eight9 car9
    simp [Nat.testBit_xor, Nat.testBit_or, Nat.testBit_and, a1, b1, c1, a2, b2, c2]
  · rw [z]
    intro h
    cases h
theorem after_zero {h w : Nat} {bs ss : List Int} (hb : ∀ b ∈ bs, 1 ≤ b ∧ b ≤ 8) (hss : ∀ b ∈ ss, 0 ≤ b ∧ b ≤ 8) (hw : 0 < w) (h0 : 0 < h) : afterN h w bs ss 0 = 0 := by
  have f0 : 0 < 2 ^ (h * w) := Nat.pow_pos (by decide)
  refine Nat.eq_of_testBit_eq fun p => ?_
  obtain ⟨r, c, hc, rfl⟩ := p_split w p hw
  rw [Nat.zero_testBit]
  by_cases hr : r < h
  · rw [after_bit hb hss hw f0 hr hc]
    unfold liveR nbR
    simp only [Nat.zero_testBit]
    rw [if_neg (by decide)]
    exact decide_eq_false fun m => by have := hb _ m; simp at this
  · exact fit_bit (after_fit hb hss hw h0 f0) (by omega) hc
/-! ### the cells of a number -/
def atW (w j : Nat) : Pr := (((j / w : Nat) : Int), ((j % w : Nat) : Int))
def cellsW (h w b : Nat) : List Pr := (bitsB (h * w) b).map (atW w)
theorem atW_at {w r c : Nat} (hc : c < w) : atW w (r * w + c) = ((r : Int), (c : Int)) := by
  unfold atW
  rw [p_div hc, p_mod hc]
theorem atW_lt {w a b : Nat} (h : a < b) : ltP (atW w a) (atW w b) := by
  refine ltP_iff.mpr ?_
  unfold atW
  dsimp only
  have d : a / w ≤ b / w := Nat.div_le_div_right (by omega)
  by_cases e : a / w = b / w
  · refine .inr ⟨by rw [e], ?_⟩
    have ea := Nat.div_add_mod a w
    have eb := Nat.div_add_mod b w
    rw [e] at ea
    omega
  · exact .inl (by omega)
theorem cellsW_asc (h w b : Nat) : (cellsW h w b).Pairwise ltP := List.pairwise_map.mpr ((List.Pairwise.filter _ List.pairwise_lt_range).imp fun {x y} l => atW_lt l)
theorem mem_cellsW {h w b r c : Nat} (hr : r < h) (hc : c < w) : ((r : Int), (c : Int)) ∈ cellsW h w b ↔ b.testBit (r * w + c) = true := by
  unfold cellsW
  rw [List.mem_map]
  constructor
  · rintro ⟨j, m, e⟩
    obtain ⟨r', c', hc', rfl⟩ := p_split w j (by omega)
    rw [atW_at hc'] at e
    have e1 : r' = r := by have := congrArg Prod.fst e; dsimp only at this; omega
    have e2 : c' = c := by have := congrArg Prod.snd e; dsimp only at this; omega
    subst e1 e2
    exact (mem_bitsB.mp m).2
  · intro t
    exact ⟨r * w + c, mem_bitsB.mpr ⟨(p_lt hc).mpr hr, t⟩, atW_at hc⟩
theorem cellsW_in {h w b : Nat} (hw : 0 < w) {x : Pr} (m : x ∈ cellsW h w b) : ∃ r c : Nat, r < h ∧ c < w ∧ x = ((r : Int), (c : Int)) := by
  obtain ⟨j, mj, rfl⟩ := List.mem_map.mp m
  obtain ⟨r, c, hc, rfl⟩ := p_split w j hw
  exact ⟨r, c, (p_lt hc).mp (mem_bitsB.mp mj).1, hc, atW_at hc⟩
theorem cellsW_inj {h w a b : Nat} (hw : 0 < w) (fa : a < 2 ^ (h * w)) (fb : b < 2 ^ (h * w)) (e : cellsW h w a = cellsW h w b) : a = b := by
  refine Nat.eq_of_testBit_eq fun p => ?_
  obtain ⟨r, c, hc, rfl⟩ := p_split w p hw
  by_cases hr : r < h
  · rw [Bool.eq_iff_iff, ← mem_cellsW hr hc, ← mem_cellsW hr hc, e]
  · rw [fit_bit fa (by omega) hc, fit_bit fb (by omega) hc]
/-- where a cell lies in the number -/
def posR (h w : Nat) (x : Pr) : Nat := (x.1 % (h : Int)).toNat * w + (x.2 % (w : Int)).toNat
def BitsOf (h w b : Nat) (ps : List Pr) : Prop := ∀ j, b.testBit j = true ↔ ∃ x ∈ ps, posR h w x = j
theorem posR_in {h w : Nat} {x : Pr} (h0 : 0 < h) (hw : 0 < w) : posR h w x < h * w := by
  unfold posR
  have a1 := Int.emod_nonneg x.1 (show (h : Int) ≠ 0 by omega)
  have a2 := Int.emod_lt_of_pos x.1 (show (0 : Int) < h by omega)
  have b1 := Int.emod_nonneg x.2 (show (w : Int) ≠ 0 by omega)
  have b2 := Int.emod_lt_of_pos x.2 (show (0 : Int) < w by omega)
  exact (p_lt (by omega)).mpr (by omega)
theorem BitsOf.fit {h w b : Nat} {ps : List Pr} (h0 : 0 < h) (hw : 0 < w) (e : BitsOf h w b ps) : b < 2 ^ (h * w) := by
  refine Nat.lt_pow_two_of_testBit _ fun p hp => ?_
  refine Bool.eq_false_iff.mpr fun t => ?_
  obtain ⟨x, _, ex⟩ := (e p).mp t
  have := posR_in (x := x) h0 hw
  omega
theorem BitsOf.uniq {h w b b' : Nat} {ps ps' : List Pr} (e : BitsOf h w b ps) (e' : BitsOf h w b' ps') (m : ∀ x, x ∈ ps ↔ x ∈ ps') : b = b' := by
  refine Nat.eq_of_testBit_eq fun p => ?_
  rw [Bool.eq_iff_iff, e p, e' p]
  exact ⟨fun ⟨x, mx, ex⟩ => ⟨x, (m x).mp mx, ex⟩, fun ⟨x, mx, ex⟩ => ⟨x, (m x).mpr mx, ex⟩⟩
theorem posR_at {h w r c : Nat} (hr : r < h) (hc : c < w) : posR h w ((r : Int), (c : Int)) = r * w + c := by
  unfold posR
  dsimp only
  rw [Int.emod_eq_of_lt (by omega) (by omega), Int.emod_eq_of_lt (by omega) (by omega), Int.toNat_natCast, Int.toNat_natCast]
theorem BitsOf.cells {h w b : Nat} {ps : List Pr} (hw : 0 < w) (e : BitsOf h w b ps) (pw : ps.Pairwise ltP) (box : ∀ x ∈ ps, 0 ≤ x.1 ∧ x.1 < (h : Int) ∧ 0 ≤ x.2 ∧ x.2 < (w : Int)) : cellsW h w b = ps := by
  have nat : ∀ x ∈ ps, ∃ r c : Nat, r < h ∧ c < w ∧ x = ((r : Int), (c : Int)) := fun x m => by
    obtain ⟨b1, b2, b3, b4⟩ := box x m
    refine ⟨x.1.toNat, x.2.toNat, by omega, by omega, Prod.ext ?_ ?_⟩ <;> dsimp only <;> omega
  refine ascP_eq (cellsW_asc h w b) pw fun x => ?_
  constructor
  · intro m
    obtain ⟨r, c, hr, hc, rfl⟩ := cellsW_in hw m
    obtain ⟨y, my, ey⟩ := (e _).mp ((mem_cellsW hr hc).mp m)
    obtain ⟨r', c', hr', hc', rfl⟩ := nat y my
    rw [posR_at hr' hc', p_eq hc' hc] at ey
    rw [← ey.1, ← ey.2]
    exact my
  · intro m
    obtain ⟨r, c, hr, hc, rfl⟩ := nat x m
    exact (mem_cellsW hr hc).mpr ((e _).mpr ⟨_, m, posR_at hr hc⟩)
end
end My
namespace My
open PySem PySem.Spec PyProof.Rows L2 Vx
open TL
local macro_rules | `(tactic| k_invariant "new" ($n, $H:ident, $e:ident, $h:ident)) => `(tactic| (generalize hE : upd _ _ _ = $H; obtain ⟨$e:ident, $h:ident⟩ := gen_e hE $n; clear hE))
local macro_rules | `(tactic| k_places) => `(tactic| first
  | assumption
  | exact lst_of (by assumption)
  | exact tup_of (by assumption)
  | (refine getS (by assumption) ?_; k_places)
  | (refine Same.seq (by assumption) ?_; k_places)
  | (refine tupS (by assumption) ?_; k_places)
  | (refine lst_of ?_; k_places)
  | (refine tup_of ?_; k_places))
local macro_rules | `(tactic| k_subL) => `(tactic| first
  | k_places
  | solve_by_elim (maxDepth := 10) [getS, lst_of, tup_of, Same.seq, tupS])
local macro_rules | `(tactic| k_offL) => `(tactic| first
  | (show (0 : Int) < _; first | omega | decide)
  | (refine ⟨?_, ?_⟩ <;> first | omega | decide)
  | exact .inr ⟨by decide, by decide⟩
  | exact .inl ⟨by decide, by decide⟩
  | exact .inl ⟨by omega, by omega⟩
  | omega)
local macro_rules | `(tactic| k_clsL) => `(tactic| exact Nat.le_of_ble_eq_true rfl)
local macro_rules | `(tactic| k_upd) => `(tactic| simp only [L2.start, List.map_cons, List.map_nil, List.length_cons, List.length_nil, List.replicate_succ, List.replicate_zero, List.cons_append, List.nil_append, List.set_cons_zero, List.set_cons_succ])
section
variable {P : Program} {w : World} {K : PySem.W.Frag} {mg : Str → Option Value} {base : Heap}
/-! ### the object -/
theorem tru0 {K : PySem.W.Frag} {H : Hp} {n : Nat} (h : n = 0) : TruV K (.int ((n : Nat) : Int)) H false := by
  subst h
  rfl
theorem tru1 {K : PySem.W.Frag} {H : Hp} {n : Nat} (h : n ≠ 0) : TruV K (.int ((n : Nat) : Int)) H true := by
  show true = (((n : Nat) : Int) != 0)
  have : ((n : Nat) : Int) ≠ 0 := by omega
  exact (bne_iff_ne.mpr this).symm
def rgf (ru : Addr) (h w : Nat) : List (Str × V) := putF "_last_column" (.int (lastC h w : Nat)) (putF "_first_column" (.int (firstC w h : Nat)) (putF "_full" (.int (fullR h w : Nat)) (putF "_width" (.int (w : Int)) (putF "_height" (.int (h : Int)) (putF "_rule" (.ref ru) [])))))
def RgAt (C : Addr) (H : Hp) (rg : Addr) (h w : Nat) : Prop := ∃ dx ru, H rg = some (.ins C dx (rgf ru h w))
def RingIs (C CR : Addr) (H : Hp) (rg : Addr) (bs ss : List Int) (h w : Nat) : Prop := ∃ dx ru, H rg = some (.ins C dx (rgf ru h w)) ∧ RuleAt CR H ru bs ss
theorem RgAt.up {C : Addr} {H H' : Hp} {rg : Addr} {h w : Nat} (e : Same H H') (g : RgAt C H rg h w) : RgAt C H' rg h w := by
  obtain ⟨dx, ru, g⟩ := g
  exact ⟨dx, ru, e _ _ g⟩
theorem RingIs.up {C CR : Addr} {H H' : Hp} {rg : Addr} {bs ss : List Int} {h w : Nat} (e : Same H H') (g : RingIs C CR H rg bs ss h w) : RingIs C CR H' rg bs ss h w := by
  obtain ⟨dx, ru, g, r⟩ := g
  exact ⟨dx, ru, e _ _ g, r.up e⟩
theorem RingIs.at {C CR : Addr} {H : Hp} {rg : Addr} {bs ss : List Int} {h w : Nat} (g : RingIs C CR H rg bs ss h w) : RgAt C H rg h w := by
  obtain ⟨dx, ru, g, r⟩ := g
  exact ⟨dx, ru, g⟩
theorem full_int (k : Nat) : ((1 <<< k : Nat) : Int) - 1 = ((2 ^ k - 1 : Nat) : Int) := by
  have := Nat.pow_pos (n := k) (show 0 < 2 by decide)
  rw [Nat.one_shiftLeft]
  omega
theorem first_lt {w : Nat} : ∀ h, firstC w h < 2 ^ (h * w + 1)
  | 0 => by simp [firstC]
  | h + 1 => by
    show firstC w h ||| (1 <<< (h * w)) < _
    refine Nat.or_lt_two_pow (Nat.lt_of_lt_of_le (first_lt h) (Nat.pow_le_pow_right (by decide) (Nat.add_le_add_right (Nat.mul_le_mul_right _ (by omega)) 1))) ?_
    rw [Nat.one_shiftLeft]
    exact Nat.pow_lt_pow_right (by decide) (by rw [Nat.succ_mul]; omega)
theorem small_hw {h w : Nat} (h1 : h ≤ 100) (w1 : w ≤ 100) : h * w ≤ 10000 := Nat.mul_le_mul h1 w1
def sp_Ring_init (C : Addr) : Sp := fun vs H Q _ => ∃ (H0 : Hp) (rg ru dx : Addr) (h w : Nat), vs = [.ref rg, .ref ru, .int (h : Int), .int (w : Int)] ∧ h ≤ 100 ∧ w ≤ 100 ∧ Same H0 H ∧ H0 rg = none ∧ H rg = some (.ins C dx []) ∧
  ∀ H', Same H0 H' → (∃ dx', H' rg = some (.ins C dx' (rgf ru h w))) → Q .non H'
theorem ok_Ring_init (T : Txt K mg) : FnOk P w K mg base CX0 1 T.f_Ring_init T.d_Ring_init ["self", "rule", "height", "width"] (sp_Ring_init T.C_Ring) := by
  refine T.F_Ring_init.ok sc_Ring_init (fun vs H Q E h => ?_) (fun cdv A outer s H vs Q E hr h => ?_)
  · obtain ⟨_, _, _, _, _, _, rfl, _⟩ := h
    rfl
  · obtain ⟨H0, rg, ru, dx, h, w, rfl, h1, w1, s0, n0, ho, q⟩ := h
    have hw := small_hw h1 w1
    refine ⟨_, (pss_cons (ps_fld (pv 0) (pv 1) rfl)
      (pss_cons (ps_fld (pv 0) (pv 2) rfl)
      (pss_cons (ps_fld (pv 0) (pv 3) rfl)
      (pss_cons (ps_fld (pv 0) (pe_op op_sub (pe_op op_shlNN pe_int (pe_op op_mul (pv 2) (pv 3))) pe_int) rfl)
      (pss_cons (ps_fld (pv 0) pe_int rfl)
      (pss_cons (ps_for PassesOwn.never rfl (pi_range1 (by rfl) T.z_range (pa_cons (pv 2) pa_nil)) (pg_name (i := 4) sc_Ring_init.nd rfl (.inl rfl))
      (pss_one (ps_fldaug (pv 0) (pe_op op_shlNN pe_int (pe_op op_mul (pv 4) (pv 3))) ip_orNN)))
      (pss_one (ps_fld (pv 0) (pe_op op_shrNN (pe_op op_shlNN (pe_fld (pv 0) rfl) (pv 3)) pe_int) rfl)))))))), ?_⟩
    k_upd
    have next : ∀ {H1 : Hp} {o : HO}, Same H0 H1 → Same H0 (upd H1 rg o) := fun s => mutS s n0
    refine ⟨_, rfl, _, rfl, rg, T.C_Ring, dx, [], rfl, ho, T.cl_Ring, T.na_Ring__rule, (by show 0 < 1000; decide), ?_⟩
    have s1 := next (o := .ins T.C_Ring dx (putF "_rule" (.ref ru) [])) s0
    have g1 : upd H rg (.ins T.C_Ring dx (putF "_rule" (.ref ru) [])) rg = some (.ins T.C_Ring dx (putF "_rule" (.ref ru) [])) := upd_same
    generalize upd H rg (.ins T.C_Ring dx (putF "_rule" (.ref ru) [])) = H1 at s1 g1
    refine ⟨_, rfl, _, rfl, rg, T.C_Ring, dx, _, rfl, g1, T.cl_Ring, T.na_Ring__height, (by show 1 < 1000; decide), ?_⟩
    have s2 := next (o := .ins T.C_Ring dx (putF "_height" (.int (h : Int)) (putF "_rule" (.ref ru) []))) s1
    have g2 : upd H1 rg (.ins T.C_Ring dx (putF "_height" (.int (h : Int)) (putF "_rule" (.ref ru) []))) rg = some _ := upd_same
    generalize upd H1 rg (.ins T.C_Ring dx (putF "_height" (.int (h : Int)) (putF "_rule" (.ref ru) []))) = H2 at s2 g2
    refine ⟨_, rfl, _, rfl, rg, T.C_Ring, dx, _, rfl, g2, T.cl_Ring, T.na_Ring__width, (by show 2 < 1000; decide), ?_⟩
    have s3 := next (o := .ins T.C_Ring dx (putF "_width" (.int (w : Int)) (putF "_height" (.int (h : Int)) (putF "_rule" (.ref ru) [])))) s2
    have g3 : upd H2 rg (.ins T.C_Ring dx (putF "_width" (.int (w : Int)) (putF "_height" (.int (h : Int)) (putF "_rule" (.ref ru) [])))) rg = some _ := upd_same
    generalize upd H2 rg (.ins T.C_Ring dx (putF "_width" (.int (w : Int)) (putF "_height" (.int (h : Int)) (putF "_rule" (.ref ru) [])))) = H3 at s3 g3
    refine ⟨_, rfl, _, rfl, _, _, rfl, rfl, .inl ⟨by omega, by omega⟩, 1, h * w, 1, rfl, by dsimp only; rw [Int.natCast_mul], by decide, by omega, _, _, rfl, rfl, ?_⟩
    dsimp only
    rw [full_int, show 2 ^ (h * w) - 1 = fullR h w from rfl]
    refine ⟨_, rfl, rg, T.C_Ring, dx, _, rfl, g3, T.cl_Ring, T.na_Ring__full, (by show 3 < 1000; decide), ?_⟩
    have s4 := next (o := .ins T.C_Ring dx (putF "_full" (.int (fullR h w : Nat)) (putF "_width" (.int (w : Int)) (putF "_height" (.int (h : Int)) (putF "_rule" (.ref ru) []))))) s3
    have g4 : upd H3 rg (.ins T.C_Ring dx (putF "_full" (.int (fullR h w : Nat)) (putF "_width" (.int (w : Int)) (putF "_height" (.int (h : Int)) (putF "_rule" (.ref ru) []))))) rg = some _ := upd_same
    generalize upd H3 rg (.ins T.C_Ring dx (putF "_full" (.int (fullR h w : Nat)) (putF "_width" (.int (w : Int)) (putF "_height" (.int (h : Int)) (putF "_rule" (.ref ru) []))))) = H4 at s4 g4
    refine ⟨_, rfl, rg, T.C_Ring, dx, _, rfl, g4, T.cl_Ring, T.na_Ring__first_column, (by show 4 < 1000; decide), ?_⟩
    refine ⟨_, rfl, _, rfl, by omega, by omega, for_range (lo := 0) (n := h) (fun i σ H' => ∃ v : Option V, σ = [some (.ref rg), some (.ref ru), some (.int (h : Int)), some (.int (w : Int)), v] ∧ Same H0 H' ∧
      H' rg = some (.ins T.C_Ring dx (putF "_first_column" (.int (firstC w i : Nat)) (putF "_full" (.int (fullR h w : Nat)) (putF "_width" (.int (w : Int)) (putF "_height" (.int (h : Int)) (putF "_rule" (.ref ru) []))))))) ?_ ?_ ?_⟩
    · exact ⟨_, rfl, next s4, upd_same⟩
    · rintro i σ H' hi ⟨v, rfl, sm, go⟩
      have iw := small_hw (show i ≤ 100 by omega) w1
      refine ⟨_, rfl, rg, T.C_Ring, dx, _, _, rfl, go, T.cl_Ring, T.na_Ring__first_column, rfl, _, rfl, _, rfl, _, _, rfl, rfl, .inl ⟨by omega, by omega⟩, 1, i * w, 1, rfl, by dsimp only; rw [Int.zero_add, Int.natCast_mul], by decide, by omega, _, _, rfl, rfl, dx, _, go, (by show 5 < 1000; decide), ?_⟩
      exact ⟨_, rfl, next sm, upd_same⟩
    · rintro σ H' ⟨v, rfl, sm, go⟩
      refine ⟨_, rfl, rg, T.C_Ring, dx, _, _, rfl, go, T.cl_Ring, T.na_Ring__first_column, rfl, _, rfl, firstC w h, w, h * w + 1, rfl, rfl, first_lt h, by omega, _, 1, rfl, rfl, ?_⟩
      refine ⟨_, rfl, rg, T.C_Ring, dx, _, rfl, go, T.cl_Ring, T.na_Ring__last_column, (by show 5 < 1000; decide), ?_⟩
      exact q _ (next sm) ⟨dx, upd_same⟩
/-! ### its methods -/
def sp_Ring_bits (C : Addr) : Sp := fun vs H Q _ => ∃ (rg l : Addr) (h w : Nat) (ps : List Pr), vs = [.ref rg, .ref l] ∧ 0 < h ∧ 0 < w ∧ h ≤ 100 ∧ w ≤ 100 ∧ RgAt C H rg h w ∧ Cells H l ps ∧
  ∀ B : Nat, BitsOf h w B ps → Q (.int (B : Int)) H
theorem ok_Ring_bits (T : Txt K mg) : FnOk P w K mg base CX0 1 T.f_Ring_bits T.d_Ring_bits ["self", "cells"] (sp_Ring_bits T.C_Ring) := by
  refine T.F_Ring_bits.ok sc_Ring_bits (fun vs H Q E h => ?_) (fun cdv A outer s H vs Q E hr h => ?_)
  · obtain ⟨_, _, _, _, _, rfl, _⟩ := h
    rfl
  · obtain ⟨rg, l, h, w, ps, rfl, h0, w0, h1, w1, ⟨dx, ru, ho⟩, hC, q⟩ := h
    have hw := small_hw h1 w1
    refine ⟨_, (pss_cons (ps_set (i := 2) sc_Ring_bits.nd rfl (.inl rfl) pe_int)
      (pss_cons (ps_for PassesOwn.never rfl (pi_list (pv 1)) (pg_tupK (K := K) (n := 2) rfl rfl (pgs_cons (pg_name (i := 3) sc_Ring_bits.nd rfl (.inl rfl)) (pgs_cons (pg_name (i := 4) sc_Ring_bits.nd rfl (.inl rfl)) pgs_nil)))
      (pss_one (ps_aug (i := 2) sc_Ring_bits.nd rfl (.inl rfl) (pe_op op_shlNN pe_int (pe_op op_add (pe_op op_mul (pe_op op_mod (pv 3) (pe_fld (pv 0) rfl)) (pe_fld (pv 0) rfl)) (pe_op op_mod (pv 4) (pe_fld (pv 0) rfl)))) ip_orNN)))
      (pss_one (ps_ret (pv 2))))), ?_⟩
    k_upd
    obtain ⟨ts, hl, ht, ets⟩ := id hC
    have lts : ts.length = ps.length := by rw [← ets, List.length_map]
    refine ⟨_, rfl, l, rfl, ⟨_, lst_of hl⟩, ?_⟩
    refine for_list (K := K) (a := l) (xs := ts.map fun t => V.ref t.1) (fun i σ H' => H' = H ∧ ∃ (B : Nat) (x3 x4 : Option V), σ = [some (.ref rg), some (.ref l), some (.int (B : Int)), x3, x4] ∧ BitsOf h w B (ps.take i))
      ⟨rfl, 0, _, _, rfl, fun j => by simp⟩ (fun i σ H' _ p => by rw [p.1]; exact lst_of hl) ?_ ?_
    · rintro i x σ H' hi ⟨rfl, B, x3, x4, rfl, hB⟩
      obtain ⟨t, mt, rfl, hx⟩ := item_cells (H := H') hi rfl
      rw [ets] at hx
      have ht' := ht t mt
      obtain ⟨⟨ta, row, col⟩, ht''⟩ : ∃ t' : Addr × Pr, t' = t := ⟨t, rfl⟩
      subst ht''
      dsimp only at ht' hx
      have a1 := Int.emod_nonneg row (show (h : Int) ≠ 0 by omega)
      have a2 := Int.emod_lt_of_pos row (show (0 : Int) < h by omega)
      have b1 := Int.emod_nonneg col (show (w : Int) ≠ 0 by omega)
      have b2 := Int.emod_lt_of_pos col (show (0 : Int) < w by omega)
      have pl := posR_in (x := (row, col)) h0 w0
      have ep : row % (h : Int) * (w : Int) + col % (w : Int) = ((posR h w (row, col) : Nat) : Int) := by
        unfold posR
        rw [Int.natCast_add, Int.natCast_mul, Int.toNat_of_nonneg a1, Int.toNat_of_nonneg b1]
      refine ⟨ta, _, rfl, tup_of ht', rfl, _, _, rfl, _, _, rfl, rfl, ?_⟩
      k_upd
      refine ⟨_, rfl, _, rfl, _, rfl, rg, _, _, _, _, rfl, ho, T.cl_Ring, T.na_Ring__height, rfl, _, _, rfl, rfl, by omega, _, rfl, rg, _, _, _, _, rfl, ho, T.cl_Ring, T.na_Ring__width, rfl, _, _, rfl, rfl, .inl ⟨by omega, by omega⟩, ?_⟩
      refine ⟨_, rfl, _, rfl, rg, _, _, _, _, rfl, ho, T.cl_Ring, T.na_Ring__width, rfl, _, _, rfl, rfl, by omega, _, _, rfl, rfl, 1, posR h w (row, col), 1, rfl, ?_, by decide, by omega, B, _, rfl, rfl, ?_⟩
      · dsimp only
        rw [ep]
      refine ⟨rfl, _, _, _, rfl, fun j => ?_⟩
      rw [Nat.testBit_or, Nat.one_shiftLeft, Nat.testBit_two_pow, Bool.or_eq_true, hB j, decide_eq_true_iff, take_next hx]
      constructor
      · rintro (⟨x, m, e⟩ | e)
        · exact ⟨x, List.mem_append.mpr (.inl m), e⟩
        · exact ⟨_, List.mem_append.mpr (.inr (List.mem_singleton.mpr rfl)), e⟩
      · rintro ⟨x, m, e⟩
        rcases List.mem_append.mp m with m | m
        · exact .inl ⟨x, m, e⟩
        · rw [List.mem_singleton.mp m] at e
          exact .inr e
    · rintro σ H' ⟨rfl, B, x3, x4, rfl, hB⟩
      rw [List.length_map, List.take_of_length_le (by omega)] at hB
      exact ⟨_, rfl, q B hB⟩
def sp_Ring_cells (C : Addr) : Sp := fun vs H Q _ => ∃ (rg : Addr) (h w b : Nat), vs = [.ref rg, .int (b : Int)] ∧ 0 < w ∧ h ≤ 100 ∧ w ≤ 100 ∧ b < 2 ^ (h * w) ∧ RgAt C H rg h w ∧
  ∀ (H' : Hp) (p : Addr), H p = none → Same H H' → Cells H' p (cellsW h w b) → Q (.ref p) H'
theorem ok_Ring_cells (T : Txt K mg) : FnOk P w K mg base CX0 1 T.f_Ring_cells T.d_Ring_cells ["self", "bits"] (sp_Ring_cells T.C_Ring) := by
  refine T.F_Ring_cells.ok sc_Ring_cells (fun vs H Q E h => ?_) (fun cdv A outer s H vs Q E hr h => ?_)
  · obtain ⟨_, _, _, _, rfl, _⟩ := h
    rfl
  · obtain ⟨rg, h, w, b, rfl, w0, h1, w1, hb, ⟨dx, ru, ho⟩, q⟩ := h
    have hw := small_hw h1 w1
    refine ⟨_, (pss_cons (ps_set (i := 2) sc_Ring_cells.nd rfl (.inl rfl) (pe_lst pa_nil))
      (pss_cons (ps_while PassesOwn.never (pt_truth (pv 1) (by intro _; rfl))
      (pss_cons (ps_set (i := 3) sc_Ring_cells.nd rfl (.inl rfl) (pe_op op_and (pv 1) (pe_un un_neg (pv 1))))
      (pss_cons (ps_expr (pe_bm PySem.F.plainAttrs_list PySem.F.slot_list_append PySem.F.type_list_append mt_append (pv 2) (pa_cons (pe_callB call_divmod (by rfl) T.z_divmod (by decide +kernel) (pa_cons (pe_op op_sub (pe_bits (pv 3)) pe_int) (pa_cons (pe_fld (pv 0) rfl) pa_nil))) pa_nil)))
      (pss_one (ps_aug (i := 1) sc_Ring_cells.nd rfl (.inl rfl) (pv 3) ip_xorNN)))))
      (pss_one (ps_ret (pv 2))))), ?_⟩
    k_upd
    refine ⟨by k_clsL, fun cl nc => ?_⟩
    k_invariant "new" (nc, H1, e1, g1)
    k_upd
    unfold gName
    k_upd
    have full : (cellsW h w b).length ≤ 10000 := by
      unfold cellsW bitsB
      rw [List.length_map]
      exact Nat.le_trans (List.length_filter_le _ _) (by rw [List.length_range]; exact hw)
    refine while_by (fun σ H' => Same H H' ∧ ∃ (R : Nat) (x3 : Option V), σ = [some (.ref rg), some (.int (R : Int)), some (.ref cl), x3] ∧ R < 2 ^ (h * w) ∧
        ∃ us : List (Addr × Pr), H' cl = some (.lst (us.map fun t => V.ref t.1)) ∧ (∀ t ∈ us, H' t.1 = some (.tup [.int t.2.1, .int t.2.2])) ∧ us.map (·.2) ++ (bitsB (h * w) R).map (atW w) = cellsW h w b)
      (fun σ _ => match σ with | [_, some (.int R), _, _] => (bitsB (h * w) R.toNat).length | _ => 0)
      ⟨e1, b, _, rfl, hb, [], g1, fun _ m => (by cases m), rfl⟩ ?_ ?_
    · rintro σ H4 ⟨sm, R, x3, rfl, lR, us, hus, htu, eus⟩
      by_cases z : R = 0
      · refine ⟨_, rfl, _, tru0 z, iteF ?_⟩
        rw [z, bits_zero, List.map_nil, List.append_nil] at eus
        exact ⟨_, rfl, q H4 cl nc sm ⟨us, hus, htu, eus⟩⟩
      · obtain ⟨k, a, eR⟩ := low_bit R z
        subst eR
        refine ⟨_, rfl, _, tru1 z, iteT ?_⟩
        refine ⟨_, rfl, _, rfl, _, rfl, _, _, rfl, rfl, ?_⟩
        k_upd
        rw [low_and]
        have lu : us.length < sizeLine := by
          rw [← eus, List.length_append, List.length_map] at full
          rw [sizeLine_eq]
          omega
        refine ⟨_, rfl, .inl ⟨rfl, _, lst_of hus⟩, _, rfl, _, rfl, ?_⟩
        rw [intBits_pow]
        refine ⟨_, _, rfl, rfl, _, rfl, rg, _, _, _, _, rfl, sm _ _ ho, T.cl_Ring, T.na_Ring__width, rfl, _, _, rfl, ⟨by omega, by omega⟩, ?_⟩
        dsimp only
        rw [show ((k + 1 : Nat) : Int) - 1 = (k : Int) by omega]
        refine fun p5 n5 => ?_
        k_invariant "new" (n5, H5, e5, g5)
        refine ⟨_, _, _, rfl, rfl, e5 _ _ hus, by rw [List.length_map]; exact lu, ?_⟩
        refine ⟨_, rfl, _, rfl, _, _, rfl, rfl, ?_⟩
        rw [low_xor]
        k_upd
        have off : ∀ (b : Addr) (o : HO), H5 b = some o → (∀ xs, o ≠ .lst xs) → upd H5 cl (.lst ((us.map fun t => V.ref t.1) ++ [.ref p5])) b = some o := fun b o e ne => by
          rw [upd_ne fun z => ?_]
          · exact e
          · rw [z, e5 _ _ hus] at e
            exact ne _ (Option.some.inj e).symm
        have low := bits_low (N := h * w) lR
        refine ⟨⟨mutS (sm.trans e5) nc, _, _, rfl, Nat.lt_of_le_of_lt ?_ lR, us ++ [(p5, atW w k)], ?_, fun t m => ?_, ?_⟩, ?_⟩
        · exact Nat.mul_le_mul_left _ (by omega)
        · rw [upd_same, List.map_append]
          rfl
        · rcases List.mem_append.mp m with m | m
          · exact off _ _ (e5 _ _ (htu t m)) (fun _ z => by cases z)
          · rw [List.mem_singleton.mp m]
            exact off _ _ g5 (fun _ z => by cases z)
        · rw [List.map_append, ← eus, low, List.map_cons, List.append_assoc]
          rfl
        · show (bitsB (h * w) (((2 ^ k * (2 * a) : Nat) : Int)).toNat).length < (bitsB (h * w) (((2 ^ k * (2 * a + 1) : Nat) : Int)).toNat).length
          rw [Int.toNat_natCast, Int.toNat_natCast, low, List.length_cons]
          exact Nat.lt_succ_self _
    · exact fun σ H Q Q' m h => h.elim fun v h => ⟨v, h.1, h.2.elim fun k h => ⟨k, h.1, m _ _ h.2⟩⟩
def sp_from (C : Addr) (f : Nat → Nat → Nat → Nat) : Sp := fun vs H Q _ => ∃ (rg : Addr) (h w b : Nat), vs = [.ref rg, .int (b : Int)] ∧ 0 < h ∧ 0 < w ∧ h ≤ 100 ∧ w ≤ 100 ∧ b < 2 ^ (h * w) ∧ RgAt C H rg h w ∧ Q (.int (f h w b : Nat)) H
theorem ok_Ring_from_left (T : Txt K mg) : FnOk P w K mg base CX0 1 T.f_Ring_from_left T.d_Ring_from_left ["self", "bits"] (sp_from T.C_Ring leftR) := by
  refine T.F_Ring_from_left.ok sc_Ring_from_left (fun vs H Q E h => ?_) (fun cdv A outer s H vs Q E hr h => ?_)
  · obtain ⟨_, _, _, _, rfl, _⟩ := h
    rfl
  · obtain ⟨rg, h, w, b, rfl, h0, w0, h1, w1, hb, ⟨dx, ru, ho⟩, q⟩ := h
    have hw := small_hw h1 w1
    refine ⟨_, (pss_cons (ps_set (i := 2) sc_Ring_from_left.nd rfl (.inl rfl) (pe_op op_xorNN (pe_fld (pv 0) rfl) (pe_fld (pv 0) rfl)))
      (pss_one (ps_ret (pe_op op_orNN (pe_op op_andNN (pe_op op_shlNN (pv 1) pe_int) (pv 2)) (pe_op op_andNN (pe_op op_shrNN (pv 1) (pe_op op_sub (pe_fld (pv 0) rfl) pe_int)) (pe_fld (pv 0) rfl)))))), ?_⟩
    refine ⟨_, rfl, rg, _, _, _, _, rfl, ho, T.cl_Ring, T.na_Ring__full, rfl, _, rfl, rg, _, _, _, _, rfl, ho, T.cl_Ring, T.na_Ring__first_column, rfl, _, _, rfl, rfl, ?_⟩
    k_upd
    refine ⟨_, rfl, b, 1, h * w, rfl, rfl, hb, by omega, _, rfl, _, _, rfl, rfl, _, rfl, _, rfl, rg, _, _, _, _, rfl, ho, T.cl_Ring, T.na_Ring__width, rfl, _, _, rfl, rfl, b, w - 1, rfl, by dsimp only; congr 1; omega, _, rfl, rg, _, _, _, _, rfl, ho, T.cl_Ring, T.na_Ring__first_column, rfl, _, _, rfl, rfl, _, _, rfl, rfl, q⟩
theorem ok_Ring_from_right (T : Txt K mg) : FnOk P w K mg base CX0 1 T.f_Ring_from_right T.d_Ring_from_right ["self", "bits"] (sp_from T.C_Ring rightR) := by
  refine T.F_Ring_from_right.ok sc_Ring_from_right (fun vs H Q E h => ?_) (fun cdv A outer s H vs Q E hr h => ?_)
  · obtain ⟨_, _, _, _, rfl, _⟩ := h
    rfl
  · obtain ⟨rg, h, w, b, rfl, h0, w0, h1, w1, hb, ⟨dx, ru, ho⟩, q⟩ := h
    have hw := small_hw h1 w1
    refine ⟨_, (pss_cons (ps_set (i := 2) sc_Ring_from_right.nd rfl (.inl rfl) (pe_op op_xorNN (pe_fld (pv 0) rfl) (pe_fld (pv 0) rfl)))
      (pss_one (ps_ret (pe_op op_orNN (pe_op op_andNN (pe_op op_shrNN (pv 1) pe_int) (pv 2)) (pe_op op_andNN (pe_op op_shlNN (pv 1) (pe_op op_sub (pe_fld (pv 0) rfl) pe_int)) (pe_fld (pv 0) rfl)))))), ?_⟩
    refine ⟨_, rfl, rg, _, _, _, _, rfl, ho, T.cl_Ring, T.na_Ring__full, rfl, _, rfl, rg, _, _, _, _, rfl, ho, T.cl_Ring, T.na_Ring__last_column, rfl, _, _, rfl, rfl, ?_⟩
    k_upd
    refine ⟨_, rfl, b, 1, rfl, rfl, _, rfl, _, _, rfl, rfl, _, rfl, _, rfl, rg, _, _, _, _, rfl, ho, T.cl_Ring, T.na_Ring__width, rfl, _, _, rfl, rfl, b, w - 1, h * w, rfl, by dsimp only; congr 1; omega, hb, by omega, _, rfl, rg, _, _, _, _, rfl, ho, T.cl_Ring, T.na_Ring__last_column, rfl, _, _, rfl, rfl, _, _, rfl, rfl, q⟩
theorem hm1 {h w : Nat} (h0 : 0 < h) : ((h : Int) - 1) * (w : Int) = (((h - 1) * w : Nat) : Int) := by
  rw [Int.natCast_mul, Int.natCast_sub (by omega)]
  rfl
theorem ok_Ring_from_above (T : Txt K mg) : FnOk P w K mg base CX0 1 T.f_Ring_from_above T.d_Ring_from_above ["self", "bits"] (sp_from T.C_Ring aboveR) := by
  refine T.F_Ring_from_above.ok sc_Ring_from_above (fun vs H Q E h => ?_) (fun cdv A outer s H vs Q E hr h => ?_)
  · obtain ⟨_, _, _, _, rfl, _⟩ := h
    rfl
  · obtain ⟨rg, h, w, b, rfl, h0, w0, h1, w1, hb, ⟨dx, ru, ho⟩, q⟩ := h
    have hw := small_hw h1 w1
    refine ⟨_, (pss_one (ps_ret (pe_op op_orNN (pe_op op_andNN (pe_op op_shlNN (pv 1) (pe_fld (pv 0) rfl)) (pe_fld (pv 0) rfl)) (pe_op op_shrNN (pv 1) (pe_op op_mul (pe_op op_sub (pe_fld (pv 0) rfl) pe_int) (pe_fld (pv 0) rfl)))))), ?_⟩
    refine ⟨_, rfl, _, rfl, rg, _, _, _, _, rfl, ho, T.cl_Ring, T.na_Ring__width, rfl, b, w, h * w, rfl, rfl, hb, by omega, _, rfl, rg, _, _, _, _, rfl, ho, T.cl_Ring, T.na_Ring__full, rfl, _, _, rfl, rfl, _, rfl, _, rfl, rg, _, _, _, _, rfl, ho, T.cl_Ring, T.na_Ring__height, rfl, _, _, rfl, rfl, _, rfl, rg, _, _, _, _, rfl, ho, T.cl_Ring, T.na_Ring__width, rfl, _, _, rfl, rfl, .inl ⟨by omega, by omega⟩, b, (h - 1) * w, rfl, by dsimp only; rw [hm1 h0], _, _, rfl, rfl, q⟩
theorem ok_Ring_from_below (T : Txt K mg) : FnOk P w K mg base CX0 1 T.f_Ring_from_below T.d_Ring_from_below ["self", "bits"] (sp_from T.C_Ring belowR) := by
  refine T.F_Ring_from_below.ok sc_Ring_from_below (fun vs H Q E h => ?_) (fun cdv A outer s H vs Q E hr h => ?_)
  · obtain ⟨_, _, _, _, rfl, _⟩ := h
    rfl
  · obtain ⟨rg, h, w, b, rfl, h0, w0, h1, w1, hb, ⟨dx, ru, ho⟩, q⟩ := h
    have hw := small_hw (show h - 1 ≤ 100 by omega) w1
    have hw' := small_hw h1 w1
    refine ⟨_, (pss_one (ps_ret (pe_op op_orNN (pe_op op_shrNN (pv 1) (pe_fld (pv 0) rfl)) (pe_op op_andNN (pe_op op_shlNN (pv 1) (pe_op op_mul (pe_op op_sub (pe_fld (pv 0) rfl) pe_int) (pe_fld (pv 0) rfl))) (pe_fld (pv 0) rfl))))), ?_⟩
    refine ⟨_, rfl, _, rfl, rg, _, _, _, _, rfl, ho, T.cl_Ring, T.na_Ring__width, rfl, b, w, rfl, rfl, _, rfl, _, rfl, rg, _, _, _, _, rfl, ho, T.cl_Ring, T.na_Ring__height, rfl, _, _, rfl, rfl, _, rfl, rg, _, _, _, _, rfl, ho, T.cl_Ring, T.na_Ring__width, rfl, _, _, rfl, rfl, .inl ⟨by omega, by omega⟩, b, (h - 1) * w, h * w, rfl, by dsimp only; rw [hm1 h0], hb, by omega, _, rfl, rg, _, _, _, _, rfl, ho, T.cl_Ring, T.na_Ring__full, rfl, _, _, rfl, rfl, _, _, rfl, rfl, q⟩
end
end My
namespace My
open PySem PySem.Spec PyProof.Rows L2 Vx
open TL
local macro_rules | `(tactic| k_invariant "new" ($n, $H:ident, $e:ident, $h:ident)) => `(tactic| (generalize hE : upd _ _ _ = $H; obtain ⟨$e:ident, $h:ident⟩ := gen_e hE $n; clear hE))
local macro_rules | `(tactic| k_places) => `(tactic| first
  | assumption
  | exact lst_of (by assumption)
  | exact tup_of (by assumption)
  | (refine getS (by assumption) ?_; k_places)
  | (refine Same.seq (by assumption) ?_; k_places)
  | (refine tupS (by assumption) ?_; k_places)
  | (refine lst_of ?_; k_places)
  | (refine tup_of ?_; k_places))
local macro_rules | `(tactic| k_subL) => `(tactic| first
  | k_places
  | solve_by_elim (maxDepth := 10) [getS, lst_of, tup_of, Same.seq, tupS])
local macro_rules | `(tactic| k_offL) => `(tactic| first
  | (show (0 : Int) < _; first | omega | decide)
  | (refine ⟨?_, ?_⟩ <;> first | omega | decide)
  | exact .inr ⟨by decide, by decide⟩
  | exact .inl ⟨by decide, by decide⟩
  | exact .inl ⟨by omega, by omega⟩
  | omega)
local macro_rules | `(tactic| k_clsL) => `(tactic| exact Nat.le_of_ble_eq_true rfl)
local macro_rules | `(tactic| k_upd) => `(tactic| simp only [L2.start, List.map_cons, List.map_nil, List.length_cons, List.length_nil, List.replicate_succ, List.replicate_zero, List.cons_append, List.nil_append, List.set_cons_zero, List.set_cons_succ])
section
variable {P : Program} {w : World} {K : PySem.W.Frag} {mg : Str → Option Value} {base : Heap}
/-! ### generations on a ring -/
def itR (f : Nat → Nat) (b : Nat) : Nat → Nat
  | 0 => b
  | k + 1 => f (itR f b k)
def Dist (it : Nat → Nat) (n : Nat) : Prop := ∀ i j, i < j → j < n → it i ≠ it j
structure Rep (it : Nat → Nat) (L s : Nat) : Prop where
  lt : s < L
  eq : it L = it s
  ds : Dist it L
theorem Rep.uniq {it : Nat → Nat} {L s L' s' : Nat} (h : Rep it L s) (h' : Rep it L' s') : L = L' ∧ s = s' := by
  have e : L = L' := by
    rcases Nat.lt_trichotomy L L' with c | c | c
    · exact absurd h.eq.symm (h'.ds _ _ h.lt c)
    · exact c
    · exact absurd h'.eq.symm (h.ds _ _ h'.lt c)
  subst e
  refine ⟨rfl, ?_⟩
  have z : it s = it s' := h.eq.symm.trans h'.eq
  rcases Nat.lt_trichotomy s s' with c | c | c
  · exact absurd z (h.ds _ _ c h'.lt)
  · exact c
  · exact absurd z.symm (h.ds _ _ c h.lt)
theorem Rep.no {it : Nat → Nat} {L s n : Nat} (h : Rep it L s) (d : Dist it n) : n ≤ L := by
  refine Nat.le_of_not_lt fun c => d _ _ h.lt c h.eq.symm
theorem Dist.next {it : Nat → Nat} {n : Nat} (d : Dist it n) (h : ∀ k < n, it k ≠ it n) : Dist it (n + 1) := fun i j a b => by
  by_cases e : j = n
  · subst e
    exact h i a
  · exact d i j a (by omega)
theorem Dist.one (it : Nat → Nat) : Dist it 1 := fun i j a b => by omega
def Pick (it : Nat → Nat) (n m : Nat) : Prop := (m = n ∧ Dist it (n + 1)) ∨ ∃ L s, Rep it L s ∧ L ≤ n ∧ m = s + (n - s) % (L - s)
theorem it_fit {h w b : Nat} {bs ss : List Int} (hb : ∀ b ∈ bs, 1 ≤ b ∧ b ≤ 8) (hss : ∀ b ∈ ss, 0 ≤ b ∧ b ≤ 8) (h0 : 0 < h) (hw : 0 < w) (fb : b < 2 ^ (h * w)) : ∀ k, itR (afterN h w bs ss) b k < 2 ^ (h * w)
  | 0 => fb
  | k + 1 => after_fit hb hss hw h0 (it_fit hb hss h0 hw fb k)
/-! ### the dict of the states met -/
def kvI (it : Nat → Nat) (m : Nat) : List (Key × V) := (List.range m).map fun k => ((Sum.inl ((it k : Nat) : Int) : Key), V.int (k : Int))
theorem kvI_none {it : Nat → Nat} {m x : Nat} (h : ∀ k < m, it k ≠ x) : valV (kvI it m) (Sum.inl (x : Int)) = none := by
  unfold valV kvI
  rw [List.find?_eq_none.mpr fun kv hk => ?_]
  · rfl
  · obtain ⟨k, mk, rfl⟩ := List.mem_map.mp hk
    have := h k (List.mem_range.mp mk)
    intro z
    have z := of_decide_eq_true z
    have z : ((it k : Nat) : Int) = (x : Int) := Sum.inl.inj z
    omega
theorem kvI_some {it : Nat → Nat} : ∀ {m k : Nat}, Dist it m → k < m → valV (kvI it m) (Sum.inl ((it k : Nat) : Int)) = some (.int (k : Int)) := by
  intro m k d hk
  unfold valV kvI
  have : ((List.range m).map fun k => ((Sum.inl ((it k : Nat) : Int) : Key), V.int (k : Int))).find? (fun kv => decide (kv.1 = Sum.inl ((it k : Nat) : Int))) = some (Sum.inl ((it k : Nat) : Int), V.int (k : Int)) := by
    rw [List.find?_map]
    have e : (List.range m).find? ((fun kv : Key × V => decide (kv.1 = Sum.inl ((it k : Nat) : Int))) ∘ fun k => ((Sum.inl ((it k : Nat) : Int) : Key), V.int (k : Int))) = some k := by
      refine List.find?_range_eq_some.mpr ⟨decide_eq_true rfl, List.mem_range.mpr hk, fun j hj => ?_⟩
      have := d j k hj hk
      show (!decide ((Sum.inl ((it j : Nat) : Int) : Key) = Sum.inl ((it k : Nat) : Int))) = true
      rw [decide_eq_false (show ¬ ((Sum.inl ((it j : Nat) : Int) : Key) = Sum.inl ((it k : Nat) : Int)) from fun z => this (by have := Sum.inl.inj z; omega))]
      rfl
    rw [e]
    rfl
  rw [this]
  rfl
theorem kvI_put {it : Nat → Nat} {m : Nat} (h : ∀ k < m, it k ≠ it m) : putK (kvI it m) (Sum.inl ((it m : Nat) : Int)) (.int (m : Int)) = kvI it (m + 1) := by
  have n := kvI_none h
  unfold putK
  rw [valV_any, n, if_neg (by decide)]
  unfold kvI
  rw [List.range_succ, List.map_append]
  rfl
theorem kvI_len (it : Nat → Nat) (m : Nat) : (kvI it m).length = m := by
  unfold kvI
  rw [List.length_map, List.length_range]
def stL (it : Nat → Nat) (m : Nat) : List V := (List.range m).map fun k => V.int ((it k : Nat) : Int)
theorem stL_at {it : Nat → Nat} {m k : Nat} (h : k < m) : (stL it m)[k]? = some (.int ((it k : Nat) : Int)) := by
  unfold stL
  rw [List.getElem?_map, List.getElem?_range h]
  rfl
theorem stL_len (it : Nat → Nat) (m : Nat) : (stL it m).length = m := by
  unfold stL
  rw [List.length_map, List.length_range]
theorem stL_last (it : Nat → Nat) (i : Nat) : atI (stL it (i + 1)) (-1) = some (.int ((it i : Nat) : Int)) := by
  unfold stL
  rw [List.range_succ, List.map_append]
  exact atI_last _ _
def sp_Ring_after (C CR : Addr) : Sp := fun vs H Q _ => ∃ (rg : Addr) (h w b : Nat) (bs ss : List Int), vs = [.ref rg, .int (b : Int)] ∧ 0 < h ∧ 0 < w ∧ h ≤ 100 ∧ w ≤ 100 ∧ b < 2 ^ (h * w) ∧ RingIs C CR H rg bs ss h w ∧ (∀ b ∈ bs, 1 ≤ b ∧ b ≤ 8) ∧ (∀ b ∈ ss, 0 ≤ b ∧ b ≤ 8) ∧
  ∀ H', Same H H' → Q (.int (afterN h w bs ss b : Nat)) H'
theorem ok_Ring_after (T : Txt K mg) : FnOk P w K mg base CX0 2 T.f_Ring_after T.d_Ring_after ["self", "bits"] (sp_Ring_after T.C_Ring T.C_Rule) := by
  refine T.F_Ring_after.ok sc_Ring_after (fun vs H Q E h => ?_) (fun cdv A outer s H vs Q E hr h => ?_)
  · obtain ⟨_, _, _, _, _, _, rfl, _⟩ := h
    rfl
  · obtain ⟨rg, h, w, b, bs, ss, rfl, h0, w0, h1, w1, fb, hR, hb, hss, q⟩ := h
    obtain ⟨dx, ru, ho, hrl⟩ := id hR
    refine ⟨_, (pss_cons (ps_if (pt_not (pt_truth (pv 1) (by intro _; rfl)))
      (pss_one (ps_ret pe_int))
      pss_nil)
      (pss_cons (ps_asg (pe_call (ok_sums_of T) (hr.mono (by decide)) (by rfl) T.g_sums_of T.F_sums_of.kp T.b_sums_of .nil pass0 (pa_cons (pe_meth (pv 0) T.cl_Ring T.m_Ring_from_left (ok_Ring_from_left T) (hr.mono (by decide)) T.b_Ring_from_left .nil pass0 (pa_cons (pv 1) pa_nil)) (pa_cons (pv 1) (pa_cons (pe_meth (pv 0) T.cl_Ring T.m_Ring_from_right (ok_Ring_from_right T) (hr.mono (by decide)) T.b_Ring_from_right .nil pass0 (pa_cons (pv 1) pa_nil)) pa_nil)))) (pg_tupK (K := K) (n := 2) rfl rfl (pgs_cons (pg_name (i := 2) sc_Ring_after.nd rfl (.inl rfl)) (pgs_cons (pg_name (i := 3) sc_Ring_after.nd rfl (.inl rfl)) pgs_nil))))
      (pss_cons (ps_set (i := 4) sc_Ring_after.nd rfl (.inl rfl) (pe_tup (pa_cons (pe_meth (pv 0) T.cl_Ring T.m_Ring_from_above (ok_Ring_from_above T) (hr.mono (by decide)) T.b_Ring_from_above .nil pass0 (pa_cons (pv 2) pa_nil)) (pa_cons (pe_meth (pv 0) T.cl_Ring T.m_Ring_from_above (ok_Ring_from_above T) (hr.mono (by decide)) T.b_Ring_from_above .nil pass0 (pa_cons (pv 3) pa_nil)) pa_nil))))
      (pss_cons (ps_set (i := 5) sc_Ring_after.nd rfl (.inl rfl) (pe_tup (pa_cons (pe_meth (pv 0) T.cl_Ring T.m_Ring_from_below (ok_Ring_from_below T) (hr.mono (by decide)) T.b_Ring_from_below .nil pass0 (pa_cons (pv 2) pa_nil)) (pa_cons (pe_meth (pv 0) T.cl_Ring T.m_Ring_from_below (ok_Ring_from_below T) (hr.mono (by decide)) T.b_Ring_from_below .nil pass0 (pa_cons (pv 3) pa_nil)) pa_nil))))
      (pss_one (ps_ret (pe_call (ok_next_strip T) (hr.mono (by decide)) (by rfl) T.g_next_strip T.F_next_strip.kp T.b_next_strip .nil pass0 (pa_cons (pv 1) (pa_cons (pe_call (ok_totals_of T) (hr.mono (by decide)) (by rfl) T.g_totals_of T.F_totals_of.kp T.b_totals_of .nil pass0 (pa_cons (pv 4) (pa_cons (pe_tup (pa_cons (pv 2) (pa_cons (pv 3) pa_nil))) (pa_cons (pv 5) pa_nil)))) (pa_cons (pe_fld (pv 0) rfl) pa_nil)))))))))), ?_⟩
    k_upd
    by_cases z : b = 0
    · refine ⟨_, rfl, _, tru0 z, iteT ?_⟩
      have q0 := q H fun _ _ e => e
      rw [z, after_zero hb hss w0 h0] at q0
      exact q0
    · refine ⟨_, rfl, _, tru1 z, iteF ?_⟩
      refine ⟨_, rfl, rg, _, _, rfl, ho, rfl, _, rfl, rg, h, w, b, rfl, h0, w0, h1, w1, fb, ⟨dx, ru, ho⟩, _, rfl, _, rfl, rg, _, _, rfl, ho, rfl, _, rfl, rg, h, w, b, rfl, h0, w0, h1, w1, fb, ⟨dx, ru, ho⟩, _, _, _, rfl, fun H1 p1 e1 n1 g1 => ?_⟩
      refine ⟨p1, _, rfl, tup_of g1, rfl, _, _, rfl, _, _, rfl, rfl, ?_⟩
      k_upd
      have fo := onesG_fit w0 fb
      have ft := twosG_fit w0 fb
      have ho1 := e1 _ _ ho
      refine ⟨_, rfl, rg, _, _, rfl, ho1, rfl, _, rfl, rg, h, w, onesG h w b, rfl, h0, w0, h1, w1, fo, ⟨dx, ru, ho1⟩, _, rfl, rg, _, _, rfl, ho1, rfl, _, rfl, rg, h, w, twosG h w b, rfl, h0, w0, h1, w1, ft, ⟨dx, ru, ho1⟩, by k_clsL, fun pa na => ?_⟩
      k_invariant "new" (na, H2, e2, g2)
      k_upd
      have ho2 := e2 _ _ ho1
      refine ⟨_, rfl, rg, _, _, rfl, ho2, rfl, _, rfl, rg, h, w, onesG h w b, rfl, h0, w0, h1, w1, fo, ⟨dx, ru, ho2⟩, _, rfl, rg, _, _, rfl, ho2, rfl, _, rfl, rg, h, w, twosG h w b, rfl, h0, w0, h1, w1, ft, ⟨dx, ru, ho2⟩, by k_clsL, fun pb nb => ?_⟩
      k_invariant "new" (nb, H3, e3, g3)
      k_upd
      refine ⟨_, rfl, _, rfl, _, rfl, _, rfl, by k_clsL, fun ph nh => ?_⟩
      k_invariant "new" (nh, H4, e4, g4)
      have s4 : Same H H4 := e1.trans (e2.trans (e3.trans e4))
      refine ⟨_, rfl, pa, ph, pb, _, _, _, _, _, _, rfl, e4 _ _ (e3 _ _ g2), g4, e4 _ _ g3, fun H5 p5 e5 n5 g5 => ?_⟩
      refine ⟨_, rfl, rg, _, _, _, _, rfl, e5 _ _ (s4 _ _ ho), T.cl_Ring, T.na_Ring__rule, rfl, p5, ru, b, _, _, _, _, bs, ss, rfl, g5, hrl.up (s4.trans e5), fun b m => ⟨by have := hb b m; omega, (hb b m).2⟩, hss, fun H6 e6 => ?_⟩
      exact q H6 (s4.trans (e5.trans e6))
def sp_Ring_history (C CR : Addr) : Sp := fun vs H Q _ => ∃ (rg l : Addr) (h w n b0 : Nat) (ps : List Pr) (bs ss : List Int), vs = [.ref rg, .ref l, .int (n : Int)] ∧ 0 < h ∧ 0 < w ∧ h ≤ 100 ∧ w ≤ 100 ∧ RingIs C CR H rg bs ss h w ∧ (∀ b ∈ bs, 1 ≤ b ∧ b ≤ 8) ∧ (∀ b ∈ ss, 0 ≤ b ∧ b ≤ 8) ∧
  Cells H l ps ∧ BitsOf h w b0 ps ∧ n < 2 ^ 61 ∧ (∀ k, k ≤ n → Dist (itR (afterN h w bs ss) b0) (k + 1) → k ≤ 5000) ∧
  ∀ (H' : Hp) (p t : Addr) (L : Nat) (v : V), Same H H' → H' p = some (.tup [.ref t, v]) → H' t = some (.lst (stL (itR (afterN h w bs ss) b0) L)) →
    ((v = .non ∧ L = n + 1 ∧ Dist (itR (afterN h w bs ss) b0) (n + 1)) ∨ ∃ s : Nat, v = .int (s : Int) ∧ Rep (itR (afterN h w bs ss) b0) L s ∧ L ≤ n) → Q (.ref p) H'
theorem ok_Ring_history (T : Txt K mg) : FnOk P w K mg base CX0 3 T.f_Ring_history T.d_Ring_history ["self", "cells", "bound"] (sp_Ring_history T.C_Ring T.C_Rule) := by
  refine T.F_Ring_history.ok sc_Ring_history (fun vs H Q E h => ?_) (fun cdv A outer s H vs Q E hr h => ?_)
  · obtain ⟨_, _, _, _, _, _, _, _, _, rfl, _⟩ := h
    rfl
  · obtain ⟨rg, l, h, w, n, b0, ps, bs, ss, rfl, h0, w0, h1, w1, hR, hb, hss, hC, hB, n61, cap, q⟩ := h
    obtain ⟨dx, ru, ho, hrl⟩ := id hR
    have hu : (A.deeper (envOfC (Str.ofString "Ring.history") (defScope s_Ring_history) s.heap.objs.size T.f_Ring_history cdv)).units + 1 < cLine := by
      have := hr.units
      omega
    refine ⟨_, (pss_cons (ps_set (i := 3) sc_Ring_history.nd rfl (.inl rfl) (pe_lst (pa_cons (pe_meth (pv 0) T.cl_Ring T.m_Ring_bits (ok_Ring_bits T) (hr.mono (by decide)) T.b_Ring_bits .nil pass0 (pa_cons (pv 1) pa_nil)) pa_nil)))
      (pss_cons (ps_set (i := 4) sc_Ring_history.nd rfl (.inl rfl) (pe_disp (pps_cons (pe_ix ix_list (pv 3) pe_int (fun _ _ => rfl)) pe_int pps_nil) rfl rfl (by intro h; cases h) (by decide)))
      (pss_cons (ps_for PassesOwn.never rfl (pi_range2 (by rfl) T.z_range (pa_cons pe_int (pa_cons (pe_op op_add (pv 2) pe_int) pa_nil))) (pg_name (i := 5) sc_Ring_history.nd rfl (.inl rfl))
      (pss_cons (ps_set (i := 6) sc_Ring_history.nd rfl (.inl rfl) (pe_meth (pv 0) T.cl_Ring T.m_Ring_after (ok_Ring_after T) (hr.mono (by decide)) T.b_Ring_after .nil pass0 (pa_cons (pe_ix ix_list (pv 3) (pe_un un_neg pe_int) (fun _ _ => rfl)) pa_nil)))
      (pss_cons (ps_if (pt_cmp (pc_din hu (pv 6) (pv 4)))
      (pss_one (ps_ret (pe_tup (pa_cons (pv 3) (pa_cons (pe_dget hu (pv 4) (pv 6) (fun _ _ => rfl)) pa_nil)))))
      pss_nil)
      (pss_cons (ps_dput hu (pv 4) (pv 6) (pv 5) rfl)
      (pss_one (ps_expr (pe_bm PySem.F.plainAttrs_list PySem.F.slot_list_append PySem.F.type_list_append mt_append (pv 3) (pa_cons (pv 6) pa_nil))))))))
      (pss_one (ps_ret (pe_tup (pa_cons (pv 3) (pa_cons pe_non pa_nil)))))))), ?_⟩
    k_upd
    have fit := it_fit hb hss h0 w0 (hB.fit h0 w0)
    obtain ⟨it, eit⟩ : ∃ it, it = itR (afterN h w bs ss) b0 := ⟨_, rfl⟩
    have it0 : it 0 = b0 := by rw [eit]; rfl
    have its : ∀ k, afterN h w bs ss (it k) = it (k + 1) := fun k => by rw [eit]; rfl
    rw [← eit] at q cap fit
    refine ⟨_, rfl, rg, _, _, rfl, ho, rfl, _, rfl, rg, l, h, w, ps, rfl, h0, w0, h1, w1, ⟨dx, ru, ho⟩, hC, fun B hB' => ⟨by k_clsL, fun sl nsl => ?_⟩⟩
    have eB : B = it 0 := it0 ▸ hB'.uniq hB fun _ => Iff.rfl
    subst eB
    have nsl0 := nsl
    k_invariant "new" (nsl, H1, e1, g1)
    k_upd
    refine fun nd nnd => ⟨_, rfl, sl, _, _, _, rfl, rfl, lst_of (newS nnd _ _ g1), rfl, upd_same, [(Sum.inl ((it 0 : Nat) : Int), .int 0)], rfl, by k_clsL, ?_⟩
    have s2 : Same H (upd (upd H1 nd (.dK [])) nd (.dK (mergeK [] [(Sum.inl ((it 0 : Nat) : Int), .int 0)]))) := mutS (e1.trans (newS nnd)) (backS e1 nnd)
    have sl2 : upd (upd H1 nd (.dK [])) nd (.dK (mergeK [] [(Sum.inl ((it 0 : Nat) : Int), .int 0)])) sl = some (.lst (stL it 1)) := by
      rw [upd_ne (fun e => by rw [e, nnd] at g1; cases g1), upd_ne (fun e => by rw [e, nnd] at g1; cases g1)]
      exact g1
    have nd2 : upd (upd H1 nd (.dK [])) nd (.dK (mergeK [] [(Sum.inl ((it 0 : Nat) : Int), .int 0)])) nd = some (.dK (kvI it 1)) := upd_same
    have dn : H nd = none := backS e1 nnd
    have ne : sl ≠ nd := fun e => by rw [e, nnd] at g1; cases g1
    generalize upd (upd H1 nd (.dK [])) nd (.dK (mergeK [] [(Sum.inl ((it 0 : Nat) : Int), .int 0)])) = H2 at s2 sl2 nd2
    k_upd
    have eN : ((n : Int) + 1 - 1).toNat = n := by omega
    refine ⟨_, rfl, _, _, rfl, rfl, _, _, rfl, ⟨by omega, by omega, by omega, by omega⟩, for_range (lo := 1) (n := ((n : Int) + 1 - 1).toNat) (fun i σ H' => Same H H' ∧ H' sl = some (.lst (stL it (i + 1))) ∧ H' nd = some (.dK (kvI it (i + 1))) ∧ Dist it (i + 1) ∧ ∃ x5 x6 : Option V, σ = [some (.ref rg), some (.ref l), some (.int (n : Int)), some (.ref sl), some (.ref nd), x5, x6])
      ⟨s2, sl2, nd2, Dist.one it, _, _, rfl⟩ ?_ ?_⟩
    · rintro i σ H' hi ⟨sm, hsl, hnd, hD, x5, x6, rfl⟩
      rw [eN] at hi
      have hi5 := cap i (by omega) hD
      refine ⟨_, rfl, rg, _, _, rfl, sm _ _ ho, rfl, _, rfl, _, rfl, sl, _, _, _, rfl, rfl, lst_of hsl, (stL_last it i), rg, h, w, it i, bs, ss, rfl, h0, w0, h1, w1, fit i, hR.up sm, hb, hss, fun H3 e3 => ?_⟩
      rw [its i]
      k_upd
      have hsl3 := e3 _ _ hsl
      have hnd3 := e3 _ _ hnd
      refine ⟨_, rfl, _, rfl, nd, _, rfl, DGet.k (k := Sum.inl ((it (i + 1) : Nat) : Int)) hnd3, ?_⟩
      by_cases c : ∃ k, k < i + 1 ∧ it k = it (i + 1)
      · obtain ⟨k, hk, ek⟩ := c
        have vk := kvI_some hD hk
        rw [ek] at vk
        rw [vk]
        refine ⟨_, rfl, iteT ?_⟩
        refine ⟨_, rfl, _, rfl, _, rfl, nd, .int (k : Int), rfl, ?_, by k_clsL, fun pt npt => ?_⟩
        · have dg := DGet.k (k := Sum.inl ((it (i + 1) : Nat) : Int)) hnd3
          rw [vk] at dg
          exact dg
        · exact q _ pt sl (i + 1) _ ((sm.trans e3).trans (newS npt)) upd_same (newS npt _ _ hsl3) (.inr ⟨k, rfl, ⟨hk, ek.symm, hD⟩, by omega⟩)
      · have nk : ∀ k < i + 1, it k ≠ it (i + 1) := fun k hk e => c ⟨k, hk, e⟩
        rw [kvI_none nk]
        refine ⟨_, rfl, iteF ?_⟩
        have en : (1 : Int) + (i : Int) = ((i + 1 : Nat) : Int) := by omega
        refine ⟨_, rfl, _, rfl, _, rfl, nd, _, rfl, DPut.k (k := Sum.inl ((it (i + 1) : Nat) : Int)) hnd3 (by rw [kvI_len, sizeLine_eq]; omega), ?_⟩
        rw [en, kvI_put nk]
        have s4 : Same H (upd H3 nd (.dK (kvI it (i + 1 + 1)))) := mutS (sm.trans e3) dn
        have sl4 : upd H3 nd (.dK (kvI it (i + 1 + 1))) sl = some (.lst (stL it (i + 1))) := by
          rw [upd_ne ne]
          exact hsl3
        have nd4 : upd H3 nd (.dK (kvI it (i + 1 + 1))) nd = some (.dK (kvI it (i + 1 + 1))) := upd_same
        generalize upd H3 nd (.dK (kvI it (i + 1 + 1))) = H4 at s4 sl4 nd4
        refine ⟨_, rfl, .inl ⟨rfl, _, lst_of sl4⟩, _, rfl, _, _, _, rfl, rfl, sl4, by rw [stL_len, sizeLine_eq]; omega, ?_⟩
        refine ⟨mutS s4 nsl0, ?_, ?_, hD.next nk, _, _, rfl⟩
        · rw [upd_same]
          unfold stL
          rw [List.range_succ (n := i + 1), List.map_append]
          rfl
        · rw [upd_ne (Ne.symm ne)]
          exact nd4
    · rintro σ H' ⟨sm, hsl, hnd, hD, x5, x6, rfl⟩
      rw [eN] at hsl hnd hD
      refine ⟨_, rfl, by k_clsL, fun pt npt => ?_⟩
      exact q _ pt sl (n + 1) _ (sm.trans (newS npt)) upd_same (newS npt _ _ hsl) (.inl ⟨rfl, rfl, hD⟩)
end
end My
namespace My
open PySem PySem.Spec PyProof.Rows L2 Vx
open TL
local macro_rules | `(tactic| k_invariant "new" ($n, $H:ident, $e:ident, $h:ident)) => `(tactic| (generalize hE : upd _ _ _ = $H; obtain ⟨$e:ident, $h:ident⟩ := gen_e hE $n; clear hE))
local macro_rules | `(tactic| k_places) => `(tactic| first
  | assumption
  | exact lst_of (by assumption)
  | exact tup_of (by assumption)
  | (refine getS (by assumption) ?_; k_places)
  | (refine Same.seq (by assumption) ?_; k_places)
  | (refine tupS (by assumption) ?_; k_places)
  | (refine lst_of ?_; k_places)
  | (refine tup_of ?_; k_places))
local macro_rules | `(tactic| k_subL) => `(tactic| first
  | k_places
  | solve_by_elim (maxDepth := 10) [getS, lst_of, tup_of, Same.seq, tupS])
local macro_rules | `(tactic| k_offL) => `(tactic| first
  | (show (0 : Int) < _; first | omega | decide)
  | (refine ⟨?_, ?_⟩ <;> first | omega | decide)
  | exact .inr ⟨by decide, by decide⟩
  | exact .inl ⟨by decide, by decide⟩
  | exact .inl ⟨by omega, by omega⟩
  | omega)
local macro_rules | `(tactic| k_clsL) => `(tactic| exact Nat.le_of_ble_eq_true rfl)
local macro_rules | `(tactic| k_upd) => `(tactic| simp only [L2.start, List.map_cons, List.map_nil, List.length_cons, List.length_nil, List.replicate_succ, List.replicate_zero, List.cons_append, List.nil_append, List.set_cons_zero, List.set_cons_succ])
section
variable {P : Program} {w : World} {K : PySem.W.Frag} {mg : Str → Option Value} {base : Heap}
def sp_ring_grown (C CR : Addr) : Sp := fun vs H Q _ => ∃ (l ru : Addr) (h w n b0 : Nat) (ps : List Pr) (bs ss : List Int), vs = [.ref l, .ref ru, .int (h : Int), .int (w : Int), .int (n : Int)] ∧ 0 < h ∧ 0 < w ∧ h ≤ 100 ∧ w ≤ 100 ∧ RuleAt CR H ru bs ss ∧ (∀ b ∈ bs, 1 ≤ b ∧ b ≤ 8) ∧ (∀ b ∈ ss, 0 ≤ b ∧ b ≤ 8) ∧
  Cells H l ps ∧ BitsOf h w b0 ps ∧ n < 2 ^ 61 ∧ (∀ k, k ≤ n → Dist (itR (afterN h w bs ss) b0) (k + 1) → k ≤ 5000) ∧
  ∀ (H' : Hp) (p : Addr) (m : Nat), H p = none → Same H H' → Pick (itR (afterN h w bs ss) b0) n m → Cells H' p (cellsW h w (itR (afterN h w bs ss) b0 m)) → Q (.ref p) H'
theorem non_non : decide (V.non = V.non) = true := decide_eq_true rfl
theorem int_non (i : Int) : decide (V.int i = V.non) = false := decide_eq_false (by intro z; cases z)
theorem ref_non (a : Addr) : decide (V.ref a = V.non) = false := decide_eq_false (by intro z; cases z)
theorem ok_ring_grown (T : Txt K mg) : FnOk P w K mg base CX0 4 T.f_ring_grown T.d_ring_grown ["cells", "rule", "height", "width", "generations"] (sp_ring_grown T.C_Ring T.C_Rule) := by
  refine T.F_ring_grown.ok sc_ring_grown (fun vs H Q E h => ?_) (fun cdv A outer s H vs Q E hr h => ?_)
  · obtain ⟨_, _, _, _, _, _, _, _, _, rfl, _⟩ := h
    rfl
  · obtain ⟨l, ru, h, w, n, b0, ps, bs, ss, rfl, h0, w0, h1, w1, hrl, hb, hss, hC, hB, n61, cap, q⟩ := h
    refine ⟨_, (pss_cons (ps_set (i := 5) sc_ring_grown.nd rfl (.inl rfl) (pe_make T.M_Ring (ok_Ring_init T) (hr.mono (by decide)) rfl T.g_Ring T.b_Ring_init .nil pass0 (pa_cons (pv 1) (pa_cons (pv 2) (pa_cons (pv 3) pa_nil)))))
      (pss_cons (ps_asg (pe_meth (pv 5) T.cl_Ring T.m_Ring_history (ok_Ring_history T) (hr.mono (by decide)) T.b_Ring_history .nil pass0 (pa_cons (pv 0) (pa_cons (pv 4) pa_nil))) (pg_tupK (K := K) (n := 2) rfl rfl (pgs_cons (pg_name (i := 6) sc_ring_grown.nd rfl (.inl rfl)) (pgs_cons (pg_name (i := 7) sc_ring_grown.nd rfl (.inl rfl)) pgs_nil))))
      (pss_cons (ps_if (pt_cmpR op_notN (pv 7) pe_non (nomark _))
      (pss_one (ps_set (i := 4) sc_ring_grown.nd rfl (.inl rfl) (pe_op op_add (pv 7) (pe_op op_mod (pe_op op_sub (pv 4) (pv 7)) (pe_op op_sub (pe_callB call_lenL (by rfl) T.z_len (by decide +kernel) (pa_cons (pv 6) pa_nil)) (pv 7))))))
      pss_nil)
      (pss_one (ps_ret (pe_meth (pv 5) T.cl_Ring T.m_Ring_cells (ok_Ring_cells T) (hr.mono (by decide)) T.b_Ring_cells .nil pass0 (pa_cons (pe_ix ix_list (pv 6) (pv 4) (fun _ _ => rfl)) pa_nil))))))), ?_⟩
    k_upd
    have fit := it_fit hb hss h0 w0 (hB.fit h0 w0)
    refine ⟨_, rfl, _, rfl, _, rfl, ?_⟩
    intro rg dx nx nd nex
    refine ⟨H, rg, ru, dx, h, w, rfl, h1, w1, madeS nx nd, nx, upd_same, fun H1 e1 ⟨dx1, g1⟩ => ⟨rfl, ?_⟩⟩
    k_upd
    have hR1 : RingIs T.C_Ring T.C_Rule H1 rg bs ss h w := ⟨dx1, ru, g1, hrl.up e1⟩
    refine ⟨_, rfl, rg, _, _, rfl, g1, rfl, _, rfl, _, rfl, rg, l, h, w, n, b0, ps, bs, ss, rfl, h0, w0, h1, w1, hR1, hb, hss, hC.up e1, hB, n61, cap, fun H2 p t L v e2 g2 gt hv => ?_⟩
    generalize itR (afterN h w bs ss) b0 = it at q cap fit gt hv
    refine ⟨p, _, rfl, tup_of g2, rfl, _, _, rfl, _, _, rfl, rfl, ?_⟩
    k_upd
    have g12 := e2 _ _ g1
    have s2 : Same H H2 := e1.trans e2
    rcases hv with ⟨rfl, rfl, hD⟩ | ⟨s', rfl, hRp, hL⟩
    · refine ⟨_, rfl, rfl, _, rfl, ?_⟩
      rw [non_non]
      refine iteF ?_
      refine ⟨_, rfl, rg, _, _, rfl, g12, rfl, _, rfl, _, rfl, t, _, _, _, rfl, rfl, lst_of gt, atI_nat (stL_at (show n < n + 1 by omega)), rg, h, w, it n, rfl, w0, h1, w1, fit n, ⟨dx1, ru, g12⟩, fun H3 p3 n3 e3 c3 => ?_⟩
      exact q H3 p3 n (backS s2 n3) (s2.trans e3) (.inl ⟨rfl, hD⟩) c3
    · refine ⟨_, rfl, rfl, _, rfl, ?_⟩
      rw [int_non]
      refine iteT ?_
      have lt := hRp.lt
      refine ⟨_, rfl, _, rfl, _, rfl, _, _, rfl, rfl, _, rfl, _, _, rfl, lst_of gt, _, rfl, _, _, rfl, rfl, _, _, rfl, rfl, ?_, _, _, rfl, rfl, ?_⟩
      · rw [stL_len]
        omega
      rw [stL_len]
      have em : (s' : Int) + ((n : Int) - (s' : Int)) % ((L : Int) - (s' : Int)) = ((s' + (n - s') % (L - s') : Nat) : Int) := by
        rw [Int.natCast_add, Int.natCast_emod, Int.natCast_sub (by omega), Int.natCast_sub (by omega)]
      dsimp only
      rw [em]
      have lm : s' + (n - s') % (L - s') < L := by
        have := Nat.mod_lt (n - s') (show 0 < L - s' by omega)
        omega
      unfold gName
      k_upd
      refine ⟨_, rfl, rg, _, _, rfl, g12, rfl, _, rfl, _, rfl, t, _, _, _, rfl, rfl, lst_of gt, atI_nat (stL_at lm), rg, h, w, it _, rfl, w0, h1, w1, fit _, ⟨dx1, ru, g12⟩, fun H3 p3 n3 e3 c3 => ?_⟩
      exact q H3 p3 _ (backS s2 n3) (s2.trans e3) (.inr ⟨L, s', hRp, hL, rfl⟩) c3
theorem Pick.one {it : Nat → Nat} {m : Nat} (h : Pick it 1 m) : it m = it 1 := by
  rcases h with ⟨e, _⟩ | ⟨L, s, hR, hL, e⟩
  · rw [e]
  · have := hR.lt
    have e1 : L = 1 := by omega
    have e2 : s = 0 := by omega
    subst e1 e2
    rw [e]
    exact hR.eq.symm
def sp_ring_next (C CR : Addr) : Sp := fun vs H Q _ => ∃ (l ru : Addr) (h w b0 : Nat) (ps : List Pr) (bs ss : List Int), vs = [.ref l, .ref ru, .int (h : Int), .int (w : Int)] ∧ 0 < h ∧ 0 < w ∧ h ≤ 100 ∧ w ≤ 100 ∧ RuleAt CR H ru bs ss ∧ (∀ b ∈ bs, 1 ≤ b ∧ b ≤ 8) ∧ (∀ b ∈ ss, 0 ≤ b ∧ b ≤ 8) ∧
  Cells H l ps ∧ BitsOf h w b0 ps ∧
  ∀ (H' : Hp) (p : Addr), H p = none → Same H H' → Cells H' p (cellsW h w (afterN h w bs ss b0)) → Q (.ref p) H'
theorem ok_ring_next (T : Txt K mg) : FnOk P w K mg base CX0 5 T.f_ring_next T.d_ring_next ["cells", "rule", "height", "width"] (sp_ring_next T.C_Ring T.C_Rule) := by
  refine T.F_ring_next.ok sc_ring_next (fun vs H Q E h => ?_) (fun cdv A outer s H vs Q E hr h => ?_)
  · obtain ⟨_, _, _, _, _, _, _, _, rfl, _⟩ := h
    rfl
  · obtain ⟨l, ru, h, w, b0, ps, bs, ss, rfl, h0, w0, h1, w1, hrl, hb, hss, hC, hB, q⟩ := h
    refine ⟨_, (pss_one (ps_ret (pe_call (ok_ring_grown T) (hr.mono (by decide)) (by rfl) T.g_ring_grown T.F_ring_grown.kp T.b_ring_grown .nil pass0 (pa_cons (pv 0) (pa_cons (pv 1) (pa_cons (pv 2) (pa_cons (pv 3) (pa_cons pe_int pa_nil)))))))), ?_⟩
    refine ⟨_, rfl, _, rfl, _, rfl, _, rfl, l, ru, h, w, 1, b0, ps, bs, ss, rfl, h0, w0, h1, w1, hrl, hb, hss, hC, hB, by decide, fun k hk _ => by omega, fun H1 p m n1 e1 pk c1 => ?_⟩
    rw [pk.one] at c1
    exact q H1 p n1 e1 c1
def sp_ring_fate (C CR : Addr) : Sp := fun vs H Q _ => ∃ (l ru : Addr) (h w n b0 : Nat) (ps : List Pr) (bs ss : List Int), vs = [.ref l, .ref ru, .int (h : Int), .int (w : Int), .int (n : Int)] ∧ 0 < h ∧ 0 < w ∧ h ≤ 100 ∧ w ≤ 100 ∧ RuleAt CR H ru bs ss ∧ (∀ b ∈ bs, 1 ≤ b ∧ b ≤ 8) ∧ (∀ b ∈ ss, 0 ≤ b ∧ b ≤ 8) ∧
  Cells H l ps ∧ BitsOf h w b0 ps ∧ n ≤ 5000 ∧
  ∀ (H' : Hp) (v : V), Same H H' → ((v = .non ∧ Dist (itR (afterN h w bs ss) b0) (n + 1)) ∨ ∃ (L s : Nat) (p : Addr), v = .ref p ∧ H' p = some (.tup [.int (s : Int), .int ((L : Int) - (s : Int))]) ∧ Rep (itR (afterN h w bs ss) b0) L s ∧ L ≤ n) → Q v H'
theorem ok_ring_fate (T : Txt K mg) : FnOk P w K mg base CX0 4 T.f_ring_fate T.d_ring_fate ["cells", "rule", "height", "width", "bound"] (sp_ring_fate T.C_Ring T.C_Rule) := by
  refine T.F_ring_fate.ok sc_ring_fate (fun vs H Q E h => ?_) (fun cdv A outer s H vs Q E hr h => ?_)
  · obtain ⟨_, _, _, _, _, _, _, _, _, rfl, _⟩ := h
    rfl
  · obtain ⟨l, ru, h, w, n, b0, ps, bs, ss, rfl, h0, w0, h1, w1, hrl, hb, hss, hC, hB, n5, q⟩ := h
    refine ⟨_, (pss_cons (ps_asg (pe_meth (pe_make T.M_Ring (ok_Ring_init T) (hr.mono (by decide)) rfl T.g_Ring T.b_Ring_init .nil pass0 (pa_cons (pv 1) (pa_cons (pv 2) (pa_cons (pv 3) pa_nil)))) T.cl_Ring T.m_Ring_history (ok_Ring_history T) (hr.mono (by decide)) T.b_Ring_history .nil pass0 (pa_cons (pv 0) (pa_cons (pv 4) pa_nil))) (pg_tupK (K := K) (n := 2) rfl rfl (pgs_cons (pg_name (i := 5) sc_ring_fate.nd rfl (.inl rfl)) (pgs_cons (pg_name (i := 6) sc_ring_fate.nd rfl (.inl rfl)) pgs_nil))))
      (pss_one (ps_ret (pe_ifExp (pt_cmpR op_isN (pv 6) pe_non (nomark _)) pe_non (pe_tup (pa_cons (pv 6) (pa_cons (pe_op op_sub (pe_callB call_lenL (by rfl) T.z_len (by decide +kernel) (pa_cons (pv 5) pa_nil)) (pv 6)) pa_nil))))))), ?_⟩
    k_upd
    refine ⟨_, rfl, _, rfl, _, rfl, ?_⟩
    intro rg dx nx nd nex
    refine ⟨H, rg, ru, dx, h, w, rfl, h1, w1, madeS nx nd, nx, upd_same, fun H1 e1 ⟨dx1, g1⟩ => ⟨rfl, ?_⟩⟩
    have hR1 : RingIs T.C_Ring T.C_Rule H1 rg bs ss h w := ⟨dx1, ru, g1, hrl.up e1⟩
    refine ⟨rg, _, _, rfl, g1, rfl, _, rfl, _, rfl, rg, l, h, w, n, b0, ps, bs, ss, rfl, h0, w0, h1, w1, hR1, hb, hss, hC.up e1, hB, by omega, fun k hk _ => by omega, fun H2 p t L v e2 g2 gt hv => ?_⟩
    refine ⟨p, _, rfl, tup_of g2, rfl, _, _, rfl, _, _, rfl, rfl, ?_⟩
    k_upd
    rcases hv with ⟨rfl, rfl, hD⟩ | ⟨s', rfl, hRp, hL⟩
    · refine ⟨_, rfl, rfl, _, rfl, ?_⟩
      rw [non_non]
      exact iteT (q H2 _ (e1.trans e2) (.inl ⟨rfl, hD⟩))
    · refine ⟨_, rfl, rfl, _, rfl, ?_⟩
      rw [int_non]
      refine iteF ?_
      refine ⟨_, rfl, _, rfl, _, _, rfl, lst_of gt, _, rfl, _, _, rfl, rfl, by k_clsL, fun pt npt => ?_⟩
      rw [stL_len]
      exact q _ _ ((e1.trans e2).trans (newS npt)) (.inr ⟨L, s', pt, rfl, upd_same, hRp, hL⟩)
/-! ### the law's own next generation -/
def cnt9 (f : Nat → Nat → Bool) : Nat → Nat
  | 0 => 0
  | k + 1 => cnt9 f k + if k = 4 then 0 else (f (k / 3) (k % 3)).toNat
theorem cnt9_all (f : Nat → Nat → Bool) : cnt9 f 9 = (f 0 0).toNat + (f 0 1).toNat + (f 0 2).toNat + (f 1 0).toNat + (f 1 2).toNat + (f 2 0).toNat + (f 2 1).toNat + (f 2 2).toNat := by
  show 0 + (f 0 0).toNat + (f 0 1).toNat + (f 0 2).toNat + (f 1 0).toNat + 0 + (f 1 2).toNat + (f 2 0).toNat + (f 2 1).toNat + (f 2 2).toNat = _
  omega
theorem cnt9_le (f : Nat → Nat → Bool) : ∀ k, cnt9 f k ≤ k
  | 0 => Nat.le_refl _
  | k + 1 => by
    have := cnt9_le f k
    have := Bool.toNat_le (f (k / 3) (k % 3))
    show cnt9 f k + (if k = 4 then 0 else (f (k / 3) (k % 3)).toNat) ≤ k + 1
    split <;> omega
def nearIn (h w : Nat) (ps : List Pr) (r c i j : Nat) : Bool := decide (((((r : Int) + (i : Int) - 1) % (h : Int), ((c : Int) + (j : Int) - 1) % (w : Int)) : Pr) ∈ ps)
theorem ring_at {h r i : Nat} (hr : r < h) (hi : i < 3) : ((r : Int) + (i : Int) - 1) % (h : Int) = (((if i = 0 then prv h r else if i = 1 then r else nxt h r) : Nat) : Int) := by
  match i, hi with
  | 0, _ =>
    rw [if_pos rfl]
    unfold prv
    rw [Int.natCast_emod, Int.natCast_sub (by omega), Int.natCast_add]
    rw [show (r : Int) + (0 : Nat) - 1 = (r : Int) + (h : Int) - (1 : Nat) - (h : Int) by omega, Int.sub_emod_right]
  | 1, _ =>
    rw [if_neg (by decide), if_pos rfl, show (r : Int) + (1 : Nat) - 1 = (r : Int) by omega, Int.emod_eq_of_lt (by omega) (by omega)]
  | 2, _ =>
    rw [if_neg (by decide), if_neg (by decide), show (r : Int) + (2 : Nat) - 1 = ((r + 1 : Nat) : Int) by omega]
    unfold nxt
    rw [Int.natCast_emod]
theorem near_bit {h w b r c i j : Nat} (hr : r < h) (hc : c < w) (hi : i < 3) (hj : j < 3) : nearIn h w (cellsW h w b) r c i j =
    b.testBit ((if i = 0 then prv h r else if i = 1 then r else nxt h r) * w + (if j = 0 then prv w c else if j = 1 then c else nxt w c)) := by
  unfold nearIn
  rw [ring_at hr hi, ring_at hc hj, Bool.eq_iff_iff, decide_eq_true_iff]
  refine mem_cellsW ?_ ?_
  · split
    · exact prv_lt (by omega)
    · split
      · exact hr
      · exact nxt_lt (by omega)
  · split
    · exact prv_lt (by omega)
    · split
      · exact hc
      · exact nxt_lt (by omega)
theorem cnt_nb {h w b r c : Nat} (hr : r < h) (hc : c < w) : cnt9 (nearIn h w (cellsW h w b) r c) 9 = nbR h w b r c := by
  have n : ∀ i j, i < 3 → j < 3 → _ := fun i j hi hj => near_bit (b := b) hr hc hi hj
  rw [cnt9_all, n 0 0 (by decide) (by decide), n 0 1 (by decide) (by decide), n 0 2 (by decide) (by decide), n 1 0 (by decide) (by decide), n 1 2 (by decide) (by decide), n 2 0 (by decide) (by decide), n 2 1 (by decide) (by decide), n 2 2 (by decide) (by decide)]
  rfl
/-- the cells of the first n places that live in the next generation -/
def foundW (h w : Nat) (bs ss : List Int) (b n : Nat) : List Pr := ((List.range n).filter fun j => liveR h w bs ss b (j / w) (j % w)).map (atW w)
theorem foundW_next {h w : Nat} {bs ss : List Int} {b r c : Nat} (hc : c < w) : foundW h w bs ss b (r * w + c + 1) = foundW h w bs ss b (r * w + c) ++ (if liveR h w bs ss b r c = true then [((r : Int), (c : Int))] else []) := by
  unfold foundW
  rw [List.range_succ, List.filter_append, List.map_append]
  congr 1
  by_cases z : liveR h w bs ss b r c = true
  · rw [if_pos z, List.filter_cons_of_pos (by rw [p_div hc, p_mod hc]; exact z)]
    show [atW w (r * w + c)] = _
    rw [atW_at hc]
  · rw [if_neg z, List.filter_cons_of_neg (by rw [p_div hc, p_mod hc]; exact z)]
    rfl
theorem foundW_all {h w : Nat} {bs ss : List Int} {b : Nat} (hb : ∀ b ∈ bs, 1 ≤ b ∧ b ≤ 8) (hss : ∀ b ∈ ss, 0 ≤ b ∧ b ≤ 8) (hw : 0 < w) (fb : b < 2 ^ (h * w)) : foundW h w bs ss b (h * w) = cellsW h w (afterN h w bs ss b) := by
  unfold foundW cellsW bitsB
  congr 1
  refine List.filter_congr fun j m => ?_
  obtain ⟨r, c, hc, rfl⟩ := p_split w j hw
  rw [p_div hc, p_mod hc, after_bit hb hss hw fb ((p_lt hc).mp (List.mem_range.mp m)) hc]
theorem foundW_len {h w : Nat} {bs ss : List Int} {b n : Nat} : (foundW h w bs ss b n).length ≤ n := by
  unfold foundW
  rw [List.length_map]
  exact Nat.le_trans (List.length_filter_le _ _) (by rw [List.length_range]; exact Nat.le_refl _)
end
end My
namespace My
open PySem PySem.Spec PyProof.Rows L2 Vx
open TL
local macro_rules | `(tactic| k_invariant "new" ($n, $H:ident, $e:ident, $h:ident)) => `(tactic| (generalize hE : upd _ _ _ = $H; obtain ⟨$e:ident, $h:ident⟩ := gen_e hE $n; clear hE))
local macro_rules | `(tactic| k_places) => `(tactic| first
  | assumption
  | exact lst_of (by assumption)
  | exact tup_of (by assumption)
  | (refine getS (by assumption) ?_; k_places)
  | (refine Same.seq (by assumption) ?_; k_places)
  | (refine tupS (by assumption) ?_; k_places)
  | (refine lst_of ?_; k_places)
  | (refine tup_of ?_; k_places))
local macro_rules | `(tactic| k_subL) => `(tactic| first
  | k_places
  | solve_by_elim (maxDepth := 10) [getS, lst_of, tup_of, Same.seq, tupS])
local macro_rules | `(tactic| k_offL) => `(tactic| first
  | (show (0 : Int) < _; first | omega | decide)
  | (refine ⟨?_, ?_⟩ <;> first | omega | decide)
  | exact .inr ⟨by decide, by decide⟩
  | exact .inl ⟨by decide, by decide⟩
  | exact .inl ⟨by omega, by omega⟩
  | omega)
local macro_rules | `(tactic| k_clsL) => `(tactic| exact Nat.le_of_ble_eq_true rfl)
local macro_rules | `(tactic| k_upd) => `(tactic| simp only [L2.start, List.map_cons, List.map_nil, List.length_cons, List.length_nil, List.replicate_succ, List.replicate_zero, List.cons_append, List.nil_append, List.set_cons_zero, List.set_cons_succ])
section
variable {P : Program} {w : World} {K : PySem.W.Frag} {mg : Str → Option Value} {base : Heap}
def FoundAt (H : Hp) (fl : Addr) (fs : List Pr) (H' : Hp) : Prop := Same H H' ∧ ∃ us : List (Addr × Pr), H' fl = some (.lst (us.map fun t => V.ref t.1)) ∧ (∀ t ∈ us, H' t.1 = some (.tup [.int t.2.1, .int t.2.2])) ∧ us.map (·.2) = fs
theorem FoundAt.up {H H' H'' : Hp} {fl : Addr} {fs : List Pr} (e : Same H' H'') (h : FoundAt H fl fs H') : FoundAt H fl fs H'' := by
  obtain ⟨s, us, h1, h2, h3⟩ := h
  exact ⟨s.trans e, us, e _ _ h1, fun t m => e _ _ (h2 t m), h3⟩
theorem FoundAt.add {H H' : Hp} {fl t : Addr} {fs : List Pr} {x : Pr} {vs : List V} (h : FoundAt H fl fs H') (n : H fl = none) (hv : H' fl = some (.lst vs)) (ht : H' t = some (.tup [.int x.1, .int x.2])) : FoundAt H fl (fs ++ [x]) (upd H' fl (.lst (vs ++ [.ref t]))) := by
  obtain ⟨s, us, h1, h2, h3⟩ := h
  have e : vs = us.map fun t => V.ref t.1 := by
    rw [h1] at hv
    injection hv with hv
    injection hv with hv
    exact hv.symm
  subst e
  have off : ∀ (b : Addr) (o : HO), H' b = some o → (∀ xs, o ≠ .lst xs) → upd H' fl (.lst ((us.map fun t => V.ref t.1) ++ [.ref t])) b = some o := fun b o e ne => by
    rw [upd_ne fun z => ?_]
    · exact e
    · rw [z, h1] at e
      exact ne _ (Option.some.inj e).symm
  refine ⟨mutS s n, us ++ [(t, x)], ?_, fun u m => ?_, ?_⟩
  · rw [upd_same, List.map_append]
    rfl
  · rcases List.mem_append.mp m with m | m
    · exact off _ _ (h2 u m) fun _ z => by cases z
    · rw [List.mem_singleton.mp m]
      exact off _ _ ht fun _ z => by cases z
  · rw [List.map_append, h3]
    rfl
def sp_law_ring : Sp := fun vs H Q _ => ∃ (l pb pss : Addr) (h w b : Nat) (bs ss : List Int), vs = [.ref l, .ref pb, .ref pss, .int (h : Int), .int (w : Int)] ∧ 0 < h ∧ 0 < w ∧ h ≤ 100 ∧ w ≤ 100 ∧ b < 2 ^ (h * w) ∧ (∀ b ∈ bs, 1 ≤ b ∧ b ≤ 8) ∧ (∀ b ∈ ss, 0 ≤ b ∧ b ≤ 8) ∧
  Cells H l (cellsW h w b) ∧ H pb = some (.lst (bs.map V.int)) ∧ H pss = some (.lst (ss.map V.int)) ∧
  ∀ (H' : Hp) (p : Addr), H p = none → Same H H' → Cells H' p (cellsW h w (afterN h w bs ss b)) → Q (.ref p) H'
theorem ok_law_ring (T : Txt K mg) : FnOk P w K mg base CX0 1 T.f_law_ring T.d_law_ring ["cells", "births", "survival", "h", "w"] sp_law_ring := by
  refine T.F_law_ring.ok sc_law_ring (fun vs H Q E h => ?_) (fun cdv A outer s H vs Q E hr h => ?_)
  · obtain ⟨_, _, _, _, _, _, _, _, rfl, _⟩ := h
    rfl
  · obtain ⟨l, pb, pss, h, w, b, bs, ss, rfl, h0, w0, h1, w1, fb, hb, hss, hC, gb, gs, q⟩ := h
    have hw := small_hw h1 w1
    have hu65 : (A.deeper (envOfC (Str.ofString "_law_ring") (defScope s_law_ring) s.heap.objs.size T.f_law_ring cdv)).units + 65 < cLine := by
      have := hr.un
      omega
    refine ⟨_, (pss_cons (ps_set (i := 5) sc_law_ring.nd rfl (.inl rfl) (pe_lst pa_nil))
      (pss_cons (ps_for PassesOwn.never rfl (pi_range1 (by rfl) T.z_range (pa_cons (pv 3) pa_nil)) (pg_name (i := 6) sc_law_ring.nd rfl (.inl rfl))
      (pss_one (ps_for PassesOwn.never rfl (pi_range1 (by rfl) T.z_range (pa_cons (pv 4) pa_nil)) (pg_name (i := 7) sc_law_ring.nd rfl (.inl rfl))
      (pss_cons (ps_set (i := 8) sc_law_ring.nd rfl (.inl rfl) pe_int)
      (pss_cons (ps_for PassesOwn.never rfl (pi_range1 (by rfl) T.z_range (pa_cons pe_int pa_nil)) (pg_name (i := 9) sc_law_ring.nd rfl (.inl rfl))
      (pss_one (ps_for PassesOwn.never rfl (pi_range1 (by rfl) T.z_range (pa_cons pe_int pa_nil)) (pg_name (i := 10) sc_law_ring.nd rfl (.inl rfl))
      (pss_one (ps_if (PW.pt (pw_and (pt_cmpR (op_neD hr.units) (pe_tup (pa_cons (pv 9) (pa_cons (pv 10) pa_nil))) (pe_tup (pa_cons pe_int (pa_cons pe_int pa_nil))) (nomark _)) (pw_and1 (pt_cmpR (op_inP hu65) (pe_tup (pa_cons (pe_op op_mod (pe_callTy call_intI (by rfl) T.z_int (by decide +kernel) (pa_cons (pe_op op_sub (pe_op op_add (pv 6) (pv 9)) pe_int) pa_nil)) (pv 3)) (pa_cons (pe_op op_mod (pe_callTy call_intI (by rfl) T.z_int (by decide +kernel) (pa_cons (pe_op op_sub (pe_op op_add (pv 7) (pv 10)) pe_int) pa_nil)) (pv 4)) pa_nil))) (pv 0) rfl))))
      (pss_one (ps_set (i := 8) sc_law_ring.nd rfl (.inl rfl) (pe_op op_add (pv 8) pe_int)))
      pss_nil)))))
      (pss_one (ps_if (PW.pt (pw_or (PW.pt (pw_and (pt_cmpR (op_inP hu65) (pe_tup (pa_cons (pv 6) (pa_cons (pv 7) pa_nil))) (pv 0) rfl) (pw_and1 (pt_cmpR op_in_seq (pv 8) (pv 2) rfl)))) (pw_or1 (PW.pt (pw_and (pt_cmpR (op_notInP hu65) (pe_tup (pa_cons (pv 6) (pa_cons (pv 7) pa_nil))) (pv 0) rfl) (pw_and1 (pt_cmpR op_in_seq (pv 8) (pv 1) rfl)))))))
      (pss_one (ps_expr (pe_bm PySem.F.plainAttrs_list PySem.F.slot_list_append PySem.F.type_list_append mt_append (pv 5) (pa_cons (pe_tup (pa_cons (pv 6) (pa_cons (pv 7) pa_nil))) pa_nil))))
      pss_nil)))))))
      (pss_one (ps_ret (pv 5))))), ?_⟩
    k_upd
    refine ⟨by k_clsL, fun fl nf => ?_⟩
    have nf0 := nf
    k_invariant "new" (nf, H1, e1, g1)
    k_upd
    refine ⟨_, rfl, _, rfl, by omega, by omega, for_range (lo := 0) (n := h) (fun r σ H' => FoundAt H fl (foundW h w bs ss b (r * w)) H' ∧ ∃ x6 x7 x8 x9 x10 : Option V, σ = [some (.ref l), some (.ref pb), some (.ref pss), some (.int (h : Int)), some (.int (w : Int)), some (.ref fl), x6, x7, x8, x9, x10]) ?_ ?_ ?_⟩
    · refine ⟨⟨e1, [], g1, fun _ m => (by cases m), ?_⟩, _, _, _, _, _, rfl⟩
      rw [Nat.zero_mul]
      rfl
    · rintro r σ H2 hr' ⟨hF, x6, x7, x8, x9, x10, rfl⟩
      rw [Int.zero_add]
      refine ⟨_, rfl, _, rfl, by omega, by omega, for_range (lo := 0) (n := w) (fun c σ H' => FoundAt H fl (foundW h w bs ss b (r * w + c)) H' ∧ ∃ x7 x8 x9 x10 : Option V, σ = [some (.ref l), some (.ref pb), some (.ref pss), some (.int (h : Int)), some (.int (w : Int)), some (.ref fl), some (.int (r : Int)), x7, x8, x9, x10]) ?_ ?_ ?_⟩
      · exact ⟨hF, _, _, _, _, rfl⟩
      · rintro c σ H3 hc ⟨hF, x7, x8, x9, x10, rfl⟩
        rw [Int.zero_add]
        k_upd
        refine ⟨_, rfl, by decide, by decide, for_range (lo := 0) (n := 3) (fun i σ H' => FoundAt H fl (foundW h w bs ss b (r * w + c)) H' ∧ ∃ x9 x10 : Option V, σ = [some (.ref l), some (.ref pb), some (.ref pss), some (.int (h : Int)), some (.int (w : Int)), some (.ref fl), some (.int (r : Int)), some (.int (c : Int)), some (.int (cnt9 (nearIn h w (cellsW h w b) r c) (3 * i) : Nat)), x9, x10]) ?_ ?_ ?_⟩
        · exact ⟨hF, _, _, rfl⟩
        · rintro i σ H4 hi ⟨hF, x9, x10, rfl⟩
          rw [Int.zero_add]
          refine ⟨_, rfl, by decide, by decide, for_range (lo := 0) (n := 3) (fun j σ H' => FoundAt H fl (foundW h w bs ss b (r * w + c)) H' ∧ ∃ x10 : Option V, σ = [some (.ref l), some (.ref pb), some (.ref pss), some (.int (h : Int)), some (.int (w : Int)), some (.ref fl), some (.int (r : Int)), some (.int (c : Int)), some (.int (cnt9 (nearIn h w (cellsW h w b) r c) (3 * i + j) : Nat)), some (.int (i : Int)), x10]) ?_ ?_ ?_⟩
          · exact ⟨hF, _, rfl⟩
          · rintro j σ H5 hj ⟨hF, x10, rfl⟩
            rw [Int.zero_add]
            k_upd
            refine ⟨_, rfl, _, rfl, by k_clsL, fun ta nta => ?_⟩
            k_invariant "new" (nta, H6, e6, g6)
            refine ⟨by k_clsL, fun tb ntb => ?_⟩
            k_invariant "new" (ntb, H7, e7, g7)
            have hF7 := hF.up (e6.trans e7)
            refine ⟨pd ((i : Int), (j : Int)), pd (1, 1), .tup (tup_of (e7 _ _ g6)) (.cons (.int _) (.cons (.int _) .nil)), .tup (tup_of g7) (.cons (.int _) (.cons (.int _) .nil)), shaped_pd _, shaped_pd _, ?_⟩
            rw [eqv_pd]
            have step : cnt9 (nearIn h w (cellsW h w b) r c) (3 * i + j + 1) = cnt9 (nearIn h w (cellsW h w b) r c) (3 * i + j) + if 3 * i + j = 4 then 0 else (nearIn h w (cellsW h w b) r c i j).toNat := by
              show cnt9 _ (3 * i + j) + (if 3 * i + j = 4 then 0 else (nearIn h w (cellsW h w b) r c ((3 * i + j) / 3) ((3 * i + j) % 3)).toNat) = _
              rw [show (3 * i + j) / 3 = i by omega, show (3 * i + j) % 3 = j by omega]
            by_cases mid : i = 1 ∧ j = 1
            · obtain ⟨rfl, rfl⟩ := mid
              refine ⟨_, rfl, iteF ?_⟩
              refine iteF ?_
              refine ⟨hF7, some (.int ((1 : Nat) : Int)), ?_⟩
              rw [← Nat.add_assoc, step, if_pos rfl]
              rfl
            · have nm : ¬ (((i : Int), (j : Int)) : Pr) = (1, 1) := fun z => mid ⟨by have : (i : Int) = 1 := congrArg Prod.fst z; omega, by have : (j : Int) = 1 := congrArg Prod.snd z; omega⟩
              rw [decide_eq_false nm]
              refine ⟨_, rfl, iteT ?_⟩
              refine ⟨_, rfl, _, rfl, _, _, rfl, rfl, _, _, rfl, rfl, _, rfl, _, rfl, _, _, rfl, rfl, by omega, _, rfl, _, rfl, _, _, rfl, rfl, _, _, rfl, rfl, _, rfl, _, rfl, _, _, rfl, rfl, by omega, by k_clsL, fun tq ntq => ?_⟩
              k_invariant "new" (ntq, H8, e8, g8)
              have hF8 := hF7.up e8
              refine ⟨_, rfl, tq, l, ((((r : Int) + (i : Int) - 1) % (h : Int), ((c : Int) + (j : Int) - 1) % (w : Int)) : Pr), cellsW h w b, rfl, rfl, g8, hC.up hF8.1, _, rfl, ?_⟩
              rw [if_neg (show ¬ 3 * i + j = 4 by omega)] at step
              by_cases z : decide ((((((r : Int) + (i : Int) - 1) % (h : Int), ((c : Int) + (j : Int) - 1) % (w : Int)) : Pr) ∈ cellsW h w b)) = true
              · rw [z]
                refine iteT ?_
                refine ⟨_, rfl, _, _, rfl, rfl, ?_⟩
                refine ⟨hF8, some (.int (j : Int)), ?_⟩
                rw [← Nat.add_assoc, step]
                unfold nearIn
                rw [z]
                rfl
              · rw [Bool.eq_false_iff.mpr z]
                refine iteF ?_
                refine ⟨hF8, some (.int (j : Int)), ?_⟩
                rw [← Nat.add_assoc, step]
                unfold nearIn
                rw [Bool.eq_false_iff.mpr z]
                rfl
          · rintro σ H5 ⟨hF, x10, rfl⟩
            exact ⟨hF, _, _, rfl⟩
        · rintro σ H4 ⟨hF, x9, x10, rfl⟩
          rw [show 3 * 3 = 9 from rfl, cnt_nb hr' hc]
          have mem : decide ((((r : Int), (c : Int)) : Pr) ∈ cellsW h w b) = b.testBit (r * w + c) := by
            rw [Bool.eq_iff_iff, decide_eq_true_iff]
            exact mem_cellsW hr' hc
          have nx := foundW_next (h := h) (bs := bs) (ss := ss) (b := b) (r := r) hc
          refine ⟨_, rfl, _, rfl, by k_clsL, fun ta nta => ?_⟩
          k_invariant "new" (nta, H5, e5, g5)
          have hF5 := hF.up e5
          refine ⟨_, rfl, ta, l, ((r : Int), (c : Int)), cellsW h w b, rfl, rfl, g5, hC.up hF5.1, ?_⟩
          rw [mem]
          unfold liveR at nx
          by_cases z : b.testBit (r * w + c) = true
          · rw [z]
            rw [if_pos z] at nx
            refine ⟨_, rfl, iteT ?_⟩
            refine ⟨_, rfl, _, rfl, pss, _, rfl, .inl (lst_of (hF5.1 _ _ gs)), rfl, flat_ints _, _, by rw [inV_ints], ?_⟩
            by_cases y : decide ((nbR h w b r c : Int) ∈ ss) = true
            · rw [y]
              rw [if_pos y] at nx
              refine iteT ?_
              refine iteT ?_
              have hFA := hF5
              obtain ⟨us, hus, _, hFAe⟩ := hFA.2
              refine ⟨_, rfl, .inl ⟨rfl, _, lst_of hus⟩, _, rfl, _, rfl, by k_clsL, fun tn ntn => ?_⟩
              k_invariant "new" (ntn, HB, eB, gB)
              refine ⟨_, _, _, rfl, rfl, eB _ _ hus, ?_, ?_⟩
              · rw [List.length_map, sizeLine_eq]
                have lz : us.length ≤ 10000 := by
                  have := foundW_len (h := h) (w := w) (bs := bs) (ss := ss) (b := b) (n := r * w + c)
                  rw [← hFAe, List.length_map] at this
                  have := (p_lt (r := r) (h := h) hc).mpr hr'
                  omega
                omega
              exact ⟨nx ▸ (hFA.up eB).add (x := ((r : Int), (c : Int))) nf0 (eB _ _ hus) gB, _, _, _, _, rfl⟩
            · rw [Bool.eq_false_iff.mpr y]
              rw [if_neg y, List.append_nil] at nx
              refine iteF ?_
              refine ⟨_, rfl, _, rfl, by k_clsL, fun tb ntb => ?_⟩
              k_invariant "new" (ntb, H6, e6, g6)
              have hF6 := hF5.up e6
              refine ⟨_, rfl, tb, l, ((r : Int), (c : Int)), cellsW h w b, rfl, rfl, g6, hC.up hF6.1, ?_⟩
              rw [mem, z]
              refine ⟨_, rfl, iteF ?_⟩
              refine iteF ?_
              exact ⟨nx ▸ hF6, _, _, _, _, rfl⟩
          · have z : b.testBit (r * w + c) = false := Bool.eq_false_iff.mpr z
            rw [z]
            rw [z, if_neg Bool.false_ne_true] at nx
            refine ⟨_, rfl, iteF (iteF ?_)⟩
            refine ⟨_, rfl, _, rfl, by k_clsL, fun tb ntb => ?_⟩
            k_invariant "new" (ntb, H6, e6, g6)
            have hF6 := hF5.up e6
            refine ⟨_, rfl, tb, l, ((r : Int), (c : Int)), cellsW h w b, rfl, rfl, g6, hC.up hF6.1, ?_⟩
            rw [mem, z]
            refine ⟨_, rfl, iteT ?_⟩
            refine ⟨_, rfl, _, rfl, pb, _, rfl, .inl (lst_of (hF6.1 _ _ gb)), rfl, flat_ints _, _, by rw [inV_ints], ?_⟩
            by_cases y : decide ((nbR h w b r c : Int) ∈ bs) = true
            · rw [y]
              rw [if_pos y] at nx
              refine iteT ?_
              have hFA := hF6
              obtain ⟨us, hus, _, hFAe⟩ := hFA.2
              refine ⟨_, rfl, .inl ⟨rfl, _, lst_of hus⟩, _, rfl, _, rfl, by k_clsL, fun tn ntn => ?_⟩
              k_invariant "new" (ntn, HB, eB, gB)
              refine ⟨_, _, _, rfl, rfl, eB _ _ hus, ?_, ?_⟩
              · rw [List.length_map, sizeLine_eq]
                have lz : us.length ≤ 10000 := by
                  have := foundW_len (h := h) (w := w) (bs := bs) (ss := ss) (b := b) (n := r * w + c)
                  rw [← hFAe, List.length_map] at this
                  have := (p_lt (r := r) (h := h) hc).mpr hr'
                  omega
                omega
              exact ⟨nx ▸ (hFA.up eB).add (x := ((r : Int), (c : Int))) nf0 (eB _ _ hus) gB, _, _, _, _, rfl⟩
            · rw [Bool.eq_false_iff.mpr y]
              rw [if_neg y, List.append_nil] at nx
              refine iteF ?_
              exact ⟨nx ▸ hF6, _, _, _, _, rfl⟩
      · rintro σ H3 ⟨hF, x7, x8, x9, x10, rfl⟩
        rw [← Nat.succ_mul] at hF
        exact ⟨hF, _, _, _, _, _, rfl⟩
    · rintro σ H2 ⟨hF, x6, x7, x8, x9, x10, rfl⟩
      rw [foundW_all hb hss w0 fb] at hF
      obtain ⟨s2, us, hus, htu, eus⟩ := hF
      exact ⟨_, rfl, q H2 fl nf0 s2 ⟨us, hus, htu, eus⟩⟩
end
end My
namespace My
open PySem PySem.Spec PyProof.Rows L2 Vx
open TL
local macro_rules | `(tactic| k_invariant "new" ($n, $H:ident, $e:ident, $h:ident)) => `(tactic| (generalize hE : upd _ _ _ = $H; obtain ⟨$e:ident, $h:ident⟩ := gen_e hE $n; clear hE))
local macro_rules | `(tactic| k_places) => `(tactic| first
  | assumption
  | exact lst_of (by assumption)
  | exact tup_of (by assumption)
  | (refine getS (by assumption) ?_; k_places)
  | (refine Same.seq (by assumption) ?_; k_places)
  | (refine tupS (by assumption) ?_; k_places)
  | (refine lst_of ?_; k_places)
  | (refine tup_of ?_; k_places))
local macro_rules | `(tactic| k_subL) => `(tactic| first
  | k_places
  | solve_by_elim (maxDepth := 10) [getS, lst_of, tup_of, Same.seq, tupS])
local macro_rules | `(tactic| k_offL) => `(tactic| first
  | (show (0 : Int) < _; first | omega | decide)
  | (refine ⟨?_, ?_⟩ <;> first | omega | decide)
  | exact .inr ⟨by decide, by decide⟩
  | exact .inl ⟨by decide, by decide⟩
  | exact .inl ⟨by omega, by omega⟩
  | omega)
local macro_rules | `(tactic| k_clsL) => `(tactic| exact Nat.le_of_ble_eq_true rfl)
local macro_rules | `(tactic| k_upd) => `(tactic| simp only [L2.start, List.map_cons, List.map_nil, List.length_cons, List.length_nil, List.replicate_succ, List.replicate_zero, List.cons_append, List.nil_append, List.set_cons_zero, List.set_cons_succ])
section
variable {P : Program} {w : World} {K : PySem.W.Frag} {mg : Str → Option Value} {base : Heap}
theorem ok_law_cell (T : Txt K mg) : FnOk P w K mg base CX0 1 T.f_law_cell T.d_law_cell ["script", "k"] (spCell K) := by
  refine T.F_law_cell.ok sc_law_cell (fun vs H Q E h => ?_) (fun cdv A outer s H vs Q E hr h => ?_)
  · obtain ⟨l, ns, j, rfl, _⟩ := h
    rfl
  · obtain ⟨l, ns, j, rfl, hs, q⟩ := h
    refine ⟨_, (pss_cons (ps_if (pt_cmpR op_lt (pv 1) (pe_callB call_lenL (by rfl) T.z_len (by decide +kernel) (pa_cons (pv 0) pa_nil)) (nomark _))
      (pss_one (ps_ret (pe_callTy call_intI (by rfl) T.z_int (by decide +kernel) (pa_cons (pe_ix ix_list (pv 0) (pv 1) (fun _ _ => rfl)) pa_nil))))
      pss_nil)
      (pss_one (ps_ret pe_int))), ?_⟩
    refine ⟨_, rfl, _, rfl, _, _, rfl, hs, _, _, rfl, rfl, _, rfl, ite2 (fun c => ?_) (fun c => ?_)⟩
    · have hj : j < ns.length := by
        have z := of_decide_eq_true c
        rw [List.length_map] at z
        omega
      exact ⟨_, rfl, _, rfl, _, _, _, _, rfl, rfl, hs, atI_cell hj, _, rfl, q⟩
    · have hj : ¬ j < ns.length := fun z => c (decide_eq_true (by rw [List.length_map]; omega))
      rw [cell_out hj] at q
      exact q
/-! ### law_row: so many numbers from 0 to below the bound -/
def sp_law_row : Sp := fun vs H Q _ => ∃ (cell count bound : Int), vs = [.int cell, .int count, .int bound] ∧ 0 ≤ count ∧ count ≤ 100000 ∧ 0 < bound ∧ bound < 1000000000 ∧
  ∀ (H' : Hp) (p : Addr) (xs : List Int), H p = none → Same H H' → H' p = some (.lst (xs.map V.int)) → (xs.length : Int) = count → (∀ x ∈ xs, 0 ≤ x ∧ x < bound) → Q (.ref p) H'
theorem ok_law_row (T : Txt K mg) : FnOk P w K mg base CX0 1 T.f_law_row T.d_law_row ["cell", "count", "bound"] sp_law_row := by
  refine T.F_law_row.ok sc_law_row (fun vs H Q E h => ?_) (fun cdv A outer s H vs Q E hr h => ?_)
  · obtain ⟨_, _, _, rfl, _⟩ := h
    rfl
  · obtain ⟨cell, count, bound, rfl, c0, c1, b0, b1, q⟩ := h
    refine ⟨_, (pss_cons (ps_set (i := 3) sc_law_row.nd rfl (.inl rfl) (pe_callB call_abs (by rfl) T.z_abs (by decide +kernel) (pa_cons (pe_callTy call_intI (by rfl) T.z_int (by decide +kernel) (pa_cons (pv 0) pa_nil)) pa_nil)))
      (pss_cons (ps_set (i := 4) sc_law_row.nd rfl (.inl rfl) (pe_op op_add (pe_op op_mod (pe_callTy call_intI (by rfl) T.z_int (by decide +kernel) (pa_cons (pv 0) pa_nil)) pe_int) pe_int))
      (pss_cons (ps_set (i := 5) sc_law_row.nd rfl (.inl rfl) (pe_lst pa_nil))
      (pss_cons (ps_for PassesOwn.never rfl (pi_range1 (by rfl) T.z_range (pa_cons (pv 1) pa_nil)) (pg_name (i := 6) sc_law_row.nd rfl (.inl rfl))
      (pss_one (ps_if (pt_cmpR op_ge (pv 3) (pv 2) (nomark _))
      (pss_cons (ps_expr (pe_bm PySem.F.plainAttrs_list PySem.F.slot_list_append PySem.F.type_list_append mt_append (pv 5) (pa_cons (pe_op op_mod (pe_callTy call_intI (by rfl) T.z_int (by decide +kernel) (pa_cons (pv 3) pa_nil)) (pv 2)) pa_nil)))
      (pss_one (ps_set (i := 3) sc_law_row.nd rfl (.inl rfl) (pe_op op_fdiv (pv 3) (pv 2)))))
      (pss_cons (ps_set (i := 4) sc_law_row.nd rfl (.inl rfl) (pe_op op_mod (pe_callTy call_intI (by rfl) T.z_int (by decide +kernel) (pa_cons (pe_op op_add (pe_op op_add (pe_op op_mul (pv 4) pe_int) (pe_op op_mul pe_int (pv 6))) pe_int) pa_nil)) pe_int))
      (pss_one (ps_expr (pe_bm PySem.F.plainAttrs_list PySem.F.slot_list_append PySem.F.type_list_append mt_append (pv 5) (pa_cons (pe_op op_mod (pe_callTy call_intI (by rfl) T.z_int (by decide +kernel) (pa_cons (pe_op op_fdiv (pe_op op_mul (pv 4) pe_int) pe_int) pa_nil)) (pv 2)) pa_nil))))))))
      (pss_one (ps_ret (pv 5))))))), ?_⟩
    refine ⟨_, rfl, _, rfl, _, rfl, _, rfl, _, rfl, _, _, rfl, rfl, (by k_offL), _, _, rfl, rfl, Nat.zero_le _, fun p1 n1 => ?_⟩
    k_invariant "new" (n1, H1, e1, h1)
    refine ⟨_, rfl, _, rfl, by omega, by omega, for_range (lo := 0) (n := count.toNat) (fun i σ H' => ∃ (rest mixed : Int) (xs : List Int) (v : Option V), σ = [some (.int cell), some (.int count), some (.int bound), some (.int rest), some (.int mixed), some (.ref p1), v] ∧
      Same H H' ∧ H' p1 = some (.lst (xs.map V.int)) ∧ xs.length = i ∧ (∀ x ∈ xs, 0 ≤ x ∧ x < bound) ∧ 0 ≤ mixed ∧ mixed < 4294967296) ?_ ?_ ?_⟩
    · refine ⟨_, _, [], none, rfl, e1, h1, rfl, by simp, ?_, ?_⟩
      · have := Int.emod_nonneg cell (show (1000003 : Int) ≠ 0 by decide)
        omega
      · have := Int.emod_lt_of_pos cell (show (0 : Int) < 1000003 by decide)
        omega
    · rintro i σ H' hi ⟨rest, mixed, xs, v, rfl, sm, hp, hl, hx, m0, m1⟩
      refine ⟨_, rfl, _, rfl, _, _, rfl, rfl, _, rfl, ite2 (fun c => ?_) (fun c => ?_)⟩
      · refine ⟨_, rfl, .inl ⟨rfl, _, lst_of hp⟩, _, rfl, _, rfl, _, rfl, _, _, rfl, rfl, b0, _, _, _, rfl, rfl, hp, ?_, ?_⟩
        · rw [List.length_map]
          exact Nat.lt_of_lt_of_le (show xs.length < 100001 by omega) (by decide)
        · refine ⟨_, rfl, _, rfl, _, _, rfl, rfl, ⟨b0, by omega⟩, _, _, xs ++ [rest % bound], _, rfl, mutS sm n1, ?_, by simp [hl], fun x h => ?_, m0, m1⟩
          · rw [upd_same]
            simp
          · rcases List.mem_append.mp h with h | h
            · exact hx x h
            · rw [List.mem_singleton.mp h]
              exact ⟨Int.emod_nonneg _ (by omega), Int.emod_lt_of_pos _ b0⟩
      · refine ⟨_, rfl, _, _, rfl, rfl, .inr ⟨by decide, by decide⟩, _, rfl, _, _, rfl, rfl, .inl ⟨by decide, by decide⟩, _, _, rfl, rfl, _, _, rfl, rfl, _, rfl, _, _, rfl, rfl, (by k_offL), ?_⟩
        refine ⟨_, rfl, .inl ⟨rfl, _, lst_of hp⟩, _, rfl, _, _, rfl, rfl, .inr ⟨by decide, by decide⟩, _, _, rfl, rfl, ⟨by decide, by decide⟩, _, rfl, _, rfl, _, _, rfl, rfl, b0, _, _, _, rfl, rfl, hp, ?_, ?_⟩
        · rw [List.length_map]
          exact Nat.lt_of_lt_of_le (show xs.length < 100001 by omega) (by decide)
        · refine ⟨_, _, xs ++ [(mixed * 48271 + 11 * (0 + (i : Int)) + 7) % 2147483647 * 2862933555777941757 / 1024 % bound], _, rfl, mutS sm n1, ?_, by simp [hl], fun x h => ?_, Int.emod_nonneg _ (by decide), ?_⟩
          · rw [upd_same, List.map_append]
            rfl
          · rcases List.mem_append.mp h with h | h
            · exact hx x h
            · rw [List.mem_singleton.mp h]
              exact ⟨Int.emod_nonneg _ (by omega), Int.emod_lt_of_pos _ b0⟩
          · exact Int.lt_trans (Int.emod_lt_of_pos _ (by decide)) (by decide)
    · rintro σ H' ⟨rest, mixed, xs, v, rfl, sm, hp, hl, hx, _, _⟩
      exact ⟨_, rfl, q H' p1 xs n1 sm hp (by omega) hx⟩
def Good (lo : Int) (l : List Int) : Prop := l.Pairwise (· < ·) ∧ (∀ b ∈ l, lo ≤ b ∧ b ≤ 8) ∧ l.length ≤ 9
theorem pow9 : ∀ n : Nat, n ≤ 9 → 0 < (2 : Int) ^ n ∧ (2 : Int) ^ n ≤ 512 := by decide
theorem good_snoc {lo hi : Int} {l : List Int} (h1 : l.Pairwise (· < ·)) (h2 : ∀ b ∈ l, lo ≤ b ∧ b < hi) (h : lo ≤ hi) : (l ++ [hi]).Pairwise (· < ·) ∧ ∀ b ∈ l ++ [hi], lo ≤ b ∧ b < hi + 1 := by
  constructor
  · rw [List.pairwise_append]
    refine ⟨h1, by simp, fun a ha b hb => ?_⟩
    rw [List.mem_singleton.mp hb]
    exact (h2 a ha).2
  · intro b hb
    rcases List.mem_append.mp hb with hb | hb
    · have := h2 b hb
      omega
    · rw [List.mem_singleton.mp hb]
      omega
def sp_law_numbers : Sp := fun vs H Q _ => ∃ (cell : Int), vs = [.int cell] ∧
  ∀ (H' : Hp) (p pb ps : Addr) (bs ss : List Int), Same H H' → H' p = some (.tup [.ref pb, .ref ps]) → H' pb = some (.lst (bs.map V.int)) → H' ps = some (.lst (ss.map V.int)) → Good 1 bs → Good 0 ss → Q (.ref p) H'
theorem ok_law_numbers (T : Txt K mg) : FnOk P w K mg base CX0 1 T.f_law_numbers T.d_law_numbers ["cell"] sp_law_numbers := by
  refine T.F_law_numbers.ok sc_law_numbers (fun vs H Q E h => ?_) (fun cdv A outer s H vs Q E hr h => ?_)
  · obtain ⟨_, rfl, _⟩ := h
    rfl
  · obtain ⟨cell, rfl, q⟩ := h
    refine ⟨_, (pss_cons (ps_set (i := 1) sc_law_numbers.nd rfl (.inr rfl) (pe_callB call_abs (by rfl) T.z_abs (by decide +kernel) (pa_cons (pe_callTy call_intI (by rfl) T.z_int (by decide +kernel) (pa_cons (pv 0) pa_nil)) pa_nil)))
      (pss_cons (ps_setLc (i := 2) (own := [("k", 4)]) (g := gName 4) rfl sc_law_numbers.nd rfl rfl (sw_true rfl rfl rfl (by decide +kernel)) (pi_range2 (by rfl) T.z_range (pa_cons pe_int (pa_cons pe_int pa_nil))) (blkOk_by (own := [("k", 4)]) (N := N_law_numbers) (sc := defScope s_law_numbers) (by decide +kernel)) (fun _ _ _ _ _ => pg_name (i := 4) sc_law_numbers.nd rfl (Or.inl rfl)) (fun _ _ _ _ _ => pts_one (pt_cmpR op_eq (pe_op op_mod (pe_op op_fdiv (pv 1) (pe_op op_shl pe_int (pv 4))) pe_int) pe_int (nomark _))) (fun _ _ _ _ _ => (pv 4)))
      (pss_cons (ps_setLc (i := 3) (own := [("k", 4)]) (g := gName 4) rfl sc_law_numbers.nd rfl rfl (sw_true rfl rfl rfl (by decide +kernel)) (pi_range1 (by rfl) T.z_range (pa_cons pe_int pa_nil)) (blkOk_by (own := [("k", 4)]) (N := N_law_numbers) (sc := defScope s_law_numbers) (by decide +kernel)) (fun _ _ _ _ _ => pg_name (i := 4) sc_law_numbers.nd rfl (Or.inl rfl)) (fun _ _ _ _ _ => pts_one (pt_cmpR op_eq (pe_op op_mod (pe_op op_fdiv (pv 1) (pe_op op_shl pe_int (pv 4))) pe_int) pe_int (nomark _))) (fun _ _ _ _ _ => (pv 4)))
      (pss_cons (ps_if (pt_cmpR op_eq (pe_op op_mod (pe_op op_fdiv (pv 1) pe_int) pe_int) pe_int (nomark _))
      (pss_cons (ps_set (i := 2) sc_law_numbers.nd rfl (.inl rfl) (pe_ix ix_list (pe_lst (pa_cons (pe_lst (pa_cons pe_int pa_nil)) (pa_cons (pe_lst (pa_cons pe_int (pa_cons pe_int pa_nil))) (pa_cons (pe_lst (pa_cons pe_int pa_nil)) (pa_cons (pe_lst (pa_cons pe_int (pa_cons pe_int (pa_cons pe_int pa_nil)))) (pa_cons (pe_lst (pa_cons pe_int (pa_cons pe_int pa_nil))) pa_nil)))))) (pe_op op_mod (pe_op op_fdiv (pv 1) pe_int) pe_int) (fun _ _ => rfl)))
      (pss_one (ps_set (i := 3) sc_law_numbers.nd rfl (.inl rfl) (pe_ix ix_list (pe_lst (pa_cons (pe_lst (pa_cons pe_int (pa_cons pe_int pa_nil))) (pa_cons (pe_lst (pa_cons pe_int (pa_cons pe_int pa_nil))) (pa_cons (pe_lst pa_nil) (pa_cons (pe_lst (pa_cons pe_int (pa_cons pe_int (pa_cons pe_int (pa_cons pe_int pa_nil))))) (pa_cons (pe_lst (pa_cons pe_int (pa_cons pe_int (pa_cons pe_int pa_nil)))) pa_nil)))))) (pe_op op_mod (pe_op op_fdiv (pv 1) pe_int) pe_int) (fun _ _ => rfl)))))
      pss_nil)
      (pss_one (ps_ret (pe_tup (pa_cons (pv 2) (pa_cons (pv 3) pa_nil))))))))), ?_⟩
    refine ⟨_, rfl, _, rfl, _, rfl, ?_⟩
    generalize (if cell < 0 then -cell else cell) = x
    -- births
    refine ⟨1, 9, rfl, ⟨by decide, by decide, by decide, by decide⟩, fun p1 n1 => lc_range (lo := 1) (n := 8) (fun i H' => ∃ ys : List Int, Same H H' ∧ H' p1 = some (.lst (ys.map V.int)) ∧ ys.length ≤ i ∧ ys.Pairwise (· < ·) ∧ ∀ b ∈ ys, 1 ≤ b ∧ b < 1 + (i : Int))
      ⟨[], newS n1, upd_same, by simp, by simp, by simp⟩ ?_ ?_⟩
    · rintro i H' hi ⟨ys, sm, hp, hl, h1, h2⟩
      have pw := pow9 (1 + (i : Int)).toNat (by omega)
      refine ⟨rfl, _, rfl, _, rfl, _, _, rfl, rfl, ⟨by omega, by omega, by decide⟩, _, _, rfl, rfl, ⟨?_, ?_⟩, _, _, rfl, rfl, (by k_offL), rfl, _, rfl, ite2 (fun c => ?_) (fun c => ?_)⟩
      · show (0 : Int) < 1 * 2 ^ (1 + (i : Int)).toNat
        omega
      · show (1 : Int) * 2 ^ (1 + (i : Int)).toNat < 1073741824
        omega
      · have g := good_snoc h1 h2 (by omega)
        refine ⟨_, rfl, _, hp, ?_, ys ++ [1 + (i : Int)], mutS sm n1, ?_, by simp; omega, g.1, fun b hb => ?_⟩
        · rw [List.length_map]
          exact Nat.lt_of_lt_of_le (show ys.length < 100 by omega) (by decide)
        · rw [upd_same, List.map_append]
          rfl
        · have := g.2 b hb
          omega
      · exact ⟨ys, sm, hp, by omega, h1, fun b hb => by have := h2 b hb; omega⟩
    rintro H1 ⟨bs, e1, hb, lb, gb1, gb2⟩
    have gb : Good 1 bs := ⟨gb1, fun b h => by have := gb2 b h; omega, by omega⟩
    -- survival
    refine ⟨9, rfl, by decide, by decide, fun p2 n2 => lc_range (lo := 0) (n := 9) (fun i H' => ∃ ys : List Int, Same H1 H' ∧ H' p2 = some (.lst (ys.map V.int)) ∧ ys.length ≤ i ∧ ys.Pairwise (· < ·) ∧ ∀ b ∈ ys, 0 ≤ b ∧ b < 0 + (i : Int))
      ⟨[], newS n2, upd_same, by simp, by simp, by simp⟩ ?_ ?_⟩
    · rintro i H' hi ⟨ys, sm, hp, hl, h1, h2⟩
      have pw := pow9 (0 + (i : Int)).toNat (by omega)
      refine ⟨rfl, _, rfl, _, rfl, _, _, rfl, rfl, ⟨by omega, by omega, by decide⟩, _, _, rfl, rfl, ⟨?_, ?_⟩, _, _, rfl, rfl, (by k_offL), rfl, _, rfl, ite2 (fun c => ?_) (fun c => ?_)⟩
      · show (0 : Int) < 512 * 2 ^ (0 + (i : Int)).toNat
        omega
      · show (512 : Int) * 2 ^ (0 + (i : Int)).toNat < 1073741824
        omega
      · have g := good_snoc h1 h2 (by omega)
        refine ⟨_, rfl, _, hp, ?_, ys ++ [0 + (i : Int)], mutS sm n2, ?_, by simp; omega, g.1, fun b hb => ?_⟩
        · rw [List.length_map]
          exact Nat.lt_of_lt_of_le (show ys.length < 100 by omega) (by decide)
        · rw [upd_same, List.map_append]
          rfl
        · have := g.2 b hb
          omega
      · exact ⟨ys, sm, hp, by omega, h1, fun b hb => by have := h2 b hb; omega⟩
    rintro H2 ⟨ss, e2, hs, ls, gs1, gs2⟩
    have gs : Good 0 ss := ⟨gs1, fun b h => by have := gs2 b h; omega, by omega⟩
    have hb2 := getS e2 hb
    have e02 := e1.trans e2
    -- if
    refine ⟨_, rfl, _, _, rfl, rfl, ⟨by decide, by decide⟩, _, _, rfl, rfl, (by k_offL), rfl, _, rfl, ite2 (fun c => ?_) (fun c => ?_)⟩
    · refine ⟨by decide, fun a1 m1 => ?_⟩
      k_invariant "new" (m1, A1, ea1, h1)
      refine ⟨by decide, fun a2 m2 => ?_⟩
      k_invariant "new" (m2, A2, ea2, h2)
      refine ⟨by decide, fun a3 m3 => ?_⟩
      k_invariant "new" (m3, A3, ea3, h3)
      refine ⟨by decide, fun a4 m4 => ?_⟩
      k_invariant "new" (m4, A4, ea4, h4)
      refine ⟨by decide, fun a5 m5 => ?_⟩
      k_invariant "new" (m5, A5, ea5, h5)
      refine ⟨by k_clsL, fun a6 m6 => ?_⟩
      k_invariant "new" (m6, A6, ea6, h6)
      have pick : ∃ (pb : Addr) (l : List Int), atI [V.ref a1, .ref a2, .ref a3, .ref a4, .ref a5] (x / 786432 % 5) = some (.ref pb) ∧ A6 pb = some (.lst (l.map V.int)) ∧ Good 1 l := by
        have z0 := Int.emod_nonneg (x / 786432) (show (5 : Int) ≠ 0 by decide)
        have z1 := Int.emod_lt_of_pos (x / 786432) (show (0 : Int) < 5 by decide)
        generalize x / 786432 % 5 = j at z0 z1
        have : j = 0 ∨ j = 1 ∨ j = 2 ∨ j = 3 ∨ j = 4 := by omega
        rcases this with rfl | rfl | rfl | rfl | rfl
        · exact ⟨a1, [3], rfl, by k_subL, by unfold Good; decide⟩
        · exact ⟨a2, [3, 6], rfl, by k_subL, by unfold Good; decide⟩
        · exact ⟨a3, [2], rfl, by k_subL, by unfold Good; decide⟩
        · exact ⟨a4, [3, 7, 8], rfl, by k_subL, by unfold Good; decide⟩
        · exact ⟨a5, [2, 5], rfl, by k_subL, by unfold Good; decide⟩
      obtain ⟨pb, l, hpk, hl, gl⟩ := pick
      refine ⟨_, rfl, _, _, rfl, rfl, ⟨by decide, by decide⟩, _, _, rfl, rfl, (by k_offL), _, _, _, _, rfl, rfl, by k_subL, hpk, ?_⟩
      refine ⟨by decide, fun b1 m1 => ?_⟩
      k_invariant "new" (m1, B1, eb1, h1)
      refine ⟨by decide, fun b2 m2 => ?_⟩
      k_invariant "new" (m2, B2, eb2, h2)
      refine ⟨by decide, fun b3 m3 => ?_⟩
      k_invariant "new" (m3, B3, eb3, h3)
      refine ⟨by decide, fun b4 m4 => ?_⟩
      k_invariant "new" (m4, B4, eb4, h4)
      refine ⟨by decide, fun b5 m5 => ?_⟩
      k_invariant "new" (m5, B5, eb5, h5)
      refine ⟨by k_clsL, fun b6 m6 => ?_⟩
      k_invariant "new" (m6, B6, eb6, h6)
      have pick : ∃ (pb : Addr) (l : List Int), atI [V.ref b1, .ref b2, .ref b3, .ref b4, .ref b5] (x / 3932160 % 5) = some (.ref pb) ∧ B6 pb = some (.lst (l.map V.int)) ∧ Good 0 l := by
        have z0 := Int.emod_nonneg (x / 3932160) (show (5 : Int) ≠ 0 by decide)
        have z1 := Int.emod_lt_of_pos (x / 3932160) (show (0 : Int) < 5 by decide)
        generalize x / 3932160 % 5 = j at z0 z1
        have : j = 0 ∨ j = 1 ∨ j = 2 ∨ j = 3 ∨ j = 4 := by omega
        rcases this with rfl | rfl | rfl | rfl | rfl
        · exact ⟨b1, [2, 3], rfl, by k_subL, by unfold Good; decide⟩
        · exact ⟨b2, [2, 3], rfl, by k_subL, by unfold Good; decide⟩
        · exact ⟨b3, [], rfl, by k_subL, by unfold Good; decide⟩
        · exact ⟨b4, [2, 3, 4, 5], rfl, by k_subL, by unfold Good; decide⟩
        · exact ⟨b5, [3, 4, 6], rfl, by k_subL, by unfold Good; decide⟩
      obtain ⟨ps, m, hpk2, hm, gm⟩ := pick
      refine ⟨_, rfl, _, _, rfl, rfl, ⟨by decide, by decide⟩, _, _, rfl, rfl, (by k_offL), _, _, _, _, rfl, rfl, by k_subL, hpk2, ?_⟩
      refine ⟨_, rfl, _, rfl, by k_clsL, fun r nr => ?_⟩
      k_invariant "new" (nr, R1, er, hr1)
      exact q R1 r pb ps l m (e02.trans (ea1.trans (ea2.trans (ea3.trans (ea4.trans (ea5.trans (ea6.trans (eb1.trans (eb2.trans (eb3.trans (eb4.trans (eb5.trans (eb6.trans er))))))))))))) hr1 (by k_subL) (by k_subL) gl gm
    · refine ⟨_, rfl, _, rfl, by k_clsL, fun r nr => ?_⟩
      k_invariant "new" (nr, R1, er, hr1)
      exact q R1 r p1 p2 bs ss (e02.trans er) hr1 (by k_subL) (by k_subL) gb gs
/-! ### law_some: some cells of a box, ascending -/
def sp_law_some : Sp := fun vs H Q _ => ∃ (cell count h v : Int), vs = [.int cell, .int count, .int h, .int v] ∧ 0 ≤ count ∧ count ≤ 1000 ∧ 0 < h ∧ h ≤ 1000 ∧ 0 < v ∧ v ≤ 1000 ∧
  ∀ (H' : Hp) (p : Addr) (ps : List Pr), H p = none → Same H H' → Cells H' p ps → ps.Pairwise ltP → (ps.length : Int) ≤ count → (∀ x ∈ ps, 0 ≤ x.1 ∧ x.1 < h ∧ 0 ≤ x.2 ∧ x.2 < v) → Q (.ref p) H'
theorem ok_law_some (T : Txt K mg) : FnOk P w K mg base CX0 2 T.f_law_some T.d_law_some ["cell", "count", "height", "width"] sp_law_some := by
  refine T.F_law_some.ok sc_law_some (fun vs H Q E h => ?_) (fun cdv A outer s H vs Q E hr h => ?_)
  · obtain ⟨_, _, _, _, rfl, _⟩ := h
    rfl
  · obtain ⟨cell, count, h, v, rfl, c0, c1, h0, h1, v0, v1, q⟩ := h
    have hu : (A.deeper (envOfC (Str.ofString "_law_some") (defScope s_law_some) s.heap.objs.size T.f_law_some cdv)).units + 1 < cLine := by
      have := hr.units
      omega
    refine ⟨_, (pss_cons (ps_set (i := 4) sc_law_some.nd rfl (.inl rfl) (pe_callB call_abs (by rfl) T.z_abs (by decide +kernel) (pa_cons (pe_callTy call_intI (by rfl) T.z_int (by decide +kernel) (pa_cons (pv 0) pa_nil)) pa_nil)))
      (pss_cons (ps_set (i := 5) sc_law_some.nd rfl (.inl rfl) pe_dnewT)
      (pss_cons (ps_for PassesOwn.never rfl (pi_list (pe_call (ok_law_row T) (hr.mono (by decide)) (by rfl) T.g_law_row T.F_law_row.kp T.b_law_row .nil pass0 (pa_cons (pv 0) (pa_cons (pv 1) (pa_cons (pe_op op_mul (pv 2) (pv 3)) pa_nil))))) (pg_name (i := 6) sc_law_some.nd rfl (.inl rfl))
      (pss_one (ps_dput hu (pv 5) (pe_tup (pa_cons (pe_op op_fdiv (pv 6) (pv 3)) (pa_cons (pe_op op_mod (pv 6) (pv 3)) pa_nil))) pe_bl rfl)))
      (pss_one (ps_ret (pe_callB cr_sortedC (by rfl) T.z_sorted (by decide +kernel) (pa_cons (pe_lock (pe_lc (own := [("place", 7)]) (g := gName 7) (tt := tYes) rfl sc_law_some.nd (pi_keys (pv 5)) (blkOk_by (own := [("place", 7)]) (N := N_law_some) (sc := defScope s_law_some) (by decide +kernel)) (fun _ _ _ _ _ => pg_name (i := 7) sc_law_some.nd rfl (Or.inl rfl)) (fun _ _ _ _ _ => pts_nil) (fun _ _ _ _ _ => (pv 7)))) pa_nil))))))), ?_⟩
    have b0 : 0 < h * v := Int.mul_pos h0 v0
    have b1 : h * v < 1000000000 := by
      have := Int.mul_le_mul h1 v1 (by omega) (by decide)
      omega
    refine ⟨_, rfl, _, rfl, _, rfl, fun d nd => ?_⟩
    k_invariant "new" (nd, H1, e1, g1)
    refine ⟨_, rfl, _, rfl, _, rfl, _, rfl, _, _, rfl, rfl, (by k_offL), _, _, _, rfl, c0, by omega, b0, b1, fun H2 p2 xs n2 e2 g2 l2 m2 => ?_⟩
    have nd2 : d ≠ p2 := neS g1 (fun _ _ z => z) n2
    refine ⟨p2, rfl, ⟨_, lst_of g2⟩, for_list (K := K) (a := p2) (xs := xs.map V.int) (fun i σ H' => Same H H' ∧ H' p2 = some (.lst (xs.map V.int)) ∧ (∃ (x y z : Option V), σ = [some (.int cell), some (.int count), some (.int h), some (.int v), x, some (.ref d), y, z]) ∧ ∃ kvs ps, H' d = some (.dT kvs) ∧ KeysP kvs ps ∧ ps.length ≤ i ∧ ∀ x ∈ ps, 0 ≤ x.1 ∧ x.1 < h ∧ 0 ≤ x.2 ∧ x.2 < v)
      ⟨e1.trans e2, g2, ⟨_, _, _, rfl⟩, [], [], e2 _ _ g1, ⟨rfl, List.nodup_nil⟩, Nat.le_refl _, fun _ m => (by cases m)⟩ (fun i σ H' _ p => lst_of p.2.1) ?_ ?_⟩
    · rintro i z σ H' hi ⟨sm, gp, ⟨x, y, z1, rfl⟩, kvs, ps, gd, hK, lp, bd⟩
      obtain ⟨n, rfl, _, mn⟩ := item_ints hi
      have bn := m2 n mn
      have li := (List.getElem?_eq_some_iff.mp hi).1
      rw [List.length_map] at li
      refine ⟨_, rfl, _, rfl, _, rfl, _, _, rfl, rfl, ⟨v0, by omega⟩, _, rfl, _, rfl, _, _, rfl, rfl, v0, (by k_clsL), fun t nt => ?_⟩
      have ntd : t ≠ d := fun e => by
        rw [e, gd] at nt
        cases nt
      have ntp : p2 ≠ d := fun e => by
        rw [e, gd] at gp
        cases gp
      obtain ⟨qs, hQ, lq, mq⟩ := hK.put (n / v, n % v) (.bl true)
      refine ⟨d, _, rfl, DPut.t (k := keyP (n / v, n % v)) (newS nt _ _ gd) upd_same (by rw [hK.len, sizeLine_eq]; omega), mutS (sm.trans (newS nt)) nd, ?_, ⟨_, _, _, rfl⟩, _, qs, upd_same, hQ, by omega, fun x m => ?_⟩
      · rw [upd_ne ntp]
        exact newS nt _ _ gp
      · rcases (mq x).mp m with m | e
        · exact bd x m
        · rw [e]
          exact ⟨Int.ediv_nonneg bn.1 (by omega), Int.ediv_lt_of_lt_mul v0 bn.2, Int.emod_nonneg _ (by omega), Int.emod_lt_of_pos _ v0⟩
    · rintro σ H' ⟨sm, gp, ⟨x, y, z1, rfl⟩, kvs, ps, gd, hK, lp, bd⟩
      rw [List.length_map] at lp
      refine ⟨d, _, gd, trivial, fun od => ⟨_, rfl, d, od, rfl, .inr ⟨kvs, upd_same, fun D nD => lc_keysP hK upd_same nD (by rw [sizeLine_eq]; omega) ?_ fun H3 e3 g3 => ?_⟩⟩⟩
      · intro t x H' Po Pn ht hq
        exact ⟨rfl, tyesT ⟨_, rfl, hq⟩⟩
      · have gd3 : H3 d = some (.frz od (.dT kvs)) := e3 _ _ upd_same
        have s3 : Same H (upd H3 d (.dT kvs)) := mutS ((mutS sm nd).trans e3) nd
        have neD : D ≠ d := fun e => by
          rw [e, upd_same] at nD
          cases nD
        refine ⟨gd3, D, ps, rfl, g3.mut neD (fun xs e => ?_), hK.2, fun p H4 qs e4 n4 h4 c4 l4 => q H4 p qs (backS s3 n4) (s3.trans e4) h4 c4.1 (by omega) fun x m => bd x ((c4.2 x).mp m)⟩
        rw [gd3] at e
        cases e
/-! ### what the law says of an answer -/
def sp_law_integer : Sp := fun vs H Q _ => ∃ i : Int, vs = [.int i] ∧ Q (.bl true) H
theorem ok_law_integer (T : Txt K mg) : FnOk P w K mg base CX0 1 T.f_law_integer T.d_law_integer ["value"] sp_law_integer := by
  refine T.F_law_integer.ok sc_law_integer (fun vs H Q E h => ?_) (fun cdv A outer s H vs Q E hr h => ?_)
  · obtain ⟨_, rfl, _⟩ := h
    rfl
  · obtain ⟨i, rfl, q⟩ := h
    refine ⟨_, (pss_one (ps_ret (pe_and (pe_callB call_isi (by rfl) T.z_isinstance (by decide +kernel) (pa_cons (pv 0) (pa_cons (pe_bltn (v := .ty "int") (by rfl) T.z_int (by decide +kernel) rfl) pa_nil))) (pe_one (pe_not (pe_callB call_isi (by rfl) T.z_isinstance (by decide +kernel) (pa_cons (pv 0) (pa_cons (pe_bltn (v := .ty "bool") (by rfl) T.z_bool (by decide +kernel) rfl) pa_nil)))))))), ?_⟩
    exact ⟨_, rfl, _, _, _, _, _, rfl, .ty _, .base (.int _), rfl, _, rfl, _, rfl, _, _, _, _, _, rfl, .ty _, .base (.int _), rfl, _, rfl, q⟩
def sp_law_cells : Sp := fun vs H Q _ => ∃ (l : Addr) (ps : List Pr), vs = [.ref l] ∧ Cells H l ps ∧ ps.Pairwise ltP ∧ ∀ H', Same H H' → Q (.bl true) H'
theorem ok_law_cells (T : Txt K mg) : FnOk P w K mg base CX0 2 T.f_law_cells T.d_law_cells ["value"] sp_law_cells := by
  refine T.F_law_cells.ok sc_law_cells (fun vs H Q E h => ?_) (fun cdv A outer s H vs Q E hr h => ?_)
  · obtain ⟨_, _, rfl, _⟩ := h
    rfl
  · obtain ⟨l, ps, rfl, hC, pw, q⟩ := h
    refine ⟨_, (pss_cons (ps_if (pt_not (pt_val (pe_callB call_isi (by rfl) T.z_isinstance (by decide +kernel) (pa_cons (pv 0) (pa_cons (pe_bltn (v := .ty "list") (by rfl) T.z_list (by decide +kernel) rfl) pa_nil)))))
      (pss_one (ps_ret pe_bl))
      pss_nil)
      (pss_cons (ps_for PassesOwn.never rfl (pi_list (pv 0)) (pg_name (i := 1) sc_law_cells.nd rfl (.inl rfl))
      (pss_one (ps_if (PW.pt (pw_or (pt_not (pt_val (pe_callB call_isi (by rfl) T.z_isinstance (by decide +kernel) (pa_cons (pv 1) (pa_cons (pe_bltn (v := .ty "tuple") (by rfl) T.z_tuple (by decide +kernel) rfl) pa_nil))))) (pw_or (pt_cmpR op_ne (pe_callB call_lenU (by rfl) T.z_len (by decide +kernel) (pa_cons (pv 1) pa_nil)) pe_int (nomark _)) (pw_or (pt_not (pt_val (pe_call (ok_law_integer T) (hr.mono (by decide)) (by rfl) T.g_law_integer T.F_law_integer.kp T.b_law_integer .nil pass0 (pa_cons (pe_ix (ix_tupK (K := K) rfl) (pv 1) pe_int (fun _ _ => rfl)) pa_nil)))) (pw_or1 (pt_not (pt_val (pe_call (ok_law_integer T) (hr.mono (by decide)) (by rfl) T.g_law_integer T.F_law_integer.kp T.b_law_integer .nil pass0 (pa_cons (pe_ix (ix_tupK (K := K) rfl) (pv 1) pe_int (fun _ _ => rfl)) pa_nil)))))))))
      (pss_one (ps_ret pe_bl))
      pss_nil)))
      (pss_one (ps_ret (pe_cmpR (op_eqD hr.units) (pv 0) (pe_callB cr_sortedC (by rfl) T.z_sorted (by decide +kernel) (pa_cons (pv 0) pa_nil)) (nomark _)))))), ?_⟩
    obtain ⟨ts, hl, ht, rfl⟩ := id hC
    refine ⟨_, rfl, _, _, _, _, _, rfl, .ty _, .base (.lst hl), rfl, ?_⟩
    refine ⟨_, rfl, _, rfl, l, rfl, ⟨_, lst_of hl⟩, for_list (K := K) (a := l) (xs := ts.map fun t => V.ref t.1) (fun i σ H' => H' = H ∧ ∃ v : Option V, σ = [some (.ref l), v]) ⟨rfl, _, rfl⟩ (fun i σ H' _ p => by rw [p.1]; exact lst_of hl) ?_ ?_⟩
    · rintro i x σ H' hi ⟨rfl, v, rfl⟩
      obtain ⟨t, mt, rfl, _⟩ := item_cells (H := H') hi rfl
      have g := ht t mt
      refine ⟨_, rfl, _, _, _, _, _, rfl, .ty _, .base (.tup g), rfl, ?_⟩
      refine ⟨_, rfl, _, rfl, _, _, rfl, tup_of g, rfl, _, rfl, iteF ?_⟩
      refine ⟨_, rfl, _, _, _, _, rfl, rfl, tup_of g, rfl, _, rfl, _, rfl, iteF ?_⟩
      refine ⟨_, rfl, _, _, _, _, rfl, rfl, tup_of g, rfl, _, rfl, _, rfl, iteF ?_⟩
      exact ⟨rfl, _, rfl⟩
    · rintro σ H' ⟨rfl, v, rfl⟩
      refine ⟨_, rfl, _, rfl, _, _, rfl, hC, nodup_lt pw, fun p H1 qs e1 n1 h1 c1 l1 => ⟨_, _, dp_cells (hC.up e1), dp_cells h1, shaped_cells _, shaped_cells _, ?_⟩⟩
      rw [eqv_cells, canP_eq c1 pw fun _ => Iff.rfl, decide_eq_true rfl]
      exact q H1 e1
end
end My
namespace My
open PySem PySem.Spec PyProof.Rows L2 Vx
open TL
local macro_rules | `(tactic| k_invariant "new" ($n, $H:ident, $e:ident, $h:ident)) => `(tactic| (generalize hE : upd _ _ _ = $H; obtain ⟨$e:ident, $h:ident⟩ := gen_e hE $n; clear hE))
local macro_rules | `(tactic| k_places) => `(tactic| first
  | assumption
  | exact lst_of (by assumption)
  | exact tup_of (by assumption)
  | (refine getS (by assumption) ?_; k_places)
  | (refine Same.seq (by assumption) ?_; k_places)
  | (refine tupS (by assumption) ?_; k_places)
  | (refine lst_of ?_; k_places)
  | (refine tup_of ?_; k_places))
local macro_rules | `(tactic| k_subL) => `(tactic| first
  | k_places
  | solve_by_elim (maxDepth := 10) [getS, lst_of, tup_of, Same.seq, tupS])
local macro_rules | `(tactic| k_offL) => `(tactic| first
  | (show (0 : Int) < _; first | omega | decide)
  | (refine ⟨?_, ?_⟩ <;> first | omega | decide)
  | exact .inr ⟨by decide, by decide⟩
  | exact .inl ⟨by decide, by decide⟩
  | exact .inl ⟨by omega, by omega⟩
  | omega)
local macro_rules | `(tactic| k_clsL) => `(tactic| exact Nat.le_of_ble_eq_true rfl)
local macro_rules | `(tactic| k_upd) => `(tactic| simp only [L2.start, List.map_cons, List.map_nil, List.length_cons, List.length_nil, List.replicate_succ, List.replicate_zero, List.cons_append, List.nil_append, List.set_cons_zero, List.set_cons_succ])
section
variable {P : Program} {w : World} {K : PySem.W.Frag} {mg : Str → Option Value} {base : Heap}
/-! ### the law -/
def StOk (it : Nat → Nat) (sv : V) (L n : Nat) : Prop := (sv = .non ∧ L = n + 1 ∧ Dist it (n + 1)) ∨ ∃ s : Nat, sv = .int (s : Int) ∧ Rep it L s ∧ L ≤ n
def clL (h w : Nat) (it : Nat → Nat) (L : Nat) : List (List Pr) := (List.range L).map fun k => cellsW h w (it k)
theorem clL_at {h w : Nat} {it : Nat → Nat} {L k : Nat} (hk : k < L) : (clL h w it L)[k]? = some (cellsW h w (it k)) := by
  unfold clL
  rw [List.getElem?_map, List.getElem?_range hk]
  rfl
theorem clL_get {h w : Nat} {it : Nat → Nat} {L k : Nat} {p : List Pr} (e : (clL h w it L)[k]? = some p) : k < L ∧ p = cellsW h w (it k) := by
  have hk : k < L := by
    have := (List.getElem?_eq_some_iff.mp e).1
    unfold clL at this
    rwa [List.length_map, List.length_range] at this
  rw [clL_at hk] at e
  exact ⟨hk, (Option.some.inj e).symm⟩
theorem clL_len (h w : Nat) (it : Nat → Nat) (L : Nat) : (clL h w it L).length = L := by
  unfold clL
  rw [List.length_map, List.length_range]
theorem clL_next (h w : Nat) (it : Nat → Nat) (L : Nat) : clL h w it (L + 1) = clL h w it L ++ [cellsW h w (it L)] := by
  unfold clL
  rw [List.range_succ, List.map_append]
  rfl
theorem clL_mem {h w : Nat} {it : Nat → Nat} {L m : Nat} (hw : 0 < w) (fit : ∀ k, it k < 2 ^ (h * w)) : cellsW h w (it m) ∈ clL h w it L ↔ ∃ k, k < L ∧ it k = it m := by
  unfold clL
  rw [List.mem_map]
  constructor
  · rintro ⟨k, mk, e⟩
    exact ⟨k, List.mem_range.mp mk, cellsW_inj hw (fit k) (fit m) e⟩
  · rintro ⟨k, hk, e⟩
    exact ⟨k, List.mem_range.mpr hk, by rw [e]⟩
def DueOk (it : Nat → Nat) (n : Nat) (H : Hp) (dv : V) : Prop := (dv = .non ∧ Dist it (n + 1)) ∨ ∃ (L s : Nat) (p : Addr), dv = .ref p ∧ H p = some (.tup [.int (s : Int), .int ((L : Int) - (s : Int))]) ∧ Rep it L s ∧ L ≤ n
theorem dp_two {K : PySem.W.Frag} {H : Hp} {p : Addr} {a b : Int} (h : H p = some (.tup [.int a, .int b])) : Dp K H (.ref p) (pd (a, b)) := .tup (tup_of h) (.cons (.int _) (.cons (.int _) .nil))
theorem shaped_non : SeqAt.shaped .none = true := by
  unfold SeqAt.shaped
  simp [PyData.canLay0, PyData.depth]
theorem Dist.less {it : Nat → Nat} {m n : Nat} (d : Dist it n) (l : m ≤ n) : Dist it m := fun i j a b => d i j a (Nat.lt_of_lt_of_le b l)
theorem DueOk.uniq {it : Nat → Nat} {n : Nat} {H H' : Hp} {dv fv : V} (d : DueOk it n H dv) (f : DueOk it n H' fv) : (dv = .non ∧ fv = .non) ∨ ∃ (L s : Nat) (p q : Addr), dv = .ref p ∧ fv = .ref q ∧ H p = some (.tup [.int (s : Int), .int ((L : Int) - (s : Int))]) ∧ H' q = some (.tup [.int (s : Int), .int ((L : Int) - (s : Int))]) := by
  rcases d with ⟨e, d⟩ | ⟨L, s, p, e, hp, rp, lp⟩
  · rcases f with ⟨e', f⟩ | ⟨L, s, q, e', hq, rq, lq⟩
    · exact .inl ⟨e, e'⟩
    · have := rq.no d
      omega
  · rcases f with ⟨e', f⟩ | ⟨L', s', q, e', hq, rq, lq⟩
    · have := rp.no f
      omega
    · obtain ⟨rfl, rfl⟩ := rp.uniq rq
      exact .inr ⟨L, s, p, q, e, e', hp, hq⟩
def sp_law (K : PySem.W.Frag) : Sp := fun vs H Q _ => ∃ (a : Addr) (ns : List Int), vs = [.ref a] ∧ SqL K H a (ns.map V.int) ∧ ns.length ≤ 63 ∧ ∀ H', Q (.bl true) H'
theorem ok_law (T : Txt K mg) : FnOk P w K mg base CX0 6 T.f_law T.d_law ["script"] (sp_law K) := by
  refine T.F_law.ok sc_law (fun vs H Q E h => ?_) (fun cdv A outer s H vs Q E hr h => ?_)
  · obtain ⟨a, ns, rfl, _⟩ := h
    rfl
  · obtain ⟨a, ns, rfl, hS, hlen, q⟩ := h
    have hu65 : (A.deeper (envOfC (Str.ofString "law") (defScope s_law) s.heap.objs.size T.f_law cdv)).units + 65 < cLine := by
      have := hr.un
      omega
    refine ⟨_, (pss_cons (ps_asg (pe_call (ok_law_numbers T) (hr.mono (by decide)) (by rfl) T.g_law_numbers T.F_law_numbers.kp T.b_law_numbers .nil pass0 (pa_cons (pe_call (ok_law_cell T) (hr.mono (by decide)) (by rfl) T.g_law_cell T.F_law_cell.kp T.b_law_cell .nil pass0 (pa_cons (pv 0) (pa_cons pe_int pa_nil))) pa_nil)) (pg_tupK (K := K) (n := 2) rfl rfl (pgs_cons (pg_name (i := 1) sc_law.nd rfl (.inl rfl)) (pgs_cons (pg_name (i := 2) sc_law.nd rfl (.inl rfl)) pgs_nil))))
      (pss_cons (ps_set (i := 3) sc_law.nd rfl (.inl rfl) (pe_make T.M_Rule (ok_Rule_init T) (hr.mono (by decide)) rfl T.g_Rule T.b_Rule_init .nil pass0 (pa_cons (pv 1) (pa_cons (pv 2) pa_nil))))
      (pss_cons (ps_set (i := 4) sc_law.nd rfl (.inl rfl) (pe_call (ok_law_cell T) (hr.mono (by decide)) (by rfl) T.g_law_cell T.F_law_cell.kp T.b_law_cell .nil pass0 (pa_cons (pv 0) (pa_cons pe_int pa_nil))))
      (pss_cons (ps_set (i := 5) sc_law.nd rfl (.inl rfl) (pe_op op_add pe_int (pe_op op_mod (pv 4) pe_int)))
      (pss_cons (ps_set (i := 6) sc_law.nd rfl (.inl rfl) (pe_op op_add pe_int (pe_op op_mod (pe_op op_fdiv (pv 4) pe_int) pe_int)))
      (pss_cons (ps_set (i := 7) sc_law.nd rfl (.inl rfl) (pe_call (ok_law_some T) (hr.mono (by decide)) (by rfl) T.g_law_some T.F_law_some.kp T.b_law_some .nil pass0 (pa_cons (pe_call (ok_law_cell T) (hr.mono (by decide)) (by rfl) T.g_law_cell T.F_law_cell.kp T.b_law_cell .nil pass0 (pa_cons (pv 0) (pa_cons pe_int pa_nil))) (pa_cons (pe_op op_mod (pe_op op_fdiv (pv 4) pe_int) pe_int) (pa_cons (pv 5) (pa_cons (pv 6) pa_nil))))))
      (pss_cons (ps_set (i := 8) sc_law.nd rfl (.inl rfl) (pe_revL (pe_op op_cat (pv 7) (pe_slice sl_list (pv 7) po_none (po_some pe_int)))))
      (pss_cons (ps_set (i := 9) sc_law.nd rfl (.inl rfl) (pe_callTy call_listL (by rfl) T.z_list (by decide +kernel) (pa_cons (pv 8) pa_nil)))
      (pss_cons (ps_set (i := 10) sc_law.nd rfl (.inl rfl) (pe_lst (pa_cons (pv 7) pa_nil)))
      (pss_cons (ps_set (i := 11) sc_law.nd rfl (.inl rfl) pe_non)
      (pss_cons (ps_for PassesOwn.never rfl (pi_range1 (by rfl) T.z_range (pa_cons pe_int pa_nil)) (pg_name (i := 12) sc_law.nd rfl (.inl rfl))
      (pss_one (ps_if (pt_cmpR op_isN (pv 11) pe_non (nomark _))
      (pss_cons (ps_set (i := 13) sc_law.nd rfl (.inl rfl) (pe_call (ok_law_ring T) (hr.mono (by decide)) (by rfl) T.g_law_ring T.F_law_ring.kp T.b_law_ring .nil pass0 (pa_cons (pe_ix ix_list (pv 10) (pv 12) (fun _ _ => rfl)) (pa_cons (pv 1) (pa_cons (pv 2) (pa_cons (pv 5) (pa_cons (pv 6) pa_nil)))))))
      (pss_one (ps_if (pt_cmpR (op_inL hu65) (pv 13) (pv 10) rfl)
      (pss_one (ps_set (i := 11) sc_law.nd rfl (.inl rfl) (pe_bm PySem.F.plainAttrs_list PySem.F.slot_list_index PySem.F.type_list_index (mt_indexL hu65) (pv 10) (pa_cons (pv 13) pa_nil))))
      (pss_one (ps_expr (pe_bm PySem.F.plainAttrs_list PySem.F.slot_list_append PySem.F.type_list_append mt_append (pv 10) (pa_cons (pv 13) pa_nil)))))))
      pss_nil)))
      (pss_cons (ps_set (i := 14) sc_law.nd rfl (.inl rfl) (pe_call (ok_ring_next T) (hr.mono (by decide)) (by rfl) T.g_ring_next T.F_ring_next.kp T.b_ring_next .nil pass0 (pa_cons (pv 9) (pa_cons (pv 3) (pa_cons (pv 5) (pa_cons (pv 6) pa_nil))))))
      (pss_cons (ps_if (PW.pt (pw_or (pt_not (pt_val (pe_call (ok_law_cells T) (hr.mono (by decide)) (by rfl) T.g_law_cells T.F_law_cells.kp T.b_law_cells .nil pass0 (pa_cons (pv 14) pa_nil)))) (pw_or (pt_cmpR (op_neD hr.units) (pv 14) (pe_call (ok_law_ring T) (hr.mono (by decide)) (by rfl) T.g_law_ring T.F_law_ring.kp T.b_law_ring .nil pass0 (pa_cons (pv 7) (pa_cons (pv 1) (pa_cons (pv 2) (pa_cons (pv 5) (pa_cons (pv 6) pa_nil)))))) (nomark _)) (pw_or1 (pt_cmpR (op_neD hr.units) (pv 9) (pv 8) (nomark _))))))
      (pss_one (ps_ret pe_bl))
      pss_nil)
      (pss_cons (ps_set (i := 15) sc_law.nd rfl (.inl rfl) (pe_op op_add pe_int (pe_op op_mod (pe_op op_fdiv (pv 4) pe_int) pe_int)))
      (pss_cons (ps_set (i := 16) sc_law.nd rfl (.inl rfl) pe_non)
      (pss_cons (ps_mid (ps_if (PW.pt (pw_and (pt_cmpR op_notN (pv 11) pe_non (nomark _)) (pw_and1 (pt_cmpR op_le (pe_callB call_lenL (by rfl) T.z_len (by decide +kernel) (pa_cons (pv 10) pa_nil)) (pv 15) (nomark _)))))
      (pss_one (ps_set (i := 16) sc_law.nd rfl (.inl rfl) (pe_tup (pa_cons (pv 11) (pa_cons (pe_op op_sub (pe_callB call_lenL (by rfl) T.z_len (by decide +kernel) (pa_cons (pv 10) pa_nil)) (pv 11)) pa_nil)))))
      pss_nil))
      (pss_cons (ps_set (i := 17) sc_law.nd rfl (.inl rfl) (pe_call (ok_ring_fate T) (hr.mono (by decide)) (by rfl) T.g_ring_fate T.F_ring_fate.kp T.b_ring_fate .nil pass0 (pa_cons (pv 9) (pa_cons (pv 3) (pa_cons (pv 5) (pa_cons (pv 6) (pa_cons (pv 15) pa_nil)))))))
      (pss_cons (ps_mid (ps_if (PW.pt (pw_or (pt_cmpR (op_neD hr.units) (pv 17) (pv 16) (nomark _)) (pw_or1 (PW.pt (pw_and (pt_cmpR op_notN (pv 16) pe_non (nomark _)) (pw_and1 (pt_not (pt_val (pe_callB call_isi (by rfl) T.z_isinstance (by decide +kernel) (pa_cons (pv 17) (pa_cons (pe_bltn (v := .ty "tuple") (by rfl) T.z_tuple (by decide +kernel) rfl) pa_nil)))))))))))
      (pss_one (ps_ret pe_bl))
      pss_nil))
      (pss_cons (ps_for PassesOwn.never rfl (pi_list (pe_slice sl_list (pv 0) (po_some pe_int) (po_some pe_int))) (pg_name (i := 18) sc_law.nd rfl (.inl rfl))
      (pss_cons (ps_set (i := 19) sc_law.nd rfl (.inl rfl) (pe_op op_mod (pe_op op_fdiv (pe_callB call_abs (by rfl) T.z_abs (by decide +kernel) (pa_cons (pe_callTy call_intI (by rfl) T.z_int (by decide +kernel) (pa_cons (pv 18) pa_nil)) pa_nil)) pe_int) (pe_ix ix_list (pe_lst (pa_cons pe_int (pa_cons pe_int (pa_cons pe_int pa_nil)))) (pe_op op_mod (pe_callTy call_intI (by rfl) T.z_int (by decide +kernel) (pa_cons (pv 18) pa_nil)) pe_int) (fun _ _ => rfl))))
      (pss_cons (ps_mid (ps_if (PW.pt (pw_and (pt_cmpR op_notN (pv 11) pe_non (nomark _)) (pw_and1 (pt_cmpR op_ge (pv 19) (pe_callB call_lenL (by rfl) T.z_len (by decide +kernel) (pa_cons (pv 10) pa_nil)) (nomark _)))))
      (pss_one (ps_set (i := 20) sc_law.nd rfl (.inl rfl) (pe_ix ix_list (pv 10) (pe_op op_add (pv 11) (pe_op op_mod (pe_callTy call_intI (by rfl) T.z_int (by decide +kernel) (pa_cons (pe_op op_sub (pv 19) (pv 11)) pa_nil)) (pe_op op_sub (pe_callB call_lenL (by rfl) T.z_len (by decide +kernel) (pa_cons (pv 10) pa_nil)) (pv 11)))) (fun _ _ => rfl))))
      (pss_cons (ps_set (i := 19) sc_law.nd rfl (.inl rfl) (pe_op op_mod (pv 19) (pe_callB call_lenL (by rfl) T.z_len (by decide +kernel) (pa_cons (pv 10) pa_nil))))
      (pss_one (ps_set (i := 20) sc_law.nd rfl (.inl rfl) (pe_ix ix_list (pv 10) (pv 19) (fun _ _ => rfl)))))))
      (pss_cons (ps_set (i := 14) sc_law.nd rfl (.inl rfl) (pe_call (ok_ring_grown T) (hr.mono (by decide)) (by rfl) T.g_ring_grown T.F_ring_grown.kp T.b_ring_grown .nil pass0 (pa_cons (pv 9) (pa_cons (pv 3) (pa_cons (pv 5) (pa_cons (pv 6) (pa_cons (pv 19) pa_nil)))))))
      (pss_one (ps_if (PW.pt (pw_or (pt_not (pt_val (pe_call (ok_law_cells T) (hr.mono (by decide)) (by rfl) T.g_law_cells T.F_law_cells.kp T.b_law_cells .nil pass0 (pa_cons (pv 14) pa_nil)))) (pw_or1 (pt_cmpR (op_neD hr.units) (pv 14) (pv 20) (nomark _)))))
      (pss_one (ps_ret pe_bl))
      pss_nil))))))
      (pss_one (ps_ret (pe_cmpR (op_eqD hr.units) (pv 9) (pv 8) (nomark _))))))))))))))))))))))), ?_⟩
    k_upd
    refine ⟨_, rfl, a, ns, 0, rfl, hS, ?_⟩
    generalize cellOf ns 0 = z0
    refine ⟨z0, rfl, fun H1 p1 pb pss bs ss e1 g1 gb gs' good1 good0 => ?_⟩
    refine ⟨p1, _, rfl, tup_of g1, rfl, _, _, rfl, _, _, rfl, rfl, ?_⟩
    k_upd
    refine ⟨_, rfl, _, rfl, ?_⟩
    intro r dx nx nd nex
    refine ⟨H1, r, pb, pss, dx, bs, ss, rfl, madeS nx nd, nx, upd_same, lst_of gb, lst_of gs', by have := good1.2.2; omega, by have := good0.2.2; omega, fun H2 bs' ss' e2 ra c1 c2 => ⟨rfl, ?_⟩⟩
    have eb : bs' = bs := canon_eq c1 good1.1 fun _ => Iff.rfl
    have es : ss' = ss := canon_eq c2 good0.1 fun _ => Iff.rfl
    subst eb es
    have hb := good1.2.1
    have hss := good0.2.1
    k_upd
    refine ⟨_, rfl, a, ns, 1, rfl, (e1.trans e2).seq hS, ?_⟩
    generalize cellOf ns 1 = first
    k_upd
    have q1 := Int.emod_nonneg first (show (6 : Int) ≠ 0 by decide)
    have q2 := Int.emod_lt_of_pos first (show (0 : Int) < 6 by decide)
    obtain ⟨h, eh⟩ := Int.eq_ofNat_of_zero_le (show 0 ≤ 1 + first % 6 by omega)
    refine ⟨_, rfl, _, _, rfl, rfl, (by k_offL), _, _, rfl, rfl, ?_⟩
    dsimp only
    rw [eh]
    k_upd
    have q3 := Int.emod_nonneg (first / 6) (show (6 : Int) ≠ 0 by decide)
    have q4 := Int.emod_lt_of_pos (first / 6) (show (0 : Int) < 6 by decide)
    obtain ⟨w, ew⟩ := Int.eq_ofNat_of_zero_le (show 0 ≤ 1 + first / 6 % 6 by omega)
    refine ⟨_, rfl, _, _, rfl, rfl, (by k_offL), _, _, rfl, rfl, (by k_offL), _, _, rfl, rfl, ?_⟩
    dsimp only
    rw [ew]
    k_upd
    have h0 : 0 < h := by omega
    have w0 : 0 < w := by omega
    have h6 : h ≤ 6 := by omega
    have w6 : w ≤ 6 := by omega
    have q5 := Int.emod_nonneg (first / 36) (show (20 : Int) ≠ 0 by decide)
    have q6 := Int.emod_lt_of_pos (first / 36) (show (0 : Int) < 20 by decide)
    refine ⟨_, rfl, a, ns, 2, rfl, (e1.trans e2).seq hS, _, rfl, _, _, rfl, rfl, (by k_offL), _, _, rfl, rfl, (by k_offL), _, rfl, _, rfl, ?_⟩
    refine ⟨_, _, _, _, rfl, q5, by omega, by omega, by omega, by omega, by omega, fun H3 pc ps n3 e3 hC pw lps box => ?_⟩
    k_upd
    have lc : ps.length ≤ 19 := by omega
    obtain ⟨ts, hts, htt, eps⟩ := id hC
    have lts : ts.length ≤ 19 := by
      rw [← eps, List.length_map] at lc
      exact lc
    refine ⟨_, rfl, _, rfl, _, rfl, _, _, rfl, lst_of hts, fun p4 n4 => ?_⟩
    rw [cutV_map]
    k_invariant "new" (n4, H4, e4, g4)
    refine ⟨pc, p4, _, _, rfl, rfl, e4 _ _ hts, g4, ?_, fun p5 n5 => ?_⟩
    · have := cutT_len ts none (some 2)
      rw [List.length_map, List.length_map, sizeLine_eq]
      omega
    k_invariant "new" (n5, H5, e5, g5)
    refine ⟨p5, _, rfl, lst_of g5, fun p6 n6 => ?_⟩
    k_invariant "new" (n6, H6, e6, g6)
    k_upd
    refine ⟨_, rfl, p6, _, rfl, lst_of g6, fun p7 n7 => ?_⟩
    k_invariant "new" (n7, H7, e7, g7)
    k_upd
    have hg : ∃ gs : List Pr, Cells H6 p6 gs ∧ Cells H7 p7 gs ∧ ∀ x, x ∈ gs ↔ x ∈ ps := by
      have us : ∀ t ∈ (ts ++ cutT ts none (some 2)).reverse, t ∈ ts := fun t m => by
        rcases List.mem_append.mp (List.mem_reverse.mp m) with m | m
        · exact m
        · exact cutT_mem m
      have tt6 : ∀ t ∈ (ts ++ cutT ts none (some 2)).reverse, H6 t.1 = some (.tup [.int t.2.1, .int t.2.2]) := fun t m => e6 _ _ (e5 _ _ (e4 _ _ (htt t (us t m))))
      refine ⟨((ts ++ cutT ts none (some 2)).reverse).map (·.2), cells_mk _ ?_ tt6, cells_mk _ ?_ fun t m => e7 _ _ (tt6 t m), fun x => ?_⟩
      · rw [g6, List.map_reverse, List.map_append]
      · rw [g7, List.map_reverse, List.map_append]
      · rw [← eps, List.mem_map, List.mem_map]
        exact ⟨fun ⟨t, m, e⟩ => ⟨t, us t m, e⟩, fun ⟨t, m, e⟩ => ⟨t, List.mem_reverse.mpr (List.mem_append.mpr (.inl m)), e⟩⟩
    obtain ⟨gs, hH, hG, memg⟩ := hg
    have s37 : Same H3 H7 := e4.trans (e5.trans (e6.trans e7))
    have hH7 := hH.up e7
    have hC7 := hC.up s37
    have s27 : Same H2 H7 := e3.trans s37
    have hR7 := ra.up s27
    have gb7 := s27 _ _ (e2 _ _ gb)
    have gs7 := s27 _ _ (e2 _ _ gs')
    have hS7 := ((e1.trans e2).trans s27).seq hS
    clear hC hH g1 gb gs' hts htt n4 g4 n5 g5 n6 g6 n7 g7 e4 e5 e6 e7 ra hS e3 s37 s27 e1 e2 c1 c2
    -- the pattern as a number
    obtain ⟨b0, hB, hBg⟩ : ∃ b0, BitsOf h w b0 ps ∧ BitsOf h w b0 gs := by
      have mk : ∀ l : List Pr, ∃ B, BitsOf h w B l := fun l => by
        induction l with
        | nil => exact ⟨0, fun j => by simp⟩
        | cons x l ih =>
          obtain ⟨B, hB⟩ := ih
          refine ⟨B ||| 2 ^ posR h w x, fun j => ?_⟩
          rw [Nat.testBit_or, Nat.testBit_two_pow, Bool.or_eq_true, hB j, decide_eq_true_iff]
          constructor
          · rintro (⟨y, m, e⟩ | e)
            · exact ⟨y, List.mem_cons_of_mem _ m, e⟩
            · exact ⟨x, List.mem_cons_self, e⟩
          · rintro ⟨y, m, e⟩
            rcases List.mem_cons.mp m with m | m
            · rw [m] at e
              exact .inr e
            · exact .inl ⟨y, m, e⟩
      obtain ⟨B, hB⟩ := mk ps
      exact ⟨B, hB, fun j => (hB j).trans ⟨fun ⟨x, m, e⟩ => ⟨x, (memg x).mpr m, e⟩, fun ⟨x, m, e⟩ => ⟨x, (memg x).mp m, e⟩⟩⟩
    have eC := hB.cells w0 pw box
    have fb := hB.fit h0 w0
    have fit := it_fit hb hss h0 w0 fb
    obtain ⟨it, eit⟩ : ∃ it, it = itR (afterN h w bs' ss') b0 := ⟨_, rfl⟩
    have it0 : it 0 = b0 := by rw [eit]; rfl
    have its : ∀ k, afterN h w bs' ss' (it k) = it (k + 1) := fun k => by rw [eit]; rfl
    rw [← eit] at fit
    rw [← eC, ← it0] at hC7
    clear hB eC pw box lps lc lts eps n3
    -- history
    refine ⟨_, rfl, by k_clsL, fun hl nhl => ?_⟩
    have nhl0 := nhl
    k_invariant "new" (nhl, H8, e8, g8)
    k_upd
    have hL8 : CellsL H8 hl (clL h w it 1) := CellsL.one g8 (hC7.up e8)
    clear g8
    refine ⟨_, rfl, by decide, by decide, for_range (lo := 0) (n := 40) (fun i σ H' => Same H7 H' ∧ ∃ (sv : V) (L : Nat) (x12 x13 : Option V), σ = [some (.ref a), some (.ref pb), some (.ref pss), some (.ref r), some (.int first), some (.int (h : Int)), some (.int (w : Int)), some (.ref pc), some (.ref p6), some (.ref p7), some (.ref hl), some sv, x12, x13, none, none, none, none, none, none, none] ∧ CellsL H' hl (clL h w it L) ∧ StOk it sv L i) ?_ ?_ ?_⟩
    · exact ⟨e8, .non, 1, _, _, rfl, hL8, .inl ⟨rfl, rfl, Dist.one it⟩⟩
    · rintro i σ H9 hi ⟨sm, sv, L, x12, x13, rfl, hL, hst⟩
      rw [Int.zero_add]
      rcases hst with ⟨rfl, rfl, hD⟩ | ⟨s', rfl, hRp, hLi⟩
      · refine ⟨_, rfl, rfl, _, rfl, ?_⟩
        rw [non_non]
        refine iteT ?_
        obtain ⟨xs, ca, hxs, hxi, hca⟩ := hL.at (clL_at (show i < i + 1 by omega))
        refine ⟨_, rfl, _, rfl, hl, _, _, _, rfl, rfl, lst_of hxs, atI_nat hxi, _, rfl, _, rfl, _, rfl, _, rfl, ?_⟩
        refine ⟨ca, pb, pss, h, w, it i, bs', ss', rfl, h0, w0, by omega, by omega, fit i, hb, hss, hca, sm _ _ gb7, sm _ _ gs7, fun Ha pn nn ea hn => ?_⟩
        rw [its i] at hn
        k_upd
        have hLa := hL.up ea
        refine ⟨_, rfl, _, rfl, pn, hl, _, _, rfl, rfl, hn, hLa, _, rfl, ?_⟩
        by_cases c : ∃ k, k < i + 1 ∧ it k = it (i + 1)
        · rw [decide_eq_true ((clL_mem w0 fit).mpr c)]
          refine iteT ?_
          obtain ⟨k, hk, ek⟩ := c
          obtain ⟨xs', hxs', _⟩ := hLa.lst
          refine ⟨_, rfl, .inl ⟨rfl, _, lst_of hxs'⟩, _, rfl, hl, pn, _, _, rfl, rfl, hn, hLa, k, by rw [clL_at hk, ek], ?_, ?_⟩
          · intro m p' hm hp' e
            obtain ⟨hm2, rfl⟩ := clL_get hp'
            have := cellsW_inj w0 (fit m) (fit (i + 1)) e
            exact hD m k hm hk (this.trans ek.symm)
          · exact ⟨sm.trans ea, _, i + 1, _, _, rfl, hLa, .inr ⟨k, rfl, ⟨hk, ek.symm, hD⟩, Nat.le_refl _⟩⟩
        · rw [decide_eq_false (fun z => c ((clL_mem w0 fit).mp z))]
          refine iteF ?_
          obtain ⟨xs', hxs', lxs'⟩ := hLa.lst
          refine ⟨_, rfl, .inl ⟨rfl, _, lst_of hxs'⟩, _, rfl, _, _, _, rfl, rfl, hxs', by rw [lxs', clL_len, sizeLine_eq]; omega, ?_⟩
          have npn : pn ≠ hl := fun e => by
            rw [e, hxs] at nn
            cases nn
          refine ⟨mutS (sm.trans ea) nhl0, .non, i + 1 + 1, _, _, rfl, ?_, .inl ⟨rfl, rfl, hD.next fun k hk e => c ⟨k, hk, e⟩⟩⟩
          rw [clL_next]
          exact hLa.add hxs' hn npn
      · refine ⟨_, rfl, rfl, _, rfl, ?_⟩
        rw [int_non]
        refine iteF ?_
        exact ⟨sm, _, L, _, _, rfl, hL, .inr ⟨s', rfl, hRp, by omega⟩⟩
    · rintro σ H9 ⟨s79, sv, L, x12, x13, rfl, hL9, hst⟩
      have L41 : L ≤ 41 := by
        rcases hst with ⟨_, e, _⟩ | ⟨_, _, _, e⟩ <;> omega
      have hR9 := hR7.up s79
      have hG9 := hG.up s79
      have hH9 := hH7.up s79
      have hC9 := hC7.up s79
      have gb9 := s79 _ _ gb7
      have gs9 := s79 _ _ gs7
      have hS9 := s79.seq hS7
      clear hR7 hG hH7 hC7 gb7 gs7 hS7 s79 e8 hL8
      -- the next generation
      refine ⟨_, rfl, _, rfl, _, rfl, _, rfl, p7, r, h, w, b0, gs, bs', ss', rfl, h0, w0, by omega, by omega, hR9, hb, hss, hG9, hBg, fun Ha pt nt ea ht => ?_⟩
      rw [← it0, its 0] at ht
      k_upd
      refine ⟨_, rfl, pt, _, rfl, ht, cellsW_asc _ _ _, fun Hb eb' => ⟨_, rfl, iteF ?_⟩⟩
      have s9b : Same H9 Hb := ea.trans eb'
      refine ⟨_, rfl, _, rfl, _, rfl, _, rfl, _, rfl, _, rfl, pc, pb, pss, h, w, it 0, bs', ss', rfl, h0, w0, by omega, by omega, fit 0, hb, hss, hC9.up s9b, s9b _ _ gb9, s9b _ _ gs9, fun Hc pd' nd' ec hd' => ?_⟩
      rw [its 0] at hd'
      refine ⟨_, _, dp_cells (ht.up (eb'.trans ec)), dp_cells hd', shaped_cells _, shaped_cells _, _, ne_cells rfl, iteF ?_⟩
      have s9c : Same H9 Hc := s9b.trans ec
      refine ⟨_, rfl, _, rfl, _, _, dp_cells (hG9.up s9c), dp_cells (hH9.up s9c), shaped_cells _, shaped_cells _, _, ne_cells rfl, iteF ?_⟩
      have hRc := hR9.up s9c
      have hGc := hG9.up s9c
      have hHc := hH9.up s9c
      have hSc := s9c.seq hS9
      have hLc := hL9.up s9c
      clear hR9 hG9 hH9 hC9 gb9 gs9 hS9 hL9 s9c s9b ea eb' ec ht hd' nt nd'
      -- the bound
      have q7 := Int.emod_nonneg (first / 720) (show (40 : Int) ≠ 0 by decide)
      have q8 := Int.emod_lt_of_pos (first / 720) (show (0 : Int) < 40 by decide)
      obtain ⟨bd, ebd⟩ := Int.eq_ofNat_of_zero_le (show 0 ≤ 1 + first / 720 % 40 by omega)
      refine ⟨_, rfl, _, _, rfl, rfl, (by k_offL), _, _, rfl, rfl, (by k_offL), _, _, rfl, rfl, ?_⟩
      dsimp only
      rw [ebd]
      k_upd
      refine ⟨fun σ H' => ∃ dv : V, Same Hc H' ∧ DueOk it bd H' dv ∧ σ = [some (.ref a), some (.ref pb), some (.ref pss), some (.ref r), some (.int first), some (.int (h : Int)), some (.int (w : Int)), some (.ref pc), some (.ref p6), some (.ref p7), some (.ref hl), some sv, x12, x13, some (.ref pt), some (.int (bd : Int)), some dv, none, none, none, none], ?_, ?_⟩
      · obtain ⟨xs, hxs, lxs⟩ := hLc.lst
        rcases id hst with ⟨rfl, rfl, hD⟩ | ⟨s', rfl, hRp, hLi⟩
        · refine ⟨_, rfl, rfl, _, rfl, ?_⟩
          rw [non_non]
          refine iteF ?_
          exact ⟨.non, fun _ _ e => e, .inl ⟨rfl, hD.less (by omega)⟩, rfl⟩
        · refine ⟨_, rfl, rfl, _, rfl, ?_⟩
          rw [int_non]
          refine iteT ?_
          refine ⟨_, rfl, _, _, rfl, lst_of hxs, _, rfl, _, _, rfl, rfl, _, rfl, ?_⟩
          rw [lxs, clL_len]
          by_cases c : L ≤ bd
          · rw [decide_eq_true (show (L : Int) ≤ (bd : Int) by omega)]
            refine iteT ?_
            refine ⟨_, rfl, _, rfl, _, _, rfl, lst_of hxs, _, rfl, _, _, rfl, rfl, by k_clsL, fun pu nu => ?_⟩
            rw [lxs, clL_len]
            exact ⟨.ref pu, newS nu, .inr ⟨L, s', pu, rfl, upd_same, hRp, c⟩, rfl⟩
          · rw [decide_eq_false (show ¬ (L : Int) ≤ (bd : Int) by omega)]
            refine iteF ?_
            exact ⟨.non, fun _ _ e => e, .inl ⟨rfl, hRp.ds.less (by omega)⟩, rfl⟩
      rintro σ Hd ⟨dv, scd, hdue, rfl⟩
      refine ⟨_, rfl, _, rfl, _, rfl, _, rfl, _, rfl, p7, r, h, w, bd, b0, gs, bs', ss', rfl, h0, w0, by omega, by omega, hRc.up scd, hb, hss, hGc.up scd, hBg, by omega, fun He fv sde hf => ?_⟩
      rw [← eit] at hf
      k_upd
      refine ⟨fun σ H' => H' = He ∧ σ = [some (.ref a), some (.ref pb), some (.ref pss), some (.ref r), some (.int first), some (.int (h : Int)), some (.int (w : Int)), some (.ref pc), some (.ref p6), some (.ref p7), some (.ref hl), some sv, x12, x13, some (.ref pt), some (.int (bd : Int)), some dv, some fv, none, none, none], ?_, ?_⟩
      · rcases hdue.uniq hf with ⟨rfl, rfl⟩ | ⟨L', s', pp, pq, rfl, rfl, hp, hq⟩
        · refine ⟨_, rfl, _, rfl, .none, .none, .non, .non, shaped_non, shaped_non, ?_⟩
          refine ⟨_, rfl, iteF ?_⟩
          refine ⟨_, rfl, rfl, _, rfl, ?_⟩
          rw [non_non]
          refine iteF ?_
          exact ⟨rfl, rfl⟩
        · refine ⟨_, rfl, _, rfl, _, _, dp_two hq, dp_two (sde _ _ hp), shaped_pd _, shaped_pd _, ?_⟩
          rw [eqv_pd, decide_eq_true rfl]
          refine ⟨_, rfl, iteF ?_⟩
          refine ⟨_, rfl, rfl, _, rfl, ?_⟩
          rw [ref_non]
          refine iteT ?_
          refine ⟨_, rfl, _, _, _, _, _, rfl, .ty _, .base (.tup hq), rfl, ?_⟩
          refine ⟨_, rfl, iteF ?_⟩
          exact ⟨rfl, rfl⟩
      rintro σ H10 ⟨rfl, rfl⟩
      have scx : Same Hc H10 := scd.trans sde
      have hRx := hRc.up scx
      have hGx := hGc.up scx
      have hHx := hHc.up scx
      have hSx := scx.seq hSc
      have hLx := hLc.up scx
      clear hRc hGc hHc hSc hLc scx scd sde hf hdue
      refine ⟨_, rfl, _, rfl, _, rfl, _, _, rfl, hSx, fun psl nsl => ?_⟩
      rw [cutV_map]
      k_invariant "new" (nsl, H11, e11, g11)
      refine ⟨psl, rfl, ⟨_, lst_of g11⟩, for_list (K := K) (a := psl) (xs := (cutT ns (some 3) (some 6)).map V.int) (fun i σ H' => Same H11 H' ∧ ∃ x14 x18 x19 x20 : Option V, σ = [some (.ref a), some (.ref pb), some (.ref pss), some (.ref r), some (.int first), some (.int (h : Int)), some (.int (w : Int)), some (.ref pc), some (.ref p6), some (.ref p7), some (.ref hl), some sv, x12, x13, x14, some (.int (bd : Int)), some dv, some fv, x18, x19, x20])
        ⟨fun _ _ e => e, _, _, _, _, rfl⟩ (fun i σ H' _ p => lst_of (p.1 _ _ g11)) ?_ ?_⟩
      · rintro i x σ H12 hi ⟨sm, x14, x18, x19, x20, rfl⟩
        obtain ⟨z, rfl, _, _⟩ := item_ints hi
        have z1 := Int.emod_nonneg z (show (3 : Int) ≠ 0 by decide)
        have z2 := Int.emod_lt_of_pos z (show (0 : Int) < 3 by decide)
        k_upd
        refine ⟨_, rfl, _, rfl, _, rfl, _, _, rfl, rfl, (by k_offL), by k_clsL, fun pm nm => ?_⟩
        k_invariant "new" (nm, H13, e13, g13)
        obtain ⟨M, hM, M0, M1⟩ : ∃ M : Int, atI [V.int 41, .int 2000, .int 1099511627777] (z % 3) = some (.int M) ∧ 0 < M ∧ M ≤ 1099511627777 := by
          have c : z % 3 = 0 ∨ z % 3 = 1 ∨ z % 3 = 2 := by omega
          rcases c with c | c | c <;> rw [c]
          · exact ⟨41, rfl, by decide, by decide⟩
          · exact ⟨2000, rfl, by decide, by decide⟩
          · exact ⟨1099511627777, rfl, by decide, by decide⟩
        refine ⟨_, rfl, _, rfl, _, _, rfl, rfl, (by k_offL), pm, _, _, _, rfl, rfl, lst_of g13, hM, _, _, rfl, rfl, M0, ?_⟩
        have g0 := Int.emod_nonneg ((if z < 0 then -z else z) / 3) (show M ≠ 0 by omega)
        have g1 := Int.emod_lt_of_pos ((if z < 0 then -z else z) / 3) M0
        obtain ⟨gn, egn⟩ := Int.eq_ofNat_of_zero_le g0
        dsimp only
        rw [egn]
        rw [egn] at g1
        k_upd
        have sx : Same H10 H13 := e11.trans (sm.trans e13)
        obtain ⟨xs, hxs, lxs⟩ := (hLx.up sx).lst
        refine ⟨fun σ H' => ∃ (gm m : Nat) (pe : Addr), Same H13 H' ∧ σ = [some (.ref a), some (.ref pb), some (.ref pss), some (.ref r), some (.int first), some (.int (h : Int)), some (.int (w : Int)), some (.ref pc), some (.ref p6), some (.ref p7), some (.ref hl), some sv, x12, x13, x14, some (.int (bd : Int)), some dv, some fv, some (.int z), some (.int (gm : Int)), some (.ref pe)] ∧
          Cells H' pe (cellsW h w (it m)) ∧ gm < 2 ^ 61 ∧ (∀ k, k ≤ gm → Dist it (k + 1) → k ≤ 5000) ∧ ∀ m', Pick it gm m' → m' = m, ?_, ?_⟩
        · rcases id hst with ⟨rfl, rfl, hD⟩ | ⟨s', rfl, hRp, hLi⟩
          · refine ⟨_, rfl, rfl, _, rfl, ?_⟩
            rw [non_non]
            refine iteF ?_
            refine ⟨_, rfl, _, rfl, _, _, rfl, lst_of hxs, _, _, rfl, rfl, by rw [lxs, clL_len]; omega, ?_⟩
            rw [lxs, clL_len]
            have lm : gn % (40 + 1) < 40 + 1 := Nat.mod_lt _ (by decide)
            have em : (gn : Int) % ((40 + 1 : Nat) : Int) = ((gn % (40 + 1) : Nat) : Int) := (Int.natCast_emod _ _).symm
            dsimp only
            rw [em]
            generalize gn % (40 + 1) = gm at lm
            unfold gName
            k_upd
            obtain ⟨xs, ca, hxs, hxi, hca⟩ := (hLx.up sx).at (clL_at lm)
            refine ⟨_, rfl, _, rfl, hl, _, _, _, rfl, rfl, lst_of hxs, atI_nat hxi, ?_⟩
            refine ⟨gm, gm, ca, fun _ _ e => e, rfl, hca, by omega, fun k hk _ => by omega, fun m' pk => ?_⟩
            rcases pk with ⟨e, _⟩ | ⟨L', s'', rq, lq, _⟩
            · exact e
            · have := rq.no hD
              omega
          · refine ⟨_, rfl, rfl, _, rfl, ?_⟩
            rw [int_non]
            refine iteT ?_
            refine ⟨_, rfl, _, rfl, _, _, rfl, lst_of hxs, _, _, rfl, rfl, _, rfl, ?_⟩
            rw [lxs, clL_len]
            have lt := hRp.lt
            by_cases c : L ≤ gn
            · rw [decide_eq_true (show (L : Int) ≤ (gn : Int) by omega)]
              refine iteT ?_
              have lm : s' + (gn - s') % (L - s') < L := by
                have := Nat.mod_lt (gn - s') (show 0 < L - s' by omega)
                omega
              have em : (s' : Int) + ((gn : Int) - (s' : Int)) % ((L : Int) - (s' : Int)) = ((s' + (gn - s') % (L - s') : Nat) : Int) := by
                rw [Int.natCast_add, Int.natCast_emod, Int.natCast_sub (by omega), Int.natCast_sub (by omega)]
              obtain ⟨xs', ca, hxs', hxi, hca⟩ := (hLx.up sx).at (clL_at lm)
              refine ⟨_, rfl, _, rfl, _, rfl, _, rfl, _, _, rfl, rfl, _, rfl, _, rfl, _, _, rfl, lst_of hxs, _, rfl, _, _, rfl, rfl, _, _, rfl, rfl, ?_, _, _, rfl, rfl, hl, _, _, .ref ca, rfl, rfl, lst_of hxs', ?_, ?_⟩
              · rw [lxs, clL_len]
                omega
              · rw [lxs, clL_len]
                rw [em]
                exact atI_nat hxi
              refine ⟨gn, _, ca, fun _ _ e => e, rfl, hca, by omega, fun k hk d => ?_, fun m' pk => ?_⟩
              · have := hRp.no d
                omega
              · rcases pk with ⟨_, d⟩ | ⟨L', s'', rq, lq, e⟩
                · have := hRp.no d
                  omega
                · obtain ⟨rfl, rfl⟩ := hRp.uniq rq
                  exact e
            · rw [decide_eq_false (show ¬ (L : Int) ≤ (gn : Int) by omega)]
              refine iteF ?_
              refine ⟨_, rfl, _, rfl, _, _, rfl, lst_of hxs, _, _, rfl, rfl, by rw [lxs, clL_len]; omega, ?_⟩
              rw [lxs, clL_len]
              dsimp only
              rw [Int.emod_eq_of_lt (show 0 ≤ (gn : Int) by omega) (show (gn : Int) < (L : Int) by omega)]
              unfold gName
              k_upd
              obtain ⟨xs, ca, hxs, hxi, hca⟩ := (hLx.up sx).at (clL_at (show gn < L by omega))
              refine ⟨_, rfl, _, rfl, hl, _, _, _, rfl, rfl, lst_of hxs, atI_nat hxi, ?_⟩
              refine ⟨gn, gn, ca, fun _ _ e => e, rfl, hca, by omega, fun k hk _ => by omega, fun m' pk => ?_⟩
              rcases pk with ⟨e, _⟩ | ⟨L', s'', rq, lq, _⟩
              · exact e
              · have := (hRp.uniq rq).1
                omega
        rintro σ H14 ⟨gm, m, pe, e14, rfl, hpe, g61, cap, pick⟩
        have s14 : Same H10 H14 := sx.trans e14
        refine ⟨_, rfl, _, rfl, _, rfl, _, rfl, _, rfl, p7, r, h, w, gm, b0, gs, bs', ss', rfl, h0, w0, by omega, by omega, hRx.up s14, hb, hss, hGx.up s14, hBg, g61, ?_, fun H15 pn m' nn e15 pk hn => ?_⟩
        · rw [← eit]
          exact cap
        rw [← eit] at pk hn
        rw [pick m' pk] at hn
        k_upd
        refine ⟨_, rfl, pn, _, rfl, hn, cellsW_asc _ _ _, fun H16 e16 => ⟨_, rfl, iteF ?_⟩⟩
        refine ⟨_, rfl, _, rfl, _, _, dp_cells (hn.up e16), dp_cells (hpe.up (e15.trans e16)), shaped_cells _, shaped_cells _, _, ne_cells rfl, iteF ?_⟩
        exact ⟨sm.trans (e13.trans (e14.trans (e15.trans e16))), _, _, _, _, rfl⟩
      · rintro σ H12 ⟨sm, x14, x18, x19, x20, rfl⟩
        have s12 : Same H10 H12 := e11.trans sm
        refine ⟨_, rfl, _, rfl, _, _, dp_cells (hGx.up s12), dp_cells (hHx.up s12), shaped_cells _, shaped_cells _, ?_⟩
        rw [eqv_cells, decide_eq_true rfl]
        exact q _
end
end My
namespace My
open PySem PySem.Spec PyProof.Rows L2 Vx
theorem all_mk {l : PySem.W.OpenLaw} {w : World} {K : PySem.W.Frag} {h : Heap} {mg : Str → Option Value} {fa : Addr} (X : K.In h) (G : h.Ns mainGlobals mg) (hfa : mg "law" = some (.ref fa))
    {C_Ring : Addr}
    {C_Rule : Addr}
    {f_sums_of : Addr} {odsums_of ansums_of : Option Addr} {slsums_of : Array (Option Value)} {ocsums_of kVsums_of dcsums_of pmsums_of cdsums_of ctsums_of : Value}
    {f_totals_of : Addr} {odtotals_of antotals_of : Option Addr} {sltotals_of : Array (Option Value)} {octotals_of kVtotals_of dctotals_of pmtotals_of cdtotals_of cttotals_of : Value}
    {f_next_strip : Addr} {odnext_strip annext_strip : Option Addr} {slnext_strip : Array (Option Value)} {ocnext_strip kVnext_strip dcnext_strip pmnext_strip cdnext_strip ctnext_strip : Value}
    {f_Ring_init : Addr} {odRing_init anRing_init : Option Addr} {slRing_init : Array (Option Value)} {ocRing_init kVRing_init dcRing_init pmRing_init cdRing_init ctRing_init : Value}
    {f_Ring_bits : Addr} {odRing_bits anRing_bits : Option Addr} {slRing_bits : Array (Option Value)} {ocRing_bits kVRing_bits dcRing_bits pmRing_bits cdRing_bits ctRing_bits : Value}
    {f_Ring_cells : Addr} {odRing_cells anRing_cells : Option Addr} {slRing_cells : Array (Option Value)} {ocRing_cells kVRing_cells dcRing_cells pmRing_cells cdRing_cells ctRing_cells : Value}
    {f_Ring_after : Addr} {odRing_after anRing_after : Option Addr} {slRing_after : Array (Option Value)} {ocRing_after kVRing_after dcRing_after pmRing_after cdRing_after ctRing_after : Value}
    {f_Ring_from_left : Addr} {odRing_from_left anRing_from_left : Option Addr} {slRing_from_left : Array (Option Value)} {ocRing_from_left kVRing_from_left dcRing_from_left pmRing_from_left cdRing_from_left ctRing_from_left : Value}
    {f_Ring_from_right : Addr} {odRing_from_right anRing_from_right : Option Addr} {slRing_from_right : Array (Option Value)} {ocRing_from_right kVRing_from_right dcRing_from_right pmRing_from_right cdRing_from_right ctRing_from_right : Value}
    {f_Ring_from_above : Addr} {odRing_from_above anRing_from_above : Option Addr} {slRing_from_above : Array (Option Value)} {ocRing_from_above kVRing_from_above dcRing_from_above pmRing_from_above cdRing_from_above ctRing_from_above : Value}
    {f_Ring_from_below : Addr} {odRing_from_below anRing_from_below : Option Addr} {slRing_from_below : Array (Option Value)} {ocRing_from_below kVRing_from_below dcRing_from_below pmRing_from_below cdRing_from_below ctRing_from_below : Value}
    {f_Ring_history : Addr} {odRing_history anRing_history : Option Addr} {slRing_history : Array (Option Value)} {ocRing_history kVRing_history dcRing_history pmRing_history cdRing_history ctRing_history : Value}
    {f_ring_next : Addr} {odring_next anring_next : Option Addr} {slring_next : Array (Option Value)} {ocring_next kVring_next dcring_next pmring_next cdring_next ctring_next : Value}
    {f_ring_grown : Addr} {odring_grown anring_grown : Option Addr} {slring_grown : Array (Option Value)} {ocring_grown kVring_grown dcring_grown pmring_grown cdring_grown ctring_grown : Value}
    {f_ring_fate : Addr} {odring_fate anring_fate : Option Addr} {slring_fate : Array (Option Value)} {ocring_fate kVring_fate dcring_fate pmring_fate cdring_fate ctring_fate : Value}
    {f_Rule_init : Addr} {odRule_init anRule_init : Option Addr} {slRule_init : Array (Option Value)} {ocRule_init kVRule_init dcRule_init pmRule_init cdRule_init ctRule_init : Value}
    {f_law_cell : Addr} {odlaw_cell anlaw_cell : Option Addr} {sllaw_cell : Array (Option Value)} {oclaw_cell kVlaw_cell dclaw_cell pmlaw_cell cdlaw_cell ctlaw_cell : Value}
    {f_law_row : Addr} {odlaw_row anlaw_row : Option Addr} {sllaw_row : Array (Option Value)} {oclaw_row kVlaw_row dclaw_row pmlaw_row cdlaw_row ctlaw_row : Value}
    {f_law_integer : Addr} {odlaw_integer anlaw_integer : Option Addr} {sllaw_integer : Array (Option Value)} {oclaw_integer kVlaw_integer dclaw_integer pmlaw_integer cdlaw_integer ctlaw_integer : Value}
    {f_law_cells : Addr} {odlaw_cells anlaw_cells : Option Addr} {sllaw_cells : Array (Option Value)} {oclaw_cells kVlaw_cells dclaw_cells pmlaw_cells cdlaw_cells ctlaw_cells : Value}
    {f_law_numbers : Addr} {odlaw_numbers anlaw_numbers : Option Addr} {sllaw_numbers : Array (Option Value)} {oclaw_numbers kVlaw_numbers dclaw_numbers pmlaw_numbers cdlaw_numbers ctlaw_numbers : Value}
    {f_law_some : Addr} {odlaw_some anlaw_some : Option Addr} {sllaw_some : Array (Option Value)} {oclaw_some kVlaw_some dclaw_some pmlaw_some cdlaw_some ctlaw_some : Value}
    {f_law_ring : Addr} {odlaw_ring anlaw_ring : Option Addr} {sllaw_ring : Array (Option Value)} {oclaw_ring kVlaw_ring dclaw_ring pmlaw_ring cdlaw_ring ctlaw_ring : Value}
    {f_law : Addr} {odlaw anlaw : Option Addr} {sllaw : Array (Option Value)} {oclaw kVlaw dclaw pmlaw cdlaw ctlaw : Value}
    (aCRing : PySem.W.nsIn K mainGlobals "Ring" = some (some (.ref C_Ring)))
    (pgRing : PySem.W.plainGet K C_Ring Str.empty = true)
    (hdRing : PySem.W.hasDictIn K C_Ring = true)
    (poRing : PySem.W.plainOver K C_Ring = true)
    (saRing : PySem.W.findIn K (.ref C_Ring) "__setattr__" = some (some (.builtin "object.__setattr__")))
    (mkRing : PySem.W.makesIn K C_Ring = true)
    (kcRing : PySem.W.keepIn K (.ref C_Ring) = true)
    (nRing_rule : PySem.W.findIn K (.ref C_Ring) "_rule" = some none)
    (nRing_height : PySem.W.findIn K (.ref C_Ring) "_height" = some none)
    (nRing_width : PySem.W.findIn K (.ref C_Ring) "_width" = some none)
    (nRing_full : PySem.W.findIn K (.ref C_Ring) "_full" = some none)
    (nRing_first_column : PySem.W.findIn K (.ref C_Ring) "_first_column" = some none)
    (nRing_last_column : PySem.W.findIn K (.ref C_Ring) "_last_column" = some none)
    (aCRule : PySem.W.nsIn K mainGlobals "Rule" = some (some (.ref C_Rule)))
    (pgRule : PySem.W.plainGet K C_Rule Str.empty = true)
    (hdRule : PySem.W.hasDictIn K C_Rule = true)
    (poRule : PySem.W.plainOver K C_Rule = true)
    (saRule : PySem.W.findIn K (.ref C_Rule) "__setattr__" = some (some (.builtin "object.__setattr__")))
    (mkRule : PySem.W.makesIn K C_Rule = true)
    (kcRule : PySem.W.keepIn K (.ref C_Rule) = true)
    (nRulebirths : PySem.W.findIn K (.ref C_Rule) "births" = some none)
    (nRulesurvival : PySem.W.findIn K (.ref C_Rule) "survival" = some none)
    (asums_of : PySem.W.nsIn K mainGlobals "sums_of" = some (some (.ref f_sums_of)))
    (lsums_of : K.lookup f_sums_of = some ⟨ocsums_of, odsums_of, .func (PySem.W.fnOf "sums_of" "sums_of" (defArgs s_sums_of) (defBody s_sums_of) (defScope s_sums_of) .none kVsums_of dcsums_of pmsums_of ansums_of cdsums_of ctsums_of), slsums_of⟩)
    (csums_of : PySem.W.codeIn K cdsums_of "sums_of" = true)
    (ksums_of : PySem.W.keepIn K (.ref f_sums_of) = true)
    (atotals_of : PySem.W.nsIn K mainGlobals "totals_of" = some (some (.ref f_totals_of)))
    (ltotals_of : K.lookup f_totals_of = some ⟨octotals_of, odtotals_of, .func (PySem.W.fnOf "totals_of" "totals_of" (defArgs s_totals_of) (defBody s_totals_of) (defScope s_totals_of) .none kVtotals_of dctotals_of pmtotals_of antotals_of cdtotals_of cttotals_of), sltotals_of⟩)
    (ctotals_of : PySem.W.codeIn K cdtotals_of "totals_of" = true)
    (ktotals_of : PySem.W.keepIn K (.ref f_totals_of) = true)
    (anext_strip : PySem.W.nsIn K mainGlobals "next_strip" = some (some (.ref f_next_strip)))
    (lnext_strip : K.lookup f_next_strip = some ⟨ocnext_strip, odnext_strip, .func (PySem.W.fnOf "next_strip" "next_strip" (defArgs s_next_strip) (defBody s_next_strip) (defScope s_next_strip) .none kVnext_strip dcnext_strip pmnext_strip annext_strip cdnext_strip ctnext_strip), slnext_strip⟩)
    (cnext_strip : PySem.W.codeIn K cdnext_strip "next_strip" = true)
    (knext_strip : PySem.W.keepIn K (.ref f_next_strip) = true)
    (aRing_init : PySem.W.findIn K (.ref C_Ring) "__init__" = some (some (.ref f_Ring_init)))
    (iRing_init : PySem.W.isFn K (.ref f_Ring_init) = true)
    (lRing_init : K.lookup f_Ring_init = some ⟨ocRing_init, odRing_init, .func (PySem.W.fnOf "__init__" "Ring.__init__" (defArgs s_Ring_init) (defBody s_Ring_init) (defScope s_Ring_init) .none kVRing_init dcRing_init pmRing_init anRing_init cdRing_init ctRing_init), slRing_init⟩)
    (cRing_init : PySem.W.codeIn K cdRing_init "Ring.__init__" = true)
    (kRing_init : PySem.W.keepIn K (.ref f_Ring_init) = true)
    (aRing_bits : PySem.W.findIn K (.ref C_Ring) "bits" = some (some (.ref f_Ring_bits)))
    (iRing_bits : PySem.W.isFn K (.ref f_Ring_bits) = true)
    (lRing_bits : K.lookup f_Ring_bits = some ⟨ocRing_bits, odRing_bits, .func (PySem.W.fnOf "bits" "Ring.bits" (defArgs s_Ring_bits) (defBody s_Ring_bits) (defScope s_Ring_bits) .none kVRing_bits dcRing_bits pmRing_bits anRing_bits cdRing_bits ctRing_bits), slRing_bits⟩)
    (cRing_bits : PySem.W.codeIn K cdRing_bits "Ring.bits" = true)
    (kRing_bits : PySem.W.keepIn K (.ref f_Ring_bits) = true)
    (aRing_cells : PySem.W.findIn K (.ref C_Ring) "cells" = some (some (.ref f_Ring_cells)))
    (iRing_cells : PySem.W.isFn K (.ref f_Ring_cells) = true)
    (lRing_cells : K.lookup f_Ring_cells = some ⟨ocRing_cells, odRing_cells, .func (PySem.W.fnOf "cells" "Ring.cells" (defArgs s_Ring_cells) (defBody s_Ring_cells) (defScope s_Ring_cells) .none kVRing_cells dcRing_cells pmRing_cells anRing_cells cdRing_cells ctRing_cells), slRing_cells⟩)
    (cRing_cells : PySem.W.codeIn K cdRing_cells "Ring.cells" = true)
    (kRing_cells : PySem.W.keepIn K (.ref f_Ring_cells) = true)
    (aRing_after : PySem.W.findIn K (.ref C_Ring) "after" = some (some (.ref f_Ring_after)))
    (iRing_after : PySem.W.isFn K (.ref f_Ring_after) = true)
    (lRing_after : K.lookup f_Ring_after = some ⟨ocRing_after, odRing_after, .func (PySem.W.fnOf "after" "Ring.after" (defArgs s_Ring_after) (defBody s_Ring_after) (defScope s_Ring_after) .none kVRing_after dcRing_after pmRing_after anRing_after cdRing_after ctRing_after), slRing_after⟩)
    (cRing_after : PySem.W.codeIn K cdRing_after "Ring.after" = true)
    (kRing_after : PySem.W.keepIn K (.ref f_Ring_after) = true)
    (aRing_from_left : PySem.W.findIn K (.ref C_Ring) "_from_left" = some (some (.ref f_Ring_from_left)))
    (iRing_from_left : PySem.W.isFn K (.ref f_Ring_from_left) = true)
    (lRing_from_left : K.lookup f_Ring_from_left = some ⟨ocRing_from_left, odRing_from_left, .func (PySem.W.fnOf "_from_left" "Ring._from_left" (defArgs s_Ring_from_left) (defBody s_Ring_from_left) (defScope s_Ring_from_left) .none kVRing_from_left dcRing_from_left pmRing_from_left anRing_from_left cdRing_from_left ctRing_from_left), slRing_from_left⟩)
    (cRing_from_left : PySem.W.codeIn K cdRing_from_left "Ring._from_left" = true)
    (kRing_from_left : PySem.W.keepIn K (.ref f_Ring_from_left) = true)
    (aRing_from_right : PySem.W.findIn K (.ref C_Ring) "_from_right" = some (some (.ref f_Ring_from_right)))
    (iRing_from_right : PySem.W.isFn K (.ref f_Ring_from_right) = true)
    (lRing_from_right : K.lookup f_Ring_from_right = some ⟨ocRing_from_right, odRing_from_right, .func (PySem.W.fnOf "_from_right" "Ring._from_right" (defArgs s_Ring_from_right) (defBody s_Ring_from_right) (defScope s_Ring_from_right) .none kVRing_from_right dcRing_from_right pmRing_from_right anRing_from_right cdRing_from_right ctRing_from_right), slRing_from_right⟩)
    (cRing_from_right : PySem.W.codeIn K cdRing_from_right "Ring._from_right" = true)
    (kRing_from_right : PySem.W.keepIn K (.ref f_Ring_from_right) = true)
    (aRing_from_above : PySem.W.findIn K (.ref C_Ring) "_from_above" = some (some (.ref f_Ring_from_above)))
    (iRing_from_above : PySem.W.isFn K (.ref f_Ring_from_above) = true)
    (lRing_from_above : K.lookup f_Ring_from_above = some ⟨ocRing_from_above, odRing_from_above, .func (PySem.W.fnOf "_from_above" "Ring._from_above" (defArgs s_Ring_from_above) (defBody s_Ring_from_above) (defScope s_Ring_from_above) .none kVRing_from_above dcRing_from_above pmRing_from_above anRing_from_above cdRing_from_above ctRing_from_above), slRing_from_above⟩)
    (cRing_from_above : PySem.W.codeIn K cdRing_from_above "Ring._from_above" = true)
    (kRing_from_above : PySem.W.keepIn K (.ref f_Ring_from_above) = true)
    (aRing_from_below : PySem.W.findIn K (.ref C_Ring) "_from_below" = some (some (.ref f_Ring_from_below)))
    (iRing_from_below : PySem.W.isFn K (.ref f_Ring_from_below) = true)
    (lRing_from_below : K.lookup f_Ring_from_below = some ⟨ocRing_from_below, odRing_from_below, .func (PySem.W.fnOf "_from_below" "Ring._from_below" (defArgs s_Ring_from_below) (defBody s_Ring_from_below) (defScope s_Ring_from_below) .none kVRing_from_below dcRing_from_below pmRing_from_below anRing_from_below cdRing_from_below ctRing_from_below), slRing_from_below⟩)
    (cRing_from_below : PySem.W.codeIn K cdRing_from_below "Ring._from_below" = true)
    (kRing_from_below : PySem.W.keepIn K (.ref f_Ring_from_below) = true)
    (aRing_history : PySem.W.findIn K (.ref C_Ring) "history" = some (some (.ref f_Ring_history)))
    (iRing_history : PySem.W.isFn K (.ref f_Ring_history) = true)
    (lRing_history : K.lookup f_Ring_history = some ⟨ocRing_history, odRing_history, .func (PySem.W.fnOf "history" "Ring.history" (defArgs s_Ring_history) (defBody s_Ring_history) (defScope s_Ring_history) .none kVRing_history dcRing_history pmRing_history anRing_history cdRing_history ctRing_history), slRing_history⟩)
    (cRing_history : PySem.W.codeIn K cdRing_history "Ring.history" = true)
    (kRing_history : PySem.W.keepIn K (.ref f_Ring_history) = true)
    (aring_next : PySem.W.nsIn K mainGlobals "ring_next" = some (some (.ref f_ring_next)))
    (lring_next : K.lookup f_ring_next = some ⟨ocring_next, odring_next, .func (PySem.W.fnOf "ring_next" "ring_next" (defArgs s_ring_next) (defBody s_ring_next) (defScope s_ring_next) .none kVring_next dcring_next pmring_next anring_next cdring_next ctring_next), slring_next⟩)
    (cring_next : PySem.W.codeIn K cdring_next "ring_next" = true)
    (kring_next : PySem.W.keepIn K (.ref f_ring_next) = true)
    (aring_grown : PySem.W.nsIn K mainGlobals "ring_grown" = some (some (.ref f_ring_grown)))
    (lring_grown : K.lookup f_ring_grown = some ⟨ocring_grown, odring_grown, .func (PySem.W.fnOf "ring_grown" "ring_grown" (defArgs s_ring_grown) (defBody s_ring_grown) (defScope s_ring_grown) .none kVring_grown dcring_grown pmring_grown anring_grown cdring_grown ctring_grown), slring_grown⟩)
    (cring_grown : PySem.W.codeIn K cdring_grown "ring_grown" = true)
    (kring_grown : PySem.W.keepIn K (.ref f_ring_grown) = true)
    (aring_fate : PySem.W.nsIn K mainGlobals "ring_fate" = some (some (.ref f_ring_fate)))
    (lring_fate : K.lookup f_ring_fate = some ⟨ocring_fate, odring_fate, .func (PySem.W.fnOf "ring_fate" "ring_fate" (defArgs s_ring_fate) (defBody s_ring_fate) (defScope s_ring_fate) .none kVring_fate dcring_fate pmring_fate anring_fate cdring_fate ctring_fate), slring_fate⟩)
    (cring_fate : PySem.W.codeIn K cdring_fate "ring_fate" = true)
    (kring_fate : PySem.W.keepIn K (.ref f_ring_fate) = true)
    (aRule_init : PySem.W.findIn K (.ref C_Rule) "__init__" = some (some (.ref f_Rule_init)))
    (iRule_init : PySem.W.isFn K (.ref f_Rule_init) = true)
    (lRule_init : K.lookup f_Rule_init = some ⟨ocRule_init, odRule_init, .func (PySem.W.fnOf "__init__" "Rule.__init__" (defArgs s_Rule_init) (defBody s_Rule_init) (defScope s_Rule_init) .none kVRule_init dcRule_init pmRule_init anRule_init cdRule_init ctRule_init), slRule_init⟩)
    (cRule_init : PySem.W.codeIn K cdRule_init "Rule.__init__" = true)
    (kRule_init : PySem.W.keepIn K (.ref f_Rule_init) = true)
    (alaw_cell : PySem.W.nsIn K mainGlobals "_law_cell" = some (some (.ref f_law_cell)))
    (llaw_cell : K.lookup f_law_cell = some ⟨oclaw_cell, odlaw_cell, .func (PySem.W.fnOf "_law_cell" "_law_cell" (defArgs s_law_cell) (defBody s_law_cell) (defScope s_law_cell) .none kVlaw_cell dclaw_cell pmlaw_cell anlaw_cell cdlaw_cell ctlaw_cell), sllaw_cell⟩)
    (claw_cell : PySem.W.codeIn K cdlaw_cell "_law_cell" = true)
    (klaw_cell : PySem.W.keepIn K (.ref f_law_cell) = true)
    (alaw_row : PySem.W.nsIn K mainGlobals "_law_row" = some (some (.ref f_law_row)))
    (llaw_row : K.lookup f_law_row = some ⟨oclaw_row, odlaw_row, .func (PySem.W.fnOf "_law_row" "_law_row" (defArgs s_law_row) (defBody s_law_row) (defScope s_law_row) .none kVlaw_row dclaw_row pmlaw_row anlaw_row cdlaw_row ctlaw_row), sllaw_row⟩)
    (claw_row : PySem.W.codeIn K cdlaw_row "_law_row" = true)
    (klaw_row : PySem.W.keepIn K (.ref f_law_row) = true)
    (alaw_integer : PySem.W.nsIn K mainGlobals "_law_integer" = some (some (.ref f_law_integer)))
    (llaw_integer : K.lookup f_law_integer = some ⟨oclaw_integer, odlaw_integer, .func (PySem.W.fnOf "_law_integer" "_law_integer" (defArgs s_law_integer) (defBody s_law_integer) (defScope s_law_integer) .none kVlaw_integer dclaw_integer pmlaw_integer anlaw_integer cdlaw_integer ctlaw_integer), sllaw_integer⟩)
    (claw_integer : PySem.W.codeIn K cdlaw_integer "_law_integer" = true)
    (klaw_integer : PySem.W.keepIn K (.ref f_law_integer) = true)
    (alaw_cells : PySem.W.nsIn K mainGlobals "_law_cells" = some (some (.ref f_law_cells)))
    (llaw_cells : K.lookup f_law_cells = some ⟨oclaw_cells, odlaw_cells, .func (PySem.W.fnOf "_law_cells" "_law_cells" (defArgs s_law_cells) (defBody s_law_cells) (defScope s_law_cells) .none kVlaw_cells dclaw_cells pmlaw_cells anlaw_cells cdlaw_cells ctlaw_cells), sllaw_cells⟩)
    (claw_cells : PySem.W.codeIn K cdlaw_cells "_law_cells" = true)
    (klaw_cells : PySem.W.keepIn K (.ref f_law_cells) = true)
    (alaw_numbers : PySem.W.nsIn K mainGlobals "_law_numbers" = some (some (.ref f_law_numbers)))
    (llaw_numbers : K.lookup f_law_numbers = some ⟨oclaw_numbers, odlaw_numbers, .func (PySem.W.fnOf "_law_numbers" "_law_numbers" (defArgs s_law_numbers) (defBody s_law_numbers) (defScope s_law_numbers) .none kVlaw_numbers dclaw_numbers pmlaw_numbers anlaw_numbers cdlaw_numbers ctlaw_numbers), sllaw_numbers⟩)
    (claw_numbers : PySem.W.codeIn K cdlaw_numbers "_law_numbers" = true)
    (klaw_numbers : PySem.W.keepIn K (.ref f_law_numbers) = true)
    (alaw_some : PySem.W.nsIn K mainGlobals "_law_some" = some (some (.ref f_law_some)))
    (llaw_some : K.lookup f_law_some = some ⟨oclaw_some, odlaw_some, .func (PySem.W.fnOf "_law_some" "_law_some" (defArgs s_law_some) (defBody s_law_some) (defScope s_law_some) .none kVlaw_some dclaw_some pmlaw_some anlaw_some cdlaw_some ctlaw_some), sllaw_some⟩)
    (claw_some : PySem.W.codeIn K cdlaw_some "_law_some" = true)
    (klaw_some : PySem.W.keepIn K (.ref f_law_some) = true)
    (alaw_ring : PySem.W.nsIn K mainGlobals "_law_ring" = some (some (.ref f_law_ring)))
    (llaw_ring : K.lookup f_law_ring = some ⟨oclaw_ring, odlaw_ring, .func (PySem.W.fnOf "_law_ring" "_law_ring" (defArgs s_law_ring) (defBody s_law_ring) (defScope s_law_ring) .none kVlaw_ring dclaw_ring pmlaw_ring anlaw_ring cdlaw_ring ctlaw_ring), sllaw_ring⟩)
    (claw_ring : PySem.W.codeIn K cdlaw_ring "_law_ring" = true)
    (klaw_ring : PySem.W.keepIn K (.ref f_law_ring) = true)
    (alaw : PySem.W.nsIn K mainGlobals "law" = some (some (.ref f_law)))
    (llaw : K.lookup f_law = some ⟨oclaw, odlaw, .func (PySem.W.fnOf "law" "law" (defArgs s_law) (defBody s_law) (defScope s_law) .none kVlaw dclaw pmlaw anlaw cdlaw ctlaw), sllaw⟩)
    (claw : PySem.W.codeIn K cdlaw "law" = true)
    (klaw : PySem.W.keepIn K (.ref f_law) = true)
    (zrange : PySem.W.nsIn K mainGlobals "range" = some none)
    (zdivmod : PySem.W.nsIn K mainGlobals "divmod" = some none)
    (zlen : PySem.W.nsIn K mainGlobals "len" = some none)
    (ztuple : PySem.W.nsIn K mainGlobals "tuple" = some none)
    (zsorted : PySem.W.nsIn K mainGlobals "sorted" = some none)
    (zset : PySem.W.nsIn K mainGlobals "set" = some none)
    (zint : PySem.W.nsIn K mainGlobals "int" = some none)
    (zabs : PySem.W.nsIn K mainGlobals "abs" = some none)
    (zisinstance : PySem.W.nsIn K mainGlobals "isinstance" = some none)
    (zbool : PySem.W.nsIn K mainGlobals "bool" = some none)
    (zlist : PySem.W.nsIn K mainGlobals "list" = some none) :
    ∃ fd : FuncData, (∀ (s : Shared) (v : Value), BindsTo s fd ⟨[v], []⟩ [("script", v)]) ∧ ∀ base : Heap, K.In base → base.Ns mainGlobals mg → FnOk l.prog w K mg base CX0 6 fa fd ["script"] (sp_law K) := by
  have e := hfa.symm.trans (PySem.W.mg_of X G alaw)
  cases e
  have F_sums_of := fun_mk (st := s_sums_of) lsums_of csums_of ksums_of
  have b_sums_of := F_sums_of.binds (ps := ["left", "alive", "right"]) fun _ _ _ _ _ _ us hl => match us, hl with | [_, _, _], _ => rfl
  have F_totals_of := fun_mk (st := s_totals_of) ltotals_of ctotals_of ktotals_of
  have b_totals_of := F_totals_of.binds (ps := ["above", "here", "below"]) fun _ _ _ _ _ _ us hl => match us, hl with | [_, _, _], _ => rfl
  have F_next_strip := fun_mk (st := s_next_strip) lnext_strip cnext_strip knext_strip
  have b_next_strip := F_next_strip.binds (ps := ["alive", "totals", "rule"]) fun _ _ _ _ _ _ us hl => match us, hl with | [_, _, _], _ => rfl
  have F_Ring_init := fun_mk (st := s_Ring_init) lRing_init cRing_init kRing_init
  have b_Ring_init := F_Ring_init.binds (ps := ["self", "rule", "height", "width"]) fun _ _ _ _ _ _ us hl => match us, hl with | [_, _, _, _], _ => rfl
  have F_Ring_bits := fun_mk (st := s_Ring_bits) lRing_bits cRing_bits kRing_bits
  have b_Ring_bits := F_Ring_bits.binds (ps := ["self", "cells"]) fun _ _ _ _ _ _ us hl => match us, hl with | [_, _], _ => rfl
  have F_Ring_cells := fun_mk (st := s_Ring_cells) lRing_cells cRing_cells kRing_cells
  have b_Ring_cells := F_Ring_cells.binds (ps := ["self", "bits"]) fun _ _ _ _ _ _ us hl => match us, hl with | [_, _], _ => rfl
  have F_Ring_after := fun_mk (st := s_Ring_after) lRing_after cRing_after kRing_after
  have b_Ring_after := F_Ring_after.binds (ps := ["self", "bits"]) fun _ _ _ _ _ _ us hl => match us, hl with | [_, _], _ => rfl
  have F_Ring_from_left := fun_mk (st := s_Ring_from_left) lRing_from_left cRing_from_left kRing_from_left
  have b_Ring_from_left := F_Ring_from_left.binds (ps := ["self", "bits"]) fun _ _ _ _ _ _ us hl => match us, hl with | [_, _], _ => rfl
  have F_Ring_from_right := fun_mk (st := s_Ring_from_right) lRing_from_right cRing_from_right kRing_from_right
  have b_Ring_from_right := F_Ring_from_right.binds (ps := ["self", "bits"]) fun _ _ _ _ _ _ us hl => match us, hl with | [_, _], _ => rfl
  have F_Ring_from_above := fun_mk (st := s_Ring_from_above) lRing_from_above cRing_from_above kRing_from_above
  have b_Ring_from_above := F_Ring_from_above.binds (ps := ["self", "bits"]) fun _ _ _ _ _ _ us hl => match us, hl with | [_, _], _ => rfl
  have F_Ring_from_below := fun_mk (st := s_Ring_from_below) lRing_from_below cRing_from_below kRing_from_below
  have b_Ring_from_below := F_Ring_from_below.binds (ps := ["self", "bits"]) fun _ _ _ _ _ _ us hl => match us, hl with | [_, _], _ => rfl
  have F_Ring_history := fun_mk (st := s_Ring_history) lRing_history cRing_history kRing_history
  have b_Ring_history := F_Ring_history.binds (ps := ["self", "cells", "bound"]) fun _ _ _ _ _ _ us hl => match us, hl with | [_, _, _], _ => rfl
  have F_ring_next := fun_mk (st := s_ring_next) lring_next cring_next kring_next
  have b_ring_next := F_ring_next.binds (ps := ["cells", "rule", "height", "width"]) fun _ _ _ _ _ _ us hl => match us, hl with | [_, _, _, _], _ => rfl
  have F_ring_grown := fun_mk (st := s_ring_grown) lring_grown cring_grown kring_grown
  have b_ring_grown := F_ring_grown.binds (ps := ["cells", "rule", "height", "width", "generations"]) fun _ _ _ _ _ _ us hl => match us, hl with | [_, _, _, _, _], _ => rfl
  have F_ring_fate := fun_mk (st := s_ring_fate) lring_fate cring_fate kring_fate
  have b_ring_fate := F_ring_fate.binds (ps := ["cells", "rule", "height", "width", "bound"]) fun _ _ _ _ _ _ us hl => match us, hl with | [_, _, _, _, _], _ => rfl
  have F_Rule_init := fun_mk (st := s_Rule_init) lRule_init cRule_init kRule_init
  have b_Rule_init := F_Rule_init.binds (ps := ["self", "births", "survival"]) fun _ _ _ _ _ _ us hl => match us, hl with | [_, _, _], _ => rfl
  have F_law_cell := fun_mk (st := s_law_cell) llaw_cell claw_cell klaw_cell
  have b_law_cell := F_law_cell.binds (ps := ["script", "k"]) fun _ _ _ _ _ _ us hl => match us, hl with | [_, _], _ => rfl
  have F_law_row := fun_mk (st := s_law_row) llaw_row claw_row klaw_row
  have b_law_row := F_law_row.binds (ps := ["cell", "count", "bound"]) fun _ _ _ _ _ _ us hl => match us, hl with | [_, _, _], _ => rfl
  have F_law_integer := fun_mk (st := s_law_integer) llaw_integer claw_integer klaw_integer
  have b_law_integer := F_law_integer.binds (ps := ["value"]) fun _ _ _ _ _ _ us hl => match us, hl with | [_], _ => rfl
  have F_law_cells := fun_mk (st := s_law_cells) llaw_cells claw_cells klaw_cells
  have b_law_cells := F_law_cells.binds (ps := ["value"]) fun _ _ _ _ _ _ us hl => match us, hl with | [_], _ => rfl
  have F_law_numbers := fun_mk (st := s_law_numbers) llaw_numbers claw_numbers klaw_numbers
  have b_law_numbers := F_law_numbers.binds (ps := ["cell"]) fun _ _ _ _ _ _ us hl => match us, hl with | [_], _ => rfl
  have F_law_some := fun_mk (st := s_law_some) llaw_some claw_some klaw_some
  have b_law_some := F_law_some.binds (ps := ["cell", "count", "height", "width"]) fun _ _ _ _ _ _ us hl => match us, hl with | [_, _, _, _], _ => rfl
  have F_law_ring := fun_mk (st := s_law_ring) llaw_ring claw_ring klaw_ring
  have b_law_ring := F_law_ring.binds (ps := ["cells", "births", "survival", "h", "w"]) fun _ _ _ _ _ _ us hl => match us, hl with | [_, _, _, _, _], _ => rfl
  have F_law := fun_mk (st := s_law) llaw claw klaw
  have b_law := F_law.binds (ps := ["script"]) fun _ _ _ _ _ _ us hl => match us, hl with | [_], _ => rfl
  let T : Txt K mg := {
    C_Ring := C_Ring,
    g_Ring := PySem.W.mg_of X G aCRing,
    cl_Ring := ⟨pgRing, hdRing, poRing, saRing⟩,
    na_Ring__rule := nRing_rule,
    na_Ring__height := nRing_height,
    na_Ring__width := nRing_width,
    na_Ring__full := nRing_full,
    na_Ring__first_column := nRing_first_column,
    na_Ring__last_column := nRing_last_column,
    C_Rule := C_Rule,
    g_Rule := PySem.W.mg_of X G aCRule,
    cl_Rule := ⟨pgRule, hdRule, poRule, saRule⟩,
    na_Rule_births := nRulebirths,
    na_Rule_survival := nRulesurvival,
    f_sums_of := f_sums_of,
    d_sums_of := _,
    F_sums_of := F_sums_of,
    b_sums_of := b_sums_of,
    g_sums_of := PySem.W.mg_of X G asums_of,
    f_totals_of := f_totals_of,
    d_totals_of := _,
    F_totals_of := F_totals_of,
    b_totals_of := b_totals_of,
    g_totals_of := PySem.W.mg_of X G atotals_of,
    f_next_strip := f_next_strip,
    d_next_strip := _,
    F_next_strip := F_next_strip,
    b_next_strip := b_next_strip,
    g_next_strip := PySem.W.mg_of X G anext_strip,
    f_Ring_init := f_Ring_init,
    d_Ring_init := _,
    F_Ring_init := F_Ring_init,
    b_Ring_init := b_Ring_init,
    M_Ring := ⟨mkRing, aRing_init, iRing_init, kcRing⟩,
    f_Ring_bits := f_Ring_bits,
    d_Ring_bits := _,
    F_Ring_bits := F_Ring_bits,
    b_Ring_bits := b_Ring_bits,
    m_Ring_bits := ⟨aRing_bits, iRing_bits, kRing_bits⟩,
    f_Ring_cells := f_Ring_cells,
    d_Ring_cells := _,
    F_Ring_cells := F_Ring_cells,
    b_Ring_cells := b_Ring_cells,
    m_Ring_cells := ⟨aRing_cells, iRing_cells, kRing_cells⟩,
    f_Ring_after := f_Ring_after,
    d_Ring_after := _,
    F_Ring_after := F_Ring_after,
    b_Ring_after := b_Ring_after,
    m_Ring_after := ⟨aRing_after, iRing_after, kRing_after⟩,
    f_Ring_from_left := f_Ring_from_left,
    d_Ring_from_left := _,
    F_Ring_from_left := F_Ring_from_left,
    b_Ring_from_left := b_Ring_from_left,
    m_Ring_from_left := ⟨aRing_from_left, iRing_from_left, kRing_from_left⟩,
    f_Ring_from_right := f_Ring_from_right,
    d_Ring_from_right := _,
    F_Ring_from_right := F_Ring_from_right,
    b_Ring_from_right := b_Ring_from_right,
    m_Ring_from_right := ⟨aRing_from_right, iRing_from_right, kRing_from_right⟩,
    f_Ring_from_above := f_Ring_from_above,
    d_Ring_from_above := _,
    F_Ring_from_above := F_Ring_from_above,
    b_Ring_from_above := b_Ring_from_above,
    m_Ring_from_above := ⟨aRing_from_above, iRing_from_above, kRing_from_above⟩,
    f_Ring_from_below := f_Ring_from_below,
    d_Ring_from_below := _,
    F_Ring_from_below := F_Ring_from_below,
    b_Ring_from_below := b_Ring_from_below,
    m_Ring_from_below := ⟨aRing_from_below, iRing_from_below, kRing_from_below⟩,
    f_Ring_history := f_Ring_history,
    d_Ring_history := _,
    F_Ring_history := F_Ring_history,
    b_Ring_history := b_Ring_history,
    m_Ring_history := ⟨aRing_history, iRing_history, kRing_history⟩,
    f_ring_next := f_ring_next,
    d_ring_next := _,
    F_ring_next := F_ring_next,
    b_ring_next := b_ring_next,
    g_ring_next := PySem.W.mg_of X G aring_next,
    f_ring_grown := f_ring_grown,
    d_ring_grown := _,
    F_ring_grown := F_ring_grown,
    b_ring_grown := b_ring_grown,
    g_ring_grown := PySem.W.mg_of X G aring_grown,
    f_ring_fate := f_ring_fate,
    d_ring_fate := _,
    F_ring_fate := F_ring_fate,
    b_ring_fate := b_ring_fate,
    g_ring_fate := PySem.W.mg_of X G aring_fate,
    f_Rule_init := f_Rule_init,
    d_Rule_init := _,
    F_Rule_init := F_Rule_init,
    b_Rule_init := b_Rule_init,
    M_Rule := ⟨mkRule, aRule_init, iRule_init, kcRule⟩,
    f_law_cell := f_law_cell,
    d_law_cell := _,
    F_law_cell := F_law_cell,
    b_law_cell := b_law_cell,
    g_law_cell := PySem.W.mg_of X G alaw_cell,
    f_law_row := f_law_row,
    d_law_row := _,
    F_law_row := F_law_row,
    b_law_row := b_law_row,
    g_law_row := PySem.W.mg_of X G alaw_row,
    f_law_integer := f_law_integer,
    d_law_integer := _,
    F_law_integer := F_law_integer,
    b_law_integer := b_law_integer,
    g_law_integer := PySem.W.mg_of X G alaw_integer,
    f_law_cells := f_law_cells,
    d_law_cells := _,
    F_law_cells := F_law_cells,
    b_law_cells := b_law_cells,
    g_law_cells := PySem.W.mg_of X G alaw_cells,
    f_law_numbers := f_law_numbers,
    d_law_numbers := _,
    F_law_numbers := F_law_numbers,
    b_law_numbers := b_law_numbers,
    g_law_numbers := PySem.W.mg_of X G alaw_numbers,
    f_law_some := f_law_some,
    d_law_some := _,
    F_law_some := F_law_some,
    b_law_some := b_law_some,
    g_law_some := PySem.W.mg_of X G alaw_some,
    f_law_ring := f_law_ring,
    d_law_ring := _,
    F_law_ring := F_law_ring,
    b_law_ring := b_law_ring,
    g_law_ring := PySem.W.mg_of X G alaw_ring,
    f_law := fa,
    d_law := _,
    F_law := F_law,
    b_law := b_law,
    g_law := PySem.W.mg_of X G alaw,
    z_range := PySem.W.mg_none_of X G zrange,
    z_divmod := PySem.W.mg_none_of X G zdivmod,
    z_len := PySem.W.mg_none_of X G zlen,
    z_tuple := PySem.W.mg_none_of X G ztuple,
    z_sorted := PySem.W.mg_none_of X G zsorted,
    z_set := PySem.W.mg_none_of X G zset,
    z_int := PySem.W.mg_none_of X G zint,
    z_abs := PySem.W.mg_none_of X G zabs,
    z_isinstance := PySem.W.mg_none_of X G zisinstance,
    z_bool := PySem.W.mg_none_of X G zbool,
    z_list := PySem.W.mg_none_of X G zlist }
  exact ⟨_, fun s v => .of_eq rfl, fun base _ _ => ok_law T⟩
end My
open PySem PySem.W PyProof.Rows
set_option maxHeartbeats 0 in
theorem PySem.Challenge.cw_longlife_k27_rings_and_their_fates_holds : PySem.Challenge.rw_longlife_k27_rings_and_their_fates.Holds := by
  w_on; o_law; k_head; (case hw => w_witness2)
  k_fill
  refine L2.walk_of (l := PySem.Challenge.rw_longlife_k27_rings_and_their_fates) (n := 63) (k := 6) (x := "script") (CX := fun _ => L2.CX0) (sp := fun w => My.sp_law _) rfl (by decide) rfl ⟨rfl, by decide, by decide⟩ (fun w h Y => PySem.W.kIn_of Y) ?F (fun _ _ a ns hl _ hS => ⟨a, ns, rfl, hS, hl, fun _ => rfl⟩) (fun _ _ _ _ _ h => h)
  case F =>
    intro w mg fa h KX G hmg
    refine' My.all_mk KX G hmg ?aCRing ?pgRing ?hdRing ?poRing ?saRing ?mkRing ?kcRing ?nRing_rule ?nRing_height ?nRing_width ?nRing_full ?nRing_first_column ?nRing_last_column ?aCRule ?pgRule ?hdRule ?poRule ?saRule ?mkRule ?kcRule ?nRulebirths ?nRulesurvival ?asums_of ?lsums_of ?csums_of ?ksums_of ?atotals_of ?ltotals_of ?ctotals_of ?ktotals_of ?anext_strip ?lnext_strip ?cnext_strip ?knext_strip ?aRing_init ?iRing_init ?lRing_init ?cRing_init ?kRing_init ?aRing_bits ?iRing_bits ?lRing_bits ?cRing_bits ?kRing_bits ?aRing_cells ?iRing_cells ?lRing_cells ?cRing_cells ?kRing_cells ?aRing_after ?iRing_after ?lRing_after ?cRing_after ?kRing_after ?aRing_from_left ?iRing_from_left ?lRing_from_left ?cRing_from_left ?kRing_from_left ?aRing_from_right ?iRing_from_right ?lRing_from_right ?cRing_from_right ?kRing_from_right ?aRing_from_above ?iRing_from_above ?lRing_from_above ?cRing_from_above ?kRing_from_above ?aRing_from_below ?iRing_from_below ?lRing_from_below ?cRing_from_below ?kRing_from_below ?aRing_history ?iRing_history ?lRing_history ?cRing_history ?kRing_history ?aring_next ?lring_next ?cring_next ?kring_next ?aring_grown ?lring_grown ?cring_grown ?kring_grown ?aring_fate ?lring_fate ?cring_fate ?kring_fate ?aRule_init ?iRule_init ?lRule_init ?cRule_init ?kRule_init ?alaw_cell ?llaw_cell ?claw_cell ?klaw_cell ?alaw_row ?llaw_row ?claw_row ?klaw_row ?alaw_integer ?llaw_integer ?claw_integer ?klaw_integer ?alaw_cells ?llaw_cells ?claw_cells ?klaw_cells ?alaw_numbers ?llaw_numbers ?claw_numbers ?klaw_numbers ?alaw_some ?llaw_some ?claw_some ?klaw_some ?alaw_ring ?llaw_ring ?claw_ring ?klaw_ring ?alaw ?llaw ?claw ?klaw ?zrange ?zdivmod ?zlen ?ztuple ?zsorted ?zset ?zint ?zabs ?zisinstance ?zbool ?zlist
    (case aCRing => k_is)
    (case pgRing => k_is)
    (case hdRing => k_is)
    (case poRing => k_is)
    (case saRing => k_is)
    (case mkRing => k_is)
    (case kcRing => k_is)
    (case nRing_rule => k_is)
    (case nRing_height => k_is)
    (case nRing_width => k_is)
    (case nRing_full => k_is)
    (case nRing_first_column => k_is)
    (case nRing_last_column => k_is)
    (case aCRule => k_is)
    (case pgRule => k_is)
    (case hdRule => k_is)
    (case poRule => k_is)
    (case saRule => k_is)
    (case mkRule => k_is)
    (case kcRule => k_is)
    (case nRulebirths => k_is)
    (case nRulesurvival => k_is)
    (case asums_of => k_is)
    (case lsums_of => k_is)
    (case csums_of => k_is)
    (case ksums_of => k_is)
    (case atotals_of => k_is)
    (case ltotals_of => k_is)
    (case ctotals_of => k_is)
    (case ktotals_of => k_is)
    (case anext_strip => k_is)
    (case lnext_strip => k_is)
    (case cnext_strip => k_is)
    (case knext_strip => k_is)
    (case aRing_init => k_is)
    (case iRing_init => k_is)
    (case lRing_init => k_is)
    (case cRing_init => k_is)
    (case kRing_init => k_is)
    (case aRing_bits => k_is)
    (case iRing_bits => k_is)
    (case lRing_bits => k_is)
    (case cRing_bits => k_is)
    (case kRing_bits => k_is)
    (case aRing_cells => k_is)
    (case iRing_cells => k_is)
    (case lRing_cells => k_is)
    (case cRing_cells => k_is)
    (case kRing_cells => k_is)
    (case aRing_after => k_is)
    (case iRing_after => k_is)
    (case lRing_after => k_is)
    (case cRing_after => k_is)
    (case kRing_after => k_is)
    (case aRing_from_left => k_is)
    (case iRing_from_left => k_is)
    (case lRing_from_left => k_is)
    (case cRing_from_left => k_is)
    (case kRing_from_left => k_is)
    (case aRing_from_right => k_is)
    (case iRing_from_right => k_is)
    (case lRing_from_right => k_is)
    (case cRing_from_right => k_is)
    (case kRing_from_right => k_is)
    (case aRing_from_above => k_is)
    (case iRing_from_above => k_is)
    (case lRing_from_above => k_is)
    (case cRing_from_above => k_is)
    (case kRing_from_above => k_is)
    (case aRing_from_below => k_is)
    (case iRing_from_below => k_is)
    (case lRing_from_below => k_is)
    (case cRing_from_below => k_is)
    (case kRing_from_below => k_is)
    (case aRing_history => k_is)
    (case iRing_history => k_is)
    (case lRing_history => k_is)
    (case cRing_history => k_is)
    (case kRing_history => k_is)
    (case aring_next => k_is)
    (case lring_next => k_is)
    (case cring_next => k_is)
    (case kring_next => k_is)
    (case aring_grown => k_is)
    (case lring_grown => k_is)
    (case cring_grown => k_is)
    (case kring_grown => k_is)
    (case aring_fate => k_is)
    (case lring_fate => k_is)
    (case cring_fate => k_is)
    (case kring_fate => k_is)
    (case aRule_init => k_is)
    (case iRule_init => k_is)
    (case lRule_init => k_is)
    (case cRule_init => k_is)
    (case kRule_init => k_is)
    (case alaw_cell => k_is)
    (case llaw_cell => k_is)
    (case claw_cell => k_is)
    (case klaw_cell => k_is)
    (case alaw_row => k_is)
    (case llaw_row => k_is)
    (case claw_row => k_is)
    (case klaw_row => k_is)
    (case alaw_integer => k_is)
    (case llaw_integer => k_is)
    (case claw_integer => k_is)
    (case klaw_integer => k_is)
    (case alaw_cells => k_is)
    (case llaw_cells => k_is)
    (case claw_cells => k_is)
    (case klaw_cells => k_is)
    (case alaw_numbers => k_is)
    (case llaw_numbers => k_is)
    (case claw_numbers => k_is)
    (case klaw_numbers => k_is)
    (case alaw_some => k_is)
    (case llaw_some => k_is)
    (case claw_some => k_is)
    (case klaw_some => k_is)
    (case alaw_ring => k_is)
    (case llaw_ring => k_is)
    (case claw_ring => k_is)
    (case klaw_ring => k_is)
    (case alaw => k_is)
    (case llaw => k_is)
    (case claw => k_is)
    (case klaw => k_is)
    (case zrange => k_is)
    (case zdivmod => k_is)
    (case zlen => k_is)
    (case ztuple => k_is)
    (case zsorted => k_is)
    (case zset => k_is)
    (case zint => k_is)
    (case zabs => k_is)
    (case zisinstance => k_is)
    (case zbool => k_is)
    (case zlist => k_is)
