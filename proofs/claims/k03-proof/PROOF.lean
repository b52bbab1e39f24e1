import PyProof.Rows.All
import Wide.All
import OpenK.AllK
import Wide.FinOn
import HandS.ForExc
import HandS.ForMost
import HandS.AnyAll
import HandS.Nested
import HandS.GenOver
import HandS.IsInst
import HandS.TupAny
import HandS.TupMul
import HandS.Strs
import HandS.Sort
import HandS.StrMore
import HandS.Walk
import HandS.ExcOwn
import HandS.TryMany
import HandS.Iter
import HandS.Steps
import PyProof.ReprRoads
import PyProof.ReprLen
import PyProof.StrLawsRepr
import PyProof.NeKinds
import PyProof.Rows.StrFin3
import PyProof.Rows.StrClose
import PyProof.Rows.StrGather
import HandS.Text
import PyProof.Rows.IntBool
import PyProof.Rows.RuleB_bool
import PyProof.CallStr
import PyProof.PureInt
import PyProof.FactsAll.bool_2
import HandS.HeadWalk
import KE.KNestM
import KE.GoesMore
import PyProof.EnumMake
import HandS.DictComp
import HandS.More
import HandS.Dict
import PyProof.AutoSeq1
import HandS.Zip
import HandS.Conv
import HandS.List
import HandS.Wide
import PyProof.Rows.ReprOcc
import PyProof.Rows.RegStrFacts
import PySem.Challenge.RW_sameontrees_k03_rows_and_sizes
set_option Elab.async false
set_option linter.all false
set_option maxRecDepth 100000
set_option maxHeartbeats 2000000
/-! own rules, 1: a generator expression that all or any consumes, whatever its element does -/
namespace GA
open PySem PySem.Spec PyProof.Rows L2 GxR NdefX

/-- the frame of a generator expression as a context; fp: the walked iterator's records; s, H: where its frame was made -/
@[reducible] def gcx (X : Cx) (N : List Str) (scope : Scope) (cl : List (Str × Addr)) (code : Value) (C : Addr) (A : Around) (fp : List Addr) (s : Shared) (H : Hp) (pn : List (Addr × Obj)) : Cx :=
  { X with A := A, N := N, s_0 := s, H_0 := H, env := genEnv scope cl C code builtinsNs X.env, outer := X.stack, stack := genEnv scope cl C code builtinsNs X.env :: X.stack,
           ex := fp, calm := true, fn := fun _ => false, pn := pn, xe := fun _ _ => False }

/-- a generator expression's scope: the captured names first, then its own -/
structure GSc (N fr : List Str) (sc : Scope) : Prop where
  kind : sc.kind = .function
  co : sc.isCoroutine = false
  nd : N.Nodup
  pre : N.take fr.length = fr
  dot : sc.names.lookup (".0" : Str) = some NameKind.local
  nocell : ∀ y ∈ sc.names, y.2 ≠ .cell
  free : ∀ y ∈ sc.names, y.2 = .free → y.1 ∈ fr
  frk : ∀ x ∈ fr, sc.names.lookup x = some .free
  frm : ∀ y ∈ fr, (y, NameKind.free) ∈ sc.names
def gscB (N fr : List Str) (sc : Scope) : Bool :=
  decide (sc.kind = .function) && !sc.isCoroutine && decide N.Nodup && decide (N.take fr.length = fr) && decide (sc.names.lookup (".0" : Str) = some NameKind.local) && sc.names.all (fun y => !decide (y.2 = .cell)) &&
    sc.names.all (fun y => !decide (y.2 = .free) || decide (y.1 ∈ fr)) && fr.all (fun x => decide (sc.names.lookup x = some .free)) && fr.all fun y => decide ((y, NameKind.free) ∈ sc.names)
theorem gsc_by {N fr : List Str} {sc : Scope} (h : gscB N fr sc = true) : GSc N fr sc := by
  unfold gscB at h
  simp only [Bool.and_eq_true, Bool.not_eq_true', decide_eq_true_eq, List.all_eq_true, Bool.or_eq_true, decide_eq_false_iff_not] at h
  obtain ⟨⟨⟨⟨⟨⟨⟨⟨h1, h2⟩, h3⟩, h4⟩, h5⟩, h6⟩, h7⟩, h8⟩, h9⟩ := h
  exact ⟨h1, h2, h3, h4, h5, h6, fun y hy e => (h7 y hy).elim (fun z => absurd e z) id, h8, h9⟩

section
variable {X : Cx} {pins : List (Addr × Obj)} {σ : L2.St} {H H' : Hp} {s s' : Shared}

theorem not_stk (I : Inv X pins σ H s) {b : Addr} (h1 : b ≠ X.env.locals) (h2 : b ∉ X.fs) : b ∉ frs X.stack := fun z =>
  (List.mem_cons.mp (I.stkSub b z)).elim h1 h2

theorem inv_gcx {N fr : List Str} {scope : Scope} {cl : List (Str × Addr)} {js : List Nat} {code : Value} {C : Addr} {A : Around} {fp : List Addr} {pn : List (Addr × Obj)} {m : Str → Option Value}
    (I : Inv X pins σ H s) (S : GSc N fr scope) (cp : Caps X cl fr js) (hA : A.handled = none) (hfr : A.frames = some (genEnv scope cl C code builtinsNs X.env :: X.stack))
    (hfp : ∀ b ∈ fp, FpOk X pins H b) (hfl : ∀ b ∈ fp, b < s.heap.objs.size) (hC : s.heap.objs.size ≤ C) (hns : s'.heap.Ns C m) (hos : s'.os = s.os) (hb : AllBare s'.gens) (un : Un (frs X.stack) fp H H' s.heap s'.heap)
    (hok : HOk X.prog X.w H' s'.heap) (hfC : H' C = none)
    (hpn : ∀ p ∈ pn, s'.heap.get? p.1 = some p.2 ∧ H' p.1 = none ∧ p.1 ≠ C ∧ p.1 ∉ frs X.stack ∧ ∀ v, p.2.data ≠ .cell v) :
    Inv (gcx X N scope cl code C A fp s H pn) [] (startF N [] (js.map (slotAt σ))) H' s' := by
  have CA := cells_of I cp
  have ltc : ∀ y c, cl.lookup y = some c → c < s.heap.objs.size := fun y c e => by
    obtain ⟨_, v, o, ho, _⟩ := CA.all y c e
    exact Heap.lt_size ho
  have cfp : ∀ y c, cl.lookup y = some c → c ∉ fp := fun y c e z => (hfp c z).2.2.2.2.1 y c (cp.sub y c e) rfl
  have cellK : ∀ y c, cl.lookup y = some c → ∀ v, s.heap.IsCell c v → s'.heap.IsCell c v := fun y c e v ⟨o, ho, hd⟩ => by
    obtain ⟨sl, q⟩ := un.any ho (CA.all y c e).1 (cfp y c e)
    exact ⟨_, q, hd⟩
  have hgk : ∀ y, (gcx X N scope cl code C A fp s H pn).env.kindOf y = scope.names.lookup y := fun y => rfl
  refine ⟨⟨I.ok.mod, S.kind, I.ok.glob, rfl, hC, CA.inj, fun y hy => ?_, fun y c z _ => ?_, fun _ => hA, hfr, .inr ⟨rfl, rfl⟩, fun b hb => ⟨fun z => ?_, fun y c e z => ?_⟩, I.bs, Nat.le_trans I.ok.bsz I.sz, fun b o e hb => ?_, fun b hb => ?_, I.stack, I.stkFree⟩,
    hos, hb, un, ⟨m, hns, fun i y v e1 e2 e3 => ?_⟩, fun y c e => ?_, hfC, fun y c e => ?_, fun p hp => ?_, hok, ?_⟩
  · rw [hgk] at hy
    rcases hy with hy | hy
    · exact absurd rfl (S.nocell _ (PySem.mem_of_lookup hy))
    · obtain ⟨i, hi⟩ := List.mem_iff_getElem?.mp (S.free _ (PySem.mem_of_lookup hy) rfl)
      obtain ⟨c, hc, _⟩ := CA.has i y hi
      exact ⟨c, hc⟩
  · exact absurd z Bool.false_ne_true
  · have h1 := hfl b hb
    have z' : b = C := z
    rw [z'] at h1
    exact absurd (Nat.lt_of_lt_of_le h1 hC) (Nat.lt_irrefl _)
  · have h2 := ltc y c e
    exact cfp y c e (by rw [show c = b from z]; exact hb)
  · have h1 := (I.ok.bs b o e).1
    rcases (hfp b hb).2.2.2.1 with h2 | h2
    · exact I.ok.noex b o e h2
    · exact absurd (Nat.lt_of_lt_of_le (Heap.lt_size h1) h2) (Nat.lt_irrefl _)
  · exact not_stk I (hfp b hb).2.1 (hfp b hb).2.2.1
  · have e1 : N[i]? = some y := e1
    have clen := CA.len
    rw [List.length_map] at clen
    unfold startF at e2
    rw [List.map_nil, List.nil_append] at e2
    by_cases h2 : i < fr.length
    · have hq : fr[i]? = some y := by
        rw [← S.pre, List.getElem?_take_of_lt h2]
        exact e1
      rw [List.getElem?_append_left (by rw [List.length_map]; omega)] at e2
      obtain ⟨c, hc, hv⟩ := CA.has i y hq
      obtain ⟨u, ru, hu⟩ := hv v e2
      exact ⟨u, ru, .inr ⟨.inr (S.frk y (List.mem_of_getElem? hq)), c, hc, cellK y c hc _ hu⟩⟩
    · rw [List.getElem?_append_right (by rw [List.length_map]; omega), List.getElem?_replicate] at e2
      split at e2 <;> cases e2
  · obtain ⟨v, z⟩ := (CA.all y c e).2
    exact ⟨v, cellK y c e v z⟩
  · obtain ⟨n, v, o, ho, _⟩ := CA.all y c e
    exact un.free c o ho n (cfp y c e)
  · rw [List.append_nil] at hp
    exact hpn p hp
  · have clen := CA.len
    have hpl := congrArg List.length S.pre
    simp only [List.length_take] at hpl
    unfold startF
    show _ = N.length
    simp only [List.length_append, List.length_map, List.length_replicate, List.length_nil, List.map_nil]
    rw [List.length_map] at clen
    omega
end
end GA
set_option Elab.async false
set_option linter.all false
set_option maxRecDepth 100000
set_option maxHeartbeats 2000000
namespace GA
open PySem PySem.Spec PyProof.Rows L2 GxR NdefX

section
variable {A : Around} {elt tg iter : Expr} {scope : Scope} {gpos : Pos} {it acc : Value} {cenv : Env} {ifs : List Expr}
abbrev gexp (elt tg iter : Expr) (scope : Scope) (gpos : Pos) : Expr := .GeneratorExp elt [⟨tg, iter, [], 0⟩] scope gpos
abbrev gloop (elt tg iter : Expr) (scope : Scope) (gpos : Pos) (it : Value) (cenv : Env) : Code := .compLoop (gexp elt tg iter scope gpos) 0 it .none cenv
abbrev gstart (elt tg iter : Expr) (scope : Scope) (gpos : Pos) (it : Value) (cenv : Env) : Code := .compStart (gexp elt tg iter scope gpos) 0 it .none cenv
theorem overL_hd : (A.over (gloop elt tg iter scope gpos it cenv) []).handled = A.handled := rfl
theorem overL_fr {l : List Env} (h : A.frames = some l) : (A.over (gloop elt tg iter scope gpos it cenv) []).frames = some (cenv :: l) := by
  show pushEnvs [cenv] (pushEnvs [] A.frames) = _
  rw [h] <;> rfl
theorem overL_dp : (A.over (gloop elt tg iter scope gpos it cenv) []).depth = A.depth + 1 := by
  show A.depth + 0 + 1 = _
  omega
theorem overL_un : (A.over (gloop elt tg iter scope gpos it cenv) []).units = A.units + 3 := by
  show A.units + 0 + 3 = _
  omega
theorem roomL {k : Nat} (r : Room (k + 1) A) : Room k ((A.in1.in1).over (gloop elt tg iter scope gpos it cenv) []) :=
  ⟨r.hd, by have := r.dp; rw [overL_dp]; show A.depth + 1 + 3 * k + 5 < _; omega, by have := r.un; rw [overL_un]; show A.units + 1 + 1 + 3 + 16 * k + 200 < _; omega⟩
end

/-- the turns of a generator expression, in its own frame: W an invariant over turn, measure, slots and heap; Qe: behind its end; K: what is known of what is handed out -/
def GTurn (J : It) (g : TG) (te : TE) (W : Nat → Nat → L2.St → Hp → Prop) (Qe : Hp → Prop) (K : Nat → Nat → L2.St → V → Hp → Prop) : Prop :=
  ∀ i m σ H, W i m σ H → (J.stop i H ∧ Qe H) ∨ (J.go i H ∧ 0 < m ∧ ∀ x H', J.yld i H x H' → g x σ H' fun σ2 H2 => te σ2 H2 fun r H3 => K i m σ2 r H3)

section
variable {X : Cx} {N : List Str} {elt tg iter : Expr} {scope : Scope} {gpos : Pos} {cl : List (Str × Addr)} {code : Value} {C it ga : Addr} {go : Obj} {fp : List Addr} {s2 : Shared} {H2 : Hp} {J : It} {g : TG} {te : TE}
  {W : Nat → Nat → L2.St → Hp → Prop} {Qe : Hp → Prop} {K : Nat → Nat → L2.St → V → Hp → Prop} {tn : Nat → Heap → Prop}
abbrev cenvOf (X : Cx) (scope : Scope) (cl : List (Str × Addr)) (code : Value) (C : Addr) : Env := genEnv scope cl C code builtinsNs X.env
/-- the running frame's context -/
abbrev gX (X : Cx) (N : List Str) (elt tg iter : Expr) (scope : Scope) (gpos : Pos) (cl : List (Str × Addr)) (code : Value) (C it : Addr) (fp : List Addr) (s2 : Shared) (H2 : Hp) (pn : List (Addr × Obj)) : Cx :=
  gcx X N scope cl code C ((X.A.in1.in1).over (gloop elt tg iter scope gpos (.ref it) (cenvOf X scope cl code C)) []) fp s2 H2 pn
def gEnd (Xg : Cx) (fp : List Addr) (Qe : Hp → Prop) : Nat → Shared → Shared → Prop := fun _ _ s => ∃ σ H, Inv Xg [] σ H s ∧ (∀ b ∈ fp, H b = none) ∧ Qe H
def gYld (Xg : Cx) (fp : List Addr) (tn : Nat → Heap → Prop) (W : Nat → Nat → L2.St → Hp → Prop) (K : Nat → Nat → L2.St → V → Hp → Prop) : Protocol := fun _ _ v s kap =>
  ∃ i m σ H r, RelV r v ∧ Inv Xg [] σ H s ∧ tn (i + 1) s.heap ∧ (∀ b ∈ fp, H b = none) ∧ K i m σ r H ∧
    ∀ m' s'', m' < m → W (i + 1) m' σ H → s''.heap = s.heap → s''.os = s.os → AllBare s''.gens → kap (.send .none) s''

theorem fpOk_g {pins : List (Addr × Obj)} {σ : L2.St} {H : Hp} {s : Shared} {pn : List (Addr × Obj)} (I : Inv (gX X N elt tg iter scope gpos cl code C it fp s2 H2 pn) pins σ H s) (hn : ∀ b ∈ fp, H b = none) (hp : ∀ b ∈ fp, ∀ p ∈ pn ++ pins, p.1 ≠ b) :
    ∀ b ∈ fp, FpOk (gX X N elt tg iter scope gpos cl code C it fp s2 H2 pn) pins H b := fun b hb =>
  ⟨hn b hb, (I.ok.exf b hb).1, I.ok.exfs b hb, .inl hb, (I.ok.exf b hb).2, hp b hb⟩

theorem inv_awake {pins : List (Addr × Obj)} {σ : L2.St} {H : Hp} {s s' : Shared} (I : Inv X pins σ H s) (h1 : s'.heap = s.heap) (h2 : s'.os = s.os) (h3 : AllBare s'.gens) : Inv X pins σ H s' := by
  refine Inv.call' (ch := []) I h2 ?_ ?_ h3 (fun b z => absurd z (by simp))
  · rw [h1]; exact Un.refl
  · rw [h1]; exact I.hok

theorem seg_gloop (hg : PG (gX X N elt tg iter scope gpos cl code C it fp s2 H2 [(ga, go)]) tg g) (he : PE (gX X N elt tg iter scope gpos cl code C it fp s2 H2 [(ga, go)]) elt te)
    (T : Turn X.prog X.w X.K tg J fp it tn) (hfp : ga ∉ fp) (hco : scope.isCoroutine = false) (turn : GTurn J g te W Qe K) :
    ∀ (n m i : Nat) (s₀ s : Shared) (σ : L2.St) (H : Hp), m ≤ n → W i m σ H → Inv (gX X N elt tg iter scope gpos cl code C it fp s2 H2 [(ga, go)]) [] σ H s → tn i s.heap → (∀ b ∈ fp, H b = none) →
      Seg (model X.prog X.w) X.A.in1.in1 (fun n s₀ r s₁ => r = .ok .next ∧ gEnd (gX X N elt tg iter scope gpos cl code C it fp s2 H2 [(ga, go)]) fp Qe n s₀ s₁) (gYld (gX X N elt tg iter scope gpos cl code C it fp s2 H2 [(ga, go)]) fp tn W K) n s₀
        (gloop elt tg iter scope gpos (.ref it) (cenvOf X scope cl code C)) ((model X.prog X.w).den (gloop elt tg iter scope gpos (.ref it) (cenvOf X scope cl code C))) [] s := by
  intro n
  have pne : ∀ pins : List (Addr × Obj), (∀ p ∈ pins, p.1 ∈ fp → False) → ∀ b ∈ fp, ∀ p ∈ [(ga, go)] ++ pins, p.1 ≠ b := fun pins hp b hb p h e => by
    rcases List.mem_append.mp h with h | h
    · rw [List.mem_singleton.mp h] at e
      exact hfp (by rw [show ga = b from e]; exact hb)
    · exact hp p h (by rw [e]; exact hb)
  induction n with
  | zero =>
    intro m i s₀ s σ H hm hw I hst hn
    show Seg _ _ _ _ _ s₀ _ ((compTurn (gexp elt tg iter scope gpos) 0 (.ref it) .none (cenvOf X scope cl code C)).onRaise (leaving (cenvOf X scope cl code C))) [] s
    rw [compTurn_gen, Sem.onRaise_eq_wrap]
    refine seg_bind_wrap (wpAny_standAt ?_)
    rcases turn i m σ H hw with ⟨st, q⟩ | ⟨_, hm0, _⟩
    · refine seg_bind_wrap (wpAny_mono (T.done (gX X N elt tg iter scope gpos cl code C it fp s2 H2 [(ga, go)]) rfl rfl rfl rfl i [] s σ H (fun _ _ => False) I (fpOk_g I hn (pne [] fun _ h => by simp at h)) hst st) (fun r s' ⟨hr, I'⟩ => ?_) fun _ _ e => e.elim)
      subst hr
      exact seg_end (.ok .next) ⟨rfl, σ, H, I', hn, q⟩
    · omega
  | succ n ih =>
    intro m i s₀ s σ H hm hw I hst hn
    show Seg _ _ _ _ _ s₀ _ ((compTurn (gexp elt tg iter scope gpos) 0 (.ref it) .none (cenvOf X scope cl code C)).onRaise (leaving (cenvOf X scope cl code C))) [] s
    rw [compTurn_gen, Sem.onRaise_eq_wrap]
    refine seg_bind_wrap (wpAny_standAt ?_)
    have ok0 := fpOk_g I hn (pne [] fun _ h => by simp at h)
    rcases turn i m σ H hw with ⟨st, q⟩ | ⟨hgo, hm0, hstep⟩
    · refine seg_bind_wrap (wpAny_mono (T.done (gX X N elt tg iter scope gpos cl code C it fp s2 H2 [(ga, go)]) rfl rfl rfl rfl i [] s σ H (fun _ _ => False) I ok0 hst st) (fun r s' ⟨hr, I'⟩ => ?_) fun _ _ e => e.elim)
      subst hr
      exact seg_end (.ok .next) ⟨rfl, σ, H, I', hn, q⟩
    · refine seg_bind_wrap (wpAny_mono (T.item (gX X N elt tg iter scope gpos cl code C it fp s2 H2 [(ga, go)]) rfl rfl rfl rfl i [] s σ H (fun _ _ => False) I ok0 hst hgo) (fun r s3 ⟨u, hr, h3⟩ => ?_) fun _ _ e => e.elim)
      subst hr
      refine seg_bind_wrap (wpAny_mono h3 (fun _ s4 ⟨x, H4, I4, r4, y4, st4, n4⟩ => ?_) fun _ _ e => e.elim)
      have I4' := I4.pinned (fpOk_g I4 n4 (pne [] fun _ h => by simp at h)) (T.obj _ _ st4)
      refine seg_bind_wrap (wpAny_mono (hg.run _ s4 σ H4 x u _ I4' r4 (hstep x H4 y4)) (fun _ s5 ⟨σ5, H5, I5, q5⟩ => ?_) fun _ _ e => e.elim)
      simp only [List.forIn_nil]
      refine seg_bind_wrap (wpAny_pure ?_)
      simp only [if_true]
      have hy : ∀ v, yieldOut (cenvOf X scope cl code C) v = yieldValue v := fun v => by
        unfold yieldOut
        rw [show (cenvOf X scope cl code C).scope.isCoroutine = false from hco] <;> rfl
      simp only [hy]
      rw [Sem.bind_eq_wrap', Sem.bind_eq_wrap', Sem.wrap_wrap, Sem.wrap_wrap]
      refine seg_wrap (wpAny_mono (he.run _ s5 σ5 H5 _ I5 q5) (fun v s6 ⟨r, H6, I6, r6, q6⟩ => ?_) fun _ _ e => e.elim)
      have keepP : ∀ b ∈ fp, (∀ o, s4.heap.get? b = some o → s6.heap.get? b = some o) ∧ H6 b = none := fun b hb => by
        obtain ⟨o, e, d⟩ := T.obj _ _ st4 b hb
        have z := I6.pin (b, o) (List.mem_append_right _ (List.mem_append_right _ (mem_pinsAt hb e)))
        exact ⟨fun o' e' => by rw [e] at e'; cases e'; exact z.1, z.2.1⟩
      have st6 := T.keep _ _ s6.heap st4 fun b hb o e => (keepP b hb).1 o e
      have J6 : Inv (gX X N elt tg iter scope gpos cl code C it fp s2 H2 [(ga, go)]) [] σ5 H6 s6 := I6.unpinned (pins := [])
      refine seg_at (seg_yield rfl rfl rfl ⟨i, m, σ5, H6, r, r6, J6, st6, fun b hb => (keepP b hb).2, q6, fun m' s'' hlt hw' e1 e2 e3 => ?_⟩)
      refine seg_again rfl (ih m' (i + 1) s'' s'' σ5 H6 (by omega) hw' (inv_awake J6 e1 e2 e3) (by rw [e1]; exact st6) fun b hb => (keepP b hb).2)
end
end GA
set_option Elab.async false
set_option linter.all false
set_option maxRecDepth 100000
set_option maxHeartbeats 2000000
namespace GA
open PySem PySem.Spec PyProof.Rows L2 GxR NdefX
open GenW

theorem allBare_set {s : Shared} {g : Nat} {x : GenState} (h : AllBare s.gens) (hx : x.bare = true) : AllBare (s.setGen g x).gens := fun y hy => by
  have hy : y ∈ s.gens.setIfInBounds g x := hy
  rcases Array.mem_or_eq_of_mem_setIfInBounds hy with z | z
  · exact h y z
  · rw [z]; exact hx
theorem setGen_at {s : Shared} {g : Nat} {x : GenState} (h : g + 1 ≤ (s.setGen g x).gens.size) : (s.setGen g x).gens[g]? = some x := by
  rw [setGen_size] at h
  have hlt : g < s.gens.size := h
  simp [Shared.setGen, hlt]

section
variable {X : Cx} {N : List Str} {elt tg iter : Expr} {scope : Scope} {gpos : Pos} {cl : List (Str × Addr)} {code : Value} {C it ga : Addr} {go : Obj} {fp : List Addr} {s2 : Shared} {H2 : Hp} {J : It} {g : TG} {te : TE}
  {W : Nat → Nat → L2.St → Hp → Prop} {Qe : Hp → Prop} {K : Nat → Nat → L2.St → V → Hp → Prop} {tn : Nat → Heap → Prop}

theorem seg_gstart (hg : PG (gX X N elt tg iter scope gpos cl code C it fp s2 H2 [(ga, go)]) tg g) (he : PE (gX X N elt tg iter scope gpos cl code C it fp s2 H2 [(ga, go)]) elt te)
    (T : Turn X.prog X.w X.K tg J fp it tn) (hfp : ga ∉ fp) (hco : scope.isCoroutine = false) (turn : GTurn J g te W Qe K) (n m : Nat) (s₀ s : Shared) (σ : L2.St) (H : Hp) (hm : m ≤ n) (hw : W 0 m σ H)
    (I : Inv (gX X N elt tg iter scope gpos cl code C it fp s2 H2 [(ga, go)]) [] σ H s) (hst : tn 0 s.heap) (hn : ∀ b ∈ fp, H b = none) :
    Seg (model X.prog X.w) X.A.in1.in1 (fun n s₀ r s₁ => r = .ok .next ∧ gEnd (gX X N elt tg iter scope gpos cl code C it fp s2 H2 [(ga, go)]) fp Qe n s₀ s₁) (gYld (gX X N elt tg iter scope gpos cl code C it fp s2 H2 [(ga, go)]) fp tn W K) n s₀
      (gstart elt tg iter scope gpos (.ref it) (cenvOf X scope cl code C)) ((model X.prog X.w).den (gstart elt tg iter scope gpos (.ref it) (cenvOf X scope cl code C))) [] s := by
  have loop := seg_gloop hg he T hfp hco turn n m 0 s₀ s σ H hm hw I hst hn
  show Seg _ _ _ _ _ s₀ _ ((compStart (gexp elt tg iter scope gpos) 0 (.ref it) .none (cenvOf X scope cl code C)).onRaise (leaving (cenvOf X scope cl code C))) [] s
  unfold compStart
  rw [Sem.onRaise_eq_wrap]
  show Seg _ _ _ _ _ s₀ _ ((ask >>= _).wrap _ _ _ _) [] s
  refine seg_bind_wrap (wpAny_askSetting ?_)
  split
  · exact seg_again rfl loop
  · refine seg_bind_wrap (wpAny_rule ?_)
    show Seg _ _ _ _ _ s₀ _ ((standAt iter.pos >>= _).wrap _ _ _ _) [] s
    exact seg_bind_wrap (wpAny_standAt (seg_bind_wrap (T.self _ 0 s _ _ hst (seg_again rfl loop))))

/-- a generator that stands ready, in the state s: it will go on from the turn i -/
def GSt (X Xg : Cx) (fp : List Addr) (tn : Nat → Heap → Prop) (W : Nat → Nat → L2.St → Hp → Prop) (Qe : Hp → Prop) (K : Nat → Nat → L2.St → V → Hp → Prop) (gn n : Nat) (H : Hp) (s : Shared) : Prop :=
  ∃ σ gs, Inv Xg [] σ H s ∧ (∀ b ∈ fp, H b = none) ∧ s.gens[gn]? = some gs ∧ ∀ s'', s''.heap = s.heap → s''.os = s.os → AllBare s''.gens →
    gs.Goes (model X.prog X.w) X.A.in1.in1 (fun n s₀ r s₁ => r = .ok .next ∧ gEnd Xg fp Qe n s₀ s₁) (gYld Xg fp tn W K) n (.send .none) s''

/-- what all and any ask of an item: stop: the truth at which they end -/
def KB (stop : Bool) (W : Nat → Nat → L2.St → Hp → Prop) (Qb : Bool → Hp → Prop) : Nat → Nat → L2.St → V → Hp → Prop := fun i m σ r H =>
  ∃ b, r = .bl b ∧ if b = stop then Qb stop H else ∃ m', m' < m ∧ W (i + 1) m' σ H

theorem g_next {stop : Bool} {gn : Nat} {Qb : Bool → Hp → Prop} {Q : Option Value → Shared → Prop} {E : Value → Shared → Prop} {n : Nat} {H : Hp} {s : Shared} {k : Nat} {pn : List (Addr × Obj)}
    (hr : Room k X.A) (hgo : ∀ s : Shared, s.heap.get? ga = some go → s.heap.IsGen ga gn) (hpn : pn = [(ga, go)])
    (st : GSt X (gX X N elt tg iter scope gpos cl code C it fp s2 H2 pn) fp tn W (Qb (!stop)) (KB stop W Qb) gn n H s)
    (hend : ∀ σ H' s', Inv (gX X N elt tg iter scope gpos cl code C it fp s2 H2 pn) [] σ H' s' → (∀ b ∈ fp, H' b = none) → Qb (!stop) H' → Q none s')
    (hstop : ∀ σ H' s', Inv (gX X N elt tg iter scope gpos cl code C it fp s2 H2 pn) [] σ H' s' → (∀ b ∈ fp, H' b = none) → Qb stop H' → Q (some (.bool stop)) s')
    (hgoon : ∀ m H' s', n = m + 1 → GSt X (gX X N elt tg iter scope gpos cl code C it fp s2 H2 pn) fp tn W (Qb (!stop)) (KB stop W Qb) gn m H' s' → Q (some (.bool (!stop))) s') :
    wpAny (model X.prog X.w) X.A.in1 (pyNext (.ref ga)) Q E s := by
  subst hpn
  obtain ⟨σ, gs, I, hn, hgs, goes⟩ := st
  have hlt : gn + 1 ≤ s.gens.size := by
    rcases Nat.lt_or_ge gn s.gens.size with h | h
    · exact h
    · rw [Array.getElem?_eq_none h] at hgs; cases hgs
  have hpin := (I.pin (ga, go) (List.mem_append_left _ (List.mem_singleton.mpr rfl))).1
  refine wpAny_gsz (n := gn + 1) hlt ?_
  refine wpAny_pyNext_genexpQ (Y := gYld (gX X N elt tg iter scope gpos cl code C it fp s2 H2 [(ga, go)]) fp tn W (KB stop W Qb)) (P := gEnd (gX X N elt tg iter scope gpos cl code C it fp s2 H2 [(ga, go)]) fp (Qb (!stop))) (n := n) hr.hd I.nolimit hr.depth (hgo s hpin) hgs (goes _ rfl rfl (allBare_set I.bare rfl)) (fun v s₁ gs' hb hv => ?_) (fun s₁ hp h' hk => ?_)
  · obtain ⟨i, m, σ', H', r, rv, J', st', n', ⟨b, eb, kb⟩, kap⟩ := hv
    subst eb
    obtain rfl : v = Value.bool b := rv
    have J2 : Inv (gX X N elt tg iter scope gpos cl code C it fp s2 H2 [(ga, go)]) [] σ' H' (s₁.setGen gn gs') := inv_awake J' rfl rfl (allBare_set J'.bare hb)
    intro hsz
    by_cases e : b = stop
    · subst e
      rw [if_pos rfl] at kb
      exact hstop σ' H' _ J2 n' kb
    · rw [if_neg e] at kb
      have eb : b = !stop := by cases b <;> cases stop <;> simp_all
      subst eb
      obtain ⟨m', hm', w'⟩ := kb
      cases n with
      | zero => exact (kap m' s₁ hm' w' rfl rfl J'.bare).elim
      | succ n0 =>
        exact hgoon n0 H' _ rfl ⟨σ', gs', J2, n', setGen_at hsz, fun s'' e1 e2 e3 => kap m' s'' hm' w' e1 e2 e3⟩
  · obtain ⟨σ', H', J', n', q⟩ := hp
    intro _
    have J2 : Inv (gX X N elt tg iter scope gpos cl code C it fp s2 H2 [(ga, go)]) [] σ' H' (s₁.setGen gn .finished) := inv_awake J' rfl rfl (allBare_set J'.bare rfl)
    exact hend σ' H' _ (J2.kept (t' := s₁.toks) hk) n' q

theorem all_loop {gn : Nat} {Qb : Bool → Hp → Prop} {k : Nat} {pn : List (Addr × Obj)} {R : Result → Shared → Prop}
    (hr : Room k X.A) (hgo : ∀ s : Shared, s.heap.get? ga = some go → s.heap.IsGen ga gn) (hpn : pn = [(ga, go)])
    (hR : ∀ b σ H' s', Inv (gX X N elt tg iter scope gpos cl code C it fp s2 H2 pn) [] σ H' s' → (∀ b ∈ fp, H' b = none) → Qb b H' → R (.ok (.ret (.bool b))) s') :
    ∀ (n : Nat) (H : Hp) (s : Shared), GSt X (gX X N elt tg iter scope gpos cl code C it fp s2 H2 pn) fp tn W (Qb true) (KB false W Qb) gn n H s → codeAny (model X.prog X.w) X.A (.builtin "all.loop" ⟨[.ref ga], []⟩) R s := by
  intro n
  induction n with
  | zero =>
    intro H s st
    refine codeAny_builtin F.entry_all_loop ?_
    rw [Around.under_plainId F.plain_all_loop _]
    show wpAny _ X.A.in1 (pyNext (.ref ga) >>= _) _ _ s
    refine wpAny_bind (g_next (stop := false) hr hgo hpn st (fun σ H' s' J n' q => ?_) (fun σ H' s' J n' q => ?_) (fun m H' s' e => by omega))
    · exact wpAny_bind (wpAny_rule (wpAny_pure (hR true σ H' s' J n' q)))
    · refine wpAny_bind (wpAny_holding (wpAny_truthy_bool ?_))
      refine wpAny_bind (wpAny_letGo ?_)
      simp only [Bool.false_eq_true, if_false]
      exact wpAny_bind (wpAny_rule (wpAny_pure (hR false σ H' s' J n' q)))
  | succ n ih =>
    intro H s st
    refine codeAny_builtin F.entry_all_loop ?_
    rw [Around.under_plainId F.plain_all_loop _]
    show wpAny _ X.A.in1 (pyNext (.ref ga) >>= _) _ _ s
    refine wpAny_bind (g_next (stop := false) hr hgo hpn st (fun σ H' s' J n' q => ?_) (fun σ H' s' J n' q => ?_) (fun m H' s' e st' => ?_))
    · exact wpAny_bind (wpAny_rule (wpAny_pure (hR true σ H' s' J n' q)))
    · refine wpAny_bind (wpAny_holding (wpAny_truthy_bool ?_))
      refine wpAny_bind (wpAny_letGo ?_)
      simp only [Bool.false_eq_true, if_false]
      exact wpAny_bind (wpAny_rule (wpAny_pure (hR false σ H' s' J n' q)))
    · have e' : m = n := by omega
      subst e'
      refine wpAny_bind (wpAny_holding (wpAny_truthy_bool ?_))
      refine wpAny_bind (wpAny_letGo ?_)
      simp only [Bool.not_false, if_true]
      exact wpAny_pure ⟨plainId_quiet F.plain_all_loop _, ih H' s' st'⟩

theorem any_loop {gn : Nat} {Qb : Bool → Hp → Prop} {k : Nat} {pn : List (Addr × Obj)} {R : Result → Shared → Prop}
    (hr : Room k X.A) (hgo : ∀ s : Shared, s.heap.get? ga = some go → s.heap.IsGen ga gn) (hpn : pn = [(ga, go)])
    (hR : ∀ b σ H' s', Inv (gX X N elt tg iter scope gpos cl code C it fp s2 H2 pn) [] σ H' s' → (∀ b ∈ fp, H' b = none) → Qb b H' → R (.ok (.ret (.bool b))) s') :
    ∀ (n : Nat) (H : Hp) (s : Shared), GSt X (gX X N elt tg iter scope gpos cl code C it fp s2 H2 pn) fp tn W (Qb false) (KB true W Qb) gn n H s → codeAny (model X.prog X.w) X.A (.builtin "any.loop" ⟨[.ref ga], []⟩) R s := by
  intro n
  induction n with
  | zero =>
    intro H s st
    refine codeAny_builtin F.entry_any_loop ?_
    rw [Around.under_plainId F.plain_any_loop _]
    show wpAny _ X.A.in1 (pyNext (.ref ga) >>= _) _ _ s
    refine wpAny_bind (g_next (stop := true) hr hgo hpn st (fun σ H' s' J n' q => ?_) (fun σ H' s' J n' q => ?_) (fun m H' s' e => by omega))
    · exact wpAny_bind (wpAny_rule (wpAny_pure (hR false σ H' s' J n' q)))
    · refine wpAny_bind (wpAny_holding (wpAny_truthy_bool ?_))
      refine wpAny_bind (wpAny_letGo ?_)
      simp only [if_true]
      exact wpAny_bind (wpAny_rule (wpAny_pure (hR true σ H' s' J n' q)))
  | succ n ih =>
    intro H s st
    refine codeAny_builtin F.entry_any_loop ?_
    rw [Around.under_plainId F.plain_any_loop _]
    show wpAny _ X.A.in1 (pyNext (.ref ga) >>= _) _ _ s
    refine wpAny_bind (g_next (stop := true) hr hgo hpn st (fun σ H' s' J n' q => ?_) (fun σ H' s' J n' q => ?_) (fun m H' s' e st' => ?_))
    · exact wpAny_bind (wpAny_rule (wpAny_pure (hR false σ H' s' J n' q)))
    · refine wpAny_bind (wpAny_holding (wpAny_truthy_bool ?_))
      refine wpAny_bind (wpAny_letGo ?_)
      simp only [if_true]
      exact wpAny_bind (wpAny_rule (wpAny_pure (hR true σ H' s' J n' q)))
    · have e' : m = n := by omega
      subst e'
      refine wpAny_bind (wpAny_holding (wpAny_truthy_bool ?_))
      refine wpAny_bind (wpAny_letGo ?_)
      simp only [Bool.not_true, Bool.false_eq_true, if_false]
      exact wpAny_pure ⟨plainId_quiet F.plain_any_loop _, ih H' s' st'⟩
end
end GA
set_option Elab.async false
set_option linter.all false
set_option maxRecDepth 100000
set_option maxHeartbeats 2000000
namespace GA
open PySem PySem.Spec PyProof.Rows L2 GxR NdefX
open GenW

/-- the reading of all(elt for tg in iter), any(..): stop: the truth that ends it -/
def tGen (P : Addr) (wi : TI) (g : TG) (te : TE) (N : List Str) (js : List Nat) (stop : Bool) : TE := fun σ H Q =>
  wi σ H fun J H1 => TabG H1 P ∧ ∀ H2, Tabbed P H1 H2 → ∃ W, (∃ m, W 0 m (startF N [] (js.map (slotAt σ))) H2) ∧ GTurn J g te W (fun H' => Q (.bl (!stop)) H') (KB stop W fun b H' => Q (.bl b) H')

section
variable {X : Cx} {N fr : List Str} {js : List Nat} {elt tg iter : Expr} {scope : Scope} {gpos : Pos} {g : TG} {te : TE} {wi : TI} {c P : Addr} {k : Nat} {stop : Bool}

theorem gen_made {pins : List (Addr × Obj)} {σ : L2.St} {H : Hp} {s : Shared} {Q : VK} {Q' : Value → Shared → Prop} (hr : Room (k + 1) X.A) (TB : TabB X.base X.mg c P) (hcode : X.env.code = .ref c) (S : GSc N fr scope)
    (hfree : ∀ y ∈ fr, X.env.scope.names.lookup y = some .cell ∨ X.env.scope.names.lookup y = some .free) (hjs : js.map (fun j => X.N[j]?) = fr.map some)
    (hi : PI X tg iter wi) (hg : ∀ code C it fp s2 H2 pn, PG (gX X N elt tg iter scope gpos (cloFrom X.env.cells scope.names []) code C it fp s2 H2 pn) tg g)
    (he : ∀ code C it fp s2 H2 pn, Room k (gX X N elt tg iter scope gpos (cloFrom X.env.cells scope.names []) code C it fp s2 H2 pn).A → PE (gX X N elt tg iter scope gpos (cloFrom X.env.cells scope.names []) code C it fp s2 H2 pn) elt te)
    (hs : ∀ v, genFold iter X.env v = pure v) (I : Inv X pins σ H s) (h : tGen P wi g te N js stop σ H Q)
    (hQ : ∀ (code : Value) (C it ga : Addr) (go : Obj) (gn n : Nat) (fp : List Addr) (tn : Nat → Heap → Prop) (s2 s5 : Shared) (H2 H5 : Hp) (W : Nat → Nat → L2.St → Hp → Prop),
      (∀ s : Shared, s.heap.get? ga = some go → s.heap.IsGen ga gn) → s5.heap.get? ga = some go →
      GSt X (gX X N elt tg iter scope gpos (cloFrom X.env.cells scope.names []) code C it fp s2 H2 [(ga, go)]) fp tn W (fun H' => Q (.bl (!stop)) H') (KB stop W fun b H' => Q (.bl b) H') gn n H5 s5 →
      (∀ σ' H' s', Inv (gX X N elt tg iter scope gpos (cloFrom X.env.cells scope.names []) code C it fp s2 H2 [(ga, go)]) [] σ' H' s' → Inv X pins σ H' s') → Q' (.ref ga) s5) :
    wpAny (model X.prog X.w) X.A (eval (gexp elt tg iter scope gpos) X.env) Q' X.xe s := by
  have hcl : ∀ y ∈ scope.names, y.2 = .free → ∃ c, X.env.cells.lookup y.1 = some c := fun y hy e => (hfree y.1 (S.free y hy e)).elim (fun z => I.ok.has _ (.inl z)) fun z => I.ok.has _ (.inr z)
  refine wpAny_GeneratorExp_make S.co (closure_ok hcl) S.nocell S.dot S.kind hr.depth ?_ hs
  refine thn (hi.run pins s σ H _ I h) fun xv s1 h1 => thn h1 fun itv s2 h2 => ?_
  obtain ⟨it, fp, tn, J, H2, rfl, I2, T, st2, f2, ⟨ps, hP, ht⟩, q2⟩ := h2
  have hPs : s2.heap.get? P = some { cls := .none, data := .fields ps } := I2.hok P _ hP
  have cd : PySem.W.CodeHd s2.heap c P := TB.code.keeps I2.bk
  have fpo : ∀ b ∈ fp, ∃ o, s2.heap.get? b = some o ∧ ∀ v, o.data ≠ .cell v := T.obj 0 _ st2
  have fpP : ∀ b ∈ fp, b ≠ P := fun b hb z => by
    have := (f2 b hb).1
    rw [z, hP] at this
    cases this
  refine ⟨I2.nolimit, ?_⟩
  have cont : ∀ (cv : Value) (h3 : Heap) (tk : Nat) (ps' : Array Value), Heap.ExtBut P s2.heap h3 → s2.heap.objs.size ≤ h3.objs.size → h3.get? P = some { cls := .none, data := .fields ps' } → (∃ more, ps' = ps ++ more) → TriplesOk ps'.toList →
      wpAny (model X.prog X.w) X.A (builtinsFor X.env.globals X.env.builtins) (fun bi s₄ =>
        ∀ h', (h'.Ns s₄.heap.objs.size fun y => if y = (".0" : Str) then some (Value.ref it) else none) → Heap.SameBut s₄.heap.objs.size (s₄.heap.push { cls := .type "frame", data := .dict #[] }) h' →
          Q' (.ref h'.objs.size) { s₄ with
            gens := s₄.gens.push (.fresh (gstart elt tg iter scope gpos (.ref it) (genEnv scope (cloFrom X.env.cells scope.names []) s₄.heap.objs.size cv bi X.env))),
            toks := s₄.toks + 1 + 1 + 1,
            heap := h'.push { cls := .type "generator", data := .fields #[.int s₄.gens.size 0, .str "<genexpr>" (s₄.toks + 1), .str (X.env.qual ++ "<genexpr>") (s₄.toks + 1 + 1)] } }) X.xe { s2 with heap := h3, toks := tk } := by
    intro cv h3 tk ps' hx hsz hP3 hmore ht3
    obtain ⟨bm, ob, e1, e2, e3, e4, e5, e6, e7, e8⟩ := TB.bm
    have keep3 : ∀ b u, b ≠ P → s2.heap.get? b = some u → h3.get? b = some u := fun b u hb e => hx b u hb e
    refine wpAny_builtinsFor (m := X.mg) (by rw [I2.ok.glob]; exact (I2.mod.glob.keeps I2.bk).extBut hx TB.gP) e1 e2 (keep3 _ _ e4 (I2.bk _ _ e5)) e6 e7 e8 ?_
    intro h' hns hsb
    obtain ⟨more, em⟩ := hmore
    have hC : s2.heap.objs.size ≤ h3.objs.size := hsz
    have sz' : h'.objs.size = h3.objs.size + 1 := by rw [hsb.1, Heap.size_push]
    have keep' : ∀ b u, h3.get? b = some u → h'.get? b = some u := fun b u e => hsb.extBut b u (Nat.ne_of_lt (Heap.lt_size e)) (Heap.get?_push_of_some _ e)
    generalize hgo : ({ cls := .type "generator", data := .fields #[.int ({ s2 with heap := h3, toks := tk } : Shared).gens.size 0, .str "<genexpr>" (({ s2 with heap := h3, toks := tk } : Shared).toks + 1), .str (X.env.qual ++ "<genexpr>") (({ s2 with heap := h3, toks := tk } : Shared).toks + 1 + 1)] } : Obj) = go
    have gens : ∀ s : Shared, s.heap.get? h'.objs.size = some go → s.heap.IsGen h'.objs.size s2.gens.size := fun s e => by
      rw [← hgo] at e
      exact ⟨_, _, _, e, rfl, rfl, rfl⟩
    have hgat : (h'.push go).get? h'.objs.size = some go := Heap.get?_push_size _ (by rw [← hgo]; rfl)
    have keep5 : ∀ b u, b ≠ P → s2.heap.get? b = some u → (h'.push go).get? b = some u := fun b u hb e => Heap.get?_push_of_some _ (keep' b u (keep3 b u hb e))
    have hP5 : (h'.push go).get? P = some { cls := .none, data := .fields ps' } := Heap.get?_push_of_some _ (keep' _ _ hP3)
    have hPlt : P < s2.heap.objs.size := Heap.lt_size hPs
    -- the caller's invariant at the end of the making
    have J : Inv X pins σ (upd H2 P (.tbl (ps ++ more))) { s2 with heap := h'.push go, gens := s2.gens.push (.fresh (gstart elt tg iter scope gpos (.ref it) (cenvOf X scope (cloFrom X.env.cells scope.names []) cv h3.objs.size))), drawn := s2.drawn, toks := tk + 1 + 1 + 1 } :=
      inv_tab (more := more) I2 hP (fun b u hb e => keep5 b u hb e) (by rw [← em]; exact hP5) (I2.bare.push rfl)
    have tb5 : Tabbed P H2 (upd H2 P (.tbl (ps ++ more))) := ⟨⟨ps ++ more, upd_same, by rw [← em]; exact ht3⟩, fun b hb => upd_ne hb⟩
    obtain ⟨W, ⟨m, w0⟩, turn⟩ := q2 _ tb5
    have fpn : ∀ b ∈ fp, upd H2 P (.tbl (ps ++ more)) b = none := fun b hb => by rw [upd_ne (fpP b hb)]; exact (f2 b hb).1
    have fpl : ∀ b ∈ fp, b < s2.heap.objs.size := fun b hb => by
      obtain ⟨o, e, _⟩ := fpo b hb
      exact Heap.lt_size e
    have un5 : Un (frs X.stack) fp H2 (upd H2 P (.tbl (ps ++ more))) s2.heap (h'.push go) := by
      have nP : ∀ b u, H2 b = some u → (∀ q, u ≠ .tbl q) → b ≠ P := fun b u e q z => by
        rw [z, hP] at e
        exact q ps (Option.some.inj e).symm
      have nN : ∀ b, H2 b = none → b ≠ P := fun b e z => by
        rw [z, hP] at e
        cases e
      refine ⟨fun b o e n _ _ => keep5 b o (nN b n) e, fun b o e n _ _ => ⟨o.slots, keep5 b o (nN b n) e⟩, fun b o e n _ => by rw [upd_ne (nN b n)]; exact n, fun b o e _ => ?_, fun b xs e => by rw [upd_ne (nP b _ e (fun q z => by cases z))]; exact e,
        fun b o u e => by rw [upd_ne (nP b _ e (fun q z => by cases z))]; exact e, fun b qs e => ?_⟩
      · by_cases hb : b = P
        · rw [hb]; exact ⟨_, hP5⟩
        · exact ⟨o, keep5 b o hb e⟩
      · by_cases hb : b = P
        · rw [hb, hP] at e
          cases e
          rw [hb, upd_same]
          exact ⟨more, rfl⟩
        · rw [upd_ne hb, e]
          exact ⟨#[], by simp⟩
    have hCn : ∀ b : Addr, s2.heap.objs.size ≤ b → b ≠ P := fun b hb z => by
      rw [z] at hb
      exact Nat.lt_irrefl _ (Nat.lt_of_lt_of_le hPlt hb)
    have hC5 : upd H2 P (.tbl (ps ++ more)) h3.objs.size = none := by rw [upd_ne (hCn _ hC)]; exact I2.hok.fresh hC
    have hga : s2.heap.objs.size ≤ h'.objs.size := by rw [sz']; exact Nat.le_succ_of_le hC
    have cp : Caps X (cloFrom X.env.cells scope.names []) fr js := Caps.made I2.ok (fun y hy e => hfree y.1 (S.free y hy e)) S.frm hjs
    have IG : Inv (gX X N elt tg iter scope gpos (cloFrom X.env.cells scope.names []) cv h3.objs.size it fp s2 H2 [(h'.objs.size, go)]) [] (startF N [] (js.map (slotAt σ))) (upd H2 P (.tbl (ps ++ more)))
        { s2 with heap := h'.push go, gens := s2.gens.push (.fresh (gstart elt tg iter scope gpos (.ref it) (cenvOf X scope (cloFrom X.env.cells scope.names []) cv h3.objs.size))), drawn := s2.drawn, toks := tk + 1 + 1 + 1 } := by
      refine inv_gcx (m := fun y => if y = (".0" : Str) then some (Value.ref it) else none) I2 S cp hr.hd (overL_fr I2.ok.frames) f2 fpl hC (hns.push _) rfl J.bare un5 J.hok hC5 fun p hp => ?_
      rw [List.mem_singleton.mp hp]
      refine ⟨hgat, ?_, ?_, fun z => ?_, fun v z => ?_⟩
      · rw [upd_ne (hCn _ hga)]; exact I2.hok.fresh hga
      · intro z
        have z' : h'.objs.size = h3.objs.size := z
        omega
      · have z' : h'.objs.size ∈ frs X.stack := z
        exact not_stk I2 (Nat.ne_of_gt (Nat.lt_of_lt_of_le I2.lt hga)) (I2.nofs hga) z'
      · have z' : go.data = .cell v := z
        rw [← hgo] at z'
        cases z'
    have gaf : h'.objs.size ∉ fp := fun z => Nat.lt_irrefl _ (Nat.lt_of_lt_of_le (fpl _ z) hga)
    have st5 : tn 0 (h'.push go) := T.keep 0 _ _ st2 fun b hb o e => keep5 b o (fpP b hb) e
    refine hQ cv h3.objs.size it h'.objs.size go s2.gens.size m fp tn s2 _ H2 _ W gens hgat ⟨_, _, IG, fpn, Array.getElem?_push_size .., fun s'' x1 x2 x3 => ⟨rfl, ?_⟩⟩ fun σ' H' s' Ig => ?_
    · have r5 : Room k (gX X N elt tg iter scope gpos (cloFrom X.env.cells scope.names []) cv h3.objs.size it fp s2 H2 [(h'.objs.size, go)]).A := roomL hr
      exact seg_gstart (hg _ _ _ _ _ _ _) (he _ _ _ _ _ _ _ r5) T gaf S.co turn m m s'' s'' _ _ (Nat.le_refl _) w0 (inv_awake IG x1 x2 x3) (by rw [x1]; exact st5) fpn
    · refine Inv.call' (ch := fp) I2 Ig.os Ig.base Ig.hok Ig.bare fun b hb => ?_
      obtain ⟨g1, g2, g3, g4, g5, g6⟩ := f2 b hb
      exact ⟨g4, g2, g5, g6⟩
  cases hf : codeAmong gpos ps.toList with
  | none =>
    refine wpAny_genexprCodeX hcode (cd.code hPs ht) (cd.tab hPs) hf fun c' h' tk hx hge hlt hco' _ htab' _ => ?_
    obtain ⟨o1, vs, f1, tf, fl, tg, inF, tx, tt, op, _, _, _, _, _, _, _, _, _, htr, _⟩ := hco'
    exact cont _ h' tk _ hx (Nat.le_trans hge (Nat.le_of_lt hlt)) htab'.2 ⟨_, rfl⟩ htr
  | some cv =>
    refine wpAny_genexprCode_hit hcode (cd.code hPs ht) hf ?_
    exact cont cv s2.heap s2.toks ps (Heap.ExtBut.refl _ _) (Nat.le_refl _) hPs ⟨#[], by simp⟩ ht

/-- all(elt for tg in iter) -/
theorem pe_all {p pos : Pos} (hr : Room (k + 1) X.A) (hgl : Gl X "all") (hm : X.mg "all" = none) (TB : TabB X.base X.mg c P) (hcode : X.env.code = .ref c) (S : GSc N fr scope)
    (hfree : ∀ y ∈ fr, X.env.scope.names.lookup y = some .cell ∨ X.env.scope.names.lookup y = some .free) (hjs : js.map (fun j => X.N[j]?) = fr.map some)
    (hi : PI X tg iter wi) (hg : ∀ code C it fp s2 H2 pn, PG (gX X N elt tg iter scope gpos (cloFrom X.env.cells scope.names []) code C it fp s2 H2 pn) tg g)
    (he : ∀ code C it fp s2 H2 pn, Room k (gX X N elt tg iter scope gpos (cloFrom X.env.cells scope.names []) code C it fp s2 H2 pn).A → PE (gX X N elt tg iter scope gpos (cloFrom X.env.cells scope.names []) code C it fp s2 H2 pn) elt te)
    (hs : ∀ v, genFold iter X.env v = pure v := by intro _; rfl) (hse : starEach [gexp elt tg iter scope gpos] X.env = (false, eval (gexp elt tg iter scope gpos) X.env) :: starEach [] X.env := by rfl) :
    PE X (.Call (.Name "all" p) [gexp elt tg iter scope gpos] [] pos) (tGen P wi g te N js false) := by
  refine ⟨fun pins s σ H Q I h => ?_⟩
  refine wpAny_Call_Name_kw (ld_blt I hgl hm (by decide +kernel : bootBuiltins "all" = some (.builtin "all")) ?_)
  refine PyProof.Rows.callWith_builtin1 ?_ hse (by rfl)
  rw [hse]
  show wpAny _ _ (spliced ((false, eval (gexp elt tg iter scope gpos) X.env) :: backTo pos (starEach [] X.env))) _ _ s
  refine Calls.spliced_cons (gen_made (stop := false) hr TB hcode S hfree hjs hi hg he hs I h fun code C it ga go gn n fp tn s2 s5 H2 H5 W hgo hga st lv => ?_)
  refine Calls.spliced_nil ?_
  refine call_function_tree F.kind_all F.plain_all F.entry_all (F.args_all1 _) ?_
  unfold Builtin.«all»
  refine wpAny_bind (m := oneArg "all" _) (wpAny_pure ?_)
  refine wpAny_bind (wpAny_pyIter_gen (hgo s5 hga) ?_)
  refine wpAny_pure ⟨plainId_quiet F.plain_all_loop _, ?_⟩
  exact all_loop (Qb := fun b H' => Q (.bl b) H') hr hgo rfl (fun b σ' H' s' Ig _ q => ⟨.bl b, H', lv σ' H' s' Ig, rfl, q⟩) n H5 s5 st

/-- any(elt for tg in iter) -/
theorem pe_any {p pos : Pos} (hr : Room (k + 1) X.A) (hgl : Gl X "any") (hm : X.mg "any" = none) (TB : TabB X.base X.mg c P) (hcode : X.env.code = .ref c) (S : GSc N fr scope)
    (hfree : ∀ y ∈ fr, X.env.scope.names.lookup y = some .cell ∨ X.env.scope.names.lookup y = some .free) (hjs : js.map (fun j => X.N[j]?) = fr.map some)
    (hi : PI X tg iter wi) (hg : ∀ code C it fp s2 H2 pn, PG (gX X N elt tg iter scope gpos (cloFrom X.env.cells scope.names []) code C it fp s2 H2 pn) tg g)
    (he : ∀ code C it fp s2 H2 pn, Room k (gX X N elt tg iter scope gpos (cloFrom X.env.cells scope.names []) code C it fp s2 H2 pn).A → PE (gX X N elt tg iter scope gpos (cloFrom X.env.cells scope.names []) code C it fp s2 H2 pn) elt te)
    (hs : ∀ v, genFold iter X.env v = pure v := by intro _; rfl) (hse : starEach [gexp elt tg iter scope gpos] X.env = (false, eval (gexp elt tg iter scope gpos) X.env) :: starEach [] X.env := by rfl) :
    PE X (.Call (.Name "any" p) [gexp elt tg iter scope gpos] [] pos) (tGen P wi g te N js true) := by
  refine ⟨fun pins s σ H Q I h => ?_⟩
  refine wpAny_Call_Name_kw (ld_blt I hgl hm boot_any ?_)
  refine PyProof.Rows.callWith_builtin1 ?_ hse (by rfl)
  rw [hse]
  show wpAny _ _ (spliced ((false, eval (gexp elt tg iter scope gpos) X.env) :: backTo pos (starEach [] X.env))) _ _ s
  refine Calls.spliced_cons (gen_made (stop := true) hr TB hcode S hfree hjs hi hg he hs I h fun code C it ga go gn n fp tn s2 s5 H2 H5 W hgo hga st lv => ?_)
  refine Calls.spliced_nil ?_
  refine call_function_tree F.kind_any F.plain_any F.entry_any (F.args_any1 _) ?_
  unfold Builtin.«any»
  refine wpAny_bind (m := oneArg "any" _) (wpAny_pure ?_)
  refine wpAny_bind (wpAny_pyIter_gen (hgo s5 hga) ?_)
  refine wpAny_pure ⟨plainId_quiet F.plain_any_loop _, ?_⟩
  exact any_loop (Qb := fun b H' => Q (.bl b) H') hr hgo rfl (fun b σ' H' s' Ig _ q => ⟨.bl b, H', lv σ' H' s' Ig, rfl, q⟩) n H5 s5 st
end
end GA
set_option Elab.async false
set_option linter.all false
set_option maxRecDepth 100000
set_option maxHeartbeats 2000000
/-! own words, 2: heaps that go on, data at any depth with empty dicts, isinstance of data -/
namespace SL
open PySem PySem.Spec PyProof.Rows L2 GxR NdefX GA

/-- the code tables that the law's defs have -/
def Tabs (T : List Addr) (H : Hp) : Prop := ∀ P ∈ T, TabG H P
/-- from H on: what was tracked stands but at M; the tables grow -/
structure Go (T M : List Addr) (H H' : Hp) : Prop where
  gr : ∀ b o, H b = some o → b ∉ M → (∀ ps, o ≠ .tbl ps) → H' b = some o
  al : ∀ b, H' b = none → H b = none
  tb : Tabs T H → Tabs T H'
section
variable {T M M' : List Addr} {H H1 H2 : Hp} {p : Addr} {o : HO}
theorem Go.refl : Go T M H H := ⟨fun _ _ e _ _ => e, fun _ e => e, fun t => t⟩
theorem Go.trans (a : Go T M H H1) (b : Go T M H1 H2) : Go T M H H2 := ⟨fun c o e n t => b.gr c o (a.gr c o e n t) n t, fun c e => a.al c (b.al c e), fun t => b.tb (a.tb t)⟩
theorem Go.more (a : Go T M H H1) (h : ∀ b ∈ M, b ∈ M') : Go T M' H H1 := ⟨fun c o e n t => a.gr c o e (fun z => n (h c z)) t, a.al, a.tb⟩
theorem Go.of0 (a : Go T [] H H1) : Go T M H H1 := a.more fun _ h => by simp at h
theorem Tabs.new (t : Tabs T H) (h : H p = none) : Tabs T (upd H p o) := fun P hP => by
  obtain ⟨ps, e, r⟩ := t P hP
  exact ⟨ps, by rw [upd_ne (ne_of_none e h)]; exact e, r⟩
theorem Go.new (h : H p = none) : Go T M H (upd H p o) := ⟨fun b u e _ _ => by rw [upd_ne (ne_of_none e h)]; exact e, fun b e => upd_none e, fun t => t.new h⟩
theorem Go.set {u : HO} (h : H p = some u) (hu : ∀ ps, u ≠ .tbl ps) (hm : p ∈ M) : Go T M H (upd H p o) :=
  ⟨fun b v e n _ => by rw [upd_ne (fun z => n (by rw [z]; exact hm))]; exact e, fun b e => upd_none e, fun t P hP => by
    obtain ⟨ps, e, r⟩ := t P hP
    exact ⟨ps, by rw [upd_ne (ne_of e h (fun z => hu ps z.symm))]; exact e, r⟩⟩
theorem Go.tbd {P : Addr} (t : TabG H P) (x : Tabbed P H H1) : Go T M H H1 := by
  obtain ⟨ps, e, r⟩ := t
  refine ⟨fun b o hb _ hn => ?_, fun b hb => ?_, fun z Q hQ => ?_⟩
  · by_cases h : b = P
    · rw [h, e] at hb
      exact absurd (Option.some.inj hb).symm (hn ps)
    · rw [x.2 b h]; exact hb
  · by_cases h : b = P
    · obtain ⟨ps', e', _⟩ := x.1
      rw [h, e'] at hb
      cases hb
    · rw [← x.2 b h]; exact hb
  · by_cases h : Q = P
    · rw [h]; exact x.1
    · obtain ⟨qs, e1, e2⟩ := z Q hQ
      exact ⟨qs, by rw [x.2 Q h]; exact e1, e2⟩
theorem Go.over {u : HO} (g : Go T M H H1) (n : H p = none) (e : H1 p = some u) (hu : ∀ ps, u ≠ .tbl ps) : Go T M H (upd H1 p o) :=
  ⟨fun b v h m t => by rw [upd_ne (ne_of_none h n)]; exact g.gr b v h m t, fun b h => g.al b (upd_none h), fun t => (Go.set (M := [p]) e hu (by simp)).tb (g.tb t)⟩
theorem Go.lst {xs : List V} {a : Addr} (g : Go T M H H1) (h : H a = some (.lst xs)) (n : a ∉ M) : H1 a = some (.lst xs) := g.gr a _ h n fun _ z => by cases z
theorem Go.tup {xs : List V} {a : Addr} (g : Go T M H H1) (h : H a = some (.tup xs)) (n : a ∉ M) : H1 a = some (.tup xs) := g.gr a _ h n fun _ z => by cases z
theorem Go.sqT {K : PySem.W.Frag} {xs : List V} {a : Addr} (g : Go T [] H H1) (h : SqT K H a xs) : SqT K H1 a xs := by
  rcases h with (h | ⟨o, h⟩) | h
  · exact .inl (.inl (g.gr a _ h (by simp) fun _ z => by cases z))
  · exact .inl (.inr ⟨o, g.gr a _ h (by simp) fun _ z => by cases z⟩)
  · exact .inr h
theorem Go.sqL {K : PySem.W.Frag} {xs : List V} {a : Addr} (g : Go T [] H H1) (h : SqL K H a xs) : SqL K H1 a xs := by
  rcases h with (h | ⟨o, h⟩) | h
  · exact .inl (.inl (g.gr a _ h (by simp) fun _ z => by cases z))
  · exact .inl (.inr ⟨o, g.gr a _ h (by simp) fun _ z => by cases z⟩)
  · exact .inr h
end

mutual
/-- the value v bears the data d; none of it stands at M -/
inductive Dv (M : List Addr) (H : Hp) : V → PyData → Prop
  | non : Dv M H .non .none
  | bl (b : Bool) : Dv M H (.bl b) (.bool b)
  | int (i : Int) : Dv M H (.int i) (.int i)
  | str (x : Str) : Dv M H (.str x) (.str x)
  | lst {a : Addr} {xs : List V} {ds : List PyData} : H a = some (.lst xs) → a ∉ M → DvAll M H xs ds → Dv M H (.ref a) (.list ds)
  | tup {a : Addr} {xs : List V} {ds : List PyData} : H a = some (.tup xs) → a ∉ M → DvAll M H xs ds → Dv M H (.ref a) (.tuple ds)
  | dct {a : Addr} : H a = some (.dK []) → a ∉ M → Dv M H (.ref a) (.dict [])
inductive DvAll (M : List Addr) (H : Hp) : List V → List PyData → Prop
  | nil : DvAll M H [] []
  | cons {v : V} {vs : List V} {d : PyData} {ds : List PyData} : Dv M H v d → DvAll M H vs ds → DvAll M H (v :: vs) (d :: ds)
end
section
variable {T M M' : List Addr} {H H1 H2 : Hp} {p : Addr} {o : HO}
mutual
theorem Dv.map (g : ∀ b o, H b = some o → b ∉ M → (∀ ps, o ≠ .tbl ps) → H1 b = some o ∧ b ∉ M') : ∀ {v : V} {d : PyData}, Dv M H v d → Dv M' H1 v d
  | _, _, .non => .non
  | _, _, .bl b => .bl b
  | _, _, .int i => .int i
  | _, _, .str x => .str x
  | _, _, .lst e n r => .lst (g _ _ e n fun _ z => by cases z).1 (g _ _ e n fun _ z => by cases z).2 (DvAll.map g r)
  | _, _, .tup e n r => .tup (g _ _ e n fun _ z => by cases z).1 (g _ _ e n fun _ z => by cases z).2 (DvAll.map g r)
  | _, _, .dct e n => .dct (g _ _ e n fun _ z => by cases z).1 (g _ _ e n fun _ z => by cases z).2
theorem DvAll.map (g : ∀ b o, H b = some o → b ∉ M → (∀ ps, o ≠ .tbl ps) → H1 b = some o ∧ b ∉ M') : ∀ {vs : List V} {ds : List PyData}, DvAll M H vs ds → DvAll M' H1 vs ds
  | _, _, .nil => .nil
  | _, _, .cons h t => .cons (Dv.map g h) (DvAll.map g t)
end
theorem Dv.go {v : V} {d : PyData} (h : Dv M H v d) (g : Go T M H H1) : Dv M H1 v d := h.map fun b o e n t => ⟨g.gr b o e n t, n⟩
theorem DvAll.go {v : List V} {d : List PyData} (h : DvAll M H v d) (g : Go T M H H1) : DvAll M H1 v d := h.map fun b o e n t => ⟨g.gr b o e n t, n⟩
theorem Dv.less {v : V} {d : PyData} (h : Dv M H v d) (s : ∀ b ∈ M', b ∈ M) : Dv M' H v d := h.map fun b o e n _ => ⟨e, fun z => n (s b z)⟩
theorem DvAll.less {v : List V} {d : List PyData} (h : DvAll M H v d) (s : ∀ b ∈ M', b ∈ M) : DvAll M' H v d := h.map fun b o e n _ => ⟨e, fun z => n (s b z)⟩
/-- a new object is kept apart from now on -/
theorem Dv.hide {v : V} {d : PyData} (h : Dv M H v d) (hp : H p = none) : Dv (p :: M) H v d := h.map fun b o e n _ => ⟨e, fun z => (List.mem_cons.mp z).elim (fun y => by rw [y, hp] at e; cases e) n⟩
theorem DvAll.hide {v : List V} {d : List PyData} (h : DvAll M H v d) (hp : H p = none) : DvAll (p :: M) H v d := h.map fun b o e n _ => ⟨e, fun z => (List.mem_cons.mp z).elim (fun y => by rw [y, hp] at e; cases e) n⟩

theorem DvAll.length : ∀ {xs : List V} {ds : List PyData}, DvAll M H xs ds → xs.length = ds.length
  | _, _, .nil => rfl
  | _, _, .cons _ t => by rw [List.length_cons, List.length_cons, DvAll.length t]
theorem DvAll.append : ∀ {xs ys : List V} {ds es : List PyData}, DvAll M H xs ds → DvAll M H ys es → DvAll M H (xs ++ ys) (ds ++ es)
  | _, _, _, _, .nil, s => s
  | _, _, _, _, .cons r t, s => .cons r (DvAll.append t s)
theorem DvAll.take : ∀ {xs : List V} {ds : List PyData} (n : Nat), DvAll M H xs ds → DvAll M H (xs.take n) (ds.take n)
  | _, _, 0, _ => .nil
  | _, _, _ + 1, .nil => .nil
  | _, _, n + 1, .cons r t => .cons r (DvAll.take n t)
theorem DvAll.drop : ∀ {xs : List V} {ds : List PyData} (n : Nat), DvAll M H xs ds → DvAll M H (xs.drop n) (ds.drop n)
  | _, _, 0, r => r
  | _, _, _ + 1, .nil => .nil
  | _, _, n + 1, .cons _ t => DvAll.drop n t
theorem DvAll.get : ∀ {xs : List V} {ds : List PyData} {i : Nat} {x : V}, DvAll M H xs ds → xs[i]? = some x → ∃ d, ds[i]? = some d ∧ Dv M H x d
  | _, _, _, _, .nil, e => by simp at e
  | _, _, 0, _, .cons r _, e => by simp at e; subst e; exact ⟨_, rfl, r⟩
  | _, _, i + 1, x, .cons _ t, e => by
    obtain ⟨u, h1, h2⟩ := DvAll.get (i := i) (x := x) t (by simpa using e)
    exact ⟨u, by simpa using h1, h2⟩
theorem DvAll.getD : ∀ {xs : List V} {ds : List PyData} {i : Nat} {d : PyData}, DvAll M H xs ds → ds[i]? = some d → ∃ x, xs[i]? = some x ∧ Dv M H x d
  | _, _, _, _, .nil, e => by simp at e
  | _, _, 0, _, .cons r _, e => by simp at e; subst e; exact ⟨_, rfl, r⟩
  | _, _, i + 1, x, .cons _ t, e => by
    obtain ⟨u, h1, h2⟩ := DvAll.getD (i := i) (d := x) t (by simpa using e)
    exact ⟨u, by simpa using h1, h2⟩
theorem DvAll.strs : ∀ (xs : List Str), DvAll M H (xs.map V.str) (xs.map PyData.str)
  | [] => .nil
  | x :: r => .cons (.str x) (DvAll.strs r)
theorem DvAll.of_strs : ∀ {vs : List V} {xs : List Str}, DvAll M H vs (xs.map PyData.str) → vs = xs.map V.str
  | [], [], _ => rfl
  | _ :: _, _ :: _, .cons h t => by
    cases h
    rw [DvAll.of_strs t] <;> rfl
theorem DvAll.ints : ∀ (xs : List Int), DvAll M H (xs.map V.int) (xs.map PyData.int)
  | [] => .nil
  | x :: r => .cons (.int x) (DvAll.ints r)
/-- the slices' bounds -/
theorem DvAll.cut {xs : List V} {ds : List PyData} (h : DvAll M H xs ds) (lo hi : Option Int) : DvAll M H (cutV xs lo hi) ((ds.drop (HT.sIx ds.length 0 lo)).take (HT.sIx ds.length ds.length hi - HT.sIx ds.length 0 lo)) := by
  unfold cutV
  rw [h.length]
  exact (h.drop _).take _
end

/-! ### isinstance -/
def tyN : PyData → String
  | .none => "NoneType"
  | .bool _ => "bool"
  | .int _ => "int"
  | .str _ => "str"
  | .list _ => "list"
  | .tuple _ => "tuple"
  | .dict _ => "dict"
section
variable {K : PySem.W.Frag} {M : List Addr} {H : Hp} {v : V} {d : PyData} {Q : VK}
theorem Dv.ty (h : Dv M H v d) : TyX K H v (.type (tyN d)) := by
  cases h with
  | non => exact .base .non
  | bl b => exact .base (.bl b)
  | int i => exact .base (.int i)
  | str x => exact .base (.str x)
  | lst e _ _ => exact .base (.lst e)
  | tup e _ _ => exact .base (.tup e)
  | dct e _ => exact .base (.dK e)
def isTuple : PyData → Bool
  | .tuple _ => true
  | _ => false
def isStr : PyData → Bool
  | .str _ => true
  | _ => false
def isInt : PyData → Bool
  | .int _ => true
  | .bool _ => true
  | _ => false
def isBool : PyData → Bool
  | .bool _ => true
  | _ => false
theorem isi_of {T : String} {b : Bool} (h : Dv M H v d) (k : kitB (tyN d) T = some b) (q : Q (.bl b) H) : rIsi K [v, .ty T] H Q := ⟨v, .ty T, _, .type T, b, rfl, .ty T, h.ty, kit_ty k, q⟩
theorem isi_tuple (h : Dv M H v d) (q : Q (.bl (isTuple d)) H) : rIsi K [v, .ty "tuple"] H Q := by
  refine isi_of h ?_ q
  cases d <;> first
    | exact (by decide +kernel : kitB "NoneType" "tuple" = some false)
    | exact (by decide +kernel : kitB "bool" "tuple" = some false)
    | exact (by decide +kernel : kitB "int" "tuple" = some false)
    | exact (by decide +kernel : kitB "str" "tuple" = some false)
    | exact (by decide +kernel : kitB "list" "tuple" = some false)
    | exact (by decide +kernel : kitB "tuple" "tuple" = some true)
    | exact (by decide +kernel : kitB "dict" "tuple" = some false)
theorem isi_str (h : Dv M H v d) (q : Q (.bl (isStr d)) H) : rIsi K [v, .ty "str"] H Q := by
  refine isi_of h ?_ q
  cases d <;> first
    | exact (by decide +kernel : kitB "NoneType" "str" = some false)
    | exact (by decide +kernel : kitB "bool" "str" = some false)
    | exact (by decide +kernel : kitB "int" "str" = some false)
    | exact (by decide +kernel : kitB "str" "str" = some true)
    | exact (by decide +kernel : kitB "list" "str" = some false)
    | exact (by decide +kernel : kitB "tuple" "str" = some false)
    | exact (by decide +kernel : kitB "dict" "str" = some false)
theorem isi_int (h : Dv M H v d) (q : Q (.bl (isInt d)) H) : rIsi K [v, .ty "int"] H Q := by
  refine isi_of h ?_ q
  cases d <;> first
    | exact (by decide +kernel : kitB "NoneType" "int" = some false)
    | exact (by decide +kernel : kitB "bool" "int" = some true)
    | exact (by decide +kernel : kitB "int" "int" = some true)
    | exact (by decide +kernel : kitB "str" "int" = some false)
    | exact (by decide +kernel : kitB "list" "int" = some false)
    | exact (by decide +kernel : kitB "tuple" "int" = some false)
    | exact (by decide +kernel : kitB "dict" "int" = some false)
theorem isi_bool (h : Dv M H v d) (q : Q (.bl (isBool d)) H) : rIsi K [v, .ty "bool"] H Q := by
  refine isi_of h ?_ q
  cases d <;> first
    | exact (by decide +kernel : kitB "NoneType" "bool" = some false)
    | exact (by decide +kernel : kitB "bool" "bool" = some true)
    | exact (by decide +kernel : kitB "int" "bool" = some false)
    | exact (by decide +kernel : kitB "str" "bool" = some false)
    | exact (by decide +kernel : kitB "list" "bool" = some false)
    | exact (by decide +kernel : kitB "tuple" "bool" = some false)
    | exact (by decide +kernel : kitB "dict" "bool" = some false)
end
end SL
set_option Elab.async false
set_option linter.all false
set_option maxRecDepth 100000
set_option maxHeartbeats 2000000
/-! own words, 3: a def as its callers know it; the built-ins' names -/
namespace SL
open PySem PySem.Spec PyProof.Rows L2 GxR NdefX GA

/-- a def as its callers know it -/
structure Fnn (P : Program) (w : World) (K : PySem.W.Frag) (mg : Str → Option Value) (base : Heap) (CX : CXT) (k : Nat) (x : Str) (ps : List Str) (sp : Sp) : Prop where
  ex : ∃ (f : Addr) (fd : FuncData), FnOk P w K mg base CX k f fd ps sp ∧ mg x = some (.ref f) ∧ PySem.W.keepIn K (.ref f) = true ∧ Binds K fd ps []
/-- .. and by keywords -/
structure Fnk (P : Program) (w : World) (K : PySem.W.Frag) (mg : Str → Option Value) (base : Heap) (CX : CXT) (k : Nat) (x : Str) (ps ks : List Str) (g : List V → List V → List V) (sp : Sp) : Prop where
  ex : ∃ (f : Addr) (fd : FuncData) (gu : List Value → List Value → List Value), FnOk P w K mg base CX k f fd ps sp ∧ mg x = some (.ref f) ∧ PySem.W.keepIn K (.ref f) = true ∧ KBinds K fd ps ks gu g
section
variable {X : Cx} {CX : CXT} {k j : Nat} {x : Str} {ps ks : List Str} {sp : Sp} {e : Expr} {es : List Expr} {t tk : TA} {p pos : Pos} {E : XK}
theorem pe_fn (F : Fnn X.prog X.w X.K X.mg X.base CX k x ps sp) (hr : Room j X.A) (hk : k ≤ j) (hx : Passes CX X E) (ha : PA X (e :: es) t) (hg : Gl X x := by rfl) (hdb : (x == ("__debug__" : Str)) = false := by decide)
    (he : starEach (e :: es) X.env = (false, eval e X.env) :: starEach es X.env := by rfl) (hpl : (backTo pos (starEach es X.env)).any (·.1) = false := by rfl) : PE X (.Call (.Name x p) (e :: es) [] pos) (tCall sp [] E t) := by
  obtain ⟨f, fd, G, m, kp, b⟩ := F.ex
  exact pe_call G (hr.mono hk) hg m kp b .nil hx ha hdb he hpl
theorem pe_fn0 (F : Fnn X.prog X.w X.K X.mg X.base CX k x ps sp) (hr : Room j X.A) (hk : k ≤ j) (hx : Passes CX X E) (hg : Gl X x := by rfl) (hdb : (x == ("__debug__" : Str)) = false := by decide) : PE X (.Call (.Name x p) [] [] pos) (tCall sp [] E tNil) := by
  obtain ⟨f, fd, G, m, kp, b⟩ := F.ex
  exact pe_call0 G (hr.mono hk) hg m kp b .nil hx hdb
end

/-- no module name hides a built-in that is used -/
structure Bl (mg : Str → Option Value) : Prop where
  isinst : mg "isinstance" = none
  len : mg "len" = none
  all : mg "all" = none
  any : mg "any" = none
  set : mg "set" = none
  range : mg "range" = none
  tuple : mg "tuple" = none
  list : mg "list" = none
  int : mg "int" = none
  str : mg "str" = none
  bool : mg "bool" = none
  repr : mg "repr" = none
section
variable {X : Cx} {a : Expr} {ta : TE} {p q pos : Pos}
/-- isinstance(a, T) of data -/
def rIsiD (T : String) (g : PyData → Bool) : List V → Hp → VK → Prop := fun xs H Q => ∃ (x : V) (M : List Addr) (d : PyData), xs = [x, .ty T] ∧ Dv M H x d ∧ Q (.bl (g d)) H
theorem call_isi_tuple : CallR X (.builtin "isinstance") (rIsiD "tuple" isTuple) := fun pins s σ H xs us Q I r ⟨x, M, d, e, h, q⟩ => call_isi pins s σ H xs us Q I r (by rw [e]; exact isi_tuple h q)
theorem call_isi_str : CallR X (.builtin "isinstance") (rIsiD "str" isStr) := fun pins s σ H xs us Q I r ⟨x, M, d, e, h, q⟩ => call_isi pins s σ H xs us Q I r (by rw [e]; exact isi_str h q)
theorem call_isi_int : CallR X (.builtin "isinstance") (rIsiD "int" isInt) := fun pins s σ H xs us Q I r ⟨x, M, d, e, h, q⟩ => call_isi pins s σ H xs us Q I r (by rw [e]; exact isi_int h q)
theorem call_isi_bool : CallR X (.builtin "isinstance") (rIsiD "bool" isBool) := fun pins s σ H xs us Q I r ⟨x, M, d, e, h, q⟩ => call_isi pins s σ H xs us Q I r (by rw [e]; exact isi_bool h q)
theorem pe_isi_tuple (B : Bl X.mg) (ha : PE X a ta) (h1 : Gl X "isinstance" := by rfl) (h2 : Gl X "tuple" := by rfl)
    (he : starEach (a :: [.Name "tuple" q]) X.env = (false, eval a X.env) :: starEach [.Name "tuple" q] X.env := by rfl) : PE X (.Call (.Name "isinstance" p) [a, .Name "tuple" q] [] pos) (tCB (rIsiD "tuple" isTuple) (tCons ta (tCons (tC (.ty "tuple")) tNil))) :=
  pe_callB call_isi_tuple h1 B.isinst (by decide +kernel) (pa_cons ha (pa_cons (pe_bltn (v := .ty "tuple") h2 B.tuple (by decide +kernel) rfl) pa_nil) he) (by decide) (by decide) he
theorem pe_isi_str (B : Bl X.mg) (ha : PE X a ta) (h1 : Gl X "isinstance" := by rfl) (h2 : Gl X "str" := by rfl)
    (he : starEach (a :: [.Name "str" q]) X.env = (false, eval a X.env) :: starEach [.Name "str" q] X.env := by rfl) : PE X (.Call (.Name "isinstance" p) [a, .Name "str" q] [] pos) (tCB (rIsiD "str" isStr) (tCons ta (tCons (tC (.ty "str")) tNil))) :=
  pe_callB call_isi_str h1 B.isinst (by decide +kernel) (pa_cons ha (pa_cons (pe_bltn (v := .ty "str") h2 B.str (by decide +kernel) rfl) pa_nil) he) (by decide) (by decide) he
theorem pe_isi_int (B : Bl X.mg) (ha : PE X a ta) (h1 : Gl X "isinstance" := by rfl) (h2 : Gl X "int" := by rfl)
    (he : starEach (a :: [.Name "int" q]) X.env = (false, eval a X.env) :: starEach [.Name "int" q] X.env := by rfl) : PE X (.Call (.Name "isinstance" p) [a, .Name "int" q] [] pos) (tCB (rIsiD "int" isInt) (tCons ta (tCons (tC (.ty "int")) tNil))) :=
  pe_callB call_isi_int h1 B.isinst (by decide +kernel) (pa_cons ha (pa_cons (pe_bltn (v := .ty "int") h2 B.int (by decide +kernel) rfl) pa_nil) he) (by decide) (by decide) he
theorem pe_isi_bool (B : Bl X.mg) (ha : PE X a ta) (h1 : Gl X "isinstance" := by rfl) (h2 : Gl X "bool" := by rfl)
    (he : starEach (a :: [.Name "bool" q]) X.env = (false, eval a X.env) :: starEach [.Name "bool" q] X.env := by rfl) : PE X (.Call (.Name "isinstance" p) [a, .Name "bool" q] [] pos) (tCB (rIsiD "bool" isBool) (tCons ta (tCons (tC (.ty "bool")) tNil))) :=
  pe_callB call_isi_bool h1 B.isinst (by decide +kernel) (pa_cons ha (pa_cons (pe_bltn (v := .ty "bool") h2 B.bool (by decide +kernel) rfl) pa_nil) he) (by decide) (by decide) he
/-- len of a list or tuple; of a text -/
theorem pe_lenq (B : Bl X.mg) (ha : PE X a ta) (h1 : Gl X "len" := by rfl) (he : starEach (a :: []) X.env = (false, eval a X.env) :: starEach [] X.env := by rfl) : PE X (.Call (.Name "len" p) [a] [] pos) (tCB (fun xs H Q => ∃ p ys, xs = [.ref p] ∧ (SqL X.K H p ys ∨ SqT X.K H p ys) ∧ Q (.int ys.length) H) (tCons ta tNil)) :=
  pe_callB call_len_seq h1 B.len PySem.boot_len (pa_cons ha pa_nil he) (by decide) (by decide) he
theorem pe_lens (B : Bl X.mg) (ha : PE X a ta) (h1 : Gl X "len" := by rfl) (he : starEach (a :: []) X.env = (false, eval a X.env) :: starEach [] X.env := by rfl) : PE X (.Call (.Name "len" p) [a] [] pos) (tCB (fun xs H Q => ∃ z, xs = [.str z] ∧ z.length ≤ sizeLine ∧ Q (.int z.length) H) (tCons ta tNil)) :=
  pe_callB call_len_str h1 B.len PySem.boot_len (pa_cons ha pa_nil he) (by decide) (by decide) he
end
theorem if_true_of {c : Bool} {A B : Prop} (hc : c = true) (h : A) : if c = true then A else B := by
  rw [if_pos hc]
  exact h
theorem if_false_of {c : Bool} {A B : Prop} (hc : c = false) (h : B) : if c = true then A else B := by
  rw [hc, if_neg Bool.false_ne_true]
  exact h
theorem sz {n : Nat} (h : n ≤ 16777216) : n ≤ sizeLine := by rw [sizeLine_eq]; exact h
end SL
set_option Elab.async false
set_option linter.all false
set_option maxRecDepth 100000
set_option maxHeartbeats 4000000
/-! own words, 4: how many unlike texts a list has: len(set(xs)) -/
namespace SL
open PySem PySem.Spec PyProof.Rows L2 GxR NdefX GA

def uniq (l : List Str) : List Str := l.foldl (fun acc x => if x ∈ acc then acc else acc ++ [x]) []
theorem uniq_snoc (l : List Str) (x : Str) : uniq (l ++ [x]) = if x ∈ uniq l then uniq l else uniq l ++ [x] := by
  unfold uniq
  rw [List.foldl_append] <;> rfl
theorem mem_uniq {x : Str} : ∀ {l : List Str}, x ∈ uniq l ↔ x ∈ l := by
  have key : ∀ (l : List Str) (acc : List Str), x ∈ l.foldl (fun acc x => if x ∈ acc then acc else acc ++ [x]) acc ↔ x ∈ acc ∨ x ∈ l := by
    intro l
    induction l with
    | nil => intro acc; simp
    | cons y r ih =>
      intro acc
      rw [List.foldl_cons, ih]
      by_cases h : y ∈ acc
      · rw [if_pos h]
        constructor
        · rintro (h1 | h1)
          · exact .inl h1
          · exact .inr (List.mem_cons_of_mem _ h1)
        · rintro (h1 | h1)
          · exact .inl h1
          · rcases List.mem_cons.mp h1 with rfl | h1
            · exact .inl h
            · exact .inr h1
      · rw [if_neg h, List.mem_append, List.mem_singleton, List.mem_cons]
        constructor
        · rintro ((h1 | h1) | h1)
          · exact .inl h1
          · exact .inr (.inl h1)
          · exact .inr (.inr h1)
        · rintro (h1 | h1 | h1)
          · exact .inl (.inl h1)
          · exact .inl (.inr h1)
          · exact .inr h1
  intro l
  have := key l []
  simpa [uniq] using this
theorem uniq_le : ∀ l : List Str, (uniq l).length ≤ l.length := by
  have key : ∀ (l acc : List Str), (l.foldl (fun acc x => if x ∈ acc then acc else acc ++ [x]) acc).length ≤ acc.length + l.length := by
    intro l
    induction l with
    | nil => intro acc; simp
    | cons y r ih =>
      intro acc
      rw [List.foldl_cons]
      refine Nat.le_trans (ih _) ?_
      split
      · simp only [List.length_cons]; omega
      · simp only [List.length_append, List.length_cons, List.length_nil]; omega
  intro l
  simpa [uniq] using key l []
theorem nodup_uniq : ∀ l : List Str, (uniq l).Nodup := by
  have key : ∀ (l acc : List Str), acc.Nodup → (l.foldl (fun acc x => if x ∈ acc then acc else acc ++ [x]) acc).Nodup := by
    intro l
    induction l with
    | nil => intro acc h; exact h
    | cons y r ih =>
      intro acc h
      rw [List.foldl_cons]
      refine ih _ ?_
      split
      · exact h
      · rename_i hn
        refine List.nodup_append.mpr ⟨h, by simp, fun a ha b hb => ?_⟩
        rw [List.mem_singleton.mp hb]
        exact fun e => hn (e ▸ ha)
  intro l
  exact key l [] (by simp)
/-- all are unlike exactly if as many are counted -/
theorem uniq_len {l : List Str} : (uniq l).length = l.length ↔ l.Nodup := by
  have key : ∀ (l acc : List Str), acc.Nodup → ((l.foldl (fun acc x => if x ∈ acc then acc else acc ++ [x]) acc).length = acc.length + l.length ↔ (acc ++ l).Nodup) := by
    intro l
    induction l with
    | nil => intro acc h; simpa using h
    | cons y r ih =>
      intro acc h
      rw [List.foldl_cons]
      by_cases hy : y ∈ acc
      · rw [if_pos hy]
        have z : (r.foldl (fun acc x => if x ∈ acc then acc else acc ++ [x]) acc).length ≤ acc.length + r.length := by
          have key2 : ∀ (l acc : List Str), (l.foldl (fun acc x => if x ∈ acc then acc else acc ++ [x]) acc).length ≤ acc.length + l.length := by
            intro l
            induction l with
            | nil => intro acc; simp
            | cons y r ih =>
              intro acc
              rw [List.foldl_cons]
              refine Nat.le_trans (ih _) ?_
              split
              · simp only [List.length_cons]; omega
              · simp only [List.length_append, List.length_cons, List.length_nil]; omega
          exact key2 r acc
        constructor
        · intro e
          rw [List.length_cons] at e
          omega
        · intro nd
          have := (List.nodup_append.mp nd).2.2 y hy y List.mem_cons_self
          exact absurd rfl this
      · rw [if_neg hy]
        have nd' : (acc ++ [y]).Nodup := List.nodup_append.mpr ⟨h, by simp, fun a ha b hb => by rw [List.mem_singleton.mp hb]; exact fun e => hy (e ▸ ha)⟩
        have := ih (acc ++ [y]) nd'
        rw [List.length_append, List.length_singleton, List.append_assoc, List.singleton_append] at this
        rw [List.length_cons, ← this]
        constructor <;> intro e <;> omega
  have := key l [] (by simp)
  simpa [uniq] using this

section
variable {prog : Program} {w : World} {A : Around} {R : Result → Shared → Prop} {I : Addr} {fp wr : List Addr} {G : Array GenState → Array GenState → Prop} {n : Nat} {P : Nat → Value → Prop} {St : Nat → Shared → Prop}
/-- each text of the walk is put into the set at S -/
theorem loop_strs (W : WalksS prog w A.in1 I fp wr G n P St) (S : Addr) (hSf : S ∉ fp) (xs : List Str) (hsz : xs.length = n) (hn1 : n + 2 < scanBound)
    (hval : ∀ i v, P i v → ∃ t, v = .str (xs.getD i Str.empty) t) :
    ∀ (k i : Nat) (s : Shared), n - i = k → i ≤ n → St i s →
      s.heap.SetOf (PySem.strKind prog w) S (fun q => decide (q ∈ xs.take i)) (uniq (xs.take i)).length →
      (∀ s', Moved (S :: wr) G s s' → s'.heap.SetOf (PySem.strKind prog w) S (fun q => decide (q ∈ xs)) (uniq xs).length → R (.ok (.ret .none)) s') →
      codeAny (model prog w) A (.builtin "set.update.loop" ⟨[.ref S, .ref I], []⟩) R s := by
  have hSw : S ∉ wr := fun h => hSf (W.sub _ h)
  have up : ∀ b ∈ wr, b ∈ S :: wr := fun b hb => List.mem_cons_of_mem _ hb
  have still : ∀ {s s' : Shared} {q : Str → Bool} {m : Nat}, Moved wr G s s' → s.heap.SetOf (PySem.strKind prog w) S q m → s'.heap.SetOf (PySem.strKind prog w) S q m := fun hm ⟨o, es, ep, t, ho, r⟩ => ⟨o, es, ep, t, hm.heap S _ hSw ho, r⟩
  intro k
  induction k with
  | zero =>
    intro i s hk hi hst hS hR
    have hin : i = n := by omega
    subst hin
    rw [List.take_of_length_le (by omega)] at hS
    refine codeAny_builtin PyProof.Rows.F.entry_set_update_loop ?_
    rw [Around.under_plainId PyProof.Rows.F.plain_set_update_loop _]
    show wpAny _ A.in1 (pyNext (.ref I) >>= _) _ _ s
    exact wpAny_bind (W.done s _ _ hst fun s' hm => wpAny_pure (hR s' (hm.mono up) (still hm hS)))
  | succ k ih =>
    intro i s hk hi hst hS hR
    have hlt : i < n := by omega
    have hlx : i < xs.length := by omega
    refine codeAny_builtin PyProof.Rows.F.entry_set_update_loop ?_
    rw [Around.under_plainId PyProof.Rows.F.plain_set_update_loop _]
    show wpAny _ A.in1 (pyNext (.ref I) >>= _) _ _ s
    refine wpAny_bind (W.item i s _ _ hlt hst fun v s' hP hst' hm => ?_)
    obtain ⟨t, rfl⟩ := hval i v hP
    have hS' := still hm hS
    show wpAny _ A.in1 (holding [Value.str (xs.getD i Str.empty) t] (setAdd S (.str (xs.getD i Str.empty) t)) >>= _) _ _ s'
    refine wpAny_bind (wpAny_holding ?_)
    unfold setAdd
    refine wpAny_holding (wpAny_bind ((PySem.strKind prog w).pyHash (k := xs.getD i Str.empty) (strKind_is _ _ _ _) ?_))
    have hcnt : (uniq (xs.take i)).length + 1 < scanBound := by
      have := uniq_le (xs.take i)
      rw [List.length_take] at this
      omega
    refine wpAny_setAddHashed_of (knd := PySem.strKind prog w) (s := { s' with toks := s'.toks + 1 }) (strKind_is _ _ _ _) rfl hS' hcnt fun h' hsb hS2 => ?_
    have et : xs.take (i + 1) = xs.take i ++ [xs.getD i Str.empty] := by
      rw [List.take_add_one, List.getD_eq_getElem?_getD, List.getElem?_eq_getElem hlx] <;> rfl
    have hSi : h'.SetOf (PySem.strKind prog w) S (fun q => decide (q ∈ xs.take (i + 1))) (uniq (xs.take (i + 1))).length := by
      refine SetOf_congr hS2 (fun q => ?_) ?_
      · rw [et]
        simp [List.mem_append]
      · rw [et, uniq_snoc]
        by_cases hm2 : xs.getD i Str.empty ∈ xs.take i
        · rw [if_pos (mem_uniq.mpr hm2), if_pos (decide_eq_true hm2)]
        · rw [if_neg (fun z => hm2 (mem_uniq.mp z)), if_neg (by simpa using hm2), List.length_append, List.length_singleton]
    refine wpAny_pure ⟨plainId_quiet PyProof.Rows.F.plain_set_update_loop _, ih (i + 1) _ (by omega) hlt (W.frame _ s' _ _ hst' (Nat.le_succ _) fun b hb o e => ?_) hSi fun s'' hm'' hS'' => ?_⟩
    · rw [hsb.2 b (fun h : b = S => hSf (by rw [← h]; exact hb))]; exact e
    · refine hR s'' (Moved.trans W.gtrans ((hm.mono up).then_heap (Nat.le_succ _) fun b o hb e => ?_) hm'') hS''
      rw [hsb.2 b (fun h : b = S => hb (by rw [h]; exact List.mem_cons_self))]; exact e
end

section
variable {prog : Program} {w : World} {A : Around} {E : Value → Shared → Prop} {s : Shared}
theorem set_of_strs {l : Addr} {items : Array Value} {xs : List Str} {Q : Value → Shared → Prop}
    (hh : A.handled = none) (hl : s.heap.IsList l items) (hi : PyProof.Rows.StrsAre items.toList xs) (hn1 : xs.length + 2 < scanBound)
    (h : ∀ (h' : Heap) (tk : Nat), h'.SetOf (PySem.strKind prog w) s.heap.objs.size (fun q => decide (q ∈ xs)) (uniq xs).length →
      (∀ b o, b < s.heap.objs.size → s.heap.get? b = some o → h'.get? b = some o) → Q (.ref s.heap.objs.size) { s with heap := h', toks := tk }) :
    wpAny (model prog w) A (call (.type "set") [.ref l]) Q E s := by
  obtain ⟨c, tl, hmro⟩ := PySem.F.called_set.mro
  have hmade := PySem.F.called_set.made
  have hsub := PySem.F.called_set.sub
  refine wpAny_call (codeAny_of_tree ?_)
  show wpAny _ _ (callAny (.type "set") _) _ _ _
  refine wpAny_pure ⟨Code.quiet_builtin _ (by decide +kernel), codeAny_builtin PySem.F.entry_type_call ?_⟩
  rw [Around.under_plain (weight_type_call_type "set" [.ref l] []) rfl]
  have h1 := PySem.F.called_set.notType
  have h2 := PySem.F.called_set.canCreate
  have hct := PySem.F.typeCall_set_1 (.ref l)
  repeat (any_goals (first | assumption | wp_step))
  refine codeAny_mono (code_set_new_1 (.ref l) (E := E) (Q₁ := fun obj s₁ => ∃ led : Bool, obj = .ref s.heap.objs.size ∧ s₁ = { s with heap := s.heap.push { cls := .type "set", dict := none, data := .set #[] 0 (.fresh 0 0 led) } }) fun led => ⟨led, rfl, rfl⟩) fun r s₁ hr => ?_
  cases r with
  | error e => exact hr
  | ok fl =>
    cases fl with
    | ret obj =>
      obtain ⟨led, rfl, rfl⟩ := hr
      generalize hso : ({ cls := .type "set", dict := none, data := .set #[] 0 (.fresh 0 0 led) } : Obj) = so
      have hS : (s.heap.push so).get? s.heap.objs.size = some so := Heap.get?_push_size _ (by rw [← hso] <;> rfl)
      have hT : Shared.TypeIs { s with heap := s.heap.push so } (.ref s.heap.objs.size) "set" := ⟨_, hS, by rw [← hso]⟩
      have hli := PySem.F.called_set.init.lookup
      have hbi := PySem.F.called_set.init.bind (.ref s.heap.objs.size)
      repeat (any_goals (first | assumption | wp_step))
      refine codeAny_mono (codeAny_call_builtin (R := wants (fun r s₂ => r = .none ∧ ∃ h' tk, s₂ = { s with heap := h', toks := tk } ∧
          h'.SetOf (PySem.strKind prog w) s.heap.objs.size (fun q => decide (q ∈ xs)) (uniq xs).length ∧
          (∀ b o, b < s.heap.objs.size → s.heap.get? b = some o → h'.get? b = some o)) E) PySem.F.called_set.init.plain PySem.F.entry_set_init (check_set_init_1 hT ?_)) fun r₂ s₂ hr₂ => ?_
      · obtain ⟨ol, hol, hcl, nl, hdl⟩ := hl
        obtain ⟨ocls, odict, odata, oslots⟩ := ol
        simp only at hcl hdl
        subst hcl; subst hdl
        subst hso
        have hol' : (s.heap.push { cls := .type "set", dict := none, data := .set #[] 0 (.fresh 0 0 led) }).get? l = some { cls := .type "list", dict := odict, data := .seq items nl, slots := oslots } := Heap.get?_push_of_some _ hol
        have hsls := PySem.F.sub_list_set
        have hslf := PySem.F.sub_list_frozenset
        have hne : (Value.type "list" == Value.type "dict") = false := by decide
        have hl1 : (s.heap.push { cls := .type "set", dict := none, data := .set #[] 0 (.fresh 0 0 led) }).IsList l items := ⟨_, hol', rfl, nl, rfl⟩
        unfold Builtin.«set.__init__» noKeywords Builtin.Frozenset.updateFrom
        generalize hPI : pyIter = PI
        wp_walk
        subst hPI
        refine wpAny_pyIter_list hl1 ?_
        refine wpAny_bind (wpAny_runValue ?_)
        have hlS : l < s.heap.objs.size := Heap.lt_size hol
        have hh3 : A.in1.in1.in1.handled = none := by simp [hh]
        have szp : ∀ o : Obj, (s.heap.push o).objs.size = s.heap.objs.size + 1 := fun o => Heap.size_push ..
        have hneI : l ≠ (s.heap.push { cls := .type "set", dict := none, data := .set #[] 0 (.fresh 0 0 led) }).objs.size := by
          rw [szp]; exact Nat.ne_of_lt (Nat.lt_succ_of_lt hlS)
        have hSf : s.heap.objs.size ∉ [(s.heap.push { cls := .type "set", dict := none, data := .set #[] 0 (.fresh 0 0 led) }).objs.size, l] := by
          rw [szp]; simp only [List.mem_cons, List.not_mem_nil, or_false, not_or]
          exact ⟨Nat.ne_of_lt (Nat.lt_succ_self _), Nat.ne_of_gt hlS⟩
        have hsz : xs.length = items.size := by rw [← StrsAre.len_eq hi, Array.length_toList]
        have hval : ∀ (i : Nat) (v : Value), items[i]? = some v → ∃ t, v = .str (xs.getD i Str.empty) t := fun i v hv => SS.strs_at hi i v (by rw [Array.getElem?_toList]; exact hv)
        refine loop_strs ((Walks.list hh3 _ l hneI items).toS) s.heap.objs.size
          hSf xs hsz (by rw [← hsz]; exact hn1) hval (items.size - 0) 0 _ (by omega) (Nat.zero_le _)
          ⟨⟨_, Heap.get?_push_size _ rfl, rfl, rfl⟩, (hl1.push _)⟩ ?hS0 ?hR
        case hS0 =>
          have hget : ((s.heap.push { cls := .type "set", dict := none, data := .set #[] 0 (.fresh 0 0 led) }).push { cls := .type "list_iterator", data := .fields #[.ref l, .int 0 0] }).get? s.heap.objs.size
              = some { cls := .type "set", dict := none, data := .set #[] 0 (.fresh 0 0 led) } := Heap.get?_push_of_some _ hS
          exact PyProof.Rows.SetOf_congr ((PyProof.Rows.setObjOf_fresh (knd := PySem.strKind prog w) led).setOf hget (by unfold scanBound; omega)) (fun _ => by simp) rfl
        case hR =>
          intro s' hm hS'
          obtain ⟨h', g', d', tk', os'⟩ := s'
          have eg : g' = s.gens := hm.gens
          have ed : d' = s.drawn := hm.drawn
          have eo : os' = s.os := hm.os
          subst eg; subst ed; subst eo
          show wpAny _ _ _ _ _ _
          refine wpAny_pure ?_
          show wpAny _ _ (ret Value.none) _ _ _
          refine wpAny_pure ⟨rfl, h', tk', rfl, hS', fun b o hb e => ?_⟩
          have hb1 : b ≠ s.heap.objs.size := Nat.ne_of_lt hb
          have hb2 : b ≠ (s.heap.push { cls := .type "set", dict := none, data := .set #[] 0 (.fresh 0 0 led) }).objs.size := by
            rw [szp]; exact Nat.ne_of_lt (Nat.lt_succ_of_lt hb)
          exact hm.heap b o (by simp only [List.mem_cons, List.not_mem_nil, or_false, not_or]; exact ⟨hb1, hb2⟩) (Heap.get?_push_of_some _ (Heap.get?_push_of_some _ e))
      · cases r₂ with
        | error e => exact hr₂
        | ok fl₂ =>
          cases fl₂ with
          | ret r =>
            obtain ⟨rfl, h', tk, rfl, hS', hk'⟩ := hr₂
            repeat (any_goals (first | assumption | wp_step))
            exact h _ _ hS' hk'
          | _ => exact hr₂.elim
    | _ => exact hr.elim
end

section
variable {X : Cx} {a : Expr} {ta : TE} {p p2 q pos : Pos}
/-- len(set(xs)), xs a list of texts -/
def tLenU (K : PySem.W.Frag) (ta : TE) : TE := fun σ H Q => ta σ H fun x H1 => ∃ (l : Addr) (xs : List Str), x = .ref l ∧ SqL K H1 l (xs.map V.str) ∧ xs.length ≤ 4000 ∧ Q (.int (uniq xs).length) H1
theorem pe_lenU (B : Bl X.mg) (ha : PE X a ta) (hc : X.calm = true := by rfl) (hg : Gl X "len" := by rfl) (hg2 : Gl X "set" := by rfl)
    (na : starEach [a] X.env = (false, eval a X.env) :: starEach [] X.env := by rfl) : PE X (.Call (.Name "len" p) [.Call (.Name "set" p2) [a] [] q] [] pos) (tLenU X.K ta) := by
  refine ⟨fun pins s σ H Q I h => ?_⟩
  refine Call_ (ld_blt I hg B.len boot_len ?_)
  refine PyProof.Rows.callWith_builtin1 (PyProof.Rows.args_cons ?_ rfl) rfl rfl
  refine Call_ (ld_blt I hg2 B.set boot_set ?_)
  refine PyProof.Rows.callWith_type1 (PyProof.Rows.args_cons (thn (ha.run pins s σ H _ I h) fun v s1 ⟨x, H1, I1, r1, l, xs, ex, hq, h1, q1⟩ => PyProof.Rows.args_nil ?_) na) na rfl
  subst ex
  cases r1
  obtain ⟨its, r, pl, hz⟩ := I1.list hq
  refine set_of_strs (I1.ok.hd hc) pl.isList (by simpa using strsAre_of r) (by unfold scanBound; omega) fun h' tk hS hk => ?_
  refine PyProof.Rows.args_nil ?_
  have hle := uniq_le xs
  obtain ⟨o, es, ep, t, ho, hex, hd, _, _, _, hf, hn⟩ := hS
  have I2 : Inv X pins σ H1 { s1 with heap := h', toks := tk } := I1.kept fun b o e => hk b o (Heap.lt_size e) e
  refine call_len_set ho hex hd hf (by rw [hn] <;> omega) ⟨.int (uniq xs).length, H1, I2.tok _, ⟨_, by rw [hn]⟩, q1⟩
end
end SL
set_option Elab.async false
set_option linter.all false
set_option maxRecDepth 100000
set_option maxHeartbeats 2000000
/-! own words, 5: the size of data (no less than its repr's), kinds as data -/
namespace SL
open PySem PySem.Spec PyProof.Rows L2 GxR NdefX GA
mutual
/-- no less than the signs of the repr -/
def wt : PyData → Nat
  | .none => 4
  | .bool _ => 5
  | .int i => (Str.ofString (toString i)).length + 4
  | .str x => 12 * x.length + 4
  | .list xs => wtAll xs + 4
  | .tuple xs => wtAll xs + 4
  | .dict kvs => 4 + 16777217 * kvs.length
def wtAll : List PyData → Nat
  | [] => 0
  | x :: xs => wt x + 2 + wtAll xs
end
theorem wtAll_append : ∀ (xs ys : List PyData), wtAll (xs ++ ys) = wtAll xs + wtAll ys
  | [], ys => by simp [wtAll]
  | x :: xs, ys => by
    have := wtAll_append xs ys
    simp only [List.cons_append, wtAll]
    omega
theorem wtAll_len : ∀ (xs : List PyData), 2 * xs.length ≤ wtAll xs
  | [] => by simp [wtAll]
  | x :: xs => by
    have := wtAll_len xs
    simp only [List.length_cons, wtAll]
    omega
theorem wtAll_take (xs : List PyData) (n : Nat) : wtAll (xs.take n) ≤ wtAll xs := by
  have := wtAll_append (xs.take n) (xs.drop n)
  rw [List.take_append_drop] at this
  omega
theorem wtAll_drop (xs : List PyData) (n : Nat) : wtAll (xs.drop n) ≤ wtAll xs := by
  have := wtAll_append (xs.take n) (xs.drop n)
  rw [List.take_append_drop] at this
  omega
theorem wt_get : ∀ {xs : List PyData} {i : Nat} {d : PyData}, xs[i]? = some d → wt d + 2 ≤ wtAll xs
  | [], _, _, h => by simp at h
  | x :: xs, 0, d, h => by
    simp at h
    subst h
    simp only [wtAll]
    omega
  | x :: xs, i + 1, d, h => by
    have := wt_get (xs := xs) (i := i) (d := d) (by simpa using h)
    simp only [wtAll]
    omega
theorem wt_mem {xs : List PyData} {d : PyData} (h : d ∈ xs) : wt d + 2 ≤ wtAll xs := by
  obtain ⟨i, hi⟩ := List.mem_iff_getElem?.mp h
  exact wt_get hi

/-! ### names as the document has them -/
def upC (c : Nat) : Bool := decide (65 ≤ c) && decide (c ≤ 90)
def loC (c : Nat) : Bool := decide (97 ≤ c) && decide (c ≤ 122)
def diC (c : Nat) : Bool := decide (48 ≤ c) && decide (c ≤ 57)
def anC (c : Nat) : Bool := upC c || loC c || diC c
def kept (x : Str) : Bool := decide (x = "fun") || decide (x = "kind") || decide (x = "number")
/-- a name -/
def nameS (x : Str) : Bool := decide (1 ≤ x.length) && decide (x.length ≤ 10) && x.cps.toList.all anC && (match x.cps.toList with | c :: _ => upC c || loC c | [] => false) && !kept x
def highS (x : Str) : Bool := nameS x && (match x.cps.toList with | c :: _ => upC c | [] => false)
def lowS (x : Str) : Bool := nameS x && (match x.cps.toList with | c :: _ => loC c | [] => false)
def highD : PyData → Bool
  | .str x => highS x
  | _ => false
/-! ### kinds -/
def tupB (d : PyData) (l m : Int) : Bool := match d with
  | .tuple xs => decide (l ≤ (xs.length : Int)) && decide ((xs.length : Int) ≤ m)
  | _ => false
def fstD : PyData → PyData
  | .tuple (a :: _) => a
  | _ => .none
def sndD : PyData → PyData
  | .tuple (_ :: b :: _) => b
  | _ => .none
def itemsD : PyData → List PyData
  | .tuple l => l
  | _ => []
def strD : PyData → Str
  | .str x => x
  | _ => Str.empty
def makerB (d : PyData) : Bool := tupB d 2 2 && highD (fstD d) && tupB (sndD d) 0 4 && (itemsD (sndD d)).all isStr
def kindB (d : PyData) : Bool := tupB d 2 2 && highD (fstD d) && tupB (sndD d) 1 6 && (itemsD (sndD d)).all makerB
def titlesD (d : PyData) : List PyData := (itemsD d).map fstD
def makersD (d : PyData) : List PyData := (itemsD d).flatMap fun k => itemsD (sndD k)
def mnamesD (d : PyData) : List PyData := (makersD d).map fstD
def fieldsD (d : PyData) : List PyData := (makersD d).flatMap fun m => itemsD (sndD m)
def unl (l : List PyData) : Bool := decide ((l.map strD).Nodup)
def fieldOk (d : PyData) (f : PyData) : Bool := decide (strD f = "number") || decide (strD f ∈ (titlesD d).map strD)
/-- kinds -/
def kindsB (d : PyData) : Bool := tupB d 1 6 && (itemsD d).all kindB && unl (titlesD d) && unl (mnamesD d) && (fieldsD d).all (fieldOk d)
theorem tup2 {d : PyData} (h : tupB d 2 2 = true) : ∃ x y, d = .tuple [x, y] := by
  cases d with
  | tuple xs =>
    simp only [tupB, Bool.and_eq_true, decide_eq_true_eq] at h
    match xs, h with
    | [x, y], _ => exact ⟨x, y, rfl⟩
    | [], h => simp at h
    | [_], h => simp at h
    | _ :: _ :: _ :: r, h => simp only [List.length_cons] at h; omega
  | _ => simp [tupB] at h
theorem tupOf {d : PyData} {l m : Int} (h : tupB d l m = true) : ∃ xs, d = .tuple xs ∧ l ≤ (xs.length : Int) ∧ (xs.length : Int) ≤ m := by
  cases d with
  | tuple xs =>
    simp only [tupB, Bool.and_eq_true, decide_eq_true_eq] at h
    exact ⟨xs, rfl, h.1, h.2⟩
  | _ => simp [tupB] at h
theorem dv_pair {M : List Addr} {H : Hp} {v : V} {x y : PyData} (h : Dv M H v (.tuple [x, y])) : ∃ a vx vy, v = .ref a ∧ H a = some (.tup [vx, vy]) ∧ a ∉ M ∧ Dv M H vx x ∧ Dv M H vy y := by
  cases h with
  | tup e n r =>
    cases r with
    | cons h1 r =>
      cases r with
      | cons h2 r =>
        cases r
        exact ⟨_, _, _, rfl, e, n, h1, h2⟩
theorem dv_tup {M : List Addr} {H : Hp} {v : V} {xs : List PyData} (h : Dv M H v (.tuple xs)) : ∃ a vs, v = .ref a ∧ H a = some (.tup vs) ∧ a ∉ M ∧ DvAll M H vs xs := by
  cases h with
  | tup e n r => exact ⟨_, _, rfl, e, n, r⟩
theorem wt_pair (x y : PyData) : wt (.tuple [x, y]) = wt x + wt y + 8 := by
  simp only [wt, wtAll]
  omega
theorem wt_tup (xs : List PyData) : wt (.tuple xs) = wtAll xs + 4 := by simp only [wt]
end SL
set_option Elab.async false
set_option linter.all false
set_option maxRecDepth 100000
set_option maxHeartbeats 2000000
/-! own words, 6: signs below 128 -/
namespace SL
open PySem PySem.Spec PyProof.Rows L2 GxR NdefX GA
theorem sign_tab : (List.range 128).all (fun c => (Unicode.isAlnum c == anC c) && (Unicode.isAlpha c == (upC c || loC c)) && ((Unicode.isUpper c && !(Unicode.isLower c || Unicode.isTitle c)) == upC c) && ((Unicode.isLower c && !(Unicode.isUpper c || Unicode.isTitle c)) == loC c)) = true := by decide +kernel
theorem sign_at {c : Nat} (h : c < 128) : Unicode.isAlnum c = anC c ∧ Unicode.isAlpha c = (upC c || loC c) ∧ (Unicode.isUpper c && !(Unicode.isLower c || Unicode.isTitle c)) = upC c ∧ (Unicode.isLower c && !(Unicode.isUpper c || Unicode.isTitle c)) = loC c := by
  have := List.all_eq_true.mp sign_tab c (List.mem_range.mpr h)
  simp only [Bool.and_eq_true, beq_iff_eq] at this
  obtain ⟨⟨⟨h1, h2⟩, h3⟩, h4⟩ := this
  exact ⟨h1, h2, h3, h4⟩
theorem anC_lt {c : Nat} (h : anC c = true) : c < 128 := by
  unfold anC upC loC diC at h
  simp only [Bool.or_eq_true, Bool.and_eq_true, decide_eq_true_eq] at h
  omega
theorem run_iff (x : Str) : (Txt.isascii x && Txt.isalnum x) = (decide (1 ≤ x.length) && x.cps.toList.all anC) := by
  unfold Txt.isascii Txt.isalnum
  rw [Bool.eq_iff_iff]
  simp only [Bool.and_eq_true, Array.all_eq_true_iff_forall_mem, decide_eq_true_eq, List.all_eq_true, Array.mem_toList_iff]
  constructor
  · rintro ⟨h1, h2, h3⟩
    exact ⟨by have : x.length > 0 := h2; omega, fun c hc => by rw [← (sign_at (h1 c hc)).1]; exact h3 c hc⟩
  · rintro ⟨h1, h2⟩
    exact ⟨fun c hc => anC_lt (h2 c hc), by show x.length > 0; omega, fun c hc => by rw [(sign_at (anC_lt (h2 c hc))).1]; exact h2 c hc⟩
theorem alpha1 {c : Nat} (h : c < 128) : Txt.isalpha ⟨#[c]⟩ = (upC c || loC c) := by
  unfold Txt.isalpha
  rw [← (sign_at h).2.1]
  simp [Str.length]
theorem upper1 {c : Nat} (h : c < 128) : Txt.isupper ⟨#[c]⟩ = upC c := by
  unfold Txt.isupper
  rw [← (sign_at h).2.2.1]
  simp
theorem lower1 {c : Nat} (h : c < 128) : Txt.islower ⟨#[c]⟩ = loC c := by
  unfold Txt.islower
  rw [← (sign_at h).2.2.2]
  simp
theorem inV_strs (x : Str) : ∀ l : List Str, inV (.str x) (l.map V.str) = decide (x ∈ l)
  | [] => rfl
  | y :: r => by
    have ih := inV_strs x r
    unfold inV at ih ⊢
    rw [List.map_cons, List.any_cons, ih]
    have e : eqV (.str y) (.str x) = decide (x = y) := by
      unfold eqV
      first
        | (by_cases h : x = y
           · subst h; simp
           · simp [h, Ne.symm h])
    rw [e]
    by_cases h : x = y
    · subst h; simp
    · simp [h]
theorem goQ {Q : VK} {H : Hp} {b c : Bool} (q : Q (.bl b) H) (e : b = c) : Q (.bl c) H := by rw [← e]; exact q
theorem cons_of_len {x : Str} (h : 1 ≤ x.length) : ∃ c r, x.cps.toList = c :: r := by
  have e : x.length = x.cps.toList.length := by simp [Str.length]
  cases q : x.cps.toList with
  | nil => rw [e, q] at h; simp at h
  | cons c r => exact ⟨c, r, rfl⟩
end SL
set_option Elab.async false
set_option linter.all false
set_option maxRecDepth 100000
set_option maxHeartbeats 2000000
/-! own words, 7: a def whose code object is known -/
namespace SL
open PySem PySem.Spec PyProof.Rows L2 GxR NdefX GA
/-- a def of the top whose code object stands at c -/
structure FunT (K : PySem.W.Frag) (x qual : Str) (st : Stmt) (f : Addr) (fd : FuncData) (c : Addr) : Prop where
  ex : ∃ (oc : Value) (od : Option Addr) (kV doc pm : Value) (an : Option Addr) (ct : Value) (osl : Array (Option Value)),
    fd = PySem.W.fnOf x qual (defArgs st) (defBody st) (defScope st) .none kV doc pm an (.ref c) ct ∧ K.lookup f = some ⟨oc, od, .func fd, osl⟩ ∧ PySem.W.codeIn K (.ref c) qual = true
  kp : PySem.W.keepIn K (.ref f) = true
section
variable {P : Program} {w : World} {K : PySem.W.Frag} {mg : Str → Option Value} {base : Heap} {x qual : Str} {st : Stmt} {f c : Addr} {fd : FuncData} {N ps : List Str} {k : Nat} {sp : Sp}
theorem FunT.fn (F : FunT K x qual st f fd c) : Fun K x qual st f fd := by
  obtain ⟨oc, od, kV, doc, pm, an, ct, osl, e, l, h⟩ := F.ex
  exact ⟨⟨oc, od, kV, doc, pm, an, _, ct, osl, e, l, h⟩, F.kp⟩
theorem FunT.ok (F : FunT K x qual st f fd c) (S : FnScope N ps (defScope st)) (len : ∀ vs H Q E, sp vs H Q E → vs.length = ps.length)
    (hbody : ∀ (A : Around) (outer : List Env) (s : Shared) (H : Hp) (vs : List V) (Q : VK) (E : XK), Room k (A.deeper (envOfC qual (defScope st) s.heap.objs.size f (.ref c))) → sp vs H Q E →
      ∃ t, PSs (cxOf CX0 P w K mg base N qual (defScope st) f (.ref c) A outer s H E).nox (defBody st) t ∧ t { nx := fun _ H' => Q .non H', rt := Q } (start N vs) H) : FnOk P w K mg base CX0 (k + 1) f fd ps sp := by
  obtain ⟨oc, od, kV, doc, pm, an, ct, osl, rfl, lk, hcd⟩ := F.ex
  refine fn_of lk hcd S len fun A outer s H vs Q E hr hsp => ?_
  obtain ⟨t, h, q⟩ := hbody A outer s H vs Q E hr hsp
  exact ⟨t, h.nox, q⟩
theorem FunT.okX (F : FunT K x qual st f fd c) (S : FnScope N ps (defScope st)) (len : ∀ vs H Q E, sp vs H Q E → vs.length = ps.length)
    (hbody : ∀ (A : Around) (outer : List Env) (s : Shared) (H : Hp) (vs : List V) (Q : VK) (E : XK), Room k (A.deeper (envOfC qual (defScope st) s.heap.objs.size f (.ref c))) → sp vs H Q E →
      ∃ t, PSs (cxOf (L2.CX P w) P w K mg base N qual (defScope st) f (.ref c) A outer s H E) (defBody st) t ∧ t { nx := fun _ H' => Q .non H', rt := Q } (start N vs) H) : FnOk P w K mg base (L2.CX P w) (k + 1) f fd ps sp := by
  obtain ⟨oc, od, kV, doc, pm, an, ct, osl, rfl, lk, hcd⟩ := F.ex
  exact fn_of lk hcd S len hbody
end
section
variable {X : Cx} {T M : List Addr} {H : Hp} {K : PySem.W.Frag} {P a : Addr} {xs : List V} {ds : List PyData}
/-- the reading of all(test(x) for x in t), t a tuple of data, x in the slot j: b the truth of each -/
theorem all_tup {te : TE} {σ0 : L2.St} {Q : VK} {b : PyData → Bool} {j : Nat} (hx : H a = some (.tup xs)) (ha : a ∉ M) (hd : DvAll M H xs ds) (ht : Tabs T H) (hP : P ∈ T)
    (hb : ∀ (x : V) (d : PyData) (H' : Hp) (R : VK), d ∈ ds → Dv M H' x d → Go T M H H' → Tabs T H' → (∀ H'' , Go T M H' H'' → Tabs T H'' → R (.bl (b d)) H'') → te (σ0.set j (some x)) H' R)
    (hq : ∀ H', Go T M H H' → Tabs T H' → Q (.bl (ds.all b)) H') :
    TabG H P ∧ ∀ H2, Tabbed P H H2 → ∃ W, (∃ m, W 0 m σ0 H2) ∧ GTurn (Itt K a) (gName j) te W (fun H' => Q (.bl (!false)) H') (KB false W fun b H' => Q (.bl b) H') := by
  refine ⟨ht P hP, fun H2 tb => ?_⟩
  have hl := hd.length
  have g2 : Go T M H H2 := Go.tbd (ht P hP) tb
  refine ⟨fun i m σ H' => m = xs.length - i ∧ i ≤ xs.length ∧ Go T M H H' ∧ Tabs T H' ∧ (∀ v, σ.set j v = σ0.set j v) ∧ (ds.take i).all b = true, ⟨xs.length, rfl, Nat.zero_le _, g2, g2.tb ht, fun _ => rfl, by simp⟩, ?_⟩
  rintro i m σ H' ⟨rfl, hi, gg, tt, hs, hall⟩
  have hx' : SqT K H' a xs := SqT.of (gg.tup hx ha)
  by_cases hlt : i < xs.length
  · refine .inr ⟨⟨xs, xs[i], hx', by simp [hlt]⟩, by omega, fun x H'' y => ?_⟩
    obtain ⟨e, y⟩ := y
    subst e
    have ex : xs[i]? = some x := y xs hx'
    obtain ⟨d, ed, hv⟩ := hd.get ex
    show te (σ.set j (some x)) H'' _
    rw [hs]
    refine hb x d H'' _ (List.mem_of_getElem? ed) (hv.go gg) gg tt fun H3 g3 t3 => ?_
    refine ⟨b d, rfl, ?_⟩
    have et : ds.take (i + 1) = ds.take i ++ [d] := by rw [List.take_add_one, ed] <;> rfl
    cases c : b d with
    | true =>
      rw [if_neg (by simp)]
      exact ⟨xs.length - (i + 1), by omega, rfl, hlt, gg.trans g3, t3, fun v => by rw [List.set_set], by rw [et, List.all_append, hall]; simp [c]⟩
    | false =>
      rw [if_pos rfl]
      have : ds.all b = false := by
        rw [List.all_eq_false]
        exact ⟨d, List.mem_of_getElem? ed, by rw [c]; simp⟩
      rw [← this]
      exact hq H3 (gg.trans g3) t3
  · have e : i = xs.length := by omega
    subst e
    rw [hl, List.take_length] at hall
    refine .inl ⟨⟨xs, hx', Nat.le_refl _⟩, ?_⟩
    have := hq H' gg tt
    rw [hall] at this
    exact this
/-- .. over a list of data -/
theorem all_lst {te : TE} {σ0 : L2.St} {Q : VK} {b : PyData → Bool} {j : Nat} (hx : H a = some (.lst xs)) (ha : a ∉ M) (hd : DvAll M H xs ds) (ht : Tabs T H) (hP : P ∈ T)
    (hb : ∀ (x : V) (d : PyData) (H' : Hp) (R : VK), d ∈ ds → Dv M H' x d → Go T M H H' → Tabs T H' → (∀ H'' , Go T M H' H'' → Tabs T H'' → R (.bl (b d)) H'') → te (σ0.set j (some x)) H' R)
    (hq : ∀ H', Go T M H H' → Tabs T H' → Q (.bl (ds.all b)) H') :
    TabG H P ∧ ∀ H2, Tabbed P H H2 → ∃ W, (∃ m, W 0 m σ0 H2) ∧ GTurn (Itl K a) (gName j) te W (fun H' => Q (.bl (!false)) H') (KB false W fun b H' => Q (.bl b) H') := by
  refine ⟨ht P hP, fun H2 tb => ?_⟩
  have hl := hd.length
  have g2 : Go T M H H2 := Go.tbd (ht P hP) tb
  refine ⟨fun i m σ H' => m = xs.length - i ∧ i ≤ xs.length ∧ Go T M H H' ∧ Tabs T H' ∧ (∀ v, σ.set j v = σ0.set j v) ∧ (ds.take i).all b = true, ⟨xs.length, rfl, Nat.zero_le _, g2, g2.tb ht, fun _ => rfl, by simp⟩, ?_⟩
  rintro i m σ H' ⟨rfl, hi, gg, tt, hs, hall⟩
  have hx' : SqL K H' a xs := SqL.of (gg.lst hx ha)
  by_cases hlt : i < xs.length
  · refine .inr ⟨⟨xs, xs[i], hx', by simp [hlt]⟩, by omega, fun x H'' y => ?_⟩
    obtain ⟨e, y⟩ := y
    subst e
    have ex : xs[i]? = some x := y xs hx'
    obtain ⟨d, ed, hv⟩ := hd.get ex
    show te (σ.set j (some x)) H'' _
    rw [hs]
    refine hb x d H'' _ (List.mem_of_getElem? ed) (hv.go gg) gg tt fun H3 g3 t3 => ?_
    refine ⟨b d, rfl, ?_⟩
    have et : ds.take (i + 1) = ds.take i ++ [d] := by rw [List.take_add_one, ed] <;> rfl
    cases c : b d with
    | true =>
      rw [if_neg (by simp)]
      exact ⟨xs.length - (i + 1), by omega, rfl, hlt, gg.trans g3, t3, fun v => by rw [List.set_set], by rw [et, List.all_append, hall]; simp [c]⟩
    | false =>
      rw [if_pos rfl]
      have : ds.all b = false := by
        rw [List.all_eq_false]
        exact ⟨d, List.mem_of_getElem? ed, by rw [c]; simp⟩
      rw [← this]
      exact hq H3 (gg.trans g3) t3
  · have e : i = xs.length := by omega
    subst e
    rw [hl, List.take_length] at hall
    refine .inl ⟨⟨xs, hx', Nat.le_refl _⟩, ?_⟩
    have := hq H' gg tt
    rw [hall] at this
    exact this
end
end SL
set_option Elab.async false
set_option linter.all false
set_option maxRecDepth 100000
set_option maxHeartbeats 2000000
/-! own words, 8: comprehensions over data of pairs -/
namespace SL
open PySem PySem.Spec PyProof.Rows L2 GxR NdefX GA
section
variable {T M : List Addr} {H0 H1 : Hp} {K : PySem.W.Frag} {J : It} {G : Hp → Prop} {xs : List V} {ds : List PyData} {D : Addr} {Qd : Hp → Prop} {σ : L2.St}
theorem iteYes {A B : Prop} (h : A) : if true = true then A else B := by rw [if_pos rfl]; exact h
theorem dv_two {M : List Addr} {H : Hp} {v : V} {x y : PyData} (h : Dv M H v (.tuple [x, y])) : ∃ a vx vy, v = .ref a ∧ H a = some (.tup [vx, vy]) ∧ a ∉ M ∧ Dv M H vx x ∧ Dv M H vy y := dv_pair h
/-- [x for x, _ in pairs] -/
theorem lc_fst {i j : Nat} {vs : List Nat} (w : Walk J xs.length G (YAt xs)) (hG : ∀ H', Go T M H0 H' → G H') (hd : DvAll M H0 xs ds) (hp : ∀ d ∈ ds, ∃ x y, d = .tuple [x, y]) (g1 : Go T M H0 H1) (hD : H1 D = none) (hn : xs.length ≤ sizeLine)
    (hw : ∀ v1 v2, wipe (((wipe σ vs).set i (some v1)).set j (some v2)) vs = wipe σ vs) (hv : ∀ v1 v2, (((wipe σ vs).set i (some v1)).set j (some v2))[i]? = some (some v1))
    (hq : ∀ H' acc, Go T M H0 H' → H' D = some (.lst acc) → DvAll M H0 acc (ds.map fstD) → Qd H') :
    ∃ W : Nat → Nat → Hp → Prop, (∃ m, W 0 m (upd H1 D (.lst []))) ∧ ∀ i' m H, W i' m H →
      (J.stop i' H ∧ Qd H) ∨ (J.go i' H ∧ ∃ Nx : Hp → Prop, (∀ H', Nx H' → ∃ m', m' < m ∧ W (i' + 1) m' H') ∧ ∀ x H', J.yld i' H x H' → gTup K 2 (gCons (gName i) (gCons (gName j) gNil)) x (wipe σ vs) H' fun σ2 H2 => wipe σ2 vs = wipe σ vs ∧ tYes σ2 H2 fun b H3 =>
        if b = true then tVar i σ2 H3 fun y H4 => ∃ acc, H4 D = some (.lst acc) ∧ acc.length < sizeLine ∧ Nx (upd H4 D (.lst (acc ++ [y]))) else Nx H3) := by
  have hD0 : H0 D = none := g1.al D hD
  refine lc_it w (fun n H' => Go T M H0 H' ∧ ∃ acc, H' D = some (.lst acc) ∧ acc.length = n ∧ DvAll M H0 acc ((ds.take n).map fstD)) ⟨g1.trans (Go.new hD), [], upd_same, rfl, .nil⟩ (fun n H' _ h => hG H' h.1) (fun n x H' H'' hlt h y => ?_) (fun H' h => ?_)
  · obtain ⟨gg, acc, ea, el, da⟩ := h
    obtain ⟨rfl, ex⟩ := y
    obtain ⟨d, ed, hx⟩ := hd.get ex
    obtain ⟨p, q, rfl⟩ := hp d (List.mem_of_getElem? ed)
    obtain ⟨a, vx, vy, rfl, e, na, hx, hy⟩ := dv_pair hx
    refine ⟨a, _, rfl, SqT.of (gg.tup e na), rfl, _, _, rfl, _, _, rfl, rfl, ?_⟩
    refine ⟨hw vx vy, ?_⟩
    unfold tYes
    show if true = true then _ else _
    rw [if_pos rfl]
    refine ⟨vx, hv vx vy, acc, ea, by omega, gg.over hD0 ea (fun _ z => by cases z), acc ++ [vx], upd_same, by rw [List.length_append, el] <;> rfl, ?_⟩
    have : ds.take (n + 1) = ds.take n ++ [.tuple [p, q]] := by rw [List.take_add_one, ed] <;> rfl
    rw [this, List.map_append]
    exact da.append (.cons hx .nil)
  · obtain ⟨gg, acc, ea, el, da⟩ := h
    rw [hd.length, List.take_length] at da
    exact hq H' acc gg ea da
theorem sndD_pair (x y : PyData) : sndD (.tuple [x, y]) = y := rfl
/-- [x for _, own in pairs for x in own] -/
theorem lc2_snd {i j k : Nat} {vs vs1 : List Nat} {c : Nat} (w : Walk J xs.length G (YAt xs)) (hG : ∀ H', Go T M H0 H' → G H') (hd : DvAll M H0 xs ds) (hp : ∀ d ∈ ds, ∃ x l, d = .tuple [x, .tuple l] ∧ l.length ≤ c) (g1 : Go T M H0 H1) (hD : H1 D = none) (hn : xs.length * c ≤ sizeLine)
    (hw : ∀ v1 v2, wipe (((wipe σ vs).set i (some v1)).set j (some v2)) vs = wipe σ vs) (hv : ∀ v1 v2, (((wipe σ vs).set i (some v1)).set j (some v2))[j]? = some (some v2))
    (hw1 : ∀ v1 v2 v3, wipe ((wipe (((wipe σ vs).set i (some v1)).set j (some v2)) vs1).set k (some v3)) vs1 = wipe (((wipe σ vs).set i (some v1)).set j (some v2)) vs1)
    (hv1 : ∀ v1 v2 v3, ((wipe (((wipe σ vs).set i (some v1)).set j (some v2)) vs1).set k (some v3))[k]? = some (some v3))
    (hq : ∀ H' acc, Go T M H0 H' → H' D = some (.lst acc) → DvAll M H0 acc (ds.flatMap fun d => itemsD (sndD d)) → Qd H') :
    ∃ W : Nat → Nat → Hp → Prop, (∃ m, W 0 m (upd H1 D (.lst []))) ∧ ∀ i' m H, W i' m H →
  (J.stop i' H ∧ Qd H) ∨ (J.go i' H ∧ ∃ Nx : Hp → Prop, (∀ H', Nx H' → ∃ m', m' < m ∧ W (i' + 1) m' H') ∧ ∀ x H', J.yld i' H x H' → gTup K 2 (gCons (gName i) (gCons (gName j) gNil)) x (wipe σ vs) H' fun σ2 H2 => wipe σ2 vs = wipe σ vs ∧ tYes σ2 H2 fun b H3 =>
    if b = true then iTup K (tVar j) σ2 H3 fun J1 H4 => ∃ W1 : Nat → Nat → Hp → Prop, (∃ m, W1 0 m H4) ∧ ∀ j' k' H, W1 j' k' H →
      (J1.stop j' H ∧ Nx H) ∨ (J1.go j' H ∧ ∃ Nx1 : Hp → Prop, (∀ H', Nx1 H' → ∃ k'', k'' < k' ∧ W1 (j' + 1) k'' H') ∧ ∀ x H', J1.yld j' H x H' → gName k x (wipe σ2 vs1) H' fun σ3 H5 => wipe σ3 vs1 = wipe σ2 vs1 ∧ tYes σ3 H5 fun b H6 =>
        if b = true then tVar k σ3 H6 fun y H7 => ∃ acc, H7 D = some (.lst acc) ∧ acc.length < sizeLine ∧ Nx1 (upd H7 D (.lst (acc ++ [y]))) else Nx1 H6)
    else Nx H3) := by
  have hD0 : H0 D = none := g1.al D hD
  have hl0 := hd.length
  refine ⟨fun n m H' => m = xs.length - n ∧ n ≤ xs.length ∧ Go T M H0 H' ∧ ∃ acc, H' D = some (.lst acc) ∧ acc.length ≤ n * c ∧ DvAll M H0 acc ((ds.take n).flatMap fun d => itemsD (sndD d)), ⟨xs.length, rfl, Nat.zero_le _, g1.trans (Go.new hD), [], upd_same, by simp, .nil⟩, ?_⟩
  rintro n m H' ⟨rfl, hi, gg, acc, ea, el, da⟩
  by_cases hlt : n < xs.length
  · refine .inr ⟨w.goes n H' hlt (hG H' gg), fun H2 => Go T M H0 H2 ∧ ∃ acc, H2 D = some (.lst acc) ∧ acc.length ≤ (n + 1) * c ∧ DvAll M H0 acc ((ds.take (n + 1)).flatMap fun d => itemsD (sndD d)), fun H2 h2 => ⟨xs.length - (n + 1), by omega, rfl, hlt, h2⟩, fun x H2 y => ?_⟩
    obtain ⟨rfl, ex⟩ := w.yields n H' x H2 hlt (hG H' gg) y
    obtain ⟨d, ed, hx⟩ := hd.get ex
    obtain ⟨p, l, rfl, hc⟩ := hp d (List.mem_of_getElem? ed)
    obtain ⟨a, vx, vy, rfl, e, na, hx, hy⟩ := dv_pair hx
    obtain ⟨b, ws, rfl, eb, nb, hws⟩ := dv_tup hy
    have hl1 := hws.length
    have et : ds.take (n + 1) = ds.take n ++ [.tuple [p, .tuple l]] := by rw [List.take_add_one, ed] <;> rfl
    have em : (n + 1) * c = n * c + c := Nat.succ_mul n c
    have ec : (n + 1) * c ≤ xs.length * c := Nat.mul_le_mul_right c hlt
    refine ⟨a, _, rfl, SqT.of (gg.tup e na), rfl, _, _, rfl, _, _, rfl, rfl, ?_⟩
    refine ⟨hw _ _, ?_⟩
    unfold tYes
    show if true = true then _ else _
    rw [if_pos rfl]
    refine ⟨_, hv _ _, b, rfl, ⟨_, SqT.of (gg.tup eb nb)⟩, ?_⟩
    refine ⟨fun r m' H3 => m' = ws.length - r ∧ r ≤ ws.length ∧ Go T M H0 H3 ∧ ∃ acc, H3 D = some (.lst acc) ∧ acc.length ≤ n * c + r ∧ DvAll M H0 acc (((ds.take n).flatMap fun d => itemsD (sndD d)) ++ l.take r), ⟨ws.length, rfl, Nat.zero_le _, gg, acc, ea, by omega, by rw [List.take_zero, List.append_nil]; exact da⟩, ?_⟩
    rintro r m' H3 ⟨rfl, hr, g3, acc3, ea3, el3, da3⟩
    have sq : SqT K H3 b ws := SqT.of (g3.tup eb nb)
    by_cases hlt2 : r < ws.length
    · refine .inr ⟨⟨ws, ws[r], sq, by simp [hlt2]⟩, fun H4 => Go T M H0 H4 ∧ ∃ acc, H4 D = some (.lst acc) ∧ acc.length ≤ n * c + (r + 1) ∧ DvAll M H0 acc (((ds.take n).flatMap fun d => itemsD (sndD d)) ++ l.take (r + 1)), fun H4 h4 => ⟨ws.length - (r + 1), by omega, rfl, hlt2, h4⟩, fun x' H4 y' => ?_⟩
      obtain ⟨rfl, y'⟩ := y'
      have ex' := y' ws sq
      obtain ⟨d', ed', hx'⟩ := hws.get ex'
      refine ⟨hw1 _ _ x', ?_⟩
      show if true = true then _ else _
      rw [if_pos rfl]
      refine ⟨x', hv1 _ _ x', acc3, ea3, by omega, g3.over hD0 ea3 (fun _ z => by cases z), acc3 ++ [x'], upd_same, by rw [List.length_append, List.length_singleton]; omega, ?_⟩
      have et' : l.take (r + 1) = l.take r ++ [d'] := by rw [List.take_add_one, ed'] <;> rfl
      rw [et', ← List.append_assoc]
      exact da3.append (.cons hx' .nil)
    · have e : r = ws.length := by omega
      subst e
      refine .inl ⟨⟨ws, sq, Nat.le_refl _⟩, g3, acc3, ea3, by omega, ?_⟩
      rw [hl1, List.take_length] at da3
      have ef : ([PyData.tuple [p, .tuple l]] : List PyData).flatMap (fun d => itemsD (sndD d)) = l := List.append_nil l
      rw [et, List.flatMap_append, ef]
      exact da3
  · have e : n = xs.length := by omega
    subst e
    rw [hl0, List.take_length] at da
    exact .inl ⟨w.stops H' (hG H' gg), hq H' acc gg ea da⟩
/-- all(test(x) for x in source), x in the slot j; b the truth of each -/
theorem all_it {te : TE} {σ0 : L2.St} {S : Hp → Prop} {Z : Bool → Hp → Prop} {b : PyData → Bool} {j : Nat} {P : Addr} {H : Hp} (w : Walk J xs.length G (YAt xs)) (hG : ∀ H', Go T M H H' → G H') (hd : DvAll M H xs ds) (ht : Tabs T H) (hP : P ∈ T)
    (hb : ∀ (x : V) (d : PyData) (H' : Hp) (R : VK), d ∈ ds → Dv M H' x d → Go T M H H' → Tabs T H' → (∀ H'' , Go T M H' H'' → Tabs T H'' → R (.bl (b d)) H'') → te (σ0.set j (some x)) H' R)
    (hS : ∀ H', Go T M H H' → Tabs T H' → ds.all b = true → S H') (hZ : ∀ H', Go T M H H' → Tabs T H' → ds.all b = false → Z false H') :
    TabG H P ∧ ∀ H2, Tabbed P H H2 → ∃ W, (∃ m, W 0 m σ0 H2) ∧ GTurn J (gName j) te W S (KB false W Z) := by
  refine ⟨ht P hP, fun H2 tb => ?_⟩
  have hl := hd.length
  have g2 : Go T M H H2 := Go.tbd (ht P hP) tb
  refine ⟨fun i m σ H' => m = xs.length - i ∧ i ≤ xs.length ∧ Go T M H H' ∧ Tabs T H' ∧ (∀ v, σ.set j v = σ0.set j v) ∧ (ds.take i).all b = true, ⟨xs.length, rfl, Nat.zero_le _, g2, g2.tb ht, fun _ => rfl, by simp⟩, ?_⟩
  rintro i m σ H' ⟨rfl, hi, gg, tt, hs, hall⟩
  by_cases hlt : i < xs.length
  · refine .inr ⟨w.goes i H' hlt (hG H' gg), by omega, fun x H'' y => ?_⟩
    obtain ⟨rfl, ex⟩ := w.yields i H' x H'' hlt (hG H' gg) y
    obtain ⟨d, ed, hv⟩ := hd.get ex
    show te (σ.set j (some x)) H'' _
    rw [hs]
    refine hb x d H'' _ (List.mem_of_getElem? ed) (hv.go gg) gg tt fun H3 g3 t3 => ?_
    refine ⟨b d, rfl, ?_⟩
    have et : ds.take (i + 1) = ds.take i ++ [d] := by rw [List.take_add_one, ed] <;> rfl
    cases c : b d with
    | true =>
      rw [if_neg (by simp)]
      exact ⟨xs.length - (i + 1), by omega, rfl, hlt, gg.trans g3, t3, fun v => by rw [List.set_set], by rw [et, List.all_append, hall]; simp [c]⟩
    | false =>
      rw [if_pos rfl]
      refine hZ H3 (gg.trans g3) t3 ?_
      rw [List.all_eq_false]
      exact ⟨d, List.mem_of_getElem? ed, by rw [c]; simp⟩
  · have e : i = xs.length := by omega
    subst e
    rw [hl, List.take_length] at hall
    exact .inl ⟨w.stops H' (hG H' gg), hS H' gg tt hall⟩
end
end SL
set_option Elab.async false
set_option linter.all false
set_option maxRecDepth 100000
set_option maxHeartbeats 4000000
namespace K3
open PySem PySem.Spec PyProof.Rows L2 GxR NdefX GA SL
def top (i : Nat) : Stmt := PySem.Challenge.pw_sameontrees_k03_rows_and_sizes.main.body.getD i (.Pass ⟨0, 0, 0, 0⟩)
abbrev s_is_tuple : Stmt := top 4
abbrev s_is_name : Stmt := top 5
abbrev s_is_high : Stmt := top 6
abbrev s_is_run : Stmt := top 7
/-- a tuple of texts of the written part -/
def Kt (K : PySem.W.Frag) (a : Addr) (xs : List V) : Prop := ∃ (o : Obj) (its : Array Value) (n : Nat), K.lookup a = some o ∧ o.cls = .type "tuple" ∧ o.data = .seq its n ∧ its.size ≤ sizeLine ∧ Vals xs its.toList
/-- the module's constants -/
structure Cn (K : PySem.W.Frag) (mg : Str → Option Value) : Prop where
  longest : ∃ t, mg "LONGEST_NAME" = some (.int 10 t)
  kept : ∃ a, mg "WORDS_KEPT" = some (.ref a) ∧ Kt K a [.str "fun", .str "kind", .str "number"]
  kinds : ∃ t, mg "MOST_KINDS" = some (.int 6 t)
  makers : ∃ t, mg "MOST_MAKERS" = some (.int 6 t)
  fields : ∃ t, mg "MOST_FIELDS" = some (.int 4 t)
  rows : ∃ t, mg "MOST_ROWS" = some (.int 96 t)
  most : ∃ t, mg "MOST_WORDS_OF_ROWS" = some (.int 4000 t)

def sp_is_tuple : Sp := fun vs H Q _ => ∃ (M : List Addr) (v : V) (d : PyData) (l m : Int), vs = [v, .int l, .int m] ∧ Dv M H v d ∧ Q (.bl (tupB d l m)) H
theorem sc_is_tuple : FnScope ["thing", "least", "most"] ["thing", "least", "most"] (defScope s_is_tuple) := ⟨rfl, rfl, rfl, by decide +kernel, rfl, by decide +kernel, by decide +kernel⟩
def sp_is_run : Sp := fun vs H Q _ => ∃ x : Str, vs = [.str x] ∧ Q (.bl (decide (1 ≤ x.length) && x.cps.toList.all anC)) H
theorem sc_is_run : FnScope ["text"] ["text"] (defScope s_is_run) := ⟨rfl, rfl, rfl, by decide +kernel, rfl, by decide +kernel, by decide +kernel⟩
def nameD : PyData → Bool
  | .str x => nameS x
  | _ => false
def sp_is_name : Sp := fun vs H Q _ => ∃ (M : List Addr) (v : V) (d : PyData), vs = [v] ∧ Dv M H v d ∧ wt d ≤ 4000000 ∧ Q (.bl (nameD d)) H
theorem sc_is_name : FnScope ["thing"] ["thing"] (defScope s_is_name) := ⟨rfl, rfl, rfl, by decide +kernel, rfl, by decide +kernel, by decide +kernel⟩
def sp_is_high : Sp := fun vs H Q _ => ∃ (M : List Addr) (v : V) (d : PyData), vs = [v] ∧ Dv M H v d ∧ wt d ≤ 4000000 ∧ Q (.bl (highD d)) H
theorem sc_is_high : FnScope ["thing"] ["thing"] (defScope s_is_high) := ⟨rfl, rfl, rfl, by decide +kernel, rfl, by decide +kernel, by decide +kernel⟩
section
variable {P : Program} {w : World} {K : PySem.W.Frag} {mg : Str → Option Value} {base : Heap} {f : Addr} {fd : FuncData}
theorem ok_is_tuple (F : Fun K "is_tuple" "is_tuple" s_is_tuple f fd) (B : Bl mg) : FnOk P w K mg base CX0 1 f fd ["thing", "least", "most"] sp_is_tuple := by
  refine F.ok sc_is_tuple (fun vs H Q E h => ?_) (fun cdv A outer s H vs Q E hr h => ?_)
  · obtain ⟨_, _, _, _, _, rfl, _⟩ := h
    rfl
  obtain ⟨M, v, d, l, m, rfl, hv, q⟩ := h
  refine ⟨_, pss_one (ps_ret (pe_and (pe_isi_tuple B (pv 0)) (pe_one (pe_chain op_le op_le (pv 1) (pe_lenq B (pv 0)) (pv 2))))), ?_⟩
  refine ⟨_, rfl, _, _, _, rfl, hv, ?_⟩
  cases hv with
  | @tup a xs ds e n r =>
    refine ⟨_, rfl, iteT ?_⟩
    refine ⟨_, rfl, _, rfl, _, _, rfl, .inr (SqT.of e), _, _, rfl, rfl, _, rfl, ?_⟩
    have hl := r.length
    unfold tupB at q
    simp only [← hl] at q
    by_cases c : l ≤ (xs.length : Int)
    · rw [decide_eq_true c, Bool.true_and] at q
      refine if_true_of (decide_eq_true c) ?_
      exact ⟨_, rfl, _, _, rfl, rfl, q⟩
    · rw [decide_eq_false c, Bool.false_and] at q
      exact if_false_of (decide_eq_false c) q
  | _ => exact ⟨_, rfl, iteF q⟩
theorem ok_is_run (F : Fun K "is_run" "is_run" s_is_run f fd) : FnOk P w K mg base CX0 1 f fd ["text"] sp_is_run := by
  refine F.ok sc_is_run (fun vs H Q E h => ?_) (fun cdv A outer s H vs Q E hr h => ?_)
  · obtain ⟨_, rfl, _⟩ := h
    rfl
  obtain ⟨x, rfl, q⟩ := h
  refine ⟨_, pss_one (ps_ret (pe_and (pe_bm0 PySem.F.plainAttrs_str PySem.F.slot_str_isascii PySem.F.type_str_isascii mt_isascii (pv 0)) (pe_one (pe_bm0 PySem.F.plainAttrs_str PySem.F.slot_str_isalnum PySem.F.type_str_isalnum mt_isalnum (pv 0))))), ?_⟩
  rw [← run_iff] at q
  refine ⟨_, rfl, rfl, x, rfl, rfl, trivial, _, rfl, ?_⟩
  cases e : Txt.isascii x with
  | true =>
    rw [e, Bool.true_and] at q
    refine iteT ?_
    exact ⟨_, rfl, rfl, x, rfl, rfl, trivial, q⟩
  | false =>
    rw [e, Bool.false_and] at q
    exact iteF q
theorem ok_is_name (F : Fun K "is_name" "is_name" s_is_name f fd) (B : Bl mg) (C : Cn K mg) (Fr : Fnn P w K mg base CX0 1 "is_run" ["text"] sp_is_run) : FnOk P w K mg base CX0 2 f fd ["thing"] sp_is_name := by
  obtain ⟨tl, mL⟩ := C.longest
  obtain ⟨ak, mK, hK⟩ := C.kept
  refine F.ok sc_is_name (fun vs H Q E h => ?_) (fun cdv A outer s H vs Q E hr h => ?_)
  · obtain ⟨_, _, _, rfl, _⟩ := h
    rfl
  obtain ⟨M, v, d, rfl, hv, hw, q⟩ := h
  refine ⟨_, pss_cons (ps_if (PW.pt (pw_or (pt_not (pt_val (pe_isi_str B (pv 0)))) (pw_or1 (pt_cmpR op_gt (pe_lens B (pv 0)) (pe_glob (v := .int 10) rfl mL ⟨_, rfl⟩) (nomark _))))) (pss_one (ps_ret pe_bl)) pss_nil)
    (pss_one (ps_ret (pe_and (pe_fn Fr hr (by decide) pass0 (pa_cons (pv 0) pa_nil)) (pe_and (pe_bm0 PySem.F.plainAttrs_str PySem.F.slot_str_isalpha PySem.F.type_str_isalpha mt_isalpha (pe_ix ix_str (pv 0) pe_int (fun _ _ => rfl)))
      (pe_one (pe_cmpR op_notIn_seq (pv 0) (pe_glob (v := .ref ak) rfl mK rfl) rfl)))))), ?_⟩
  refine ⟨_, rfl, _, _, _, rfl, hv, _, rfl, ?_⟩
  cases hv with
  | str x =>
    refine iteF ?_
    have hs : x.length ≤ sizeLine := sz (by unfold wt at hw; omega)
    refine ⟨_, rfl, x, rfl, hs, _, _, rfl, rfl, _, rfl, ?_⟩
    have q : Q (.bl (nameS x)) H := q
    unfold nameS at q
    by_cases c : (10 : Int) < (x.length : Int)
    · refine if_true_of (decide_eq_true c) ?_
      have c' : ¬ x.length ≤ 10 := by omega
      rw [decide_eq_false c'] at q
      exact goQ (c := false) q (by simp)
    · refine if_false_of (decide_eq_false c) ?_
      have c' : x.length ≤ 10 := by omega
      rw [decide_eq_true c'] at q
      refine ⟨_, rfl, x, rfl, _, rfl, ?_⟩
      by_cases c1 : 1 ≤ x.length
      · rw [decide_eq_true c1] at q ⊢
        obtain ⟨c0, r0, e0⟩ := cons_of_len c1
        rw [e0] at q ⊢
        by_cases c2 : (c0 :: r0).all anC = true
        · rw [c2] at q ⊢
          have hc0 : anC c0 = true := List.all_eq_true.mp c2 c0 List.mem_cons_self
          refine iteT ?_
          refine ⟨_, rfl, x, 0, c0, rfl, rfl, hs, (by rw [e0]; exact atI_nat (j := 0) rfl), rfl, _, rfl, rfl, trivial, _, rfl, ?_⟩
          rw [alpha1 (anC_lt hc0)]
          simp only [Bool.true_and] at q
          by_cases c3 : (upC c0 || loC c0) = true
          · rw [c3] at q ⊢
            refine iteT ?_
            refine ⟨_, rfl, ak, ([("fun" : Str), "kind", "number"]).map V.str, rfl, .inr (.inr hK), rfl, flat_strs _, ?_⟩
            rw [inV_strs]
            have e : decide (x ∈ [("fun" : Str), "kind", "number"]) = kept x := by
              unfold kept
              simp only [List.mem_cons, List.not_mem_nil, or_false, Bool.decide_or, Bool.or_assoc]
            rw [e]
            simpa using q
          · rw [Bool.eq_false_iff.mpr c3] at q ⊢
            exact iteF (by simpa using q)
        · rw [Bool.eq_false_iff.mpr c2] at q ⊢
          exact iteF (by simpa using q)
      · rw [decide_eq_false c1] at q ⊢
        exact iteF (by simpa using q)
  | _ => exact iteT q
theorem ok_is_high (F : Fun K "is_high" "is_high" s_is_high f fd) (Fn : Fnn P w K mg base CX0 2 "is_name" ["thing"] sp_is_name) : FnOk P w K mg base CX0 3 f fd ["thing"] sp_is_high := by
  refine F.ok sc_is_high (fun vs H Q E h => ?_) (fun cdv A outer s H vs Q E hr h => ?_)
  · obtain ⟨_, _, _, rfl, _⟩ := h
    rfl
  obtain ⟨M, v, d, rfl, hv, hw, q⟩ := h
  refine ⟨_, pss_one (ps_ret (pe_and (pe_fn Fn hr (by decide) pass0 (pa_cons (pv 0) pa_nil)) (pe_one (pe_bm0 PySem.F.plainAttrs_str PySem.F.slot_str_isupper PySem.F.type_str_isupper mt_isupper (pe_ix ix_str (pv 0) pe_int (fun _ _ => rfl)))))), ?_⟩
  refine ⟨_, rfl, M, v, d, rfl, hv, hw, _, rfl, ?_⟩
  cases hv with
  | str x =>
    have hs : x.length ≤ sizeLine := sz (by unfold wt at hw; omega)
    show if nameS x = true then _ else _
    have q' : Q (.bl (highS x)) H := q
    unfold highS at q'
    cases c : nameS x with
    | true =>
      refine iteT ?_
      have c1 : 1 ≤ x.length ∧ x.cps.toList.all anC = true := by
        unfold nameS at c
        simp only [Bool.and_eq_true, decide_eq_true_eq] at c
        exact ⟨c.1.1.1.1, c.1.1.2⟩
      obtain ⟨c0, r0, e0⟩ := cons_of_len c1.1
      have hc0 : anC c0 = true := List.all_eq_true.mp c1.2 c0 (by rw [e0]; exact List.mem_cons_self)
      refine ⟨_, rfl, x, 0, c0, rfl, rfl, hs, (by rw [e0]; exact atI_nat (j := 0) rfl), rfl, _, rfl, rfl, trivial, ?_⟩
      rw [upper1 (anC_lt hc0)]
      rw [c, e0] at q'
      simpa using q'
    | false =>
      refine iteF ?_
      rw [c] at q'
      simpa using q'
  | _ => exact iteF q
end
end K3
set_option Elab.async false
set_option linter.all false
set_option maxRecDepth 100000
set_option maxHeartbeats 4000000
namespace K3
open PySem PySem.Spec PyProof.Rows L2 GxR NdefX GA SL
abbrev s_are_unlike : Stmt := top 30
abbrev s_is_maker_alone : Stmt := top 29
abbrev s_is_kind_alone : Stmt := top 28
def sp_are_unlike (K : PySem.W.Frag) : Sp := fun vs H Q _ => ∃ (a : Addr) (xs : List Str), vs = [.ref a] ∧ SqL K H a (xs.map V.str) ∧ xs.length ≤ 4000 ∧ Q (.bl (decide xs.Nodup)) H
theorem sc_are_unlike : FnScope ["names"] ["names"] (defScope s_are_unlike) := ⟨rfl, rfl, rfl, by decide +kernel, rfl, by decide +kernel, by decide +kernel⟩
/-- what looks at a part of kinds promises: b of the part's data -/
def sp_look (T : List Addr) (b : PyData → Bool) : Sp := fun vs H Q _ => ∃ (M : List Addr) (v : V) (d : PyData), vs = [v] ∧ Dv M H v d ∧ wt d ≤ 4000000 ∧ Tabs T H ∧ ∀ H', Go T M H H' → Tabs T H' → Q (.bl (b d)) H'
theorem sc_maker_alone : FnScope ["thing", "name", "fields"] ["thing"] (defScope s_is_maker_alone) := ⟨rfl, rfl, rfl, by decide +kernel, rfl, by decide +kernel, by decide +kernel⟩
section
variable {P : Program} {w : World} {K : PySem.W.Frag} {mg : Str → Option Value} {base : Heap} {f c Pt : Addr} {fd : FuncData} {T : List Addr}
theorem ok_are_unlike (F : Fun K "_are_unlike" "_are_unlike" s_are_unlike f fd) (B : Bl mg) : FnOk P w K mg base CX0 1 f fd ["names"] (sp_are_unlike K) := by
  refine F.ok sc_are_unlike (fun vs H Q E h => ?_) (fun cdv A outer s H vs Q E hr h => ?_)
  · obtain ⟨_, _, rfl, _⟩ := h
    rfl
  obtain ⟨a, xs, rfl, hx, hl, q⟩ := h
  refine ⟨_, pss_one (ps_ret (pe_cmpR op_eq (pe_lenU B (pv 0)) (pe_lenq B (pv 0)) (nomark _))), ?_⟩
  refine ⟨_, rfl, a, xs, rfl, hx, hl, _, rfl, a, _, rfl, .inl hx, rfl, ?_⟩
  refine goQ q ?_
  rw [List.length_map]
  have e := uniq_len (l := xs)
  rw [decide_eq_decide, ← e]
  constructor
  · intro h
    rw [h]
  · intro h
    have h' := V.int.inj h
    omega
theorem ok_maker_alone (F : FunT K "_is_maker_alone" "_is_maker_alone" s_is_maker_alone f fd c) (B : Bl mg) (C : Cn K mg) (TB : TabB base mg c Pt) (hP : Pt ∈ T) (Ft : Fnn P w K mg base CX0 1 "is_tuple" ["thing", "least", "most"] sp_is_tuple)
    (Fh : Fnn P w K mg base CX0 3 "is_high" ["thing"] sp_is_high) : FnOk P w K mg base CX0 5 f fd ["thing"] (sp_look T makerB) := by
  obtain ⟨tf, mF⟩ := C.fields
  refine F.ok sc_maker_alone (fun vs H Q E h => ?_) (fun A outer s H vs Q E hr h => ?_)
  · obtain ⟨_, _, _, rfl, _⟩ := h
    rfl
  obtain ⟨M, v, d, rfl, hv, hw, ht, q⟩ := h
  have nd := sc_maker_alone.nd
  refine ⟨_, pss_cons (ps_if (pt_not (pt_val (pe_fn Ft hr (by decide) pass0 (pa_cons (pv 0) (pa_cons pe_int (pa_cons pe_int pa_nil)))))) (pss_one (ps_ret pe_bl)) pss_nil)
    (pss_cons (ps_asg (pv 0) (pg_tup rfl (pgs_cons (pg_name (i := 1) nd rfl (.inl rfl)) (pgs_cons (pg_name (i := 2) nd rfl (.inl rfl)) pgs_nil))))
    (pss_one (ps_ret (pe_and (pe_fn Fh hr (by decide) pass0 (pa_cons (pv 1) pa_nil)) (pe_and (pe_fn Ft hr (by decide) pass0 (pa_cons (pv 2) (pa_cons pe_int (pa_cons (pe_glob (v := .int 4) rfl mF ⟨_, rfl⟩) pa_nil))))
      (pe_one (pe_all (N := ["field"]) (fr := []) (js := []) hr rfl B.all TB rfl (gsc_by (by decide +kernel)) (by simp) rfl (pi_tup (pv 2)) (fun _ _ _ _ _ _ _ => pg_name (i := 0) (show (["field"] : List Str).Nodup by decide +kernel) rfl (.inl rfl))
        (fun _ _ _ _ _ _ _ hr' => pe_isi_str B (pv 0))))))))), ?_⟩
  refine ⟨_, rfl, M, v, d, 2, 2, rfl, hv, _, rfl, ?_⟩
  by_cases c1 : tupB d 2 2 = true
  · obtain ⟨x, y, rfl⟩ := tup2 c1
    obtain ⟨a, vx, vy, rfl, e, na, hx, hy⟩ := dv_pair hv
    rw [wt_pair] at hw
    refine if_false_of (by rw [c1] <;> rfl) ?_
    refine ⟨_, rfl, a, _, rfl, SqT.of e, rfl, _, _, rfl, _, _, rfl, rfl, ?_⟩
    refine ⟨_, rfl, M, vx, x, rfl, hx, by omega, _, rfl, ?_⟩
    have qq : makerB (.tuple [x, y]) = (highD x && (tupB y 0 4 && (itemsD y).all isStr)) := by
      unfold makerB
      rw [c1]
      show (true && highD x && tupB y 0 4 && (itemsD y).all isStr) = _
      rw [Bool.true_and, Bool.and_assoc]
    rw [qq] at q
    cases c2 : highD x with
    | false =>
      refine iteF ?_
      rw [c2] at q
      exact q H Go.refl ht
    | true =>
      refine iteT ?_
      rw [c2, Bool.true_and] at q
      refine ⟨_, rfl, M, vy, y, 0, 4, rfl, hy, _, rfl, ?_⟩
      cases c3 : tupB y 0 4 with
      | false =>
        refine iteF ?_
        rw [c3] at q
        exact q H Go.refl ht
      | true =>
        refine iteT ?_
        rw [c3, Bool.true_and] at q
        obtain ⟨fs, rfl, l0, l4⟩ := tupOf c3
        obtain ⟨b, ws, rfl, eb, nb, hws⟩ := dv_tup hy
        refine ⟨_, rfl, b, rfl, ⟨_, SqT.of eb⟩, all_tup (b := isStr) eb nb hws ht hP (fun x' d' H' R _ hv' g' t' hR => ?_) q⟩
        exact ⟨_, rfl, _, _, _, rfl, hv', hR H' Go.refl t'⟩
  · refine if_true_of (by rw [Bool.eq_false_iff.mpr c1] <;> rfl) ?_
    have := q H Go.refl ht
    have e : makerB d = false := by unfold makerB; rw [Bool.eq_false_iff.mpr c1] <;> rfl
    rw [e] at this
    exact this
end
end K3
set_option Elab.async false
set_option linter.all false
set_option maxRecDepth 100000
set_option maxHeartbeats 4000000
namespace K3
open PySem PySem.Spec PyProof.Rows L2 GxR NdefX GA SL
abbrev s_is_kinds : Stmt := top 18
theorem sc_kind_alone : FnScope ["thing", "name", "makers"] ["thing"] (defScope s_is_kind_alone) := ⟨rfl, rfl, rfl, by decide +kernel, rfl, by decide +kernel, by decide +kernel⟩
/-! ### the data of kinds -/
theorem maker_of {m : PyData} (h : makerB m = true) : ∃ (x : Str) (fs : List Str), m = .tuple [.str x, .tuple (fs.map .str)] ∧ highS x = true ∧ fs.length ≤ 4 := by
  unfold makerB at h
  simp only [Bool.and_eq_true] at h
  obtain ⟨⟨⟨h1, h2⟩, h3⟩, h4⟩ := h
  obtain ⟨a, b, rfl⟩ := tup2 h1
  have h2 : highD a = true := h2
  obtain ⟨x, rfl⟩ : ∃ x, a = .str x := by
    cases a with
    | str x => exact ⟨x, rfl⟩
    | _ => simp [highD] at h2
  obtain ⟨fs, e, l0, l4⟩ := tupOf h3
  have e : b = .tuple fs := e
  subst e
  have h4 : fs.all isStr = true := h4
  have key : ∀ l : List PyData, l.all isStr = true → ∃ ys : List Str, l = ys.map .str := by
    intro l
    induction l with
    | nil => intro _; exact ⟨[], rfl⟩
    | cons d r ih =>
      intro h
      rw [List.all_cons, Bool.and_eq_true] at h
      obtain ⟨ys, e⟩ := ih h.2
      cases d with
      | str y => exact ⟨y :: ys, by rw [e] <;> rfl⟩
      | _ => simp [isStr] at h
  obtain ⟨ys, rfl⟩ := key fs h4
  exact ⟨x, ys, rfl, h2, by rw [List.length_map] at l4; omega⟩
theorem kind_of {k : PyData} (h : kindB k = true) : ∃ (x : Str) (ms : List PyData), k = .tuple [.str x, .tuple ms] ∧ highS x = true ∧ 1 ≤ ms.length ∧ ms.length ≤ 6 ∧ ms.all makerB = true := by
  unfold kindB at h
  simp only [Bool.and_eq_true] at h
  obtain ⟨⟨⟨h1, h2⟩, h3⟩, h4⟩ := h
  obtain ⟨a, b, rfl⟩ := tup2 h1
  have h2 : highD a = true := h2
  obtain ⟨x, rfl⟩ : ∃ x, a = .str x := by
    cases a with
    | str x => exact ⟨x, rfl⟩
    | _ => simp [highD] at h2
  obtain ⟨fs, e, l0, l4⟩ := tupOf h3
  have e : b = .tuple fs := e
  subst e
  exact ⟨x, fs, rfl, h2, by omega, by omega, h4⟩
/-- the kinds' names, all makers -/
def kNames (ks : List PyData) : List Str := ks.map fun k => strD (fstD k)
def kMakers (ks : List PyData) : List PyData := ks.flatMap fun k => itemsD (sndD k)
def mFields (ms : List PyData) : List Str := ms.flatMap fun m => (itemsD (sndD m)).map strD
theorem take_snoc {α : Type} {l : List α} {i : Nat} {x : α} (h : l[i]? = some x) : l.take (i + 1) = l.take i ++ [x] := by rw [List.take_add_one, h] <;> rfl
theorem len_makers : ∀ ks : List PyData, (∀ k ∈ ks, kindB k = true) → (kMakers ks).length ≤ 6 * ks.length
  | [], _ => by simp [kMakers]
  | k :: r, h => by
    obtain ⟨x, ms, rfl, _, _, l6, _⟩ := kind_of (h k List.mem_cons_self)
    have ih := len_makers r fun k hk => h k (List.mem_cons_of_mem _ hk)
    have e : kMakers (.tuple [.str x, .tuple ms] :: r) = ms ++ kMakers r := by
      unfold kMakers
      rw [List.flatMap_cons] <;> rfl
    rw [e, List.length_append, List.length_cons]
    omega
theorem all_makers : ∀ ks : List PyData, (∀ k ∈ ks, kindB k = true) → ∀ m ∈ kMakers ks, makerB m = true := fun ks h m hm => by
  unfold kMakers at hm
  obtain ⟨k, hk, hm⟩ := List.mem_flatMap.mp hm
  obtain ⟨x, ms, rfl, _, _, _, ha⟩ := kind_of (h k hk)
  exact List.all_eq_true.mp ha m hm
theorem len_fields : ∀ ms : List PyData, (∀ m ∈ ms, makerB m = true) → (mFields ms).length ≤ 4 * ms.length
  | [], _ => by simp [mFields]
  | m :: r, h => by
    obtain ⟨x, fs, rfl, _, l4⟩ := maker_of (h m List.mem_cons_self)
    have ih := len_fields r fun k hk => h k (List.mem_cons_of_mem _ hk)
    have e : mFields (.tuple [.str x, .tuple (fs.map .str)] :: r) = ((fs.map PyData.str).map strD) ++ mFields r := by
      unfold mFields
      rw [List.flatMap_cons] <;> rfl
    rw [e, List.length_append, List.length_map, List.length_map, List.length_cons]
    omega
theorem strs_back (fs : List Str) : (fs.map PyData.str).map strD = fs := by
  rw [List.map_map]
  exact List.map_id'' (fun _ => rfl) fs
section
variable {P : Program} {w : World} {K : PySem.W.Frag} {mg : Str → Option Value} {base : Heap} {f c Pt : Addr} {fd : FuncData} {T : List Addr}
theorem ok_kind_alone (F : FunT K "_is_kind_alone" "_is_kind_alone" s_is_kind_alone f fd c) (B : Bl mg) (C : Cn K mg) (TB : TabB base mg c Pt) (hP : Pt ∈ T) (Ft : Fnn P w K mg base CX0 1 "is_tuple" ["thing", "least", "most"] sp_is_tuple)
    (Fh : Fnn P w K mg base CX0 3 "is_high" ["thing"] sp_is_high) (Fm : Fnn P w K mg base CX0 5 "_is_maker_alone" ["thing"] (sp_look T makerB)) : FnOk P w K mg base CX0 7 f fd ["thing"] (sp_look T kindB) := by
  obtain ⟨tf, mF⟩ := C.makers
  refine F.ok sc_kind_alone (fun vs H Q E h => ?_) (fun A outer s H vs Q E hr h => ?_)
  · obtain ⟨_, _, _, rfl, _⟩ := h
    rfl
  obtain ⟨M, v, d, rfl, hv, hw, ht, q⟩ := h
  have nd := sc_kind_alone.nd
  refine ⟨_, pss_cons (ps_if (pt_not (pt_val (pe_fn Ft hr (by decide) pass0 (pa_cons (pv 0) (pa_cons pe_int (pa_cons pe_int pa_nil)))))) (pss_one (ps_ret pe_bl)) pss_nil)
    (pss_cons (ps_asg (pv 0) (pg_tup rfl (pgs_cons (pg_name (i := 1) nd rfl (.inl rfl)) (pgs_cons (pg_name (i := 2) nd rfl (.inl rfl)) pgs_nil))))
    (pss_one (ps_ret (pe_and (pe_fn Fh hr (by decide) pass0 (pa_cons (pv 1) pa_nil)) (pe_and (pe_fn Ft hr (by decide) pass0 (pa_cons (pv 2) (pa_cons pe_int (pa_cons (pe_glob (v := .int 6) rfl mF ⟨_, rfl⟩) pa_nil))))
      (pe_one (pe_all (k := 5) (N := ["maker"]) (fr := []) (js := []) hr rfl B.all TB rfl (gsc_by (by decide +kernel)) (by simp) rfl (pi_tup (pv 2)) (fun _ _ _ _ _ _ _ => pg_name (i := 0) (show (["maker"] : List Str).Nodup by decide +kernel) rfl (.inl rfl))
        (fun _ _ _ _ _ _ _ hr' => pe_fn Fm hr' (by decide) pass0 (pa_cons (pv 0) pa_nil))))))))), ?_⟩
  refine ⟨_, rfl, M, v, d, 2, 2, rfl, hv, _, rfl, ?_⟩
  by_cases c1 : tupB d 2 2 = true
  · obtain ⟨x, y, rfl⟩ := tup2 c1
    obtain ⟨a, vx, vy, rfl, e, na, hx, hy⟩ := dv_pair hv
    rw [wt_pair] at hw
    refine if_false_of (by rw [c1] <;> rfl) ?_
    refine ⟨_, rfl, a, _, rfl, SqT.of e, rfl, _, _, rfl, _, _, rfl, rfl, ?_⟩
    refine ⟨_, rfl, M, vx, x, rfl, hx, by omega, _, rfl, ?_⟩
    have qq : kindB (.tuple [x, y]) = (highD x && (tupB y 1 6 && (itemsD y).all makerB)) := by
      unfold kindB
      rw [c1]
      show (true && highD x && tupB y 1 6 && (itemsD y).all makerB) = _
      rw [Bool.true_and, Bool.and_assoc]
    rw [qq] at q
    cases c2 : highD x with
    | false =>
      refine iteF ?_
      rw [c2] at q
      exact q H Go.refl ht
    | true =>
      refine iteT ?_
      rw [c2, Bool.true_and] at q
      refine ⟨_, rfl, M, vy, y, 1, 6, rfl, hy, _, rfl, ?_⟩
      cases c3 : tupB y 1 6 with
      | false =>
        refine iteF ?_
        rw [c3] at q
        exact q H Go.refl ht
      | true =>
        refine iteT ?_
        rw [c3, Bool.true_and] at q
        obtain ⟨fs, rfl, l0, l4⟩ := tupOf c3
        obtain ⟨b, ws, rfl, eb, nb, hws⟩ := dv_tup hy
        rw [wt_tup] at hw
        refine ⟨_, rfl, b, rfl, ⟨_, SqT.of eb⟩, all_tup (b := makerB) eb nb hws ht hP (fun x' d' H' R hd' hv' g' t' hR => ?_) q⟩
        have := wt_mem hd'
        exact ⟨_, rfl, M, x', d', rfl, hv', by omega, t', hR⟩
  · refine if_true_of (by rw [Bool.eq_false_iff.mpr c1] <;> rfl) ?_
    have := q H Go.refl ht
    have e : kindB d = false := by unfold kindB; rw [Bool.eq_false_iff.mpr c1] <;> rfl
    rw [e] at this
    exact this
theorem sc_is_kinds : FnScope ["thing", "names", "makers", "fields", "name", "_", "own", "maker", "field"] ["thing"] (defScope s_is_kinds) := ⟨rfl, rfl, rfl, by decide +kernel, rfl, by decide +kernel, by decide +kernel⟩
end
end K3
set_option Elab.async false
set_option linter.all false
set_option maxRecDepth 100000
set_option maxHeartbeats 8000000
namespace K3
open PySem PySem.Spec PyProof.Rows L2 GxR NdefX GA SL
theorem strs_of : ∀ {l : List PyData}, (∀ d ∈ l, isStr d = true) → l = (l.map strD).map .str
  | [], _ => rfl
  | d :: r, h => by
    have ih := strs_of fun x hx => h x (List.mem_cons_of_mem _ hx)
    have h1 := h d List.mem_cons_self
    cases d with
    | str y =>
      show PyData.str y :: r = PyData.str y :: ((r.map strD).map .str)
      rw [← ih]
    | _ => simp [isStr] at h1
theorem titles_str {ks : List PyData} (hk : ∀ k ∈ ks, kindB k = true) : ∀ d ∈ ks.map fstD, isStr d = true := fun d hd => by
  obtain ⟨k, hkm, rfl⟩ := List.mem_map.mp hd
  obtain ⟨x, ms, rfl, _⟩ := kind_of (hk k hkm)
  rfl
theorem mnames_str {ms : List PyData} (hm : ∀ m ∈ ms, makerB m = true) : ∀ d ∈ ms.map fstD, isStr d = true := fun d hd => by
  obtain ⟨m, hmm, rfl⟩ := List.mem_map.mp hd
  obtain ⟨x, ms, rfl, _⟩ := maker_of (hm m hmm)
  rfl
theorem fields_str {ms : List PyData} (hm : ∀ m ∈ ms, makerB m = true) : ∀ d ∈ ms.flatMap (fun m => itemsD (sndD m)), isStr d = true := fun d hd => by
  obtain ⟨m, hmm, hd⟩ := List.mem_flatMap.mp hd
  obtain ⟨x, fs, rfl, _⟩ := maker_of (hm m hmm)
  obtain ⟨y, _, rfl⟩ := List.mem_map.mp (show d ∈ fs.map PyData.str from hd)
  rfl
theorem flen : ∀ {ms : List PyData}, (∀ m ∈ ms, makerB m = true) → (ms.flatMap (fun m => itemsD (sndD m))).length ≤ 4 * ms.length
  | [], _ => by simp
  | m :: r, h => by
    obtain ⟨x, fs, rfl, _, l4⟩ := maker_of (h m List.mem_cons_self)
    have ih := flen fun k hk => h k (List.mem_cons_of_mem _ hk)
    rw [List.flatMap_cons, List.length_append, List.length_cons]
    have : (itemsD (sndD (.tuple [.str x, .tuple (fs.map .str)]))).length = fs.length := List.length_map ..
    omega
section
variable {P : Program} {w : World} {K : PySem.W.Frag} {mg : Str → Option Value} {base : Heap} {f c Pt : Addr} {fd : FuncData} {T : List Addr}
theorem ok_is_kinds (F : FunT K "is_kinds" "is_kinds" s_is_kinds f fd c) (B : Bl mg) (C : Cn K mg) (TB : TabB base mg c Pt) (hP : Pt ∈ T) (Ft : Fnn P w K mg base CX0 1 "is_tuple" ["thing", "least", "most"] sp_is_tuple)
    (Fu : Fnn P w K mg base CX0 1 "_are_unlike" ["names"] (sp_are_unlike K)) (Fm : Fnn P w K mg base CX0 7 "_is_kind_alone" ["thing"] (sp_look T kindB)) : FnOk P w K mg base CX0 9 f fd ["thing"] (sp_look T kindsB) := by
  obtain ⟨tf, mF⟩ := C.kinds
  refine F.ok sc_is_kinds (fun vs H Q E h => ?_) (fun A outer s H vs Q E hr h => ?_)
  · obtain ⟨_, _, _, rfl, _⟩ := h
    rfl
  obtain ⟨M, v, d, rfl, hv, hw, ht, q⟩ := h
  replace hv : Dv [] H v d := hv.less fun _ z => by simp at z
  replace q : ∀ H', Go T [] H H' → Tabs T H' → Q (.bl (kindsB d)) H' := fun H' g t => q H' g.of0 t
  have nd := sc_is_kinds.nd
  refine ⟨_, pss_cons (ps_if (PW.pt (pw_or (pt_not (pt_val (pe_fn Ft hr (by decide) pass0 (pa_cons (pv 0) (pa_cons pe_int (pa_cons (pe_glob (v := .int 6) rfl mF ⟨_, rfl⟩) pa_nil))))))
      (pw_or1 (pt_not (pt_val (pe_all (k := 7) (N := ["kind"]) (fr := []) (js := []) hr rfl B.all TB rfl (gsc_by (by decide +kernel)) (by simp) rfl (pi_tup (pv 0)) (fun _ _ _ _ _ _ _ => pg_name (i := 0) (show (["kind"] : List Str).Nodup by decide +kernel) rfl (.inl rfl))
        (fun _ _ _ _ _ _ _ hr' => pe_fn Fm hr' (by decide) pass0 (pa_cons (pv 0) pa_nil)))))))) (pss_one (ps_ret pe_bl)) pss_nil)
    (pss_cons (ps_set (i := 1) nd rfl (Or.inr rfl) (pe_lc (own := [("name", 4), ("_", 5)]) (g := gTup K 2 (gCons (gName 4) (gCons (gName 5) gNil))) (tt := tYes) rfl nd (pi_tup (pv 0)) (blkOk_by (own := [("name", 4), ("_", 5)]) (N := ["thing", "names", "makers", "fields", "name", "_", "own", "maker", "field"]) (sc := defScope s_is_kinds) (by decide +kernel))
        (fun _ _ _ _ _ => pg_tup rfl (pgs_cons (pg_name (i := 4) nd rfl (Or.inl rfl)) (pgs_cons (pg_name (i := 5) nd rfl (Or.inl rfl)) pgs_nil))) (fun _ _ _ _ _ => pts_nil) (fun _ _ _ _ _ => pv 4)))
    (pss_cons (ps_setLc2 (i := 2) (own := [("_", 5), ("own", 6), ("maker", 7)]) (vs1 := [7]) (g := gTup K 2 (gCons (gName 5) (gCons (gName 6) gNil))) (g1 := gName 7) (tt := tYes) (tt1 := tYes) (wi1 := iTup K (tVar 6)) rfl nd rfl rfl (sw_true rfl rfl rfl (by decide +kernel)) (pi_tup (pv 0))
        (blkOk_by (own := [("_", 5), ("own", 6), ("maker", 7)]) (N := ["thing", "names", "makers", "fields", "name", "_", "own", "maker", "field"]) (sc := defScope s_is_kinds) (by decide +kernel)) (by decide)
        (fun _ _ _ _ _ => pg_tup rfl (pgs_cons (pg_name (i := 5) nd rfl (Or.inl rfl)) (pgs_cons (pg_name (i := 6) nd rfl (Or.inl rfl)) pgs_nil))) (fun _ _ _ _ _ => pts_nil) (fun _ _ _ _ _ => pi_tup (pv 6)) (fun _ _ _ _ _ => pg_name (i := 7) nd rfl (Or.inl rfl)) (fun _ _ _ _ _ => pts_nil) (fun _ _ _ _ _ => pv 7))
    (pss_cons (ps_setLc2 (i := 3) (own := [("_", 5), ("own", 6), ("field", 8)]) (vs1 := [8]) (g := gTup K 2 (gCons (gName 5) (gCons (gName 6) gNil))) (g1 := gName 8) (tt := tYes) (tt1 := tYes) (wi1 := iTup K (tVar 6)) rfl nd rfl rfl (sw_true rfl rfl rfl (by decide +kernel)) (pi_list (pv 2))
        (blkOk_by (own := [("_", 5), ("own", 6), ("field", 8)]) (N := ["thing", "names", "makers", "fields", "name", "_", "own", "maker", "field"]) (sc := defScope s_is_kinds) (by decide +kernel)) (by decide)
        (fun _ _ _ _ _ => pg_tup rfl (pgs_cons (pg_name (i := 5) nd rfl (Or.inl rfl)) (pgs_cons (pg_name (i := 6) nd rfl (Or.inl rfl)) pgs_nil))) (fun _ _ _ _ _ => pts_nil) (fun _ _ _ _ _ => pi_tup (pv 6)) (fun _ _ _ _ _ => pg_name (i := 8) nd rfl (Or.inl rfl)) (fun _ _ _ _ _ => pts_nil) (fun _ _ _ _ _ => pv 8))
    (pss_one (ps_ret (pe_and (pe_fn Fu hr (by decide) pass0 (pa_cons (pv 1) pa_nil)) (pe_and (pe_fn Fu hr (by decide) pass0 (pa_cons (pe_lc (own := [("name", 4), ("_", 5)]) (g := gTup K 2 (gCons (gName 4) (gCons (gName 5) gNil))) (tt := tYes) rfl nd (pi_list (pv 2)) (blkOk_by (own := [("name", 4), ("_", 5)]) (N := ["thing", "names", "makers", "fields", "name", "_", "own", "maker", "field"]) (sc := defScope s_is_kinds) (by decide +kernel))
        (fun _ _ _ _ _ => pg_tup rfl (pgs_cons (pg_name (i := 4) nd rfl (Or.inl rfl)) (pgs_cons (pg_name (i := 5) nd rfl (Or.inl rfl)) pgs_nil))) (fun _ _ _ _ _ => pts_nil) (fun _ _ _ _ _ => pv 4)) pa_nil))
      (pe_one (pe_all (k := 7) (te := tOrV (tOp rEq (tVar 1) (tC (.str "number"))) (tOp (rIn K false) (tVar 1) (tVar 0))) (N := ["names", "field"]) (fr := ["names"]) (js := [1]) hr rfl B.all TB rfl (gsc_by (by decide +kernel)) (fun y hy => by rw [List.mem_singleton.mp hy]; exact .inl rfl) rfl (pi_list (pv 3)) (fun _ _ _ _ _ _ _ => pg_name (i := 1) (show (["names", "field"] : List Str).Nodup by decide +kernel) rfl (.inl rfl))
        (fun _ _ _ _ _ _ _ hr' => pe_or (pe_cmpR op_eq (pv 1) pe_str (nomark _)) (pe_one (pe_cmpR op_in_seq (pv 1) (pv 0) rfl)))))))))))), ?_⟩
  refine ⟨_, rfl, [], v, d, 1, 6, rfl, hv, _, rfl, ?_⟩
  by_cases c1 : tupB d 1 6 = true
  · obtain ⟨ks, rfl, l1, l6⟩ := tupOf c1
    obtain ⟨a, xs, rfl, e, na, hxs⟩ := dv_tup hv
    have hl := hxs.length
    rw [wt_tup] at hw
    rw [c1]
    refine iteF ?_
    refine ⟨_, rfl, a, rfl, ⟨_, SqT.of e⟩, all_it (b := kindB) walk_tup (fun H' g => SqT.of (g.tup e na)) hxs ht hP (fun x' d' H' R hd' hv' g' t' hR => ?_) (fun H1 g1 t1 c2 => ?_) (fun H1 g1 t1 c2 => ?_)⟩
    · have := wt_mem hd'
      exact ⟨_, rfl, [], x', d', rfl, hv', by omega, t', hR⟩
    · refine ⟨_, rfl, ?_⟩
      refine iteF ?_
      have hk : ∀ k ∈ ks, kindB k = true := fun k hk => List.all_eq_true.mp c2 k hk
      have h0 : DvAll [] H1 xs ks := hxs.go g1
      have e1 : H1 a = some (.tup xs) := g1.tup e na
      have nn : ∀ b : Addr, b ∉ ([] : List Addr) := fun b => List.not_mem_nil
      refine ⟨_, rfl, a, rfl, ⟨_, SqT.of e1⟩, fun D hD => ?_⟩
      refine lc_fst (M := []) (T := T) (H0 := H1) (xs := xs) (ds := ks) walk_tup (fun H' g => SqT.of (g.tup e1 (nn _))) h0 ?_ Go.refl hD (sz (by omega)) (fun _ _ => rfl) (fun _ _ => rfl) (fun H2 acc g2 e2 d2 => ?_)
      · intro k hkm
        obtain ⟨x, ms, rfl, _⟩ := kind_of (hk k hkm)
        exact ⟨_, _, rfl⟩
      refine ⟨_, rfl, a, rfl, ⟨_, SqT.of (g2.tup e1 (nn _))⟩, fun D2 hD2 => ?_⟩
      refine lc2_snd (M := []) (T := T) (H0 := H2) (xs := xs) (ds := ks) (c := 6) walk_tup (fun H' g => SqT.of ((g2.trans g).tup e1 (nn _))) (h0.go g2) ?_ Go.refl hD2 (sz (by omega)) (fun _ _ => rfl) (fun _ _ => rfl) (fun _ _ _ => rfl) (fun _ _ _ => rfl) (fun H3 ac3 g3 e3 d3 => ?_)
      · intro k hkm
        obtain ⟨x, ms, rfl, _, _, l, _⟩ := kind_of (hk k hkm)
        exact ⟨_, _, rfl, l⟩
      have hm := all_makers ks hk
      have lm := len_makers ks hk
      have lac := d3.length
      have lac : ac3.length = (kMakers ks).length := lac
      refine ⟨_, rfl, D2, rfl, ⟨_, SqL.of e3⟩, fun D3 hD3 => ?_⟩
      refine lc2_snd (M := []) (T := T) (H0 := H3) (xs := ac3) (ds := kMakers ks) (c := 4) walk_list (fun H' g => SqL.of (g.lst e3 (nn _))) (d3.go g3) ?_ Go.refl hD3 (sz (by omega)) (fun _ _ => rfl) (fun _ _ => rfl) (fun _ _ _ => rfl) (fun _ _ _ => rfl) (fun H4 ac4 g4 e4 d4 => ?_)
      · intro m hmm
        obtain ⟨x, fs, rfl, _, l⟩ := maker_of (hm m hmm)
        exact ⟨_, _, rfl, by rw [List.length_map]; exact l⟩
      have g14 := (g2.trans g3).trans g4
      have eD := (g3.trans g4).lst e2 (nn _)
      have E1 := strs_of (titles_str hk)
      have d2' := d2
      rw [E1] at d2'
      have d2' := d2'.of_strs
      have lk : ((ks.map fstD).map strD).length = ks.length := by rw [List.length_map, List.length_map]
      refine ⟨_, rfl, D, (ks.map fstD).map strD, rfl, SqL.of (by rw [← d2']; exact eD), by omega, _, rfl, ?_⟩
      have qq : kindsB (.tuple ks) = (unl (ks.map fstD) && (unl ((kMakers ks).map fstD) && ((kMakers ks).flatMap fun m => itemsD (sndD m)).all (fieldOk (.tuple ks)))) := by
        unfold kindsB
        rw [c1]
        show (true && ks.all kindB && unl (ks.map fstD) && unl ((kMakers ks).map fstD) && ((kMakers ks).flatMap fun m => itemsD (sndD m)).all (fieldOk (.tuple ks))) = _
        rw [c2, Bool.true_and, Bool.true_and, Bool.and_assoc]
      rw [qq] at q
      show if unl (ks.map fstD) = true then _ else _
      cases c3 : unl (ks.map fstD) with
      | false =>
        refine iteF ?_
        rw [c3] at q
        exact q H4 (g1.trans g14) (g14.tb t1)
      | true =>
        refine iteT ?_
        rw [c3, Bool.true_and] at q
        have e3' : H4 D2 = some (.lst ac3) := g4.lst e3 (nn _)
        refine ⟨_, rfl, D2, rfl, ⟨_, SqL.of e3'⟩, fun D5 hD5 => ?_⟩
        refine lc_fst (M := []) (T := T) (H0 := H4) (xs := ac3) (ds := kMakers ks) walk_list (fun H' g => SqL.of (g.lst e3' (nn _))) ((d3.go g3).go g4) ?_ Go.refl hD5 (sz (by omega)) (fun _ _ => rfl) (fun _ _ => rfl) (fun H5 ac5 g5 e5 d5 => ?_)
        · intro m hmm
          obtain ⟨x, fs, rfl, _, l⟩ := maker_of (hm m hmm)
          exact ⟨_, _, rfl⟩
        have E2 := strs_of (mnames_str hm)
        have d5' := d5
        rw [E2] at d5'
        have d5' := d5'.of_strs
        have lk5 : (((kMakers ks).map fstD).map strD).length = (kMakers ks).length := by rw [List.length_map, List.length_map]
        refine ⟨D5, ((kMakers ks).map fstD).map strD, rfl, SqL.of (by rw [← d5']; exact e5), by omega, _, rfl, ?_⟩
        show if unl ((kMakers ks).map fstD) = true then _ else _
        have g15 := g14.trans g5
        cases c4 : unl ((kMakers ks).map fstD) with
        | false =>
          refine iteF ?_
          rw [c4] at q
          exact q H5 (g1.trans g15) (g15.tb t1)
        | true =>
          refine iteT ?_
          rw [c4, Bool.true_and] at q
          have e4' : H5 D3 = some (.lst ac4) := g5.lst e4 (nn _)
          refine ⟨_, rfl, D3, rfl, ⟨_, SqL.of e4'⟩, all_it (b := fieldOk (.tuple ks)) (T := T) (M := []) walk_list (fun H' g => SqL.of (g.lst e4' (nn _))) ((d4.go g4).go g5) (g15.tb t1) hP (fun x' d' H' R hd' hv' g' t' hR => ?_) (fun H6 g6 t6 c5 => ?_) (fun H6 g6 t6 c5 => ?_)⟩
          · have hs := fields_str hm d' hd'
            cases d' with
            | str y =>
              cases hv'
              refine ⟨_, rfl, rfl, _, rfl, ?_⟩
              have en : fieldOk (.tuple ks) (.str y) = (decide (V.str y = V.str "number") || inV (.str y) (((ks.map fstD).map strD).map V.str)) := by
                rw [inV_strs]
                show (decide (y = "number") || decide (y ∈ (ks.map fstD).map strD)) = _
                congr 1
                rw [decide_eq_decide]
                exact ⟨fun h => by rw [h], fun h => V.str.inj h⟩
              rw [en] at hR
              cases c5 : decide (V.str y = V.str "number") with
              | true =>
                refine iteT ?_
                rw [c5, Bool.true_or] at hR
                exact hR H' Go.refl t'
              | false =>
                refine iteF ?_
                rw [c5, Bool.false_or] at hR
                refine ⟨_, rfl, _, rfl, D, ((ks.map fstD).map strD).map V.str, rfl, .inl (SqL.of (by rw [← d2']; exact (g5.trans g').lst eD (nn _))), rfl, ?_, ?_⟩
                · rw [List.all_map]
                  exact List.all_eq_true.mpr fun _ _ => rfl
                · exact hR H' Go.refl t'
            | _ => simp [isStr] at hs
          · show Q (.bl true) H6
            have := q H6 (g1.trans (g15.trans g6)) t6
            have c5' : ((kMakers ks).flatMap fun m => itemsD (sndD m)).all (fieldOk (.tuple ks)) = true := c5
            rw [c5'] at this
            exact this
          · have := q H6 (g1.trans (g15.trans g6)) t6
            have c5' : ((kMakers ks).flatMap fun m => itemsD (sndD m)).all (fieldOk (.tuple ks)) = false := c5
            rw [c5'] at this
            exact this
    · refine ⟨_, rfl, ?_⟩
      refine iteT ?_
      have := q H1 g1 t1
      have e : kindsB (.tuple ks) = false := by
        unfold kindsB
        rw [c1]
        show (true && ks.all kindB && unl (ks.map fstD) && unl ((kMakers ks).map fstD) && ((kMakers ks).flatMap fun m => itemsD (sndD m)).all (fieldOk (.tuple ks))) = _
        rw [c2] <;> rfl
      rw [e] at this
      exact this
  · have c1' : tupB d 1 6 = false := Bool.eq_false_iff.mpr c1
    rw [c1']
    refine iteT ?_
    have := q H Go.refl ht
    have e : kindsB d = false := by unfold kindsB; rw [c1'] <;> rfl
    rw [e] at this
    exact this
end
end K3
set_option Elab.async false
set_option linter.all false
set_option maxRecDepth 100000
set_option maxHeartbeats 2000000
/-! own words, 9: calls with keywords alone; calls whose exception the slots' wish takes -/
namespace SL
open PySem PySem.Spec PyProof.Rows L2 GxR NdefX GA
/-- a def as it is called by all its keywords, in its parameters' order -/
structure Fnw (P : Program) (w : World) (K : PySem.W.Frag) (mg : Str → Option Value) (base : Heap) (CX : CXT) (k : Nat) (x : Str) (ps : List Str) (sp : Sp) : Prop where
  ex : ∃ (f : Addr) (fd : FuncData), FnOk P w K mg base CX k f fd ps sp ∧ mg x = some (.ref f) ∧ PySem.W.keepIn K (.ref f) = true ∧ ∀ (s : Shared) (ws : List Value), K.In s.heap → ws.length = ps.length → BindsTo s fd ⟨[], ps.zip ws⟩ (ps.zip ws)
section
variable {X : Cx} {CX : CXT} {k j : Nat} {x : Str} {ps : List Str} {sp : Sp} {e : Expr} {es : List Expr} {kws : List Keyword} {t tk : TA} {p pos : Pos} {E : L2.St → XK} {f : Addr} {fd : FuncData}
theorem run_fw {pins : List (Addr × Obj)} {σ : L2.St} {H : Hp} {s : Shared} {Q : VK} {us : List Value} {vs : List V} (F : FnOk X.prog X.w X.K X.mg X.base CX k f fd ps sp) (hr : Room k X.A)
    (hb : ∀ (s : Shared) (ws : List Value), X.K.In s.heap → ws.length = ps.length → BindsTo s fd ⟨[], ps.zip ws⟩ (ps.zip ws)) (hx : PassesAt CX X σ (E σ))
    (I : Inv X pins σ H s) (r : Vals vs us) (h : sp vs H Q (E σ)) : wpAny (model X.prog X.w) X.A (call (.ref f) [] (ps.zip us)) (EP X pins σ Q) X.xe s := by
  have hl : us.length = ps.length := by rw [← r.length]; exact F.len _ _ _ _ h
  refine wpAny_call (codeAny_mono (F.run X.A X.stack s H ⟨[], ps.zip us⟩ us vs Q (E σ) hr I.env0 (hb s us I.kIn hl) r h) fun r s' hq => ?_)
  cases r with
  | error e => exact hx pins H s e s' I hq
  | ok fl =>
    cases fl with
    | ret u => exact I.after hq
    | next => exact False.elim hq
    | brk => exact False.elim hq
    | cont => exact False.elim hq
/-- f(k = v, ..) -/
theorem pe_kw (F : Fnw X.prog X.w X.K X.mg X.base CX k x ps sp) (hr : Room j X.A) (hk : k ≤ j) (hx : ∀ σ, PassesAt CX X σ (E σ)) (hkw : PK X kws tk) (hg : Gl X x := by rfl)
    (hall : (backToKw pos (keywordEach kws X.env)).all (·.1.isSome) = true := by rfl) (hks : (backToKw pos (keywordEach kws X.env)).filterMap (·.1) = ps := by rfl) (hdb : (x == ("__debug__" : Str)) = false := by decide)
    (hpl : ((backTo pos (starEach [] X.env)).any (·.1) || (backToKw pos (keywordEach kws X.env)).any (·.1.isNone)) = false := by rfl) :
    PE X (.Call (.Name x p) [] kws pos) (tCallS sp E tk) := by
  obtain ⟨f, fd, G, m, kp, b⟩ := F.ex
  refine ⟨fun pins s σ H Q I h => ?_⟩
  refine wpAny_Call_Name_kw (ld_glob I hg m ?_ hdb)
  refine PySem.W.callWith_KW0 (h₀ := X.base) I.ok.mod.kin kp hall ?_ hpl
  refine thn (hkw.run pos pins s σ H _ I h) fun ws s2 ⟨zs, H2, I2, rz, q2⟩ => ⟨I2.kIn, ?_⟩
  rw [hks]
  exact run_fw G (hr.mono hk) b (hx σ) I2 rz q2
/-- f(e, ..), an exception of which is the slots' own wish -/
theorem pe_fnS (F : Fnn X.prog X.w X.K X.mg X.base CX k x ps sp) (hr : Room j X.A) (hk : k ≤ j) (hx : ∀ σ, PassesAt CX X σ (E σ)) (ha : PA X (e :: es) t) (hg : Gl X x := by rfl) (hdb : (x == ("__debug__" : Str)) = false := by decide)
    (he : starEach (e :: es) X.env = (false, eval e X.env) :: starEach es X.env := by rfl) (hpl : (backTo pos (starEach es X.env)).any (·.1) = false := by rfl) : PE X (.Call (.Name x p) (e :: es) [] pos) (tCallS sp E t) := by
  obtain ⟨f, fd, G, m, kp, b⟩ := F.ex
  exact pe_callS G (hr.mono hk) hg m kp b hx ha hdb he hpl
theorem pass0S {X : Cx} (σ : L2.St) : PassesAt CX0 X σ E0 := fun pins H s e s' I c => pass0 pins σ H s e s' I c
end
end SL
set_option Elab.async false
set_option linter.all false
set_option maxRecDepth 100000
set_option maxHeartbeats 2000000
/-! own words, 10: not in range(..); range(..) as a value; int(..); all(list); the reading of a list of truths -/
namespace SL
open PySem PySem.Spec PyProof.Rows L2 GxR NdefX GA
section
variable {X : Cx} {a b : Expr} {ta tb : TE} {p pos : Pos}
def rNotRng : R2 := fun x y H Q => ∃ i r lo hi, x = V.int i ∧ y = V.ref r ∧ H r = some (.rng lo hi) ∧ Q (.bl (!decide (lo ≤ i ∧ i < hi))) H
theorem op_outside : OpR X (compareOp .NotIn) rNotRng := by
  intro pins s σ H x y v u Q I rx ry h
  obtain ⟨i, r, lo, hi, rfl, rfl, hr, q⟩ := h
  obtain ⟨k, rfl⟩ := rx
  obtain rfl : u = Value.ref r := ry
  obtain ⟨t1, t2, t3, ho⟩ := I.hok r _ hr
  show wpAny _ _ (do return Value.bool (!(← contains (Value.ref r) (Value.int i k)))) _ _ s
  refine wpAny_bind (wpAny_contains_slot (T := "range") ⟨_, ho, rfl⟩ F.slot_range_contains (call_meets F.slot_range_contains ⟨_, ho, rfl⟩ F.entry_range_contains (F.args_range_contains_2 _ _) (q_contains r lo hi i t1 t2 t3 k) ⟨ho, ?_⟩))
  refine wpAny_truthy_bool (wpAny_pure ⟨.bl _, H, I, rfl, ?_⟩)
  rw [place1]
  exact q
def rRng : List V → Hp → VK → Prop := fun vs H Q => ∃ i j, vs = [V.int i, V.int j] ∧ ∀ p, H p = none → Q (.ref p) (upd H p (.rng i j))
theorem pe_rng (B : Bl X.mg) (ha : PE X a ta) (hb : PE X b tb) (h1 : Gl X "range" := by rfl) (he : starEach (a :: [b]) X.env = (false, eval a X.env) :: starEach [b] X.env := by rfl)
    (he2 : starEach (b :: []) X.env = (false, eval b X.env) :: starEach [] X.env := by rfl) (hpl : (backTo pos (starEach [b] X.env)).any (·.1) = false := by rfl) : PE X (.Call (.Name "range" p) [a, b] [] pos) (tCB rRng (tCons ta (tCons tb tNil))) :=
  pe_callTy cr_range2 h1 B.range (by decide +kernel) (pa_cons ha (pa_cons hb pa_nil he2) he) (by decide) (by decide) he hpl
def rInt : List V → Hp → VK → Prop := fun xs H Q => (∃ i, xs = [.int i] ∧ Q (.int i) H) ∨ ∃ k, xs = [.bl k] ∧ Q (.int (if k then 1 else 0)) H
theorem pe_toInt (B : Bl X.mg) (ha : PE X a ta) (h1 : Gl X "int" := by rfl) (he : starEach (a :: []) X.env = (false, eval a X.env) :: starEach [] X.env := by rfl) : PE X (.Call (.Name "int" p) [a] [] pos) (tCB rInt (tCons ta tNil)) :=
  pe_callTy call_int1 h1 B.int (by decide +kernel) (pa_cons ha pa_nil he) (by decide) (by decide) he
def rLst (K : PySem.W.Frag) : List V → Hp → VK → Prop := fun xs H Q => ∃ p ys, xs = [.ref p] ∧ (SqL K H p ys ∨ SqT K H p ys) ∧ ∀ l, H l = none → Q (.ref l) (upd H l (.lst ys))
theorem pe_toList (B : Bl X.mg) (ha : PE X a ta) (h1 : Gl X "list" := by rfl) (he : starEach (a :: []) X.env = (false, eval a X.env) :: starEach [] X.env := by rfl) : PE X (.Call (.Name "list" p) [a] [] pos) (tCB (rLst X.K) (tCons ta tNil)) :=
  pe_callTy call_list_of h1 B.list (by decide +kernel) (pa_cons ha pa_nil he) (by decide) (by decide) he
theorem pe_allL (hc : X.calm = true) (B : Bl X.mg) (ha : PE X a ta) (h1 : Gl X "all" := by rfl) (he : starEach (a :: []) X.env = (false, eval a X.env) :: starEach [] X.env := by rfl) : PE X (.Call (.Name "all" p) [a] [] pos) (tCB (rAll X.K) (tCons ta tNil)) :=
  pe_callB (cr_all hc) h1 B.all (by decide +kernel) (pa_cons ha pa_nil he) (by decide) (by decide) he
end
section
variable {T : List Addr} {H0 H1 : Hp} {J : It} {n : Nat} {G : Hp → Prop} {Y : Nat → Hp → V → Hp → Prop} {D : Addr} {Qd : Hp → Prop} {σ : L2.St} {g : TG} {te : TE} {vs : List Nat}
/-- [te for g in J]: f i the i-th value; what is made meanwhile stays -/
theorem lc_map (f : Nat → V) (w : Walk J n G Y) (hG : ∀ H', Go T [] H0 H' → G H') (ht : Tabs T H0) (g1 : Go T [] H0 H1) (hD : H1 D = none) (hn : n ≤ sizeLine)
    (hs : ∀ i x H' H'' (R : VK), i < n → Go T [] H0 H' → Tabs T H' → Y i H' x H'' → (∀ H3, Go T [] H' H3 → R (f i) H3) → g x (wipe σ vs) H'' fun σ2 H2 => wipe σ2 vs = wipe σ vs ∧ te σ2 H2 R)
    (hq : ∀ H', Go T [] H0 H' → Tabs T H' → H' D = some (.lst ((List.range n).map f)) → Qd H') :
    ∃ W : Nat → Nat → Hp → Prop, (∃ m, W 0 m (upd H1 D (.lst []))) ∧ ∀ i' m H, W i' m H →
      (J.stop i' H ∧ Qd H) ∨ (J.go i' H ∧ ∃ Nx : Hp → Prop, (∀ H', Nx H' → ∃ m', m' < m ∧ W (i' + 1) m' H') ∧ ∀ x H', J.yld i' H x H' → g x (wipe σ vs) H' fun σ2 H2 => wipe σ2 vs = wipe σ vs ∧ tYes σ2 H2 fun b H3 =>
        if b = true then te σ2 H3 fun y H4 => ∃ acc, H4 D = some (.lst acc) ∧ acc.length < sizeLine ∧ Nx (upd H4 D (.lst (acc ++ [y]))) else Nx H3) := by
  have hD0 : H0 D = none := g1.al D hD
  refine lc_it w (fun i H' => Go T [] H0 H' ∧ H' D = some (.lst ((List.range i).map f))) ⟨g1.trans (Go.new hD), upd_same⟩ (fun i H' _ h => hG H' h.1) (fun i x H' H'' hlt h y => ?_) (fun H' h => hq H' h.1 (h.1.tb ht) h.2)
  obtain ⟨gg, e⟩ := h
  refine hs i x H' H'' _ hlt gg (gg.tb ht) y fun H3 g3 => ?_
  have e3 := g3.lst e List.not_mem_nil
  refine ⟨_, e3, by rw [List.length_map, List.length_range]; omega, (gg.trans g3).over hD0 e3 (fun _ z => by cases z), ?_⟩
  rw [upd_same, List.range_succ, List.map_append] <;> rfl
end
theorem map_range_get {α β : Type} {xs : List α} {f : Nat → β} {g : α → β} (h : ∀ i x, xs[i]? = some x → f i = g x) : (List.range xs.length).map f = xs.map g := by
  apply List.ext_getElem?
  intro i
  rw [List.getElem?_map, List.getElem?_map]
  by_cases hi : i < xs.length
  · rw [List.getElem?_range hi, List.getElem?_eq_getElem hi]
    exact congrArg some (h i _ (List.getElem?_eq_getElem hi))
  · rw [List.getElem?_eq_none (by simpa using hi), List.getElem?_eq_none (by simpa using hi)] <;> rfl
end SL
set_option Elab.async false
set_option linter.all false
set_option maxRecDepth 100000
set_option maxHeartbeats 2000000
/-! own words, 11: how great data is; its repr; defs that are called with no guard about -/
namespace SL
open PySem PySem.Spec PyProof.Rows L2 GxR NdefX GA
def asc (x : Str) : Bool := x.cps.toList.all fun c => decide (c < 128)
mutual
/-- ints no greater than n, ascii texts, empty dicts -/
def nice (n : Nat) : PyData → Bool
  | .none => true
  | .bool _ => true
  | .int i => decide (i.natAbs ≤ n)
  | .str x => asc x
  | .list xs => niceAll n xs
  | .tuple xs => niceAll n xs
  | .dict kvs => kvs.isEmpty
def niceAll (n : Nat) : List PyData → Bool
  | [] => true
  | x :: xs => nice n x && niceAll n xs
end
theorem shown_repr (x : Str) (h : asc x = true) : (reprText x).length ≤ 10 * x.length + 2 := StrLaws.reprText_len x fun c hc => by
  have := List.all_eq_true.mp h c hc
  have := of_decide_eq_true this
  omega
mutual
theorem shown_le {n : Nat} : ∀ {d : PyData}, nice n d = true → d.shown.length ≤ wt d
  | .none, _ => by simp only [PyData.shown, wt]; decide
  | .bool b, _ => by cases b <;> simp only [PyData.shown, wt] <;> decide
  | .int i, _ => by
    simp only [PyData.shown, wt]
    exact Nat.le_add_right _ _
  | .str x, h => by
    have := shown_repr x (by simpa only [nice] using h)
    simp only [PyData.shown, wt]
    omega
  | .list xs, h => by
    have h1 := shownAll_le (xs := xs) (by simpa only [nice] using h)
    have h2 := listText_len_le (PyData.shownAll xs)
    simp only [PyData.shown, wt]
    omega
  | .tuple xs, h => by
    have h1 := shownAll_le (xs := xs) (by simpa only [nice] using h)
    have h2 := tupleText_len_le (PyData.shownAll xs)
    simp only [PyData.shown, wt]
    omega
  | .dict [], _ => by
    simp only [PyData.shown, PyData.shownKv, wt]
    decide +kernel
  | .dict (_ :: _), h => by simp [nice] at h
theorem shownAll_le {n : Nat} : ∀ {xs : List PyData}, niceAll n xs = true → ((PyData.shownAll xs).map (·.length)).sum + 2 * (PyData.shownAll xs).length ≤ wtAll xs
  | [], _ => by simp [PyData.shownAll, wtAll]
  | x :: xs, h => by
    simp only [niceAll, Bool.and_eq_true] at h
    have h1 := shown_le h.1
    have h2 := shownAll_le h.2
    simp only [PyData.shownAll, wtAll, List.map_cons, List.sum_cons, List.length_cons]
    omega
end
mutual
theorem showable_of {n : Nat} (hn : n.log2 < 1920) : ∀ {d : PyData}, nice n d = true → d.showable = true
  | .none, _ => by simp only [PyData.showable]
  | .bool b, _ => by simp only [PyData.showable]
  | .int i, h => by
    simp only [nice, decide_eq_true_eq] at h
    simp only [PyData.showable, decide_eq_true_eq]
    by_cases z : i.natAbs = 0
    · rw [z]; decide
    · have a1 := (Nat.le_log2 z).mp (Nat.le_refl i.natAbs.log2)
      have hz : n ≠ 0 := by omega
      have : i.natAbs.log2 ≤ n.log2 := (Nat.le_log2 hz).mpr (Nat.le_trans a1 h)
      omega
  | .str x, _ => by simp only [PyData.showable]
  | .list xs, h => by
    simp only [PyData.showable]
    exact showableAll_of hn (by simpa only [nice] using h)
  | .tuple xs, h => by
    simp only [PyData.showable]
    exact showableAll_of hn (by simpa only [nice] using h)
  | .dict [], _ => by simp only [PyData.showable, PyData.showableKv]
  | .dict (_ :: _), h => by simp [nice] at h
theorem showableAll_of {n : Nat} (hn : n.log2 < 1920) : ∀ {xs : List PyData}, niceAll n xs = true → PyData.showableAll xs = true
  | [], _ => by simp only [PyData.showableAll]
  | x :: xs, h => by
    simp only [niceAll, Bool.and_eq_true] at h
    simp only [PyData.showableAll, Bool.and_eq_true]
    exact ⟨showable_of hn h.1, showableAll_of hn h.2⟩
end
section
variable {P : Program} {w : World} {H : Hp} {h : Heap} {M : List Addr}
mutual
/-- what bears data is read as that data -/
theorem Dv.reads (ok : HOk P w H h) : ∀ {v : V} {d : PyData} {u : Value}, Dv M H v d → RelV v u → ∃ as, Reads h u d as ∧ ∀ b ∈ as, H b ≠ none
  | _, _, _, .non, r => ⟨[], by cases r; exact .none, by simp⟩
  | _, _, _, .bl b, r => ⟨[], by cases r; exact .bool b, by simp⟩
  | _, _, _, .int i, r => by
    obtain ⟨t, rfl⟩ := r
    exact ⟨[], .int i t, by simp⟩
  | _, _, _, .str x, r => by
    obtain ⟨t, rfl⟩ := r
    exact ⟨[], .str x t, by simp⟩
  | _, _, _, .lst (a := a) e n q, r => by
    cases r
    obtain ⟨z, its, k, rv, g⟩ := ok a _ e
    obtain ⟨as, r1, r2⟩ := DvAll.reads ok q rv
    refine ⟨a :: as, .list g rfl rfl (by simpa using r1), fun b hb => ?_⟩
    rcases List.mem_cons.mp hb with rfl | hb
    · rw [e]; simp
    · exact r2 b hb
  | _, _, _, .tup (a := a) e n q, r => by
    cases r
    obtain ⟨z, its, rv, t⟩ := ok a _ e
    obtain ⟨as, r1, r2⟩ := DvAll.reads ok q rv
    obtain ⟨o, g, c, k, dd⟩ := t
    exact ⟨as, .tuple g c dd (by simpa using r1), r2⟩
  | _, _, _, .dct (a := a) e n, r => by
    cases r
    obtain ⟨z, s, vs, kv, o, es, ep, g, x, dd, k1, k2, k3⟩ := ok a _ e
    cases kv
    have e0 : es.toList = [] := by
      generalize es.toList = l at k2
      cases k2
      rfl
    refine ⟨a :: [] ++ [], .dict g x.1 dd (by rw [e0]; exact .nil) (by rw [e0]; exact .nil), fun b hb => ?_⟩
    have : b = a := by simpa using hb
    rw [this, e]
    simp
theorem DvAll.reads (ok : HOk P w H h) : ∀ {vs : List V} {ds : List PyData} {us : List Value}, DvAll M H vs ds → Vals vs us → ∃ as, ReadsAll h us ds as ∧ ∀ b ∈ as, H b ≠ none
  | _, _, _, .nil, .nil => ⟨[], .nil, by simp⟩
  | _, _, _, .cons x y, .cons r s => by
    obtain ⟨as, r1, r2⟩ := Dv.reads ok x r
    obtain ⟨bs, s1, s2⟩ := DvAll.reads ok y s
    exact ⟨as ++ bs, .cons r1 s1, fun b hb => (List.mem_append.mp hb).elim (r2 b) (s2 b)⟩
end
end
end SL
namespace SL
open PySem PySem.Spec PyProof.Rows L2 GxR NdefX GA
/-- a def that is to be called where no collection is being shown -/
structure FnG (P : Program) (w : World) (K : PySem.W.Frag) (mg : Str → Option Value) (base : Heap) (k : Nat) (f : Addr) (fd : FuncData) (ps : List Str) (sp : Sp) : Prop where
  len : ∀ vs H Q, sp vs H Q E0 → vs.length = ps.length
  run : ∀ (A : Around) (outer : List Env) (s : Shared) (H : Hp) (args : Args) (us : List Value) (vs : List V) (Q : VK), A.guards = some [] → Room k A → Env0 P w K mg base A outer s H → BindsTo s fd args (ps.zip us) → Vals vs us → sp vs H Q E0 →
    codeAny (model P w) A (.call (.ref f) args) (CR CX0 outer P w H s Q E0) s
/-- as its callers know it -/
structure Fng (P : Program) (w : World) (K : PySem.W.Frag) (mg : Str → Option Value) (base : Heap) (k : Nat) (x : Str) (ps : List Str) (sp : Sp) : Prop where
  ex : ∃ (f : Addr) (fd : FuncData), FnG P w K mg base k f fd ps sp ∧ mg x = some (.ref f) ∧ PySem.W.keepIn K (.ref f) = true ∧ Binds K fd ps []
section
variable {P : Program} {w : World} {K : PySem.W.Frag} {mg : Str → Option Value} {base : Heap} {k : Nat} {f c : Addr} {N ps : List Str} {sp : Sp} {x qual : Str} {st : Stmt} {fd : FuncData}
theorem FunT.okG (F : FunT K x qual st f fd c) (S : FnScope N ps (defScope st)) (len : ∀ vs H Q, sp vs H Q E0 → vs.length = ps.length)
    (hbody : ∀ (A : Around) (outer : List Env) (s : Shared) (H : Hp) (vs : List V) (Q : VK), A.guards = some [] → Room k (A.deeper (envOfC qual (defScope st) s.heap.objs.size f (.ref c))) → sp vs H Q E0 →
      ∃ t, PSs (cxOf CX0 P w K mg base N qual (defScope st) f (.ref c) A outer s H E0) (defBody st) t ∧ t { nx := fun _ H' => Q .non H', rt := Q } (start N vs) H) : FnG P w K mg base (k + 1) f fd ps sp := by
  obtain ⟨oc, od, kV, doc, pm, an, ct, osl, rfl, lk, hcd⟩ := F.ex
  refine ⟨len, fun A outer s H args us vs Q hg room env0 bind rel want => ?_⟩
  have inK : K.In s.heap := env0.mod.kin.keeps fun b o e => (env0.bs b o e).1
  have noLim : s.heap.NoLimit := env0.mod.nolimit.keeps fun b o e => (env0.bs b o e).1
  have kinds : ∀ y ∈ ps.zip us, (defScope st).names.lookup y.1 = some .local ∨ ((defScope st).names.lookup y.1 = some .cell ∧ ((cellsFrom (s.heap.objs.size + 1) (defScope st).names []).lookup y.1).isSome = true) := by
    rintro ⟨n, v⟩ hy
    have := S.par n (List.of_mem_zip hy).1
    exact this.imp id fun q => ⟨q, PySem.W.cellsFrom_some _ _ _ (.inl q)⟩
  refine codeAny_call_function room.depth (inK _ _ lk) rfl S.co S.gen rfl (PySem.W.codeRec_of inK hcd) (bind _ _ _ _ ?_)
  refine wpAny_newFunctionEnv_cells S.kind kinds ?_
  rintro env rfl s1 made
  refine ⟨noLim.keeps made.toInCall.keep, codeAny_func ?_⟩
  obtain ⟨t, ht, hq⟩ := hbody A outer s H vs Q hg (room.deeper _) want
  have I := inv_start (CX := CX0) (E := E0) S room.hd env0 (len _ _ _ want) rel made
  refine wpAny_mono (ht.run [] s1 (start N vs) H _ I hq) ?_ fun _ _ z => z
  have done : ∀ {σ' : L2.St} {H' : Hp} {s' : Shared} {v : V} {u : Value}, Inv (cxOf CX0 P w K mg base N qual (defScope st) f (.ref c) A outer s H E0) [] σ' H' s' → RelV v u → Q v H' → CE outer P w H s Q u s' :=
    fun {_ H' _ v _} J rv q => ⟨v, H', J.os, J.bare, J.base, J.hok, rv, q⟩
  rintro (_ | _ | _ | u) s' hs
  all_goals first
    | (obtain ⟨v, σ', H', J, rv, q⟩ := hs; exact done J rv q)
    | (obtain ⟨σ', H', J, q⟩ := hs; exact done (v := V.non) (u := Value.none) J rfl q)
    | (obtain ⟨_, _, _, q⟩ := hs; exact q.elim)
end
section
variable {X : Cx} {k j : Nat} {x : Str} {ps : List Str} {sp : Sp} {e : Expr} {es : List Expr} {t : TA} {p pos : Pos}
theorem pe_fnG (F : Fng X.prog X.w X.K X.mg X.base k x ps sp) (hG : X.A.guards = some []) (hr : Room j X.A) (hk : k ≤ j) (ha : PA X (e :: es) t) (hg : Gl X x := by rfl) (hdb : (x == ("__debug__" : Str)) = false := by decide)
    (he : starEach (e :: es) X.env = (false, eval e X.env) :: starEach es X.env := by rfl) (hpl : (backTo pos (starEach es X.env)).any (·.1) = false := by rfl) : PE X (.Call (.Name x p) (e :: es) [] pos) (tCall sp [] E0 t) := by
  obtain ⟨f, fd, G, m, kp, b⟩ := F.ex
  refine ⟨fun pins s σ H Q I h => ?_⟩
  refine wpAny_Call_Name_kw (ld_glob I hg m ?_ hdb)
  refine PySem.W.callWith_K (h₀ := X.base) I.ok.mod.kin kp (thn (ha.run pos pins s σ H _ I h) fun us s1 ⟨vs, H1, I1, r, q⟩ => ⟨I1.kIn, ?_⟩) he hpl
  have q : sp vs H1 Q E0 := by
    have q' : sp (vs ++ []) H1 Q E0 := q
    rw [List.append_nil] at q'
    exact q'
  have hl : us.length = ps.length := by rw [← r.length]; exact G.len _ _ _ q
  have bb := b s1 us I1.kIn (by rw [List.append_nil]; exact hl)
  rw [List.append_nil] at bb
  refine wpAny_call (codeAny_mono (G.run X.A X.stack s1 H1 ⟨us, []⟩ us vs Q hG (hr.mono hk) I1.env0 bb r q) ?_)
  rintro (err | fl) s' hq
  · exact hq.elim
  · rcases fl with _ | _ | _ | u
    all_goals first
      | exact I1.after hq
      | exact hq.elim
end
end SL
set_option Elab.async false
set_option linter.all false
set_option maxRecDepth 100000
set_option maxHeartbeats 2000000
/-! own words, 12: repr of data -/
namespace SL
open PySem PySem.Spec PyProof.Rows L2 GxR NdefX GA
/-- repr(v), v bearing data -/
def rRepr : List V → Hp → VK → Prop := fun xs H Q => ∃ (v : V) (M : List Addr) (d : PyData) (n : Nat), xs = [v] ∧ Dv M H v d ∧ nice n d = true ∧ n.log2 < 1920 ∧ wt d ≤ 4000000 ∧ d.depth ≤ 100 ∧ Q (.str d.shown) H
section
variable {X : Cx} {k : Nat} {a : Expr} {ta : TE} {p pos : Pos}
theorem cr_repr (hG : X.A.guards = some []) (hr : Room k X.A) (hm : ∃ o, X.base.get? sysModules = some o) : CallR X (.builtin "repr") rRepr := by
  intro pins s σ H xs us Q I r h
  obtain ⟨v, M, d, n, rfl, hv, hn, hl, hw, hd, q⟩ := h
  obtain ⟨u, rfl, ru⟩ := vals1 r
  have hln := shown_le hn
  have hz : d.shown.length ≤ sizeLine := by rw [sizeLine_eq]; omega
  have hs := showable_of hl hn
  obtain ⟨o, ho⟩ := hm
  have hfree : H sysModules = none := (I.bs _ _ ho).2
  obtain ⟨as, rd, tr⟩ := hv.reads I.hok ru
  have hno : sysModules ∉ as := fun m => tr _ m hfree
  have fin : ∀ h' u' tk, (∀ b o, s.heap.get? b = some o → h'.get? b = some o) → EP X pins σ Q (.str d.shown u') { s with heap := h', toks := tk } := fun h' u' tk hk => ⟨.str d.shown, H, I.kept (t' := tk) hk, ⟨_, rfl⟩, q⟩
  cases rd with
  | none => exact PySem.P.repr_of_none (fin s.heap _ _ fun _ _ e => e)
  | bool b =>
    refine PySem.P.repr_of_bool ?_
    have := fin s.heap s.toks (s.toks + 1) fun _ _ e => e
    simpa only [PyData.shown] using this
  | int i t =>
    refine PySem.P.repr_of_int (by simpa only [PyData.showable, decide_eq_true_eq] using hs) ?_
    have := fin s.heap s.toks (s.toks + 1) fun _ _ e => e
    simpa only [PyData.shown] using this
  | str x t =>
    refine PySem.P.repr_of_str ?_ (by simpa only [PyData.shown] using hz)
    have := fin s.heap s.toks (s.toks + 1) fun _ _ e => e
    simpa only [PyData.shown] using this
  | list h1 h2 h3 h4 => exact repr_of_reads' (.list h1 h2 h3 h4) hs (fun _ => hno) hG (by have := hr.un; omega) (fun _ _ e => e) (fun h' u tk hk => fin h' u tk hk) hz
  | tuple h1 h2 h3 h4 => exact repr_of_reads' (.tuple h1 h2 h3 h4) hs (fun _ => hno) hG (by have := hr.un; omega) (fun _ _ e => e) (fun h' u tk hk => fin h' u tk hk) hz
  | dict h1 h2 h3 h4 h5 => exact repr_of_reads' (.dict h1 h2 h3 h4 h5) hs (fun _ => hno) hG (by have := hr.un; omega) (fun _ _ e => e) (fun h' u tk hk => fin h' u tk hk) hz
theorem pe_repr (B : Bl X.mg) (hG : X.A.guards = some []) (hr : Room k X.A) (hm : ∃ o, X.base.get? sysModules = some o) (ha : PE X a ta) (h1 : Gl X "repr" := by rfl) (he : starEach (a :: []) X.env = (false, eval a X.env) :: starEach [] X.env := by rfl) :
    PE X (.Call (.Name "repr" p) [a] [] pos) (tCB rRepr (tCons ta tNil)) := pe_callB (cr_repr hG hr hm) h1 B.repr (by decide +kernel) (pa_cons ha pa_nil he) (by decide) (by decide) he
end
end SL
set_option Elab.async false
set_option linter.all false
set_option maxRecDepth 100000
set_option maxHeartbeats 2000000
/-! own words, 13: xs != [], t != (), t * k -/
namespace SL
open PySem PySem.Spec PyProof.Rows L2 GxR NdefX GA
section
variable {X : Cx}
/-- xs != ys, ys empty -/
def rNeNil (K : PySem.W.Frag) : R2 := fun x y H Q => ∃ a b xs, x = .ref a ∧ y = .ref b ∧ ((SqL K H a xs ∧ SqL K H b []) ∨ (SqT K H a xs ∧ SqT K H b [])) ∧ Q (.bl (!xs.isEmpty)) H
theorem op_neNil (hu : X.A.units < cLine) : OpR X (compareOp .NotEq) (rNeNil X.K) := by
  intro pins s σ H x y v u Q I rx ry h
  obtain ⟨a, b, xs, rfl, rfl, h, q⟩ := h
  cases rx
  cases ry
  show wpAny _ _ (richCompare .NotEq (.ref a) (.ref b)) _ _ _
  have fin : EP X pins σ Q (.bool (!xs.isEmpty)) s := ⟨.bl _, H, I, rfl, q⟩
  rcases h with ⟨h1, h2⟩ | ⟨h1, h2⟩
  · obtain ⟨its, r, p, _⟩ := I.list h1
    obtain ⟨its2, r2, p2, _⟩ := I.list h2
    cases r2
    obtain ⟨o, n, g, c, _, dd⟩ := p
    obtain ⟨o2, n2, g2, c2, _, dd2⟩ := p2
    have l1 : s.heap.IsList a its.toArray := ⟨o, g, c, n, dd⟩
    have l2 : s.heap.IsList b ([] : List Value).toArray := ⟨o2, g2, c2, n2, dd2⟩
    cases r with
    | nil => exact PySem.SeqAt.RcNeAt.lists l1 l2 rfl hu (e := fun _ => true) (fun j hj _ => absurd hj (Nat.not_lt_zero _)) _ _ _ _ fin
    | cons _ _ => exact PySem.SeqAt.RcNeAt.lists_lengths l1 l2 rfl hu _ _ _ _ fin
  · obtain ⟨its, r, ⟨o, g, c, n, dd⟩, _⟩ := I.tuple h1
    obtain ⟨its2, r2, ⟨o2, g2, c2, n2, dd2⟩, _⟩ := I.tuple h2
    cases r2
    have l1 : s.heap.IsTuple a its.toArray := ⟨o, g, c, n, dd⟩
    have l2 : s.heap.IsTuple b ([] : List Value).toArray := ⟨o2, g2, c2, n2, dd2⟩
    refine PySem.SeqAt.RcNeAt.tuples l1 l2 hu (e := fun _ => true) (fun j _ hj => absurd hj (Nat.not_lt_zero _)) _ _ _ _ ?_
    cases r with
    | nil => exact fin
    | cons _ _ => simpa using fin
/-- t * k, k being 2 or 3; the empty tuple is itself -/
def rTimes (K : PySem.W.Frag) : R2 := fun x y H Q => ∃ l k xs, x = .ref l ∧ y = .int k ∧ SqT K H l xs ∧ 2 ≤ k ∧ k ≤ 3 ∧ xs.length ≤ 2000000 ∧ (xs = [] → Q (.ref l) H) ∧ (xs ≠ [] → ∀ p, H p = none → Q (.ref p) (upd H p (.tup (List.replicate k.toNat xs).flatten)))
theorem mul_nil (l : Addr) (n : Nat) (dd : Option Addr) (sl : Array (Option Value)) (x : Int) (u : Tok) (c0 : (decide (x < -(2 ^ 63)) || decide (x ≥ 2 ^ 63)) = false) :
    Meets (Builtin.«tuple.__mul__» ⟨[.ref l, .int x u], []⟩) (fun _ R s => s.heap.get? l = some { cls := .type "tuple", dict := dd, data := .seq #[] n, slots := sl } ∧ R (.ok (.ret (.ref l))) s) :=
  .of_wp fun prog w A R s h => by
    obtain ⟨hp, g, d, tk, os⟩ := s
    obtain ⟨hl, h⟩ := h
    have f1 := AutoSeq1.idx_int
    wp_walk using wpAny_loadPart' hl
    repeat (first
      | (refine wpAny_ite_false (decide_eq_false (by rw [c0]; exact Bool.false_ne_true)) ?_; wp_walk using wpAny_loadPart' hl))
    exact ⟨_, rfl, h⟩
theorem op_times : OpR X (binaryOp .Mult) (rTimes X.K) := by
  intro pins s σ H x y v u Q I rx ry h
  obtain ⟨l, k, xs, rfl, rfl, hT, k2, k3, hz, q0, q1⟩ := h
  cases rx
  obtain ⟨t, rfl⟩ := ry
  obtain ⟨its, r, ⟨⟨cls, dd, data, sl⟩, ho, hc, n, hd⟩, _⟩ := I.tuple hT
  simp only at hc hd
  subst hc hd
  have hle : its.length = xs.length := r.length.symm
  have c0 : (decide (k < -(2 ^ 63)) || decide (k ≥ 2 ^ 63)) = false := by
    rw [decide_eq_false (by omega), decide_eq_false (by omega)] <;> rfl
  refine wpAny_binaryOp_repeat_ref (T := "tuple") (U := "int") (by decide) ⟨_, ho, rfl⟩ (fun s' => typeIs_int s' k t) noFill_tuple_mul F.fills_int_mul F.slot_int_rmul repeat_tuple F.slot_int_index.lookup
    (call_meets F.slot_int_rmul (typeIs_int s k t) F.entry_int_rmul (F.args_int_rmul_2 _ _) (int_rmul_tuple k t l its.toArray n dd sl) ⟨ho, rfl, ⟨_, ho, rfl⟩, ?_⟩)
  by_cases hne : xs = []
  · subst hne
    cases r
    exact call_meets F.slot_tuple_mul ⟨_, ho, rfl⟩ F.entry_tuple_mul (F.args_tuple_mul_2 _ _) (mul_nil l n dd sl k t c0) ⟨ho, .ref l, H, I, rfl, q0 rfl⟩
  · have hi : its.toArray.isEmpty = false := by
      cases r with
      | nil => exact absurd rfl hne
      | cons _ _ => rfl
    have hsz0 : its.toArray.size = xs.length := by rw [List.size_toArray, hle]
    have hm : ((its.toArray.size : Nat) : Int) * k ≤ 6000000 := by
      rw [hsz0]
      have a1 : ((xs.length : Nat) : Int) * k ≤ 2000000 * k := Int.mul_le_mul_of_nonneg_right (by omega) (by omega)
      omega
    have lim : k.toNat * xs.length ≤ 3 * 2000000 := Nat.mul_le_mul (by omega) hz
    have flen : (List.replicate k.toNat its).flatten.length ≤ sizeLine := by
      rw [PyProof.Rows.lm_len_rep_flat, hle, sizeLine_eq]
      omega
    have c1 : (its.toArray.isEmpty || k == 1) = false := by
      rw [hi, Bool.false_or]
      exact beq_eq_false_iff_ne.mpr (by omega)
    have c2 : (decide (k ≤ 0) || its.toArray.isEmpty) = false := by
      rw [hi, Bool.or_false]
      exact decide_eq_false (by omega)
    have c4 : Builtin.Tuple.tupleTooMany (((its.toArray.size : Nat) : Int) * k) = false := by
      unfold Builtin.Tuple.tupleTooMany
      rw [sizeLine_eq]
      exact decide_eq_false (by omega)
    refine call_meets F.slot_tuple_mul ⟨_, ho, rfl⟩ F.entry_tuple_mul (F.args_tuple_mul_2 _ _) (tuple_mulW l its.toArray n dd sl k t c0 c1 c2 (by omega) c4 (by rw [size_rep, List.size_toArray]; exact flen)) ⟨ho, ?_⟩
    rw [size_rep]
    refine ⟨.ref s.heap.objs.size, _, I.laid (t' := s.toks) (o := .tup (List.replicate k.toNat xs).flatten) (fun b ob q => Heap.get?_push_of_some _ q) (Nat.le_refl _) ?_, rfl, q1 hne _ (I.hok.fresh (Nat.le_refl _))⟩
    exact ⟨by rw [PyProof.Rows.lm_len_rep_flat, sizeLine_eq]; omega, _, r.rep k.toNat, IsTup.new _ _⟩
end
end SL
set_option Elab.async false
set_option linter.all false
set_option maxRecDepth 100000
set_option maxHeartbeats 2000000
/-! own words, 14: ascii texts -/
namespace SL
open PySem PySem.Spec PyProof.Rows L2 GxR NdefX GA
theorem asc_mem {x : Str} (h : asc x = true) : ∀ c ∈ x.cps.toList, c < 128 := fun c hc => of_decide_eq_true (List.all_eq_true.mp h c hc)
theorem asc_of {x : Str} (h : ∀ c ∈ x.cps.toList, c < 128) : asc x = true := List.all_eq_true.mpr fun c hc => decide_eq_true (h c hc)
theorem cps_add (x y : Str) : (x ++ y).cps.toList = x.cps.toList ++ y.cps.toList := by
  show (x.cps ++ y.cps).toList = _
  simp
theorem asc_add {x y : Str} (h : asc x = true) (k : asc y = true) : asc (x ++ y) = true := asc_of fun c hc => by
  rw [cps_add] at hc
  exact (List.mem_append.mp hc).elim (asc_mem h c) (asc_mem k c)
theorem asc_one {x : Str} {c : Nat} (h : asc x = true) (hc : c ∈ x.cps.toList) : asc ⟨#[c]⟩ = true := asc_of fun d hd => by
  have : d = c := by simpa using hd
  rw [this]
  exact asc_mem h c hc
theorem cutS_list (z : Str) (lo hi : Option Int) : (cutS z lo hi).cps.toList = (z.cps.toList.drop (HT.sIx z.length 0 lo)).take (HT.sIx z.length z.length hi - HT.sIx z.length 0 lo) := by
  unfold cutS
  simp
theorem len_list (z : Str) : z.length = z.cps.toList.length := by simp [Str.length]
theorem asc_cut {z : Str} (h : asc z = true) (lo hi : Option Int) : asc (cutS z lo hi) = true := asc_of fun c hc => by
  rw [cutS_list] at hc
  exact asc_mem h c (List.mem_of_mem_drop (List.mem_of_mem_take hc))
theorem len_cut (z : Str) (lo hi : Option Int) : (cutS z lo hi).length ≤ z.length := by
  rw [len_list, cutS_list, List.length_take, List.length_drop, ← len_list]
  omega
/-- z[1:10] has nine signs at most -/
theorem len_cut9 (z : Str) : (cutS z (some 1) (some 10)).length ≤ 9 := by
  have a := HT.sIx_nat z.length 0 1
  have b := HT.sIx_nat z.length z.length 10
  have a : HT.sIx z.length 0 (some 1) = min 1 z.length := a
  have b : HT.sIx z.length z.length (some 10) = min 10 z.length := b
  rw [len_list, cutS_list, List.length_take, List.length_drop, a, b, ← len_list]
  omega
theorem up_len {x : Str} (h : asc x = true) : (Txt.upper x).length = x.length ∧ asc (Txt.upper x) = true := by
  rw [PyProof.Rows.upper_ascii (asc_mem h)]
  refine ⟨by simp [Str.length], asc_of fun c hc => ?_⟩
  have hc : c ∈ (x.cps.map up1).toList := hc
  rw [Array.toList_map] at hc
  obtain ⟨d, hd, rfl⟩ := List.mem_map.mp hc
  have := asc_mem h d hd
  unfold up1
  split <;> omega
theorem lo_len {x : Str} (h : asc x = true) : (Txt.lower x).length = x.length ∧ asc (Txt.lower x) = true := by
  rw [PyProof.Rows.lower_ascii (asc_mem h)]
  refine ⟨by simp [Str.length], asc_of fun c hc => ?_⟩
  have hc : c ∈ (x.cps.map lo1).toList := hc
  rw [Array.toList_map] at hc
  obtain ⟨d, hd, rfl⟩ := List.mem_map.mp hc
  have := asc_mem h d hd
  unfold lo1
  split <;> omega
theorem join_nil (ys : List Str) : Txt.join (⟨#[]⟩ : Str) ys = Str.join ⟨#[]⟩ ys := eq_of_beq (join_closes rfl)
/-- texts of one sign each, joined -/
theorem join_ones : ∀ {ys : List Str}, (∀ y ∈ ys, y.length ≤ 1 ∧ asc y = true) → (Str.join ⟨#[]⟩ ys).length ≤ ys.length ∧ asc (Str.join ⟨#[]⟩ ys) = true
  | [], _ => ⟨Nat.le_refl _, rfl⟩
  | y :: r, h => by
    have ih := join_ones fun z hz => h z (List.mem_cons_of_mem _ hz)
    have hy := h y List.mem_cons_self
    rw [show Str.join ⟨#[]⟩ (y :: r) = y ++ Str.join ⟨#[]⟩ r from join_nil_cons y r]
    refine ⟨?_, asc_add hy.2 ih.2⟩
    rw [strLen_append, List.length_cons]
    omega
theorem str_400 : (List.range 400).all (fun k : Nat => asc (Str.ofString (toString (k : Int))) && decide ((Str.ofString (toString (k : Int))).length ≤ 3)) = true := by decide +kernel
theorem str_100 : ((List.range 100).map fun k : Nat => Str.ofString (toString (k : Int))).Nodup := by decide +kernel
end SL
set_option Elab.async false
set_option linter.all false
set_option maxRecDepth 100000
set_option maxHeartbeats 2000000
/-! own words, 15: a, b, c = x, y, z with three local names -/
namespace SL
open PySem PySem.Spec PyProof.Rows L2 GxR NdefX GA
def tPar3 (i j k : Nat) (ta : TA) : TS := fun D σ H => ta σ H fun vs H1 => ∃ u v w, vs = [u, v, w] ∧ D.nx (((σ.set k (some w)).set j (some v)).set i (some u)) H1
theorem ps_par3 {X : Cx} {i j k : Nat} {x y z : Str} {a b c : Expr} {ta : TA} {px py pz pt pos : Pos} {kt k2 pt2} (hc : X.calm = true) (hN : X.N.Nodup) (hi : X.N[i]? = some x) (hj : X.N[j]? = some y) (hk : X.N[k]? = some z)
    (hx : X.env.scope.names.lookup x = some .local) (hy : X.env.scope.names.lookup y = some .local) (hz : X.env.scope.names.lookup z = some .local) (ha : PA X [a, b, c] ta)
    (hw : swappedStores [.Tuple [.Name x px, .Name y py, .Name z pz] kt pt] (.Tuple [a, b, c] k2 pt2) X.env = pure (some [x, y, z]))
    (hs : swapsWithSole [.Tuple [.Name x px, .Name y py, .Name z pz] kt pt] (.Tuple [a, b, c] k2 pt2) pos.line X.env = pure false := by rfl) :
    PS X (.Assign [.Tuple [.Name x px, .Name y py, .Name z pz] kt pt] (.Tuple [a, b, c] k2 pt2) pos) (tPar3 i j k ta) := by
  refine ⟨fun pins s σ H D I h => ?_⟩
  rw [exec_Assign_arm]
  refine wpAny_bind (wpAny_standAt ?_)
  rw [hs]
  refine wpAny_bind (wpAny_pure ?_)
  rw [if_neg (by decide)]
  refine wpAny_bind (Tuple_ (thn (ha.run _ pins s σ H _ I h) fun us s1 hh => ?_))
  obtain ⟨vs, H1, I1, r1, u, v, w, rfl, q1⟩ := hh
  obtain ⟨u1, u2, u3, rfl, ru, rv, rw'⟩ : ∃ u1 u2 u3, us = [u1, u2, u3] ∧ RelV u u1 ∧ RelV v u2 ∧ RelV w u3 := by
    rcases r1 with _ | ⟨p, _ | ⟨p2, _ | ⟨p3, r⟩⟩⟩
    cases r
    exact ⟨_, _, _, rfl, p, p2, p3⟩
  refine wpAny_newObj_type ?_ (by show 3 ≤ sizeLine; decide)
  have I2 : Inv X pins σ H1 { s1 with heap := s1.heap.push { cls := .type "tuple", data := .seq [u1, u2, u3].toArray } } := I1.kept (t' := s1.toks) fun b o e => Heap.get?_push_of_some _ e
  rw [hw]
  refine wpAny_bind (wpAny_pure ?_)
  show wpAny (model X.prog X.w) X.A (do rule "assign.swapped-stores"; let items ← unpackItems (.ref s1.heap.objs.size) 3 none; assignInOrder [fun v => bindName X.env z v, fun v => bindName X.env y v, fun v => bindName X.env x v] items.reverse; pure Flow.next) _ _ _
  refine wpAny_bind (wpAny_rule (wpAny_bind (unpackItems_tuple (items := #[u1, u2, u3]) (I.ok.hd hc) (IsTup.new s1.heap _) fun h' hx' => ?_)))
  have I3 := I2.kept (h' := h') (t' := s1.toks) fun b o e => hx' b o (Nat.ne_of_lt (Heap.lt_size e)) e
  show wpAny _ _ (assignInOrder [fun v => bindName X.env z v, fun v => bindName X.env y v, fun v => bindName X.env x v] [u3, u2, u1] >>= fun _ => pure Flow.next) _ _ _
  refine wpAny_bind (assignInOrder_cons (wpAny_bindName (store_ok I3 hN hk (.inl hz) rw' (fun s2 I4 => ?_) (.inr hz))))
  refine assignInOrder_cons (wpAny_bindName (store_ok I4 hN hj (.inl hy) rv (fun s3 I5 => ?_) (.inr hy)))
  refine assignInOrder_cons (wpAny_bindName (store_ok I5 hN hi (.inl hx) ru (fun s4 I6 => assignInOrder_nil (wpAny_pure ?_)) (.inr hx)))
  exact ⟨_, _, I6, q1⟩
end SL
set_option Elab.async false
set_option linter.all false
set_option maxRecDepth 100000
set_option maxHeartbeats 2000000
/-! own words, 16: +, -, * with a whole number or a truth on the left; str of these -/
namespace SL
open PySem PySem.Spec PyProof.Rows L2 GxR NdefX GA
/-- a whole number or a truth, and as a number -/
def numV (x : V) (i : Int) : Prop := x = .int i ∨ ∃ b, x = .bl b ∧ i = if b = true then 1 else 0
section
variable {X : Cx}
def rNumI (C : Int → Int → Prop) (g : Int → Int → Int) : R2 := fun x y H Q => ∃ i j, numV x i ∧ y = .int j ∧ C i j ∧ Q (.int (g i j)) H
theorem op_addB : OpR X (binaryOp .Add) (rNumI (fun _ _ => True) (· + ·)) := by
  intro pins s σ H x y v u Q I rx ry h
  obtain ⟨i, j, hx, rfl, _, q⟩ := h
  obtain ⟨t, rfl⟩ := ry
  have fin : EP X pins σ Q (.int (i + j) s.toks) { s with toks := s.toks + 1 } := ⟨.int (i + j), H, I.tok _, ⟨_, rfl⟩, q⟩
  rcases hx with rfl | ⟨b, rfl, rfl⟩
  · obtain ⟨t', rfl⟩ := rx
    exact add_int fin
  · cases rx
    exact IntBool.add_bool_int fin
theorem op_subB : OpR X (binaryOp .Sub) (rNumI (fun _ _ => True) (· - ·)) := by
  intro pins s σ H x y v u Q I rx ry h
  obtain ⟨i, j, hx, rfl, _, q⟩ := h
  obtain ⟨t, rfl⟩ := ry
  have fin : EP X pins σ Q (.int (i - j) s.toks) { s with toks := s.toks + 1 } := ⟨.int (i - j), H, I.tok _, ⟨_, rfl⟩, q⟩
  rcases hx with rfl | ⟨b, rfl, rfl⟩
  · obtain ⟨t', rfl⟩ := rx
    exact sub_int fin
  · cases rx
    exact IntBool.sub_bool_int fin
theorem op_mulB : OpR X (binaryOp .Mult) (rNumI CMul (· * ·)) := by
  intro pins s σ H x y v u Q I rx ry h
  obtain ⟨i, j, hx, rfl, hc, q⟩ := h
  obtain ⟨t, rfl⟩ := ry
  have fin : EP X pins σ Q (.int (i * j) s.toks) { s with toks := s.toks + 1 } := ⟨.int (i * j), H, I.tok _, ⟨_, rfl⟩, q⟩
  rcases hx with rfl | ⟨b, rfl, rfl⟩
  · obtain ⟨t', rfl⟩ := rx
    exact mul_int fin hc.ok
  · cases rx
    exact IntBool.mul_bool_int fin
theorem neg_bool {prog : Program} {w : World} {A : Around} {E : Value → Shared → Prop} {s : Shared} {b : Bool} {Q : Value → Shared → Prop} (h : Q (.int (-(if b = true then 1 else 0)) s.toks) { s with toks := s.toks + 1 }) : wpAny (model prog w) A (unaryOp .USub (.bool b)) Q E s := by
  refine unaryOp_gives (op := .USub) (PySem.typeIs_bool s b) rfl F.slot_bool_neg F.entry_int_neg (F.args_int_neg_1 _) (m := Made.int (-(if b = true then 1 else 0))) (by cases b <;> exact .of_eq rfl) h
def rNegB : V → Hp → VK → Prop := fun x H Q => ∃ i, numV x i ∧ Q (.int (-i)) H
theorem un_negB {X : Cx} : UnR X (unaryOp .USub) rNegB := by
  intro pins s σ H x v Q I rx h
  obtain ⟨i, hx, q⟩ := h
  have fin : EP X pins σ Q (.int (-i) s.toks) { s with toks := s.toks + 1 } := ⟨.int (-i), H, I.tok _, ⟨_, rfl⟩, q⟩
  rcases hx with rfl | ⟨b, rfl, rfl⟩
  · obtain ⟨t', rfl⟩ := rx
    exact neg_int fin
  · cases rx
    exact neg_bool fin
/-- str(x) of a whole number or a truth: some ascii text -/
def rStrN : List V → Hp → VK → Prop := fun xs H Q => (∃ i, xs = [.int i] ∧ i.natAbs.log2 < 1920 ∧ Q (.str (toString i)) H) ∨ ∃ b, xs = [.bl b] ∧ Q (.str (if b = true then "True" else "False")) H
theorem cr_strN : CallR X (.type "str") rStrN := by
  intro pins s σ H xs us Q I r h
  rcases h with ⟨i, rfl, hz, q⟩ | ⟨b, rfl, q⟩
  · exact call_str_int pins s σ H _ us Q I r ⟨i, rfl, hz, q⟩
  · obtain ⟨u, rfl, ru⟩ := vals1 r
    cases ru
    exact PySem.P.str_of_bool ⟨.str _, H, I.tok _, ⟨_, rfl⟩, q⟩
end
end SL
set_option Elab.async false
set_option linter.all false
set_option maxRecDepth 100000
set_option maxHeartbeats 2000000
/-! own words, 17: parts of data lists: ints, depth, slices -/
namespace SL
open PySem PySem.Spec PyProof.Rows L2 GxR NdefX GA
theorem niceAll_iff {n : Nat} : ∀ {xs : List PyData}, niceAll n xs = true ↔ ∀ d ∈ xs, nice n d = true
  | [] => by simp [niceAll]
  | x :: xs => by
    simp only [niceAll, Bool.and_eq_true, List.mem_cons, forall_eq_or_imp]
    exact and_congr Iff.rfl niceAll_iff
theorem depthAll_le {D : Nat} : ∀ {xs : List PyData}, PyData.depthAll xs ≤ D ↔ ∀ d ∈ xs, d.depth ≤ D
  | [] => by simp [PyData.depthAll]
  | x :: xs => by
    have ih := depthAll_le (D := D) (xs := xs)
    simp only [PyData.depthAll, List.mem_cons, forall_eq_or_imp]
    rw [← ih]
    omega
theorem nice_tup {n : Nat} {xs : List PyData} : nice n (.tuple xs) = true ↔ ∀ d ∈ xs, nice n d = true := by
  simp only [nice]
  exact niceAll_iff
theorem nice_lst {n : Nat} {xs : List PyData} : nice n (.list xs) = true ↔ ∀ d ∈ xs, nice n d = true := by
  simp only [nice]
  exact niceAll_iff
theorem depth_tup {D : Nat} {xs : List PyData} : (PyData.tuple xs).depth ≤ D + 1 ↔ ∀ d ∈ xs, d.depth ≤ D := by
  rw [← depthAll_le]
  simp only [PyData.depth]
  omega
theorem depth_lst {D : Nat} {xs : List PyData} : (PyData.list xs).depth ≤ D + 1 ↔ ∀ d ∈ xs, d.depth ≤ D := by
  rw [← depthAll_le]
  simp only [PyData.depth]
  omega
theorem wt_tupl (xs : List PyData) : wt (.tuple xs) = wtAll xs + 4 := by simp only [wt]
theorem wt_lst (xs : List PyData) : wt (.list xs) = wtAll xs + 4 := by simp only [wt]
/-- the slice of data -/
def cutD (ds : List PyData) (lo hi : Option Int) : List PyData := (ds.drop (HT.sIx ds.length 0 lo)).take (HT.sIx ds.length ds.length hi - HT.sIx ds.length 0 lo)
theorem cutD_mem {ds : List PyData} {lo hi : Option Int} {d : PyData} (h : d ∈ cutD ds lo hi) : d ∈ ds := List.mem_of_mem_drop (List.mem_of_mem_take h)
theorem cutD_wt (ds : List PyData) (lo hi : Option Int) : wtAll (cutD ds lo hi) ≤ wtAll ds := Nat.le_trans (wtAll_take _ _) (wtAll_drop _ _)
theorem cutD_len (ds : List PyData) (lo hi : Option Int) : (cutD ds lo hi).length ≤ ds.length := by
  unfold cutD
  rw [List.length_take, List.length_drop]
  omega
theorem DvAll.cutD {M : List Addr} {H : Hp} {xs : List V} {ds : List PyData} (h : DvAll M H xs ds) (lo hi : Option Int) : DvAll M H (cutV xs lo hi) (cutD ds lo hi) := h.cut lo hi
theorem rep_mem {n : Nat} {ds : List PyData} {d : PyData} (h : d ∈ (List.replicate n ds).flatten) : d ∈ ds := by
  obtain ⟨l, hl, hd⟩ := List.mem_flatten.mp h
  rw [(List.mem_replicate.mp hl).2] at hd
  exact hd
theorem DvAll.rep {M : List Addr} {H : Hp} {xs : List V} {ds : List PyData} (h : DvAll M H xs ds) : ∀ n : Nat, DvAll M H (List.replicate n xs).flatten (List.replicate n ds).flatten
  | 0 => .nil
  | n + 1 => by
    rw [List.replicate_succ, List.flatten_cons, List.replicate_succ, List.flatten_cons]
    exact h.append (DvAll.rep h n)
theorem rep_wt (ds : List PyData) : ∀ n : Nat, wtAll (List.replicate n ds).flatten = n * wtAll ds
  | 0 => by simp [wtAll]
  | n + 1 => by
    rw [List.replicate_succ, List.flatten_cons, wtAll_append, rep_wt ds n, Nat.succ_mul]
    omega
theorem cutD_lo {ds : List PyData} {i : Nat} (h : i ≤ ds.length) : cutD ds none (some (i : Int)) = ds.take i := by
  unfold cutD
  rw [HT.sIx_none, HT.sIx_nat, List.drop_zero, Nat.sub_zero, Nat.min_eq_left h]
theorem cutD_hi {ds : List PyData} {i : Nat} (h : i ≤ ds.length) : cutD ds (some (i : Int)) none = ds.drop i := by
  unfold cutD
  rw [HT.sIx_none, HT.sIx_nat, Nat.min_eq_left h]
  exact List.take_of_length_le (by rw [List.length_drop]; omega)
theorem wt_around {ds : List PyData} {i : Nat} {d : PyData} (h : ds[i]? = some d) : wtAll (ds.take i) + (wt d + 2 + wtAll (ds.drop (i + 1))) = wtAll ds := by
  have hi : i < ds.length := (List.getElem?_eq_some_iff.mp h).1
  have e : ds.drop i = d :: ds.drop (i + 1) := by
    rw [List.drop_eq_getElem_cons hi]
    congr 1
    exact (List.getElem?_eq_some_iff.mp h).2
  have w := wtAll_append (ds.take i) (ds.drop i)
  rw [List.take_append_drop, e] at w
  simp only [wtAll] at w
  omega
end SL
set_option Elab.async false
set_option linter.all false
set_option maxRecDepth 100000
set_option maxHeartbeats 2000000
/-! own words, 18: the law's def called where no guard is about, beside tables of code objects -/
namespace SL
open PySem PySem.Spec PyProof.Rows L2 GxR NdefX GA
abbrev scrO (us : List Value) : Obj := { cls := .type "list", data := .seq us.toArray }
abbrev tblO : Obj := { cls := .none, data := .fields #[] }
/-- where the law is called: the written part, the names, code objects cs with their empty tables, the script -/
structure Stand (K : PySem.W.Frag) (mg mb : Str → Option Value) (cs : List (Addr × Addr)) (s : Shared) (a : Addr) (us : List Value) (ns : List Int) : Prop where
  kin : K.In s.heap
  glo : s.heap.Ns mainGlobals mg
  blt : s.heap.Ns builtinsNs mb
  boot : ∀ y : Str, y ≠ "__name__" → mb y = bootBuiltins y
  lim : s.heap.NoLimit
  gens : s.gens = #[]
  tab : ∀ p ∈ cs, s.heap.get? p.2 = some tblO
  tabK : ∀ p ∈ cs, K.lookup p.2 = none
  code : ∀ p ∈ cs, PySem.W.CodeHd s.heap p.1 p.2
  bm : ∃ (m : Addr) (ob : Obj), mg "__builtins__" = some (.ref m) ∧ m ≠ builtinsNs ∧ s.heap.get? m = some ob ∧ ob.cls = .type "module" ∧ ob.dict = some builtinsNs ∧ ob.data = .plain
  scr : s.heap.get? a = some (scrO us)
  mods : ∃ m, s.heap.Ns sysModules m
  nums : IntsAre us ns
  short : ns.length ≤ sizeLine
/-- what is tracked there: the tables; the script, unless the top has written it -/
def trk0 (K : PySem.W.Frag) (cs : List (Addr × Addr)) (a : Addr) (us : List Value) (ns : List Int) : Hp := fun b =>
  if b ∈ cs.map (·.2) then some (.tbl #[]) else if b = a ∧ (K.lookup a).isNone = true then some (.frz (scrO us) (.lst (ns.map V.int))) else none
section
variable {P : Program} {w : World} {K : PySem.W.Frag} {mg mb : Str → Option Value} {cs : List (Addr × Addr)} {s : Shared} {a b : Addr} {us : List Value} {ns : List Int} {o : Obj} {u : HO}
theorem trk0_tab {p : Addr × Addr} (h : p ∈ cs) : trk0 K cs a us ns p.2 = some (.tbl #[]) := if_pos (List.mem_map_of_mem h)
theorem Stand.cases (S : Stand K mg mb cs s a us ns) (h : trk0 K cs a us ns b = some u) :
    (u = .tbl #[] ∧ s.heap.get? b = some tblO ∧ ∃ p ∈ cs, p.2 = b) ∨ (u = .frz (scrO us) (.lst (ns.map V.int)) ∧ b = a ∧ K.lookup a = none) := by
  unfold trk0 at h
  split at h
  · rename_i m
    obtain ⟨p, hp, e⟩ := List.mem_map.mp m
    cases h
    exact .inl ⟨rfl, by rw [← e]; exact S.tab p hp, p, hp, e⟩
  · split at h
    · rename_i m
      cases h
      exact .inr ⟨rfl, m.1, by simpa using m.2⟩
    · cases h
/-- what is neither a list nor a table is not tracked -/
theorem Stand.off (S : Stand K mg mb cs s a us ns) (e : s.heap.get? b = some o) (n1 : ∀ vs n, o.data ≠ .seq vs n) (n2 : o.data ≠ .fields #[]) : trk0 K cs a us ns b = none := by
  cases q : trk0 K cs a us ns b with
  | none => rfl
  | some u =>
    rcases S.cases q with ⟨_, e2, _⟩ | ⟨_, rfl, _⟩
    · rw [e] at e2
      cases e2
      exact absurd rfl n2
    · rw [S.scr] at e
      cases e
      exact absurd rfl (n1 _ _)
theorem Stand.base (S : Stand K mg mb cs s a us ns) (e : s.heap.get? b = some o) (n1 : ∀ vs n, o.data ≠ .seq vs n) (n2 : o.data ≠ .fields #[]) : (hidT s.heap (trk0 K cs a us ns)).get? b = some o := hidT_get e (S.off e n1 n2)
theorem Stand.named (S : Stand K mg mb cs s a us ns) {g : Addr} {m : Str → Option Value} (h : s.heap.Ns g m) : (hidT s.heap (trk0 K cs a us ns)).Ns g m := by
  obtain ⟨o, es, ep, e, d, r⟩ := h
  exact ⟨o, es, ep, S.base e (by rw [d]; intro _ _ z; cases z) (by rw [d]; intro z; cases z), d, r⟩
theorem Stand.kinB (S : Stand K mg mb cs s a us ns) : K.In (hidT s.heap (trk0 K cs a us ns)) := fun b o e => by
  refine hidT_get (S.kin b o e) ?_
  cases q : trk0 K cs a us ns b with
  | none => rfl
  | some u =>
    rcases S.cases q with ⟨_, _, p, hp, rfl⟩ | ⟨_, rfl, k⟩
    · rw [S.tabK p hp] at e
      cases e
    · rw [k] at e
      cases e
theorem Stand.mod (S : Stand K mg mb cs s a us ns) : L2.Mod K mg (hidT s.heap (trk0 K cs a us ns)) := by
  obtain ⟨mc, l1, l2⟩ := S.lim
  exact ⟨S.kinB, S.named S.glo, ⟨mb, S.named S.blt, S.boot⟩, mc, S.named l1, l2⟩
theorem Stand.tabB (S : Stand K mg mb cs s a us ns) {p : Addr × Addr} (hp : p ∈ cs) : GxR.TabB (hidT s.heap (trk0 K cs a us ns)) mg p.1 p.2 := by
  have ht := S.tab p hp
  refine ⟨?_, ?_, ?_⟩
  · obtain ⟨o, vs, file, tf, flags, tg, inF, text, tt, e, r1, r2, r3, r⟩ := S.code p hp
    refine ⟨o, vs, file, tf, flags, tg, inF, text, tt, S.base e (by rw [r2]; intro _ _ z; cases z) ?_, r1, r2, r3, r⟩
    rw [r2]
    intro z
    cases z
    simp at r3
  · obtain ⟨m, ob, b1, b2, b3, b4, b5, b6⟩ := S.bm
    refine ⟨m, ob, b1, b2, ?_, ?_, S.base b3 (by rw [b6]; intro _ _ z; cases z) (by rw [b6]; intro z; cases z), b4, b5, b6⟩
    · rintro rfl
      obtain ⟨o, es, ep, e, d, _⟩ := S.glo
      rw [b3] at e
      cases e
      rw [b6] at d
      cases d
    · rintro rfl
      rw [ht] at b3
      cases b3
      cases b6
  · intro z
    obtain ⟨o, es, ep, e, d, _⟩ := S.glo
    rw [z, ht] at e
    cases e
    cases d
theorem Stand.hok (S : Stand K mg mb cs s a us ns) : HOk P w (trk0 K cs a us ns) s.heap := fun b u h => by
  rcases S.cases h with ⟨rfl, e, _⟩ | ⟨rfl, rfl, _⟩
  · exact e
  · exact ⟨S.scr, by rw [List.length_map]; exact S.short, us, _, vals_ints S.nums, S.scr⟩
theorem Stand.sq (S : Stand K mg mb cs s a us ns) : SqL K (trk0 K cs a us ns) a (ns.map V.int) := by
  have na : a ∉ cs.map (·.2) := fun m => by
    obtain ⟨p, hp, e⟩ := List.mem_map.mp m
    have t := S.tab p hp
    rw [e, S.scr] at t
    cases t
  cases k : K.lookup a with
  | none => exact .inl (.inr ⟨scrO us, (if_neg na).trans (if_pos ⟨rfl, by rw [k] <;> rfl⟩)⟩)
  | some o =>
    have e := S.kin a o k
    rw [S.scr] at e
    cases e
    exact .inr ⟨_, us.toArray, _, k, rfl, rfl, rfl, by rw [List.size_toArray, S.nums.length]; exact S.short, by simpa using vals_ints S.nums⟩
theorem Stand.env (S : Stand K mg mb cs s a us ns) : Env0 P w K mg (hidT s.heap (trk0 K cs a us ns)) callerA [] s (trk0 K cs a us ns) where
  frames := rfl
  mod := S.mod
  bs := fun _ _ e => of_hidT e
  bsz := Nat.le_of_eq (hidT_size _ _)
  funs := trivial
  frf := fun _ h => absurd h List.not_mem_nil
  hok := S.hok
  bare := .of_eq S.gens
/-- what stood before stands behind the call, the tables grown -/
theorem Stand.old (S : Stand K mg mb cs s a us ns) {s' : Shared} {H' : Hp} (un : Un [] [] (trk0 K cs a us ns) H' s.heap s'.heap) (ok : HOk P w H' s'.heap) : OldK s.heap s'.heap := by
  have grown : ∀ p ∈ cs, ∃ more : Array Value, s'.heap.get? p.2 = some { cls := .none, data := .fields more } := fun p hp => by
    obtain ⟨more, e⟩ := un.tbls p.2 #[] (trk0_tab hp)
    exact ⟨_, ok _ _ e⟩
  have each : ∀ b o, s.heap.get? b = some o → s'.heap.get? b = some o ∨ ∃ p ∈ cs, p.2 = b := fun b o e => by
    cases q : trk0 K cs a us ns b with
    | none => exact .inl (un.keep b o e q List.not_mem_nil List.not_mem_nil)
    | some u =>
      rcases S.cases q with ⟨_, _, h⟩ | ⟨rfl, rfl, _⟩
      · exact .inr h
      · refine .inl ?_
        have k := (ok _ _ (un.frzs _ _ _ q)).1
        rw [S.scr] at e
        cases e
        exact k
  refine ⟨fun b o e => ?_, fun b o e => ?_⟩
  · rcases each b o e with h | ⟨p, hp, rfl⟩
    · exact .inl h
    · obtain ⟨more, hm⟩ := grown p hp
      rw [S.tab p hp] at e
      cases e
      exact .inr (.inl ⟨((S.code p hp).tab (S.tab p hp)).isCodeTable, rfl, #[], more, rfl, by rw [Array.empty_append]; exact hm⟩)
  · rcases each b o e with h | ⟨p, hp, rfl⟩
    · exact ⟨o, h⟩
    · obtain ⟨more, hm⟩ := grown p hp
      exact ⟨_, hm⟩
/-- the call gives True -/
theorem Stand.run (S : Stand K mg mb cs s a us ns) {k : Nat} {fa : Addr} {fd : FuncData} {x : Str} {sp : Sp} (hr : Room k callerA) (F : ∀ base : Heap, K.In base → base.Ns mainGlobals mg → (∃ o, base.get? sysModules = some o) → (∀ p ∈ cs, GxR.TabB base mg p.1 p.2) → FnG P w K mg base k fa fd [x] sp)
    (hb : ∀ (t : Shared) (v : Value), BindsTo t fd ⟨[v], []⟩ [(x, v)]) (hsp : ∀ H : Hp, (∀ p ∈ cs, H p.2 = some (.tbl #[])) → SqL K H a (ns.map V.int) → sp [.ref a] H (fun v _ => v = .bl true) E0) :
    codeAny (model P w) callerA (.call (.ref fa) ⟨[.ref a], []⟩) (fun r s' => r = .ok (.ret (.bool true)) ∧ OldK s.heap s'.heap ∧ s'.os = s.os ∧ AllBare s'.gens) s := by
  obtain ⟨m, hm⟩ := S.mods
  obtain ⟨ob, _, _, eb, _⟩ := S.named hm
  have G := F _ S.kinB (S.named S.glo) ⟨ob, eb⟩ fun p hp => S.tabB hp
  have go := G.run callerA [] s (trk0 K cs a us ns) ⟨[.ref a], []⟩ [.ref a] [.ref a] _ rfl hr S.env (hb s (.ref a)) (.cons rfl .nil) (hsp _ (fun _ hp => trk0_tab hp) S.sq)
  refine codeAny_mono go ?_
  rintro (err | fl) s' h
  · exact False.elim h
  · rcases fl with _ | _ | _ | v
    · exact False.elim h
    · exact False.elim h
    · exact False.elim h
    · obtain ⟨y, H', os, bare, un, ok, rel, rfl⟩ := h
      cases rel
      exact ⟨rfl, S.old un ok, os, bare⟩
end
/-- the law's row, once its def is shown to give True -/
theorem walkG {l : PySem.W.OpenLaw} {n k : Nat} {q : Program} {loose : List Str} {XP : (Str → Option Value) → Heap → Prop} {YP : World → Heap → Prop} {d : DefRec} {K : Params → PySem.W.Frag} {x : Str}
    (hn : l.most = some n) (hn2 : n ≤ sizeLine) (hdf : d.params.defaults = []) (hq : importsNone q = true) (hr : Room k callerA) (hY : ∀ (w : World) (h : Heap), YP w h → (K w.params).In h)
    (F : ∀ (w : World) (mg : Str → Option Value) (fa : Addr) (h : Heap), (K w.params).In h → h.Ns mainGlobals mg → mg d.name = some (.ref fa) →
      (∀ (e : DefRec) (y : Str) (c Q : Addr), (recsOf q).find? (fun r => r.name == y) = some e → PySem.W.tabIn (K w.params) y = some (c, Q) → PySem.W.CodeHd h c Q ∧ h.get? Q = some tblO) →
      ∃ (fd : FuncData) (cs : List (Addr × Addr)) (sp : Sp), (∀ p ∈ cs, h.get? p.2 = some tblO ∧ (K w.params).lookup p.2 = none ∧ PySem.W.CodeHd h p.1 p.2) ∧ (∀ (t : Shared) (v : Value), BindsTo t fd ⟨[v], []⟩ [(x, v)]) ∧
        (∀ (H : Hp) (a : Addr) (ns : List Int), ns.length ≤ n → (∀ p ∈ cs, H p.2 = some (.tbl #[])) → SqL (K w.params) H a (ns.map V.int) → sp [.ref a] H (fun v _ => v = .bl true) E0) ∧
        ∀ base : Heap, (K w.params).In base → base.Ns mainGlobals mg → (∃ o, base.get? sysModules = some o) → (∀ p ∈ cs, GxR.TabB base mg p.1 p.2) → FnG l.prog w (K w.params) mg base k fa fd [x] sp) :
    PySem.W.WalkO q loose XP YP l.row.toRowW d [] (fun f vs => PySem.call f vs) := by
  refine Att.attach_callB hn hdf fun w s₀ s₁ mg mb fa o pm cd doc a us ns G Y _ _ _ hmg hobj hints hlen _ hg => ?_
  have KX := hY w _ Y
  obtain ⟨fd, cs, sp, ht, hb, hsp, hF⟩ := F w mg fa _ KX G.T.g hmg fun e y c Q h1 h2 => PySem.W.tab_of G.T KX h1 h2
  obtain ⟨mm, hmm, _⟩ := (G.T.seer hq).mods
  have S : Stand (K w.params) mg mb cs s₁ a us ns := ⟨KX, G.T.g, G.T.b, G.T.builtins, G.T.nolimit, hg, fun p hp => (ht p hp).1, fun p hp => (ht p hp).2.1, fun p hp => (ht p hp).2.2, G.T.bmain, hobj, ⟨mm, hmm⟩, hints, Nat.le_trans hlen hn2⟩
  exact S.run hr hF hb fun H h1 h2 => hsp H a ns hlen h1 h2
end SL
set_option Elab.async false
set_option linter.all false
set_option maxRecDepth 100000
set_option maxHeartbeats 2000000
/-! own words, 19: enumerate of a tuple -/
namespace SL
open PySem PySem.Spec PyProof.Rows L2 GxR NdefX GA
open AutoSeq1 (wpAny_loadPart')
/-- the pairs of places and items of the tuple at a -/
def ItN (K : PySem.W.Frag) (a : Addr) : It where
  go := fun i H => ∃ xs x, SqT K H a xs ∧ xs[i]? = some x
  yld := fun i H v G => ∃ p x, v = .ref p ∧ H p = none ∧ G = upd H p (.tup [.int (i : Nat), x]) ∧ ∀ xs, SqT K H a xs → xs[i]? = some x
  stop := fun i H => ∃ xs, SqT K H a xs ∧ xs.length ≤ i
theorem enumT_new (a : Addr) (us : Array Value) (n : Nat) (dd : Option Addr) (ss : Array (Option Value)) :
    Meets (Builtin.«enumerate.__new__» ⟨[.type "enumerate", .ref a], []⟩) (fun _ G t => t.heap.get? a = some { cls := .type "tuple", dict := dd, data := .seq us n, slots := ss } ∧
      G (.ok (.ret (.ref (t.heap.push { cls := .type "tuple_iterator", data := .fields #[.ref a, .int 0 0] }).objs.size)))
        { t with heap := (t.heap.push { cls := .type "tuple_iterator", data := .fields #[.ref a, .int 0 0] }).push { cls := .type "enumerate", data := .fields #[.none, .bool false, .ref t.heap.objs.size, rawInt 0, .none, .none] } }) :=
  .of_wp fun pr wd ar G t z => by
    obtain ⟨hh, gg, dr, to, oo⟩ := t
    obtain ⟨ha, z⟩ := z
    have h1 := sub_enumerate
    have h2 : Heap.IsTuple (Shared.heap ⟨hh, gg, dr, to, oo⟩) a us := ⟨_, ha, rfl, n, rfl⟩
    wp_walk using wpAny_loadPart' ha
    refine wpAny_stack_any fun _ => wpAny_pure ?_
    split
    · rename_i c _ _ _ _ _
      by_cases e : (c == Value.type "enumerate") = true
      all_goals first
        | simp only [e]
        | skip
      all_goals
        wp_walk using wpAny_loadPart' ha, wpAny_pyIter_tuple h2
        exact ⟨_, rfl, z⟩
    · wp_walk using wpAny_loadPart' ha, wpAny_pyIter_tuple h2
      exact ⟨_, rfl, z⟩
section
variable {prog : Program} {w : World} {A : Around} {E : Value → Shared → Prop} {s : Shared}
theorem call_enumT {a : Addr} {us : Array Value} {Q : Value → Shared → Prop} (h : s.heap.IsTuple a us)
    (q : ∀ h', IsEnum h' (s.heap.objs.size + 1) s.heap.objs.size 0 .none → h'.IsTupleIter s.heap.objs.size a 0 → (∀ b o, s.heap.get? b = some o → h'.get? b = some o) → Q (.ref (s.heap.objs.size + 1)) { s with heap := h' }) :
    wpAny (model prog w) A (call (.type "enumerate") [.ref a]) Q E s := by
  obtain ⟨⟨c, dd, dt, ss⟩, g, e1, n, e2⟩ := h
  simp only at e1 e2
  subst e1 e2
  refine callType_new F.called_enumerate (by decide) (F.typeCall_enumerate_1 _) (F.newCall_enumerate_1 _) (fun z => F.args_object_init_2 z _) F.entry_enumerate_new (enumT_new a us n dd ss) ⟨g, ?_⟩
  obtain ⟨h1, eh⟩ : ∃ h1, h1 = s.heap.push { cls := .type "tuple_iterator", data := .fields #[.ref a, .int 0 0] } := ⟨_, rfl⟩
  have z1 : h1.objs.size = s.heap.objs.size + 1 := by rw [eh]; exact Heap.size_push ..
  have g1 : h1.get? s.heap.objs.size = some { cls := .type "tuple_iterator", data := .fields #[.ref a, .int 0 0] } := by rw [eh]; exact Heap.get?_push_size _ rfl
  have k1 : ∀ b o, s.heap.get? b = some o → h1.get? b = some o := fun b o x => by rw [eh]; exact Heap.get?_push_of_some _ x
  rw [← eh]
  show _ ∧ _
  rw [z1]
  have en := Heap.get?_push_size h1 (o := { cls := .type "enumerate", data := .fields #[.none, .bool false, .ref s.heap.objs.size, rawInt 0, .none, .none] }) rfl
  rw [z1] at en
  exact ⟨⟨_, en, rfl⟩, q _ en ⟨_, Heap.get?_push_of_some _ g1, rfl, rfl⟩ fun b o x => Heap.get?_push_of_some _ (k1 b o x)⟩
end
theorem turnN {P : Program} {w : World} {K : PySem.W.Frag} {elts : List Expr} {kk : Nat} {tpos : Pos} (a e it : Addr) :
    Turn P w K (.Tuple elts kk tpos) (ItN K a) [e, it] e (fun i h => (∃ old, IsEnum h e it ((i : Nat) : Int) old) ∧ h.IsTupleIter it a i ∧ e ≠ it) where
  mem := List.mem_cons_self
  obj := fun i h st b hb => by
    obtain ⟨⟨_, he⟩, ⟨o, ho, _, hd⟩, _⟩ := st
    rcases List.mem_cons.mp hb with rfl | hb
    · exact ⟨_, he, fun v z => nomatch z⟩
    · rw [List.mem_singleton.mp hb]
      exact ⟨o, ho, fun v z => by rw [hd] at z; cases z⟩
  keep := fun i h h' st k => by
    obtain ⟨⟨old, he⟩, hi, hne⟩ := st
    exact ⟨⟨old, k e List.mem_cons_self _ he⟩, hi.at fun o z => k it (by simp) o z, hne⟩
  item := by
    intro X hP hw hK hc i pins s σ H E I hf st hg
    subst hP hw hK
    obtain ⟨⟨old, he⟩, hit, hne⟩ := st
    obtain ⟨xs, x, hq, hx⟩ := hg
    obtain ⟨its, rv, pt, _⟩ := I.tuple hq
    obtain ⟨u, hu, ru⟩ := rv.get hx
    have tup : s.heap.IsTuple a its.toArray := by
      obtain ⟨o, g, c, n, d⟩ := pt
      exact ⟨o, g, c, n, d⟩
    have ai : a ≠ it := by
      rintro rfl
      obtain ⟨o, g, c, _⟩ := tup
      obtain ⟨o', g', c', _⟩ := hit
      rw [g] at g'
      cases g'
      rw [c] at c'
      exact absurd c' (by decide)
    have ae : e ∉ [it, a] := fun z => by
      rcases List.mem_cons.mp z with z | z
      · exact hne z
      · obtain ⟨o, g, c, _⟩ := tup
        rw [← List.mem_singleton.mp z, he] at g
        cases g
        have c' : Value.type "enumerate" = .type "tuple" := c
        exact absurd c' (by decide)
    have lte : e < s.heap.objs.size := Heap.lt_size he
    have lti : it < s.heap.objs.size := by
      obtain ⟨_, z, _⟩ := hit
      exact Heap.lt_size z
    have hi : i < its.toArray.size := by
      rw [List.size_toArray]
      exact (List.getElem?_eq_some_iff.mp hu).1
    refine wpAny_pyNext_enum_itemD (Draws.tuple (show X.A.in1.handled = none from I.ok.hd hc) it a ai its.toArray) he ⟨hit, tup⟩ hi hne ae fun v h' tk hv ho ⟨hit', _⟩ hT _ hk => ?_
    have ev : v = u := by
      have hv' : its[i]? = some v := by simpa using hv
      rw [hu] at hv'
      exact (Option.some.inj hv').symm
    subst ev
    refine ⟨_, rfl, wpAny_letOwnedTupleGo_enum (s := { s with heap := h', toks := tk + 1 }) ho fun h2 he2 sb => ?_⟩
    have onT : h2.get? s.heap.objs.size = some { cls := .type "tuple", data := .seq #[.int i tk, v] } := (sb.2 _ (Nat.ne_of_gt lte)).trans hT
    obtain ⟨G, eG⟩ : ∃ G, G = upd H s.heap.objs.size (.tup [.int (i : Nat), x]) := ⟨_, rfl⟩
    have fit : ObjOk X.prog X.w G h2 s.heap.objs.size (.tup [.int (i : Nat), x]) := ⟨by show 2 ≤ sizeLine; decide, [.int i tk, v], .cons ⟨_, rfl⟩ (.cons ru .nil), _, onT, rfl, _, rfl⟩
    have J : Inv X pins σ G { s with heap := h2, toks := tk + 1 } := by
      rw [eG] at fit ⊢
      refine I.turnedNew (ch := [e, it]) (fun b ob hb z => ?_) hf (Nat.le_refl _) fit
      have b1 : b ≠ e := fun y => hb (by simp [y])
      have b2 : b ≠ it := fun y => hb (by simp [y])
      exact (sb.2 b b1).trans (hk b ob b1 b2 z)
    refine ⟨.ref s.heap.objs.size, G, J, rfl, ⟨_, x, rfl, I.hok.fresh (Nat.le_refl _), eG, fun ys hy => by rw [I.tuple_inj hy hq]; exact hx⟩, ⟨⟨v, ?_⟩, hit'.at fun o z => (sb.2 it hne.symm).trans z, hne⟩, fun b hb => ?_⟩
    · have : ((i + 1 : Nat) : Int) = (i : Int) + 1 := by omega
      rw [this]
      exact he2
    · have lt : b < s.heap.objs.size := by
        rcases List.mem_cons.mp hb with rfl | hb
        · exact lte
        · rw [List.mem_singleton.mp hb]
          exact lti
      rw [eG, upd_ne (Nat.ne_of_lt lt)]
      exact (hf b hb).1
  done := by
    intro X hP hw hK hc i pins s σ H E I hf st hg
    subst hP hw hK
    obtain ⟨⟨old, he⟩, hit, hne⟩ := st
    obtain ⟨xs, hq, hx⟩ := hg
    obtain ⟨its, rv, pt, _⟩ := I.tuple hq
    have tup : s.heap.IsTuple a its.toArray := by
      obtain ⟨o, g, c, n, d⟩ := pt
      exact ⟨o, g, c, n, d⟩
    obtain ⟨f0, f1, _, f3, f4, f5⟩ := hf it (by simp)
    have none_ : its.toArray[i]? = none := by
      have hl := rv.length
      simp
      omega
    have D : Draws X.prog X.w X.A.in1 it [it, a] i (fun _ _ => True) (fun j h => j = i ∧ h.IsTupleIter it a i ∧ h.IsTuple a its.toArray) :=
      { live := fun _ _ z => let ⟨o, ho, _⟩ := z.2.1; ⟨o, ho⟩
        frame := fun _ _ _ z k => ⟨z.1, z.2.1.at fun o y => k it (by simp) o y, z.2.2.at fun o y => k a (by simp) o y⟩
        item := fun j s Q E lt z _ => absurd z.1 (Nat.ne_of_lt lt)
        done := fun s Q E z hE => wpAny_nextOf_tuple_end (show X.A.in1.handled = none from I.ok.hd hc) z.2.1 z.2.2 none_ hE }
    exact wpAny_pyNext_enum_endD D he ⟨rfl, hit, tup⟩ fun h' eb => ⟨rfl, I.turned (t' := s.toks) (fun b o hb z => eb b o hb z) f0 f1 f3 f4 f5⟩
  self := fun A i s Q E st h => by
    obtain ⟨⟨_, he⟩, _⟩ := st
    exact wpAny_pyIter_enum he h
def iEnumT (K : PySem.W.Frag) (ta : TA) : TI := fun σ H R => ta σ H fun vs G => ∃ a xs, vs = [.ref a] ∧ SqT K G a xs ∧ R (ItN K a) G
theorem pi_enumT {X : Cx} {e : Expr} {ta : TA} {p pos tpos : Pos} {elts : List Expr} {kk : Nat} (hm : X.mg "enumerate" = none) (ha : PA X [e] ta) (hg : Gl X "enumerate" := by rfl) (hs : starEach [e] X.env = [(false, eval e X.env)] := by rfl) :
    PI X (.Tuple elts kk tpos) (.Call (.Name "enumerate" p) [e] [] pos) (iEnumT X.K ta) := by
  constructor
  intro pins s σ H R I h
  refine Call_ (ld_blt I hg hm boot_enumerate (PyProof.Rows.callWith_type1 (thn (ha.run pos pins s σ H _ I h) fun us s1 z => ?_) hs rfl))
  obtain ⟨vs, H1, J, r1, a, xs, rfl, hq, q⟩ := z
  obtain ⟨u, rfl, ru⟩ := vals1 r1
  cases ru
  obtain ⟨its, _, ⟨o, g, c, n, d⟩, _⟩ := J.tuple hq
  refine call_enumT ⟨o, g, c, n, d⟩ fun h' he hit hk => wpAny_pyIter_enum he ?_
  have I2 : Inv X pins σ H1 { s1 with heap := h' } := J.kept (t' := s1.toks) hk
  refine ⟨s1.heap.objs.size + 1, [s1.heap.objs.size + 1, s1.heap.objs.size], _, _, H1, rfl, I2, turnN a (s1.heap.objs.size + 1) s1.heap.objs.size, ⟨⟨.none, he⟩, hit, Nat.succ_ne_self _⟩, fun b hb => ?_, q⟩
  have le : s1.heap.objs.size ≤ b := by
    rcases List.mem_cons.mp hb with rfl | hb
    · exact Nat.le_succ _
    · rw [List.mem_singleton.mp hb]
      exact Nat.le_refl _
  exact J.fpOk le (J.hok.fresh le)
/-- its walk -/
theorem walkN {K : PySem.W.Frag} {a : Addr} {xs : List V} : Walk (ItN K a) xs.length (fun H => SqT K H a xs) (fun i H v G => ∃ p x, v = .ref p ∧ H p = none ∧ G = upd H p (.tup [.int (i : Nat), x]) ∧ xs[i]? = some x) :=
  ⟨fun i _ hi q => ⟨xs, xs[i], q, by simp [hi]⟩, fun _ q => ⟨xs, q, Nat.le_refl _⟩, fun _ _ _ _ _ q ⟨p, x, e1, e2, e3, e4⟩ => ⟨p, x, e1, e2, e3, e4 xs q⟩⟩
end SL
set_option Elab.async false
set_option linter.all false
set_option maxRecDepth 100000
set_option maxHeartbeats 4000000
/-! own words, 20: a dict comprehension of two clauses without tests -/
namespace SL
open PySem PySem.Spec PyProof.Rows L2 GxR NdefX GA
abbrev two (kx vx t0 i0 t1 i1 : Expr) (sc : Scope) (pos : Pos) : Expr := .DictComp kx vx [⟨t0, i0, [], 0⟩, ⟨t1, i1, [], 0⟩] sc pos
section
variable {P : Program} {w : World} {A : Around} {R : Result → Shared → Prop} {s : Shared} {kx vx t0 i0 t1 i1 : Expr} {sc : Scope} {pos : Pos} {it : Value} {D : Addr} {env : Env}
abbrev Nv {α : Type} (P : Program) (w : World) (A : Around) (t : Sem α) (Q : α → Shared → Prop) (s : Shared) : Prop := wpAny (model P w) A t Q (fun _ _ => False) s
/-- the first clause's loop -/
theorem two_out (hs : ∀ x, foldedSetIterable i1 env x = pure x) (I : Nat → Shared → Prop)
    (turn : ∀ n s, I n s → Nv P w A (pyNext it) (fun r s1 => match r with
      | none => R (.ok .next) s1
      | some v => Nv P w A (letOwnedTupleGo t0 it v) (fun _ s2 => Nv P w A (assign t0 env v) (fun _ s3 => Nv P w A (eval i1 env) (fun x s4 => Nv P w A (pyIter x) (fun j s5 =>
          codeAny (model P w) A (.compStart (two kx vx t0 i0 t1 i1 sc pos) 1 j (.ref D) env) (fun r s' => match r with
            | .ok _ => ∃ m, m < n ∧ I m s'
            | .error _ => False) s5) s4) s3) s2) s1) s) (n : Nat) (h : I n s) : codeAny (model P w) A (.compLoop (two kx vx t0 i0 t1 i1 sc pos) 0 it (.ref D) env) R s := by
  refine codeAny_loop rfl I (fun n s hI => ?_) n h
  show wpAny _ A ((compTurn (two kx vx t0 i0 t1 i1 sc pos) 0 it (.ref D) env).onRaise (fun x => do noteFrame x env; theTreesLotGoes x)) _ _ s
  refine wpAny_noted ?_
  have e : compTurn (two kx vx t0 i0 t1 i1 sc pos) 0 it (.ref D) env = (do
      standAt i0.pos
      let r ← pyNext it
      match r with
      | none => pure (.done .next)
      | some v => do
        letOwnedTupleGo t0 it v
        assign t0 env v
        let ok ← forIn ([] : List Expr) true fun c r => if r = true then do let ok ← isTrue c env (eval c env); pure (ForInStep.yield ok) else pure (ForInStep.yield r)
        if ok = true then do
          let x ← eval i1 env
          standAt i1.pos
          let x ← foldedSetIterable i1 env x
          let _ ← runOwn (.compStart (two kx vx t0 i0 t1 i1 sc pos) 1 (← holding [x] (pyIter x)) (.ref D) env) env
          again (.compLoop (two kx vx t0 i0 t1 i1 sc pos) 0 it (.ref D) env)
        else again (.compLoop (two kx vx t0 i0 t1 i1 sc pos) 0 it (.ref D) env)) := by rfl
  rw [e]
  refine wpAny_bind (wpAny_standAt (wpAny_bind (thnF (turn n s hI) fun r s1 h1 => ?_)))
  cases r with
  | none => exact wpAny_pure h1
  | some v =>
    refine wpAny_bind (thnF h1 fun _ s2 h2 => wpAny_bind (thnF h2 fun _ s3 h3 => wpAny_bind (wpAny_tests_nil ?_)))
    rw [if_pos rfl]
    refine wpAny_bind (thnF h3 fun x s4 h4 => wpAny_bind (wpAny_standAt (wpAny_bind (wpAny_of_eq (hs x) (wpAny_bind (wpAny_holding (thnF h4 fun j s5 h5 => ?_)))))))
    refine wpAny_bind (wpAny_runOwn ?_)
    rw [Around.mark_none]
    refine codeAny_mono h5 fun r s' hr => ?_
    cases r with
    | ok f => exact wpAny_pure ⟨rfl, hr⟩
    | error e => exact hr.elim
/-- the second clause's loop -/
theorem two_in (I : Nat → Shared → Prop)
    (turn : ∀ n s, I n s → Nv P w A (pyNext it) (fun r s1 => match r with
      | none => R (.ok .next) s1
      | some v => Nv P w A (letOwnedTupleGo t1 it v) (fun _ s2 => Nv P w A (assign t1 env v) (fun _ s3 => Nv P w A (eval kx env) (fun u s4 => Nv P w A (eval vx env) (fun z s5 => Nv P w A (dictSet D u z) (fun _ s6 => ∃ m, m < n ∧ I m s6) s5) s4) s3) s2) s1) s)
    (n : Nat) (h : I n s) : codeAny (model P w) A (.compLoop (two kx vx t0 i0 t1 i1 sc pos) 1 it (.ref D) env) R s := by
  refine codeAny_loop rfl I (fun n s hI => ?_) n h
  show wpAny _ A ((compTurn (two kx vx t0 i0 t1 i1 sc pos) 1 it (.ref D) env).onRaise (fun x => do noteFrame x env; theTreesLotGoes x)) _ _ s
  refine wpAny_noted ?_
  have e : compTurn (two kx vx t0 i0 t1 i1 sc pos) 1 it (.ref D) env = (do
      standAt i1.pos
      let r ← pyNext it
      match r with
      | none => pure (.done .next)
      | some v => do
        letOwnedTupleGo t1 it v
        assign t1 env v
        let ok ← forIn ([] : List Expr) true fun c r => if r = true then do let ok ← isTrue c env (eval c env); pure (ForInStep.yield ok) else pure (ForInStep.yield r)
        if ok = true then do
          (do
            let u ← eval kx env
            let z ← holding [u] (eval vx env)
            standAt { kx.pos with endLine := vx.pos.endLine, endCol := vx.pos.endCol }
            holding [u, z] (dictSet D u z))
          again (.compLoop (two kx vx t0 i0 t1 i1 sc pos) 1 it (.ref D) env)
        else again (.compLoop (two kx vx t0 i0 t1 i1 sc pos) 1 it (.ref D) env)) := by rfl
  rw [e]
  refine wpAny_bind (wpAny_standAt (wpAny_bind (thnF (turn n s hI) fun r s1 h1 => ?_)))
  cases r with
  | none => exact wpAny_pure h1
  | some v =>
    refine wpAny_bind (thnF h1 fun _ s2 h2 => wpAny_bind (thnF h2 fun _ s3 h3 => wpAny_bind (wpAny_tests_nil ?_)))
    rw [if_pos rfl]
    refine wpAny_bind (wpAny_bind (thnF h3 fun u s4 h4 => wpAny_bind (wpAny_holding (thnF h4 fun z s5 h5 => wpAny_bind (wpAny_standAt (wpAny_holding (thnF h5 fun _ s6 h6 => wpAny_pure ⟨rfl, h6⟩)))))))
theorem two_start (h0 : codeAny (model P w) A (.compLoop (two kx vx t0 i0 t1 i1 sc pos) 1 it (.ref D) env) R s)
    (h : Nv P w A (pyIter it) (fun j s' => codeAny (model P w) A (.compLoop (two kx vx t0 i0 t1 i1 sc pos) 1 j (.ref D) env) R s') s) :
    codeAny (model P w) A (.compStart (two kx vx t0 i0 t1 i1 sc pos) 1 it (.ref D) env) R s := by
  refine codeAny_of_tree ?_
  show wpAny _ _ ((compStart (two kx vx t0 i0 t1 i1 sc pos) 1 it (.ref D) env).onRaise (fun x => do noteFrame x env; standAt theWindowsPlace)) _ _ s
  refine wpAny_notedAt ?_
  unfold compStart
  show wpAny _ _ (ask >>= _) _ _ s
  refine wpAny_bind (wpAny_askSetting (wpAny_ite ?_))
  split
  · first
      | exact wpAny_pure ⟨rfl, h0⟩
      | exact wpAny_bind (wpAny_pure (wpAny_pure ⟨rfl, h0⟩))
  · refine wpAny_bind (wpAny_rule ?_)
    first
      | exact wpAny_bind (wpAny_standAt (wpAny_bind (thnF h fun _ _ z => wpAny_pure ⟨rfl, z⟩)))
      | (show wpAny _ _ (standAt i1.pos >>= _) _ _ s; exact wpAny_bind (wpAny_standAt (wpAny_bind (thnF h fun _ _ z => wpAny_pure ⟨rfl, z⟩))))
end
section
/-- where a block's loop is: its iterator stands at its i-th turn, what is tracked is as W has it -/
def Sit (Y : Cx) (pins : List (Addr × Obj)) (σ : L2.St) (tn : Nat → Heap → Prop) (fp : List Addr) (W : Nat → Nat → Hp → Prop) (n : Nat) (s : Shared) : Prop := ∃ i H, Inv Y pins σ H s ∧ tn i s.heap ∧ (∀ b ∈ fp, H b = none) ∧ W i n H
/-- one turn of it, up to the store; Bd: what the store has to end in -/
theorem sit_turn {Y : Cx} {pins : List (Addr × Obj)} {σ : L2.St} {tg : Expr} {J : It} {fp : List Addr} {it : Addr} {tn : Nat → Heap → Prop} {g : TG} {W : Nat → Nat → Hp → Prop} {QQ : Hp → Prop} {Bd : (Hp → Prop) → L2.St → Hp → Prop} {vs : List Nat}
    (hc : Y.calm = true) (hx : Y.xe = fun _ _ => False) (T : Turn Y.prog Y.w Y.K tg J fp it tn) (pg : PG Y tg g) (stat : ∀ {σ' : L2.St} {H' : Hp} {s' : Shared}, Inv Y pins σ' H' s' → (∀ b ∈ fp, H' b = none) → ∀ b ∈ fp, FpOk Y pins H' b)
    (turn : ∀ i m H, W i m H → (J.stop i H ∧ QQ H) ∨ (J.go i H ∧ ∃ Nx : Hp → Prop, (∀ H', Nx H' → ∃ m', m' < m ∧ W (i + 1) m' H') ∧ ∀ x H', J.yld i H x H' → g x σ H' fun σ2 H2 => wipe σ2 vs = σ ∧ Bd Nx σ2 H2)) {n : Nat} {s : Shared} (h : Sit Y pins σ tn fp W n s) :
    Nv Y.prog Y.w Y.A (pyNext (.ref it)) (fun r s1 => match r with
      | none => ∃ H, Inv Y pins σ H s1 ∧ QQ H
      | some v => Nv Y.prog Y.w Y.A (letOwnedTupleGo tg (.ref it) v) (fun _ s2 => Nv Y.prog Y.w Y.A (assign tg Y.env v) (fun _ s3 => ∃ (Nx : Hp → Prop) (σ3 : L2.St) (H3 : Hp) (ps : List (Addr × Obj)), Inv Y (pins ++ ps) σ3 H3 s3 ∧ wipe σ3 vs = σ ∧ Bd Nx σ3 H3 ∧
          ∀ (σ' : L2.St) (H' : Hp) (s' : Shared), Inv Y (pins ++ ps) σ' H' s' → σ.length = σ'.length → (∀ (j : Nat) v, σ[j]? = some (some v) → σ'[j]? = some (some v)) → Nx H' → ∃ m, m < n ∧ Sit Y pins σ tn fp W m s') s2) s1) s := by
  obtain ⟨i, H, I, st, hn, hw⟩ := h
  rcases turn i n H hw with ⟨stop, q⟩ | ⟨go, Nx, hNx, step⟩
  · refine thnF (T.done Y rfl rfl rfl hc i pins s σ H (fun _ _ => False) I (stat I hn) st stop) fun r s1 ⟨e, I1⟩ => ?_
    subst e
    exact ⟨H, I1, q⟩
  · refine thnF (T.item Y rfl rfl rfl hc i pins s σ H (fun _ _ => False) I (stat I hn) st go) fun r s1 ⟨u, e, h1⟩ => ?_
    subst e
    refine thnF h1 fun _ s2 ⟨x, H2, I2, rx, y, st2, n2⟩ => ?_
    have run := pg.run _ s2 σ H2 x u _ (I2.pinned (stat I2 n2) (T.obj _ _ st2)) rx (step x H2 y)
    rw [hx] at run
    refine thnF run fun _ s3 ⟨σ3, H3, I3, hw3, b3⟩ => ⟨Nx, σ3, H3, pinsAt fp s2.heap, I3, hw3, b3, fun σ' H' s' I' hl hk nx => ?_⟩
    obtain ⟨m', lt, w'⟩ := hNx H' nx
    have held : ∀ b ∈ fp, ∀ o, s2.heap.get? b = some o → s'.heap.get? b = some o ∧ H' b = none := fun b hb o e => by
      have z := I'.pin (b, o) (List.mem_append_right _ (List.mem_append_right _ (mem_pinsAt hb e)))
      exact ⟨z.1, z.2.1⟩
    refine ⟨m', lt, i + 1, H', I'.unpinned.weak hl hk, T.keep _ _ _ st2 fun b hb o e => (held b hb o e).1, fun b hb => ?_, w'⟩
    obtain ⟨o, e, _⟩ := T.obj _ _ st2 b hb
    exact (held b hb o e).2
end
section
variable {X : Cx}
/-- {k: v for t0 in i0 for t1 in i1}: D is the new dict; vs: the block's names, vs1: those of the second target -/
def tDc2 (wi : TI) (g : TG) (wi1 : TI) (g1 : TG) (tk tv : TE) (vs vs1 : List Nat) : TE := fun σ H Q => wi σ H fun J H1 => ∀ D, H1 D = none → ∃ W : Nat → Nat → Hp → Prop, (∃ m, W 0 m (upd H1 D (.dK []))) ∧ ∀ i m H, W i m H →
  (J.stop i H ∧ Q (.ref D) H) ∨ (J.go i H ∧ ∃ Nx : Hp → Prop, (∀ H', Nx H' → ∃ m', m' < m ∧ W (i + 1) m' H') ∧ ∀ x H', J.yld i H x H' → g x (wipe σ vs) H' fun σ2 H2 => wipe σ2 vs = wipe σ vs ∧
    wi1 σ2 H2 fun J1 H3 => ∃ W1 : Nat → Nat → Hp → Prop, (∃ m1, W1 0 m1 H3) ∧ ∀ j k H, W1 j k H →
      (J1.stop j H ∧ Nx H) ∨ (J1.go j H ∧ ∃ Nx1 : Hp → Prop, (∀ H', Nx1 H' → ∃ k', k' < k ∧ W1 (j + 1) k' H') ∧ ∀ y H', J1.yld j H y H' → g1 y (wipe σ2 vs1) H' fun σ4 H4 => wipe σ4 vs1 = wipe σ2 vs1 ∧
        tk σ4 H4 fun u H5 => tv σ4 H5 fun z H6 => ∃ kvs key, u = kV key ∧ H6 D = some (.dK kvs) ∧ kvs.length < sizeLine ∧ Nx1 (upd H6 D (.dK (putK kvs key z)))))
theorem pe_dc2 {kx vx t0 i0 t1 i1 : Expr} {scope : Scope} {own : List (Str × Nat)} {vs1 : List Nat} {pos : Pos} {wi wi1 : TI} {g g1 : TG} {tk tv : TE} (hc : X.calm = true) (hN : X.N.Nodup) (hi : PI X t0 i0 wi) (ok : BlkOk X.N X.env.scope scope own) (hv : ∀ i ∈ vs1, i ∈ own.map (·.2))
    (hg : ∀ s H C cl fp, PG (X.blk s H scope (compEnvC scope cl C X.env) fp) t0 g) (hi1 : ∀ s H C cl fp, PI (X.blk s H scope (compEnvC scope cl C X.env) fp) t1 i1 wi1) (hg1 : ∀ s H C cl fp, PG (X.blk s H scope (compEnvC scope cl C X.env) fp) t1 g1)
    (hk : ∀ s H C cl fp, PE (X.blk s H scope (compEnvC scope cl C X.env) fp) kx tk) (he : ∀ s H C cl fp, PE (X.blk s H scope (compEnvC scope cl C X.env) fp) vx tv)
    (hs : ∀ x, foldedSetIterable i0 X.env x = pure x := by intro _; rfl) (hs1 : ∀ env x, foldedSetIterable i1 env x = pure x := by intro _ _; rfl) : PE X (.DictComp kx vx [⟨t0, i0, [], 0⟩, ⟨t1, i1, [], 0⟩] scope pos) (tDc2 wi g wi1 g1 tk tv (own.map (·.2)) vs1) := by
  constructor
  intro pins s σ H Q I h
  rw [arm_eval_DictComp]
  have hfree : ∀ y ∈ scope.names, y.2 = .free → ∃ c, X.env.cells.lookup y.1 = some c := fun y hy e => (ok.free y hy e).elim (fun k => I.ok.has _ (.inl k)) fun k => I.ok.has _ (.inr k)
  refine wpAny_comprehension_free rfl hs (closure_ok hfree) ok.kind (fun y hy e => by rw [ok.uniq y hy, e]) (thn (hi.run pins s σ H _ I h) fun xv s1 hx => thn hx fun itv s2 h2 => ?_)
  obtain ⟨it, fp, tn, J, H2, rfl, I2, T, st2, f2, q⟩ := h2
  refine wpAny_newObj_type (newEnv_comp ?_)
  obtain ⟨D, hD⟩ : ∃ D, D = s2.heap.objs.size := ⟨_, rfl⟩
  have hDn : H2 D = none := I2.hok.fresh (Nat.le_of_eq hD.symm)
  obtain ⟨W, ⟨m0, w0⟩, turn⟩ := q D hDn
  rw [← hD]
  obtain ⟨H3, hH3⟩ : ∃ H3, H3 = upd H2 D (.dK []) := ⟨_, rfl⟩
  obtain ⟨s3, hs3⟩ : ∃ s3 : Shared, s3 = { s2 with heap := s2.heap.push { cls := .type "dict", data := .dict #[] } } := ⟨_, rfl⟩
  have h3 : s3.heap = s2.heap.push { cls := .type "dict", data := .dict #[] } := by rw [hs3]
  have I3 : Inv X pins σ H3 s3 := by
    rw [hs3, hH3]
    refine I2.laid (t' := s2.toks) (fun b o e => Heap.get?_push_of_some _ e) (Nat.le_of_eq hD.symm) ?_
    rw [hD]
    exact dk_empty s2.heap I2.big
  have f3 : ∀ b ∈ fp, FpOk X pins H3 b ∧ b < s3.heap.objs.size := fun b hb => by
    obtain ⟨o, e, _⟩ := T.obj _ _ st2 b hb
    have lt := Heap.lt_size e
    refine ⟨⟨?_, (f2 b hb).2⟩, by rw [h3, Heap.size_push]; exact Nat.lt_succ_of_lt lt⟩
    rw [hH3, upd_ne (by rw [hD]; exact Nat.ne_of_lt lt)]
    exact (f2 b hb).1
  have st3 : tn 0 s3.heap := T.keep _ _ _ st2 fun b _ o e => by rw [h3]; exact Heap.get?_push_of_some _ e
  have I4 := block_start I3 ok hN f3
  rw [← hs3]
  rw [← hH3] at w0
  obtain ⟨ce, hce⟩ : ∃ ce, ce = compEnvC scope (cellsFrom (s3.heap.objs.size + 1) scope.names (cloFrom X.env.cells scope.names [])) s3.heap.objs.size X.env := ⟨_, rfl⟩
  have pg : PG (X.blk s3 H3 scope ce fp) t0 g := by rw [hce]; exact hg ..
  have pi1 : PI (X.blk s3 H3 scope ce fp) t1 i1 wi1 := by rw [hce]; exact hi1 ..
  have pg1 : PG (X.blk s3 H3 scope ce fp) t1 g1 := by rw [hce]; exact hg1 ..
  have pk : PE (X.blk s3 H3 scope ce fp) kx tk := by rw [hce]; exact hk ..
  have pv : PE (X.blk s3 H3 scope ce fp) vx tv := by rw [hce]; exact he ..
  have cL : ce.locals = s3.heap.objs.size := by rw [hce]; rfl
  rw [← hce] at I4
  show codeAny _ _ (.compStart (two kx vx t0 i0 t1 i1 scope pos) 0 (.ref it) (.ref D) (compEnvC scope (cellsFrom (s3.heap.objs.size + 1) scope.names (cloFrom X.env.cells scope.names [])) s3.heap.objs.size X.env)) _ _
  rw [← hce]
  obtain ⟨s4, hs4⟩ : ∃ s4 : Shared, s4 = { s3 with heap := pushCells (s3.heap.push { cls := .type "dict", data := .dict #[] }) scope.names } := ⟨_, rfl⟩
  rw [← hs4] at I4
  show codeAny _ _ _ _ { s3 with heap := pushCells (s3.heap.push { cls := .type "dict", data := .dict #[] }) scope.names }
  rw [← hs4]
  have st4 : tn 0 s4.heap := T.keep _ _ _ st3 fun b _ o e => by rw [hs4]; exact pushCells_keeps _ _ _ _ (Heap.get?_push_of_some _ e)
  have stat : ∀ {σ' : L2.St} {H' : Hp} {s' : Shared}, Inv (X.blk s3 H3 scope ce fp) [] σ' H' s' → (∀ b ∈ fp, H' b = none) → ∀ b ∈ fp, FpOk (X.blk s3 H3 scope ce fp) [] H' b := fun {σ' H' s'} J' hn b hb => by
    have z := J'.ok.exf b hb
    exact ⟨hn b hb, z.1, J'.ok.exfs b hb, .inl hb, fun x c e => z.2 x c e, fun p hp => by cases hp⟩
  have loop : codeAny (model X.prog X.w) X.A (.compLoop (two kx vx t0 i0 t1 i1 scope pos) 0 (.ref it) (.ref D) ce) (compPost (model X.prog X.w) X.A X.xe none (EP X pins σ Q) (.ref D) s3.heap.objs.size) s4 := by
    refine two_out (hs1 ce) (Sit (X.blk s3 H3 scope ce fp) [] (wipe σ (own.map (·.2))) tn fp W) (fun n s5 S5 => ?_) m0 ⟨0, H3, I4, st4, fun b hb => (f3 b hb).1.1, w0⟩
    refine thnF (sit_turn (Y := X.blk s3 H3 scope ce fp) (vs := own.map (·.2)) hc rfl T pg stat turn S5) fun r s6 h6 => ?_
    cases r with
    | none =>
      obtain ⟨H6, I6, qq⟩ := h6
      have I7 : Inv X pins σ H6 s6 := I3.call' (ch := fp) I6.os I6.base I6.hok I6.bare fun b hb => by
        obtain ⟨⟨_, g1, g2, g3, g4, g5⟩, _⟩ := f3 b hb
        exact ⟨g3, g1, g4, g5⟩
      have nC : H6 s3.heap.objs.size = none := by
        rw [← cL]
        exact I6.free
      obtain ⟨m, hn, _⟩ := I6.loc
      have hn : s6.heap.Ns ce.locals m := hn
      rw [cL] at hn
      obtain ⟨g0, g1, g2, g3, g4, g5⟩ := I3.fpOk (H' := H6) (Nat.le_refl _) nC
      exact ⟨m, hn, fun h'' sb => ⟨.ref D, H6, I7.turned (t' := s6.toks) (fun b o hb e => (sb.2 b hb).trans e) g0 g1 g3 g4 g5, rfl, qq⟩⟩
    | some v =>
      refine thnF h6 fun _ s7 h7 => thnF h7 fun _ s8 ⟨Nx, σ8, H8, ps, I8, hw8, b8, fin⟩ => ?_
      refine thnF (pi1.run _ s8 σ8 H8 _ I8 b8) fun x s9 hx9 => thnF hx9 fun j s10 ⟨it1, fp1, tn1, J1, H10, e1, I10, T1, st10, f10, W1, ⟨m1, w1⟩, turn1⟩ => ?_
      subst e1
      have l8 : (wipe σ (own.map (·.2))).length = σ8.length := by rw [← hw8, wipe_length]
      have loop1 : codeAny (model X.prog X.w) X.A (.compLoop (two kx vx t0 i0 t1 i1 scope pos) 1 (.ref it1) (.ref D) ce) (fun r s' => match r with
          | .ok _ => ∃ m, m < n ∧ Sit (X.blk s3 H3 scope ce fp) [] (wipe σ (own.map (·.2))) tn fp W m s'
          | .error _ => False) s10 := by
        refine two_in (Sit (X.blk s3 H3 scope ce fp) ([] ++ ps) (wipe σ8 vs1) tn1 fp1 W1) (fun k s11 S11 => ?_) m1 ⟨0, H10, I10.weak (wipe_length _ _) (fun _ _ e => (wipe_some e).1), st10, fun b hb => (f10 b hb).1, w1⟩
        refine thnF (sit_turn (Y := X.blk s3 H3 scope ce fp) (vs := vs1) hc rfl T1 pg1 (fun {_ _ _} _ hn b hb => ⟨hn b hb, (f10 b hb).2⟩) turn1 S11) fun r s12 h12 => ?_
        cases r with
        | none =>
          obtain ⟨H12, I12, nx⟩ := h12
          refine fin _ H12 s12 I12 (l8.trans (wipe_length σ8 vs1).symm) (fun j v e => ?_) nx
          rw [← hw8] at e
          obtain ⟨e2, e3⟩ := wipe_some e
          rw [wipe_out fun z => e3 (hv j z)]
          exact e2
        | some v1 =>
          refine thnF h12 fun _ s13 h13 => thnF h13 fun _ s14 ⟨Nx1, σ14, H14, ps1, I14, hw14, b14, fin1⟩ => ?_
          refine thnF (pk.run _ s14 σ14 H14 _ I14 b14) fun u s15 ⟨yk, H15, I15, r15, b15⟩ => thnF (pv.run _ s15 σ14 H15 _ I15 b15) fun z s16 ⟨yv, H16, I16, r16, kvs, key, ek, hD16, hz16, nx⟩ => ?_
          subst ek
          refine d_dictSet (X := X.blk s3 H3 scope ce fp) I16 hD16 hz16 r15 r16 fun s17 I17 => fin1 _ _ s17 I17 (by rw [← hw14, wipe_length]) (fun j v e => ?_) nx
          rw [← hw14] at e
          exact (wipe_some e).1
      exact two_start loop1 (T1.self X.A 0 _ _ _ st10 loop1)
  exact codeAny_compStart_dict loop (T.self X.A 0 _ _ _ st4 loop)
end
end SL
set_option Elab.async false
set_option linter.all false
set_option maxRecDepth 100000
set_option maxHeartbeats 8000000
namespace SL
open PySem PySem.Spec PyProof.Rows L2 GxR NdefX GA
/-- the rows of makers: the kind's name, the place, the maker -/
def mkN (m : PyData) : Str := strD (fstD m)
def kMk (d : PyData) : List PyData := itemsD (sndD d)
abbrev MRow := Str × Nat × PyData
def tag (kd : Str) (ms : List PyData) : List MRow := ms.zipIdx.map fun mp => (kd, mp.2, mp.1)
def rowsM (ks : List PyData) : List MRow := ks.flatMap fun k => tag (strD (fstD k)) (kMk k)
def namesM (rs : List MRow) : List Str := rs.map fun r => mkN r.2.2
theorem tag_snoc {kd : Str} {ms : List PyData} {j : Nat} {m : PyData} (h : ms[j]? = some m) : tag kd (ms.take (j + 1)) = tag kd (ms.take j) ++ [(kd, j, m)] := by
  have hj : j < ms.length := (List.getElem?_eq_some_iff.mp h).1
  unfold tag
  rw [List.take_add_one, h, Option.toList_some, List.zipIdx_append, List.map_append, List.length_take, Nat.zero_add, Nat.min_eq_left (Nat.le_of_lt hj)]
  rfl
theorem names_tag (kd : Str) (ms : List PyData) : namesM (tag kd ms) = ms.map mkN := by
  unfold namesM tag
  rw [List.map_map]
  have : ((fun r : MRow => mkN r.2.2) ∘ fun mp : PyData × Nat => (kd, mp.2, mp.1)) = mkN ∘ Prod.fst := rfl
  rw [this, ← List.map_map, List.zipIdx_map_fst]
theorem names_append (a b : List MRow) : namesM (a ++ b) = namesM a ++ namesM b := List.map_append
theorem rows_snoc {ks : List PyData} {i : Nat} {k : PyData} (h : ks[i]? = some k) : rowsM (ks.take (i + 1)) = rowsM (ks.take i) ++ tag (strD (fstD k)) (kMk k) := by
  unfold rowsM
  rw [List.take_add_one, h, Option.toList_some, List.flatMap_append]
  simp
theorem names_rows (ks : List PyData) : namesM (rowsM ks) = (ks.flatMap kMk).map mkN := by
  induction ks with
  | nil => rfl
  | cons k r ih =>
    show namesM (tag _ (kMk k) ++ rowsM r) = _
    rw [names_append, names_tag, ih, List.flatMap_cons, List.map_append]
/-- the names that stand ahead of a maker are unlike its own -/
theorem name_new {ks : List PyData} (hn : (namesM (rowsM ks)).Nodup) {i j : Nat} {k m : PyData} (hk : ks[i]? = some k) (hm : (kMk k)[j]? = some m) : mkN m ∉ namesM (rowsM (ks.take i) ++ tag (strD (fstD k)) ((kMk k).take j)) := by
  have e1 : rowsM ks = rowsM (ks.take (i + 1)) ++ rowsM (ks.drop (i + 1)) := by
    unfold rowsM
    rw [← List.flatMap_append, List.take_append_drop]
  have e2 : tag (strD (fstD k)) (kMk k) = tag (strD (fstD k)) ((kMk k).take (j + 1)) ++ (((kMk k).drop (j + 1)).zipIdx (j + 1)).map fun mp => (strD (fstD k), mp.2, mp.1) := by
    have lj : ((kMk k).take (j + 1)).length = j + 1 := by
      have hj := (List.getElem?_eq_some_iff.mp hm).1
      rw [List.length_take]
      omega
    have e : (kMk k).zipIdx = ((kMk k).take (j + 1)).zipIdx ++ ((kMk k).drop (j + 1)).zipIdx (j + 1) := by
      have := List.zipIdx_append (xs := (kMk k).take (j + 1)) (ys := (kMk k).drop (j + 1)) (k := 0)
      rw [List.take_append_drop, Nat.zero_add, lj] at this
      exact this
    unfold tag
    rw [e, List.map_append]
  rw [e1, rows_snoc hk, e2, tag_snoc hm] at hn
  intro z
  rw [List.append_assoc, List.append_assoc, List.append_assoc, names_append, names_append] at hn
  rw [names_append] at z
  have h1 := List.nodup_append.mp hn
  rcases List.mem_append.mp z with z | z
  · refine h1.2.2 _ z (mkN m) ?_ rfl
    exact List.mem_append_right _ (by show mkN m ∈ namesM ([(_, j, m)] ++ _); rw [names_append]; exact List.mem_append_left _ List.mem_cons_self)
  · refine (List.nodup_append.mp h1.2.1).2.2 _ z (mkN m) ?_ rfl
    show mkN m ∈ namesM ([(_, j, m)] ++ _)
    rw [names_append]
    exact List.mem_append_left _ List.mem_cons_self
/-- the dict's entries, one a row of makers -/
inductive Ents (M : List Addr) (H : Hp) : List (Key × V) → List MRow → Prop
  | nil : Ents M H [] []
  | cons {t : Addr} {fv : V} {kd : Str} {p : Nat} {m : PyData} {kvs : List (Key × V)} {rs : List MRow} : H t = some (.tup [.str kd, .int (p : Int), fv]) → t ∉ M → Dv M H fv (sndD m) → Ents M H kvs rs → Ents M H ((.inr (mkN m), .ref t) :: kvs) ((kd, p, m) :: rs)
section
variable {T M : List Addr} {H H' : Hp} {kvs kvs' : List (Key × V)} {rs rs' : List MRow}
theorem Ents.go (h : Ents M H kvs rs) (g : Go T M H H') : Ents M H' kvs rs := by
  induction h with
  | nil => exact .nil
  | cons e n d _ ih => exact .cons (g.tup e n) n (d.go g) ih
theorem Ents.less {M' : List Addr} (h : Ents M H kvs rs) (k : ∀ b ∈ M', b ∈ M) : Ents M' H kvs rs := by
  induction h with
  | nil => exact .nil
  | cons e n d _ ih => exact .cons e (fun z => n (k _ z)) (d.less k) ih
theorem Ents.append (h : Ents M H kvs rs) (k : Ents M H kvs' rs') : Ents M H (kvs ++ kvs') (rs ++ rs') := by
  induction h with
  | nil => exact k
  | cons e n d _ ih => exact .cons e n d ih
theorem Ents.length (h : Ents M H kvs rs) : kvs.length = rs.length := by
  induction h with
  | nil => rfl
  | cons _ _ _ _ ih => rw [List.length_cons, List.length_cons, ih]
theorem Ents.none (h : Ents M H kvs rs) {x : Str} (hx : x ∉ namesM rs) : valV kvs (.inr x) = none := by
  induction h with
  | nil => rfl
  | @cons t fv kd p m kvs rs e n d _ ih =>
    have h1 : mkN m ≠ x := fun z => hx (by rw [← z]; exact List.mem_cons_self)
    rw [valV_neg (fun z => h1 (Sum.inr.inj z))]
    exact ih fun z => hx (List.mem_cons_of_mem _ z)
theorem Ents.some (h : Ents M H kvs rs) {x : Str} (hx : x ∈ namesM rs) : ∃ kd p m t fv, (kd, p, m) ∈ rs ∧ mkN m = x ∧ valV kvs (.inr x) = some (.ref t) ∧ H t = some (.tup [.str kd, .int ((p : Nat) : Int), fv]) ∧ t ∉ M ∧ Dv M H fv (sndD m) := by
  induction h with
  | nil => cases hx
  | @cons t fv kd p m kvs rs e n d _ ih =>
    by_cases c : mkN m = x
    · exact ⟨kd, p, m, t, fv, List.mem_cons_self, c, by rw [valV_pos (by rw [c])], e, n, d⟩
    · have hx' : x ∈ namesM rs := by
        rcases List.mem_cons.mp (show x ∈ mkN m :: namesM rs from hx) with z | z
        · exact absurd z.symm c
        · exact z
      obtain ⟨kd', p', m', t', fv', h1, h2, h3, h4⟩ := ih hx'
      exact ⟨kd', p', m', t', fv', List.mem_cons_of_mem _ h1, h2, by rw [valV_neg (fun z => c (Sum.inr.inj z))]; exact h3, h4⟩
/-- the dict at D tells the makers of ks -/
def MkD (H : Hp) (D : Addr) (ks : List PyData) : Prop := ∃ kvs, H D = some (.dK kvs) ∧ Ents [] H kvs (rowsM ks)
theorem MkD.go {D : Addr} {ks : List PyData} (h : MkD H D ks) (g : Go T [] H H') : MkD H' D ks := by
  obtain ⟨kvs, e, en⟩ := h
  exact ⟨kvs, g.gr _ _ e List.not_mem_nil (fun _ z => by cases z), en.go g⟩
theorem MkD.get {D : Addr} {ks : List PyData} (h : MkD H D ks) {x : Str} (hx : x ∈ namesM (rowsM ks)) : ∃ kd p m t fv, (kd, p, m) ∈ rowsM ks ∧ mkN m = x ∧ DGet H D (.str x) (some (.ref t)) ∧ H t = some (.tup [.str kd, .int ((p : Nat) : Int), fv]) ∧ Dv [] H fv (sndD m) := by
  obtain ⟨kvs, e, en⟩ := h
  obtain ⟨kd, p, m, t, fv, h1, h2, h3, h4, _, h5⟩ := en.some hx
  refine ⟨kd, p, m, t, fv, h1, h2, ?_, h4, h5⟩
  have := DGet.k (k := (Sum.inr x : Key)) e
  rw [h3] at this
  exact this
theorem MkD.no {D : Addr} {ks : List PyData} (h : MkD H D ks) {x : Str} (hx : x ∉ namesM (rowsM ks)) : DGet H D (.str x) none := by
  obtain ⟨kvs, e, en⟩ := h
  have := DGet.k (k := (Sum.inr x : Key)) e
  rw [en.none hx] at this
  exact this
end
/-- names unlike: a name tells its row -/
theorem row_one {rs : List MRow} (h : (namesM rs).Nodup) {r r' : MRow} (h1 : r ∈ rs) (h2 : r' ∈ rs) (e : mkN r.2.2 = mkN r'.2.2) : r = r' := by
  induction rs with
  | nil => cases h1
  | cons a l ih =>
    obtain ⟨n1, n2⟩ := List.nodup_cons.mp (show (mkN a.2.2 :: namesM l).Nodup from h)
    have mem : ∀ {r : MRow}, r ∈ l → mkN r.2.2 ∈ namesM l := fun m => List.mem_map.mpr ⟨_, m, rfl⟩
    rcases List.mem_cons.mp h1 with z1 | z1
    · rcases List.mem_cons.mp h2 with z2 | z2
      · rw [z1, z2]
      · exact absurd (by rw [← z1, e]; exact mem z2) n1
    · rcases List.mem_cons.mp h2 with z2 | z2
      · exact absurd (by rw [← z2, ← e]; exact mem z1) n1
      · exact ih n2 z1 z2
theorem kinds_names {ks : List PyData} (h : kindsB (.tuple ks) = true) : (namesM (rowsM ks)).Nodup ∧ (∀ k ∈ ks, kindB k = true) ∧ ks.length ≤ 6 := by
  simp only [kindsB, Bool.and_eq_true] at h
  obtain ⟨⟨⟨⟨h1, h2⟩, _⟩, h4⟩, _⟩ := h
  refine ⟨?_, fun k hk => List.all_eq_true.mp h2 k hk, ?_⟩
  · rw [names_rows]
    unfold unl mnamesD at h4
    rw [List.map_map] at h4
    exact of_decide_eq_true h4
  · simp only [tupB, Bool.and_eq_true, decide_eq_true_eq] at h1
    omega
theorem kind_parts {k : PyData} (h : kindB k = true) : ∃ (x : Str) (ms : List PyData), k = .tuple [.str x, .tuple ms] ∧ 1 ≤ ms.length ∧ ms.length ≤ 6 ∧ ∀ m ∈ ms, makerB m = true := by
  simp only [kindB, Bool.and_eq_true] at h
  obtain ⟨⟨⟨h1, h2⟩, h3⟩, h4⟩ := h
  obtain ⟨x, y, rfl⟩ := tup2 h1
  obtain ⟨ms, e, l1, l2⟩ := tupOf h3
  have e : y = .tuple ms := e
  subst e
  cases x with
  | str x => exact ⟨x, ms, rfl, by omega, by omega, fun m hm => List.all_eq_true.mp h4 m hm⟩
  | _ => simp [fstD, highD] at h2
theorem maker_parts {m : PyData} (h : makerB m = true) : ∃ (x : Str) (fs : List PyData), m = .tuple [.str x, .tuple fs] ∧ fs.length ≤ 4 ∧ ∀ f ∈ fs, ∃ z, f = .str z := by
  simp only [makerB, Bool.and_eq_true] at h
  obtain ⟨⟨⟨h1, h2⟩, h3⟩, h4⟩ := h
  obtain ⟨x, y, rfl⟩ := tup2 h1
  obtain ⟨fs, e, l1, l2⟩ := tupOf h3
  have e : y = .tuple fs := e
  subst e
  cases x with
  | str x =>
    refine ⟨x, fs, rfl, by omega, fun f hf => ?_⟩
    have := List.all_eq_true.mp h4 f hf
    cases f with
    | str z => exact ⟨z, rfl⟩
    | _ => simp [isStr] at this
  | _ => simp [fstD, highD] at h2
theorem tag_len (kd : Str) (ms : List PyData) : (tag kd ms).length = ms.length := by
  unfold tag
  rw [List.length_map, List.length_zipIdx]
theorem rows_len : ∀ {ks : List PyData}, (∀ k ∈ ks, kindB k = true) → (rowsM ks).length ≤ 6 * ks.length
  | [], _ => Nat.zero_le _
  | k :: r, h => by
    have ih := rows_len fun x hx => h x (List.mem_cons_of_mem _ hx)
    obtain ⟨x, ms, rfl, _, h6, _⟩ := kind_parts (h k List.mem_cons_self)
    show (tag _ (kMk (.tuple [.str x, .tuple ms])) ++ rowsM r).length ≤ _
    rw [List.length_append, tag_len, List.length_cons]
    have : (kMk (.tuple [.str x, .tuple ms])).length = ms.length := rfl
    omega
end SL
namespace K3
open PySem PySem.Spec PyProof.Rows L2 GxR NdefX GA SL
abbrev s_demand_kinds : Stmt := top 22
abbrev s_makers_of : Stmt := top 24
abbrev s_kind_of : Stmt := top 25
abbrev s_fields_of : Stmt := top 26
theorem sc_demand_kinds : FnScope ["kinds"] ["kinds"] (defScope s_demand_kinds) := ⟨rfl, rfl, rfl, by decide +kernel, rfl, by decide +kernel, by decide +kernel⟩
theorem sc_makers_of : FnScope ["kinds", "kind", "makers", "place", "maker", "fields"] ["kinds"] (defScope s_makers_of) := ⟨rfl, rfl, rfl, by decide +kernel, rfl, by decide +kernel, by decide +kernel⟩
theorem sc_kind_of : FnScope ["makers", "maker"] ["makers", "maker"] (defScope s_kind_of) := ⟨rfl, rfl, rfl, by decide +kernel, rfl, by decide +kernel, by decide +kernel⟩
theorem sc_fields_of : FnScope ["makers", "maker"] ["makers", "maker"] (defScope s_fields_of) := ⟨rfl, rfl, rfl, by decide +kernel, rfl, by decide +kernel, by decide +kernel⟩
/-- an own error class of the module -/
structure Xc (K : PySem.W.Frag) (mg : Str → Option Value) (x : Str) (C : Addr) : Prop where
  g : mg x = some (.ref C)
  x : PySem.W.excIn K C [.type "ValueError", .type "Exception", .type "BaseException", .type "object"] "ValueError.__new__" = true
  k : PySem.W.keepIn K (.ref C) = true
  b : PySem.W.subIn K (.ref C) (.type "BaseException") = some true
  t : PySem.W.typeIn K (.ref C) = some (.type "type")
theorem ps_raiseX {X : Cx} {W : WX} {C : Addr} {x m : Str} {j : Nat} {p p2 pos pos2 : Pos} (hc : X.calm = true) (T : Xc X.K X.mg x C) (tk : Takes X W) (hg : Gl X x := by rfl) (hdb : (x == ("__debug__" : Str)) = false := by decide) :
    PS X (.Raise (some (.Call (.Name x p) [.Constant (.str m) j p2] [] pos)) none pos2) (fun _ σ H => W (.ref C) none σ H) := ps_raise hc tk (pmk_own PySem.F.excBase_ValueError T.x T.g T.k (raises_own T.b T.t) hg hdb)
def sp_demand_kinds (T : List Addr) : Sp := fun vs H Q _ => ∃ (v : V) (d : PyData), vs = [v] ∧ Dv [] H v d ∧ kindsB d = true ∧ wt d ≤ 4000000 ∧ Tabs T H ∧ ∀ H', Go T [] H H' → Tabs T H' → Q .non H'
def sp_makers_of (T : List Addr) : Sp := fun vs H Q _ => ∃ (v : V) (ks : List PyData), vs = [v] ∧ Dv [] H v (.tuple ks) ∧ kindsB (.tuple ks) = true ∧ Tabs T H ∧ ∀ D H', H D = none → MkD H' D ks → Go T [] H H' → Tabs T H' → Q (.ref D) H'
def sp_kind_of : Sp := fun vs H Q _ => ∃ (D : Addr) (x : Str) (ks : List PyData), vs = [.ref D, .str x] ∧ MkD H D ks ∧ x ∈ namesM (rowsM ks) ∧ ∀ kd p m, (kd, p, m) ∈ rowsM ks → mkN m = x → Q (.str kd) H
def sp_fields_of : Sp := fun vs H Q _ => ∃ (D : Addr) (x : Str) (ks : List PyData), vs = [.ref D, .str x] ∧ MkD H D ks ∧ x ∈ namesM (rowsM ks) ∧ ∀ kd p m fv, (kd, p, m) ∈ rowsM ks → mkN m = x → Dv [] H fv (sndD m) → Q fv H
section
variable {P : Program} {w : World} {K : PySem.W.Frag} {mg : Str → Option Value} {base : Heap} {f c CK CR : Addr} {fd : FuncData} {T : List Addr}
theorem ok_demand_kinds (F : Fun K "demand_kinds" "demand_kinds" s_demand_kinds f fd) (XK' : Xc K mg "BadKinds" CK) (Fk : Fnn P w K mg base CX0 9 "is_kinds" ["thing"] (sp_look T kindsB)) : FnOk P w K mg base CX0 10 f fd ["kinds"] (sp_demand_kinds T) := by
  refine F.ok sc_demand_kinds (fun vs H Q E h => ?_) (fun cdv A outer s H vs Q E hr h => ?_)
  · obtain ⟨_, _, rfl, _⟩ := h
    rfl
  obtain ⟨v, d, rfl, hv, hk, hw, ht, q⟩ := h
  refine ⟨_, pss_one (ps_if (pt_not (pt_val (pe_fn Fk hr (by decide) pass0 (pa_cons (pv 0) pa_nil)))) (pss_one (ps_raiseX rfl XK' LamX.takes0)) pss_nil), ?_⟩
  refine ⟨_, rfl, [], v, d, rfl, hv, hw, ht, fun H' g' t' => ⟨_, rfl, ?_⟩⟩
  rw [hk]
  exact iteF (q H' g' t')
theorem ok_kind_of (F : Fun K "kind_of" "kind_of" s_kind_of f fd) : FnOk P w K mg base CX0 1 f fd ["makers", "maker"] sp_kind_of := by
  refine F.ok sc_kind_of (fun vs H Q E h => ?_) (fun cdv A outer s H vs Q E hr h => ?_)
  · obtain ⟨_, _, _, rfl, _⟩ := h
    rfl
  obtain ⟨D, x, ks, rfl, hD, hx, q⟩ := h
  have hu : (A.deeper (envOfC "kind_of" (defScope s_kind_of) s.heap.objs.size f cdv)).units + 1 < cLine := by
    have := hr.un
    omega
  refine ⟨_, pss_one (ps_ret (pe_ix ix_tup (pe_dget hu (pv 0) (pv 1) (fun _ _ => rfl)) pe_int (fun _ _ => rfl))), ?_⟩
  obtain ⟨kd, p, m, t, fv, h1, h2, h3, h4, h5⟩ := hD.get hx
  exact ⟨_, rfl, _, rfl, D, _, rfl, h3, t, _, 0, _, rfl, rfl, SqT.of h4, atI_nat (j := 0) rfl, q kd p m h1 h2⟩
theorem ok_fields_of (F : Fun K "fields_of" "fields_of" s_fields_of f fd) : FnOk P w K mg base CX0 1 f fd ["makers", "maker"] sp_fields_of := by
  refine F.ok sc_fields_of (fun vs H Q E h => ?_) (fun cdv A outer s H vs Q E hr h => ?_)
  · obtain ⟨_, _, _, rfl, _⟩ := h
    rfl
  obtain ⟨D, x, ks, rfl, hD, hx, q⟩ := h
  have hu : (A.deeper (envOfC "fields_of" (defScope s_fields_of) s.heap.objs.size f cdv)).units + 1 < cLine := by
    have := hr.un
    omega
  refine ⟨_, pss_one (ps_ret (pe_ix ix_tup (pe_dget hu (pv 0) (pv 1) (fun _ _ => rfl)) pe_int (fun _ _ => rfl))), ?_⟩
  obtain ⟨kd, p, m, t, fv, h1, h2, h3, h4, h5⟩ := hD.get hx
  exact ⟨_, rfl, _, rfl, D, _, rfl, h3, t, _, 2, _, rfl, rfl, SqT.of h4, atI_nat (j := 2) rfl, q kd p m fv h1 h2 h5⟩
theorem ok_makers_of (F : Fun K "makers_of" "makers_of" s_makers_of f fd) (he : mg "enumerate" = none) : FnOk P w K mg base CX0 1 f fd ["kinds"] (sp_makers_of T) := by
  have nd := sc_makers_of.nd
  refine F.ok sc_makers_of (fun vs H Q E h => ?_) (fun cdv A outer s H vs Q E hr h => ?_)
  · obtain ⟨_, _, rfl, _⟩ := h
    rfl
  obtain ⟨v, ks, rfl, hv, hk, ht, q⟩ := h
  refine ⟨_, pss_one (ps_ret (pe_dc2 (g := gTup K 2 (gCons (gName 1) (gCons (gName 2) gNil))) (wi1 := iEnumT K (tCons (tVar 2) tNil)) (g1 := gTup K 2 (gCons (gName 3) (gCons (gTup K 2 (gCons (gName 4) (gCons (gName 5) gNil))) gNil))) (own := [("kind", 1), ("makers", 2), ("place", 3), ("maker", 4), ("fields", 5)]) (vs1 := [3, 4, 5]) rfl nd (pi_tup (pv 0)) (blkOk_by (own := [("kind", 1), ("makers", 2), ("place", 3), ("maker", 4), ("fields", 5)]) (N := ["kinds", "kind", "makers", "place", "maker", "fields"]) (sc := defScope s_makers_of) (by decide +kernel)) (by decide) (fun _ _ _ _ _ => pg_tup rfl (pgs_cons (pg_name (i := 1) nd rfl (Or.inl rfl)) (pgs_cons (pg_name (i := 2) nd rfl (Or.inl rfl)) pgs_nil))) (fun _ _ _ _ _ => pi_enumT he (pa_cons (pv 2) pa_nil)) (fun _ _ _ _ _ => pg_tup rfl (pgs_cons (pg_name (i := 3) nd rfl (Or.inl rfl)) (pgs_cons (pg_tup rfl (pgs_cons (pg_name (i := 4) nd rfl (Or.inl rfl)) (pgs_cons (pg_name (i := 5) nd rfl (Or.inl rfl)) pgs_nil))) pgs_nil))) (fun _ _ _ _ _ => pv 4) (fun _ _ _ _ _ => pe_tup (pa_cons (pv 1) (pa_cons (pv 3) (pa_cons (pv 5) pa_nil)))))), ?_⟩
  obtain ⟨nu, hkb, hk6⟩ := kinds_names hk
  obtain ⟨a, xs, rfl, ea, _, dv⟩ := dv_tup hv
  refine ⟨_, rfl, a, rfl, ⟨_, SqT.of ea⟩, fun D hD => ?_⟩
  have lx := dv.length
  have dvD := dv.hide hD
  refine ⟨fun i m H' => m = xs.length - i ∧ i ≤ xs.length ∧ Go T [] H H' ∧ ∃ kvs, H' D = some (.dK kvs) ∧ Ents [D] H' kvs (rowsM (ks.take i)), ⟨xs.length, rfl, Nat.zero_le _, Go.new hD, [], upd_same, .nil⟩, ?_⟩
  rintro i m H' ⟨rfl, hi, gg, kvs, eD, en⟩
  have sq : SqT K H' a xs := SqT.of (gg.tup ea List.not_mem_nil)
  by_cases hlt : i < xs.length
  · refine .inr ⟨⟨xs, xs[i], sq, by simp [hlt]⟩, fun H2 => Go T [] H H2 ∧ ∃ kvs, H2 D = some (.dK kvs) ∧ Ents [D] H2 kvs (rowsM (ks.take (i + 1))), fun H2 ⟨h1, h2⟩ => ⟨xs.length - (i + 1), by omega, rfl, hlt, h1, h2⟩, fun x H2 y => ?_⟩
    obtain ⟨rfl, y⟩ := y
    obtain ⟨k, ek, hx⟩ := dvD.get (y xs sq)
    have hkk := hkb k (List.mem_of_getElem? ek)
    obtain ⟨kn, ms, rfl, m1, m6, hmm⟩ := kind_parts hkk
    obtain ⟨p, vx, vy, rfl, ep, np, hvx, hvy⟩ := dv_pair hx
    cases hvx
    obtain ⟨b, ys, rfl, eb, nb, dy⟩ := dv_tup hvy
    have ly := dy.length
    refine ⟨p, _, rfl, SqT.of (gg.tup ep List.not_mem_nil), rfl, _, _, rfl, _, _, rfl, rfl, rfl, _, rfl, b, ys, rfl, SqT.of (gg.tup eb List.not_mem_nil), ?_⟩
    refine ⟨fun j m H3 => m = ys.length - j ∧ j ≤ ys.length ∧ Go T [] H H3 ∧ ∃ kvs, H3 D = some (.dK kvs) ∧ Ents [D] H3 kvs (rowsM (ks.take i) ++ tag kn (ms.take j)), ⟨ys.length, rfl, Nat.zero_le _, gg, kvs, eD, by simpa [tag] using en⟩, ?_⟩
    rintro j m H3 ⟨rfl, hj, g3, kv3, eD3, en3⟩
    have sq3 : SqT K H3 b ys := SqT.of (g3.tup eb List.not_mem_nil)
    by_cases hjt : j < ys.length
    · refine .inr ⟨⟨ys, ys[j], sq3, by simp [hjt]⟩, fun H4 => Go T [] H H4 ∧ ∃ kvs, H4 D = some (.dK kvs) ∧ Ents [D] H4 kvs (rowsM (ks.take i) ++ tag kn (ms.take (j + 1))), fun H4 ⟨h1, h2⟩ => ⟨ys.length - (j + 1), by omega, rfl, hjt, h1, h2⟩, fun z H4 z' => ?_⟩
      obtain ⟨t1, zx, rfl, ht1, rfl, z'⟩ := z'
      obtain ⟨md, em, hz⟩ := dy.get (z' ys sq3)
      have hmd := hmm md (List.mem_of_getElem? em)
      obtain ⟨mn, fs, rfl, f4, hfs⟩ := maker_parts hmd
      obtain ⟨q1, wx, wy, rfl, eq1, nq1, hwx, hwy⟩ := dv_pair hz
      cases hwx
      have u1 := Go.new (T := T) (M := [D]) (o := .tup [.int (j : Nat), .ref q1]) ht1
      have u1' := Go.new (T := T) (M := []) (o := .tup [.int (j : Nat), .ref q1]) ht1
      have eq3 := u1'.tup (g3.tup eq1 List.not_mem_nil) List.not_mem_nil
      refine ⟨t1, _, rfl, SqT.of upd_same, rfl, _, _, rfl, _, _, rfl, q1, _, rfl, SqT.of eq3, rfl, _, _, rfl, _, _, rfl, rfl, rfl, rfl, _, rfl, _, rfl, _, rfl, _, rfl, by show 3 ≤ sizeLine; decide, fun t2 ht2 => ?_⟩
      have u2 := Go.new (T := T) (M := [D]) (o := .tup [.str kn, .int (j : Nat), wy]) ht2
      have u2' := Go.new (T := T) (M := []) (o := .tup [.str kn, .int (j : Nat), wy]) ht2
      have tD : D ≠ t2 := ne_of_none (u1'.gr _ _ eD3 List.not_mem_nil fun _ z => by cases z) ht2
      have eD4 := u2'.gr _ _ (u1'.gr _ _ eD3 List.not_mem_nil fun _ z => by cases z) List.not_mem_nil fun _ z => by cases z
      have hmj : (kMk (.tuple [.str kn, .tuple ms]))[j]? = some (.tuple [.str mn, .tuple fs]) := em
      have fresh := name_new nu ek hmj
      have none_ : valV kv3 (.inr mn) = none := en3.none fresh
      have le := en3.length
      refine ⟨kv3, .inr mn, rfl, eD4, ?_, ((g3.trans u1').trans u2').over hD eD4 (fun _ z => by cases z), kv3 ++ [(.inr mn, .ref t2)], ?_, ?_⟩
      · have l1 : (rowsM (ks.take i) ++ tag kn (ms.take j)).length ≤ 36 := by
          have a1 := rows_len (ks := ks.take i) fun k hk' => hkb k (List.mem_of_mem_take hk')
          rw [List.length_append, tag_len, List.length_take]
          rw [List.length_take] at a1
          omega
        rw [le, sizeLine_eq]
        omega
      · rw [upd_same, putK_new _ none_]
      · rw [tag_snoc em, ← List.append_assoc]
        have gS := Go.set (T := T) (M := [D]) (o := .dK (putK kv3 (.inr mn) (.ref t2))) eD4 (fun _ z => by cases z) List.mem_cons_self
        refine Ents.append (((en3.go u1).go u2).go gS) (.cons (fv := wy) (m := .tuple [.str mn, .tuple fs]) ?_ (by simpa using tD.symm) ?_ .nil)
        · rw [upd_ne tD.symm]
          exact upd_same
        · exact ((((hwy.go (g3.of0 : Go T [D] H H3)).go u1).go u2)).go gS
    · have e : j = ys.length := by omega
      subst e
      refine .inl ⟨⟨ys, sq3, Nat.le_refl _⟩, g3, kv3, eD3, ?_⟩
      rw [ly, List.take_length] at en3
      rw [rows_snoc ek]
      exact en3
  · have e : i = xs.length := by omega
    subst e
    rw [lx, List.take_length] at en
    exact .inl ⟨⟨xs, sq, Nat.le_refl _⟩, q D H' hD ⟨kvs, eD, en.less (by simp)⟩ gg (gg.tb ht)⟩
end
end K3
set_option Elab.async false
set_option linter.all false
set_option maxRecDepth 100000
set_option maxHeartbeats 4000000
/-! own words, 21: xs.extend(t), t a tuple; walks of zip over tuples -/
namespace SL
open PySem PySem.Spec PyProof.Rows L2 GxR NdefX GA RZ
set_option maxRecDepth 8000 in
theorem ext_tup (l b : Addr) (us vs : Array Value) (n n2 : Nat) (dd : Option Addr) (ss : Array (Option Value)) (c0 : ¬(!us.isEmpty && Builtin.List.listTooLong (us.size + vs.size)) = true) (c1 : us.size ≤ sizeLine) (c2 : us.size + vs.size ≤ sizeLine + 1) :
    Meets (Builtin.«list.extend» ⟨[.ref l, .ref b], []⟩) (fun _ G t => t.heap.get? l = some { cls := .type "list", dict := none, data := .seq us n, slots := #[] } ∧ t.heap.get? b = some { cls := .type "tuple", dict := dd, data := .seq vs n2, slots := ss } ∧
      G (.ok (.ret Value.none)) { t with heap := t.heap.update l (Obj.mapSeq fun x => x ++ vs), toks := t.toks }) :=
  .of_wp fun pr wd ar G t z => by
    obtain ⟨hh, gg, dr, to, oo⟩ := t
    obtain ⟨hl, hb, z⟩ := z
    have z1 := AutoSeq1.idx_int
    have z2 := AutoSeq1.sub_tuple_tuple
    have z3 := AutoSeq1.sub_list_list
    have z4 := AutoSeq1.sub_tuple_list
    have z5 := AutoSeq1.sub_list_tuple
    have zz : (us ++ vs).size ≤ sizeLine + 1 := by rw [Array.size_append]; exact c2
    wp_walk using (wpAny_updateSeq hl rfl (hz := c1) (_hz' := zz)), AutoSeq1.wpAny_loadPart' hl, AutoSeq1.wpAny_loadPart' hb
    exact ⟨_, rfl, z⟩
def rExtT (K : PySem.W.Frag) : V → List V → Hp → VK → Prop := fun x vs H Q => ∃ l b xs zs, x = .ref l ∧ vs = [.ref b] ∧ H l = some (.lst xs) ∧ SqT K H b zs ∧ xs.length + zs.length ≤ sizeLine ∧ Q .non (upd H l (.lst (xs ++ zs)))
theorem mt_extT {X : Cx} : MtM X "list.extend" (rExtT X.K) := by
  intro pins s σ H x vs v us Q I rx rv h
  obtain ⟨l, b, xs, zs, rfl, rfl, hl, hb, hz, q⟩ := h
  cases rx
  obtain ⟨u, rfl, ru⟩ := rv.one
  cases ru
  obtain ⟨_, its, n, r, el, e⟩ := I.lstM hl
  obtain ⟨its2, r2, ⟨⟨cls, dd, data, ss⟩, e2, hc, n2, hd⟩, _⟩ := I.tuple hb
  simp only at hc hd
  subst hc hd
  have l2 := r2.length
  have sz : its.toArray.size + its2.toArray.size ≤ sizeLine := by
    rw [List.size_toArray, List.size_toArray]
    omega
  have long : ¬(!its.toArray.isEmpty && Builtin.List.listTooLong (its.toArray.size + its2.toArray.size)) = true := by
    rw [notLongL sz, Bool.and_false]
    exact Bool.false_ne_true
  refine call_meets F.slot_list_extend ⟨_, e, rfl⟩ F.entry_list_extend (F.args_list_extend_2 _ _) (ext_tup l b its.toArray its2.toArray n n2 dd ss long (by rw [List.size_toArray]; omega) (by omega)) ⟨e, e2, ?_⟩
  refine ⟨.non, _, I.lset (its' := its ++ its2) hl e (by simp) (r.append r2) ?_, rfl, q⟩
  rw [List.length_append]
  omega
/-- the walk of zip over two tuples of one length -/
theorem walkZ {K : PySem.W.Frag} {a b : Addr} {xs ys : List V} (hl : xs.length = ys.length) : Walk (ItzT K a b) xs.length (fun H => SqT K H a xs ∧ SqT K H b ys) (fun i H v G => ∃ p x y, v = .ref p ∧ H p = none ∧ G = upd H p (.tup [x, y]) ∧ xs[i]? = some x ∧ ys[i]? = some y) := by
  refine ⟨fun i H hi q => ?_, fun H q => ⟨xs, ys, q.1, q.2, .inl (Nat.le_refl _)⟩, fun i H v G hi q z => ?_⟩
  · exact ⟨xs, ys, xs[i], ys[i]'(by omega), q.1, q.2, by simp [hi], by simp [show i < ys.length by omega]⟩
  · obtain ⟨p, x, y, e1, e2, e3, e4, e5⟩ := z
    exact ⟨p, x, y, e1, e2, e3, e4 xs q.1, e5 ys q.2⟩
end SL
set_option Elab.async false
set_option linter.all false
set_option maxRecDepth 100000
set_option maxHeartbeats 8000000
namespace SL
open PySem PySem.Spec PyProof.Rows L2 GxR NdefX GA RZ
/-- all(test for field, entry in zip(a, b)), each test true; one slot of the maker's -/
theorem all_zip {T : List Addr} {H : Hp} {K : PySem.W.Frag} {a b P : Addr} {te : TE} {Q : VK} {xs ys : List V} {c : V} (hl : xs.length = ys.length) (hx : H a = some (.tup xs)) (hy : H b = some (.tup ys)) (ht : Tabs T H) (hP : P ∈ T)
    (hb : ∀ (i : Nat) (x y : V) (H' : Hp) (R : VK), xs[i]? = some x → ys[i]? = some y → Go T [] H H' → Tabs T H' → (∀ G, Go T [] H' G → R (.bl true) G) → te [some c, some x, some y] H' R)
    (hq : ∀ G, Go T [] H G → Tabs T G → Q (.bl true) G) :
    TabG H P ∧ ∀ H2, Tabbed P H H2 → ∃ W, (∃ m, W 0 m [some c, none, none] H2) ∧ GTurn (ItzT K a b) (gTup K 2 (gCons (gName 1) (gCons (gName 2) gNil))) te W (fun G => Q (.bl (!false)) G) (KB false W fun z G => Q (.bl z) G) := by
  refine ⟨ht P hP, fun H2 tb => ?_⟩
  have g2 : Go T [] H H2 := Go.tbd (ht P hP) tb
  have w := walkZ (K := K) (a := a) (b := b) hl
  refine ⟨fun i m σ G => m = xs.length - i ∧ i ≤ xs.length ∧ Go T [] H G ∧ ∃ p q, σ = [some c, p, q], ⟨xs.length, rfl, Nat.zero_le _, g2, none, none, rfl⟩, ?_⟩
  rintro i m σ G ⟨rfl, hi, gg, p, q, rfl⟩
  have sa : SqT K G a xs := SqT.of (gg.tup hx List.not_mem_nil)
  have sb : SqT K G b ys := SqT.of (gg.tup hy List.not_mem_nil)
  by_cases hlt : i < xs.length
  · refine .inr ⟨w.goes i G hlt ⟨sa, sb⟩, by omega, fun v G2 z => ?_⟩
    obtain ⟨t, x, y, rfl, hn, rfl, ex, ey⟩ := w.yields i G v G2 hlt ⟨sa, sb⟩ z
    have u := Go.new (T := T) (M := []) (o := .tup [x, y]) hn
    refine ⟨t, _, rfl, SqT.of upd_same, rfl, _, _, rfl, _, _, rfl, rfl, hb i x y _ _ ex ey (gg.trans u) ((gg.trans u).tb ht) fun G3 g3 => ⟨true, rfl, ?_⟩⟩
    rw [if_neg (by simp)]
    exact ⟨xs.length - (i + 1), by omega, rfl, hlt, (gg.trans u).trans g3, _, _, rfl⟩
  · have e : i = xs.length := by omega
    subst e
    exact .inl ⟨w.stops G ⟨sa, sb⟩, hq G gg (gg.tb ht)⟩
theorem of_ints {M : List Addr} {H : Hp} : ∀ {vs : List V} {zs : List Int}, DvAll M H vs (zs.map PyData.int) → vs = zs.map V.int
  | [], [], _ => rfl
  | _ :: _, _ :: _, .cons h t => by
    cases h
    rw [of_ints t] <;> rfl
/-- what the fields of a maker are -/
def flds (m : PyData) : List Str := (itemsD (sndD m)).map strD
theorem str_list : ∀ {fs : List PyData}, (∀ f ∈ fs, ∃ z, f = .str z) → fs = (fs.map strD).map PyData.str
  | [], _ => rfl
  | f :: r, h => by
    obtain ⟨z, rfl⟩ := h f List.mem_cons_self
    rw [List.map_cons, List.map_cons, ← str_list fun y hy => h y (List.mem_cons_of_mem _ hy)]
    rfl
theorem flds_dv {M : List Addr} {H : Hp} {fv : V} {m : PyData} (hm : makerB m = true) (h : Dv M H fv (sndD m)) : ∃ a, fv = .ref a ∧ H a = some (.tup ((flds m).map V.str)) ∧ a ∉ M ∧ (flds m).length ≤ 4 := by
  obtain ⟨x, fs, rfl, l, hf⟩ := maker_parts hm
  obtain ⟨a, vs, rfl, e, n, d⟩ := dv_tup h
  rw [str_list hf] at d
  rw [d.of_strs] at e
  exact ⟨a, rfl, e, n, by show (fs.map strD).length ≤ 4; rw [List.length_map]; exact l⟩
/-- entries that fit the fields, sorts being the kinds of the rows ahead -/
def fitE (sorts : List Str) (f : Str) (z : Int) : Prop := f = "number" ∨ ∃ n : Nat, z = (n : Int) ∧ sorts[n]? = some f
/-- all(test for field, entry in zip(a, b)); b the truth of each -/
theorem all_zipB {T : List Addr} {H : Hp} {K : PySem.W.Frag} {a b P : Addr} {te : TE} {Q : VK} {xs ys : List V} {c : V} {t : Nat → Bool} (hl : xs.length = ys.length) (hx : H a = some (.tup xs)) (hy : H b = some (.tup ys)) (ht : Tabs T H) (hP : P ∈ T)
    (hb : ∀ (i : Nat) (x y : V) (H' : Hp) (R : VK), xs[i]? = some x → ys[i]? = some y → Go T [] H H' → Tabs T H' → (∀ G, Go T [] H' G → R (.bl (t i)) G) → te [some c, some x, some y] H' R)
    (hq : ∀ G, Go T [] H G → Tabs T G → Q (.bl ((List.range xs.length).all t)) G) :
    TabG H P ∧ ∀ H2, Tabbed P H H2 → ∃ W, (∃ m, W 0 m [some c, none, none] H2) ∧ GTurn (ItzT K a b) (gTup K 2 (gCons (gName 1) (gCons (gName 2) gNil))) te W (fun G => Q (.bl (!false)) G) (KB false W fun z G => Q (.bl z) G) := by
  refine ⟨ht P hP, fun H2 tb => ?_⟩
  have g2 : Go T [] H H2 := Go.tbd (ht P hP) tb
  have w := walkZ (K := K) (a := a) (b := b) hl
  refine ⟨fun i m σ G => m = xs.length - i ∧ i ≤ xs.length ∧ Go T [] H G ∧ (∀ j, j < i → t j = true) ∧ ∃ p q, σ = [some c, p, q], ⟨xs.length, rfl, Nat.zero_le _, g2, (fun j h => absurd h (Nat.not_lt_zero j)), none, none, rfl⟩, ?_⟩
  rintro i m σ G ⟨rfl, hi, gg, al, p, q, rfl⟩
  have sa : SqT K G a xs := SqT.of (gg.tup hx List.not_mem_nil)
  have sb : SqT K G b ys := SqT.of (gg.tup hy List.not_mem_nil)
  by_cases hlt : i < xs.length
  · refine .inr ⟨w.goes i G hlt ⟨sa, sb⟩, by omega, fun v G2 z => ?_⟩
    obtain ⟨r, x, y, rfl, hn, rfl, ex, ey⟩ := w.yields i G v G2 hlt ⟨sa, sb⟩ z
    have u := Go.new (T := T) (M := []) (o := .tup [x, y]) hn
    refine ⟨r, _, rfl, SqT.of upd_same, rfl, _, _, rfl, _, _, rfl, rfl, hb i x y _ _ ex ey (gg.trans u) ((gg.trans u).tb ht) fun G3 g3 => ⟨t i, rfl, ?_⟩⟩
    cases e : t i with
    | true =>
      rw [if_neg (by simp)]
      refine ⟨xs.length - (i + 1), by omega, rfl, hlt, (gg.trans u).trans g3, fun j hj => ?_, _, _, rfl⟩
      rcases Nat.lt_or_ge j i with h | h
      · exact al j h
      · have : j = i := by omega
        rw [this, e]
    | false =>
      rw [if_pos rfl]
      have : (List.range xs.length).all t = false := by
        rw [List.all_eq_false]
        exact ⟨i, List.mem_range.mpr hlt, by rw [e]; simp⟩
      rw [← this]
      exact hq G3 ((gg.trans u).trans g3) (((gg.trans u).trans g3).tb ht)
  · have e : i = xs.length := by omega
    subst e
    have : (List.range xs.length).all t = true := List.all_eq_true.mpr fun j hj => al j (List.mem_range.mp hj)
    refine .inl ⟨w.stops G ⟨sa, sb⟩, ?_⟩
    have qq := hq G gg (gg.tb ht)
    rw [this] at qq
    exact qq
/-- a def of which no exception is wished -/
theorem FnOk.to0 {P : Program} {w : World} {K : PySem.W.Frag} {mg : Str → Option Value} {base : Heap} {k : Nat} {f : Addr} {fd : FuncData} {ps : List Str} {sp : Sp} (F : FnOk P w K mg base (L2.CX P w) k f fd ps sp) : FnOk P w K mg base CX0 k f fd ps (fun vs H Q _ => sp vs H Q E0) :=
  ⟨fun vs H Q E h => F.len _ _ _ _ h, fun A outer s H args us vs Q E hr e b v h => codeAny_mono (F.run A outer s H args us vs Q E0 hr e b v h) fun r s' hq => by
    cases r with
    | ok fl => cases fl <;> exact hq
    | error e =>
      obtain ⟨_, _, _, _, _, _, _, _, _, _, _, _, z⟩ := hq
      exact False.elim z⟩
theorem FnOk.toX {P : Program} {w : World} {K : PySem.W.Frag} {mg : Str → Option Value} {base : Heap} {k : Nat} {f : Addr} {fd : FuncData} {ps : List Str} {sp : Sp} (F : FnOk P w K mg base CX0 k f fd ps sp) : FnOk P w K mg base (L2.CX P w) k f fd ps sp :=
  ⟨F.len, fun A outer s H args us vs Q E hr e b v h => codeAny_mono (F.run A outer s H args us vs Q E hr e b v h) fun r s' hq => by
    cases r with
    | ok fl => cases fl <;> exact hq
    | error e => exact False.elim hq⟩
end SL
namespace K3
open PySem PySem.Spec PyProof.Rows L2 GxR NdefX GA SL RZ
abbrev s_is_integer : Stmt := top 3
abbrev s_is_entry : Stmt := top 32
abbrev s_is_row : Stmt := top 31
abbrev s_is_rows : Stmt := top 19
abbrev s_demand_rows : Stmt := top 23
theorem sc_is_integer : FnScope ["thing"] ["thing"] (defScope s_is_integer) := ⟨rfl, rfl, rfl, by decide +kernel, rfl, by decide +kernel, by decide +kernel⟩
theorem sc_is_entry : FnScope ["kinds_ahead", "field", "entry"] ["kinds_ahead", "field", "entry"] (defScope s_is_entry) := ⟨rfl, rfl, rfl, by decide +kernel, rfl, by decide +kernel, by decide +kernel⟩
theorem sc_is_row : FnScope ["makers", "kinds_ahead", "thing", "maker", "entries", "fields"] ["makers", "kinds_ahead", "thing"] (defScope s_is_row) := ⟨rfl, rfl, rfl, by decide +kernel, rfl, by decide +kernel, by decide +kernel⟩
theorem sc_is_rows : FnScope ["kinds", "thing", "makers", "kinds_ahead", "row"] ["kinds", "thing"] (defScope s_is_rows) := ⟨rfl, rfl, rfl, by decide +kernel, rfl, by decide +kernel, by decide +kernel⟩
theorem sc_demand_rows : FnScope ["kinds", "rows"] ["kinds", "rows"] (defScope s_demand_rows) := ⟨rfl, rfl, rfl, by decide +kernel, rfl, by decide +kernel, by decide +kernel⟩
/-! ### rows, judged -/
def intB (e : PyData) : Bool := isInt e && !isBool e
/-- the first row of a maker's name -/
def rowK (ks : List PyData) (x : Str) : Option MRow := (rowsM ks).find? (fun r => decide (SL.mkN r.2.2 = x))
def flK (ks : List PyData) (mn : Str) : List Str := match rowK ks mn with
  | none => []
  | some r => flds r.2.2
def kdK (ks : List PyData) (mn : Str) : Str := match rowK ks mn with
  | none => ""
  | some r => r.1
def entB (sorts : List Str) (f : Str) (e : PyData) : Bool := match e with
  | .int z => decide (f = "number") || (decide (0 ≤ z) && decide (z < (sorts.length : Int)) && decide (sorts[z.toNat]? = some f))
  | _ => false
def rowNm (r : PyData) : Str := strD (fstD r)
def entsB (sorts : List Str) (fs : List Str) (es : List PyData) (j : Nat) : Bool := entB sorts (fs.getD j "") (es.getD j .none)
def rowB (ks : List PyData) (sorts : List Str) (r : PyData) : Bool :=
  tupB r 2 2 && isStr (fstD r) && decide (rowNm r ∈ namesM (rowsM ks)) && tupB (sndD r) (flK ks (rowNm r)).length (flK ks (rowNm r)).length && (List.range (flK ks (rowNm r)).length).all (entsB sorts (flK ks (rowNm r)) (itemsD (sndD r)))
def sortsB (ks : List PyData) (ds : List PyData) : List Str := ds.map fun r => kdK ks (rowNm r)
def rowAt (ks ds : List PyData) (i : Nat) : Bool := rowB ks (sortsB ks (ds.take i)) (ds.getD i .none)
def rowsB (ks : List PyData) (d : PyData) : Bool := tupB d 1 96 && (List.range (itemsD d).length).all (rowAt ks (itemsD d))
theorem rowK_eq {ks : List PyData} (hk : (namesM (rowsM ks)).Nodup) {kd : Str} {p : Nat} {m : PyData} (h : (kd, p, m) ∈ rowsM ks) : rowK ks (SL.mkN m) = some (kd, p, m) := by
  unfold rowK
  cases c : (rowsM ks).find? (fun r => decide (SL.mkN r.2.2 = SL.mkN m)) with
  | none => exact absurd (List.find?_eq_none.mp c _ h) (by simp)
  | some r =>
    have h1 := List.mem_of_find?_eq_some c
    have h2 := List.find?_some c
    obtain ⟨k2, p2, m2⟩ := r
    have := row_one hk h h1 (of_decide_eq_true h2 : SL.mkN m2 = SL.mkN m).symm
    rw [this]
theorem flK_eq {ks : List PyData} (hk : (namesM (rowsM ks)).Nodup) {kd : Str} {p : Nat} {m : PyData} (h : (kd, p, m) ∈ rowsM ks) : flK ks (SL.mkN m) = flds m := by
  unfold flK
  rw [rowK_eq hk h]
theorem kdK_eq {ks : List PyData} (hk : (namesM (rowsM ks)).Nodup) {kd : Str} {p : Nat} {m : PyData} (h : (kd, p, m) ∈ rowsM ks) : kdK ks (SL.mkN m) = kd := by
  unfold kdK
  rw [rowK_eq hk h]
theorem sortsB_next {ks ds : List PyData} {i : Nat} {r : PyData} (h : ds[i]? = some r) : sortsB ks (ds.take (i + 1)) = sortsB ks (ds.take i) ++ [kdK ks (rowNm r)] := by
  unfold sortsB
  rw [List.take_add_one, h, Option.toList_some, List.map_append]
  rfl
theorem sortsB_len (ks ds : List PyData) : (sortsB ks ds).length = ds.length := List.length_map _
theorem rowAt_of {ks ds : List PyData} {i : Nat} {r : PyData} (h : ds[i]? = some r) : rowAt ks ds i = rowB ks (sortsB ks (ds.take i)) r := by
  unfold rowAt
  rw [List.getD_eq_getElem?_getD, h] <;> rfl
theorem rows_bad {ks ds : List PyData} {i : Nat} {r : PyData} (h : ds[i]? = some r) (b : rowB ks (sortsB ks (ds.take i)) r = false) : rowsB ks (.tuple ds) = false := by
  have : (List.range (itemsD (.tuple ds)).length).all (rowAt ks (itemsD (.tuple ds))) = false := by
    rw [List.all_eq_false]
    refine ⟨i, List.mem_range.mpr (List.getElem?_eq_some_iff.mp h).1, ?_⟩
    show ¬ rowAt ks ds i = true
    rw [rowAt_of h, b]
    simp
  unfold rowsB
  rw [this, Bool.and_false]
theorem rows_all {ks ds : List PyData} (h1 : tupB (.tuple ds) 1 96 = true) (h : ∀ i, i < ds.length → rowAt ks ds i = true) : rowsB ks (.tuple ds) = true := by
  unfold rowsB
  rw [h1, Bool.true_and]
  exact List.all_eq_true.mpr fun i hi => h i (List.mem_range.mp hi)
def sp_is_integer : Sp := fun vs H Q _ => ∃ (M : List Addr) (v : V) (e : PyData), vs = [v] ∧ Dv M H v e ∧ Q (.bl (intB e)) H
def sp_is_entry (K : PySem.W.Frag) : Sp := fun vs H Q _ => ∃ (M : List Addr) (ka : Addr) (fd : Str) (v : V) (e : PyData) (sorts : List Str), vs = [.ref ka, .str fd, v] ∧ SqL K H ka (sorts.map V.str) ∧ sorts.length ≤ 100 ∧ Dv M H v e ∧ Q (.bl (entB sorts fd e)) H
abbrev rowD (r : Str × List Int) : PyData := .tuple [.str r.1, .tuple (r.2.map .int)]
def sp_is_row (K : PySem.W.Frag) (T : List Addr) : Sp := fun vs H Q _ => ∃ (D ka : Addr) (v : V) (ks : List PyData) (sorts : List Str) (r : PyData), vs = [.ref D, .ref ka, v] ∧ kindsB (.tuple ks) = true ∧ MkD H D ks ∧ H ka = some (.lst (sorts.map V.str)) ∧ sorts.length ≤ 100 ∧ Dv [] H v r ∧ Tabs T H ∧ ∀ H', Go T [] H H' → Tabs T H' → Q (.bl (rowB ks sorts r)) H'
/-- kinds and what may be rows -/
def askR (T : List Addr) (H : Hp) (kv rv : V) (ks : List PyData) (d : PyData) : Prop := Dv [] H kv (.tuple ks) ∧ Dv [] H rv d ∧ kindsB (.tuple ks) = true ∧ wt (.tuple ks) ≤ 4000000 ∧ wt d ≤ 4000000 ∧ Tabs T H
theorem askR.go {T : List Addr} {H H' : Hp} {kv rv : V} {ks : List PyData} {d : PyData} (h : askR T H kv rv ks d) (g : Go T [] H H') : askR T H' kv rv ks d :=
  ⟨h.1.go g, h.2.1.go g, h.2.2.1, h.2.2.2.1, h.2.2.2.2.1, g.tb h.2.2.2.2.2⟩
def sp_is_rows (T : List Addr) : Sp := fun vs H Q _ => ∃ (kv rv : V) (ks : List PyData) (d : PyData), vs = [kv, rv] ∧ askR T H kv rv ks d ∧ ∀ H', Go T [] H H' → Tabs T H' → Q (.bl (rowsB ks d)) H'
def sp_demand_rows (T : List Addr) (CR : Addr) : Sp := fun vs H Q E => ∃ (kv rv : V) (ks : List PyData) (d : PyData), vs = [kv, rv] ∧ askR T H kv rv ks d ∧ ∀ H', Go T [] H H' → Tabs T H' → if rowsB ks d = true then Q .non H' else E (.ref CR) none H'
theorem rows_maker {ks : List PyData} (hk : kindsB (.tuple ks) = true) {kd : Str} {p : Nat} {m : PyData} (h : (kd, p, m) ∈ rowsM ks) : makerB m = true := by
  obtain ⟨_, hkb, _⟩ := kinds_names hk
  obtain ⟨k, hk', hm⟩ := List.mem_flatMap.mp h
  obtain ⟨x, ms, rfl, _, _, hms⟩ := kind_parts (hkb k hk')
  obtain ⟨mp, h1, h2⟩ := List.mem_map.mp hm
  have : mp.1 ∈ ms := List.fst_mem_of_mem_zipIdx h1
  cases h2
  exact hms _ this
section
variable {P : Program} {w : World} {K : PySem.W.Frag} {mg : Str → Option Value} {base : Heap} {f c Pt CK CR : Addr} {fd : FuncData} {T : List Addr}
theorem ok_is_integer (F : Fun K "is_integer" "is_integer" s_is_integer f fd) (B : Bl mg) : FnOk P w K mg base CX0 1 f fd ["thing"] sp_is_integer := by
  refine F.ok sc_is_integer (fun vs H Q E h => ?_) (fun cdv A outer s H vs Q E hr h => ?_)
  · obtain ⟨_, _, _, rfl, _⟩ := h
    rfl
  obtain ⟨M, v, e, rfl, hv, q⟩ := h
  refine ⟨_, pss_one (ps_ret (pe_and (pe_isi_int B (pv 0)) (pe_one (pe_not (pe_isi_bool B (pv 0)))))), ?_⟩
  refine ⟨_, rfl, _, _, _, rfl, hv, _, rfl, ?_⟩
  unfold intB at q
  cases c1 : isInt e with
  | true =>
    rw [c1, Bool.true_and] at q
    exact iteT ⟨_, rfl, _, _, _, rfl, hv, _, rfl, q⟩
  | false =>
    rw [c1, Bool.false_and] at q
    exact iteF q
theorem ok_is_entry (F : Fun K "_is_entry" "_is_entry" s_is_entry f fd) (B : Bl mg) (Fi : Fnn P w K mg base CX0 1 "is_integer" ["thing"] sp_is_integer) : FnOk P w K mg base CX0 2 f fd ["kinds_ahead", "field", "entry"] (sp_is_entry K) := by
  refine F.ok sc_is_entry (fun vs H Q E h => ?_) (fun cdv A outer s H vs Q E hr h => ?_)
  · obtain ⟨_, _, _, _, _, _, rfl, _⟩ := h
    rfl
  obtain ⟨M, ka, fd', v, e, sorts, rfl, hS, hl, hv, q⟩ := h
  refine ⟨_, pss_cons (ps_if (pt_not (pt_val (pe_fn Fi hr (by decide) pass0 (pa_cons (pv 2) pa_nil)))) (pss_one (ps_ret pe_bl)) pss_nil)
    (pss_one (ps_ret (pe_or (pe_cmpR op_eq (pv 1) pe_str (nomark _)) (pe_one (pe_and (pe_chain op_le op_lt pe_int (pv 2) (pe_lenq B (pv 0))) (pe_one (pe_cmpR op_eq (pe_ix ix_list (pv 0) (pv 2) (fun _ _ => rfl)) (pv 1) (nomark _)))))))), ?_⟩
  refine ⟨_, rfl, M, v, e, rfl, hv, _, rfl, ?_⟩
  cases hv with
  | int z =>
    refine iteF ?_
    refine ⟨_, rfl, rfl, _, rfl, ?_⟩
    by_cases c1 : fd' = "number"
    · refine if_true_of (decide_eq_true (by rw [c1])) ?_
      refine goQ q ?_
      show (decide (fd' = "number") || _) = _
      rw [decide_eq_true c1]
      simp [c1]
    · refine if_false_of (decide_eq_false fun e => c1 (V.str.inj e)) ?_
      refine ⟨_, rfl, _, _, rfl, rfl, _, rfl, ?_⟩
      have q' : Q (.bl (decide (0 ≤ z) && decide (z < (sorts.length : Int)) && decide (sorts[z.toNat]? = some fd'))) H := goQ q (by
        show (decide (fd' = "number") || _) = _
        rw [decide_eq_false c1, Bool.false_or])
      by_cases c0 : (0 : Int) ≤ z
      · refine if_true_of (decide_eq_true c0) ?_
        rw [decide_eq_true c0, Bool.true_and] at q'
        refine ⟨_, rfl, _, _, rfl, .inl hS, _, _, rfl, rfl, _, rfl, ?_⟩
        by_cases c2 : z < (sorts.length : Int)
        · refine if_true_of (decide_eq_true (by rw [List.length_map]; exact c2)) ?_
          rw [decide_eq_true c2, Bool.true_and] at q'
          obtain ⟨n, rfl⟩ : ∃ n : Nat, z = (n : Int) := ⟨z.toNat, by omega⟩
          have ln : n < sorts.length := by omega
          have en := List.getElem?_eq_getElem ln
          rw [Int.toNat_natCast, en] at q'
          refine ⟨_, rfl, _, rfl, ka, _, (n : Int), .str sorts[n], rfl, rfl, hS, atI_nat (by rw [List.getElem?_map, en] <;> rfl), _, rfl, ?_⟩
          refine ⟨rfl, goQ q' ?_⟩
          refine decide_eq_decide.mpr ⟨fun h => by rw [Option.some.inj h], fun h => by rw [V.str.inj h]⟩
        · refine if_false_of (decide_eq_false (by rw [List.length_map]; exact c2)) ?_
          rw [decide_eq_false c2, Bool.false_and] at q'
          exact q'
      · refine if_false_of (decide_eq_false c0) ?_
        rw [decide_eq_false c0, Bool.false_and, Bool.false_and] at q'
        exact ⟨_, rfl, iteF q'⟩
  | _ => exact iteT q
end
end K3
set_option Elab.async false
set_option linter.all false
set_option maxRecDepth 100000
set_option maxHeartbeats 8000000
namespace K3
open PySem PySem.Spec PyProof.Rows L2 GxR NdefX GA SL RZ
theorem isStr_of {d : PyData} (h : isStr d = true) : ∃ x, d = .str x := by
  cases d with
  | str x => exact ⟨x, rfl⟩
  | _ => simp [isStr] at h
section
variable {P : Program} {w : World} {K : PySem.W.Frag} {mg : Str → Option Value} {base : Heap} {f c Pt CK CR : Addr} {fd : FuncData} {T : List Addr}
theorem ok_is_row (F : FunT K "_is_row" "_is_row" s_is_row f fd c) (B : Bl mg) (hz : mg "zip" = none) (TB : GxR.TabB base mg c Pt) (hP : Pt ∈ T) (Ft : Fnn P w K mg base CX0 1 "is_tuple" ["thing", "least", "most"] sp_is_tuple) (Ff : Fnn P w K mg base CX0 1 "fields_of" ["makers", "maker"] sp_fields_of)
    (Fe : Fnn P w K mg base CX0 2 "_is_entry" ["kinds_ahead", "field", "entry"] (sp_is_entry K)) : FnOk P w K mg base CX0 4 f fd ["makers", "kinds_ahead", "thing"] (sp_is_row K T) := by
  have nd := sc_is_row.nd
  refine F.ok sc_is_row (fun vs H Q E h => ?_) (fun A outer s H vs Q E hr h => ?_)
  · obtain ⟨_, _, _, _, _, _, rfl, _⟩ := h
    rfl
  obtain ⟨D, ka, v, ks, sorts, rd, rfl, hk, hD, hka, hls, hv, ht, q⟩ := h
  have hu : (A.deeper (envOfC "_is_row" (defScope s_is_row) s.heap.objs.size f (.ref c))).units + 1 < cLine := by
    have := hr.un
    omega
  refine ⟨_, pss_cons (ps_if (pt_not (pt_val (pe_fn Ft hr (by decide) pass0 (pa_cons (pv 2) (pa_cons pe_int (pa_cons pe_int pa_nil)))))) (pss_one (ps_ret pe_bl)) pss_nil)
    (pss_cons (ps_asg (pv 2) (pg_tup rfl (pgs_cons (pg_name (i := 3) nd rfl (.inl rfl)) (pgs_cons (pg_name (i := 4) nd rfl (.inl rfl)) pgs_nil))))
    (pss_cons (ps_if (PW.pt (pw_or (pt_not (pt_val (pe_isi_str B (pv 3)))) (pw_or1 (pt_cmp (pc_dnotin hu (pv 3) (pv 0)))))) (pss_one (ps_ret pe_bl)) pss_nil)
    (pss_cons (ps_set (i := 5) nd rfl (.inl rfl) (pe_fn Ff hr (by decide) pass0 (pa_cons (pv 0) (pa_cons (pv 3) pa_nil))))
    (pss_one (ps_ret (pe_and (pe_fn Ft hr (by decide) pass0 (pa_cons (pv 4) (pa_cons (pe_lenq B (pv 5)) (pa_cons (pe_lenq B (pv 5)) pa_nil))))
      (pe_one (pe_all (k := 2) (te := tCall (sp_is_entry K) [] E0 (tCons (tVar 0) (tCons (tVar 1) (tCons (tVar 2) tNil)))) (N := ["kinds_ahead", "field", "entry"]) (fr := ["kinds_ahead"]) (js := [1]) (g := gTup K 2 (gCons (gName 1) (gCons (gName 2) gNil))) hr rfl B.all TB rfl (gsc_by (by decide +kernel)) (fun y hy => by rw [List.mem_singleton.mp hy]; exact .inl rfl) rfl (pi_zipA rfl hz (pa_cons (pv 5) (pa_cons (pv 4) pa_nil)))
        (fun _ _ _ _ _ _ _ => pg_tup rfl (pgs_cons (pg_name (i := 1) (show (["kinds_ahead", "field", "entry"] : List Str).Nodup by decide +kernel) rfl (.inl rfl)) (pgs_cons (pg_name (i := 2) (show (["kinds_ahead", "field", "entry"] : List Str).Nodup by decide +kernel) rfl (.inl rfl)) pgs_nil)))
        (fun _ _ _ _ _ _ _ hr' => pe_fn Fe hr' (by decide) pass0 (pa_cons (pv 0) (pa_cons (pv 1) (pa_cons (pv 2) pa_nil)))))))))))), ?_⟩
  have nn : ∀ b : Addr, b ∉ ([] : List Addr) := fun b => List.not_mem_nil
  obtain ⟨nu, _, _⟩ := kinds_names hk
  refine ⟨_, rfl, [], _, _, 2, 2, rfl, hv, _, rfl, ?_⟩
  unfold rowB at q
  cases c1 : tupB rd 2 2 with
  | false =>
    rw [c1] at q
    exact iteT (q H Go.refl ht)
  | true =>
    rw [c1, Bool.true_and] at q
    refine iteF ?_
    obtain ⟨dx, dy, rfl⟩ := tup2 c1
    obtain ⟨r, vx, vy, rfl, er, nr, hvx, hvy⟩ := dv_pair hv
    refine ⟨_, rfl, r, _, rfl, SqT.of er, rfl, _, _, rfl, _, _, rfl, rfl, ?_⟩
    refine ⟨_, rfl, _, _, _, rfl, hvx, _, rfl, ?_⟩
    change ∀ H', Go T [] H H' → Tabs T H' → Q (.bl (isStr dx && _ && _ && _)) H' at q
    cases c2 : isStr dx with
    | false =>
      rw [c2] at q
      exact iteT (q H Go.refl ht)
    | true =>
      obtain ⟨mn, rfl⟩ := isStr_of c2
      cases hvx
      refine iteF ?_
      rw [c2, Bool.true_and] at q
      change ∀ H', Go T [] H H' → Tabs T H' → Q (.bl (decide (mn ∈ namesM (rowsM ks)) && tupB dy (flK ks mn).length (flK ks mn).length && (List.range (flK ks mn).length).all (entsB sorts (flK ks mn) (itemsD dy)))) H' at q
      by_cases hx : mn ∈ namesM (rowsM ks)
      · rw [decide_eq_true hx, Bool.true_and] at q
        obtain ⟨kd', p', m', t', fv', h1, h2, h3, h4, h5⟩ := hD.get hx
        refine ⟨_, rfl, _, rfl, D, _, rfl, h3, _, rfl, ?_⟩
        refine iteF ?_
        refine ⟨_, rfl, _, rfl, D, mn, ks, rfl, hD, hx, fun kd2 p2 m2 fv g1 g2 g3 => ?_⟩
        obtain ⟨fa, rfl, ef, _, lf⟩ := flds_dv (rows_maker hk g1) g3
        have fe : flK ks mn = flds m2 := by rw [← g2]; exact flK_eq nu g1
        rw [fe] at q
        have lm : (((flds m2).map V.str).length : Int) = ((flds m2).length : Int) := by rw [List.length_map]
        refine ⟨_, rfl, _, rfl, _, _, rfl, .inr (SqT.of ef), _, rfl, _, _, rfl, .inr (SqT.of ef), [], _, _, _, _, rfl, hvy, ?_⟩
        rw [lm]
        refine ⟨_, rfl, ?_⟩
        cases c3 : tupB dy (flds m2).length (flds m2).length with
        | false =>
          rw [c3, Bool.false_and] at q
          exact iteF (q H Go.refl ht)
        | true =>
          rw [c3, Bool.true_and] at q
          refine iteT ?_
          obtain ⟨es, rfl, l1, l2⟩ := tupOf c3
          obtain ⟨b, ws, rfl, eb, nb, dw⟩ := dv_tup hvy
          have lw := dw.length
          have ll : ((flds m2).map V.str).length = ws.length := by rw [List.length_map]; omega
          refine ⟨_, rfl, _, rfl, fa, b, _, _, rfl, .inr ⟨SqT.of ef, SqT.of eb, all_zipB (T := T) (t := entsB sorts (flds m2) es) ll ef eb ht hP (fun i x y H' R ex ey g t k => ?_) (fun G g t => by
            have := q G g t
            rw [List.length_map]
            exact this)⟩⟩
          rw [List.getElem?_map] at ex
          obtain ⟨f', exf, rfl⟩ := Option.map_eq_some_iff.mp ex
          obtain ⟨e, ee, he⟩ := dw.get ey
          have e0 : entsB sorts (flds m2) es i = entB sorts f' e := by
            unfold entsB
            rw [List.getD_eq_getElem?_getD, List.getD_eq_getElem?_getD, exf, ee] <;> rfl
          rw [e0] at k
          exact ⟨_, rfl, _, rfl, _, rfl, [], ka, f', y, e, sorts, rfl, SqL.of (g.lst hka (nn _)), hls, he.go g, k H' Go.refl⟩
      · rw [decide_eq_false hx, Bool.false_and, Bool.false_and] at q
        refine ⟨_, rfl, _, rfl, D, _, rfl, hD.no hx, _, rfl, ?_⟩
        exact iteT (q H Go.refl ht)
theorem ok_is_rows (F : Fun K "is_rows" "is_rows" s_is_rows f fd) (C : Cn K mg) (Fd : Fnn P w K mg base CX0 10 "demand_kinds" ["kinds"] (sp_demand_kinds T)) (Ft : Fnn P w K mg base CX0 1 "is_tuple" ["thing", "least", "most"] sp_is_tuple) (Fm : Fnn P w K mg base CX0 1 "makers_of" ["kinds"] (sp_makers_of T))
    (Fr : Fnn P w K mg base CX0 4 "_is_row" ["makers", "kinds_ahead", "thing"] (sp_is_row K T)) (Fk : Fnn P w K mg base CX0 1 "kind_of" ["makers", "maker"] sp_kind_of) : FnOk P w K mg base CX0 11 f fd ["kinds", "thing"] (sp_is_rows T) := by
  obtain ⟨tf, mF⟩ := C.rows
  have nd := sc_is_rows.nd
  refine F.ok sc_is_rows (fun vs H Q E h => ?_) (fun cdv A outer s H vs Q E hr h => ?_)
  · obtain ⟨_, _, _, _, rfl, _⟩ := h
    rfl
  obtain ⟨kv, rv, ks, d, rfl, hG, q⟩ := h
  refine ⟨_, pss_cons (ps_expr (pe_fn Fd hr (by decide) pass0 (pa_cons (pv 0) pa_nil)))
    (pss_cons (ps_if (pt_not (pt_val (pe_fn Ft hr (by decide) pass0 (pa_cons (pv 1) (pa_cons pe_int (pa_cons (pe_glob (v := .int 96) rfl mF ⟨_, rfl⟩) pa_nil)))))) (pss_one (ps_ret pe_bl)) pss_nil)
    (pss_cons (ps_set (i := 2) nd rfl (.inl rfl) (pe_fn Fm hr (by decide) pass0 (pa_cons (pv 0) pa_nil)))
    (pss_cons (ps_set (i := 3) nd rfl (.inl rfl) (pe_lst pa_nil))
    (pss_cons (ps_for PassesOwn.never rfl (pi_tup (pv 1)) (pg_name (i := 4) nd rfl (.inl rfl))
      (pss_cons (ps_if (pt_not (pt_val (pe_fn Fr hr (by decide) pass0 (pa_cons (pv 2) (pa_cons (pv 3) (pa_cons (pv 4) pa_nil)))))) (pss_one (ps_ret pe_bl)) pss_nil)
      (pss_one (ps_expr (pe_bm PySem.F.plainAttrs_list PySem.F.slot_list_append PySem.F.type_list_append mt_append (pv 3) (pa_cons (pe_fn Fk hr (by decide) pass0 (pa_cons (pv 2) (pa_cons (pe_ix ix_tup (pv 4) pe_int (fun _ _ => rfl)) pa_nil))) pa_nil))))))
    (pss_one (ps_ret pe_bl)))))), ?_⟩
  have nn : ∀ b : Addr, b ∉ ([] : List Addr) := fun b => List.not_mem_nil
  obtain ⟨h1, h2, h3, h4, h5, h8⟩ := hG
  refine ⟨_, rfl, kv, _, rfl, h1, h3, h4, h8, fun H1 g1 t1 => ?_⟩
  have r1 := h2.go g1
  refine ⟨_, rfl, [], rv, _, 1, 96, rfl, r1, _, rfl, ?_⟩
  cases c1 : tupB d 1 96 with
  | false =>
    refine iteT ?_
    have := q H1 g1 t1
    unfold rowsB at this
    rw [c1, Bool.false_and] at this
    exact this
  | true =>
  refine iteF ?_
  refine ⟨_, rfl, kv, ks, rfl, h1.go g1, h3, t1, fun D H2 hD0 hD g2 t2 => ?_⟩
  have r2 := r1.go g2
  obtain ⟨ds, rfl, l1, l96⟩ := tupOf c1
  obtain ⟨a, xs, rfl, ea, _, dx⟩ := dv_tup r2
  have lx := dx.length
  refine ⟨by show 0 ≤ sizeLine; omega, fun ka hka => ?_⟩
  refine ⟨_, rfl, a, rfl, ⟨_, SqT.of ((Go.new (T := T) (M := []) (o := .lst []) hka).tup ea (nn _))⟩, ?_⟩
  refine for_it (n := xs.length) walk_tup (fun i σ H' => ∃ p, σ = [some kv, some (.ref a), some (.ref D), some (.ref ka), p] ∧ Go T [] H2 H' ∧ H' ka = some (.lst ((sortsB ks (ds.take i)).map V.str)) ∧ ∀ j, j < i → rowAt ks ds j = true) ⟨none, rfl, Go.new hka, by rw [List.take_zero]; exact upd_same, fun j h => absurd h (Nat.not_lt_zero j)⟩
    (fun i σ H' _ ⟨_, _, g, _⟩ => SqT.of (g.tup ea (nn _))) (fun i x σ H3 H4 hi h y => ?_) (fun σ H3 h => ?_)
  · obtain ⟨p, rfl, g3, e3, al⟩ := h
    obtain ⟨rfl, ex⟩ := y
    obtain ⟨rd, ed, hx⟩ := dx.get ex
    have t3 := g3.tb t2
    have lt : (sortsB ks (ds.take i)).length ≤ 100 := by
      rw [sortsB_len, List.length_take]
      omega
    refine ⟨_, rfl, _, rfl, _, rfl, D, ka, x, ks, sortsB ks (ds.take i), rd, rfl, h3, hD.go g3, e3, lt, hx.go g3, t3, fun H5 g5 t5 => ⟨_, rfl, ?_⟩⟩
    cases c2 : rowB ks (sortsB ks (ds.take i)) rd with
    | false =>
      refine iteT ?_
      have := q H5 (((g1.trans g2).trans g3).trans g5) t5
      rw [rows_bad ed c2] at this
      exact this
    | true =>
      refine iteF ?_
      have e5 := g5.lst e3 (nn _)
      have al' : ∀ j, j < i + 1 → rowAt ks ds j = true := fun j hj => by
        rcases Nat.lt_or_ge j i with h | h
        · exact al j h
        · have : j = i := by omega
          rw [this, rowAt_of ed, c2]
      unfold rowB at c2
      simp only [Bool.and_eq_true, decide_eq_true_eq] at c2
      obtain ⟨⟨⟨⟨b1, b2⟩, b3⟩, b4⟩, b5⟩ := c2
      obtain ⟨ux, uy, rfl⟩ := tup2 b1
      obtain ⟨mn, e6⟩ := isStr_of b2
      have e6 : ux = .str mn := e6
      subst e6
      obtain ⟨r, vx, vy, rfl, er', _, hvx, _⟩ := dv_pair ((hx.go g3).go g5)
      cases hvx
      have hxn : mn ∈ namesM (rowsM ks) := b3
      refine ⟨_, rfl, .inl ⟨rfl, _, SqL.of e5⟩, _, rfl, _, rfl, r, _, 0, _, rfl, rfl, SqT.of er', atI_nat (j := 0) rfl, D, mn, ks, rfl, (hD.go g3).go g5, hxn, fun kd2 p2 m2 k1 k2 => ?_⟩
      have ek : kdK ks mn = kd2 := by rw [← k2]; exact kdK_eq (kinds_names h3).1 k1
      refine ⟨ka, _, _, rfl, rfl, e5, by rw [List.length_map, sizeLine_eq]; omega, _, rfl, (g3.trans g5).over hka e5 (fun _ z => by cases z), ?_, al'⟩
      rw [upd_same, sortsB_next ed, List.map_append]
      show some (HO.lst (_ ++ [V.str kd2])) = some (HO.lst (_ ++ [V.str (kdK ks mn)]))
      rw [ek]
  · obtain ⟨p, rfl, g3, e3, al⟩ := h
    have := q H3 ((g1.trans g2).trans g3) (g3.tb t2)
    rw [rows_all c1 (by rw [← lx]; exact al)] at this
    exact this
theorem ok_demand_rows (F : Fun K "demand_rows" "demand_rows" s_demand_rows f fd) (XR : Xc K mg "BadRows" CR) (Fi : Fnn P w K mg base CX0 11 "is_rows" ["kinds", "thing"] (sp_is_rows T)) : FnOk P w K mg base (L2.CX P w) 12 f fd ["kinds", "rows"] (sp_demand_rows T CR) := by
  refine F.okX sc_demand_rows (fun vs H Q E h => ?_) (fun cdv A outer s H vs Q E hr h => ?_)
  · obtain ⟨_, _, _, _, rfl, _⟩ := h
    rfl
  obtain ⟨kv, rv, ks, d, rfl, hG, q⟩ := h
  refine ⟨_, pss_one (ps_if (pt_not (pt_val (pe_fn Fi hr (by decide) pass0 (pa_cons (pv 0) (pa_cons (pv 1) pa_nil))))) (pss_one (ps_raiseX rfl XR (takes_of rfl rfl rfl rfl))) pss_nil), ?_⟩
  refine ⟨_, rfl, _, rfl, kv, rv, ks, d, rfl, hG, fun H' g t => ⟨_, rfl, ?_⟩⟩
  have qq := q H' g t
  cases c : rowsB ks d with
  | true =>
    rw [c] at qq
    exact iteF ((if_pos rfl).mp qq)
  | false =>
    rw [c] at qq
    exact iteT ((if_neg Bool.false_ne_true).mp qq)
end
end K3
set_option Elab.async false
set_option linter.all false
set_option maxRecDepth 100000
set_option maxHeartbeats 8000000
namespace K3
open PySem PySem.Spec PyProof.Rows L2 GxR NdefX GA SL
abbrev s_law_well : Stmt := top 35
abbrev s_law_draw : Stmt := top 36
theorem sc_law_well : FnScope ["script", "stir", "cell"] ["script"] (defScope s_law_well) := ⟨rfl, rfl, rfl, by decide +kernel, rfl, by decide +kernel, by decide +kernel⟩
theorem sc_law_draw : FnScope ["well", "many", "top"] ["well", "many"] (defScope s_law_draw) := ⟨rfl, rfl, rfl, by decide +kernel, rfl, by decide +kernel, by decide +kernel⟩
/-- the well at a, its numbers at l; drawn at most k times behind them -/
def WellAt (a l : Addr) (H : Hp) (k : Int) : Prop := ∃ (ns : List Int) (s c : Int), a ≠ l ∧ H a = some (.lst [.ref l, .int s, .int c]) ∧ H l = some (.lst (ns.map V.int)) ∧ 0 ≤ s ∧ s < 2147483647 ∧ 0 ≤ c ∧ c ≤ k
def sp_well (K : PySem.W.Frag) (T : List Addr) : Sp := fun vs H Q _ => ∃ (b : Addr) (ns : List Int), vs = [.ref b] ∧ SqL K H b (ns.map V.int) ∧ ns.length ≤ 1000000 ∧ Tabs T H ∧ ∀ a l H', H a = none → H l = none → WellAt a l H' 0 → Go T [] H H' → Tabs T H' → Q (.ref a) H'
def sp_draw (T : List Addr) : Sp := fun vs H Q _ => ∃ (a l : Addr) (k many : Int), vs = [.ref a, .int many] ∧ 0 < many ∧ many < 1073741824 ∧ k ≤ 1099511627776 ∧ WellAt a l H k ∧ Tabs T H ∧ ∀ i H', 0 ≤ i → i < many → WellAt a l H' (k + 1) → Go T [a, l] H H' → Tabs T H' → Q (.int i) H'
section
variable {P : Program} {w : World} {K : PySem.W.Frag} {mg : Str → Option Value} {base : Heap} {f c CK CN CT CR : Addr} {fd : FuncData} {T : List Addr}
theorem ok_law_well (F : Fun K "_law_well" "_law_well" s_law_well f fd) (B : Bl mg) : FnOk P w K mg base CX0 1 f fd ["script"] (sp_well K T) := by
  have nd := sc_law_well.nd
  refine F.ok sc_law_well (fun vs H Q E h => ?_) (fun cdv A outer s H vs Q E hr h => ?_)
  · obtain ⟨_, _, rfl, _⟩ := h
    rfl
  obtain ⟨b, ns, rfl, hb, hl, ht, q⟩ := h
  have nn : ∀ b : Addr, b ∉ ([] : List Addr) := fun b => List.not_mem_nil
  refine ⟨_, (pss_cons (ps_set (i := 1) nd rfl (Or.inl rfl) pe_int)
    (pss_cons (ps_for PassesOwn.never rfl (pi_list (pv 0)) (pg_name (i := 2) nd rfl (Or.inl rfl))
    (pss_one (ps_set (i := 1) nd rfl (Or.inl rfl) (pe_op op_mod (pe_toInt B (pe_op op_add (pe_op op_add (pe_op op_mul (pv 1) pe_int) (pe_op op_mod (pe_toInt B (pv 2)) pe_int)) pe_int)) pe_int))))
    (pss_one (ps_ret (pe_lst (pa_cons (pe_lc (own := [("cell", 2)]) (g := gName 2) (tt := _)  rfl nd (pi_list (pv 0)) (blkOk_by (own := [("cell", 2)]) (N := ["script", "stir", "cell"]) (sc := defScope s_law_well) (by decide +kernel))
        (fun _ _ _ _ _ => (pg_name (i := 2) nd rfl (Or.inl rfl))) (fun _ _ _ _ _ => pts_one (pt_cmpR op_gt (pv 2) (pe_op op_pow pe_int pe_int) (nomark _))) (fun _ _ _ _ _ => (pe_op op_sub (pe_toInt B (pv 2)) (pe_op op_pow pe_int pe_int)))) (pa_cons (pv 1) (pa_cons pe_int pa_nil)))))))), ?_⟩
  refine ⟨_, rfl, b, rfl, ⟨_, hb⟩, ?_⟩
  refine for_it (n := (ns.map V.int).length) walk_list (fun i σ H' => H' = H ∧ ∃ (s : Int) (p : Option V), σ = [some (.ref b), some (.int s), p] ∧ 0 ≤ s ∧ s < 2147483647) ⟨rfl, 7, none, rfl, by decide, by decide⟩ (fun i σ H' _ h => by rw [h.1]; exact hb) (fun i x σ H' H'' hi h y => ?_) (fun σ H' h => ?_)
  · obtain ⟨rfl, s1, p, rfl, a1, a2⟩ := h
    obtain ⟨rfl, ex⟩ := y
    rw [List.getElem?_map] at ex
    obtain ⟨z, _, rfl⟩ := Option.map_eq_some_iff.mp ex
    refine ⟨_, rfl, _, _, rfl, rfl, .inl ⟨by omega, by omega⟩, _, rfl, .inl ⟨_, rfl, _, _, rfl, rfl, (show (0 : Int) < 2147483629 by decide), _, _, rfl, rfl, _, _, rfl, rfl, .inl ⟨_, rfl, _, _, rfl, rfl, (show (0 : Int) < 2147483647 by decide), ?_⟩⟩⟩
    exact ⟨rfl, _, _, rfl, Int.emod_nonneg _ (by decide), Int.emod_lt_of_pos _ (by decide)⟩
  obtain ⟨rfl, s1, p, rfl, a1, a2⟩ := h
  refine ⟨_, rfl, b, rfl, ⟨_, hb⟩, fun D hD => ?_⟩
  refine lc_it walk_list (fun i H2 => Go T [] H' H2 ∧ ∃ zs : List Int, H2 D = some (.lst (zs.map V.int)) ∧ zs.length ≤ i) ⟨Go.new hD, [], upd_same, Nat.le_refl _⟩ (fun i H2 _ h => h.1.sqL hb) (fun i x H2 H3 hi h y => ?_) (fun H2 h => ?_)
  · obtain ⟨gg, zs, ez, lz⟩ := h
    obtain ⟨rfl, ex⟩ := y
    rw [List.getElem?_map] at ex
    obtain ⟨z, _, rfl⟩ := Option.map_eq_some_iff.mp ex
    rw [List.length_map] at hi
    refine ⟨rfl, _, rfl, _, _, rfl, rfl, ⟨by decide, by decide, by decide⟩, _, _, rfl, rfl, _, rfl, ?_⟩
    show if decide _ = true then _ else _
    split
    · refine ⟨_, rfl, .inl ⟨_, rfl, _, _, rfl, rfl, ⟨by decide, by decide, by decide⟩, _, _, rfl, rfl, ?_⟩⟩
      refine ⟨_, ez, by rw [List.length_map, sizeLine_eq]; omega, gg.over hD ez (fun _ z => by cases z), zs ++ [_], by rw [upd_same, List.map_append] <;> rfl, by rw [List.length_append, List.length_singleton]; omega⟩
    · exact ⟨gg, zs, ez, by omega⟩
  · obtain ⟨gg, zs, ez, lz⟩ := h
    refine ⟨_, rfl, by show 3 ≤ sizeLine; decide, fun p hp => ?_⟩
    have gn := Go.new (T := T) (M := []) (o := .lst [.ref D, .int s1, .int 0]) hp
    exact q p D _ (gg.al _ hp) hD ⟨zs, s1, 0, (ne_of_none ez hp).symm, upd_same, gn.lst ez (nn _), a1, a2, by decide, by decide⟩ (gg.trans gn) ((gg.trans gn).tb ht)
theorem ok_law_draw (F : Fun K "_law_draw" "_law_draw" s_law_draw f fd) (B : Bl mg) : FnOk P w K mg base CX0 1 f fd ["well", "many"] (sp_draw T) := by
  have nd := sc_law_draw.nd
  refine F.ok sc_law_draw (fun vs H Q E h => ?_) (fun cdv A outer s H vs Q E hr h => ?_)
  · obtain ⟨_, _, _, _, rfl, _⟩ := h
    rfl
  obtain ⟨a, l, k, many, rfl, m1, m2, hk, ⟨ns, s0, c0, hal, ea, el, s1, s2, c1, c2⟩, ht, q⟩ := h
  have nn : ∀ b : Addr, b ∉ ([] : List Addr) := fun b => List.not_mem_nil
  have hu : (A.deeper (envOfC "_law_draw" (defScope s_law_draw) s.heap.objs.size f cdv)).units < cLine := by
    have := hr.un
    omega
  refine ⟨_, (pss_cons (ps_if (pt_cmpR (op_neNil hu) (pe_ix ix_list (pv 0) pe_int (fun _ _ => rfl)) (pe_lst pa_nil) (nomark _)) (pss_cons (ps_set (i := 2) nd rfl (Or.inl rfl) (pe_ix ix_list (pe_ix ix_list (pv 0) pe_int (fun _ _ => rfl)) pe_int (fun _ _ => rfl)))
    (pss_cons (ps_if (pt_cmpR op_lt (pv 2) (pv 1) (nomark _)) (pss_one (ps_expr (pe_bm PySem.F.plainAttrs_list PySem.F.slot_list_pop PySem.F.type_list_pop mt_popAt (pe_ix ix_list (pv 0) pe_int (fun _ _ => rfl)) (pa_cons pe_int pa_nil)))) (pss_one (ps_asg (pe_op op_fdivN (pv 2) (pv 1)) (pg_sub (pe_ix ix_list (pv 0) pe_int (fun _ _ => rfl)) pe_int set_list))))
    (pss_one (ps_ret (pe_op op_mod (pe_toInt B (pv 2)) (pv 1)))))) pss_nil)
    (pss_cons (ps_asg (pe_op op_add (pe_ix ix_list (pv 0) pe_int (fun _ _ => rfl)) pe_int) (pg_sub (pv 0) pe_int set_list))
    (pss_cons (ps_asg (pe_op op_mod (pe_toInt B (pe_op op_add (pe_op op_add (pe_op op_mul (pe_ix ix_list (pv 0) pe_int (fun _ _ => rfl)) pe_int) (pe_op op_mul (pe_op op_mul pe_int (pe_ix ix_list (pv 0) pe_int (fun _ _ => rfl))) (pe_ix ix_list (pv 0) pe_int (fun _ _ => rfl)))) pe_int)) pe_int) (pg_sub (pv 0) pe_int set_list))
    (pss_one (ps_ret (pe_op op_mod (pe_op op_fdiv (pe_op op_mod (pe_toInt B (pe_op op_mul (pe_ix ix_list (pv 0) pe_int (fun _ _ => rfl)) (pe_ix ix_list (pv 0) pe_int (fun _ _ => rfl)))) pe_int) pe_int) (pv 1))))))), ?_⟩
  have ma : a ∈ [a, l] := by simp
  have ml : l ∈ [a, l] := by simp
  refine ⟨_, rfl, a, _, 0, _, rfl, rfl, SqL.of ea, rfl, by show 0 ≤ sizeLine; omega, fun e1 he1 => ?_⟩
  have g1 : Go T [a, l] H (upd H e1 (.lst [])) := Go.new he1
  have na : a ≠ e1 := ne_of_none ea he1
  have nl : l ≠ e1 := ne_of_none el he1
  have ea1 : upd H e1 (.lst []) a = some (.lst [.ref l, .int s0, .int c0]) := by rw [upd_ne na]; exact ea
  have el1 : upd H e1 (.lst []) l = some (.lst (ns.map V.int)) := by rw [upd_ne nl]; exact el
  refine ⟨l, e1, ns.map V.int, rfl, rfl, .inl ⟨SqL.of el1, SqL.of upd_same⟩, _, rfl, ?_⟩
  cases ns with
  | nil =>
    refine iteF ?_
    refine ⟨_, rfl, a, _, 2, _, rfl, rfl, SqL.of ea1, rfl, _, _, rfl, rfl, _, rfl, a, _, 2, 2, rfl, rfl, ea1, rfl, ?_⟩
    have ea2 : upd (upd H e1 (.lst [])) a (.lst [.ref l, .int s0, .int (c0 + 1)]) a = some (.lst [.ref l, .int s0, .int (c0 + 1)]) := upd_same
    refine ⟨_, rfl, a, _, 1, _, rfl, rfl, SqL.of ea2, rfl, _, _, rfl, rfl, .inl ⟨by omega, by omega⟩, _, rfl, a, _, 2, _, rfl, rfl, SqL.of ea2, rfl, _, _, rfl, rfl, .inl ⟨by decide, by decide⟩, _, rfl, a, _, 2, _, rfl, rfl, SqL.of ea2, rfl, _, _, rfl, rfl, .inl ⟨by omega, by omega⟩, _, _, rfl, rfl, _, _, rfl, rfl,
      .inl ⟨_, rfl, _, _, rfl, rfl, (show (0 : Int) < 2147483647 by decide), _, rfl, a, _, 1, 1, rfl, rfl, ea2, rfl, ?_⟩⟩
    have b1 := Int.emod_nonneg (s0 * 48271 + 69621 * (c0 + 1) * (c0 + 1) + 40692) (show (2147483647 : Int) ≠ 0 by decide)
    have b2 := Int.emod_lt_of_pos (s0 * 48271 + 69621 * (c0 + 1) * (c0 + 1) + 40692) (show (0 : Int) < 2147483647 by decide)
    refine ⟨_, rfl, a, _, 1, _, rfl, rfl, SqL.of upd_same, rfl, _, rfl, a, _, 1, _, rfl, rfl, SqL.of upd_same, rfl, _, _, rfl, rfl, .inl ⟨by omega, by omega⟩, .inl ⟨_, rfl, _, _, rfl, rfl, (show (0 : Int) < 2147483629 by decide), _, _, rfl, rfl, ⟨by decide, by decide⟩, _, rfl, _, _, rfl, rfl, m1, ?_⟩⟩
    have G := (g1.trans (Go.set (T := T) (M := [a, l]) (o := .lst [.ref l, .int s0, .int (c0 + 1)]) ea1 (fun _ z => by cases z) ma)).trans (Go.set (T := T) (M := [a, l]) (o := .lst ([V.ref l, .int s0, .int (c0 + 1)].set 1 (.int ((s0 * 48271 + 69621 * (c0 + 1) * (c0 + 1) + 40692) % 2147483647)))) ea2 (fun _ z => by cases z) ma)
    refine q _ _ (Int.emod_nonneg _ (by omega)) (Int.emod_lt_of_pos _ m1) ⟨[], _, _, hal, upd_same, ?_, b1, b2, by omega, by omega⟩ G (G.tb ht)
    rw [upd_ne hal.symm, upd_ne hal.symm]
    exact el1
  | cons z r =>
    refine iteT ?_
    refine ⟨_, rfl, a, _, 0, _, rfl, rfl, SqL.of ea1, rfl, l, _, 0, .int z, rfl, rfl, SqL.of el1, atI_nat (j := 0) rfl, ?_⟩
    refine ⟨_, rfl, _, rfl, _, _, rfl, rfl, _, rfl, ?_⟩
    have hix : ixN ((z :: r).map V.int).length 0 = some 0 := by
      unfold ixN
      rw [if_pos (by decide), if_pos (by rw [List.length_map, List.length_cons]; omega)] <;> rfl
    by_cases hc : z < many
    · refine if_true_of (decide_eq_true hc) ?_
      refine ⟨_, rfl, a, _, 0, _, rfl, rfl, SqL.of ea1, rfl, .inl ⟨rfl, _, SqL.of el1⟩, l, _, 0, 0, .int z, rfl, rfl, el1, by decide, by decide, ?_, rfl, ?_⟩
      · exact (ixN_seq hix).1
      refine ⟨_, rfl, .inl ⟨_, rfl, _, rfl, _, _, rfl, rfl, m1, ?_⟩⟩
      have G := g1.trans (Go.set (T := T) (M := [a, l]) (o := .lst (r.map V.int)) el1 (fun _ z => by cases z) ml)
      exact q _ _ (Int.emod_nonneg _ (by omega)) (Int.emod_lt_of_pos _ m1) ⟨r, s0, c0, hal, by rw [upd_ne hal]; exact ea1, upd_same, s1, s2, c1, by omega⟩ G (G.tb ht)
    · refine if_false_of (decide_eq_false hc) ?_
      refine ⟨_, rfl, _, rfl, _, _, rfl, rfl, ⟨by omega, by omega⟩, _, rfl, a, _, 0, _, rfl, rfl, SqL.of ea1, rfl, l, _, 0, 0, rfl, rfl, el1, ?_, ?_⟩
      · exact hix
      refine ⟨_, rfl, .inl ⟨_, rfl, _, rfl, _, _, rfl, rfl, m1, ?_⟩⟩
      have G := g1.trans (Go.set (T := T) (M := [a, l]) (o := .lst ((V.int (z.fdiv many)) :: r.map V.int)) el1 (fun _ z => by cases z) ml)
      exact q _ _ (Int.emod_nonneg _ (by omega)) (Int.emod_lt_of_pos _ m1) ⟨z.fdiv many :: r, s0, c0, hal, by rw [upd_ne hal]; exact ea1, upd_same, s1, s2, c1, by omega⟩ G (G.tb ht)
end
end K3
set_option Elab.async false
set_option linter.all false
set_option maxRecDepth 100000
set_option maxHeartbeats 8000000
namespace SL
open PySem PySem.Spec PyProof.Rows L2 GxR NdefX GA
def rStrI : List V → Hp → VK → Prop := fun xs H Q => ∃ i, xs = [.int i] ∧ i.natAbs.log2 < 1920 ∧ Q (.str (toString i)) H
theorem pe_strI {X : Cx} {a : Expr} {ta : TE} {p pos : Pos} (B : Bl X.mg) (ha : PE X a ta) (h1 : Gl X "str" := by rfl) (he : starEach (a :: []) X.env = (false, eval a X.env) :: starEach [] X.env := by rfl) : PE X (.Call (.Name "str" p) [a] [] pos) (tCB rStrI (tCons ta tNil)) :=
  pe_callTy call_str_int h1 B.str (by decide +kernel) (pa_cons ha pa_nil he) (by decide) (by decide) he
def rCatS : R2 := fun x y H Q => ∃ i j, x = .str i ∧ y = .str j ∧ i.length + j.length ≤ sizeLine ∧ Q (.str (i ++ j)) H
/-- letters and digits alone -/
def an (x : Str) : Bool := x.cps.toList.all anC
theorem an_mem {x : Str} (h : an x = true) : ∀ c ∈ x.cps.toList, anC c = true := fun c hc => List.all_eq_true.mp h c hc
theorem an_of {x : Str} (h : ∀ c ∈ x.cps.toList, anC c = true) : an x = true := List.all_eq_true.mpr h
theorem an_asc {x : Str} (h : an x = true) : asc x = true := asc_of fun c hc => anC_lt (an_mem h c hc)
theorem an_add {x y : Str} (h : an x = true) (k : an y = true) : an (x ++ y) = true := an_of fun c hc => by
  rw [cps_add] at hc
  exact (List.mem_append.mp hc).elim (an_mem h c) (an_mem k c)
theorem an_one {x : Str} {c : Nat} (h : an x = true) (hc : c ∈ x.cps.toList) : an ⟨#[c]⟩ = true := an_of fun d hd => by
  have : d = c := by simpa using hd
  rw [this]
  exact an_mem h c hc
theorem an_cut {z : Str} (h : an z = true) (lo hi : Option Int) : an (cutS z lo hi) = true := an_of fun c hc => by
  rw [cutS_list] at hc
  exact an_mem h c (List.mem_of_mem_drop (List.mem_of_mem_take hc))
theorem join_an : ∀ {ys : List Str}, (∀ y ∈ ys, y.length ≤ 1 ∧ an y = true) → (Str.join ⟨#[]⟩ ys).length ≤ ys.length ∧ an (Str.join ⟨#[]⟩ ys) = true
  | [], _ => ⟨Nat.le_refl _, rfl⟩
  | y :: r, h => by
    have ih := join_an fun z hz => h z (List.mem_cons_of_mem _ hz)
    have hy := h y List.mem_cons_self
    rw [show Str.join ⟨#[]⟩ (y :: r) = y ++ Str.join ⟨#[]⟩ r from join_nil_cons y r]
    refine ⟨?_, an_add hy.2 ih.2⟩
    rw [strLen_append, List.length_cons]
    omega
theorem an_400 : (List.range 400).all (fun k : Nat => an (Str.ofString (toString (k : Int)))) = true := by decide +kernel
theorem cases_123 : (List.range 123).all (fun c => !loC c || (decide (Txt.upper ⟨#[c]⟩ = (⟨#[c - 32]⟩ : Str)) && upC (c - 32))) = true := by decide +kernel
theorem cases_91 : (List.range 91).all (fun c => !upC c || (decide (Txt.lower ⟨#[c]⟩ = (⟨#[c + 32]⟩ : Str)) && loC (c + 32))) = true := by decide +kernel
/-- a text of one small letter -/
def low1 (x : Str) : Prop := ∃ c, x = ⟨#[c]⟩ ∧ loC c = true
def high1 (x : Str) : Prop := ∃ c, x = ⟨#[c]⟩ ∧ upC c = true
theorem up_low {x : Str} (h : low1 x) : high1 (Txt.upper x) := by
  obtain ⟨c, rfl, hc⟩ := h
  have lt : c < 123 := by
    simp only [loC, Bool.and_eq_true, decide_eq_true_eq] at hc
    omega
  have := List.all_eq_true.mp cases_123 c (List.mem_range.mpr lt)
  rw [hc] at this
  simp only [Bool.not_true, Bool.false_or, Bool.and_eq_true, decide_eq_true_eq] at this
  exact ⟨c - 32, this.1, this.2⟩
theorem lo_high {c : Nat} (hc : upC c = true) : low1 (Txt.lower ⟨#[c]⟩) := by
  have lt : c < 91 := by
    simp only [upC, Bool.and_eq_true, decide_eq_true_eq] at hc
    omega
  have := List.all_eq_true.mp cases_91 c (List.mem_range.mpr lt)
  rw [hc] at this
  simp only [Bool.not_true, Bool.false_or, Bool.and_eq_true, decide_eq_true_eq] at this
  exact ⟨c + 32, this.1, this.2⟩
theorem low1.len {x : Str} (h : low1 x) : x.length = 1 := by
  obtain ⟨c, rfl, _⟩ := h
  rfl
theorem high1.len {x : Str} (h : high1 x) : x.length = 1 := by
  obtain ⟨c, rfl, _⟩ := h
  rfl
theorem high1.an {x : Str} (h : high1 x) : an x = true := by
  obtain ⟨c, rfl, hc⟩ := h
  refine an_of fun d hd => ?_
  have : d = c := by simpa using hd
  rw [this]
  simp only [anC, hc, Bool.true_or]
theorem low26_lo : (("abcdefghijklmnopqrstuvwxyz" : Str).cps.toList).all loC = true := by decide +kernel
/-- a great letter and up to nine letters and digits behind it are a name -/
theorem high_mk {u bd : Str} (hu : high1 u) (ha : an bd = true) (hl : bd.length ≤ 9) : highS (u ++ bd) = true := by
  have hn := hu.an
  have ln := hu.len
  obtain ⟨c, rfl, hc⟩ := hu
  have e : ((⟨#[c]⟩ : Str) ++ bd).cps.toList = c :: bd.cps.toList := by rw [cps_add] <;> rfl
  have l1 : ((⟨#[c]⟩ : Str) ++ bd).length = 1 + bd.length := by rw [strLen_append, ln]
  have hk : kept ((⟨#[c]⟩ : Str) ++ bd) = false := by
    have first : ∀ {d : Nat} {r : List Nat} {s : Str}, s.cps.toList = d :: r → upC d = false → (⟨#[c]⟩ : Str) ++ bd ≠ s := fun {d r s} hs hd z => by
      rw [← z, e] at hs
      cases hs
      rw [hc] at hd
      cases hd
    simp only [kept, Bool.or_eq_false_iff, decide_eq_false_iff_not]
    exact ⟨⟨first (s := "fun") (d := 102) rfl rfl, first (s := "kind") (d := 107) rfl rfl⟩, first (s := "number") (d := 110) rfl rfl⟩
  have ha2 := an_add hn ha
  unfold highS nameS
  rw [e, l1, hk]
  have hall : (c :: bd.cps.toList).all anC = true := by
    have : ((⟨#[c]⟩ : Str) ++ bd).cps.toList.all anC = true := ha2
    rw [e] at this
    exact this
  simp only [hall, hc, Bool.true_or, Bool.and_true, Bool.not_false]
  rw [decide_eq_true (by omega), decide_eq_true (by omega)] <;> rfl
theorem high_parts {x : Str} (h : highS x = true) : an x = true ∧ 1 ≤ x.length ∧ x.length ≤ 10 ∧ ∃ c r, x.cps.toList = c :: r ∧ upC c = true := by
  simp only [highS, nameS, Bool.and_eq_true, decide_eq_true_eq] at h
  obtain ⟨⟨⟨⟨⟨h1, h2⟩, h3⟩, _⟩, _⟩, h5⟩ := h
  refine ⟨h3, h1, h2, ?_⟩
  cases e : x.cps.toList with
  | nil => rw [e] at h5; cases h5
  | cons c r =>
    rw [e] at h5
    exact ⟨c, r, rfl, h5⟩
end SL
namespace K3
open PySem PySem.Spec PyProof.Rows L2 GxR NdefX GA SL
def low26 : Str := "abcdefghijklmnopqrstuvwxyz"
def up26 : Str := "ABCDEFGHIJKLMNOPQRSTUVWXYZ"
def an62 : Str := (low26 ++ up26) ++ "0123456789"
theorem upper26 : Txt.upper low26 = up26 := by
  rw [PyProof.Rows.upper_ascii (by decide +kernel)]
  decide +kernel
abbrev s_law_name : Stmt := top 37
theorem sc_law_name : FnScope ["well", "taken", "high", "low", "signs", "head", "body", "old", "at", "found", "k"] ["well", "taken", "high"] (defScope s_law_name) := ⟨rfl, rfl, rfl, by decide +kernel, rfl, by decide +kernel, by decide +kernel⟩
def nmOk (x : Str) : Prop := highS x = true
theorem nmOk.old {x : Str} (h : nmOk x) : asc x = true ∧ 1 ≤ x.length ∧ x.length ≤ 11 := by
  obtain ⟨h1, h2, h3, _⟩ := high_parts h
  exact ⟨an_asc h1, h2, by omega⟩
def sp_name (T : List Addr) : Sp := fun vs H Q _ => ∃ (a l t : Addr) (k : Int) (xs : List Str), vs = [.ref a, .ref t, .bl true] ∧ k ≤ 549755813888 ∧ WellAt a l H k ∧ t ≠ a ∧ t ≠ l ∧ H t = some (.lst (xs.map V.str)) ∧ (∀ x ∈ xs, nmOk x) ∧ xs.length < 100 ∧ Tabs T H ∧
  ∀ x H', nmOk x → x ∉ xs → WellAt a l H' (k + 30) → Go T [a, l] H H' → Tabs T H' → Q (.str x) H'
theorem at_ok {α : Type} {xs : List α} {i : Int} (h0 : 0 ≤ i) (h1 : i < (xs.length : Int)) : ∃ c, atI xs i = some c ∧ c ∈ xs := by
  obtain ⟨j, rfl⟩ : ∃ j : Nat, i = (j : Int) := ⟨i.toNat, by omega⟩
  have hj : j < xs.length := by omega
  exact ⟨xs[j], atI_nat (List.getElem?_eq_getElem hj), List.getElem_mem hj⟩
theorem at3 {i : Int} (h0 : 0 ≤ i) (h1 : i < 3) : ∃ m : Int, atI [V.int 2, V.int 4, V.int 10] i = some (.int m) ∧ 2 ≤ m ∧ m ≤ 10 := by
  have : i = 0 ∨ i = 1 ∨ i = 2 := by omega
  rcases this with rfl | rfl | rfl
  · exact ⟨2, rfl, by decide, by decide⟩
  · exact ⟨4, rfl, by decide, by decide⟩
  · exact ⟨10, rfl, by decide, by decide⟩
theorem at2 {i : Int} {x y : Str} {p : Str → Prop} (h0 : 0 ≤ i) (h1 : i < 2) (hx : p x) (hy : p y) : ∃ z, atI [V.str x, V.str y] i = some (.str z) ∧ p z := by
  have : i = 0 ∨ i = 1 := by omega
  rcases this with rfl | rfl
  · exact ⟨x, rfl, hx⟩
  · exact ⟨y, rfl, hy⟩
theorem WellAt.up {a l : Addr} {H : Hp} {k j : Int} (h : WellAt a l H k) (hj : k ≤ j) : WellAt a l H j := by
  obtain ⟨ns, s, c, h1, h2, h3, h4, h5, h6, h7⟩ := h
  exact ⟨ns, s, c, h1, h2, h3, h4, h5, h6, by omega⟩
theorem WellAt.go {a l : Addr} {T : List Addr} {H H' : Hp} {k : Int} (h : WellAt a l H k) (g : Go T [] H H') : WellAt a l H' k := by
  obtain ⟨ns, s, c, h1, h2, h3, h4⟩ := h
  exact ⟨ns, s, c, h1, g.lst h2 (by simp), g.lst h3 (by simp), h4⟩
theorem WellAt.ne {a l p : Addr} {H : Hp} {k : Int} (h : WellAt a l H k) (hp : H p = none) : p ≠ a ∧ p ≠ l := by
  obtain ⟨ns, s, c, h1, h2, h3, h4⟩ := h
  exact ⟨(ne_of_none h2 hp).symm, (ne_of_none h3 hp).symm⟩
theorem nin {p a l : Addr} (h : p ≠ a ∧ p ≠ l) : p ∉ [a, l] := by simp [h.1, h.2]
section
variable {P : Program} {w : World} {K : PySem.W.Frag} {mg : Str → Option Value} {base : Heap} {f c CK CN CT CR : Addr} {fd : FuncData} {T : List Addr}
theorem str_ok {i : Nat} (h : i < 400) : asc (Str.ofString (toString (i : Int))) = true ∧ (Str.ofString (toString (i : Int))).length ≤ 3 := by
  have := List.all_eq_true.mp str_400 i (List.mem_range.mpr h)
  simp only [Bool.and_eq_true, decide_eq_true_eq] at this
  exact this
theorem append_inj {x y z : Str} (h : x ++ y = x ++ z) : y = z := by
  have h1 := congrArg (fun s : Str => s.cps.toList) h
  simp only [cps_add] at h1
  have h2 := List.append_cancel_left h1
  cases y
  cases z
  congr 1
  exact Array.toList_inj.mp h2
theorem nd_le : ∀ {l xs : List Str}, l.Nodup → l ⊆ xs → l.length ≤ xs.length
  | [], _, _, _ => Nat.zero_le _
  | a :: l, xs, h, s => by
    obtain ⟨h1, h2⟩ := List.nodup_cons.mp h
    have ha : a ∈ xs := s List.mem_cons_self
    have ih := nd_le (l := l) (xs := xs.erase a) h2 fun b hb => (List.mem_erase_of_ne fun z => h1 (by rw [← z]; exact hb)).mpr (s (List.mem_cons_of_mem _ hb))
    rw [List.length_erase_of_mem ha] at ih
    have := List.length_pos_of_mem ha
    rw [List.length_cons]
    omega
/-- fewer than a hundred names leave one of a hundred -/
theorem pigeon {hd : Str} {xs : List Str} (hx : xs.length < 100) : ∃ i : Nat, i < 100 ∧ hd ++ Str.ofString (toString (i : Int)) ∉ xs := by
  refine Classical.byContradiction fun no => ?_
  have all : ∀ i : Nat, i < 100 → hd ++ Str.ofString (toString (i : Int)) ∈ xs := fun i hi => Classical.byContradiction fun z => no ⟨i, hi, z⟩
  have nd : ((List.range 100).map fun i : Nat => hd ++ Str.ofString (toString (i : Int))).Nodup := by
    have e : ((List.range 100).map fun i : Nat => hd ++ Str.ofString (toString (i : Int))) = (((List.range 100).map fun k : Nat => Str.ofString (toString (k : Int))).map fun y => hd ++ y) := by rw [List.map_map] <;> rfl
    rw [e]
    exact List.Pairwise.map _ (fun a b hab z => hab (append_inj z)) str_100
  have sub : ((List.range 100).map fun i : Nat => hd ++ Str.ofString (toString (i : Int))) ⊆ xs := fun y hy => by
    obtain ⟨i, hi, rfl⟩ := List.mem_map.mp hy
    exact all i (List.mem_range.mp hi)
  have := nd_le nd sub
  rw [List.length_map, List.length_range] at this
  omega
/-- [head + str(k) for k in range(400) if head + str(k) not in taken] -/
theorem lc_pick {H : Hp} {σ : L2.St} {D t : Addr} {hd : Str} {xs : List Str} {Qd : Hp → Prop} (et : H t = some (.lst (xs.map V.str))) (hx : xs.length < 100) (hh : high1 hd) (hD : H D = none)
    (hw : ∀ v, wipe ((wipe σ [10]).set 10 (some v)) [10] = wipe σ [10]) (h5 : ∀ v, ((wipe σ [10]).set 10 (some v))[5]? = some (some (.str hd))) (h10 : ∀ v, ((wipe σ [10]).set 10 (some v))[10]? = some (some v)) (h1 : ∀ v, ((wipe σ [10]).set 10 (some v))[1]? = some (some (.ref t)))
    (hq : ∀ H' y ys, Go T [] H H' → H' D = some (.lst (V.str y :: ys)) → nmOk y → y ∉ xs → Qd H') :
    ∃ W : Nat → Nat → Hp → Prop, (∃ m, W 0 m (upd H D (.lst []))) ∧ ∀ i' m H, W i' m H →
      ((Itr 0 400).stop i' H ∧ Qd H) ∨ ((Itr 0 400).go i' H ∧ ∃ Nx : Hp → Prop, (∀ H', Nx H' → ∃ m', m' < m ∧ W (i' + 1) m' H') ∧ ∀ x H', (Itr 0 400).yld i' H x H' → gName 10 x (wipe σ [10]) H' fun σ2 H2 => wipe σ2 [10] = wipe σ [10] ∧ (tTest (tOp (rIn K true) (tOp rCatS (tVar 5) (tCB rStrI (tCons (tVar 10) tNil))) (tVar 1))) σ2 H2 fun b H3 =>
        if b = true then (tOp rCatS (tVar 5) (tCB rStrI (tCons (tVar 10) tNil))) σ2 H3 fun y H4 => ∃ acc, H4 D = some (.lst acc) ∧ acc.length < sizeLine ∧ Nx (upd H4 D (.lst (acc ++ [y]))) else Nx H3) := by
  have ne : t ≠ D := ne_of_none et hD
  have hl := hh.len
  refine lc_it (walk_range (lo := 0) (n := 400)) (fun i H' => Go T [] H H' ∧ ∃ ys : List Str, H' D = some (.lst (ys.map V.str)) ∧ ys.length ≤ i ∧ (∀ y ∈ ys, nmOk y ∧ y ∉ xs) ∧ (ys = [] → ∀ j, j < i → hd ++ Str.ofString (toString (j : Int)) ∈ xs)) ⟨Go.new hD, [], upd_same, Nat.le_refl _, by simp, fun _ j hj => absurd hj (Nat.not_lt_zero _)⟩ (fun _ _ _ _ => trivial) (fun i x H4 H5 hi h y => ?_) (fun H4 h => ?_)
  · obtain ⟨gg, ys, ey, ly, hy, hn⟩ := h
    obtain ⟨rfl, rfl⟩ := y
    have ez : (0 : Int) + (i : Int) = (i : Int) := Int.zero_add _
    have so := str_ok hi
    have lg : ((0 : Int) + (i : Int)).natAbs.log2 < 1920 := by
      rw [ez, Int.natAbs_natCast]
      have : i.log2 ≤ i := Nat.log2_le_self i
      omega
    refine ⟨hw _, _, h5 _, _, h10 _, _, rfl, lg, hd, _, rfl, rfl, ?_, _, h1 _, t, _, rfl, .inl (SqL.of (gg.lst et List.not_mem_nil)), rfl, flat_strs _, _, rfl, ?_⟩
    · show hd.length + (Str.ofString (toString ((0 : Int) + (i : Int)))).length ≤ sizeLine
      rw [ez, sizeLine_eq]
      omega
    show if (!inV (.str (hd ++ Str.ofString (toString ((0 : Int) + (i : Int))))) (xs.map V.str)) = true then _ else _
    rw [inV_strs, ez]
    by_cases c : hd ++ Str.ofString (toString (i : Int)) ∈ xs
    · rw [decide_eq_true c]
      refine iteF ⟨gg, ys, ey, by omega, hy, fun z j hj => ?_⟩
      by_cases e : j = i
      · rw [e]; exact c
      · exact hn z j (by omega)
    · rw [decide_eq_false c]
      refine iteT ⟨_, h5 _, _, h10 _, _, rfl, lg, hd, _, rfl, rfl, ?_, ys.map V.str, ey, by rw [List.length_map, sizeLine_eq]; omega, gg.over hD ey (fun _ z => by cases z), ys ++ [hd ++ Str.ofString (toString (i : Int))], ?_, by rw [List.length_append, List.length_singleton]; omega, fun y hy' => ?_, fun z => by simp at z⟩
      · show hd.length + (Str.ofString (toString ((0 : Int) + (i : Int)))).length ≤ sizeLine
        rw [ez, sizeLine_eq]
        omega
      · rw [upd_same, List.map_append, ez] <;> rfl
      · rcases List.mem_append.mp hy' with z | z
        · exact hy y z
        · rw [List.mem_singleton.mp z]
          exact ⟨high_mk hh (List.all_eq_true.mp an_400 i (List.mem_range.mpr hi)) (by omega), c⟩
  · obtain ⟨gg, ys, ey, ly, hy, hn⟩ := h
    cases ys with
    | nil =>
      obtain ⟨i, hi, hni⟩ := pigeon (hd := hd) hx
      exact absurd (hn rfl i (by omega)) hni
    | cons y r => exact hq H4 y (r.map V.str) gg ey (hy y List.mem_cons_self).1 (hy y List.mem_cons_self).2
end
end K3
set_option Elab.async false
set_option linter.all false
set_option maxRecDepth 100000
set_option maxHeartbeats 8000000
namespace SL
open PySem PySem.Spec PyProof.Rows L2 GxR NdefX GA
theorem pe_toTup {X : Cx} {a : Expr} {ta : TE} {p pos : Pos} (B : Bl X.mg) (ha : PE X a ta) (h1 : Gl X "tuple" := by rfl) (he : starEach (a :: []) X.env = (false, eval a X.env) :: starEach [] X.env := by rfl) : PE X (.Call (.Name "tuple" p) [a] [] pos) (tThen ta (kTup X.K)) := pe_tupleOf h1 B.tuple ha he
def rLenQ (K : PySem.W.Frag) : List V → Hp → VK → Prop := fun xs H Q => ∃ p ys, xs = [.ref p] ∧ (SqL K H p ys ∨ SqT K H p ys) ∧ Q (.int ys.length) H
/-- what is kept apart may be what is new -/
theorem Go.cut {T M M' : List Addr} {H H' : Hp} (g : Go T M' H H') (h : ∀ b ∈ M', b ∈ M ∨ H b = none) : Go T M H H' := ⟨fun b o e n t => g.gr b o e (fun z => (h b z).elim n fun w => by rw [e] at w; cases w) t, g.al, g.tb⟩
end SL
namespace K3
open PySem PySem.Spec PyProof.Rows L2 GxR NdefX GA SL
abbrev s_law_kinds : Stmt := top 38
theorem sc_law_kinds : FnScope ["well", "most", "titles", "makers", "found", "k", "title", "some", "maker", "sorts", "fields", "turn", "j", "field"] ["well", "most"] (defScope s_law_kinds) := ⟨rfl, rfl, rfl, by decide +kernel, rfl, by decide +kernel, by decide +kernel⟩
/-- what is drawn as kinds: a tuple that is not empty, not too great -/
def drawnOk (d : PyData) : Prop := ∃ x r, d = .tuple (x :: r) ∧ wt d ≤ 80000 ∧ nice 0 d = true ∧ d.depth ≤ 6
def sp_kindsL (T : List Addr) : Sp := fun vs H Q _ => ∃ (a l : Addr) (k most : Int), vs = [.ref a, .int most] ∧ 1 ≤ most ∧ most ≤ 6 ∧ k ≤ 274877906944 ∧ WellAt a l H k ∧ Tabs T H ∧
  ∀ v d H', Dv [a, l] H' v d → drawnOk d → kindsB d = true → WellAt a l H' (k + 10000) → Go T [a, l] H H' → Tabs T H' → Q v H'
theorem at346 {i : Int} (h0 : 0 ≤ i) (h1 : i < 3) : ∃ m : Int, atI [V.int 3, V.int 4, V.int 6] i = some (.int m) ∧ 3 ≤ m ∧ m ≤ 6 := by
  have : i = 0 ∨ i = 1 ∨ i = 2 := by omega
  rcases this with rfl | rfl | rfl
  · exact ⟨3, rfl, by decide, by decide⟩
  · exact ⟨4, rfl, by decide, by decide⟩
  · exact ⟨6, rfl, by decide, by decide⟩
theorem at012 {i : Int} (h0 : 0 ≤ i) (h1 : i < 6) : ∃ m : Int, atI [V.int 0, V.int 1, V.int 2, V.int 2, V.int 3, V.int 4] i = some (.int m) ∧ 0 ≤ m ∧ m ≤ 4 := by
  have : i = 0 ∨ i = 1 ∨ i = 2 ∨ i = 3 ∨ i = 4 ∨ i = 5 := by omega
  rcases this with rfl | rfl | rfl | rfl | rfl | rfl
  · exact ⟨0, rfl, by decide, by decide⟩
  · exact ⟨1, rfl, by decide, by decide⟩
  · exact ⟨2, rfl, by decide, by decide⟩
  · exact ⟨2, rfl, by decide, by decide⟩
  · exact ⟨3, rfl, by decide, by decide⟩
  · exact ⟨4, rfl, by decide, by decide⟩
/-- a sort of a field -/
def fdOk (x : Str) : Prop := asc x = true ∧ x.length ≤ 11
theorem strs_wt : ∀ {fs : List Str}, (∀ x ∈ fs, fdOk x) → wtAll (fs.map .str) ≤ 138 * fs.length ∧ niceAll 0 (fs.map .str) = true ∧ PyData.depthAll (fs.map .str) = 0
  | [], _ => ⟨by simp [wtAll], rfl, by simp [PyData.depthAll]⟩
  | x :: r, h => by
    have ih := strs_wt fun y hy => h y (List.mem_cons_of_mem _ hy)
    have hx := h x List.mem_cons_self
    refine ⟨?_, ?_, ?_⟩
    · have := hx.2
      rw [List.map_cons, List.length_cons]
      simp only [wtAll, wt]
      omega
    · rw [List.map_cons]
      simp only [niceAll, nice]
      rw [hx.1, ih.2.1] <;> rfl
    · rw [List.map_cons]
      simp only [PyData.depthAll, PyData.depth]
      rw [ih.2.2] <;> rfl
/-- a drawn maker; a drawn kind -/
def mkOk (d : PyData) : Prop := wt d ≤ 702 ∧ nice 0 d = true ∧ d.depth ≤ 2
def kdOk (d : PyData) : Prop := wt d ≤ 9000 ∧ nice 0 d = true ∧ d.depth ≤ 4
theorem WellAt.set {a l p : Addr} {H : Hp} {k : Int} {o : HO} (h : WellAt a l H k) (hp : p ≠ a ∧ p ≠ l) : WellAt a l (upd H p o) k := by
  obtain ⟨ns, s, c, h1, h2, h3, h4⟩ := h
  exact ⟨ns, s, c, h1, by rw [upd_ne hp.1.symm]; exact h2, by rw [upd_ne hp.2.symm]; exact h3, h4⟩
/-- what a maker's, a kind's data is, the titles being ts -/
def mkN (m : PyData) : Str := strD (fstD m)
def kMk (d : PyData) : List PyData := itemsD (sndD d)
def fdIn (ts : List Str) (x : Str) : Prop := fdOk x ∧ (x = "number" ∨ x ∈ ts)
def mkG (ts : List Str) (m : PyData) : Prop := makerB m = true ∧ ∀ f ∈ itemsD (sndD m), strD f = "number" ∨ strD f ∈ ts
def kdG (ts : List Str) (d : PyData) : Prop := kindB d = true ∧ ∀ m ∈ kMk d, ∀ f ∈ itemsD (sndD m), strD f = "number" ∨ strD f ∈ ts
theorem maker_good {ts : List Str} {mk : Str} {fs : List Str} (hm : nmOk mk) (hf : ∀ x ∈ fs, fdIn ts x) (hl : fs.length ≤ 4) : mkG ts (.tuple [.str mk, .tuple (fs.map .str)]) := by
  refine ⟨?_, fun f hf' => ?_⟩
  · have h1 : highS mk = true := hm
    simp only [makerB, fstD, sndD, highD, itemsD, h1, tupB, List.length_map, List.length_cons, List.length_nil, Bool.and_eq_true, decide_eq_true_eq]
    refine ⟨⟨⟨⟨by decide, by decide⟩, trivial⟩, by omega, by omega⟩, ?_⟩
    exact List.all_eq_true.mpr fun z hz => by
      obtain ⟨y, _, rfl⟩ := List.mem_map.mp hz
      rfl
  · obtain ⟨y, hy, rfl⟩ := List.mem_map.mp (show f ∈ fs.map PyData.str from hf')
    exact (hf y hy).2
theorem kind_good {ts : List Str} {t : Str} {ls : List PyData} (ht : nmOk t) (h : ∀ d ∈ ls, mkG ts d) (h1 : 1 ≤ ls.length) (h6 : ls.length ≤ 6) : kdG ts (.tuple [.str t, .tuple ls]) := by
  refine ⟨?_, fun m hm => (h m hm).2⟩
  have hh : highS t = true := ht
  simp only [kindB, fstD, sndD, highD, itemsD, hh, tupB, List.length_cons, List.length_nil, Bool.and_eq_true, decide_eq_true_eq]
  refine ⟨⟨⟨⟨by decide, by decide⟩, trivial⟩, by omega, by omega⟩, List.all_eq_true.mpr fun d hd => (h d hd).1⟩
theorem nodup_snoc {xs : List Str} {x : Str} (h : xs.Nodup) (n : x ∉ xs) : (xs ++ [x]).Nodup := by
  refine List.nodup_append.mpr ⟨h, List.nodup_cons.mpr ⟨List.not_mem_nil, List.nodup_nil⟩, fun a ha b hb e => ?_⟩
  rw [List.mem_singleton.mp hb] at e
  exact n (by rw [← e]; exact ha)
theorem turned_perm {es : List PyData} {i : Int} (h0 : 0 ≤ i) (h1 : i < (es.length : Int)) : (cutD es (some i) none ++ cutD es none (some i)).Perm es := by
  obtain ⟨j, rfl⟩ : ∃ j : Nat, i = (j : Int) := ⟨i.toNat, by omega⟩
  rw [cutD_hi (by omega), cutD_lo (by omega)]
  exact List.perm_append_comm.trans (by rw [List.take_append_drop])
theorem kinds_good {ts ms : List Str} {ds : List PyData} (h1 : 1 ≤ ts.length) (h6 : ts.length ≤ 6) (ht : ts.Nodup) (et : ds.map (fun d => strD (fstD d)) = ts) (hp : ((ds.flatMap kMk).map mkN).Perm ms) (hm : ms.Nodup) (hk : ∀ d ∈ ds, kdG ts d) : kindsB (.tuple ds) = true := by
  have ld : ds.length = ts.length := by rw [← et, List.length_map]
  have titles : (titlesD (.tuple ds)).map strD = ts := by
    unfold titlesD
    rw [List.map_map]
    exact et
  have mks : makersD (.tuple ds) = ds.flatMap kMk := rfl
  simp only [kindsB, Bool.and_eq_true]
  refine ⟨⟨⟨⟨?_, List.all_eq_true.mpr fun d hd => (hk d hd).1⟩, ?_⟩, ?_⟩, List.all_eq_true.mpr fun f hf => ?_⟩
  · simp only [tupB, Bool.and_eq_true, decide_eq_true_eq]
    omega
  · unfold unl
    rw [titles]
    exact decide_eq_true ht
  · unfold unl mnamesD
    rw [mks, List.map_map]
    exact decide_eq_true (hp.nodup_iff.mpr hm)
  · unfold fieldsD at hf
    rw [mks] at hf
    obtain ⟨m, hm', hf⟩ := List.mem_flatMap.mp hf
    obtain ⟨d, hd, hm'⟩ := List.mem_flatMap.mp hm'
    unfold fieldOk
    rw [titles]
    rcases (hk d hd).2 m hm' f hf with z | z
    · rw [decide_eq_true z] <;> rfl
    · rw [decide_eq_true z, Bool.or_true]
section
variable {P : Program} {w : World} {K : PySem.W.Frag} {mg : Str → Option Value} {base : Heap} {f c CK CN CT CR : Addr} {fd : FuncData} {T : List Addr}
theorem maker_ok {mk : Str} {fs : List Str} (hm : nmOk mk) (hf : ∀ x ∈ fs, fdOk x) (hl : fs.length ≤ 4) : mkOk (.tuple [.str mk, .tuple (fs.map .str)]) := by
  obtain ⟨h1, h2, h3⟩ := strs_wt hf
  refine ⟨?_, ?_, ?_⟩
  · rw [wt_pair, wt_tup]
    have := hm.old.2.2
    show 12 * mk.length + 4 + _ + 8 ≤ 702
    omega
  · simp only [nice, niceAll]
    rw [hm.old.1, h2] <;> rfl
  · simp only [PyData.depth, PyData.depthAll]
    rw [h3]
    decide
theorem all_bd {B D : Nat} : ∀ {ls : List PyData}, (∀ d ∈ ls, wt d ≤ B ∧ nice 0 d = true ∧ d.depth ≤ D) → wtAll ls ≤ (B + 2) * ls.length ∧ niceAll 0 ls = true ∧ PyData.depthAll ls ≤ D
  | [], _ => ⟨by simp [wtAll], rfl, by simp [PyData.depthAll]⟩
  | x :: r, h => by
    have ih := all_bd fun y hy => h y (List.mem_cons_of_mem _ hy)
    have hx := h x List.mem_cons_self
    refine ⟨?_, ?_, ?_⟩
    · have e : (B + 2) * (r.length + 1) = (B + 2) * r.length + (B + 2) := Nat.mul_succ _ _
      rw [List.length_cons, e]
      simp only [wtAll]
      have := hx.1
      have := ih.1
      omega
    · simp only [niceAll]
      rw [hx.2.1, ih.2.1] <;> rfl
    · simp only [PyData.depthAll]
      have := hx.2.2
      have := ih.2.2
      omega
theorem kind_ok {t : Str} {ls : List PyData} (ht : nmOk t) (h : ∀ d ∈ ls, mkOk d) (hl : ls.length ≤ 12) : kdOk (.tuple [.str t, .tuple ls]) := by
  obtain ⟨h1, h2, h3⟩ := all_bd h
  refine ⟨?_, ?_, ?_⟩
  · rw [wt_pair, wt_tup]
    have := ht.old.2.2
    show 12 * t.length + 4 + _ + 8 ≤ 9000
    omega
  · simp only [nice, niceAll]
    rw [ht.old.1, h2] <;> rfl
  · simp only [PyData.depth, PyData.depthAll]
    omega
theorem ok_law_kinds (F : Fun K "_law_kinds" "_law_kinds" s_law_kinds f fd) (B : Bl mg) (Fd : Fnn P w K mg base CX0 1 "_law_draw" ["well", "many"] (sp_draw T)) (Fn : Fnn P w K mg base CX0 2 "_law_name" ["well", "taken", "high"] (sp_name T)) : FnOk P w K mg base CX0 3 f fd ["well", "most"] (sp_kindsL T) := by
  have nd := sc_law_kinds.nd
  refine F.ok sc_law_kinds (fun vs H Q E h => ?_) (fun cdv A outer s H vs Q E hr h => ?_)
  · obtain ⟨_, _, _, _, rfl, _⟩ := h
    rfl
  obtain ⟨a, l, k, most, rfl, m1, m2, hk, W, ht, q⟩ := h
  refine ⟨_, (pss_cons (ps_par3 (i := 2) (j := 3) (k := 4) rfl nd rfl rfl rfl rfl rfl rfl (pa_cons (pe_lst pa_nil) (pa_cons (pe_lst pa_nil) (pa_cons (pe_lst pa_nil) pa_nil))) rfl)
    (pss_cons (ps_for PassesOwn.never rfl (pi_range1 rfl B.range (pa_cons (pe_op op_add pe_int (pe_fn Fd hr (by decide) pass0 (pa_cons (pv 0) (pa_cons (pv 1) pa_nil)))) pa_nil)) (pg_name (i := 5) nd rfl (Or.inl rfl))
    (pss_one (ps_expr (pe_bm PySem.F.plainAttrs_list PySem.F.slot_list_append PySem.F.type_list_append mt_append (pv 2) (pa_cons (pe_fn Fn hr (by decide) pass0 (pa_cons (pv 0) (pa_cons (pv 2) (pa_cons pe_bl pa_nil)))) pa_nil)))))
    (pss_cons (ps_for PassesOwn.never rfl (pi_list (pv 2)) (pg_name (i := 6) nd rfl (Or.inl rfl))
    (pss_cons (ps_set (i := 7) nd rfl (Or.inl rfl) (pe_lst pa_nil))
    (pss_cons (ps_for PassesOwn.never rfl (pi_range1 rfl B.range (pa_cons (pe_op op_add pe_int (pe_fn Fd hr (by decide) pass0 (pa_cons (pv 0) (pa_cons (pe_ix ix_list (pe_lst (pa_cons pe_int (pa_cons pe_int (pa_cons pe_int pa_nil)))) (pe_fn Fd hr (by decide) pass0 (pa_cons (pv 0) (pa_cons pe_int pa_nil))) (fun _ _ => rfl)) pa_nil)))) pa_nil)) (pg_name (i := 5) nd rfl (Or.inl rfl))
    (pss_cons (ps_set (i := 8) nd rfl (Or.inl rfl) (pe_fn Fn hr (by decide) pass0 (pa_cons (pv 0) (pa_cons (pv 3) (pa_cons pe_bl pa_nil)))))
    (pss_cons (ps_if (PW.pt (pw_and (pt_cmpR op_notIn_seq (pv 6) (pv 3) rfl) (pw_and1 (pt_cmpR op_eq (pe_fn Fd hr (by decide) pass0 (pa_cons (pv 0) (pa_cons pe_int pa_nil))) pe_int (nomark _))))) (pss_one (ps_set (i := 8) nd rfl (Or.inl rfl) (pv 6))) pss_nil)
    (pss_cons (ps_expr (pe_bm PySem.F.plainAttrs_list PySem.F.slot_list_append PySem.F.type_list_append mt_append (pv 3) (pa_cons (pv 8) pa_nil)))
    (pss_cons (ps_set (i := 9) nd rfl (Or.inr rfl) (pe_op op_cat (pv 2) (pe_lst (pa_cons pe_str pa_nil))))
    (pss_cons (ps_setLc (i := 10) (own := [("j", 12)]) (g := gName 12) (tt := tYes) (te := tOp (rIxL K) (tVar 9) (tCall (sp_draw T) [] E0 (tCons (tVar 0) (tCons (tCB (rLenQ K) (tCons (tVar 9) tNil)) tNil)))) rfl nd rfl rfl (sw_true rfl rfl rfl (by decide +kernel)) (pi_range1 rfl B.range (pa_cons (pe_ix ix_list (pe_lst (pa_cons pe_int (pa_cons pe_int (pa_cons pe_int (pa_cons pe_int (pa_cons pe_int (pa_cons pe_int pa_nil))))))) (pe_fn Fd hr (by decide) pass0 (pa_cons (pv 0) (pa_cons pe_int pa_nil))) (fun _ _ => rfl)) pa_nil)) (blkOk_by (own := [("j", 12)]) (N := ["well", "most", "titles", "makers", "found", "k", "title", "some", "maker", "sorts", "fields", "turn", "j", "field"]) (sc := defScope s_law_kinds) (by decide +kernel)) (fun _ _ _ _ _ => (pg_name (i := 12) nd rfl (Or.inl rfl))) (fun _ _ _ _ _ => pts_nil) (fun _ _ _ _ _ => (pe_ix ix_list (pv 9) (pe_fn Fd hr (by decide) pass0 (pa_cons (pv 0) (pa_cons (pe_lenq B (pv 9)) pa_nil))) (fun _ _ => rfl))))
    (pss_cons (ps_if (PW.pt (pw_and (pt_cmpR op_eq (pv 5) pe_int (nomark _)) (pw_and1 (pt_cmpR op_gt (pe_fn Fd hr (by decide) pass0 (pa_cons (pv 0) (pa_cons pe_int pa_nil))) pe_int (nomark _))))) (pss_one (ps_setLc (i := 10) (own := [("field", 13)]) (g := gName 13) (tt := tTest (tOp rEq (tVar 13) (tC (.str "number")))) rfl nd rfl rfl (sw_true rfl rfl rfl (by decide +kernel)) (pi_list (pv 10)) (blkOk_by (own := [("field", 13)]) (N := ["well", "most", "titles", "makers", "found", "k", "title", "some", "maker", "sorts", "fields", "turn", "j", "field"]) (sc := defScope s_law_kinds) (by decide +kernel)) (fun _ _ _ _ _ => (pg_name (i := 13) nd rfl (Or.inl rfl))) (fun _ _ _ _ _ => pts_one (pt_cmpR op_eq (pv 13) pe_str (nomark _))) (fun _ _ _ _ _ => pv 13))) pss_nil)
    (pss_one (ps_expr (pe_bm PySem.F.plainAttrs_list PySem.F.slot_list_append PySem.F.type_list_append mt_append (pv 7) (pa_cons (pe_tup (pa_cons (pv 8) (pa_cons (pe_toTup B (pv 10)) pa_nil))) pa_nil)))))))))))
    (pss_cons (ps_set (i := 11) nd rfl (Or.inl rfl) (pe_fn Fd hr (by decide) pass0 (pa_cons (pv 0) (pa_cons (pe_lenq B (pv 7)) pa_nil))))
    (pss_one (ps_expr (pe_bm PySem.F.plainAttrs_list PySem.F.slot_list_append PySem.F.type_list_append mt_append (pv 4) (pa_cons (pe_tup (pa_cons (pv 6) (pa_cons (pe_toTup B (pe_op op_cat (pe_slice sl_list (pv 7) (po_some (pv 11)) po_none) (pe_slice sl_list (pv 7) po_none (po_some (pv 11))))) pa_nil))) pa_nil))))))))
    (pss_one (ps_ret (pe_toTup B (pv 4))))))), ?_⟩
  refine ⟨by show 0 ≤ sizeLine; omega, fun tt ht1 => ⟨by show 0 ≤ sizeLine; omega, fun mm hm1 => ⟨by show 0 ≤ sizeLine; omega, fun ff hf1 => ⟨_, _, _, rfl, ?_⟩⟩⟩⟩
  have nn : ∀ b : Addr, b ∉ ([] : List Addr) := fun b => List.not_mem_nil
  have s1 := Go.new (T := T) (M := []) (o := .lst []) ht1
  have s2 := Go.new (T := T) (M := []) (o := .lst []) hm1
  have s3 := Go.new (T := T) (M := []) (o := .lst []) hf1
  have W1 := ((W.go s1).go s2).go s3
  have g0 : Go T [] H (upd (upd (upd H tt (.lst [])) mm (.lst [])) ff (.lst [])) := (s1.trans s2).trans s3
  have ett : upd (upd (upd H tt (.lst [])) mm (.lst [])) ff (.lst []) tt = some (.lst []) := s3.lst (s2.lst upd_same (nn _)) (nn _)
  have emm : upd (upd (upd H tt (.lst [])) mm (.lst [])) ff (.lst []) mm = some (.lst []) := s3.lst upd_same (nn _)
  have eff : upd (upd (upd H tt (.lst [])) mm (.lst [])) ff (.lst []) ff = some (.lst []) := upd_same
  have nt := W.ne ht1
  have nm := (W.go s1).ne hm1
  have nf := ((W.go s1).go s2).ne hf1
  have tm : tt ≠ mm := ne_of_none (upd_same (H := H)) hm1
  have tf : tt ≠ ff := ne_of_none (s2.lst (upd_same (H := H) (a := tt)) (nn _)) hf1
  have mf : mm ≠ ff := ne_of_none (upd_same (a := mm) (o := .lst [])) hf1
  have fresh : ∀ b ∈ [a, l, tt, mm, ff], b ∈ [a, l] ∨ H b = none := fun b hb => by
    simp only [List.mem_cons, List.not_mem_nil, or_false] at hb
    rcases hb with rfl | rfl | rfl | rfl | rfl
    · exact .inl (by simp)
    · exact .inl (by simp)
    · exact .inr ht1
    · exact .inr (upd_none hm1)
    · exact .inr (upd_none (upd_none hf1))
  generalize upd (upd (upd H tt (.lst [])) mm (.lst [])) ff (.lst []) = H1 at *
  refine ⟨_, rfl, _, rfl, a, l, k, most, rfl, by omega, by omega, by omega, W1, g0.tb ht, fun i1 H2 i10 i11 W2 g2 t2 => ⟨_, _, rfl, rfl, _, rfl, by omega, by omega, ?_⟩⟩
  have up2 : ∀ b ∈ [a, l], b ∈ [a, l, tt, mm, ff] := fun b hb => by
    simp only [List.mem_cons, List.not_mem_nil, or_false] at hb ⊢
    rcases hb with rfl | rfl <;> simp
  refine for_it (walk_range (lo := 0) (n := (1 + i1).toNat)) (fun i σ H' => ∃ (ts : List Str) (p : Option V), σ = [some (.ref a), some (.int most), some (.ref tt), some (.ref mm), some (.ref ff), p, none, none, none, none, none, none, none, none] ∧ Go T [a, l, tt, mm, ff] H H' ∧ WellAt a l H' (k + 1 + 30 * i) ∧ H' tt = some (.lst (ts.map V.str)) ∧ ts.length = i ∧ (∀ x ∈ ts, nmOk x) ∧ H' mm = some (.lst []) ∧ H' ff = some (.lst []) ∧ ts.Nodup)
    ⟨[], none, rfl, (g0.of0).trans (g2.more up2), W2.up (by omega), g2.lst ett (nin nt), rfl, by simp, g2.lst emm (nin nm), g2.lst eff (nin nf), List.nodup_nil⟩ (fun _ _ _ _ _ => trivial) (fun i x σ H3 H4 hi h y => ?_) (fun σ H3 h => ?_)
  · obtain ⟨ts, p, rfl, gg, W3, e1, l1, hx, e2, e3, htn⟩ := h
    obtain ⟨rfl, rfl⟩ := y
    refine ⟨_, rfl, .inl ⟨rfl, _, SqL.of e1⟩, _, rfl, _, rfl, a, l, tt, k + 1 + 30 * i, ts, rfl, by omega, W3, nt.1, nt.2, e1, hx, by omega, gg.tb ht, fun x H5 hx5 nx5 W5 g5 t5 => ?_⟩
    have e5 := g5.lst e1 (nin nt)
    refine ⟨tt, _, _, rfl, rfl, e5, by rw [List.length_map, sizeLine_eq]; omega, ts ++ [x], _, rfl, ?_, ?_, by rw [upd_same, List.map_append] <;> rfl, by rw [List.length_append, l1] <;> rfl, ?_, ?_, ?_, nodup_snoc htn nx5⟩
    · exact (gg.trans (g5.more up2)).trans (Go.set e5 (fun _ z => by cases z) (by simp))
    · obtain ⟨ns, s1, c1, w1, w2, w3, w4, w5, w6, w7⟩ := W5
      exact ⟨ns, s1, c1, w1, by rw [upd_ne nt.1.symm]; exact w2, by rw [upd_ne nt.2.symm]; exact w3, w4, w5, w6, by omega⟩
    · intro y hy
      rcases List.mem_append.mp hy with z | z
      · exact hx y z
      · rw [List.mem_singleton.mp z]; exact hx5
    · rw [upd_ne tm.symm]; exact g5.lst e2 (nin nm)
    · rw [upd_ne tf.symm]; exact g5.lst e3 (nin nf)
  obtain ⟨ts, p, rfl, gg, W3, e1, l1, hx, e2, e3, htn⟩ := h
  have lts : ts.length ≤ 6 := by omega
  refine ⟨_, rfl, tt, rfl, ⟨_, SqL.of e1⟩, ?_⟩
  refine for_it (n := (ts.map V.str).length) walk_list (fun i σ H' => ∃ (ms : List Str) (vs : List V) (ds : List PyData) (p5 p6 p7 p8 p9 p10 p11 : Option V), σ = [some (.ref a), some (.int most), some (.ref tt), some (.ref mm), some (.ref ff), p5, p6, p7, p8, p9, p10, p11, none, none] ∧ Go T [a, l, tt, mm, ff] H H' ∧ WellAt a l H' (k + 200 + 800 * i) ∧
      H' tt = some (.lst (ts.map V.str)) ∧ H' mm = some (.lst (ms.map V.str)) ∧ ms.length ≤ 6 * i ∧ (∀ x ∈ ms, nmOk x) ∧ H' ff = some (.lst vs) ∧ DvAll [a, l, tt, mm, ff] H' vs ds ∧ ds.length = i ∧ (∀ d ∈ ds, kdOk d) ∧ ds.map (fun d => strD (fstD d)) = ts.take i ∧ ((ds.flatMap kMk).map mkN).Perm ms ∧ ms.Nodup ∧ ∀ d ∈ ds, kdG ts d)
    ⟨[], [], [], p, none, none, none, none, none, none, rfl, gg, W3.up (by omega), e1, e2, by simp, by simp, e3, .nil, rfl, by simp, by simp, .refl _, List.nodup_nil, by simp⟩ (fun i σ H' _ ⟨_, _, _, _, _, _, _, _, _, _, _, _, _, e, _⟩ => SqL.of e) (fun i x σ H4 H5 hi h y => ?_) (fun σ H4 h => ?_)
  · obtain ⟨ms, vs, ds, p5, p6, p7, p8, p9, p10, p11, rfl, gg, W4, e1, e2, lm, hm, e3, dv, ld, hd, hdt, hdp, hmnd, hdg⟩ := h
    obtain ⟨rfl, ex⟩ := y
    rw [List.getElem?_map] at ex
    obtain ⟨ti, ext, rfl⟩ := Option.map_eq_some_iff.mp ex
    have hti := hx ti (List.mem_of_getElem? ext)
    rw [List.length_map] at hi
    refine ⟨by show 0 ≤ sizeLine; omega, fun ss hss => ?_⟩
    have ns := W4.ne hss
    have st : tt ≠ ss := ne_of_none e1 hss
    have sm : mm ≠ ss := ne_of_none e2 hss
    have sf : ff ≠ ss := ne_of_none e3 hss
    have gs := Go.new (T := T) (M := []) (o := .lst []) hss
    refine ⟨_, rfl, by show 3 ≤ sizeLine; decide, fun q1 hq1 => ?_⟩
    have gq := Go.new (T := T) (M := []) (o := .lst [.int 3, .int 4, .int 6]) hq1
    have gsq := gs.trans gq
    have Wq := W4.go gsq
    refine ⟨_, rfl, a, l, k + 200 + 800 * i, 3, rfl, by decide, by decide, by omega, Wq, gsq.tb (gg.tb ht), fun i2 H6 j20 j21 W6 g6 t6 => ?_⟩
    obtain ⟨m, em, m3, m6⟩ := at346 j20 j21
    refine ⟨q1, _, i2, _, rfl, rfl, SqL.of (g6.lst upd_same (nin ((W4.go gs).ne hq1))), em, a, l, k + 200 + 800 * i + 1, m, rfl, by omega, by omega, by omega, W6, t6, fun i3 H7 j30 j31 W7 g7 t7 => ⟨_, _, rfl, rfl, _, rfl, by omega, by omega, ?_⟩⟩
    have g67 : Go T [a, l] _ H7 := g6.trans g7
    have e1s := g67.lst (gsq.lst e1 (nn _)) (nin nt)
    have e2s := g67.lst (gsq.lst e2 (nn _)) (nin nm)
    have e3s := g67.lst (gsq.lst e3 (nn _)) (nin nf)
    have ess := g67.lst (gq.lst (upd_same (H := H5) (a := ss) (o := .lst [])) (nn _)) (nin ns)
    have up6 : ∀ b ∈ [a, l], b ∈ [ss, a, l, tt, mm, ff] := fun b hb => List.mem_cons_of_mem _ (up2 b hb)
    have gT : Go T [ss, a, l, tt, mm, ff] H5 H7 := gsq.of0.trans (g67.more up6)
    refine for_it (walk_range (lo := 0) (n := (1 + i3).toNat)) (fun j σ H' => ∃ (ms1 : List Str) (ws : List V) (es : List PyData) (p5 p8 p9 p10 : Option V), σ = [some (.ref a), some (.int most), some (.ref tt), some (.ref mm), some (.ref ff), p5, some (.str ti), some (.ref ss), p8, p9, p10, p11, none, none] ∧ Go T [ss, a, l, tt, mm, ff] H5 H' ∧ WellAt a l H' (k + 200 + 800 * i + 2 + 60 * j) ∧
        H' tt = some (.lst (ts.map V.str)) ∧ H' mm = some (.lst (ms1.map V.str)) ∧ ms1.length ≤ 6 * i + j ∧ (∀ x ∈ ms1, nmOk x) ∧ H' ff = some (.lst vs) ∧ H' ss = some (.lst ws) ∧ DvAll [ss, a, l, tt, mm, ff] H' ws es ∧ es.length = j ∧ (∀ d ∈ es, mkOk d) ∧ ms1 = ms ++ es.map mkN ∧ ms1.Nodup ∧ ∀ d ∈ es, mkG ts d)
      ⟨ms, [], [], p5, p8, p9, p10, rfl, gT, W7.up (by omega), e1s, e2s, by omega, hm, e3s, ess, .nil, rfl, by simp, by simp, hmnd, by simp⟩ (fun _ _ _ _ _ => trivial) (fun j x σ H8 H9 hj h y => ?_) (fun σ H8 h => ?_)
    · obtain ⟨ms', ws, es, p5, p8, p9, p10, rfl, G8, W8, f1, f2, lms, hms, f3, f4, dw, les, hes, hme, hmn, heg⟩ := h
      obtain ⟨rfl, rfl⟩ := y
      have hl6 : (6 * i + j) ≤ 42 := by omega
      refine ⟨_, rfl, _, rfl, a, l, mm, k + 200 + 800 * i + 2 + 60 * j, ms', rfl, by omega, W8, nm.1, nm.2, f2, hms, by omega, G8.tb (gg.tb ht), fun xn H10 hxn nxn W10 g10 t10 => ?_⟩
      have G10 := G8.trans (g10.more up6)
      have h1 := g10.lst f1 (nin nt)
      have h2 := g10.lst f2 (nin nm)
      have h3 := g10.lst f3 (nin nf)
      have h4 := g10.lst f4 (nin ns)
      have dw10 := dw.go (g10.more up6)
      refine ⟨_, rfl, _, rfl, mm, ms'.map V.str, rfl, .inl (SqL.of h2), rfl, flat_strs _, _, rfl, ?_⟩
      show if (!inV (.str ti) (ms'.map V.str)) = true then _ else _
      rw [inV_strs]
      by_cases hin : ti ∈ ms'
      · rw [decide_eq_true hin]
        refine iteF (iteF ?_)
        refine ⟨_, rfl, .inl ⟨rfl, _, SqL.of h2⟩, _, rfl, mm, _, _, rfl, rfl, h2, by rw [List.length_map, sizeLine_eq]; omega, ?_⟩
        have Ga := (G10).trans (Go.set (T := T) (M := [ss, a, l, tt, mm, ff]) (o := .lst (ms'.map V.str ++ [V.str xn])) h2 (fun _ z => by cases z) (by simp))
        have Wa := WellAt.set (o := .lst (ms'.map V.str ++ [V.str xn])) W10 nm
        have b1 : upd H10 mm (.lst (ms'.map V.str ++ [V.str xn])) tt = some (.lst (ts.map V.str)) := by rw [upd_ne tm]; exact h1
        have b2 : upd H10 mm (.lst (ms'.map V.str ++ [V.str xn])) mm = some (.lst ((ms' ++ [xn]).map V.str)) := by rw [upd_same, List.map_append] <;> rfl
        have b3 : upd H10 mm (.lst (ms'.map V.str ++ [V.str xn])) ff = some (.lst vs) := by rw [upd_ne mf.symm]; exact h3
        have b4 : upd H10 mm (.lst (ms'.map V.str ++ [V.str xn])) ss = some (.lst ws) := by rw [upd_ne sm.symm]; exact h4
        have dA := (dw10).go (Go.set (T := T) (M := [ss, a, l, tt, mm, ff]) (o := .lst (ms'.map V.str ++ [V.str xn])) h2 (fun _ z => by cases z) (by simp))
        refine ⟨_, rfl, by show 1 ≤ sizeLine; decide, fun r1 hr1 => ?_⟩
        have u1 := Go.new (T := T) (M := []) (o := .lst [.str "number"]) hr1
        refine ⟨tt, r1, _, _, rfl, rfl, u1.lst b1 (nn _), upd_same, by rw [List.length_map, sizeLine_eq]; show ts.length + 1 ≤ _; omega, fun r2 hr2 => ?_⟩
        have u2 := Go.new (T := T) (M := []) (o := .lst (ts.map V.str ++ [V.str "number"])) hr2
        refine ⟨by show 6 ≤ sizeLine; decide, fun r3 hr3 => ?_⟩
        have u3 := Go.new (T := T) (M := []) (o := .lst [.int 0, .int 1, .int 2, .int 2, .int 3, .int 4]) hr3
        have uu := (u1.trans u2).trans u3
        have Wb := Wa.go uu
        have Gb := Ga.trans uu.of0
        refine ⟨_, rfl, a, l, k + 200 + 800 * i + 2 + 60 * j + 31, 6, rfl, by decide, by decide, by omega, Wb.up (by omega), Gb.tb (gg.tb ht), fun i9 H12 j90 j91 W12 g12 t12 => ?_⟩
        obtain ⟨m9, em9, n9, m9'⟩ := at012 j90 j91
        refine ⟨r3, _, i9, _, rfl, rfl, SqL.of (g12.lst upd_same (nin ((Wa.go (u1.trans u2)).ne hr3))), em9, m9, rfl, by omega, by omega, fun D hD => ?_⟩
        have nD := W12.ne hD
        have er2 : H12 r2 = some (.lst (ts.map V.str ++ [V.str "number"])) := g12.lst (u3.lst upd_same (nn _)) (nin ((Wa.go u1).ne hr2))
        have nD2 : r2 ≠ D := ne_of_none er2 hD
        have all9 : ∀ v ∈ (ts.map V.str ++ [V.str "number"]), ∃ z, v = V.str z ∧ fdIn ts z := fun v hv => by
          rcases List.mem_append.mp hv with z | z
          · obtain ⟨y, hy, rfl⟩ := List.mem_map.mp z
            exact ⟨y, rfl, ⟨(hx y hy).old.1, (hx y hy).old.2.2⟩, .inr hy⟩
          · rw [List.mem_singleton.mp z]
            exact ⟨"number", rfl, ⟨by decide +kernel, by decide +kernel⟩, .inl rfl⟩
        have G12 := Gb.trans (g12.more up6)
        have c1 := g12.lst (uu.lst b1 (nn _)) (nin nt)
        have c2 := g12.lst (uu.lst b2 (nn _)) (nin nm)
        have c3 := g12.lst (uu.lst b3 (nn _)) (nin nf)
        have c4 := g12.lst (uu.lst b4 (nn _)) (nin ns)
        have dC := (dA.go uu.of0).go (g12.more up6)
        refine lc_it (walk_range (lo := 0) (n := m9.toNat)) (fun i' H' => Go T [a, l] H12 H' ∧ WellAt a l H' (k + 200 + 800 * i + 2 + 60 * j + 32 + i') ∧ ∃ fs : List Str, H' D = some (.lst (fs.map V.str)) ∧ fs.length = i' ∧ ∀ x ∈ fs, fdIn ts x)
          ⟨Go.new hD, (W12.set nD).up (by omega), [], upd_same, rfl, by simp⟩ (fun _ _ _ _ => trivial) (fun i' x H13 H14 hi' h y => ?_) (fun H13 h => ?_)
        · obtain ⟨v1, v2, fs, v3, v4, v5⟩ := h
          obtain ⟨rfl, rfl⟩ := y
          have er := v1.lst er2 (nin ((Wa.go u1).ne hr2))
          refine ⟨rfl, _, rfl, _, rfl, _, rfl, r2, _, rfl, .inl (SqL.of er), a, l, k + 200 + 800 * i + 2 + 60 * j + 32 + i', _, rfl, by rw [List.length_append, List.length_singleton]; omega, by rw [List.length_append, List.length_map, List.length_singleton]; omega, by omega, v2, v1.tb t12, fun ib Hb jb0 jb1 Wb' gb tb => ?_⟩
          obtain ⟨vo, eo, mo⟩ := at_ok jb0 jb1
          obtain ⟨z, rfl, hz⟩ := all9 _ mo
          have v3' := gb.lst v3 (nin nD)
          refine ⟨r2, _, ib, _, rfl, rfl, SqL.of (gb.lst er (nin ((Wa.go u1).ne hr2))), eo, _, v3', by rw [List.length_map, sizeLine_eq]; omega, (v1.trans gb).over hD v3' (fun _ z => by cases z), (Wb'.set nD).up (by omega), fs ++ [z], by rw [upd_same, List.map_append] <;> rfl, by rw [List.length_append, v4] <;> rfl, fun x hx' => ?_⟩
          rcases List.mem_append.mp hx' with w | w
          · exact v5 x w
          · rw [List.mem_singleton.mp w]; exact hz
        · obtain ⟨v1, v2, fs, v3, v4, v5⟩ := h
          have lf4 : fs.length ≤ 4 := by omega
          have Gc := G12.trans (v1.more up6)
          have d1 := v1.lst c1 (nin nt)
          have d2 := v1.lst c2 (nin nm)
          have d3 := v1.lst c3 (nin nf)
          have d4 := v1.lst c4 (nin ns)
          have dD := dC.go (v1.more up6)
          refine ⟨_, rfl, rfl, _, rfl, ?_⟩
          by_cases hj0 : (0 : Int) + (j : Int) = 0
          · refine if_true_of (decide_eq_true (show V.int (0 + (j : Int)) = V.int 0 by rw [hj0])) ?_
            refine ⟨_, rfl, a, l, k + 200 + 800 * i + 2 + 60 * j + 36, 4, rfl, by decide, by decide, by omega, v2.up (by omega), v1.tb t12, fun ic Hc jc0 jc1 Wc gc tc => ⟨_, _, rfl, rfl, _, rfl, ?_⟩⟩
            have Gd := Gc.trans (gc.more up6)
            have w1 := gc.lst d1 (nin nt)
            have w2 := gc.lst d2 (nin nm)
            have w3 := gc.lst d3 (nin nf)
            have w4 := gc.lst d4 (nin ns)
            have dE := dD.go (gc.more up6)
            have eD := gc.lst v3 (nin nD)
            by_cases hc0 : (0 : Int) < ic
            · refine if_true_of (decide_eq_true hc0) ?_
              refine ⟨_, rfl, D, rfl, ⟨_, SqL.of eD⟩, fun D2 hD2 => ?_⟩
              refine lc_it walk_list (fun i' H' => Go T [] Hc H' ∧ ∃ gs : List Str, H' D2 = some (.lst (gs.map V.str)) ∧ gs.length ≤ i' ∧ ∀ x ∈ gs, fdIn ts x) ⟨Go.new hD2, [], upd_same, Nat.le_refl _, by simp⟩ (fun i' H' _ h => SqL.of (h.1.lst eD (nn _))) (fun i' x H15 H16 hi' h y => ?_) (fun H15 h => ?_)
              · obtain ⟨z1, gs, z2, z3, z4⟩ := h
                obtain ⟨rfl, ex⟩ := y
                rw [List.getElem?_map] at ex
                obtain ⟨xf, exf, rfl⟩ := Option.map_eq_some_iff.mp ex
                rw [List.length_map] at hi'
                refine ⟨rfl, _, rfl, rfl, _, rfl, ?_⟩
                show if decide _ = true then _ else _
                split
                · refine ⟨_, rfl, _, z2, by rw [List.length_map, sizeLine_eq]; omega, z1.over hD2 z2 (fun _ z => by cases z), gs ++ [xf], by rw [upd_same, List.map_append] <;> rfl, by rw [List.length_append, List.length_singleton]; omega, fun x hx' => ?_⟩
                  rcases List.mem_append.mp hx' with w | w
                  · exact z4 x w
                  · rw [List.mem_singleton.mp w]; exact v5 xf (List.mem_of_getElem? exf)
                · exact ⟨z1, gs, z2, by omega, z4⟩
              · obtain ⟨z1, gs, z2, z3, z4⟩ := h
                rw [List.length_map] at z3
                refine ⟨_, rfl, .inl ⟨rfl, _, SqL.of (z1.lst w4 (nn _))⟩, _, rfl, _, rfl, .inl ⟨D2, _, rfl, SqL.of z2, fun t1 ht1 => ⟨by show 2 ≤ sizeLine; decide, fun t2 ht2 => ?_⟩⟩⟩
                have x1 := Go.new (T := T) (M := []) (o := .tup ((gs).map V.str)) ht1
                have x2 := Go.new (T := T) (M := []) (o := .tup [.str xn, .ref t1]) ht2
                have xx := x1.trans x2
                have n6 : ∀ p : Addr, H15 p = none → p ∉ [ss, a, l, tt, mm, ff] := fun p hp => by
                  have w := ((Wc.go z1)).ne hp
                  simp [w.1, w.2, (ne_of_none (z1.lst w1 (nn _)) hp).symm, (ne_of_none (z1.lst w2 (nn _)) hp).symm, (ne_of_none (z1.lst w3 (nn _)) hp).symm, (ne_of_none (z1.lst w4 (nn _)) hp).symm]
                have y4 := xx.lst (z1.lst w4 (nn _)) (nn _)
                have lw := ((dE.go z1.of0)).length
                have Gs := Go.set (T := T) (M := [ss, a, l, tt, mm, ff]) (o := .lst (ws ++ [V.ref t2])) y4 (fun _ z => by cases z) (by simp)
                refine ⟨ss, ws, _, rfl, rfl, y4, by rw [sizeLine_eq]; omega, ms' ++ [xn], ws ++ [.ref t2], es ++ [.tuple [.str xn, .tuple ((gs).map .str)]], _, _, _, _, rfl, (((Gd.trans z1.of0)).trans xx.of0).trans Gs, ((((Wc.go z1)).go xx).set ns).up (by omega), ?_, ?_, by rw [List.length_append, List.length_singleton]; omega, ?_, ?_, upd_same, ?_, by rw [List.length_append, les] <;> rfl, ?_, ?_, nodup_snoc hmn nxn, ?_⟩
                · rw [upd_ne st]; exact xx.lst (z1.lst w1 (nn _)) (nn _)
                · rw [upd_ne sm]; exact xx.lst (z1.lst w2 (nn _)) (nn _)
                · intro y hy
                  rcases List.mem_append.mp hy with z | z
                  · exact hms y z
                  · rw [List.mem_singleton.mp z]; exact hxn
                · rw [upd_ne sf]; exact xx.lst (z1.lst w3 (nn _)) (nn _)
                · refine DvAll.go (T := T) (DvAll.append (((dE.go z1.of0)).go xx.of0) (.cons (.tup upd_same (n6 t2 (x1.al _ ht2)) (.cons (.str _) (.cons (.tup ((x2.tup upd_same (nn _))) (n6 t1 ht1) (DvAll.strs _)) .nil))) .nil)) Gs
                · intro d hd'
                  rcases List.mem_append.mp hd' with z | z
                  · exact hes d z
                  · rw [List.mem_singleton.mp z]; exact maker_ok hxn (fun x hx => (z4 x hx).1) (by omega : gs.length ≤ 4)
                · rw [hme, List.map_append, List.append_assoc] <;> rfl
                · intro d hd'
                  rcases List.mem_append.mp hd' with z | z
                  · exact heg d z
                  · rw [List.mem_singleton.mp z]; exact maker_good hxn z4 (by omega : gs.length ≤ 4)
            · refine if_false_of (decide_eq_false hc0) ?_
              refine ⟨_, rfl, .inl ⟨rfl, _, SqL.of w4⟩, _, rfl, _, rfl, .inl ⟨D, _, rfl, SqL.of eD, fun t1 ht1 => ⟨by show 2 ≤ sizeLine; decide, fun t2 ht2 => ?_⟩⟩⟩
              have x1 := Go.new (T := T) (M := []) (o := .tup ((fs).map V.str)) ht1
              have x2 := Go.new (T := T) (M := []) (o := .tup [.str xn, .ref t1]) ht2
              have xx := x1.trans x2
              have n6 : ∀ p : Addr, Hc p = none → p ∉ [ss, a, l, tt, mm, ff] := fun p hp => by
                have w := (Wc).ne hp
                simp [w.1, w.2, (ne_of_none w1 hp).symm, (ne_of_none w2 hp).symm, (ne_of_none w3 hp).symm, (ne_of_none w4 hp).symm]
              have y4 := xx.lst w4 (nn _)
              have lw := (dE).length
              have Gs := Go.set (T := T) (M := [ss, a, l, tt, mm, ff]) (o := .lst (ws ++ [V.ref t2])) y4 (fun _ z => by cases z) (by simp)
              refine ⟨ss, ws, _, rfl, rfl, y4, by rw [sizeLine_eq]; omega, ms' ++ [xn], ws ++ [.ref t2], es ++ [.tuple [.str xn, .tuple ((fs).map .str)]], _, _, _, _, rfl, ((Gd).trans xx.of0).trans Gs, (((Wc).go xx).set ns).up (by omega), ?_, ?_, by rw [List.length_append, List.length_singleton]; omega, ?_, ?_, upd_same, ?_, by rw [List.length_append, les] <;> rfl, ?_, ?_, nodup_snoc hmn nxn, ?_⟩
              · rw [upd_ne st]; exact xx.lst w1 (nn _)
              · rw [upd_ne sm]; exact xx.lst w2 (nn _)
              · intro y hy
                rcases List.mem_append.mp hy with z | z
                · exact hms y z
                · rw [List.mem_singleton.mp z]; exact hxn
              · rw [upd_ne sf]; exact xx.lst w3 (nn _)
              · refine DvAll.go (T := T) (DvAll.append ((dE).go xx.of0) (.cons (.tup upd_same (n6 t2 (x1.al _ ht2)) (.cons (.str _) (.cons (.tup ((x2.tup upd_same (nn _))) (n6 t1 ht1) (DvAll.strs _)) .nil))) .nil)) Gs
              · intro d hd'
                rcases List.mem_append.mp hd' with z | z
                · exact hes d z
                · rw [List.mem_singleton.mp z]; exact maker_ok hxn (fun x hx => (v5 x hx).1) lf4
              · rw [hme, List.map_append, List.append_assoc] <;> rfl
              · intro d hd'
                rcases List.mem_append.mp hd' with z | z
                · exact heg d z
                · rw [List.mem_singleton.mp z]; exact maker_good hxn v5 lf4
          · refine if_false_of (decide_eq_false fun z => hj0 (V.int.inj z)) ?_
            refine ⟨_, rfl, .inl ⟨rfl, _, SqL.of d4⟩, _, rfl, _, rfl, .inl ⟨D, _, rfl, SqL.of v3, fun t1 ht1 => ⟨by show 2 ≤ sizeLine; decide, fun t2 ht2 => ?_⟩⟩⟩
            have x1 := Go.new (T := T) (M := []) (o := .tup ((fs).map V.str)) ht1
            have x2 := Go.new (T := T) (M := []) (o := .tup [.str xn, .ref t1]) ht2
            have xx := x1.trans x2
            have n6 : ∀ p : Addr, H13 p = none → p ∉ [ss, a, l, tt, mm, ff] := fun p hp => by
              have w := (v2).ne hp
              simp [w.1, w.2, (ne_of_none d1 hp).symm, (ne_of_none d2 hp).symm, (ne_of_none d3 hp).symm, (ne_of_none d4 hp).symm]
            have y4 := xx.lst d4 (nn _)
            have lw := (dD).length
            have Gs := Go.set (T := T) (M := [ss, a, l, tt, mm, ff]) (o := .lst (ws ++ [V.ref t2])) y4 (fun _ z => by cases z) (by simp)
            refine ⟨ss, ws, _, rfl, rfl, y4, by rw [sizeLine_eq]; omega, ms' ++ [xn], ws ++ [.ref t2], es ++ [.tuple [.str xn, .tuple ((fs).map .str)]], _, _, _, _, rfl, ((Gc).trans xx.of0).trans Gs, (((v2).go xx).set ns).up (by omega), ?_, ?_, by rw [List.length_append, List.length_singleton]; omega, ?_, ?_, upd_same, ?_, by rw [List.length_append, les] <;> rfl, ?_, ?_, nodup_snoc hmn nxn, ?_⟩
            · rw [upd_ne st]; exact xx.lst d1 (nn _)
            · rw [upd_ne sm]; exact xx.lst d2 (nn _)
            · intro y hy
              rcases List.mem_append.mp hy with z | z
              · exact hms y z
              · rw [List.mem_singleton.mp z]; exact hxn
            · rw [upd_ne sf]; exact xx.lst d3 (nn _)
            · refine DvAll.go (T := T) (DvAll.append ((dD).go xx.of0) (.cons (.tup upd_same (n6 t2 (x1.al _ ht2)) (.cons (.str _) (.cons (.tup ((x2.tup upd_same (nn _))) (n6 t1 ht1) (DvAll.strs _)) .nil))) .nil)) Gs
            · intro d hd'
              rcases List.mem_append.mp hd' with z | z
              · exact hes d z
              · rw [List.mem_singleton.mp z]; exact maker_ok hxn (fun x hx => (v5 x hx).1) lf4
            · rw [hme, List.map_append, List.append_assoc] <;> rfl
            · intro d hd'
              rcases List.mem_append.mp hd' with z | z
              · exact heg d z
              · rw [List.mem_singleton.mp z]; exact maker_good hxn v5 lf4
      · rw [decide_eq_false hin]
        refine iteT ?_
        refine ⟨_, rfl, a, l, k + 200 + 800 * i + 2 + 60 * j + 30, 5, rfl, by decide, by decide, by omega, W10, t10, fun i11 H11 j110 j111 W11 g11 t11 => ⟨rfl, _, rfl, ?_⟩⟩
        have G11 := G10.trans (g11.more up6)
        have k1 := g11.lst h1 (nin nt)
        have k2 := g11.lst h2 (nin nm)
        have k3 := g11.lst h3 (nin nf)
        have k4 := g11.lst h4 (nin ns)
        have dw11 := dw10.go (g11.more up6)
        by_cases h0 : i11 = 0
        · refine if_true_of (decide_eq_true (by rw [h0])) ?_
          refine ⟨_, rfl, ?_⟩
          refine ⟨_, rfl, .inl ⟨rfl, _, SqL.of k2⟩, _, rfl, mm, _, _, rfl, rfl, k2, by rw [List.length_map, sizeLine_eq]; omega, ?_⟩
          have Ga := (G11).trans (Go.set (T := T) (M := [ss, a, l, tt, mm, ff]) (o := .lst (ms'.map V.str ++ [V.str ti])) k2 (fun _ z => by cases z) (by simp))
          have Wa := WellAt.set (o := .lst (ms'.map V.str ++ [V.str ti])) W11 nm
          have b1 : upd H11 mm (.lst (ms'.map V.str ++ [V.str ti])) tt = some (.lst (ts.map V.str)) := by rw [upd_ne tm]; exact k1
          have b2 : upd H11 mm (.lst (ms'.map V.str ++ [V.str ti])) mm = some (.lst ((ms' ++ [ti]).map V.str)) := by rw [upd_same, List.map_append] <;> rfl
          have b3 : upd H11 mm (.lst (ms'.map V.str ++ [V.str ti])) ff = some (.lst vs) := by rw [upd_ne mf.symm]; exact k3
          have b4 : upd H11 mm (.lst (ms'.map V.str ++ [V.str ti])) ss = some (.lst ws) := by rw [upd_ne sm.symm]; exact k4
          have dA := (dw11).go (Go.set (T := T) (M := [ss, a, l, tt, mm, ff]) (o := .lst (ms'.map V.str ++ [V.str ti])) k2 (fun _ z => by cases z) (by simp))
          refine ⟨_, rfl, by show 1 ≤ sizeLine; decide, fun r1 hr1 => ?_⟩
          have u1 := Go.new (T := T) (M := []) (o := .lst [.str "number"]) hr1
          refine ⟨tt, r1, _, _, rfl, rfl, u1.lst b1 (nn _), upd_same, by rw [List.length_map, sizeLine_eq]; show ts.length + 1 ≤ _; omega, fun r2 hr2 => ?_⟩
          have u2 := Go.new (T := T) (M := []) (o := .lst (ts.map V.str ++ [V.str "number"])) hr2
          refine ⟨by show 6 ≤ sizeLine; decide, fun r3 hr3 => ?_⟩
          have u3 := Go.new (T := T) (M := []) (o := .lst [.int 0, .int 1, .int 2, .int 2, .int 3, .int 4]) hr3
          have uu := (u1.trans u2).trans u3
          have Wb := Wa.go uu
          have Gb := Ga.trans uu.of0
          refine ⟨_, rfl, a, l, k + 200 + 800 * i + 2 + 60 * j + 31, 6, rfl, by decide, by decide, by omega, Wb.up (by omega), Gb.tb (gg.tb ht), fun i9 H12 j90 j91 W12 g12 t12 => ?_⟩
          obtain ⟨m9, em9, n9, m9'⟩ := at012 j90 j91
          refine ⟨r3, _, i9, _, rfl, rfl, SqL.of (g12.lst upd_same (nin ((Wa.go (u1.trans u2)).ne hr3))), em9, m9, rfl, by omega, by omega, fun D hD => ?_⟩
          have nD := W12.ne hD
          have er2 : H12 r2 = some (.lst (ts.map V.str ++ [V.str "number"])) := g12.lst (u3.lst upd_same (nn _)) (nin ((Wa.go u1).ne hr2))
          have nD2 : r2 ≠ D := ne_of_none er2 hD
          have all9 : ∀ v ∈ (ts.map V.str ++ [V.str "number"]), ∃ z, v = V.str z ∧ fdIn ts z := fun v hv => by
            rcases List.mem_append.mp hv with z | z
            · obtain ⟨y, hy, rfl⟩ := List.mem_map.mp z
              exact ⟨y, rfl, ⟨(hx y hy).old.1, (hx y hy).old.2.2⟩, .inr hy⟩
            · rw [List.mem_singleton.mp z]
              exact ⟨"number", rfl, ⟨by decide +kernel, by decide +kernel⟩, .inl rfl⟩
          have G12 := Gb.trans (g12.more up6)
          have c1 := g12.lst (uu.lst b1 (nn _)) (nin nt)
          have c2 := g12.lst (uu.lst b2 (nn _)) (nin nm)
          have c3 := g12.lst (uu.lst b3 (nn _)) (nin nf)
          have c4 := g12.lst (uu.lst b4 (nn _)) (nin ns)
          have dC := (dA.go uu.of0).go (g12.more up6)
          refine lc_it (walk_range (lo := 0) (n := m9.toNat)) (fun i' H' => Go T [a, l] H12 H' ∧ WellAt a l H' (k + 200 + 800 * i + 2 + 60 * j + 32 + i') ∧ ∃ fs : List Str, H' D = some (.lst (fs.map V.str)) ∧ fs.length = i' ∧ ∀ x ∈ fs, fdIn ts x)
            ⟨Go.new hD, (W12.set nD).up (by omega), [], upd_same, rfl, by simp⟩ (fun _ _ _ _ => trivial) (fun i' x H13 H14 hi' h y => ?_) (fun H13 h => ?_)
          · obtain ⟨v1, v2, fs, v3, v4, v5⟩ := h
            obtain ⟨rfl, rfl⟩ := y
            have er := v1.lst er2 (nin ((Wa.go u1).ne hr2))
            refine ⟨rfl, _, rfl, _, rfl, _, rfl, r2, _, rfl, .inl (SqL.of er), a, l, k + 200 + 800 * i + 2 + 60 * j + 32 + i', _, rfl, by rw [List.length_append, List.length_singleton]; omega, by rw [List.length_append, List.length_map, List.length_singleton]; omega, by omega, v2, v1.tb t12, fun ib Hb jb0 jb1 Wb' gb tb => ?_⟩
            obtain ⟨vo, eo, mo⟩ := at_ok jb0 jb1
            obtain ⟨z, rfl, hz⟩ := all9 _ mo
            have v3' := gb.lst v3 (nin nD)
            refine ⟨r2, _, ib, _, rfl, rfl, SqL.of (gb.lst er (nin ((Wa.go u1).ne hr2))), eo, _, v3', by rw [List.length_map, sizeLine_eq]; omega, (v1.trans gb).over hD v3' (fun _ z => by cases z), (Wb'.set nD).up (by omega), fs ++ [z], by rw [upd_same, List.map_append] <;> rfl, by rw [List.length_append, v4] <;> rfl, fun x hx' => ?_⟩
            rcases List.mem_append.mp hx' with w | w
            · exact v5 x w
            · rw [List.mem_singleton.mp w]; exact hz
          · obtain ⟨v1, v2, fs, v3, v4, v5⟩ := h
            have lf4 : fs.length ≤ 4 := by omega
            have Gc := G12.trans (v1.more up6)
            have d1 := v1.lst c1 (nin nt)
            have d2 := v1.lst c2 (nin nm)
            have d3 := v1.lst c3 (nin nf)
            have d4 := v1.lst c4 (nin ns)
            have dD := dC.go (v1.more up6)
            refine ⟨_, rfl, rfl, _, rfl, ?_⟩
            by_cases hj0 : (0 : Int) + (j : Int) = 0
            · refine if_true_of (decide_eq_true (show V.int (0 + (j : Int)) = V.int 0 by rw [hj0])) ?_
              refine ⟨_, rfl, a, l, k + 200 + 800 * i + 2 + 60 * j + 36, 4, rfl, by decide, by decide, by omega, v2.up (by omega), v1.tb t12, fun ic Hc jc0 jc1 Wc gc tc => ⟨_, _, rfl, rfl, _, rfl, ?_⟩⟩
              have Gd := Gc.trans (gc.more up6)
              have w1 := gc.lst d1 (nin nt)
              have w2 := gc.lst d2 (nin nm)
              have w3 := gc.lst d3 (nin nf)
              have w4 := gc.lst d4 (nin ns)
              have dE := dD.go (gc.more up6)
              have eD := gc.lst v3 (nin nD)
              by_cases hc0 : (0 : Int) < ic
              · refine if_true_of (decide_eq_true hc0) ?_
                refine ⟨_, rfl, D, rfl, ⟨_, SqL.of eD⟩, fun D2 hD2 => ?_⟩
                refine lc_it walk_list (fun i' H' => Go T [] Hc H' ∧ ∃ gs : List Str, H' D2 = some (.lst (gs.map V.str)) ∧ gs.length ≤ i' ∧ ∀ x ∈ gs, fdIn ts x) ⟨Go.new hD2, [], upd_same, Nat.le_refl _, by simp⟩ (fun i' H' _ h => SqL.of (h.1.lst eD (nn _))) (fun i' x H15 H16 hi' h y => ?_) (fun H15 h => ?_)
                · obtain ⟨z1, gs, z2, z3, z4⟩ := h
                  obtain ⟨rfl, ex⟩ := y
                  rw [List.getElem?_map] at ex
                  obtain ⟨xf, exf, rfl⟩ := Option.map_eq_some_iff.mp ex
                  rw [List.length_map] at hi'
                  refine ⟨rfl, _, rfl, rfl, _, rfl, ?_⟩
                  show if decide _ = true then _ else _
                  split
                  · refine ⟨_, rfl, _, z2, by rw [List.length_map, sizeLine_eq]; omega, z1.over hD2 z2 (fun _ z => by cases z), gs ++ [xf], by rw [upd_same, List.map_append] <;> rfl, by rw [List.length_append, List.length_singleton]; omega, fun x hx' => ?_⟩
                    rcases List.mem_append.mp hx' with w | w
                    · exact z4 x w
                    · rw [List.mem_singleton.mp w]; exact v5 xf (List.mem_of_getElem? exf)
                  · exact ⟨z1, gs, z2, by omega, z4⟩
                · obtain ⟨z1, gs, z2, z3, z4⟩ := h
                  rw [List.length_map] at z3
                  refine ⟨_, rfl, .inl ⟨rfl, _, SqL.of (z1.lst w4 (nn _))⟩, _, rfl, _, rfl, .inl ⟨D2, _, rfl, SqL.of z2, fun t1 ht1 => ⟨by show 2 ≤ sizeLine; decide, fun t2 ht2 => ?_⟩⟩⟩
                  have x1 := Go.new (T := T) (M := []) (o := .tup ((gs).map V.str)) ht1
                  have x2 := Go.new (T := T) (M := []) (o := .tup [.str ti, .ref t1]) ht2
                  have xx := x1.trans x2
                  have n6 : ∀ p : Addr, H15 p = none → p ∉ [ss, a, l, tt, mm, ff] := fun p hp => by
                    have w := ((Wc.go z1)).ne hp
                    simp [w.1, w.2, (ne_of_none (z1.lst w1 (nn _)) hp).symm, (ne_of_none (z1.lst w2 (nn _)) hp).symm, (ne_of_none (z1.lst w3 (nn _)) hp).symm, (ne_of_none (z1.lst w4 (nn _)) hp).symm]
                  have y4 := xx.lst (z1.lst w4 (nn _)) (nn _)
                  have lw := ((dE.go z1.of0)).length
                  have Gs := Go.set (T := T) (M := [ss, a, l, tt, mm, ff]) (o := .lst (ws ++ [V.ref t2])) y4 (fun _ z => by cases z) (by simp)
                  refine ⟨ss, ws, _, rfl, rfl, y4, by rw [sizeLine_eq]; omega, ms' ++ [ti], ws ++ [.ref t2], es ++ [.tuple [.str ti, .tuple ((gs).map .str)]], _, _, _, _, rfl, (((Gd.trans z1.of0)).trans xx.of0).trans Gs, ((((Wc.go z1)).go xx).set ns).up (by omega), ?_, ?_, by rw [List.length_append, List.length_singleton]; omega, ?_, ?_, upd_same, ?_, by rw [List.length_append, les] <;> rfl, ?_, ?_, nodup_snoc hmn hin, ?_⟩
                  · rw [upd_ne st]; exact xx.lst (z1.lst w1 (nn _)) (nn _)
                  · rw [upd_ne sm]; exact xx.lst (z1.lst w2 (nn _)) (nn _)
                  · intro y hy
                    rcases List.mem_append.mp hy with z | z
                    · exact hms y z
                    · rw [List.mem_singleton.mp z]; exact hti
                  · rw [upd_ne sf]; exact xx.lst (z1.lst w3 (nn _)) (nn _)
                  · refine DvAll.go (T := T) (DvAll.append (((dE.go z1.of0)).go xx.of0) (.cons (.tup upd_same (n6 t2 (x1.al _ ht2)) (.cons (.str _) (.cons (.tup ((x2.tup upd_same (nn _))) (n6 t1 ht1) (DvAll.strs _)) .nil))) .nil)) Gs
                  · intro d hd'
                    rcases List.mem_append.mp hd' with z | z
                    · exact hes d z
                    · rw [List.mem_singleton.mp z]; exact maker_ok hti (fun x hx => (z4 x hx).1) (by omega : gs.length ≤ 4)
                  · rw [hme, List.map_append, List.append_assoc] <;> rfl
                  · intro d hd'
                    rcases List.mem_append.mp hd' with z | z
                    · exact heg d z
                    · rw [List.mem_singleton.mp z]; exact maker_good hti z4 (by omega : gs.length ≤ 4)
              · refine if_false_of (decide_eq_false hc0) ?_
                refine ⟨_, rfl, .inl ⟨rfl, _, SqL.of w4⟩, _, rfl, _, rfl, .inl ⟨D, _, rfl, SqL.of eD, fun t1 ht1 => ⟨by show 2 ≤ sizeLine; decide, fun t2 ht2 => ?_⟩⟩⟩
                have x1 := Go.new (T := T) (M := []) (o := .tup ((fs).map V.str)) ht1
                have x2 := Go.new (T := T) (M := []) (o := .tup [.str ti, .ref t1]) ht2
                have xx := x1.trans x2
                have n6 : ∀ p : Addr, Hc p = none → p ∉ [ss, a, l, tt, mm, ff] := fun p hp => by
                  have w := (Wc).ne hp
                  simp [w.1, w.2, (ne_of_none w1 hp).symm, (ne_of_none w2 hp).symm, (ne_of_none w3 hp).symm, (ne_of_none w4 hp).symm]
                have y4 := xx.lst w4 (nn _)
                have lw := (dE).length
                have Gs := Go.set (T := T) (M := [ss, a, l, tt, mm, ff]) (o := .lst (ws ++ [V.ref t2])) y4 (fun _ z => by cases z) (by simp)
                refine ⟨ss, ws, _, rfl, rfl, y4, by rw [sizeLine_eq]; omega, ms' ++ [ti], ws ++ [.ref t2], es ++ [.tuple [.str ti, .tuple ((fs).map .str)]], _, _, _, _, rfl, ((Gd).trans xx.of0).trans Gs, (((Wc).go xx).set ns).up (by omega), ?_, ?_, by rw [List.length_append, List.length_singleton]; omega, ?_, ?_, upd_same, ?_, by rw [List.length_append, les] <;> rfl, ?_, ?_, nodup_snoc hmn hin, ?_⟩
                · rw [upd_ne st]; exact xx.lst w1 (nn _)
                · rw [upd_ne sm]; exact xx.lst w2 (nn _)
                · intro y hy
                  rcases List.mem_append.mp hy with z | z
                  · exact hms y z
                  · rw [List.mem_singleton.mp z]; exact hti
                · rw [upd_ne sf]; exact xx.lst w3 (nn _)
                · refine DvAll.go (T := T) (DvAll.append ((dE).go xx.of0) (.cons (.tup upd_same (n6 t2 (x1.al _ ht2)) (.cons (.str _) (.cons (.tup ((x2.tup upd_same (nn _))) (n6 t1 ht1) (DvAll.strs _)) .nil))) .nil)) Gs
                · intro d hd'
                  rcases List.mem_append.mp hd' with z | z
                  · exact hes d z
                  · rw [List.mem_singleton.mp z]; exact maker_ok hti (fun x hx => (v5 x hx).1) lf4
                · rw [hme, List.map_append, List.append_assoc] <;> rfl
                · intro d hd'
                  rcases List.mem_append.mp hd' with z | z
                  · exact heg d z
                  · rw [List.mem_singleton.mp z]; exact maker_good hti v5 lf4
            · refine if_false_of (decide_eq_false fun z => hj0 (V.int.inj z)) ?_
              refine ⟨_, rfl, .inl ⟨rfl, _, SqL.of d4⟩, _, rfl, _, rfl, .inl ⟨D, _, rfl, SqL.of v3, fun t1 ht1 => ⟨by show 2 ≤ sizeLine; decide, fun t2 ht2 => ?_⟩⟩⟩
              have x1 := Go.new (T := T) (M := []) (o := .tup ((fs).map V.str)) ht1
              have x2 := Go.new (T := T) (M := []) (o := .tup [.str ti, .ref t1]) ht2
              have xx := x1.trans x2
              have n6 : ∀ p : Addr, H13 p = none → p ∉ [ss, a, l, tt, mm, ff] := fun p hp => by
                have w := (v2).ne hp
                simp [w.1, w.2, (ne_of_none d1 hp).symm, (ne_of_none d2 hp).symm, (ne_of_none d3 hp).symm, (ne_of_none d4 hp).symm]
              have y4 := xx.lst d4 (nn _)
              have lw := (dD).length
              have Gs := Go.set (T := T) (M := [ss, a, l, tt, mm, ff]) (o := .lst (ws ++ [V.ref t2])) y4 (fun _ z => by cases z) (by simp)
              refine ⟨ss, ws, _, rfl, rfl, y4, by rw [sizeLine_eq]; omega, ms' ++ [ti], ws ++ [.ref t2], es ++ [.tuple [.str ti, .tuple ((fs).map .str)]], _, _, _, _, rfl, ((Gc).trans xx.of0).trans Gs, (((v2).go xx).set ns).up (by omega), ?_, ?_, by rw [List.length_append, List.length_singleton]; omega, ?_, ?_, upd_same, ?_, by rw [List.length_append, les] <;> rfl, ?_, ?_, nodup_snoc hmn hin, ?_⟩
              · rw [upd_ne st]; exact xx.lst d1 (nn _)
              · rw [upd_ne sm]; exact xx.lst d2 (nn _)
              · intro y hy
                rcases List.mem_append.mp hy with z | z
                · exact hms y z
                · rw [List.mem_singleton.mp z]; exact hti
              · rw [upd_ne sf]; exact xx.lst d3 (nn _)
              · refine DvAll.go (T := T) (DvAll.append ((dD).go xx.of0) (.cons (.tup upd_same (n6 t2 (x1.al _ ht2)) (.cons (.str _) (.cons (.tup ((x2.tup upd_same (nn _))) (n6 t1 ht1) (DvAll.strs _)) .nil))) .nil)) Gs
              · intro d hd'
                rcases List.mem_append.mp hd' with z | z
                · exact hes d z
                · rw [List.mem_singleton.mp z]; exact maker_ok hti (fun x hx => (v5 x hx).1) lf4
              · rw [hme, List.map_append, List.append_assoc] <;> rfl
              · intro d hd'
                rcases List.mem_append.mp hd' with z | z
                · exact heg d z
                · rw [List.mem_singleton.mp z]; exact maker_good hti v5 lf4
        · refine if_false_of (decide_eq_false fun z => h0 (V.int.inj z)) ?_
          refine ⟨_, rfl, .inl ⟨rfl, _, SqL.of k2⟩, _, rfl, mm, _, _, rfl, rfl, k2, by rw [List.length_map, sizeLine_eq]; omega, ?_⟩
          have Ga := (G11).trans (Go.set (T := T) (M := [ss, a, l, tt, mm, ff]) (o := .lst (ms'.map V.str ++ [V.str xn])) k2 (fun _ z => by cases z) (by simp))
          have Wa := WellAt.set (o := .lst (ms'.map V.str ++ [V.str xn])) W11 nm
          have b1 : upd H11 mm (.lst (ms'.map V.str ++ [V.str xn])) tt = some (.lst (ts.map V.str)) := by rw [upd_ne tm]; exact k1
          have b2 : upd H11 mm (.lst (ms'.map V.str ++ [V.str xn])) mm = some (.lst ((ms' ++ [xn]).map V.str)) := by rw [upd_same, List.map_append] <;> rfl
          have b3 : upd H11 mm (.lst (ms'.map V.str ++ [V.str xn])) ff = some (.lst vs) := by rw [upd_ne mf.symm]; exact k3
          have b4 : upd H11 mm (.lst (ms'.map V.str ++ [V.str xn])) ss = some (.lst ws) := by rw [upd_ne sm.symm]; exact k4
          have dA := (dw11).go (Go.set (T := T) (M := [ss, a, l, tt, mm, ff]) (o := .lst (ms'.map V.str ++ [V.str xn])) k2 (fun _ z => by cases z) (by simp))
          refine ⟨_, rfl, by show 1 ≤ sizeLine; decide, fun r1 hr1 => ?_⟩
          have u1 := Go.new (T := T) (M := []) (o := .lst [.str "number"]) hr1
          refine ⟨tt, r1, _, _, rfl, rfl, u1.lst b1 (nn _), upd_same, by rw [List.length_map, sizeLine_eq]; show ts.length + 1 ≤ _; omega, fun r2 hr2 => ?_⟩
          have u2 := Go.new (T := T) (M := []) (o := .lst (ts.map V.str ++ [V.str "number"])) hr2
          refine ⟨by show 6 ≤ sizeLine; decide, fun r3 hr3 => ?_⟩
          have u3 := Go.new (T := T) (M := []) (o := .lst [.int 0, .int 1, .int 2, .int 2, .int 3, .int 4]) hr3
          have uu := (u1.trans u2).trans u3
          have Wb := Wa.go uu
          have Gb := Ga.trans uu.of0
          refine ⟨_, rfl, a, l, k + 200 + 800 * i + 2 + 60 * j + 31, 6, rfl, by decide, by decide, by omega, Wb.up (by omega), Gb.tb (gg.tb ht), fun i9 H12 j90 j91 W12 g12 t12 => ?_⟩
          obtain ⟨m9, em9, n9, m9'⟩ := at012 j90 j91
          refine ⟨r3, _, i9, _, rfl, rfl, SqL.of (g12.lst upd_same (nin ((Wa.go (u1.trans u2)).ne hr3))), em9, m9, rfl, by omega, by omega, fun D hD => ?_⟩
          have nD := W12.ne hD
          have er2 : H12 r2 = some (.lst (ts.map V.str ++ [V.str "number"])) := g12.lst (u3.lst upd_same (nn _)) (nin ((Wa.go u1).ne hr2))
          have nD2 : r2 ≠ D := ne_of_none er2 hD
          have all9 : ∀ v ∈ (ts.map V.str ++ [V.str "number"]), ∃ z, v = V.str z ∧ fdIn ts z := fun v hv => by
            rcases List.mem_append.mp hv with z | z
            · obtain ⟨y, hy, rfl⟩ := List.mem_map.mp z
              exact ⟨y, rfl, ⟨(hx y hy).old.1, (hx y hy).old.2.2⟩, .inr hy⟩
            · rw [List.mem_singleton.mp z]
              exact ⟨"number", rfl, ⟨by decide +kernel, by decide +kernel⟩, .inl rfl⟩
          have G12 := Gb.trans (g12.more up6)
          have c1 := g12.lst (uu.lst b1 (nn _)) (nin nt)
          have c2 := g12.lst (uu.lst b2 (nn _)) (nin nm)
          have c3 := g12.lst (uu.lst b3 (nn _)) (nin nf)
          have c4 := g12.lst (uu.lst b4 (nn _)) (nin ns)
          have dC := (dA.go uu.of0).go (g12.more up6)
          refine lc_it (walk_range (lo := 0) (n := m9.toNat)) (fun i' H' => Go T [a, l] H12 H' ∧ WellAt a l H' (k + 200 + 800 * i + 2 + 60 * j + 32 + i') ∧ ∃ fs : List Str, H' D = some (.lst (fs.map V.str)) ∧ fs.length = i' ∧ ∀ x ∈ fs, fdIn ts x)
            ⟨Go.new hD, (W12.set nD).up (by omega), [], upd_same, rfl, by simp⟩ (fun _ _ _ _ => trivial) (fun i' x H13 H14 hi' h y => ?_) (fun H13 h => ?_)
          · obtain ⟨v1, v2, fs, v3, v4, v5⟩ := h
            obtain ⟨rfl, rfl⟩ := y
            have er := v1.lst er2 (nin ((Wa.go u1).ne hr2))
            refine ⟨rfl, _, rfl, _, rfl, _, rfl, r2, _, rfl, .inl (SqL.of er), a, l, k + 200 + 800 * i + 2 + 60 * j + 32 + i', _, rfl, by rw [List.length_append, List.length_singleton]; omega, by rw [List.length_append, List.length_map, List.length_singleton]; omega, by omega, v2, v1.tb t12, fun ib Hb jb0 jb1 Wb' gb tb => ?_⟩
            obtain ⟨vo, eo, mo⟩ := at_ok jb0 jb1
            obtain ⟨z, rfl, hz⟩ := all9 _ mo
            have v3' := gb.lst v3 (nin nD)
            refine ⟨r2, _, ib, _, rfl, rfl, SqL.of (gb.lst er (nin ((Wa.go u1).ne hr2))), eo, _, v3', by rw [List.length_map, sizeLine_eq]; omega, (v1.trans gb).over hD v3' (fun _ z => by cases z), (Wb'.set nD).up (by omega), fs ++ [z], by rw [upd_same, List.map_append] <;> rfl, by rw [List.length_append, v4] <;> rfl, fun x hx' => ?_⟩
            rcases List.mem_append.mp hx' with w | w
            · exact v5 x w
            · rw [List.mem_singleton.mp w]; exact hz
          · obtain ⟨v1, v2, fs, v3, v4, v5⟩ := h
            have lf4 : fs.length ≤ 4 := by omega
            have Gc := G12.trans (v1.more up6)
            have d1 := v1.lst c1 (nin nt)
            have d2 := v1.lst c2 (nin nm)
            have d3 := v1.lst c3 (nin nf)
            have d4 := v1.lst c4 (nin ns)
            have dD := dC.go (v1.more up6)
            refine ⟨_, rfl, rfl, _, rfl, ?_⟩
            by_cases hj0 : (0 : Int) + (j : Int) = 0
            · refine if_true_of (decide_eq_true (show V.int (0 + (j : Int)) = V.int 0 by rw [hj0])) ?_
              refine ⟨_, rfl, a, l, k + 200 + 800 * i + 2 + 60 * j + 36, 4, rfl, by decide, by decide, by omega, v2.up (by omega), v1.tb t12, fun ic Hc jc0 jc1 Wc gc tc => ⟨_, _, rfl, rfl, _, rfl, ?_⟩⟩
              have Gd := Gc.trans (gc.more up6)
              have w1 := gc.lst d1 (nin nt)
              have w2 := gc.lst d2 (nin nm)
              have w3 := gc.lst d3 (nin nf)
              have w4 := gc.lst d4 (nin ns)
              have dE := dD.go (gc.more up6)
              have eD := gc.lst v3 (nin nD)
              by_cases hc0 : (0 : Int) < ic
              · refine if_true_of (decide_eq_true hc0) ?_
                refine ⟨_, rfl, D, rfl, ⟨_, SqL.of eD⟩, fun D2 hD2 => ?_⟩
                refine lc_it walk_list (fun i' H' => Go T [] Hc H' ∧ ∃ gs : List Str, H' D2 = some (.lst (gs.map V.str)) ∧ gs.length ≤ i' ∧ ∀ x ∈ gs, fdIn ts x) ⟨Go.new hD2, [], upd_same, Nat.le_refl _, by simp⟩ (fun i' H' _ h => SqL.of (h.1.lst eD (nn _))) (fun i' x H15 H16 hi' h y => ?_) (fun H15 h => ?_)
                · obtain ⟨z1, gs, z2, z3, z4⟩ := h
                  obtain ⟨rfl, ex⟩ := y
                  rw [List.getElem?_map] at ex
                  obtain ⟨xf, exf, rfl⟩ := Option.map_eq_some_iff.mp ex
                  rw [List.length_map] at hi'
                  refine ⟨rfl, _, rfl, rfl, _, rfl, ?_⟩
                  show if decide _ = true then _ else _
                  split
                  · refine ⟨_, rfl, _, z2, by rw [List.length_map, sizeLine_eq]; omega, z1.over hD2 z2 (fun _ z => by cases z), gs ++ [xf], by rw [upd_same, List.map_append] <;> rfl, by rw [List.length_append, List.length_singleton]; omega, fun x hx' => ?_⟩
                    rcases List.mem_append.mp hx' with w | w
                    · exact z4 x w
                    · rw [List.mem_singleton.mp w]; exact v5 xf (List.mem_of_getElem? exf)
                  · exact ⟨z1, gs, z2, by omega, z4⟩
                · obtain ⟨z1, gs, z2, z3, z4⟩ := h
                  rw [List.length_map] at z3
                  refine ⟨_, rfl, .inl ⟨rfl, _, SqL.of (z1.lst w4 (nn _))⟩, _, rfl, _, rfl, .inl ⟨D2, _, rfl, SqL.of z2, fun t1 ht1 => ⟨by show 2 ≤ sizeLine; decide, fun t2 ht2 => ?_⟩⟩⟩
                  have x1 := Go.new (T := T) (M := []) (o := .tup ((gs).map V.str)) ht1
                  have x2 := Go.new (T := T) (M := []) (o := .tup [.str xn, .ref t1]) ht2
                  have xx := x1.trans x2
                  have n6 : ∀ p : Addr, H15 p = none → p ∉ [ss, a, l, tt, mm, ff] := fun p hp => by
                    have w := ((Wc.go z1)).ne hp
                    simp [w.1, w.2, (ne_of_none (z1.lst w1 (nn _)) hp).symm, (ne_of_none (z1.lst w2 (nn _)) hp).symm, (ne_of_none (z1.lst w3 (nn _)) hp).symm, (ne_of_none (z1.lst w4 (nn _)) hp).symm]
                  have y4 := xx.lst (z1.lst w4 (nn _)) (nn _)
                  have lw := ((dE.go z1.of0)).length
                  have Gs := Go.set (T := T) (M := [ss, a, l, tt, mm, ff]) (o := .lst (ws ++ [V.ref t2])) y4 (fun _ z => by cases z) (by simp)
                  refine ⟨ss, ws, _, rfl, rfl, y4, by rw [sizeLine_eq]; omega, ms' ++ [xn], ws ++ [.ref t2], es ++ [.tuple [.str xn, .tuple ((gs).map .str)]], _, _, _, _, rfl, (((Gd.trans z1.of0)).trans xx.of0).trans Gs, ((((Wc.go z1)).go xx).set ns).up (by omega), ?_, ?_, by rw [List.length_append, List.length_singleton]; omega, ?_, ?_, upd_same, ?_, by rw [List.length_append, les] <;> rfl, ?_, ?_, nodup_snoc hmn nxn, ?_⟩
                  · rw [upd_ne st]; exact xx.lst (z1.lst w1 (nn _)) (nn _)
                  · rw [upd_ne sm]; exact xx.lst (z1.lst w2 (nn _)) (nn _)
                  · intro y hy
                    rcases List.mem_append.mp hy with z | z
                    · exact hms y z
                    · rw [List.mem_singleton.mp z]; exact hxn
                  · rw [upd_ne sf]; exact xx.lst (z1.lst w3 (nn _)) (nn _)
                  · refine DvAll.go (T := T) (DvAll.append (((dE.go z1.of0)).go xx.of0) (.cons (.tup upd_same (n6 t2 (x1.al _ ht2)) (.cons (.str _) (.cons (.tup ((x2.tup upd_same (nn _))) (n6 t1 ht1) (DvAll.strs _)) .nil))) .nil)) Gs
                  · intro d hd'
                    rcases List.mem_append.mp hd' with z | z
                    · exact hes d z
                    · rw [List.mem_singleton.mp z]; exact maker_ok hxn (fun x hx => (z4 x hx).1) (by omega : gs.length ≤ 4)
                  · rw [hme, List.map_append, List.append_assoc] <;> rfl
                  · intro d hd'
                    rcases List.mem_append.mp hd' with z | z
                    · exact heg d z
                    · rw [List.mem_singleton.mp z]; exact maker_good hxn z4 (by omega : gs.length ≤ 4)
              · refine if_false_of (decide_eq_false hc0) ?_
                refine ⟨_, rfl, .inl ⟨rfl, _, SqL.of w4⟩, _, rfl, _, rfl, .inl ⟨D, _, rfl, SqL.of eD, fun t1 ht1 => ⟨by show 2 ≤ sizeLine; decide, fun t2 ht2 => ?_⟩⟩⟩
                have x1 := Go.new (T := T) (M := []) (o := .tup ((fs).map V.str)) ht1
                have x2 := Go.new (T := T) (M := []) (o := .tup [.str xn, .ref t1]) ht2
                have xx := x1.trans x2
                have n6 : ∀ p : Addr, Hc p = none → p ∉ [ss, a, l, tt, mm, ff] := fun p hp => by
                  have w := (Wc).ne hp
                  simp [w.1, w.2, (ne_of_none w1 hp).symm, (ne_of_none w2 hp).symm, (ne_of_none w3 hp).symm, (ne_of_none w4 hp).symm]
                have y4 := xx.lst w4 (nn _)
                have lw := (dE).length
                have Gs := Go.set (T := T) (M := [ss, a, l, tt, mm, ff]) (o := .lst (ws ++ [V.ref t2])) y4 (fun _ z => by cases z) (by simp)
                refine ⟨ss, ws, _, rfl, rfl, y4, by rw [sizeLine_eq]; omega, ms' ++ [xn], ws ++ [.ref t2], es ++ [.tuple [.str xn, .tuple ((fs).map .str)]], _, _, _, _, rfl, ((Gd).trans xx.of0).trans Gs, (((Wc).go xx).set ns).up (by omega), ?_, ?_, by rw [List.length_append, List.length_singleton]; omega, ?_, ?_, upd_same, ?_, by rw [List.length_append, les] <;> rfl, ?_, ?_, nodup_snoc hmn nxn, ?_⟩
                · rw [upd_ne st]; exact xx.lst w1 (nn _)
                · rw [upd_ne sm]; exact xx.lst w2 (nn _)
                · intro y hy
                  rcases List.mem_append.mp hy with z | z
                  · exact hms y z
                  · rw [List.mem_singleton.mp z]; exact hxn
                · rw [upd_ne sf]; exact xx.lst w3 (nn _)
                · refine DvAll.go (T := T) (DvAll.append ((dE).go xx.of0) (.cons (.tup upd_same (n6 t2 (x1.al _ ht2)) (.cons (.str _) (.cons (.tup ((x2.tup upd_same (nn _))) (n6 t1 ht1) (DvAll.strs _)) .nil))) .nil)) Gs
                · intro d hd'
                  rcases List.mem_append.mp hd' with z | z
                  · exact hes d z
                  · rw [List.mem_singleton.mp z]; exact maker_ok hxn (fun x hx => (v5 x hx).1) lf4
                · rw [hme, List.map_append, List.append_assoc] <;> rfl
                · intro d hd'
                  rcases List.mem_append.mp hd' with z | z
                  · exact heg d z
                  · rw [List.mem_singleton.mp z]; exact maker_good hxn v5 lf4
            · refine if_false_of (decide_eq_false fun z => hj0 (V.int.inj z)) ?_
              refine ⟨_, rfl, .inl ⟨rfl, _, SqL.of d4⟩, _, rfl, _, rfl, .inl ⟨D, _, rfl, SqL.of v3, fun t1 ht1 => ⟨by show 2 ≤ sizeLine; decide, fun t2 ht2 => ?_⟩⟩⟩
              have x1 := Go.new (T := T) (M := []) (o := .tup ((fs).map V.str)) ht1
              have x2 := Go.new (T := T) (M := []) (o := .tup [.str xn, .ref t1]) ht2
              have xx := x1.trans x2
              have n6 : ∀ p : Addr, H13 p = none → p ∉ [ss, a, l, tt, mm, ff] := fun p hp => by
                have w := (v2).ne hp
                simp [w.1, w.2, (ne_of_none d1 hp).symm, (ne_of_none d2 hp).symm, (ne_of_none d3 hp).symm, (ne_of_none d4 hp).symm]
              have y4 := xx.lst d4 (nn _)
              have lw := (dD).length
              have Gs := Go.set (T := T) (M := [ss, a, l, tt, mm, ff]) (o := .lst (ws ++ [V.ref t2])) y4 (fun _ z => by cases z) (by simp)
              refine ⟨ss, ws, _, rfl, rfl, y4, by rw [sizeLine_eq]; omega, ms' ++ [xn], ws ++ [.ref t2], es ++ [.tuple [.str xn, .tuple ((fs).map .str)]], _, _, _, _, rfl, ((Gc).trans xx.of0).trans Gs, (((v2).go xx).set ns).up (by omega), ?_, ?_, by rw [List.length_append, List.length_singleton]; omega, ?_, ?_, upd_same, ?_, by rw [List.length_append, les] <;> rfl, ?_, ?_, nodup_snoc hmn nxn, ?_⟩
              · rw [upd_ne st]; exact xx.lst d1 (nn _)
              · rw [upd_ne sm]; exact xx.lst d2 (nn _)
              · intro y hy
                rcases List.mem_append.mp hy with z | z
                · exact hms y z
                · rw [List.mem_singleton.mp z]; exact hxn
              · rw [upd_ne sf]; exact xx.lst d3 (nn _)
              · refine DvAll.go (T := T) (DvAll.append ((dD).go xx.of0) (.cons (.tup upd_same (n6 t2 (x1.al _ ht2)) (.cons (.str _) (.cons (.tup ((x2.tup upd_same (nn _))) (n6 t1 ht1) (DvAll.strs _)) .nil))) .nil)) Gs
              · intro d hd'
                rcases List.mem_append.mp hd' with z | z
                · exact hes d z
                · rw [List.mem_singleton.mp z]; exact maker_ok hxn (fun x hx => (v5 x hx).1) lf4
              · rw [hme, List.map_append, List.append_assoc] <;> rfl
              · intro d hd'
                rcases List.mem_append.mp hd' with z | z
                · exact heg d z
                · rw [List.mem_singleton.mp z]; exact maker_good hxn v5 lf4
    · obtain ⟨ms', ws, es, p5, p8, p9, p10, rfl, G8, W8, f1, f2, lms, hms, f3, f4, dw, les, hes, hme, hmn, heg⟩ := h
      have lw := dw.length
      refine ⟨_, rfl, _, rfl, ss, _, rfl, .inl (SqL.of f4), a, l, k + 200 + 800 * i + 2 + 360, _, rfl, by omega, by omega, by omega, W8.up (by omega), G8.tb (gg.tb ht), fun it H9 jt0 jt1 W9 g9 t9 => ?_⟩
      have G9 := G8.trans (g9.more up6)
      have h1 := g9.lst f1 (nin nt)
      have h2 := g9.lst f2 (nin nm)
      have h3 := g9.lst f3 (nin nf)
      have h4 := g9.lst f4 (nin ns)
      have dw9 := dw.go (g9.more up6)
      refine ⟨_, rfl, .inl ⟨rfl, _, SqL.of h3⟩, _, rfl, _, rfl, _, rfl, _, rfl, ?_⟩
      refine ⟨ss, ws, rfl, SqL.of h4, fun q2 hq2 => ⟨_, rfl, _, rfl, _, rfl, ss, ws, rfl, SqL.of ((Go.new (T := T) (M := []) (o := .lst (cutV ws (some it) none)) hq2).lst h4 (nn _)), fun q3 hq3 => ?_⟩⟩
      have z2 := Go.new (T := T) (M := []) (o := .lst (cutV ws (some it) none)) hq2
      have z3 := Go.new (T := T) (M := []) (o := .lst (cutV ws none (some it))) hq3
      have L1 := cutV_length ws (some it) none
      have L2 := cutV_length ws none (some it)
      refine ⟨q2, q3, _, _, rfl, rfl, z3.lst upd_same (nn _), upd_same, by rw [sizeLine_eq]; omega, fun q4 hq4 => .inl ⟨q4, _, rfl, SqL.of upd_same, fun t1 ht1 => ⟨by show 2 ≤ sizeLine; decide, fun t2 ht2 => ?_⟩⟩⟩
      have z4 := Go.new (T := T) (M := []) (o := .lst (cutV ws (some it) none ++ cutV ws none (some it))) hq4
      have x1 := Go.new (T := T) (M := []) (o := .tup (cutV ws (some it) none ++ cutV ws none (some it))) ht1
      have x2 := Go.new (T := T) (M := []) (o := .tup [.str ti, .ref t1]) ht2
      have zz := (z2.trans z3).trans z4
      have xx := (zz.trans x1).trans x2
      have n5 : ∀ p : Addr, H9 p = none → p ∉ [a, l, tt, mm, ff] := fun p hp => by
        have w := W9.ne hp
        simp [w.1, w.2, (ne_of_none h1 hp).symm, (ne_of_none h2 hp).symm, (ne_of_none h3 hp).symm]
      have y3 := xx.lst h3 (nn _)
      have Gs := Go.set (T := T) (M := [a, l, tt, mm, ff]) (o := .lst (vs ++ [V.ref t2])) y3 (fun _ z => by cases z) (by simp)
      have lv := dv.length
      have cut6 : ∀ b ∈ [ss, a, l, tt, mm, ff], b ∈ [a, l, tt, mm, ff] ∨ H5 b = none := fun b hb => by
        rcases List.mem_cons.mp hb with rfl | hb
        · exact .inr hss
        · exact .inl hb
      have G5 : Go T [a, l, tt, mm, ff] H5 H9 := G9.cut cut6
      have up5 : ∀ b ∈ [a, l, tt, mm, ff], b ∈ [ss, a, l, tt, mm, ff] := fun b hb => List.mem_cons_of_mem _ hb
      have dX := (dw9.less up5).go (xx.of0 (M := [a, l, tt, mm, ff]))
      obtain ⟨es1, he1⟩ : ∃ e, e = (es.drop (HT.sIx es.length 0 (some it))).take (HT.sIx es.length es.length none - HT.sIx es.length 0 (some it)) := ⟨_, rfl⟩
      obtain ⟨es2, he2⟩ : ∃ e, e = (es.drop (HT.sIx es.length 0 none)).take (HT.sIx es.length es.length (some it) - HT.sIx es.length 0 none) := ⟨_, rfl⟩
      have hpm : (es1 ++ es2).Perm es := by
        rw [he1, he2]
        exact turned_perm jt0 (by rw [← lw]; exact jt1)
      have dcut := (dX.cut (some it) none).append (dX.cut none (some it))
      rw [← he1, ← he2] at dcut
      have lc := dcut.length
      rw [List.length_append, List.length_append] at lc
      refine ⟨ff, vs, _, rfl, rfl, y3, by rw [sizeLine_eq]; omega, ms', vs ++ [.ref t2], ds ++ [.tuple [.str ti, .tuple (es1 ++ es2)]], _, _, _, _, _, _, _, rfl, ((gg.trans G5).trans xx.of0).trans Gs, ((W9.go xx).set nf).up (by omega), ?_, ?_, by omega, hms, upd_same, ?_, by rw [List.length_append, ld] <;> rfl, ?_, ?_, ?_, hmn, ?_⟩
      · rw [upd_ne tf]; exact xx.lst h1 (nn _)
      · rw [upd_ne mf]; exact xx.lst h2 (nn _)
      · have dvE := ((dv.go G5).go (xx.of0 (M := [a, l, tt, mm, ff])))
        exact DvAll.go (T := T) (DvAll.append dvE (.cons (.tup upd_same (n5 t2 ((zz.trans x1).al _ ht2)) (.cons (.str _) (.cons (.tup (x2.tup upd_same (nn _)) (n5 t1 (zz.al _ ht1)) dcut) .nil))) .nil)) Gs
      · intro d hd'
        rcases List.mem_append.mp hd' with z | z
        · exact hd d z
        · rw [List.mem_singleton.mp z]
          refine kind_ok hti (fun d hd2 => ?_) (by rw [List.length_append]; omega)
          rcases List.mem_append.mp hd2 with y | y
          · rw [he1] at y; exact hes d (List.mem_of_mem_drop (List.mem_of_mem_take y))
          · rw [he2] at y; exact hes d (List.mem_of_mem_drop (List.mem_of_mem_take y))
      · rw [List.map_append, hdt, List.take_add_one, ext] <;> rfl
      · rw [List.flatMap_append, List.map_append, hme]
        refine List.Perm.append hdp ?_
        have e : [PyData.tuple [.str ti, .tuple (es1 ++ es2)]].flatMap kMk = es1 ++ es2 := by simp [kMk, itemsD, sndD]
        rw [e]
        exact hpm.map _
      · intro d hd'
        rcases List.mem_append.mp hd' with z | z
        · exact hdg d z
        · rw [List.mem_singleton.mp z]
          refine kind_good hti (fun m hm2 => heg m (hpm.mem_iff.mp hm2)) (by rw [hpm.length_eq]; omega) (by rw [hpm.length_eq]; omega)
  · obtain ⟨ms, vs, ds, p5, p6, p7, p8, p9, p10, p11, rfl, gg, W4, e1, e2, lm, hm, e3, dv, ld, hd, hdt, hdp, hmnd, hdg⟩ := h
    rw [List.length_map] at ld W4
    have lv := dv.length
    refine ⟨_, rfl, .inl ⟨ff, _, rfl, SqL.of e3, fun t hnew => ?_⟩⟩
    have gn := Go.new (T := T) (M := []) (o := .tup vs) hnew
    have G := (gg.cut fresh).trans gn.of0
    obtain ⟨w1, w2, w3⟩ := all_bd hd
    have wne := W4.ne hnew
    have dE : Dv [a, l] (upd H4 t (.tup vs)) (.ref t) (.tuple ds) := .tup upd_same (nin wne) ((dv.go gn.of0).less up2)
    have dO : drawnOk (.tuple ds) := by
      cases ds with
      | nil => simp at ld; omega
      | cons d r =>
        refine ⟨d, r, rfl, ?_, ?_, ?_⟩
        · rw [wt_tup]
          have : (d :: r).length ≤ 6 := by omega
          omega
        · simp only [nice]
          exact w2
        · simp only [PyData.depth]
          omega
    rw [List.length_map, List.take_length] at hdt
    have dK : kindsB (.tuple ds) = true := kinds_good (by omega) lts htn hdt hdp hmnd hdg
    exact q _ _ _ dE dO dK ((W4.go gn).up (by omega)) G (G.tb ht)
end
end K3
set_option Elab.async false
set_option linter.all false
set_option maxRecDepth 100000
set_option maxHeartbeats 8000000
namespace K3
open PySem PySem.Spec PyProof.Rows L2 GxR NdefX GA SL RZ
abbrev s_joined : Stmt := top 33
abbrev s_words_of : Stmt := top 21
theorem sc_joined : FnScope ["maker", "parts", "most", "words", "part"] ["maker", "parts", "most"] (defScope s_joined) := ⟨rfl, rfl, rfl, by decide +kernel, rfl, by decide +kernel, by decide +kernel⟩
theorem sc_words_of : FnScope ["kinds", "rows", "makers", "found", "maker", "entries", "fields", "parts", "field", "entry"] ["kinds", "rows"] (defScope s_words_of) := ⟨rfl, rfl, rfl, by decide +kernel, rfl, by decide +kernel, by decide +kernel⟩
/-! ### fitting rows -/
/-- a row of the rows, sorts being the kinds of those ahead -/
def rowFit (ks : List PyData) (sorts : List Str) (mn : Str) (es : List Int) : Prop := ∃ kd p m, (kd, p, m) ∈ rowsM ks ∧ SL.mkN m = mn ∧ es.length = (flds m).length ∧ ∀ (j : Nat) f z, (flds m)[j]? = some f → es[j]? = some z → fitE sorts f z
/-- rows of the kinds, sorts being their kinds -/
def rowsFit (ks : List PyData) (rows : List (Str × List Int)) (sorts : List Str) : Prop := sorts.length = rows.length ∧ ∀ (i : Nat) r, rows[i]? = some r → rowFit ks (sorts.take i) r.1 r.2 ∧ ∃ kd p m, (kd, p, m) ∈ rowsM ks ∧ SL.mkN m = r.1 ∧ sorts[i]? = some kd
abbrev rowsD (rows : List (Str × List Int)) : PyData := .tuple (rows.map rowD)
/-- kinds and rows as they are handed in -/
def given (T : List Addr) (H : Hp) (kv rv : V) (ks : List PyData) (rows : List (Str × List Int)) (sorts : List Str) : Prop := Dv [] H kv (.tuple ks) ∧ Dv [] H rv (rowsD rows) ∧ kindsB (.tuple ks) = true ∧ wt (.tuple ks) ≤ 4000000 ∧ 1 ≤ rows.length ∧ rows.length ≤ 96 ∧ rowsFit ks rows sorts ∧ Tabs T H
theorem given.go {T : List Addr} {H H' : Hp} {kv rv : V} {ks : List PyData} {rows : List (Str × List Int)} {sorts : List Str} (h : given T H kv rv ks rows sorts) (g : Go T [] H H') : given T H' kv rv ks rows sorts :=
  ⟨h.1.go g, h.2.1.go g, h.2.2.1, h.2.2.2.1, h.2.2.2.2.1, h.2.2.2.2.2.1, h.2.2.2.2.2.2.1, g.tb h.2.2.2.2.2.2.2⟩
def intD : PyData → Int
  | .int z => z
  | _ => 0
def rowOf (r : PyData) : Str × List Int := (rowNm r, (itemsD (sndD r)).map intD)
theorem ints_back : ∀ {es : List PyData}, (∀ e ∈ es, ∃ z, e = .int z) → es = (es.map intD).map PyData.int
  | [], _ => rfl
  | e :: r, h => by
    obtain ⟨z, rfl⟩ := h e List.mem_cons_self
    rw [List.map_cons, List.map_cons, ← ints_back fun y hy => h y (List.mem_cons_of_mem _ hy)]
    rfl
theorem entB_int {sorts : List Str} {f : Str} {e : PyData} (h : entB sorts f e = true) : ∃ z, e = .int z ∧ fitE sorts f z := by
  cases e with
  | int z =>
    refine ⟨z, rfl, ?_⟩
    simp only [entB, Bool.or_eq_true, Bool.and_eq_true, decide_eq_true_eq] at h
    rcases h with h | ⟨⟨h1, h2⟩, h3⟩
    · exact .inl h
    · exact .inr ⟨z.toNat, by omega, h3⟩
  | _ => simp [entB] at h
theorem rowB_fit {ks : List PyData} (nu : (namesM (rowsM ks)).Nodup) {sorts : List Str} {r : PyData} (h : rowB ks sorts r = true) : r = rowD (rowOf r) ∧ rowFit ks sorts (rowOf r).1 (rowOf r).2 ∧ ∃ kd p m, (kd, p, m) ∈ rowsM ks ∧ SL.mkN m = (rowOf r).1 ∧ kdK ks (rowNm r) = kd := by
  unfold rowB at h
  simp only [Bool.and_eq_true, decide_eq_true_eq] at h
  obtain ⟨⟨⟨⟨b1, b2⟩, b3⟩, b4⟩, b5⟩ := h
  obtain ⟨ux, uy, rfl⟩ := tup2 b1
  obtain ⟨mn, e6⟩ := isStr_of b2
  have e6 : ux = .str mn := e6
  subst e6
  obtain ⟨es, e7, l1, l2⟩ := tupOf b4
  have e7 : uy = .tuple es := e7
  subst e7
  obtain ⟨⟨kd, p, m⟩, hm, hmn⟩ := List.mem_map.mp b3
  have hmn : SL.mkN m = mn := hmn
  have fe : flK ks mn = flds m := by rw [← hmn]; exact flK_eq nu hm
  change ((flK ks mn).length : Int) ≤ _ at l1
  change _ ≤ ((flK ks mn).length : Int) at l2
  change ((List.range (flK ks mn).length).all (entsB sorts (flK ks mn) es)) = true at b5
  rw [fe] at l1 l2 b5
  have at_ : ∀ j f e, (flds m)[j]? = some f → es[j]? = some e → ∃ z, e = PyData.int z ∧ fitE sorts f z := fun j f e h1 h2 => by
    have := List.all_eq_true.mp b5 j (List.mem_range.mpr (List.getElem?_eq_some_iff.mp h1).1)
    unfold entsB at this
    rw [List.getD_eq_getElem?_getD, List.getD_eq_getElem?_getD, h1, h2] at this
    exact entB_int this
  have all_int : ∀ e ∈ es, ∃ z, e = .int z := fun e he => by
    obtain ⟨j, hj, ej⟩ := List.mem_iff_getElem.mp he
    have h2 : es[j]? = some e := by rw [List.getElem?_eq_getElem hj, ej]
    have hj2 : j < (flds m).length := by omega
    obtain ⟨z, hz, _⟩ := at_ j _ e (List.getElem?_eq_getElem hj2) h2
    exact ⟨z, hz⟩
  refine ⟨?_, ⟨kd, p, m, hm, hmn, ?_, fun j f z h1 h2 => ?_⟩, kd, p, m, hm, hmn, ?_⟩
  · show PyData.tuple [.str mn, .tuple es] = .tuple [.str mn, .tuple ((es.map intD).map PyData.int)]
    rw [← ints_back all_int]
  · show (es.map intD).length = _
    rw [List.length_map]
    omega
  · have h2 : (es.map intD)[j]? = some z := h2
    rw [List.getElem?_map] at h2
    obtain ⟨e, he, rfl⟩ := Option.map_eq_some_iff.mp h2
    obtain ⟨z, rfl, hf⟩ := at_ j f e h1 he
    exact hf
  · show kdK ks mn = kd
    rw [← hmn]
    exact kdK_eq nu hm
theorem rowsB_fit {ks ds : List PyData} (hk : kindsB (.tuple ks) = true) (h : rowsB ks (.tuple ds) = true) : ds = (ds.map rowOf).map rowD ∧ rowsFit ks (ds.map rowOf) (sortsB ks ds) ∧ 1 ≤ ds.length ∧ ds.length ≤ 96 := by
  obtain ⟨nu, _, _⟩ := kinds_names hk
  unfold rowsB at h
  rw [Bool.and_eq_true] at h
  obtain ⟨_, e0, l1, l2⟩ := tupOf h.1
  cases e0
  have at_ : ∀ i r, ds[i]? = some r → rowB ks (sortsB ks (ds.take i)) r = true := fun i r hr => by
    have := List.all_eq_true.mp h.2 i (List.mem_range.mpr (List.getElem?_eq_some_iff.mp hr).1)
    have this : rowAt ks ds i = true := this
    rw [rowAt_of hr] at this
    exact this
  refine ⟨?_, ⟨by rw [sortsB_len, List.length_map], fun i r hr => ?_⟩, by omega, by omega⟩
  · apply List.ext_getElem?
    intro i
    rw [List.map_map, List.getElem?_map]
    cases c : ds[i]? with
    | none => rfl
    | some r => exact congrArg some (rowB_fit nu (at_ i r c)).1
  · rw [List.getElem?_map] at hr
    obtain ⟨r0, e1, rfl⟩ := Option.map_eq_some_iff.mp hr
    obtain ⟨h1, h2, kd, p, m, h3, h4, h5⟩ := rowB_fit nu (at_ i r0 e1)
    have et : (sortsB ks ds).take i = sortsB ks (ds.take i) := (List.map_take ..).symm
    refine ⟨by rw [et]; exact h2, kd, p, m, h3, h4, ?_⟩
    unfold sortsB
    rw [List.getElem?_map, e1, ← h5]
    rfl
theorem askR.given {T : List Addr} {H : Hp} {kv rv : V} {ks : List PyData} {d : PyData} (h : askR T H kv rv ks d) (b : rowsB ks d = true) : ∃ ds, d = .tuple ds ∧ K3.given T H kv rv ks (ds.map rowOf) (sortsB ks ds) := by
  have b0 := b
  unfold rowsB at b0
  rw [Bool.and_eq_true] at b0
  obtain ⟨ds, rfl, _, _⟩ := tupOf b0.1
  obtain ⟨h1, h2, h3, h4, h5, h6⟩ := h
  obtain ⟨e, f, l1, l2⟩ := rowsB_fit h3 b
  refine ⟨ds, rfl, h1, ?_, h3, h4, by rw [List.length_map]; exact l1, by rw [List.length_map]; exact l2, f, h6⟩
  have h2' := h2
  rw [e] at h2'
  exact h2'
/-- words or None -/
abbrev Ws := Option (List PyData)
def wsD : Ws → PyData
  | none => .none
  | some ws => .tuple ws
def catP : List Ws → Ws
  | [] => some []
  | none :: _ => none
  | some p :: r => (catP r).map (p ++ ·)
def joinW (mn : Str) (ps : List Ws) : Ws := match catP ps with
  | none => none
  | some ws => if ws.length + 1 ≤ 4000 then some (.str mn :: ws) else none
def wsOk (o : Ws) : Prop := ∀ ws, o = some ws → ws.length ≤ 4000
theorem catP_app (a b : List Ws) : catP (a ++ b) = match catP a with
    | none => none
    | some x => (catP b).map (x ++ ·) := by
  induction a with
  | nil => simp only [List.nil_append, catP]; cases catP b <;> simp
  | cons o r ih =>
    cases o with
    | none => rfl
    | some p =>
      simp only [List.cons_append, catP, ih]
      cases catP r with
      | none => rfl
      | some x => cases catP b <;> simp [List.append_assoc]
theorem catP_bad {ps : List Ws} {i : Nat} (h : ps[i]? = some none) : catP ps = none := by
  have e := List.take_append_drop i ps
  have e2 : ps.drop i = none :: ps.drop (i + 1) := by
    rw [List.drop_eq_getElem_cons (List.getElem?_eq_some_iff.mp h).1, (List.getElem?_eq_some_iff.mp h).2]
  rw [← e, catP_app, e2]
  cases catP (ps.take i) <;> rfl
theorem catP_next {ps : List Ws} {i : Nat} {acc q : List PyData} (h : ps[i]? = some (some q)) (ha : catP (ps.take i) = some acc) : catP (ps.take (i + 1)) = some (acc ++ q) := by
  rw [List.take_add_one, h, Option.toList_some, catP_app, ha]
  simp [catP]
def sp_joined (K : PySem.W.Frag) (T : List Addr) : Sp := fun vs H Q _ => ∃ (M : List Addr) (mn : Str) (pa : Addr) (xs : List V) (ps : List Ws), vs = [.str mn, .ref pa, .int 4000] ∧ (∀ b ∈ M, ∃ ys, H b = some (.lst ys)) ∧ SqL K H pa xs ∧ DvAll M H xs (ps.map wsD) ∧ (∀ o ∈ ps, wsOk o) ∧ ps.length ≤ 4 ∧ Tabs T H ∧ ∀ v H', Dv M H' v (wsD (joinW mn ps)) → Go T [] H H' → Tabs T H' → Q v H'
def partW (found : List Ws) (f : Str) (z : Int) : Ws := if f = "number" then some [.int z] else (found[z.toNat]?).getD none
def partsW (found : List Ws) (fs : List Str) (es : List Int) : List Ws := List.zipWith (partW found) fs es
def stepW (ks : List PyData) (found : List Ws) (r : Str × List Int) : List Ws := found ++ [joinW r.1 (partsW found (flK ks r.1) r.2)]
def wordsL (ks : List PyData) (rows : List (Str × List Int)) : List Ws := rows.foldl (stepW ks) []
theorem wordsL_next {ks : List PyData} {rows : List (Str × List Int)} {i : Nat} {r : Str × List Int} (h : rows[i]? = some r) : wordsL ks (rows.take (i + 1)) = stepW ks (wordsL ks (rows.take i)) r := by
  unfold wordsL
  rw [List.take_add_one, h, Option.toList_some, List.foldl_append]
  rfl
theorem stepW_len (ks : List PyData) (found : List Ws) (r : Str × List Int) : (stepW ks found r).length = found.length + 1 := by
  unfold stepW
  rw [List.length_append]
  rfl
theorem wordsL_len {ks : List PyData} (rows : List (Str × List Int)) : (wordsL ks rows).length = rows.length := by
  unfold wordsL
  suffices h : ∀ (l : List (Str × List Int)) (f : List Ws), (l.foldl (stepW ks) f).length = f.length + l.length by rw [h]; simp
  intro l
  induction l with
  | nil => intro f; rfl
  | cons r l ih => intro f; rw [List.foldl_cons, ih, stepW_len, List.length_cons]; omega
theorem joinW_ok (mn : Str) (ps : List Ws) : wsOk (joinW mn ps) := by
  intro ws h
  unfold joinW at h
  cases c : catP ps with
  | none => rw [c] at h; cases h
  | some a =>
    rw [c] at h
    simp only at h
    by_cases l : a.length + 1 ≤ 4000
    · rw [if_pos l] at h
      cases h
      exact l
    · rw [if_neg l] at h
      cases h
theorem wordsL_ok {ks : List PyData} (rows : List (Str × List Int)) : ∀ o ∈ wordsL ks rows, wsOk o := by
  unfold wordsL
  suffices h : ∀ (l : List (Str × List Int)) (f : List Ws), (∀ o ∈ f, wsOk o) → ∀ o ∈ l.foldl (stepW ks) f, wsOk o from h rows [] (by simp)
  intro l
  induction l with
  | nil => intro f h; exact h
  | cons r l ih =>
    intro f h
    refine ih _ fun o ho => ?_
    rcases List.mem_append.mp ho with z | z
    · exact h o z
    · rw [List.mem_singleton.mp z]; exact joinW_ok _ _
theorem partW_ok {found : List Ws} (h : ∀ o ∈ found, wsOk o) (f : Str) (z : Int) : wsOk (partW found f z) := by
  unfold partW
  split
  · intro ws z; cases z; simp
  · cases c : found[z.toNat]? with
    | none => intro ws z; cases z
    | some p => exact h _ (List.mem_of_getElem? c)
theorem partsW_ok {found : List Ws} (h : ∀ o ∈ found, wsOk o) : ∀ (fs : List Str) (es : List Int), ∀ o ∈ partsW found fs es, wsOk o
  | [], _, o, ho => by cases ho
  | _ :: _, [], o, ho => by cases ho
  | f :: fs, z :: es, o, ho => by
    rcases List.mem_cons.mp ho with rfl | w
    · exact partW_ok h f z
    · exact partsW_ok h fs es o w
theorem partsW_len {found : List Ws} {fs : List Str} {es : List Int} (h : es.length = fs.length) : (partsW found fs es).length = fs.length := by
  unfold partsW
  rw [List.length_zipWith, h, Nat.min_self]
theorem partsW_next {found : List Ws} {fs : List Str} {es : List Int} {j : Nat} {x : Str} {z : Int} (h1 : fs[j]? = some x) (h2 : es[j]? = some z) : (partsW found fs es).take (j + 1) = (partsW found fs es).take j ++ [partW found x z] := by
  rw [List.take_add_one]
  unfold partsW
  rw [List.getElem?_zipWith, h1, h2]
  rfl
/-- what asks for rows: BadRows of what is none -/
def sp_askRows (T : List Addr) (CR : Addr) (N : List PyData → List (Str × List Int) → Hp → V → Hp → Prop) : Sp := fun vs H Q E => ∃ (kv rv : V) (ks : List PyData) (d : PyData), vs = [kv, rv] ∧ askR T H kv rv ks d ∧ (rowsB ks d = false → ∀ H', Go T [] H H' → Tabs T H' → E (.ref CR) none H') ∧
  (rowsB ks d = true → ∀ ds, d = .tuple ds → ∀ v H', N ks (ds.map rowOf) H v H' → Go T [] H H' → Tabs T H' → Q v H')
def sp_words_of (T : List Addr) (CR : Addr) : Sp := sp_askRows T CR fun ks rows _ v H' => Dv [] H' v (wsD ((wordsL ks rows).getLastD none))
section
variable {P : Program} {w : World} {K : PySem.W.Frag} {mg : Str → Option Value} {base : Heap} {f c Pt CK CR : Addr} {fd : FuncData} {T : List Addr}
theorem ok_joined (F : Fun K "_joined_within" "_joined_within" s_joined f fd) (B : Bl mg) : FnOk P w K mg base CX0 1 f fd ["maker", "parts", "most"] (sp_joined K T) := by
  have nd := sc_joined.nd
  refine F.ok sc_joined (fun vs H Q E h => ?_) (fun cdv A outer s H vs Q E hr h => ?_)
  · obtain ⟨_, _, _, _, _, rfl, _⟩ := h
    rfl
  obtain ⟨M, mn, pa, xs, ps, rfl, hM, hS, hd, hw, hl, ht, q⟩ := h
  refine ⟨_, pss_cons (ps_set (i := 3) nd rfl (.inl rfl) (pe_lst (pa_cons (pv 0) pa_nil)))
    (pss_cons (ps_for PassesOwn.never rfl (pi_list (pv 1)) (pg_name (i := 4) nd rfl (.inl rfl))
      (pss_cons (ps_if (pt_cmpR op_isN (pv 4) pe_non (nomark _)) (pss_one (ps_ret pe_non)) pss_nil)
      (pss_one (ps_expr (pe_bm PySem.F.plainAttrs_list PySem.F.slot_list_extend PySem.F.type_list_extend mt_extT (pv 3) (pa_cons (pv 4) pa_nil))))))
    (pss_one (ps_ret (pe_ifExp (pt_cmpR op_le (pe_lenq B (pv 3)) (pv 2) (nomark _)) (pe_toTup B (pv 3)) pe_non)))), ?_⟩
  have nn : ∀ b : Addr, b ∉ ([] : List Addr) := fun b => List.not_mem_nil
  have lx := hd.length
  rw [List.length_map] at lx
  refine ⟨_, rfl, by show 1 ≤ sizeLine; rw [sizeLine_eq]; omega, fun wa hwa => ?_⟩
  refine ⟨_, rfl, pa, rfl, ⟨_, (Go.new (T := T) (M := []) (o := .lst [V.str mn]) hwa).sqL hS⟩, ?_⟩
  refine for_it (n := xs.length) walk_list (fun i σ H' => ∃ p vs acc, σ = [some (.str mn), some (.ref pa), some (.int 4000), some (.ref wa), p] ∧ Go T [] H H' ∧ H' wa = some (.lst (.str mn :: vs)) ∧ DvAll (wa :: M) H' vs acc ∧ catP (ps.take i) = some acc ∧ acc.length ≤ i * 4000)
    ⟨none, [], [], rfl, Go.new hwa, upd_same, .nil, by rw [List.take_zero] <;> rfl, by simp⟩
    (fun i σ H' _ ⟨_, _, _, _, g, _⟩ => g.sqL hS) (fun i x σ H4 H4 hi h y => ?_) (fun σ H4 h => ?_)
  · obtain ⟨p, vs, acc, rfl, g3, e3, d3, c3, l3⟩ := h
    obtain ⟨rfl, ex⟩ := y
    obtain ⟨d, ed, hx⟩ := hd.get ex
    rw [List.getElem?_map] at ed
    obtain ⟨o, eo, rfl⟩ := Option.map_eq_some_iff.mp ed
    have hx3 := hx.go g3.of0
    refine ⟨_, rfl, rfl, _, rfl, ?_⟩
    cases o with
    | none =>
      have e0 : x = .non := by cases hx3 <;> rfl
      subst e0
      refine iteT ?_
      have jn : joinW mn ps = none := by unfold joinW; rw [catP_bad eo]
      exact q .non H4 (by rw [jn]; exact Dv.non) g3 (g3.tb ht)
    | some q2 =>
      obtain ⟨t, zs, rfl, et, _, dz⟩ := dv_tup hx3
      have lz := dz.length
      have lq := hw _ (List.mem_of_getElem? eo) q2 rfl
      have l3' := d3.length
      refine iteF ?_
      refine ⟨_, rfl, .inl ⟨rfl, _, SqL.of e3⟩, _, rfl, wa, t, _, zs, rfl, rfl, e3, SqT.of et, ?_, ?_⟩
      · rw [List.length_cons, sizeLine_eq]
        omega
      have g4 : Go T [] H (upd H4 wa (.lst ((.str mn :: vs) ++ zs))) := g3.over hwa e3 (fun _ z => by cases z)
      have g5 : Go T (wa :: M) H4 (upd H4 wa (.lst ((.str mn :: vs) ++ zs))) := Go.set e3 (fun _ z => by cases z) (by simp)
      obtain ⟨t', zs', ht', et', _, dz'⟩ := dv_tup (((hx.hide hwa).go g3.of0))
      cases ht'
      rw [et] at et'
      cases et'
      refine ⟨_, vs ++ zs, acc ++ q2, rfl, g4, upd_same, (d3.append dz').go g5, catP_next eo c3, ?_⟩
      rw [List.length_append, Nat.succ_mul]
      omega
  · obtain ⟨p, vs, acc, rfl, g3, e3, d3, c3, l3⟩ := h
    rw [lx, List.take_length] at c3
    have jw : joinW mn ps = if acc.length + 1 ≤ 4000 then some (.str mn :: acc) else none := by unfold joinW; rw [c3]
    have lv := d3.length
    refine ⟨_, rfl, wa, _, rfl, .inl (SqL.of e3), _, rfl, _, _, rfl, rfl, _, rfl, ?_⟩
    by_cases c : acc.length + 1 ≤ 4000
    · rw [if_pos c] at jw
      refine if_true_of (decide_eq_true (by rw [List.length_cons]; omega)) ?_
      refine ⟨_, rfl, .inl ⟨wa, _, rfl, SqL.of e3, fun r hr' => ?_⟩⟩
      have gn := Go.new (T := T) (M := wa :: M) (o := .tup (.str mn :: vs)) hr'
      refine q _ _ ?_ (g3.trans (Go.new hr')) ((g3.trans (Go.new hr')).tb ht)
      rw [jw]
      exact .tup upd_same (fun z => by obtain ⟨ys, ey⟩ := hM _ z; rw [g3.lst ey (nn _)] at hr'; cases hr') (.cons (.str _) ((d3.go gn).less fun b hb => List.mem_cons_of_mem _ hb))
    · rw [if_neg c] at jw
      refine if_false_of (decide_eq_false (by rw [List.length_cons]; omega)) ?_
      refine q _ _ ?_ g3 (g3.tb ht)
      rw [jw]
      exact .non
theorem ok_words_of (F : Fun K "words_of" "words_of" s_words_of f fd) (C : Cn K mg) (B : Bl mg) (hz : mg "zip" = none) (Fd : Fnn P w K mg base (L2.CX P w) 12 "demand_rows" ["kinds", "rows"] (sp_demand_rows T CR)) (Fm : Fnn P w K mg base CX0 1 "makers_of" ["kinds"] (sp_makers_of T))
    (Ff : Fnn P w K mg base CX0 1 "fields_of" ["makers", "maker"] sp_fields_of) (Fj : Fnn P w K mg base CX0 1 "_joined_within" ["maker", "parts", "most"] (sp_joined K T)) : FnOk P w K mg base (L2.CX P w) 13 f fd ["kinds", "rows"] (sp_words_of T CR) := by
  obtain ⟨tf, mF⟩ := C.most
  have nd := sc_words_of.nd
  refine F.okX sc_words_of (fun vs H Q E h => ?_) (fun cdv A outer s H vs Q E hr h => ?_)
  · obtain ⟨_, _, _, _, rfl, _⟩ := h
    rfl
  obtain ⟨kv, rv, ks, d, rfl, hA, qE, qq⟩ := h
  refine ⟨_, pss_cons (ps_expr (pe_fn Fd hr (by decide) (passes_call (takes_of rfl rfl rfl rfl) (fun _ _ _ _ h => h)) (pa_cons (pv 0) (pa_cons (pv 1) pa_nil))))
    (PSs.nox (pss_cons (ps_set (i := 2) nd rfl (.inl rfl) (pe_fn Fm hr (by decide) pass0 (pa_cons (pv 0) pa_nil)))
    (pss_cons (ps_set (i := 3) nd rfl (.inr rfl) (pe_lst pa_nil))
    (pss_cons (ps_for PassesOwn.never rfl (pi_tup (pv 1)) (pg_tup rfl (pgs_cons (pg_name (i := 4) nd rfl (.inl rfl)) (pgs_cons (pg_name (i := 5) nd rfl (.inl rfl)) pgs_nil)))
      (pss_cons (ps_set (i := 6) nd rfl (.inl rfl) (pe_fn Ff hr (by decide) pass0 (pa_cons (pv 2) (pa_cons (pv 4) pa_nil))))
      (pss_cons (ps_setLc (i := 7) (own := [("field", 8), ("entry", 9)]) (g := gTup K 2 (gCons (gName 8) (gCons (gName 9) gNil))) (tt := tYes) (te := tIf (tTest (tOp rEq (tVar 8) (tC (.str "number")))) (tTup (tCons (tVar 9) tNil)) (tOp (rIxL K) (tVar 3) (tVar 9))) rfl nd rfl rfl (sw_true rfl rfl rfl (by decide +kernel)) (pi_zipA rfl hz (pa_cons (pv 6) (pa_cons (pv 5) pa_nil)))
        (blkOk_by (own := [("field", 8), ("entry", 9)]) (N := ["kinds", "rows", "makers", "found", "maker", "entries", "fields", "parts", "field", "entry"]) (sc := defScope s_words_of) (by decide +kernel))
        (fun _ _ _ _ _ => pg_tup rfl (pgs_cons (pg_name (i := 8) nd rfl (.inl rfl)) (pgs_cons (pg_name (i := 9) nd rfl (.inl rfl)) pgs_nil))) (fun _ _ _ _ _ => pts_nil)
        (fun _ _ _ _ _ => pe_ifExp (pt_cmpR op_eq (pv 8) pe_str (nomark _)) (pe_tup (pa_cons (pv 9) pa_nil)) (pe_ix ix_list (pv 3) (pv 9) (fun _ _ => rfl))))
      (pss_one (ps_expr (pe_bm PySem.F.plainAttrs_list PySem.F.slot_list_append PySem.F.type_list_append mt_append (pv 3) (pa_cons (pe_fn Fj hr (by decide) pass0 (pa_cons (pv 4) (pa_cons (pv 7) (pa_cons (pe_glob (v := .int 4000) rfl mF ⟨_, rfl⟩) pa_nil)))) pa_nil)))))))
    (pss_one (ps_ret (pe_ix ix_list (pv 3) (pe_un un_neg pe_int) (fun _ _ => rfl)))))))), ?_⟩
  have nn : ∀ b : Addr, b ∉ ([] : List Addr) := fun b => List.not_mem_nil
  refine ⟨_, rfl, _, rfl, kv, rv, ks, d, rfl, hA, fun H1 g1 t1 => ?_⟩
  cases cb : rowsB ks d with
  | false => exact iteF (qE cb H1 g1 t1)
  | true =>
  refine iteT ?_
  obtain ⟨ds, rfl, hG⟩ := hA.given cb
  have q := fun v H' n g t => qq cb ds rfl v H' n g t
  generalize ds.map rowOf = rows at hG q
  generalize sortsB ks ds = sorts at hG
  obtain ⟨h1, h2, h3, h4, h5, h6, h7, h8⟩ := hG
  obtain ⟨nu, _, _⟩ := kinds_names h3
  refine ⟨_, rfl, kv, ks, rfl, h1.go g1, h3, t1, fun D H2 hD0 hD g2 t2 => ?_⟩
  have r2 := (h2.go g1).go g2
  obtain ⟨a, xs, rfl, ea, _, dx⟩ := dv_tup r2
  have lx := dx.length
  rw [List.length_map] at lx
  refine ⟨by show 0 ≤ sizeLine; omega, fun fa hfa => ?_⟩
  refine ⟨_, rfl, a, rfl, ⟨_, SqT.of ((Go.new (T := T) (M := []) (o := .lst []) hfa).tup ea (nn _))⟩, ?_⟩
  have dxh := dx.hide hfa
  refine for_it (n := xs.length) walk_tup (fun i σ H' => ∃ p4 p5 p6 p7 vs, σ = [some kv, some (.ref a), some (.ref D), some (.ref fa), p4, p5, p6, p7, none, none] ∧ Go T [] H2 H' ∧ H' fa = some (.lst vs) ∧ DvAll [fa] H' vs ((wordsL ks (rows.take i)).map wsD))
    ⟨none, none, none, none, [], rfl, Go.new hfa, upd_same, .nil⟩
    (fun i σ H' _ ⟨_, _, _, _, _, _, g, _⟩ => SqT.of (g.tup ea (nn _))) (fun i x σ H3 H4 hi h y => ?_) (fun σ H3 h => ?_)
  · obtain ⟨p4, p5, p6, p7, vs, rfl, g3, e3, d3⟩ := h
    obtain ⟨rfl, ex⟩ := y
    obtain ⟨d, ed, hx⟩ := dxh.get ex
    rw [List.getElem?_map] at ed
    obtain ⟨⟨mn, es⟩, er, rfl⟩ := Option.map_eq_some_iff.mp ed
    obtain ⟨⟨kd, p, m, hm, hmn, hel, hfit⟩, _⟩ := h7.2 i (mn, es) er
    have hx4 := hx.go g3.of0
    obtain ⟨r, vx, vy, rfl, er', nr, hvx, hvy⟩ := dv_pair hx4
    cases hvx
    obtain ⟨b, ws, rfl, eb, nb, dw⟩ := dv_tup hvy
    have ew := of_ints dw
    subst ew
    have hxn : mn ∈ namesM (rowsM ks) := List.mem_map.mpr ⟨_, hm, hmn⟩
    have hD4 := hD.go g3
    have lvs := d3.length
    rw [List.length_map, wordsL_len, List.length_take] at lvs
    have fo := wordsL_ok (ks := ks) (rows.take i)
    have lfo := wordsL_len (ks := ks) (rows.take i)
    rw [List.length_take] at lfo
    generalize hfd : wordsL ks (rows.take i) = found at *
    refine ⟨r, _, rfl, SqT.of er', rfl, _, _, rfl, _, _, rfl, rfl, ?_⟩
    refine ⟨_, rfl, _, rfl, D, mn, ks, rfl, hD4, hxn, fun kd2 p2 m2 fv q1 q2 q3 => ?_⟩
    have e2 := row_one nu hm q1 (by show SL.mkN m = SL.mkN m2; rw [hmn, q2])
    cases e2
    obtain ⟨fl, rfl, ef, _, lf⟩ := flds_dv (rows_maker h3 hm) q3
    have lp := partsW_len (found := found) hel
    have nfa : ∀ b ∈ ([fa] : List Addr), ∃ ys, H4 b = some (.lst ys) := fun b hb => ⟨vs, by rw [List.mem_singleton.mp hb]; exact e3⟩
    refine ⟨_, rfl, _, rfl, fl, b, _, _, rfl, .inr ⟨SqT.of ef, SqT.of eb, fun D' hD' => ?_⟩⟩
    have d3h := d3.hide hD'
    refine lc_it (walkZ (a := fl) (b := b) (xs := (flds m).map V.str) (ys := es.map V.int) (by rw [List.length_map, List.length_map, hel])) (fun j H' => Go T [] H4 H' ∧ ∃ acc, H' D' = some (.lst acc) ∧ acc.length = j ∧ DvAll [D', fa] H' acc (((partsW found (flds m) es).take j).map wsD))
      ⟨Go.new hD', [], upd_same, rfl, .nil⟩ (fun j H' _ h => ⟨SqT.of (h.1.tup ef (nn _)), SqT.of (h.1.tup eb (nn _))⟩) (fun j v H5 H6 hj h y => ?_) (fun H5 h => ?_)
    · obtain ⟨g5, acc, ac1, ac2, ac3⟩ := h
      obtain ⟨pp, vx, vy, rfl, hn, rfl, ex1, ey1⟩ := y
      rw [List.getElem?_map] at ex1 ey1
      obtain ⟨f', exf, rfl⟩ := Option.map_eq_some_iff.mp ex1
      obtain ⟨z, eyz, rfl⟩ := Option.map_eq_some_iff.mp ey1
      have u1 := Go.new (T := T) (M := []) (o := .tup [V.str f', V.int z]) hn
      have ac1' := u1.lst ac1 (nn _)
      have g56 := g5.trans u1
      rw [List.length_map] at hj
      refine ⟨pp, _, rfl, SqT.of upd_same, rfl, _, _, rfl, _, _, rfl, rfl, rfl, _, rfl, rfl, _, rfl, ?_⟩
      have nx := partsW_next (found := found) exf eyz
      have lac : acc.length < sizeLine := by rw [sizeLine_eq]; omega
      by_cases c1 : f' = "number"
      · subst c1
        refine iteT ?_
        refine ⟨_, rfl, by show 1 ≤ sizeLine; rw [sizeLine_eq]; omega, fun t ht => ?_⟩
        have u2 := Go.new (T := T) (M := []) (o := .tup [V.int z]) ht
        have ac2' := u2.lst ac1' (nn _)
        have nD' : t ≠ D' := fun e => by rw [e, ac1'] at ht; cases ht
        have nf' : t ≠ fa := fun e => by rw [e, g56.lst e3 (nn _)] at ht; cases ht
        have g57 := g56.trans u2
        have gs := Go.set (T := T) (M := [D', fa]) (o := .lst (acc ++ [V.ref t])) ac2' (fun _ z => by cases z) (by simp)
        refine ⟨acc, ac2', lac, g57.over hD' ac2' (fun _ z => by cases z), acc ++ [V.ref t], upd_same, by rw [List.length_append, ac2] <;> rfl, ?_⟩
        rw [nx, List.map_append]
        refine DvAll.append (((ac3.go u1.of0).go u2.of0).go gs) (.cons ?_ .nil)
        show Dv _ _ _ (wsD (partW found "number" z))
        have e0 : partW found "number" z = some [.int z] := if_pos rfl
        rw [e0]
        exact .tup (by rw [upd_ne nD']; exact upd_same) (by simp [nD', nf']) (.cons (.int _) .nil)
      · refine if_false_of (decide_eq_false fun e => c1 (V.str.inj e)) ?_
        have e34 := (g56.lst e3 (nn _))
        rcases hfit j f' z exf eyz with e | ⟨n, rfl, en⟩
        · exact absurd e c1
        have ln : n < found.length := by
          have := (List.getElem?_eq_some_iff.mp en).1
          rw [List.length_take] at this
          have h71 := h7.1
          omega
        have pe : partW found f' (n : Int) = found[n] := by
          unfold partW
          rw [if_neg c1]
          show (found[((n : Nat) : Int).toNat]?).getD none = _
          rw [Int.toNat_natCast, List.getElem?_eq_getElem ln] <;> rfl
        obtain ⟨v', ev', dv'⟩ := ((d3h.go g5.of0).go u1.of0).getD (i := n) (d := wsD found[n]) (by rw [List.getElem?_map, List.getElem?_eq_getElem ln] <;> rfl)
        have gs := Go.set (T := T) (M := [D', fa]) (o := .lst (acc ++ [v'])) ac1' (fun _ z => by cases z) (by simp)
        refine ⟨_, rfl, _, rfl, fa, vs, (n : Int), v', rfl, rfl, SqL.of e34, atI_nat ev', acc, ac1', lac, g56.over hD' ac1' (fun _ z => by cases z), acc ++ [v'], upd_same, by rw [List.length_append, ac2] <;> rfl, ?_⟩
        rw [nx, List.map_append]
        refine DvAll.append ((ac3.go u1.of0).go gs) (.cons ?_ .nil)
        rw [pe]
        exact dv'.go gs
    · obtain ⟨g5, acc, ac1, ac2, ac3⟩ := h
      rw [List.length_map] at ac2 ac3
      rw [← lp, List.take_length] at ac3
      have e35 := g5.lst e3 (nn _)
      have lnr : i < rows.length := by omega
      refine ⟨_, rfl, .inl ⟨rfl, _, SqL.of e35⟩, _, rfl, _, rfl, [fa], mn, D', acc, partsW found (flds m) es, rfl, (fun b hb => ⟨vs, by rw [List.mem_singleton.mp hb]; exact e35⟩), SqL.of ac1, ac3.less (fun b hb => List.mem_cons_of_mem _ hb), partsW_ok fo _ _, by rw [lp]; exact lf, (g3.trans g5).tb t2, fun v H6 dv g6 t6 => ?_⟩
      have e36 := g6.lst e35 (nn _)
      have gs := Go.set (T := T) (M := [fa]) (o := .lst (vs ++ [v])) e36 (fun _ z => by cases z) (by simp)
      refine ⟨fa, _, _, rfl, rfl, e36, by rw [sizeLine_eq]; omega, _, _, _, _, _, rfl, ((g3.trans g5).trans g6).over hfa e36 (fun _ z => by cases z), upd_same, ?_⟩
      rw [wordsL_next er, hfd]
      unfold stepW
      rw [List.map_append]
      refine DvAll.append (((d3.go g5.of0).go g6.of0).go gs) (.cons ?_ .nil)
      have fe : flK ks mn = flds m := by have hm2 : SL.mkN m = mn := hmn; rw [← hm2]; exact flK_eq nu hm
      show Dv _ _ _ (wsD (joinW mn (partsW found (flK ks mn) es)))
      rw [fe]
      exact dv.go gs
  · obtain ⟨p4, p5, p6, p7, vs, rfl, g3, e3, d3⟩ := h
    rw [lx, List.take_length] at d3
    have lv := d3.length
    rw [List.length_map, wordsL_len] at lv
    have nev : vs ≠ [] := fun z => by rw [z] at lv; simp at lv; omega
    have ev := List.dropLast_concat_getLast nev
    have el : vs[vs.length - 1]? = some (vs.getLast nev) := by rw [← List.getLast?_eq_getElem?, List.getLast?_eq_some_getLast nev]
    obtain ⟨d, ed, hd⟩ := d3.get el
    rw [List.getElem?_map] at ed
    obtain ⟨o, eo, rfl⟩ := Option.map_eq_some_iff.mp ed
    have elast : (wordsL ks rows).getLastD none = o := by
      rw [List.getLastD_eq_getLast?, List.getLast?_eq_getElem?, wordsL_len, ← lv, eo] <;> rfl
    refine ⟨_, rfl, _, rfl, fa, _, -1, vs.getLast nev, rfl, rfl, SqL.of e3, (congrArg (fun l => atI l (-1)) ev).symm.trans (atI_last vs.dropLast (vs.getLast nev)), ?_⟩
    refine q _ H3 ?_ ((g1.trans g2).trans g3) (g3.tb t2)
    rw [elast]
    exact hd.less (fun b hb => absurd hb (nn b))
end
end K3
set_option Elab.async false
set_option linter.all false
set_option maxRecDepth 100000
set_option maxHeartbeats 8000000
namespace K3
open PySem PySem.Spec PyProof.Rows L2 GxR NdefX GA SL RZ
abbrev s_trees_among : Stmt := top 27
abbrev s_sizes : Stmt := top 20
theorem sc_trees_among : FnScope ["fields", "entries", "field", "entry"] ["fields", "entries"] (defScope s_trees_among) := ⟨rfl, rfl, rfl, by decide +kernel, rfl, by decide +kernel, by decide +kernel⟩
theorem sc_sizes : FnScope ["kinds", "rows", "makers", "found", "maker", "entries", "parts", "part"] ["kinds", "rows"] (defScope s_sizes) := ⟨rfl, rfl, rfl, by decide +kernel, rfl, by decide +kernel, by decide +kernel⟩
def keepE (p : Str × Int) : Option Int := if p.1 = "number" then none else some p.2
def amongL (fs : List Str) (es : List Int) : List Int := (fs.zip es).filterMap keepE
theorem among_next {fs : List Str} {es : List Int} {j : Nat} {f : Str} {z : Int} (h1 : fs[j]? = some f) (h2 : es[j]? = some z) : ((fs.zip es).take (j + 1)).filterMap keepE = ((fs.zip es).take j).filterMap keepE ++ (if f = "number" then [] else [z]) := by
  have e : (fs.zip es)[j]? = some (f, z) := List.getElem?_zip_eq_some.mpr ⟨h1, h2⟩
  rw [List.take_add_one, e, Option.toList_some, List.filterMap_append]
  congr 1
  by_cases c : f = "number"
  · simp [keepE, c]
  · simp [keepE, c]
theorem among_len (l : List (Str × Int)) : (l.filterMap keepE).length ≤ l.length := List.length_filterMap_le _ _
/-- the sizes of the rows' trees -/
def stepZ (ks : List PyData) (cs : List Int) (r : Str × List Int) : List Int := cs ++ [1 + ((amongL (flK ks r.1) r.2).map fun z => cs.getD z.toNat 0).sum]
def sizesL (ks : List PyData) (rows : List (Str × List Int)) : List Int := rows.foldl (stepZ ks) []
theorem sizesL_next {ks : List PyData} {rows : List (Str × List Int)} {i : Nat} {r : Str × List Int} (h : rows[i]? = some r) : sizesL ks (rows.take (i + 1)) = stepZ ks (sizesL ks (rows.take i)) r := by
  unfold sizesL
  rw [List.take_add_one, h, Option.toList_some, List.foldl_append]
  rfl
theorem sizesL_len {ks : List PyData} (rows : List (Str × List Int)) : (sizesL ks rows).length = rows.length := by
  unfold sizesL
  suffices h : ∀ (l : List (Str × List Int)) (f : List Int), (l.foldl (stepZ ks) f).length = f.length + l.length by rw [h]; simp
  intro l
  induction l with
  | nil => intro f; rfl
  | cons r l ih => intro f; rw [List.foldl_cons, ih]; unfold stepZ; rw [List.length_append, List.length_cons, List.length_cons, List.length_nil]; omega
theorem among_mem {fs : List Str} {es : List Int} {z : Int} (h : z ∈ amongL fs es) : ∃ (j : Nat) (f : Str), fs[j]? = some f ∧ es[j]? = some z ∧ f ≠ "number" := by
  obtain ⟨⟨f, y⟩, hm, hk⟩ := List.mem_filterMap.mp h
  obtain ⟨j, hj⟩ := List.mem_iff_getElem?.mp hm
  obtain ⟨h1, h2⟩ := List.getElem?_zip_eq_some.mp hj
  by_cases c : f = "number"
  · simp [keepE, c] at hk
  · have : y = z := by simpa [keepE, c] using hk
    subst this
    exact ⟨j, f, h1, h2, c⟩
def sp_among (T : List Addr) : Sp := fun vs H Q _ => ∃ (fa ea : Addr) (fs : List Str) (es : List Int), vs = [.ref fa, .ref ea] ∧ H fa = some (.tup (fs.map V.str)) ∧ H ea = some (.tup (es.map V.int)) ∧ es.length = fs.length ∧ fs.length ≤ 4 ∧ Tabs T H ∧
  ∀ D H', H D = none → H' D = some (.lst ((amongL fs es).map V.int)) → Go T [] H H' → Tabs T H' → Q (.ref D) H'
def sp_sizes (T : List Addr) (CR : Addr) : Sp := sp_askRows T CR fun ks rows H v H' => ∃ p, v = .ref p ∧ H p = none ∧ H' p = some (.tup ((sizesL ks rows).map V.int))
section
variable {P : Program} {w : World} {K : PySem.W.Frag} {mg : Str → Option Value} {base : Heap} {f c Pt CK CR : Addr} {fd : FuncData} {T : List Addr}
theorem ok_trees_among (F : Fun K "trees_among" "trees_among" s_trees_among f fd) (hz : mg "zip" = none) : FnOk P w K mg base CX0 1 f fd ["fields", "entries"] (sp_among T) := by
  have nd := sc_trees_among.nd
  refine F.ok sc_trees_among (fun vs H Q E h => ?_) (fun cdv A outer s H vs Q E hr h => ?_)
  · obtain ⟨_, _, _, _, rfl, _⟩ := h
    rfl
  obtain ⟨fa, ea, fs, es, rfl, ef, ee, hl, h4, ht, q⟩ := h
  refine ⟨_, pss_one (ps_ret (pe_lc (own := [("field", 2), ("entry", 3)]) (g := gTup K 2 (gCons (gName 2) (gCons (gName 3) gNil))) (tt := _) (te := tVar 3) rfl nd (pi_zipA rfl hz (pa_cons (pv 0) (pa_cons (pv 1) pa_nil)))
    (blkOk_by (own := [("field", 2), ("entry", 3)]) (N := ["fields", "entries", "field", "entry"]) (sc := defScope s_trees_among) (by decide +kernel))
    (fun _ _ _ _ _ => pg_tup rfl (pgs_cons (pg_name (i := 2) nd rfl (.inl rfl)) (pgs_cons (pg_name (i := 3) nd rfl (.inl rfl)) pgs_nil))) (fun _ _ _ _ _ => pts_one (pt_cmpR op_ne (pv 2) pe_str (nomark _))) (fun _ _ _ _ _ => pv 3))), ?_⟩
  have nn : ∀ b : Addr, b ∉ ([] : List Addr) := fun b => List.not_mem_nil
  refine ⟨_, rfl, _, rfl, fa, ea, _, _, rfl, .inr ⟨SqT.of ef, SqT.of ee, fun D hD => ?_⟩⟩
  have lz : (fs.zip es).length = fs.length := by rw [List.length_zip, hl, Nat.min_self]
  refine lc_it (walkZ (a := fa) (b := ea) (xs := fs.map V.str) (ys := es.map V.int) (by rw [List.length_map, List.length_map, hl])) (fun j H' => Go T [] H H' ∧ H' D = some (.lst ((((fs.zip es).take j).filterMap keepE).map V.int)))
    ⟨Go.new hD, by rw [List.take_zero]; exact upd_same⟩ (fun j H' _ h => ⟨SqT.of (h.1.tup ef (nn _)), SqT.of (h.1.tup ee (nn _))⟩) (fun j v H5 H6 hj h y => ?_) (fun H5 h => ?_)
  · obtain ⟨g5, ac⟩ := h
    obtain ⟨pp, vx, vy, rfl, hn, rfl, ex1, ey1⟩ := y
    rw [List.getElem?_map] at ex1 ey1
    obtain ⟨f', exf, rfl⟩ := Option.map_eq_some_iff.mp ex1
    obtain ⟨z, eyz, rfl⟩ := Option.map_eq_some_iff.mp ey1
    have u1 := Go.new (T := T) (M := []) (o := .tup [V.str f', V.int z]) hn
    have ac1 := u1.lst ac (nn _)
    have g56 := g5.trans u1
    rw [List.length_map] at hj
    have nx := among_next exf eyz
    have la := among_len ((fs.zip es).take j)
    rw [List.length_take] at la
    refine ⟨pp, _, rfl, SqT.of upd_same, rfl, _, _, rfl, _, _, rfl, rfl, rfl, _, rfl, rfl, _, rfl, ?_⟩
    by_cases c1 : f' = "number"
    · refine if_false_of (by rw [c1]; simp) ?_
      refine ⟨g56, ?_⟩
      rw [nx, if_pos c1, List.append_nil]
      exact ac1
    · refine if_true_of (by simp [c1]) ?_
      refine ⟨_, rfl, _, ac1, by rw [List.length_map, sizeLine_eq]; omega, g56.over hD ac1 (fun _ z => by cases z), ?_⟩
      rw [upd_same, nx, if_neg c1, List.map_append]
      rfl
  · obtain ⟨g5, ac⟩ := h
    rw [List.length_map, ← lz, List.take_length] at ac
    exact q D H5 hD ac g5 (g5.tb ht)
theorem ok_sizes (F : Fun K "sizes" "sizes" s_sizes f fd) (B : Bl mg) (hs : mg "sum" = none) (Fd : Fnn P w K mg base (L2.CX P w) 12 "demand_rows" ["kinds", "rows"] (sp_demand_rows T CR)) (Fm : Fnn P w K mg base CX0 1 "makers_of" ["kinds"] (sp_makers_of T))
    (Ff : Fnn P w K mg base CX0 1 "fields_of" ["makers", "maker"] sp_fields_of) (Ft : Fnn P w K mg base CX0 1 "trees_among" ["fields", "entries"] (sp_among T)) : FnOk P w K mg base (L2.CX P w) 13 f fd ["kinds", "rows"] (sp_sizes T CR) := by
  have nd := sc_sizes.nd
  refine F.okX sc_sizes (fun vs H Q E h => ?_) (fun cdv A outer s H vs Q E hr h => ?_)
  · obtain ⟨_, _, _, _, rfl, _⟩ := h
    rfl
  obtain ⟨kv, rv, ks, d, rfl, hA, qE, qq⟩ := h
  refine ⟨_, pss_cons (ps_expr (pe_fn Fd hr (by decide) (passes_call (takes_of rfl rfl rfl rfl) (fun _ _ _ _ h => h)) (pa_cons (pv 0) (pa_cons (pv 1) pa_nil))))
    (PSs.nox (pss_cons (ps_set (i := 2) nd rfl (.inl rfl) (pe_fn Fm hr (by decide) pass0 (pa_cons (pv 0) pa_nil)))
    (pss_cons (ps_set (i := 3) nd rfl (.inr rfl) (pe_lst pa_nil))
    (pss_cons (ps_for PassesOwn.never rfl (pi_tup (pv 1)) (pg_tup rfl (pgs_cons (pg_name (i := 4) nd rfl (.inl rfl)) (pgs_cons (pg_name (i := 5) nd rfl (.inl rfl)) pgs_nil)))
      (pss_cons (ps_set (i := 6) nd rfl (.inl rfl) (pe_fn Ft hr (by decide) pass0 (pa_cons (pe_fn Ff hr (by decide) pass0 (pa_cons (pv 2) (pa_cons (pv 4) pa_nil))) (pa_cons (pv 5) pa_nil))))
      (pss_one (ps_expr (pe_bm PySem.F.plainAttrs_list PySem.F.slot_list_append PySem.F.type_list_append mt_append (pv 3) (pa_cons (pe_op op_add pe_int (pe_callB (cr_sum rfl) rfl hs (by decide +kernel)
        (pa_cons (pe_lc (own := [("part", 7)]) (g := gName 7) (tt := tYes) (te := tOp (rIxL K) (tVar 3) (tVar 7)) rfl nd (pi_list (pv 6))
          (blkOk_by (own := [("part", 7)]) (N := ["kinds", "rows", "makers", "found", "maker", "entries", "parts", "part"]) (sc := defScope s_sizes) (by decide +kernel)) (fun _ _ _ _ _ => pg_name (i := 7) nd rfl (.inl rfl)) (fun _ _ _ _ _ => pts_nil)
          (fun _ _ _ _ _ => pe_ix ix_list (pv 3) (pv 7) (fun _ _ => rfl))) pa_nil) (by decide) (by decide))) pa_nil))))))
    (pss_one (ps_ret (pe_toTup B (pv 3)))))))), ?_⟩
  have nn : ∀ b : Addr, b ∉ ([] : List Addr) := fun b => List.not_mem_nil
  refine ⟨_, rfl, _, rfl, kv, rv, ks, d, rfl, hA, fun H1 g1 t1 => ?_⟩
  cases cb : rowsB ks d with
  | false => exact iteF (qE cb H1 g1 t1)
  | true =>
  refine iteT ?_
  obtain ⟨ds, rfl, hG⟩ := hA.given cb
  have q := fun v H' n g t => qq cb ds rfl v H' n g t
  generalize ds.map rowOf = rows at hG q
  generalize sortsB ks ds = sorts at hG
  obtain ⟨h1, h2, h3, h4, h5, h6, h7, h8⟩ := hG
  obtain ⟨nu, _, _⟩ := kinds_names h3
  refine ⟨_, rfl, kv, ks, rfl, h1.go g1, h3, t1, fun D H2 hD0 hD g2 t2 => ?_⟩
  have r2 := (h2.go g1).go g2
  obtain ⟨a, xs, rfl, ea, _, dx⟩ := dv_tup r2
  have lx := dx.length
  rw [List.length_map] at lx
  refine ⟨by show 0 ≤ sizeLine; omega, fun fa hfa => ?_⟩
  refine ⟨_, rfl, a, rfl, ⟨_, SqT.of ((Go.new (T := T) (M := []) (o := .lst []) hfa).tup ea (nn _))⟩, ?_⟩
  refine for_it (n := xs.length) walk_tup (fun i σ H' => ∃ p4 p5 p6, σ = [some kv, some (.ref a), some (.ref D), some (.ref fa), p4, p5, p6, none] ∧ Go T [] H2 H' ∧ H' fa = some (.lst ((sizesL ks (rows.take i)).map V.int)))
    ⟨none, none, none, rfl, Go.new hfa, upd_same⟩
    (fun i σ H' _ ⟨_, _, _, _, g, _⟩ => SqT.of (g.tup ea (nn _))) (fun i x σ H3 H4 hi h y => ?_) (fun σ H3 h => ?_)
  · obtain ⟨p4, p5, p6, rfl, g3, e3⟩ := h
    obtain ⟨rfl, ex⟩ := y
    obtain ⟨d, ed, hx⟩ := dx.get ex
    rw [List.getElem?_map] at ed
    obtain ⟨⟨mn, es⟩, er, rfl⟩ := Option.map_eq_some_iff.mp ed
    obtain ⟨⟨kd, p, m, hm, hmn, hel, hfit⟩, _⟩ := h7.2 i (mn, es) er
    have hx4 := hx.go g3
    obtain ⟨r, vx, vy, rfl, er', nr, hvx, hvy⟩ := dv_pair hx4
    cases hvx
    obtain ⟨b, ws, rfl, eb, nb, dw⟩ := dv_tup hvy
    have ew := of_ints dw
    subst ew
    have hxn : mn ∈ namesM (rowsM ks) := List.mem_map.mpr ⟨_, hm, hmn⟩
    have hD4 := hD.go g3
    have lfo := sizesL_len (ks := ks) (rows.take i)
    rw [List.length_take] at lfo
    have nx := sizesL_next (ks := ks) er
    have fe : flK ks mn = flds m := by have hm2 : SL.mkN m = mn := hmn; rw [← hm2]; exact flK_eq nu hm
    have h71 := h7.1
    have fitn : ∀ z ∈ amongL (flds m) es, ∃ n : Nat, z = (n : Int) ∧ n < (sizesL ks (rows.take i)).length := fun z hz => by
      obtain ⟨j, f', e1, e2, c1⟩ := among_mem hz
      rcases hfit j f' z e1 e2 with e | ⟨n, rfl, en⟩
      · exact absurd e c1
      · have := (List.getElem?_eq_some_iff.mp en).1
        rw [List.length_take] at this
        exact ⟨n, rfl, by omega⟩
    generalize hfd : sizesL ks (rows.take i) = cs at *
    refine ⟨r, _, rfl, SqT.of er', rfl, _, _, rfl, _, _, rfl, rfl, ?_⟩
    refine ⟨_, rfl, _, rfl, D, mn, ks, rfl, hD4, hxn, fun kd2 p2 m2 fv q1 q2 q3 => ?_⟩
    have e2 := row_one nu hm q1 (by show SL.mkN m = SL.mkN m2; rw [hmn, q2])
    cases e2
    obtain ⟨fl, rfl, ef, _, lf⟩ := flds_dv (rows_maker h3 hm) q3
    refine ⟨_, rfl, fl, b, flds m, es, rfl, ef, eb, hel, lf, g3.tb t2, fun L H5 hL0 eL g5 t5 => ?_⟩
    have e35 := g5.lst e3 (nn _)
    refine ⟨_, rfl, .inl ⟨rfl, _, SqL.of e35⟩, _, rfl, L, rfl, ⟨_, SqL.of eL⟩, fun D' hD' => ?_⟩
    have la : (amongL (flds m) es).length ≤ 4 := by
      have := among_len ((flds m).zip es)
      rw [List.length_zip] at this
      show ((List.zip _ _).filterMap keepE).length ≤ 4
      omega
    refine lc_map (T := T) (fun j => V.int (cs.getD ((amongL (flds m) es).getD j 0).toNat 0)) (walk_list (xs := (amongL (flds m) es).map V.int)) (fun H' g' => SqL.of (g'.lst eL (nn _))) t5 Go.refl hD' (by rw [List.length_map, sizeLine_eq]; omega) (fun j v H6 H7 R hj g6 t6 y hR => ?_) (fun H6 g6 t6 ed6 => ?_)
    · obtain ⟨rfl, ey⟩ := y
      rw [List.getElem?_map] at ey
      obtain ⟨z, ez, rfl⟩ := Option.map_eq_some_iff.mp ey
      obtain ⟨n, rfl, ln⟩ := fitn z (List.mem_of_getElem? ez)
      have e0 : cs.getD ((amongL (flds m) es).getD j 0).toNat 0 = cs[n] := by
        rw [List.getD_eq_getElem?_getD (l := amongL (flds m) es), ez]
        show cs.getD ((n : Int)).toNat 0 = _
        rw [Int.toNat_natCast, List.getD_eq_getElem?_getD, List.getElem?_eq_getElem ln] <;> rfl
      have := hR H7 Go.refl
      rw [e0] at this
      exact ⟨rfl, _, rfl, _, rfl, fa, _, (n : Int), _, rfl, rfl, SqL.of (g6.lst e35 (nn _)), atI_nat (by rw [List.getElem?_map, List.getElem?_eq_getElem ln] <;> rfl), this⟩
    · have em : (List.range ((amongL (flds m) es).map V.int).length).map (fun j => V.int (cs.getD ((amongL (flds m) es).getD j 0).toNat 0)) = ((amongL (flds m) es).map fun z => cs.getD z.toNat 0).map V.int := by
        rw [List.length_map, List.map_map]
        exact map_range_get fun j z h => by rw [List.getD_eq_getElem?_getD (l := amongL (flds m) es), h] <;> rfl
      rw [em] at ed6
      refine ⟨D', _, rfl, SqL.of ed6, _, _, rfl, rfl, ?_⟩
      have e36 := g6.lst e35 (nn _)
      refine ⟨fa, _, _, rfl, rfl, e36, by rw [List.length_map, sizeLine_eq]; omega, _, _, _, rfl, ((g3.trans g5).trans g6).over hfa e36 (fun _ z => by cases z), ?_⟩
      rw [upd_same, nx]
      unfold stepZ
      rw [fe, List.map_append]
      rfl
  · obtain ⟨p4, p5, p6, rfl, g3, e3⟩ := h
    rw [lx, List.take_length] at e3
    have lfo := sizesL_len (ks := ks) rows
    refine ⟨_, rfl, .inl ⟨fa, _, rfl, SqL.of e3, fun r hr' => ?_⟩⟩
    have gn := Go.new (T := T) (M := []) (o := .tup ((sizesL ks rows).map V.int)) hr'
    exact q _ _ ⟨r, rfl, ((g1.trans g2).trans g3).al _ hr', upd_same⟩ (((g1.trans g2).trans g3).trans gn) ((((g1.trans g2).trans g3).trans gn).tb h8)
end
end K3
set_option Elab.async false
set_option linter.all false
set_option maxRecDepth 100000
set_option maxHeartbeats 8000000
namespace K3
open PySem PySem.Spec PyProof.Rows L2 GxR NdefX GA SL RZ
abbrev s_law_table : Stmt := top 39
abbrev s_law_integer : Stmt := top 40
theorem sc_law_table : FnScope ["family", "table", "title", "makers", "k"] ["family"] (defScope s_law_table) := ⟨rfl, rfl, rfl, by decide +kernel, rfl, by decide +kernel, by decide +kernel⟩
theorem sc_law_integer : FnScope ["well", "small", "far", "great"] ["well"] (defScope s_law_integer) := ⟨rfl, rfl, rfl, by decide +kernel, rfl, by decide +kernel, by decide +kernel⟩
def bigInt : Nat := 10 ^ 102
def sp_integer (T : List Addr) : Sp := fun vs H Q _ => ∃ (a l : Addr) (k : Int), vs = [.ref a] ∧ k ≤ 549755813888 ∧ WellAt a l H k ∧ Tabs T H ∧ ∀ (z : Int) H', z.natAbs ≤ bigInt → WellAt a l H' (k + 5) → Go T [a, l] H H' → Tabs T H' → Q (.int z) H'
section
variable {P : Program} {w : World} {K : PySem.W.Frag} {mg : Str → Option Value} {base : Heap} {f c Pt CK CR : Addr} {fd : FuncData} {T : List Addr}
theorem ok_law_table (F : Fun K "_law_table" "_law_table" s_law_table f fd) (B : Bl mg) : FnOk P w K mg base CX0 1 f fd ["family"] (sp_makers_of T) := by
  have nd := sc_law_table.nd
  refine F.ok sc_law_table (fun vs H Q E h => ?_) (fun cdv A outer s H vs Q E hr h => ?_)
  · obtain ⟨_, _, rfl, _⟩ := h
    rfl
  obtain ⟨v, ks, rfl, hv, hk, ht, q⟩ := h
  have hu : (A.deeper (envOfC "_law_table" (defScope s_law_table) s.heap.objs.size f cdv)).units + 1 < cLine := by
    have := hr.un
    omega
  refine ⟨_, pss_cons (ps_set (i := 1) nd rfl (.inl rfl) pe_dnewK)
    (pss_cons (ps_for PassesOwn.never rfl (pi_tup (pv 0)) (pg_tup rfl (pgs_cons (pg_name (i := 2) nd rfl (.inl rfl)) (pgs_cons (pg_name (i := 3) nd rfl (.inl rfl)) pgs_nil)))
      (pss_one (ps_for PassesOwn.never rfl (pi_range1 rfl B.range (pa_cons (pe_lenq B (pv 3)) pa_nil)) (pg_name (i := 4) nd rfl (.inl rfl))
        (pss_one (ps_dput hu (pv 1) (pe_ix ix_tup (pe_ix ix_tup (pv 3) (pv 4) (fun _ _ => rfl)) pe_int (fun _ _ => rfl)) (pe_tup (pa_cons (pv 2) (pa_cons (pv 4) (pa_cons (pe_ix ix_tup (pe_ix ix_tup (pv 3) (pv 4) (fun _ _ => rfl)) pe_int (fun _ _ => rfl)) pa_nil)))) rfl)))))
    (pss_one (ps_ret (pv 1)))), ?_⟩
  have nn : ∀ b : Addr, b ∉ ([] : List Addr) := fun b => List.not_mem_nil
  obtain ⟨nu, hkb, hk6⟩ := kinds_names hk
  obtain ⟨a, xs, rfl, ea, _, dv⟩ := dv_tup hv
  have lx := dv.length
  refine fun D hD => ?_
  have dvD := dv.hide hD
  refine ⟨_, rfl, a, rfl, ⟨_, SqT.of ((Go.new (T := T) (M := []) (o := .dK []) hD).tup ea (nn _))⟩, ?_⟩
  refine for_it (n := xs.length) walk_tup (fun i σ H' => ∃ p2 p3 p4, σ = [some (.ref a), some (.ref D), p2, p3, p4] ∧ Go T [] H H' ∧ ∃ kvs, H' D = some (.dK kvs) ∧ Ents [D] H' kvs (rowsM (ks.take i)))
    ⟨none, none, none, rfl, Go.new hD, [], upd_same, .nil⟩ (fun i σ H' _ ⟨_, _, _, _, g, _⟩ => SqT.of (g.tup ea (nn _))) (fun i x σ H3 H4 hi h y => ?_) (fun σ H3 h => ?_)
  · obtain ⟨p2, p3, p4, rfl, gg, kvs, eD, en⟩ := h
    obtain ⟨rfl, ex⟩ := y
    obtain ⟨k, ek, hx⟩ := dvD.get ex
    have hkk := hkb k (List.mem_of_getElem? ek)
    obtain ⟨kn, ms, rfl, m1, m6, hmm⟩ := kind_parts hkk
    obtain ⟨p, vx, vy, rfl, ep, np, hvx, hvy⟩ := dv_pair hx
    cases hvx
    obtain ⟨b, ys, rfl, eb, nb, dy⟩ := dv_tup hvy
    have ly := dy.length
    refine ⟨p, _, rfl, SqT.of (gg.tup ep (nn _)), rfl, _, _, rfl, _, _, rfl, rfl, ?_⟩
    refine ⟨_, rfl, _, _, rfl, .inr (SqT.of (gg.tup eb (nn _))), ?_⟩
    refine ⟨_, rfl, by omega, by rw [ly]; have := sizeLine_eq; omega, ?_⟩
    refine for_it (walk_range (lo := 0) (n := ((ys.length : Nat) : Int).toNat)) (fun j σ H' => ∃ p4, σ = [some (.ref a), some (.ref D), some (.str kn), some (.ref b), p4] ∧ Go T [] H H' ∧ ∃ kvs, H' D = some (.dK kvs) ∧ Ents [D] H' kvs (rowsM (ks.take i) ++ tag kn (ms.take j)))
      ⟨p4, rfl, gg, kvs, eD, by simpa [tag] using en⟩ (fun _ _ _ _ _ => trivial) (fun j x σ H5 H6 hj h y => ?_) (fun σ H5 h => ?_)
    · obtain ⟨p4, rfl, g3, kv3, eD3, en3⟩ := h
      obtain ⟨rfl, ey⟩ := y
      have ey2 : x = V.int (j : Int) := by rw [ey]; show V.int (0 + (j : Int)) = _; rw [Int.zero_add]
      clear ey
      subst ey2
      have hj2 : j < ys.length := by rw [Int.toNat_natCast] at hj; exact hj
      obtain ⟨md, em, hz⟩ := dy.get (List.getElem?_eq_getElem hj2)
      have hmd := hmm md (List.mem_of_getElem? em)
      obtain ⟨mn, fs, rfl, f4, hfs⟩ := maker_parts hmd
      generalize hyj : ys[j] = yj at hz
      have eyj : ys[j]? = some yj := by rw [List.getElem?_eq_getElem hj2, hyj]
      obtain ⟨q1, wx, wy, rfl, eq1, nq1, hwx, hwy⟩ := dv_pair hz
      cases hwx
      have sb := SqT.of (K := K) (g3.tup eb (nn _))
      have eq3 := g3.tup eq1 (nn _)
      refine ⟨_, rfl, _, rfl, _, rfl, _, rfl, b, ys, _, _, rfl, rfl, sb, atI_nat eyj, q1, _, 1, _, rfl, rfl, SqT.of eq3, atI_nat (j := 1) rfl, by show 3 ≤ sizeLine; decide, fun t2 ht2 => ?_⟩
      have u2 := Go.new (T := T) (M := [D]) (o := .tup [.str kn, .int (j : Nat), wy]) ht2
      have u2' := Go.new (T := T) (M := []) (o := .tup [.str kn, .int (j : Nat), wy]) ht2
      have tD : D ≠ t2 := ne_of_none eD3 ht2
      have eD4 := u2'.gr _ _ eD3 List.not_mem_nil fun _ z => by cases z
      have hmj : (kMk (.tuple [.str kn, .tuple ms]))[j]? = some (.tuple [.str mn, .tuple fs]) := em
      have fresh := name_new nu ek hmj
      have none_ : valV kv3 (.inr mn) = none := en3.none fresh
      have le := en3.length
      refine ⟨_, rfl, _, rfl, _, rfl, b, ys, _, _, rfl, rfl, SqT.of (u2'.tup (g3.tup eb (nn _)) (nn _)), atI_nat eyj, q1, _, 0, _, rfl, rfl, SqT.of (u2'.tup eq3 (nn _)), atI_nat (j := 0) rfl, D, _, rfl, .inl ⟨kv3, .inr mn, eD4, rfl, ?_, rfl⟩, _, rfl, (g3.trans u2').over hD eD4 (fun _ z => by cases z), kv3 ++ [(.inr mn, .ref t2)], ?_, ?_⟩
      · have l1 : (rowsM (ks.take i) ++ tag kn (ms.take j)).length ≤ 36 := by
          have a1 := rows_len (ks := ks.take i) fun k hk' => hkb k (List.mem_of_mem_take hk')
          rw [List.length_append, tag_len, List.length_take]
          rw [List.length_take] at a1
          omega
        rw [le, sizeLine_eq]
        omega
      · rw [upd_same, putK_new _ none_]
      · rw [tag_snoc em, ← List.append_assoc]
        have gS := Go.set (T := T) (M := [D]) (o := .dK (putK kv3 (.inr mn) (.ref t2))) eD4 (fun _ z => by cases z) List.mem_cons_self
        refine Ents.append ((en3.go u2).go gS) (.cons (fv := wy) (m := .tuple [.str mn, .tuple fs]) ?_ (by simpa using tD.symm) ?_ .nil)
        · rw [upd_ne tD.symm]
          exact upd_same
        · exact ((hwy.go (g3.of0 : Go T [D] H H6)).go u2).go gS
    · obtain ⟨p4, rfl, g3, kv3, eD3, en3⟩ := h
      rw [Int.toNat_natCast, ly, List.take_length] at en3
      refine ⟨_, _, _, rfl, g3, kv3, eD3, ?_⟩
      rw [rows_snoc ek]
      exact en3
  · obtain ⟨p2, p3, p4, rfl, gg, kvs, eD, en⟩ := h
    rw [lx, List.take_length] at en
    exact ⟨_, rfl, q D H3 hD ⟨kvs, eD, en.less (by simp)⟩ gg (gg.tb ht)⟩
theorem ok_law_integer (F : Fun K "_law_integer" "_law_integer" s_law_integer f fd) (B : Bl mg) (Fd : Fnn P w K mg base CX0 1 "_law_draw" ["well", "many"] (sp_draw T)) : FnOk P w K mg base CX0 2 f fd ["well"] (sp_integer T) := by
  have nd := sc_law_integer.nd
  refine F.ok sc_law_integer (fun vs H Q E h => ?_) (fun cdv A outer s H vs Q E hr h => ?_)
  · obtain ⟨_, _, _, rfl, _⟩ := h
    rfl
  obtain ⟨a, l, k, rfl, hk, W, ht, q⟩ := h
  refine ⟨_, pss_cons (ps_par (i := 1) (j := 2) rfl nd rfl rfl (by decide) rfl rfl (pa_cons (pe_op op_sub (pe_fn Fd hr (by decide) pass0 (pa_cons (pv 0) (pa_cons pe_int pa_nil))) pe_int) (pa_cons (pe_fn Fd hr (by decide) pass0 (pa_cons (pv 0) (pa_cons (pe_op op_pow pe_int pe_int) pa_nil))) pa_nil)) rfl)
    (pss_cons (ps_set (i := 3) nd rfl (.inl rfl) (pe_ix ix_list (pe_lst (pa_cons (pe_op op_pow pe_int pe_int) (pa_cons (pe_op op_mulW (pe_op op_pow pe_int pe_int) (pe_op op_pow pe_int pe_int)) pa_nil))) (pe_fn Fd hr (by decide) pass0 (pa_cons (pv 0) (pa_cons pe_int pa_nil))) (fun _ _ => rfl)))
    (pss_one (ps_ret (pe_ix ix_list (pe_lst (pa_cons (pv 1) (pa_cons (pv 1) (pa_cons (pe_op op_sub (pe_fn Fd hr (by decide) pass0 (pa_cons (pv 0) (pa_cons pe_int pa_nil))) pe_int) (pa_cons (pe_op op_add (pe_op op_mul (pv 1) (pv 3)) (pv 2)) pa_nil))))) (pe_fn Fd hr (by decide) pass0 (pa_cons (pv 0) (pa_cons pe_int pa_nil))) (fun _ _ => rfl))))), ?_⟩
  refine ⟨_, rfl, a, l, k, 7, rfl, by decide, by decide, by omega, W, ht, fun i1 H1 i10 i11 W1 g1 t1 => ?_⟩
  refine ⟨_, _, rfl, rfl, _, rfl, _, _, rfl, rfl, ⟨by decide, by decide, by decide⟩, a, l, k + 1, _, rfl, by decide, by decide, by omega, W1, t1, fun i2 H2 i20 i21 W2 g2 t2 => ?_⟩
  have e30 : (0 : Int) ≤ 1 := by decide
  refine ⟨_, _, rfl, _, _, rfl, rfl, ⟨by decide, by decide, by decide⟩, _, _, rfl, rfl, ⟨by decide, by decide, by decide⟩, _, _, rfl, rfl, ⟨by decide, by decide, by decide⟩, _, _, rfl, rfl, by show _ < _; decide +kernel, by show 2 ≤ sizeLine; decide, fun r hr1 => ?_⟩
  have u1 := Go.new (T := T) (M := []) (o := .lst [V.int (10 ^ (30 : Int).toNat), V.int (10 ^ (60 : Int).toNat * 10 ^ (40 : Int).toNat)]) hr1
  have W3 := W2.go u1
  have g13 := (g1.trans g2).trans (u1.of0 (M := [a, l]))
  have nr := W2.ne hr1
  have er : upd H2 r (.lst [V.int (10 ^ (30 : Int).toNat), V.int (10 ^ (60 : Int).toNat * 10 ^ (40 : Int).toNat)]) r = some _ := upd_same
  refine ⟨_, rfl, a, l, k + 2, 2, rfl, by decide, by decide, by omega, W3.up (by omega), u1.tb t2, fun i3 H3 i30 i31 W4 g4 t4 => ?_⟩
  obtain ⟨gv, eg, bg⟩ : ∃ g : Int, atI [V.int (10 ^ (30 : Int).toNat), V.int (10 ^ (60 : Int).toNat * 10 ^ (40 : Int).toNat)] i3 = some (.int g) ∧ 0 ≤ g ∧ g ≤ 10 ^ 100 := by
    have : i3 = 0 ∨ i3 = 1 := by omega
    rcases this with rfl | rfl
    · exact ⟨_, rfl, by decide +kernel, by decide +kernel⟩
    · exact ⟨_, rfl, by decide +kernel, by decide +kernel⟩
  refine ⟨r, _, i3, _, rfl, rfl, SqL.of (g4.lst er (nin nr)), eg, _, rfl, _, rfl, ?_⟩
  refine ⟨_, rfl, a, l, k + 3, 2001, rfl, by decide, by decide, by omega, W4.up (by omega), t4, fun i4 H4 i40 i41 W5 g5 t5 => ?_⟩
  refine ⟨_, _, rfl, rfl, _, rfl, _, rfl, _, _, rfl, rfl, .inl ⟨by show -2 ^ 64 < i1 - 3; omega, by show i1 - 3 < 2 ^ 64; omega⟩, _, rfl, _, _, rfl, rfl, by show 4 ≤ sizeLine; decide, fun p hp => ?_⟩
  have u2 := Go.new (T := T) (M := []) (o := .lst [V.int (i1 - 3), V.int (i1 - 3), V.int (i4 - 1000), V.int ((i1 - 3) * gv + i2)]) hp
  have W6 := W5.go u2
  refine ⟨_, rfl, a, l, k + 4, 4, rfl, by decide, by decide, by omega, W6.up (by omega), u2.tb t5, fun i5 H5 i50 i51 W7 g7 t7 => ?_⟩
  have e9 : (10 : Int) ^ Int.toNat 9 = 1000000000 := by decide
  rw [e9] at i21
  have e100 : ((10 : Int) ^ 100) * 10 ≤ (bigInt : Int) - 1000000000 := by unfold bigInt; decide +kernel
  have hm : ((i1 - 3) * gv).natAbs ≤ 3 * 10 ^ 100 := by
    rw [Int.natAbs_mul]
    have a1 : (i1 - 3).natAbs ≤ 3 := by omega
    have a2 : gv.natAbs ≤ 10 ^ 100 := by omega
    exact Nat.mul_le_mul a1 a2
  obtain ⟨zv, ez, bz⟩ : ∃ z : Int, atI [V.int (i1 - 3), V.int (i1 - 3), V.int (i4 - 1000), V.int ((i1 - 3) * gv + i2)] i5 = some (.int z) ∧ z.natAbs ≤ bigInt := by
    have : i5 = 0 ∨ i5 = 1 ∨ i5 = 2 ∨ i5 = 3 := by omega
    have hb : 10000 ≤ bigInt := by unfold bigInt; decide +kernel
    rcases this with rfl | rfl | rfl | rfl
    · exact ⟨_, rfl, by omega⟩
    · exact ⟨_, rfl, by omega⟩
    · exact ⟨_, rfl, by omega⟩
    · exact ⟨_, rfl, by generalize (i1 - 3) * gv = m at *; omega⟩
  refine ⟨p, _, i5, _, rfl, rfl, SqL.of (g7.lst upd_same (nin (W5.ne hp))), ez, ?_⟩
  exact q zv H5 bz (W7.up (by omega)) ((((g13.trans g4).trans g5).trans (u2.of0 (M := [a, l]))).trans g7) t7
end
end K3
set_option Elab.async false
set_option linter.all false
set_option maxRecDepth 100000
set_option maxHeartbeats 2000000
/-! own words, 22: x is True, x no truth -/
namespace SL
open PySem PySem.Spec PyProof.Rows L2 GxR NdefX GA RZ
def rIsTr : R2 := fun x y H Q => ∃ b, y = .bl b ∧ (∀ c, x ≠ .bl c) ∧ Q (.bl false) H
theorem op_isTr {X : Cx} : OpR X (compareOp .Is) rIsTr := by
  intro pins s σ H x y v u Q I rx ry h
  obtain ⟨b, rfl, hx, q⟩ := h
  have fin : ∀ e : Bool, e = false → wpAny (model X.prog X.w) X.A (pure (Value.bool e) : Sem Value) (EP X pins σ Q) X.xe s := fun e he => by
    subst he
    exact wpAny_pure ⟨.bl false, H, I, rfl, q⟩
  cases ry
  cases x with
  | bl c => exact absurd rfl (hx c)
  | non => cases rx; exact fin (Value.none == Value.bool b) rfl
  | int i => obtain ⟨t, rfl⟩ := rx; exact fin (Value.int i t == Value.bool b) rfl
  | str i => obtain ⟨t, rfl⟩ := rx; exact fin (Value.str i t == Value.bool b) rfl
  | byt i => obtain ⟨t, rfl⟩ := rx; exact fin (Value.bytes i t == Value.bool b) rfl
  | flt i => obtain ⟨t, rfl⟩ := rx; exact fin (Value.float i t == Value.bool b) rfl
  | ref a => cases rx; exact fin (Value.ref a == Value.bool b) rfl
  | ty n => cases rx; exact fin (Value.type n == Value.bool b) rfl
end SL
set_option Elab.async false
set_option linter.all false
set_option maxRecDepth 100000
set_option maxHeartbeats 2000000
/-! own words, 23: tuple + tuple -/
namespace SL
open PySem PySem.Spec PyProof.Rows L2 GxR NdefX GA RZ
theorem catT_ok {K : PySem.W.Frag} {T M : List Addr} {H : Hp} {p q : Addr} {xs ys : List V} {Q : VK} (hp : H p = some (.tup xs)) (hq : H q = some (.tup ys)) (np : p ∉ M) (nq : q ∉ M) (hl : xs.length + ys.length ≤ 16777216) (fresh : ∀ r, H r = none → r ∉ M)
    (k : ∀ r H', H' r = some (.tup (xs ++ ys)) → r ∉ M → Go T [] H H' → Q (.ref r) H') : rCatA K (.ref p) (.ref q) H Q := by
  refine ⟨p, q, xs, ys, rfl, rfl, SqT.of hp, SqT.of hq, sz hl, fun e => ?_, fun _ e => ?_, fun _ _ r hr => k r _ upd_same (fresh r hr) (Go.new hr)⟩
  · subst e
    exact k q H hq nq Go.refl
  · subst e
    exact k p H (by rw [List.append_nil]; exact hp) np Go.refl
end SL
set_option Elab.async false
set_option linter.all false
set_option maxRecDepth 100000
set_option maxHeartbeats 2000000
/-! own words, 24: isinstance(x, list) -/
namespace SL
open PySem PySem.Spec PyProof.Rows L2 GxR NdefX GA RZ
def isList : PyData → Bool
  | .list _ => true
  | _ => false
theorem isi_list {M : List Addr} {H : Hp} {K : PySem.W.Frag} {v : V} {d : PyData} {Q : VK} (h : Dv M H v d) (q : Q (.bl (isList d)) H) : rIsi K [v, .ty "list"] H Q := by
  refine isi_of h ?_ q
  cases d <;> first
    | exact (by decide +kernel : kitB "NoneType" "list" = some false)
    | exact (by decide +kernel : kitB "bool" "list" = some false)
    | exact (by decide +kernel : kitB "int" "list" = some false)
    | exact (by decide +kernel : kitB "str" "list" = some false)
    | exact (by decide +kernel : kitB "list" "list" = some true)
    | exact (by decide +kernel : kitB "tuple" "list" = some false)
    | exact (by decide +kernel : kitB "dict" "list" = some false)
section
variable {X : Cx} {a : Expr} {ta : TE} {p q pos : Pos}
theorem call_isi_list : CallR X (.builtin "isinstance") (rIsiD "list" isList) := fun pins s σ H xs us Q I r ⟨x, M, d, e, h, q⟩ => call_isi pins s σ H xs us Q I r (by rw [e]; exact isi_list h q)
theorem pe_isi_list (B : Bl X.mg) (ha : PE X a ta) (h1 : Gl X "isinstance" := by rfl) (h2 : Gl X "list" := by rfl)
    (he : starEach (a :: [.Name "list" q]) X.env = (false, eval a X.env) :: starEach [.Name "list" q] X.env := by rfl) : PE X (.Call (.Name "isinstance" p) [a, .Name "list" q] [] pos) (tCB (rIsiD "list" isList) (tCons ta (tCons (tC (.ty "list")) tNil))) :=
  pe_callB call_isi_list h1 B.isinst (by decide +kernel) (pa_cons ha (pa_cons (pe_bltn (v := .ty "list") h2 B.list (by decide +kernel) rfl) pa_nil) he) (by decide) (by decide) he
end
end SL
set_option Elab.async false
set_option linter.all false
set_option maxRecDepth 100000
set_option maxHeartbeats 8000000
namespace SL
open PySem PySem.Spec PyProof.Rows L2 GxR NdefX GA RZ
def isBlV (x : V) (b : Bool) : Bool := match x with
  | .bl c => c == b
  | _ => false
def rIsTrG : R2 := fun x y H Q => ∃ b, y = .bl b ∧ Q (.bl (isBlV x b)) H
theorem op_isTrG {X : Cx} : OpR X (compareOp .Is) rIsTrG := by
  intro pins s σ H x y v u Q I rx ry h
  obtain ⟨b, rfl, q⟩ := h
  cases x with
  | bl c =>
    cases rx
    cases ry
    have fin : ∀ e : Bool, e = (c == b) → wpAny (model X.prog X.w) X.A (pure (Value.bool e) : Sem Value) (EP X pins σ Q) X.xe s := fun e he => by
      subst he
      exact wpAny_pure ⟨.bl _, H, I, rfl, q⟩
    exact fin (Value.bool c == Value.bool b) (by cases c <;> cases b <;> rfl)
  | _ => exact op_isTr pins s σ H _ _ _ _ Q I rx ry ⟨b, rfl, (fun c => by simp), q⟩
end SL
namespace K3
open PySem PySem.Spec PyProof.Rows L2 GxR NdefX GA SL RZ
abbrev s_law_same : Stmt := top 44
theorem sc_law_same : FnScope ["found", "due", "k"] ["found", "due"] (defScope s_law_same) := ⟨rfl, rfl, rfl, by decide +kernel, rfl, by decide +kernel, by decide +kernel⟩
/-- what is compared: None, integers, texts, tuples of such -/
def okS : Nat → PyData → Prop
  | 0, d => d = .none ∨ (∃ z, d = .int z) ∨ (∃ x, d = .str x) ∨ ∃ b, d = .bool b
  | n + 1, d => d = .none ∨ (∃ z, d = .int z) ∨ (∃ x, d = .str x) ∨ (∃ b, d = .bool b) ∨ ∃ ws, d = .tuple ws ∧ ws.length ≤ 5000 ∧ ∀ e ∈ ws, okS n e
theorem okS_cases {n : Nat} {d : PyData} (h : okS n d) : d = .none ∨ (∃ z, d = .int z) ∨ (∃ x, d = .str x) ∨ (∃ b, d = .bool b) ∨ ∃ ws j, j < n ∧ d = .tuple ws ∧ ws.length ≤ 5000 ∧ ∀ e ∈ ws, okS j e := by
  cases n with
  | zero =>
    rcases h with h | h | h | h
    · exact .inl h
    · exact .inr (.inl h)
    · exact .inr (.inr (.inl h))
    · exact .inr (.inr (.inr (.inl h)))
  | succ n =>
    rcases h with h | h | h | h | ⟨ws, h1, h2, h3⟩
    · exact .inl h
    · exact .inr (.inl h)
    · exact .inr (.inr (.inl h))
    · exact .inr (.inr (.inr (.inl h)))
    · exact .inr (.inr (.inr (.inr ⟨ws, n, Nat.lt_succ_self n, h1, h2, h3⟩)))
def sp_same (T : List Addr) (n : Nat) : Sp := fun vs H Q _ => ∃ (v v' : V) (M M' : List Addr) (d : PyData), vs = [v, v'] ∧ Dv M H v d ∧ Dv M' H v' d ∧ okS n d ∧ Tabs T H ∧ ∀ H', Go T [] H H' → Tabs T H' → Q (.bl true) H'
section
variable {P : Program} {w : World} {K : PySem.W.Frag} {mg : Str → Option Value} {base : Heap} {f c Pt CK CR : Addr} {fd : FuncData} {T : List Addr}
theorem ok_law_same_step (n : Nat) (F : Fun K "_law_same" "_law_same" s_law_same f fd) (B : Bl mg) (Fs : Fnn P w K mg base CX0 n "_law_same" ["found", "due"] (fun vs H Q E => ∃ j, j < n ∧ sp_same T j vs H Q E)) : FnOk P w K mg base CX0 (n + 1) f fd ["found", "due"] (sp_same T n) := by
  have nd := sc_law_same.nd
  refine F.ok sc_law_same (fun vs H Q E h => ?_) (fun cdv A outer s H vs Q E hr h => ?_)
  · obtain ⟨_, _, _, _, _, rfl, _⟩ := h
    rfl
  obtain ⟨v, v', M, M', d, rfl, hv, hv', hd, ht, q⟩ := h
  refine ⟨_, pss_cons (ps_if (pt_cmpR op_isN (pv 1) pe_non (nomark _)) (pss_one (ps_ret (pe_cmpR op_isN (pv 0) pe_non (nomark _)))) pss_nil)
    (pss_cons (ps_if (pt_cmpR op_isTrG (pv 1) pe_bl (nomark _)) (pss_one (ps_ret (pe_cmpR op_isTrG (pv 0) pe_bl (nomark _)))) pss_nil)
    (pss_cons (ps_if (pt_cmpR op_isTrG (pv 1) pe_bl (nomark _)) (pss_one (ps_ret (pe_cmpR op_isTrG (pv 0) pe_bl (nomark _)))) pss_nil)
    (pss_cons (ps_if (pt_val (pe_isi_int B (pv 1))) (pss_one (ps_ret (pe_and (pe_isi_int B (pv 0)) (pe_and (pe_not (pe_isi_bool B (pv 0))) (pe_one (pe_cmpR op_eq (pv 0) (pv 1) (nomark _))))))) pss_nil)
    (pss_cons (ps_if (pt_val (pe_isi_str B (pv 1))) (pss_one (ps_ret (pe_and (pe_isi_str B (pv 0)) (pe_one (pe_cmpR op_eq (pv 0) (pv 1) (nomark _)))))) pss_nil)
    (pss_cons (ps_if (PW.pt (pw_or (pt_cmpR op_ne (pe_isi_tuple B (pv 1)) (pe_isi_tuple B (pv 0)) (nomark _)) (pw_or1 (pt_cmpR op_ne (pe_isi_list B (pv 1)) (pe_isi_list B (pv 0)) (nomark _))))) (pss_one (ps_ret pe_bl)) pss_nil)
    (pss_cons (ps_if (pt_cmpR op_ne (pe_lenq B (pv 0)) (pe_lenq B (pv 1)) (nomark _)) (pss_one (ps_ret pe_bl)) pss_nil)
    (pss_one (ps_ret (pe_allL rfl B (pe_lc (own := [("k", 2)]) (g := gName 2) (tt := tYes) (te := tCall (fun vs H Q E => ∃ j, j < n ∧ sp_same T j vs H Q E) [] E0 (tCons (tOp (rIxT K) (tVar 0) (tVar 2)) (tCons (tOp (rIxT K) (tVar 1) (tVar 2)) tNil))) rfl nd (pi_range1 rfl B.range (pa_cons (pe_lenq B (pv 1)) pa_nil))
      (blkOk_by (own := [("k", 2)]) (N := ["found", "due", "k"]) (sc := defScope s_law_same) (by decide +kernel)) (fun _ _ _ _ _ => pg_name (i := 2) nd rfl (.inl rfl)) (fun _ _ _ _ _ => pts_nil)
      (fun _ _ _ _ _ => pe_fn Fs hr (by omega) pass0 (pa_cons (pe_ix ix_tup (pv 0) (pv 2) (fun _ _ => rfl)) (pa_cons (pe_ix ix_tup (pv 1) (pv 2) (fun _ _ => rfl)) pa_nil))))))))))))), ?_⟩
  refine ⟨_, rfl, rfl, _, rfl, ?_⟩
  rcases okS_cases hd with rfl | ⟨z, rfl⟩ | ⟨x, rfl⟩ | ⟨tb, rfl⟩ | ⟨ws, j, hj, rfl, lw, hws⟩
  · cases hv'
    cases hv
    refine iteT ?_
    exact ⟨_, rfl, rfl, q H Go.refl ht⟩
  · cases hv'
    cases hv
    refine iteF ?_
    refine ⟨_, rfl, true, rfl, _, rfl, iteF ?_⟩
    refine ⟨_, rfl, false, rfl, _, rfl, iteF ?_⟩
    refine ⟨_, rfl, _, _, _, rfl, Dv.int (M := []) z, _, rfl, iteT ?_⟩
    refine ⟨_, rfl, _, _, _, rfl, Dv.int (M := []) z, _, rfl, ?_⟩
    split
    · refine ⟨_, rfl, _, _, _, rfl, Dv.int (M := []) z, _, rfl, _, rfl, ?_⟩
      split
      · refine ⟨_, rfl, _, rfl, rfl, ?_⟩
        exact goQ (q H Go.refl ht) (decide_eq_true rfl).symm
      · rename_i h
        exact absurd rfl h
    · rename_i h
      exact absurd rfl h
  · cases hv'
    cases hv
    refine iteF ?_
    refine ⟨_, rfl, true, rfl, _, rfl, iteF ?_⟩
    refine ⟨_, rfl, false, rfl, _, rfl, iteF ?_⟩
    refine ⟨_, rfl, _, _, _, rfl, Dv.str (M := []) x, _, rfl, iteF ?_⟩
    refine ⟨_, rfl, _, _, _, rfl, Dv.str (M := []) x, _, rfl, iteT ?_⟩
    refine ⟨_, rfl, _, _, _, rfl, Dv.str (M := []) x, _, rfl, iteT ?_⟩
    refine ⟨_, rfl, _, rfl, rfl, ?_⟩
    exact goQ (q H Go.refl ht) (decide_eq_true rfl).symm
  · cases hv'
    cases hv
    refine iteF ?_
    cases tb with
    | true =>
      refine ⟨_, rfl, true, rfl, _, rfl, iteT ?_⟩
      exact ⟨_, rfl, true, rfl, q H Go.refl ht⟩
    | false =>
      refine ⟨_, rfl, true, rfl, _, rfl, iteF ?_⟩
      refine ⟨_, rfl, false, rfl, _, rfl, iteT ?_⟩
      exact ⟨_, rfl, false, rfl, q H Go.refl ht⟩
  · obtain ⟨p1, xs, rfl, e1, n1, d1⟩ := dv_tup hv
    obtain ⟨p2, ys, rfl, e2, n2, d2⟩ := dv_tup hv'
    have l1 := d1.length
    have l2 := d2.length
    have nn : ∀ b : Addr, b ∉ ([] : List Addr) := fun b => List.not_mem_nil
    refine iteF ?_
    refine ⟨_, rfl, true, rfl, _, rfl, iteF ?_⟩
    refine ⟨_, rfl, false, rfl, _, rfl, iteF ?_⟩
    refine ⟨_, rfl, _, _, _, rfl, hv', _, rfl, iteF ?_⟩
    refine ⟨_, rfl, _, _, _, rfl, hv', _, rfl, iteF ?_⟩
    refine ⟨_, rfl, _, _, _, rfl, hv', _, rfl, _, _, _, rfl, hv, rfl, _, rfl, iteF ?_⟩
    refine ⟨_, rfl, _, _, _, rfl, hv', _, rfl, _, _, _, rfl, hv, rfl, _, rfl, iteF ?_⟩
    refine ⟨_, rfl, p1, xs, rfl, .inr (SqT.of e1), _, rfl, p2, ys, rfl, .inr (SqT.of e2), rfl, _, rfl, ?_⟩
    refine if_false_of (by rw [l1, l2]; simp) ?_
    refine ⟨_, rfl, p2, ys, rfl, .inr (SqT.of e2), _, rfl, by omega, by omega, fun D hD => ?_⟩
    have gD := Go.new (T := T) (M := []) (o := .lst []) hD
    refine lc_map (T := T) (H0 := H) (H1 := H) (fun _ => V.bl true) (walk_range (lo := 0) (n := ((ys.length : Nat) : Int).toNat)) (fun _ _ => trivial) ht Go.refl hD (by rw [sizeLine_eq]; omega) (fun i x H' H'' R hi g' t' y k => ?_) (fun H' g' t' e' => ?_)
    · obtain ⟨rfl, ey⟩ := y
      have ey2 : x = V.int (i : Int) := by rw [ey]; show V.int (0 + (i : Int)) = _; rw [Int.zero_add]
      clear ey
      subst ey2
      rw [Int.toNat_natCast] at hi
      have hx : xs[i]? = some xs[i] := List.getElem?_eq_getElem (by omega)
      have hy : ys[i]? = some ys[i] := List.getElem?_eq_getElem hi
      generalize xs[i] = x1 at hx
      generalize ys[i] = y1 at hy
      obtain ⟨e, ee, dx⟩ := d1.get hx
      obtain ⟨e0, ee0, dy⟩ := d2.get hy
      rw [ee] at ee0
      cases ee0
      refine ⟨rfl, _, rfl, _, rfl, p1, xs, (i : Int), x1, rfl, rfl, SqT.of (g'.tup e1 (nn _)), atI_nat hx, _, rfl, _, rfl, p2, ys, (i : Int), y1, rfl, rfl, SqT.of (g'.tup e2 (nn _)), atI_nat hy, j, hj, x1, y1, M, M', e, rfl, dx.go g'.of0, dy.go g'.of0, hws e (List.mem_of_getElem? ee), t', fun H3 g3 _ => k H3 g3⟩
    · refine ⟨D, (List.range ((ys.length : Nat) : Int).toNat).map fun _ => true, rfl, SqL.of (by rw [List.map_map]; exact e'), ?_⟩
      exact goQ (q H' g' t') (by simp)
theorem ok_law_same (F : Fun K "_law_same" "_law_same" s_law_same f fd) (hm : mg "_law_same" = some (.ref f)) (hb : Binds K fd ["found", "due"] []) (B : Bl mg) (n : Nat) : FnOk P w K mg base CX0 (n + 1) f fd ["found", "due"] (sp_same T n) := by
  induction n using Nat.strongRecOn with
  | ind n ih =>
    refine ok_law_same_step n F B ⟨f, fd, ⟨?_, ?_⟩, hm, F.kp, hb⟩
    · rintro vs H Q E ⟨j, hj, h⟩
      exact (ih j hj).len vs H Q E h
    · rintro A outer s H args us vs Q E hr env hbt hv ⟨j, hj, h⟩
      exact (ih j hj).run A outer s H args us vs Q E (hr.mono (by omega)) env hbt hv h
end
end K3
set_option Elab.async false
set_option linter.all false
set_option maxRecDepth 100000
set_option maxHeartbeats 8000000
namespace SL
open PySem PySem.Spec PyProof.Rows L2 GxR NdefX GA RZ
theorem cr_range1 {X : Cx} : CallR X (.type "range") (fun vs H Q => ∃ j, vs = [V.int j] ∧ ∀ p, H p = none → Q (.ref p) (upd H p (.rng 0 j))) := by
  intro pins s σ H vs us Q I r h
  obtain ⟨j, rfl, q⟩ := h
  obtain ⟨u1, rfl, ri⟩ := vals1 r
  obtain ⟨t, rfl⟩ := ri
  refine call_range_1 ⟨.ref s.heap.objs.size, upd H s.heap.objs.size (.rng 0 j), I.laid (t' := s.toks + 1 + 1) (fun b o e => Heap.get?_push_of_some _ e) (Nat.le_refl _) ?_, rfl, q _ (I.hok.fresh (Nat.le_refl _))⟩
  exact ⟨s.toks, t, s.toks + 1, Heap.get?_push_size _ rfl⟩
def rRng1 : List V → Hp → VK → Prop := fun vs H Q => ∃ j, vs = [V.int j] ∧ ∀ p, H p = none → Q (.ref p) (upd H p (.rng 0 j))
theorem pe_rng1 {X : Cx} {a : Expr} {ta : TE} {p pos : Pos} (B : Bl X.mg) (ha : PE X a ta) (h1 : Gl X "range" := by rfl) (he : starEach (a :: []) X.env = (false, eval a X.env) :: starEach [] X.env := by rfl) : PE X (.Call (.Name "range" p) [a] [] pos) (tCB rRng1 (tCons ta tNil)) :=
  pe_callTy cr_range1 h1 B.range (by decide +kernel) (pa_cons ha pa_nil he) (by decide) (by decide) he
end SL
namespace K3
open PySem PySem.Spec PyProof.Rows L2 GxR NdefX GA SL RZ
abbrev s_law_is_lines : Stmt := top 43
abbrev s_law_sizes : Stmt := top 45
theorem sc_law_is_lines : FnScope ["table", "value", "sorts", "line", "fields", "k", "entry"] ["table", "value"] (defScope s_law_is_lines) := ⟨rfl, rfl, rfl, by decide +kernel, rfl, by decide +kernel, by decide +kernel⟩
theorem sc_law_sizes : FnScope ["table", "lines", "found", "maker", "entries", "fields", "k"] ["table", "lines"] (defScope s_law_sizes) := ⟨rfl, rfl, rfl, by decide +kernel, rfl, by decide +kernel, by decide +kernel⟩
section
variable {ks : List PyData} {sorts : List Str} {r dx dy : PyData} {mn : Str} {es : List PyData}
theorem rowB_no2 (h : tupB r 2 2 = false) : rowB ks sorts r = false := by
  unfold rowB
  rw [h]
  simp
theorem rowB_nostr (h : isStr dx = false) : rowB ks sorts (.tuple [dx, dy]) = false := by
  have h : isStr (fstD (.tuple [dx, dy])) = false := h
  unfold rowB
  rw [h]
  simp
theorem rowB_noname (h : mn ∉ namesM (rowsM ks)) : rowB ks sorts (.tuple [.str mn, dy]) = false := by
  have h : decide (rowNm (.tuple [.str mn, dy]) ∈ namesM (rowsM ks)) = false := decide_eq_false h
  unfold rowB
  rw [h]
  simp
theorem rowB_nolen (h : tupB dy (flK ks mn).length (flK ks mn).length = false) : rowB ks sorts (.tuple [.str mn, dy]) = false := by
  have h : tupB (sndD (.tuple [.str mn, dy])) (flK ks (rowNm (.tuple [.str mn, dy]))).length (flK ks (rowNm (.tuple [.str mn, dy]))).length = false := h
  unfold rowB
  rw [h]
  simp
theorem rowB_ents (hx : mn ∈ namesM (rowsM ks)) (hl : es.length = (flK ks mn).length) : rowB ks sorts (.tuple [.str mn, .tuple es]) = (List.range (flK ks mn).length).all (entsB sorts (flK ks mn) es) := by
  have h1 : decide (rowNm (.tuple [.str mn, .tuple es]) ∈ namesM (rowsM ks)) = true := decide_eq_true hx
  have h2 : tupB (sndD (.tuple [.str mn, .tuple es])) (flK ks (rowNm (.tuple [.str mn, .tuple es]))).length (flK ks (rowNm (.tuple [.str mn, .tuple es]))).length = true := by
    show (decide (((flK ks mn).length : Int) ≤ (es.length : Int)) && decide ((es.length : Int) ≤ ((flK ks mn).length : Int))) = true
    rw [hl]
    simp
  unfold rowB
  rw [h1, h2]
  rfl
theorem tup_not2 (h : es.length ≠ 2) : tupB (.tuple es) 2 2 = false := by
  rw [Bool.eq_false_iff]
  intro z
  obtain ⟨_, z1, z2, z3⟩ := tupOf z
  cases z1
  omega
theorem entsB_at {fs : List Str} {j : Nat} {f : Str} {e : PyData} (h1 : fs[j]? = some f) (h2 : es[j]? = some e) : entsB sorts fs es j = entB sorts f e := by
  unfold entsB
  rw [List.getD_eq_getElem?_getD, List.getD_eq_getElem?_getD, h1, h2] <;> rfl
theorem range_bad {t : Nat → Bool} {n j : Nat} (hj : j < n) (h : t j = false) : (List.range n).all t = false := by
  rw [List.all_eq_false]
  exact ⟨j, List.mem_range.mpr hj, by rw [h]; simp⟩
end
def sp_is_lines (T : List Addr) : Sp := fun vs H Q _ => ∃ (D : Addr) (v : V) (ks : List PyData) (d : PyData), vs = [.ref D, v] ∧ MkD H D ks ∧ Dv [] H v d ∧ kindsB (.tuple ks) = true ∧ Tabs T H ∧ ∀ H', Go T [] H H' → Tabs T H' → Q (.bl (rowsB ks d)) H'
def sp_law_sizes (T : List Addr) : Sp := fun vs H Q _ => ∃ (D : Addr) (rv : V) (ks : List PyData) (rows : List (Str × List Int)) (sorts : List Str), vs = [.ref D, rv] ∧ MkD H D ks ∧ Dv [] H rv (rowsD rows) ∧ kindsB (.tuple ks) = true ∧ rows.length ≤ 200 ∧ rowsFit ks rows sorts ∧ Tabs T H ∧ ∀ p H', H p = none → H' p = some (.tup ((sizesL ks rows).map V.int)) → Go T [] H H' → Tabs T H' → Q (.ref p) H'
section
variable {P : Program} {w : World} {K : PySem.W.Frag} {mg : Str → Option Value} {base : Heap} {f c Pt CK CR : Addr} {fd : FuncData} {T : List Addr}
theorem ok_law_is_lines (F : Fun K "_law_is_lines" "_law_is_lines" s_law_is_lines f fd) (B : Bl mg) : FnOk P w K mg base CX0 1 f fd ["table", "value"] (sp_is_lines T) := by
  have nd := sc_law_is_lines.nd
  refine F.ok sc_law_is_lines (fun vs H Q E h => ?_) (fun cdv A outer s H vs Q E hr h => ?_)
  · obtain ⟨_, _, _, _, rfl, _⟩ := h
    rfl
  obtain ⟨D, v, ks, d, rfl, hD, hv, hk, ht, q⟩ := h
  have hu : (A.deeper (envOfC "_law_is_lines" (defScope s_law_is_lines) s.heap.objs.size f cdv)).units + 1 < cLine := by
    have := hr.un
    omega
  refine ⟨_, pss_cons (ps_if (PW.pt (pw_or (pt_not (pt_val (pe_isi_tuple B (pv 1)))) (pw_or1 (pt_cmpR op_outside (pe_lenq B (pv 1)) (pe_rng B pe_int pe_int) rfl)))) (pss_one (ps_ret pe_bl)) pss_nil)
    (pss_cons (ps_set (i := 2) nd rfl (.inl rfl) (pe_lst pa_nil))
    (pss_cons (ps_for PassesOwn.never rfl (pi_tup (pv 1)) (pg_name (i := 3) nd rfl (.inl rfl))
      (pss_cons (ps_if (PW.pt (pw_or (pt_not (pt_val (pe_isi_tuple B (pv 3)))) (pw_or (pt_cmpR op_ne (pe_lenq B (pv 3)) pe_int (nomark _)) (pw_or (pt_not (pt_val (pe_isi_str B (pe_ix ix_tup (pv 3) pe_int (fun _ _ => rfl))))) (pw_or1 (pt_cmp (pc_dnotin hu (pe_ix ix_tup (pv 3) pe_int (fun _ _ => rfl)) (pv 0)))))))) (pss_one (ps_ret pe_bl)) pss_nil)
      (pss_cons (ps_set (i := 4) nd rfl (.inl rfl) (pe_ix ix_tup (pe_dget hu (pv 0) (pe_ix ix_tup (pv 3) pe_int (fun _ _ => rfl)) (fun _ _ => rfl)) pe_int (fun _ _ => rfl)))
      (pss_cons (ps_if (PW.pt (pw_or (pt_not (pt_val (pe_isi_tuple B (pe_ix ix_tup (pv 3) pe_int (fun _ _ => rfl))))) (pw_or1 (pt_cmpR op_ne (pe_lenq B (pe_ix ix_tup (pv 3) pe_int (fun _ _ => rfl))) (pe_lenq B (pv 4)) (nomark _))))) (pss_one (ps_ret pe_bl)) pss_nil)
      (pss_cons (ps_for PassesOwn.never rfl (pi_range1 rfl B.range (pa_cons (pe_lenq B (pv 4)) pa_nil)) (pg_name (i := 5) nd rfl (.inl rfl))
        (pss_cons (ps_set (i := 6) nd rfl (.inl rfl) (pe_ix ix_tup (pe_ix ix_tup (pv 3) pe_int (fun _ _ => rfl)) (pv 5) (fun _ _ => rfl)))
        (pss_cons (ps_if (PW.pt (pw_or (pt_not (pt_val (pe_isi_int B (pv 6)))) (pw_or1 (pt_val (pe_isi_bool B (pv 6)))))) (pss_one (ps_ret pe_bl)) pss_nil)
        (pss_one (ps_if (PW.pt (pw_and (pt_cmpR op_ne (pe_ix ix_tup (pv 4) (pv 5) (fun _ _ => rfl)) pe_str (nomark _)) (pw_and1 (PW.pt (pw_or (pt_cmpR op_outside (pv 6) (pe_rng1 B (pe_lenq B (pv 2))) rfl) (pw_or1 (pt_cmpR op_ne (pe_ix ix_list (pv 2) (pv 6) (fun _ _ => rfl)) (pe_ix ix_tup (pv 4) (pv 5) (fun _ _ => rfl)) (nomark _)))))))) (pss_one (ps_ret pe_bl)) pss_nil)))))
      (pss_one (ps_expr (pe_bm PySem.F.plainAttrs_list PySem.F.slot_list_append PySem.F.type_list_append mt_append (pv 2) (pa_cons (pe_ix ix_tup (pe_dget hu (pv 0) (pe_ix ix_tup (pv 3) pe_int (fun _ _ => rfl)) (fun _ _ => rfl)) pe_int (fun _ _ => rfl)) pa_nil)))))))))
    (pss_one (ps_ret pe_bl)))), ?_⟩
  have nn : ∀ b : Addr, b ∉ ([] : List Addr) := fun b => List.not_mem_nil
  obtain ⟨nu, _, _⟩ := kinds_names hk
  refine ⟨_, rfl, _, _, _, rfl, hv, _, rfl, ?_⟩
  by_cases c1 : tupB d 1 96 = true
  · obtain ⟨ds, rfl, l1, l96⟩ := tupOf c1
    obtain ⟨a, xs, rfl, ea, _, dx⟩ := dv_tup hv
    have lx := dx.length
    refine iteF ?_
    refine ⟨_, rfl, a, _, rfl, .inr (SqT.of ea), 1, 97, rfl, fun p hp => ⟨_, p, 1, 97, rfl, rfl, upd_same, _, rfl, ?_⟩⟩
    rw [decide_eq_true (show (1 : Int) ≤ (xs.length : Int) ∧ (xs.length : Int) < 97 by omega)]
    refine iteF ?_
    have g0 : Go T [] H (upd H p (.rng 1 97)) := Go.new hp
    refine ⟨by show 0 ≤ sizeLine; omega, fun ka hka => ?_⟩
    have g1 := g0.trans (Go.new (o := .lst []) hka)
    refine ⟨_, rfl, a, rfl, ⟨_, SqT.of (g1.tup ea (nn _))⟩, ?_⟩
    have hkaH : H ka = none := g0.al _ hka
    refine for_it (n := xs.length) walk_tup (fun i σ H' => ∃ p3 p4 p5 p6, σ = [some (.ref D), some (.ref a), some (.ref ka), p3, p4, p5, p6] ∧ Go T [] H H' ∧ H' ka = some (.lst ((sortsB ks (ds.take i)).map V.str)) ∧ ∀ j, j < i → rowAt ks ds j = true)
      ⟨none, none, none, none, rfl, g1, by rw [List.take_zero]; exact upd_same, fun j h => absurd h (Nat.not_lt_zero j)⟩
      (fun i σ H' _ ⟨_, _, _, _, _, g, _⟩ => SqT.of (g.tup ea (nn _))) (fun i x σ H3 H4 hi h y => ?_) (fun σ H3 h => ?_)
    · obtain ⟨p3, p4, p5, p6, rfl, g3, e3, al⟩ := h
      obtain ⟨rfl, ex⟩ := y
      obtain ⟨rd, ed, hx⟩ := dx.get ex
      have lsr : (sortsB ks (ds.take i)).length ≤ 96 := by
        rw [sortsB_len, List.length_take]
        omega
      have bad : ∀ H', Go T [] H4 H' → rowB ks (sortsB ks (ds.take i)) rd = false → Q (.bl false) H' := fun H' g h => by
        have := q H' (g3.trans g) ((g3.trans g).tb ht)
        rw [rows_bad ed h] at this
        exact this
      have eti := sortsB_next (ks := ks) ed
      have ati := rowAt_of (ks := ks) ed
      generalize hsr : sortsB ks (ds.take i) = sr at *
      have hx3 := hx.go g3
      refine ⟨_, rfl, _, _, _, rfl, hx3, _, rfl, ?_⟩
      cases hx3 with
      | @tup b ys es0 eb nb hys =>
        refine iteF ?_
        have hyl := hys.length
        refine ⟨_, rfl, b, _, rfl, .inr (SqT.of eb), rfl, _, rfl, ?_⟩
        by_cases c2 : ys.length = 2
        · refine if_false_of (by rw [c2] <;> rfl) ?_
          obtain ⟨d0, d1, ez⟩ : ∃ d0 d1, es0 = [d0, d1] := by
            match es0, hyl.symm.trans c2 with
            | [x, y], _ => exact ⟨x, y, rfl⟩
          subst ez
          obtain ⟨_, y0, y1, er, eb2, _, hy0, hy1⟩ := dv_pair (Dv.tup eb nb hys)
          cases er
          rw [eb] at eb2
          cases eb2
          refine ⟨_, rfl, b, _, 0, _, rfl, rfl, SqT.of eb, rfl, _, _, _, rfl, hy0, _, rfl, ?_⟩
          cases cs : isStr d0 with
          | false => exact iteT (bad _ Go.refl (rowB_nostr cs))
          | true =>
            refine iteF ?_
            obtain ⟨mn, rfl⟩ := isStr_of cs
            cases hy0
            have hD4 := hD.go g3
            by_cases hxn : mn ∈ namesM (rowsM ks)
            · obtain ⟨kd', p', m', t', fv', h1, h2, h3, h4, h5⟩ := hD4.get hxn
              refine ⟨_, rfl, b, _, 0, _, rfl, rfl, SqT.of eb, rfl, _, rfl, D, _, rfl, h3, _, rfl, ?_⟩
              refine iteF ?_
              obtain ⟨fl, rfl, ef, _, lf⟩ := flds_dv (rows_maker hk h1) h5
              have fe : flK ks mn = flds m' := by rw [← h2]; exact flK_eq nu h1
              have ke : kdK ks mn = kd' := by rw [← h2]; exact kdK_eq nu h1
              refine ⟨_, rfl, _, rfl, b, _, 0, _, rfl, rfl, SqT.of eb, rfl, D, _, rfl, h3, t', _, 2, _, rfl, rfl, SqT.of h4, atI_nat (j := 2) rfl, ?_⟩
              refine ⟨_, rfl, b, _, 1, _, rfl, rfl, SqT.of eb, rfl, _, _, _, rfl, hy1, _, rfl, ?_⟩
              cases hy1 with
              | @tup b1 zs es1 eb1 nb1 hzs =>
                refine iteF ?_
                have hzl := hzs.length
                have lfm : (((flds m').map V.str).length : Int) = ((flds m').length : Int) := by rw [List.length_map]
                refine ⟨_, rfl, b, _, 1, _, rfl, rfl, SqT.of eb, rfl, b1, _, rfl, .inr (SqT.of eb1), _, rfl, fl, _, rfl, .inr (SqT.of ef), rfl, _, rfl, ?_⟩
                by_cases c3 : zs.length = (flds m').length
                · refine if_false_of (by rw [lfm, c3]; simp) ?_
                  have rB := rowB_ents (sorts := sr) hxn (es := es1) (by rw [fe, ← c3, hzl])
                  rw [fe] at rB
                  refine ⟨_, rfl, fl, _, rfl, .inr (SqT.of ef), ?_⟩
                  refine ⟨_, rfl, by omega, by omega, ?_⟩
                  refine for_it (walk_range (lo := 0) (n := ((((flds m').map V.str).length : Nat) : Int).toNat)) (fun j σ H' => ∃ p5 p6, σ = [some (.ref D), some (.ref a), some (.ref ka), some (.ref b), some (.ref fl), p5, p6] ∧ Go T [] H4 H' ∧ ∀ j', j' < j → entsB sr (flds m') es1 j' = true)
                    ⟨p5, p6, rfl, Go.refl, fun j h => absurd h (Nat.not_lt_zero j)⟩ (fun _ _ _ _ _ => trivial) (fun j x σ H5 H6 hj h y => ?_) (fun σ H5 h => ?_)
                  · obtain ⟨p5, p6, rfl, g5, al5⟩ := h
                    obtain ⟨rfl, ey⟩ := y
                    have ey2 : x = V.int (j : Int) := by rw [ey]; show V.int (0 + (j : Int)) = _; rw [Int.zero_add]
                    clear ey
                    subst ey2
                    rw [Int.toNat_natCast, List.length_map] at hj
                    have e1 : (flds m')[j]? = some (flds m')[j] := List.getElem?_eq_getElem hj
                    have e2 : zs[j]? = some zs[j] := List.getElem?_eq_getElem (by omega)
                    generalize (flds m')[j] = f' at e1
                    generalize zs[j] = z at e2
                    obtain ⟨e, ee, he⟩ := hzs.get e2
                    have ent := entsB_at (sorts := sr) e1 ee
                    have bad5 : ∀ H', Go T [] H6 H' → entB sr f' e = false → Q (.bl false) H' := fun H' g h => bad H' (g5.trans g) (by rw [rB]; exact range_bad hj (by rw [ent, h]))
                    have eb6 := g5.tup eb (nn _)
                    have eb16 := g5.tup eb1 (nn _)
                    have ef6 := g5.tup ef (nn _)
                    have e36 := g5.lst e3 (nn _)
                    have he6 := he.go g5
                    refine ⟨_, rfl, b, _, 1, _, rfl, rfl, SqT.of eb6, rfl, _, rfl, b1, zs, (j : Int), z, rfl, rfl, SqT.of eb16, atI_nat e2, ?_⟩
                    refine ⟨_, rfl, _, _, _, rfl, he6, _, rfl, ?_⟩
                    have nxt : ∀ H', Go T [] H6 H' → entB sr f' e = true → ∃ p5' p6', [some (.ref D), some (.ref a), some (.ref ka), some (.ref b), some (.ref fl), some (V.int (j : Int)), some z] = [some (V.ref D), some (.ref a), some (.ref ka), some (.ref b), some (.ref fl), p5', p6'] ∧ Go T [] H4 H' ∧ ∀ j', j' < j + 1 → entsB sr (flds m') es1 j' = true := fun H' g h =>
                      ⟨_, _, rfl, g5.trans g, fun j' hj' => by
                        rcases Nat.lt_or_ge j' j with w | w
                        · exact al5 j' w
                        · have : j' = j := by omega
                          rw [this, ent, h]⟩
                    cases he6 with
                    | int iz =>
                      refine iteF ?_
                      refine ⟨_, rfl, _, _, _, rfl, Dv.int (M := []) iz, _, rfl, iteF ?_⟩
                      refine ⟨_, rfl, _, rfl, fl, _, _, .str f', rfl, rfl, SqT.of ef6, atI_nat (by rw [List.getElem?_map, e1] <;> rfl), rfl, _, rfl, ?_⟩
                      by_cases c4 : f' = "number"
                      · refine if_false_of (by rw [c4]; simp) (iteF ?_)
                        exact nxt H6 Go.refl (by show (decide (f' = "number") || _) = true; rw [decide_eq_true c4, Bool.true_or])
                      · refine if_true_of (by simp [c4]) ?_
                        have eB : entB sr f' (.int iz) = (decide (0 ≤ iz) && decide (iz < (sr.length : Int)) && decide (sr[iz.toNat]? = some f')) := by
                          show (decide (f' = "number") || _) = _
                          rw [decide_eq_false c4, Bool.false_or]
                        refine ⟨_, rfl, _, rfl, ka, _, rfl, .inl (SqL.of e36), _, rfl, fun p hp => ⟨iz, p, 0, _, rfl, rfl, upd_same, _, rfl, ?_⟩⟩
                        have gp := Go.new (T := T) (M := []) (o := .rng 0 (((sr.map V.str).length : Nat) : Int)) hp
                        by_cases c5 : (0 : Int) ≤ iz ∧ iz < (((sr.map V.str).length : Nat) : Int)
                        · rw [decide_eq_true c5]
                          refine iteF ?_
                          rw [List.length_map] at c5
                          obtain ⟨n, rfl⟩ : ∃ n : Nat, iz = (n : Int) := ⟨iz.toNat, by omega⟩
                          have ln : n < sr.length := by omega
                          have en := List.getElem?_eq_getElem ln
                          rw [decide_eq_true c5.1, decide_eq_true c5.2, Int.toNat_natCast, en] at eB
                          refine ⟨_, rfl, _, rfl, ka, _, (n : Int), .str sr[n], rfl, rfl, SqL.of (gp.lst e36 (nn _)), atI_nat (by rw [List.getElem?_map, en] <;> rfl), _, rfl, _, rfl, fl, _, _, .str f', rfl, rfl, SqT.of (gp.tup ef6 (nn _)), atI_nat (by rw [List.getElem?_map, e1] <;> rfl), rfl, _, rfl, ?_⟩
                          by_cases c6 : sr[n] = f'
                          · refine if_false_of (by rw [c6]; simp) ?_
                            exact nxt _ gp (by rw [eB, c6]; simp)
                          · refine if_true_of (by simp [c6]) ?_
                            exact bad5 _ gp (by rw [eB]; simp [c6])
                        · rw [decide_eq_false c5]
                          refine iteT (iteT ?_)
                          refine bad5 _ gp ?_
                          rw [eB]
                          rw [List.length_map] at c5
                          by_cases c7 : (0 : Int) ≤ iz
                          · have : ¬ iz < (sr.length : Int) := fun z => c5 ⟨c7, z⟩
                            rw [decide_eq_false this]
                            simp
                          · rw [decide_eq_false c7]
                            simp
                    | bl bz =>
                      refine iteF ?_
                      refine ⟨_, rfl, _, _, _, rfl, Dv.bl (M := []) bz, _, rfl, iteT ?_⟩
                      exact bad5 _ Go.refl rfl
                    | _ => exact iteT (bad5 _ Go.refl rfl)
                  · obtain ⟨p5, p6, rfl, g5, al5⟩ := h
                    rw [Int.toNat_natCast, List.length_map] at al5
                    have rT : rowB ks sr (.tuple [.str mn, .tuple es1]) = true := by
                      rw [rB]
                      exact List.all_eq_true.mpr fun j hj => al5 j (List.mem_range.mp hj)
                    have e35 := g5.lst e3 (nn _)
                    obtain ⟨kd2, p2, m2, t2, fv2, k1, k2, k3, k4, k5⟩ := (hD4.go g5).get hxn
                    have ke2 : kdK ks mn = kd2 := by rw [← k2]; exact kdK_eq nu k1
                    refine ⟨_, rfl, .inl ⟨rfl, _, SqL.of e35⟩, _, rfl, _, rfl, b, _, 0, _, rfl, rfl, SqT.of (g5.tup eb (nn _)), rfl, D, _, rfl, k3, t2, _, 0, _, rfl, rfl, SqT.of k4, atI_nat (j := 0) rfl, ?_⟩
                    refine ⟨ka, _, _, rfl, rfl, e35, by rw [List.length_map, sizeLine_eq]; omega, _, _, _, _, rfl, (g3.trans g5).over hkaH e35 (fun _ z => by cases z), ?_, fun j hj => ?_⟩
                    · rw [upd_same, eti, List.map_append]
                      show some (HO.lst (_ ++ [V.str kd2])) = some (HO.lst (_ ++ [V.str (kdK ks mn)]))
                      rw [ke2]
                    · rcases Nat.lt_or_ge j i with w | w
                      · exact al j w
                      · have : j = i := by omega
                        rw [this, ati, rT]
                · refine if_true_of (by rw [lfm]; simp; omega) ?_
                  refine bad _ Go.refl (rowB_nolen ?_)
                  rw [fe, Bool.eq_false_iff]
                  intro z
                  obtain ⟨_, z1, z2, z3⟩ := tupOf z
                  cases z1
                  omega
              | _ => exact iteT (bad _ Go.refl (rowB_nolen rfl))
            · refine ⟨_, rfl, b, _, 0, _, rfl, rfl, SqT.of eb, rfl, _, rfl, D, _, rfl, hD4.no hxn, _, rfl, ?_⟩
              exact iteT (bad _ Go.refl (rowB_noname hxn))
        · refine if_true_of (by rw [decide_eq_false (fun z => c2 (by have := V.int.inj z; omega))] <;> rfl) (bad _ Go.refl (rowB_no2 (tup_not2 (by omega))))
      | _ => exact iteT (bad _ Go.refl (rowB_no2 rfl))
    · obtain ⟨p3, p4, p5, p6, rfl, g3, e3, al⟩ := h
      have := q H3 g3 (g3.tb ht)
      rw [rows_all c1 (by rw [← lx]; exact al)] at this
      exact this
  · have c1' : tupB d 1 96 = false := Bool.eq_false_iff.mpr c1
    have ek : rowsB ks d = false := by unfold rowsB; rw [c1'] <;> rfl
    rw [ek] at q
    cases hv with
    | @tup a xs ds e n r =>
      refine iteF ?_
      refine ⟨_, rfl, a, _, rfl, .inr (SqT.of e), 1, 97, rfl, fun p hp => ⟨_, p, 1, 97, rfl, rfl, upd_same, _, rfl, ?_⟩⟩
      have hl := r.length
      have : ¬ ((1 : Int) ≤ (xs.length : Int) ∧ (xs.length : Int) < 97) := fun z => c1 (by
        show (decide ((1 : Int) ≤ (ds.length : Int)) && decide ((ds.length : Int) ≤ 96)) = true
        rw [decide_eq_true (show (1 : Int) ≤ (ds.length : Int) by omega), decide_eq_true (show (ds.length : Int) ≤ 96 by omega)] <;> rfl)
      rw [decide_eq_false this]
      have g0 : Go T [] H (upd H p (.rng 1 97)) := Go.new hp
      exact iteT (q _ g0 (g0.tb ht))
    | _ => exact iteT (q H Go.refl ht)
end
end K3
set_option Elab.async false
set_option linter.all false
set_option maxRecDepth 100000
set_option maxHeartbeats 2000000
/-! own words, 25: xs == []; what stays but lists -/
namespace SL
open PySem PySem.Spec PyProof.Rows L2 GxR NdefX GA RZ
section
variable {X : Cx}
def rEqNil (K : PySem.W.Frag) : R2 := fun x y H Q => ∃ a b xs, x = .ref a ∧ y = .ref b ∧ SqL K H a xs ∧ SqL K H b [] ∧ Q (.bl xs.isEmpty) H
theorem op_eqNil (hu : X.A.units < cLine) : OpR X (compareOp .Eq) (rEqNil X.K) := by
  intro pins s σ H x y v u Q I rx ry h
  obtain ⟨a, b, xs, rfl, rfl, h1, h2, q⟩ := h
  cases rx
  cases ry
  show wpAny _ _ (richCompare .Eq (.ref a) (.ref b)) _ _ _
  have fin : EP X pins σ Q (.bool xs.isEmpty) s := ⟨.bl _, H, I, rfl, q⟩
  obtain ⟨its, r, p, _⟩ := I.list h1
  obtain ⟨its2, r2, p2, _⟩ := I.list h2
  cases r2
  obtain ⟨o, n, g, c, _, dd⟩ := p
  obtain ⟨o2, n2, g2, c2, _, dd2⟩ := p2
  have l1 : s.heap.IsList a its.toArray := ⟨o, g, c, n, dd⟩
  have l2 : s.heap.IsList b ([] : List Value).toArray := ⟨o2, g2, c2, n2, dd2⟩
  cases r with
  | nil => exact PySem.SeqAt.RcAt.lists l1 l2 rfl hu (e := fun _ => true) (fun j hj _ => absurd hj (Nat.not_lt_zero _)) _ _ _ _ fin
  | cons _ _ => exact PySem.SeqAt.RcAt.lists_lengths l1 l2 rfl hu _ _ _ _ fin
end
/-- all stays but lists and tables -/
def ST (H H' : Hp) : Prop := ∀ p o, H p = some o → (∀ xs, o ≠ .lst xs) → (∀ ps, o ≠ .tbl ps) → H' p = some o
theorem ST.refl {H : Hp} : ST H H := fun _ _ e _ _ => e
theorem ST.trans {H H1 H2 : Hp} (a : ST H H1) (b : ST H1 H2) : ST H H2 := fun p o e l t => b p o (a p o e l t) l t
theorem ST.go {T M : List Addr} {H H' : Hp} (g : Go T M H H') (hM : ∀ b ∈ M, ∃ ys, H b = some (.lst ys)) : ST H H' := fun p o e l t => g.gr p o e (fun z => by obtain ⟨ys, ey⟩ := hM p z; rw [e] at ey; exact l ys (Option.some.inj ey)) t
theorem ST.go0 {T : List Addr} {H H' : Hp} (g : Go T [] H H') : ST H H' := ST.go g fun _ z => absurd z List.not_mem_nil
theorem ST.set {H : Hp} {p : Addr} {ys : List V} {o' : HO} (e : H p = some (.lst ys)) : ST H (upd H p o') := fun q o e' l _ => by
  by_cases c : q = p
  · subst c
    rw [e] at e'
    exact absurd (Option.some.inj e').symm (l ys)
  · rw [upd_ne c]
    exact e'
theorem ST.tup {H H' : Hp} (s : ST H H') {p : Addr} {xs : List V} (e : H p = some (.tup xs)) : H' p = some (.tup xs) := s p _ e (fun _ z => by cases z) (fun _ z => by cases z)
theorem ST.dk {H H' : Hp} (s : ST H H') {p : Addr} {kvs : List (Key × V)} (e : H p = some (.dK kvs)) : H' p = some (.dK kvs) := s p _ e (fun _ z => by cases z) (fun _ z => by cases z)
end SL
set_option Elab.async false
set_option linter.all false
set_option maxRecDepth 100000
set_option maxHeartbeats 8000000
namespace K3
open PySem PySem.Spec PyProof.Rows L2 GxR NdefX GA SL RZ
abbrev s_law_lines : Stmt := top 41
abbrev NL : List Str := ["well", "family", "count", "lines", "spots", "makers", "title", "some", "maker", "turn", "fields", "field", "entries", "back"]
theorem sc_law_lines : FnScope ["well", "family", "count", "lines", "spots", "makers", "title", "some", "maker", "turn", "fields", "field", "entries", "back"] ["well", "family", "count"] (defScope s_law_lines) := ⟨rfl, rfl, rfl, by decide +kernel, rfl, by decide +kernel, by decide +kernel⟩
def titleOf (k : PyData) : Str := strD (fstD k)
/-- the dict of the spots -/
def dictP (ps : List (Str × Addr)) : List (Key × V) := ps.map fun tp => (.inr tp.1, .ref tp.2)
theorem dictP_none : ∀ {ps : List (Str × Addr)} {t : Str}, t ∉ ps.map Prod.fst → valV (dictP ps) (.inr t) = none
  | [], _, _ => rfl
  | (x, p) :: r, t, h => by
    have h1 : x ≠ t := fun z => h (by rw [List.map_cons]; exact List.mem_cons.mpr (.inl z.symm))
    show valV ((.inr x, .ref p) :: dictP r) (.inr t) = none
    rw [valV_neg (fun z => h1 (Sum.inr.inj z))]
    exact dictP_none fun z => h (List.mem_cons_of_mem _ z)
theorem dictP_some : ∀ {ps : List (Str × Addr)} {t : Str}, t ∈ ps.map Prod.fst → ∃ p, (t, p) ∈ ps ∧ valV (dictP ps) (.inr t) = some (.ref p)
  | (x, p) :: r, t, h => by
    by_cases c : x = t
    · subst c
      exact ⟨p, List.mem_cons_self, by show valV ((.inr x, .ref p) :: dictP r) (.inr x) = _; rw [valV_pos rfl]⟩
    · have h' : t ∈ r.map Prod.fst := by
        rcases List.mem_cons.mp h with z | z
        · exact absurd z.symm c
        · exact z
      obtain ⟨q, h1, h2⟩ := dictP_some h'
      exact ⟨q, List.mem_cons_of_mem _ h1, by show valV ((.inr x, .ref p) :: dictP r) (.inr t) = _; rw [valV_neg (fun z => c (Sum.inr.inj z))]; exact h2⟩
/-- a row of the list of makers -/
def mkAt (H : Hp) (ks : List PyData) (v : V) : Prop := ∃ kd p m t fl, (kd, p, m) ∈ rowsM ks ∧ v = .ref t ∧ H t = some (.tup [.str kd, .str (SL.mkN m), .ref fl]) ∧ H fl = some (.tup ((flds m).map V.str))
theorem mkAt.st {H H' : Hp} {ks : List PyData} {v : V} (h : mkAt H ks v) (s : ∀ p xs, H p = some (.tup xs) → H' p = some (.tup xs)) : mkAt H' ks v := by
  obtain ⟨kd, p, m, t, fl, h1, h2, h3, h4⟩ := h
  exact ⟨kd, p, m, t, fl, h1, h2, s _ _ h3, s _ _ h4⟩
theorem kinds_more {ks : List PyData} (h : kindsB (.tuple ks) = true) : (ks.map titleOf).Nodup ∧ 1 ≤ ks.length ∧ ∀ kd p m, (kd, p, m) ∈ rowsM ks → kd ∈ ks.map titleOf ∧ ∀ f ∈ flds m, f = "number" ∨ f ∈ ks.map titleOf := by
  simp only [kindsB, Bool.and_eq_true] at h
  obtain ⟨⟨⟨⟨h1, h2⟩, h3⟩, h4⟩, h5⟩ := h
  have et : (titlesD (.tuple ks)).map strD = ks.map titleOf := by
    unfold titlesD
    rw [List.map_map]
    rfl
  refine ⟨?_, ?_, fun kd p m hm => ?_⟩
  · unfold unl at h3
    rw [et] at h3
    exact of_decide_eq_true h3
  · simp only [tupB, Bool.and_eq_true, decide_eq_true_eq] at h1
    omega
  · obtain ⟨k, hk, hm⟩ := List.mem_flatMap.mp hm
    obtain ⟨mp, h6, h7⟩ := List.mem_map.mp hm
    have h8 : mp.1 ∈ kMk k := List.fst_mem_of_mem_zipIdx h6
    cases h7
    refine ⟨List.mem_map.mpr ⟨k, hk, rfl⟩, fun f hf => ?_⟩
    obtain ⟨g, hg, rfl⟩ := List.mem_map.mp hf
    have h9 : g ∈ fieldsD (.tuple ks) := List.mem_flatMap.mpr ⟨mp.1, List.mem_flatMap.mpr ⟨k, hk, h8⟩, hg⟩
    have := List.all_eq_true.mp h5 g h9
    unfold fieldOk at this
    rw [et, Bool.or_eq_true, decide_eq_true_eq, decide_eq_true_eq] at this
    exact this
/-- the values of the rows -/
def rowsV (H : Hp) (vs : List V) (rows : List (Str × List Int)) : Prop := vs.length = rows.length ∧ ∀ (i : Nat) v, vs[i]? = some v → ∃ mn es r e, rows[i]? = some (mn, es) ∧ v = .ref r ∧ H r = some (.tup [.str mn, .ref e]) ∧ H e = some (.tup (es.map V.int))
theorem rowsV.st {H H' : Hp} {vs : List V} {rows : List (Str × List Int)} (h : rowsV H vs rows) (s : ∀ p xs, H p = some (.tup xs) → H' p = some (.tup xs)) : rowsV H' vs rows := ⟨h.1, fun i v e => by
  obtain ⟨mn, es, r, e, h1, h2, h3, h4⟩ := h.2 i v e
  exact ⟨mn, es, r, e, h1, h2, s _ _ h3, s _ _ h4⟩⟩
theorem rowsV.snoc {H : Hp} {vs : List V} {rows : List (Str × List Int)} (h : rowsV H vs rows) {mn : Str} {es : List Int} {r e : Addr} (h3 : H r = some (.tup [.str mn, .ref e])) (h4 : H e = some (.tup (es.map V.int))) : rowsV H (vs ++ [.ref r]) (rows ++ [(mn, es)]) := by
  refine ⟨by rw [List.length_append, List.length_append, h.1] <;> rfl, fun i v ei => ?_⟩
  rcases Nat.lt_or_ge i vs.length with c | c
  · rw [List.getElem?_append_left c] at ei
    obtain ⟨mn', es', r', e', h1, h2, h5, h6⟩ := h.2 i v ei
    exact ⟨mn', es', r', e', by rw [List.getElem?_append_left (by rw [← h.1]; exact c)]; exact h1, h2, h5, h6⟩
  · have li := (List.getElem?_eq_some_iff.mp ei).1
    rw [List.length_append, List.length_singleton] at li
    have : i = vs.length := by omega
    subst this
    rw [List.getElem?_append_right (Nat.le_refl _), Nat.sub_self] at ei
    cases ei
    refine ⟨mn, es, r, e, ?_, rfl, h3, h4⟩
    rw [h.1, List.getElem?_append_right (Nat.le_refl _), Nat.sub_self] <;> rfl
theorem rowsV.dv {M : List Addr} {H : Hp} {vs : List V} {rows : List (Str × List Int)} (h : rowsV H vs rows) (hM : ∀ b ∈ M, ∃ ys, H b = some (.lst ys)) : DvAll M H vs (rows.map rowD) := by
  have nt : ∀ {p : Addr} {xs : List V}, H p = some (.tup xs) → p ∉ M := fun e z => by
    obtain ⟨ys, ey⟩ := hM _ z
    rw [e] at ey
    cases ey
  have one : ∀ {mn : Str} {es : List Int} {r e : Addr}, H r = some (.tup [.str mn, .ref e]) → H e = some (.tup (es.map V.int)) → Dv M H (.ref r) (rowD (mn, es)) := fun h3 h4 => .tup h3 (nt h3) (.cons (.str _) (.cons (.tup h4 (nt h4) (DvAll.ints _)) .nil))
  revert vs
  induction rows with
  | nil =>
    intro vs h
    have : vs = [] := List.eq_nil_of_length_eq_zero h.1
    subst this
    exact .nil
  | cons x rows ih =>
    intro vs h
    cases vs with
    | nil => exact absurd h.1 (by simp)
    | cons v vs =>
      obtain ⟨mn, es, r, e, h1, rfl, h3, h4⟩ := h.2 0 v rfl
      cases h1
      refine .cons (one h3 h4) (ih ⟨by have := h.1; simpa using this, fun i v e => ?_⟩)
      obtain ⟨mn', es', r', e', q1, q2, q3, q4⟩ := h.2 (i + 1) v e
      exact ⟨mn', es', r', e', q1, q2, q3, q4⟩
/-- the lists of the spots -/
def spotsOk (H : Hp) (ps : List (Str × Addr)) (sorts : List Str) : Prop := ∀ tp ∈ ps, ∃ L : List Nat, H tp.2 = some (.lst (L.map fun (n : Nat) => V.int (n : Int))) ∧ L.length ≤ sorts.length ∧ ∀ n ∈ L, sorts[n]? = some tp.1
theorem rowsFit.snoc {ks : List PyData} {rows : List (Str × List Int)} {sorts : List Str} (h : rowsFit ks rows sorts) {kd : Str} {p : Nat} {m : PyData} {es : List Int} (hm : (kd, p, m) ∈ rowsM ks) (hl : es.length = (flds m).length) (hf : ∀ (j : Nat) f z, (flds m)[j]? = some f → es[j]? = some z → fitE sorts f z) : rowsFit ks (rows ++ [(SL.mkN m, es)]) (sorts ++ [kd]) := by
  refine ⟨by rw [List.length_append, List.length_append, h.1] <;> rfl, fun i r e => ?_⟩
  rcases Nat.lt_or_ge i rows.length with c | c
  · rw [List.getElem?_append_left c] at e
    obtain ⟨h1, kd', p', m', h2, h3, h4⟩ := h.2 i r e
    refine ⟨?_, kd', p', m', h2, h3, by rw [List.getElem?_append_left (by rw [h.1]; exact c)]; exact h4⟩
    rw [List.take_append_of_le_length (by rw [h.1]; omega)]
    exact h1
  · have li := (List.getElem?_eq_some_iff.mp e).1
    rw [List.length_append, List.length_singleton] at li
    have : i = rows.length := by omega
    subst this
    rw [List.getElem?_append_right (Nat.le_refl _), Nat.sub_self] at e
    cases e
    refine ⟨?_, kd, p, m, hm, rfl, ?_⟩
    · rw [← h.1, List.take_append_of_le_length (Nat.le_refl _), List.take_length]
      exact ⟨kd, p, m, hm, rfl, hl, hf⟩
    · rw [← h.1, List.getElem?_append_right (Nat.le_refl _), Nat.sub_self] <;> rfl
theorem rows_pos {ks : List PyData} (hkb : ∀ k ∈ ks, kindB k = true) (h : 1 ≤ ks.length) : 1 ≤ (rowsM ks).length := by
  cases ks with
  | nil => exact absurd h (by decide)
  | cons k r =>
    obtain ⟨x, ms, rfl, h1, _, _⟩ := kind_parts (hkb k List.mem_cons_self)
    show 1 ≤ (tag _ (kMk (.tuple [.str x, .tuple ms])) ++ rowsM r).length
    rw [List.length_append, tag_len]
    have : (kMk (.tuple [.str x, .tuple ms])).length = ms.length := rfl
    omega
/-- a field with no rows ahead -/
def badAt (H : Hp) (ps : List (Str × Addr)) (f : Option Str) : Bool := match f with
  | none => false
  | some f => if f = "number" then false else match valV (dictP ps) (.inr f) with
    | some (.ref p) => (match H p with
      | some (.lst xs) => xs.isEmpty
      | _ => false)
    | _ => false
theorem badAt_num {H : Hp} {ps : List (Str × Addr)} {f : Str} (c : f = "number") : badAt H ps (some f) = false := by
  subst c
  rfl
theorem badAt_at {H : Hp} {ps : List (Str × Addr)} {f : Str} {p : Addr} {xs : List V} (c : f ≠ "number") (h2 : valV (dictP ps) (.inr f) = some (.ref p)) (h3 : H p = some (.lst xs)) : badAt H ps (some f) = xs.isEmpty := by
  unfold badAt
  simp only [h2, h3]
  exact if_neg c
def smallR (rows : List (Str × List Int)) : Prop := ∀ r ∈ rows, ∀ z ∈ r.2, z.natAbs ≤ bigInt
def sp_lines (K : PySem.W.Frag) (T : List Addr) : Sp := fun vs H Q _ => ∃ (a l : Addr) (k count : Int) (fv : V) (ks : List PyData), vs = [.ref a, fv, .int count] ∧ 1 ≤ count ∧ count ≤ 97 ∧ k ≤ 274877906944 ∧ WellAt a l H k ∧ Dv [a, l] H fv (.tuple ks) ∧ kindsB (.tuple ks) = true ∧ Tabs T H ∧
  ∀ v rows sorts H', Dv [a, l] H' v (rowsD rows) → rowsFit ks rows sorts → smallR rows → rows.length ≤ 97 → WellAt a l H' (k + 10000) → Go T [a, l] H H' → Tabs T H' → Q v H'
section
variable {P : Program} {w : World} {K : PySem.W.Frag} {mg : Str → Option Value} {base : Heap} {f c Pt CK CR : Addr} {fd : FuncData} {T : List Addr}
theorem ok_law_lines (F : Fun K "_law_lines" "_law_lines" s_law_lines f fd) (B : Bl mg) (hmin : mg "min" = none) (Fd : Fnn P w K mg base CX0 1 "_law_draw" ["well", "many"] (sp_draw T)) (Fi : Fnn P w K mg base CX0 2 "_law_integer" ["well"] (sp_integer T)) : FnOk P w K mg base CX0 3 f fd ["well", "family", "count"] (sp_lines K T) := by
  have nd := sc_law_lines.nd
  refine F.ok sc_law_lines (fun vs H Q E h => ?_) (fun cdv A outer s H vs Q E hr h => ?_)
  · obtain ⟨_, _, _, _, _, _, rfl, _⟩ := h
    rfl
  obtain ⟨a, l, k, count, fv, ks, rfl, c1, c2, hk, W, hv, hks, ht, q⟩ := h
  have hu : (A.deeper (envOfC "_law_lines" (defScope s_law_lines) s.heap.objs.size f cdv)).units + 1 < cLine := by
    have := hr.un
    omega
  have hu0 : (A.deeper (envOfC "_law_lines" (defScope s_law_lines) s.heap.objs.size f cdv)).units < cLine := by omega
  refine ⟨_, pss_cons (ps_asg (pe_tup (pa_cons (pe_lst pa_nil) (pa_cons pe_dnewK (pa_cons (pe_lst pa_nil) pa_nil)))) (pg_tup rfl (pgs_cons (pg_name (i := 3) nd rfl (.inl rfl)) (pgs_cons (pg_name (i := 4) nd rfl (.inr rfl)) (pgs_cons (pg_name (i := 5) nd rfl (.inl rfl)) pgs_nil)))))
    (pss_cons (ps_for PassesOwn.never rfl (pi_tup (pv 1)) (pg_tup rfl (pgs_cons (pg_name (i := 6) nd rfl (.inr rfl)) (pgs_cons (pg_name (i := 7) nd rfl (.inl rfl)) pgs_nil)))
      (pss_cons (ps_dput hu (pv 4) (pv 6) (pe_lst pa_nil) rfl)
      (pss_one (ps_set (i := 5) nd rfl (.inl rfl) (pe_op op_cat (pv 5) (pe_lc (own := [("maker", 8)]) (g := gName 8) (tt := tYes) (te := tTup (tCons (tVar 6) (tCons (tOp (rIxT K) (tVar 8) (tC (.int 0))) (tCons (tOp (rIxT K) (tVar 8) (tC (.int 1))) tNil)))) rfl nd (pi_tup (pv 7))
        (blkOk_by (own := [("maker", 8)]) (N := ["well", "family", "count", "lines", "spots", "makers", "title", "some", "maker", "turn", "fields", "field", "entries", "back"]) (sc := defScope s_law_lines) (by decide +kernel)) (fun _ _ _ _ _ => pg_name (i := 8) nd rfl (.inl rfl)) (fun _ _ _ _ _ => pts_nil)
        (fun _ _ _ _ _ => pe_tup (pa_cons (pv 6) (pa_cons (pe_ix ix_tup (pv 8) pe_int (fun _ _ => rfl)) (pa_cons (pe_ix ix_tup (pv 8) pe_int (fun _ _ => rfl)) pa_nil))))))))))
    (pss_cons (ps_for PassesOwn.never rfl (pi_range1 rfl B.range (pa_cons (pe_op op_mul pe_int (pv 2)) pa_nil)) (pg_name (i := 9) nd rfl (.inl rfl))
      (pss_cons (ps_asg (pe_ix ix_list (pv 5) (pe_fn Fd hr (by decide) pass0 (pa_cons (pv 0) (pa_cons (pe_lenq B (pv 5)) pa_nil))) (fun _ _ => rfl)) (pg_tup rfl (pgs_cons (pg_name (i := 6) nd rfl (.inr rfl)) (pgs_cons (pg_name (i := 8) nd rfl (.inl rfl)) (pgs_cons (pg_name (i := 10) nd rfl (.inl rfl)) pgs_nil)))))
      (pss_cons (ps_if (pt_cmpR op_lt (pv 9) (pe_lenq B (pv 5)) (nomark _)) (pss_one (ps_asg (pe_ix ix_list (pv 5) (pv 9) (fun _ _ => rfl)) (pg_tup rfl (pgs_cons (pg_name (i := 6) nd rfl (.inr rfl)) (pgs_cons (pg_name (i := 8) nd rfl (.inl rfl)) (pgs_cons (pg_name (i := 10) nd rfl (.inl rfl)) pgs_nil)))))) pss_nil)
      (pss_cons (ps_if (PW.pt (pw_or (pt_cmpR op_eq (pe_lenq B (pv 3)) (pv 2) (nomark _)) (pw_or1 (pt_val (pe_callB (cr_any rfl) rfl B.any (by decide +kernel)
          (pa_cons (pe_lc (own := [("field", 11)]) (g := gName 11) (tt := tYes) (te := tAndV (tOp rNe (tVar 11) (tC (.str "number"))) (tOp (rEqNil K) (tDGet (tVar 4) (tVar 11)) (tLst tNil))) rfl nd (pi_tup (pv 10))
            (blkOk_by (own := [("field", 11)]) (N := ["well", "family", "count", "lines", "spots", "makers", "title", "some", "maker", "turn", "fields", "field", "entries", "back"]) (sc := defScope s_law_lines) (by decide +kernel)) (fun _ _ _ _ _ => pg_name (i := 11) nd rfl (.inl rfl)) (fun _ _ _ _ _ => pts_nil)
            (fun _ _ _ _ _ => pe_and (pe_cmpR op_ne (pv 11) pe_str (nomark _)) (pe_one (pe_cmpR (op_eqNil (by exact hu0)) (pe_dget (by exact hu) (pv 4) (pv 11) (fun _ _ => rfl)) (pe_lst pa_nil) (nomark _))))) pa_nil) (by decide) (by decide)))))) (pss_one ps_continue) pss_nil)
      (pss_cons (ps_set (i := 12) nd rfl (.inl rfl) (pe_tup pa_nil))
      (pss_cons (ps_for PassesOwn.never rfl (pi_tup (pv 10)) (pg_name (i := 11) nd rfl (.inl rfl))
        (pss_one (ps_if (pt_cmpR op_eq (pv 11) pe_str (nomark _))
          (pss_one (ps_set (i := 12) nd rfl (.inl rfl) (pe_op op_catA (pv 12) (pe_tup (pa_cons (pe_fn Fi hr (by decide) pass0 (pa_cons (pv 0) pa_nil)) pa_nil)))))
          (pss_cons (ps_set (i := 7) nd rfl (.inl rfl) (pe_dget hu (pv 4) (pv 11) (fun _ _ => rfl)))
          (pss_cons (ps_set (i := 13) nd rfl (.inl rfl) (pe_fn Fd hr (by decide) pass0 (pa_cons (pv 0) (pa_cons (pe_callB (call_min2 rfl) rfl hmin (by decide +kernel) (pa_cons (pe_lenq B (pv 7)) (pa_cons (pe_ix ix_list (pe_lst (pa_cons pe_int (pa_cons pe_int (pa_cons pe_int pa_nil)))) (pe_fn Fd hr (by decide) pass0 (pa_cons (pv 0) (pa_cons pe_int pa_nil))) (fun _ _ => rfl)) pa_nil)) (by decide) (by decide)) pa_nil))))
          (pss_one (ps_set (i := 12) nd rfl (.inl rfl) (pe_op op_catA (pv 12) (pe_tup (pa_cons (pe_ix ix_list (pv 7) (pe_op op_sub (pe_op op_sub (pe_lenq B (pv 7)) pe_int) (pv 13)) (fun _ _ => rfl)) pa_nil))))))))))
      (pss_cons (ps_expr (pe_bm PySem.F.plainAttrs_list PySem.F.slot_list_append PySem.F.type_list_append mt_append (pe_dget hu (pv 4) (pv 6) (fun _ _ => rfl)) (pa_cons (pe_lenq B (pv 3)) pa_nil)))
      (pss_one (ps_expr (pe_bm PySem.F.plainAttrs_list PySem.F.slot_list_append PySem.F.type_list_append mt_append (pv 3) (pa_cons (pe_tup (pa_cons (pv 8) (pa_cons (pv 12) pa_nil))) pa_nil)))))))))))
    (pss_one (ps_ret (pe_toTup B (pv 3)))))), ?_⟩
  have nn : ∀ b : Addr, b ∉ ([] : List Addr) := fun b => List.not_mem_nil
  obtain ⟨nu, hkb, hk6⟩ := kinds_names hks
  obtain ⟨ntl, hk1, hmore⟩ := kinds_more hks
  obtain ⟨fa, xs, rfl, efa, nfa, dv⟩ := dv_tup hv
  have lx := dv.length
  refine ⟨by show 0 ≤ sizeLine; omega, fun la hla => fun sd hsd => ⟨by show 0 ≤ sizeLine; omega, fun ma hma => ⟨by show 3 ≤ sizeLine; decide, fun tt htt => ?_⟩⟩⟩
  refine ⟨tt, _, rfl, SqT.of upd_same, rfl, _, _, rfl, _, _, rfl, _, _, rfl, rfl, ?_⟩
  have gt := Go.new (T := T) (M := []) (o := .tup [.ref la, .ref sd, .ref ma]) htt
  have gm := Go.new (T := T) (M := []) (o := .lst []) hma
  have gs := Go.new (T := T) (M := []) (o := .dK []) hsd
  have gl := Go.new (T := T) (M := []) (o := .lst []) hla
  have g0 := ((gl.trans gs).trans gm).trans gt
  have ela := gt.lst (gm.lst (gs.lst (upd_same (H := H) (a := la) (o := .lst [])) (nn _)) (nn _)) (nn _)
  have esd := gt.gr _ _ (gm.gr _ _ (upd_same (a := sd) (o := .dK [])) (nn _) (fun _ z => by cases z)) (nn _) (fun _ z => by cases z)
  have ema := gt.lst (upd_same (a := ma) (o := .lst [])) (nn _)
  have hsd0 : H sd = none := gl.al _ hsd
  have lam : la ≠ ma := ne_of_none (gs.lst (upd_same (H := H) (a := la) (o := .lst [])) (nn _)) hma
  generalize upd (upd (upd (upd H la (.lst [])) sd (.dK [])) ma (.lst [])) tt (.tup [.ref la, .ref sd, .ref ma]) = H1 at *
  refine ⟨_, rfl, fa, rfl, ⟨_, SqT.of (g0.tup efa (nn _))⟩, ?_⟩
  refine for_it (n := xs.length) walk_tup (fun i σ H' => ∃ ps ma ms p6 p7, σ = [some (.ref a), some (.ref fa), some (.int count), some (.ref la), some (.ref sd), some (.ref ma), p6, p7, none, none, none, none, none, none] ∧ Go T [] H H' ∧ H' la = some (.lst []) ∧ H' sd = some (.dK (dictP ps)) ∧ ps.map Prod.fst = (ks.take i).map titleOf ∧ (la :: ps.map Prod.snd).Nodup ∧ (∀ tp ∈ ps, H' tp.2 = some (.lst []) ∧ H tp.2 = none) ∧ H' ma = some (.lst ms) ∧ ma ∉ (la :: ps.map Prod.snd) ∧ H ma = none ∧ (∀ v ∈ ms, mkAt H' ks v) ∧ ms.length = (rowsM (ks.take i)).length)
    ⟨[], ma, [], none, none, rfl, g0, ela, esd, rfl, by simp, by simp, ema, by simpa using lam.symm, (gl.trans gs).al _ hma, by simp, rfl⟩
    (fun i σ H' _ ⟨_, _, _, _, _, _, g, _⟩ => SqT.of (g.tup efa (nn _))) (fun i x σ H3 H4 hi h y => ?_) (fun σ H3 h => ?_)
  · obtain ⟨ps, ma, ms, p6, p7, rfl, gg, ela, esd, eps, nps, hps, ema, nma, hma0, hms, lms⟩ := h
    obtain ⟨rfl, ex⟩ := y
    obtain ⟨kk, ek, hx⟩ := dv.get ex
    have hkk := hkb kk (List.mem_of_getElem? ek)
    obtain ⟨kn, mds, rfl, m1, m6, hmm⟩ := kind_parts hkk
    obtain ⟨p, vx, vy, rfl, ep, np, hvx, hvy⟩ := dv_pair hx
    cases hvx
    obtain ⟨b, ys, rfl, eb, nb, dy⟩ := dv_tup hvy
    have ly := dy.length
    have lps : ps.length ≤ 6 := by
      have := congrArg List.length eps
      rw [List.length_map, List.length_map, List.length_take] at this
      omega
    have hil : i < ks.length := by omega
    have ekn : ks[i]? = some (.tuple [.str kn, .tuple mds]) := ek
    have fresh : kn ∉ ps.map Prod.fst := by
      rw [eps]
      intro z
      have e1 : ks.map titleOf = (ks.take i).map titleOf ++ (kn :: (ks.drop (i + 1)).map titleOf) := by
        have : ks.drop i = .tuple [.str kn, .tuple mds] :: ks.drop (i + 1) := by
          rw [List.drop_eq_getElem_cons hil]
          rw [List.getElem?_eq_getElem hil] at ekn
          rw [Option.some.inj ekn]
        conv => lhs; rw [← List.take_append_drop i ks, this]
        rw [List.map_append, List.map_cons]
        rfl
      rw [e1] at ntl
      exact (List.nodup_append.mp ntl).2.2 kn z kn List.mem_cons_self rfl
    refine ⟨p, _, rfl, SqT.of (gg.tup ep (nn _)), rfl, _, _, rfl, _, _, rfl, rfl, ?_⟩
    refine ⟨by show 0 ≤ sizeLine; omega, fun pn hpn => ⟨_, rfl, _, rfl, sd, _, rfl, .inl ⟨dictP ps, .inr kn, (Go.new (T := T) (M := []) hpn).gr _ _ esd (nn _) (fun _ z => by cases z), rfl, by unfold dictP; rw [List.length_map, sizeLine_eq]; omega, rfl⟩, ?_⟩⟩
    have gn := Go.new (T := T) (M := []) (o := .lst []) hpn
    have esd2 := gn.gr _ _ esd (nn _) (fun _ z => by cases z)
    have pd : putK (dictP ps) (.inr kn) (.ref pn) = dictP (ps ++ [(kn, pn)]) := by
      rw [putK_new _ (dictP_none fresh)]
      unfold dictP
      rw [List.map_append]
      rfl
    rw [pd]
    have gd : Go T [] H (upd (upd H4 pn (.lst [])) sd (.dK (dictP (ps ++ [(kn, pn)])))) := (gg.trans gn).over hsd0 esd2 (fun _ z => by cases z)
    have nesd : ∀ {q : Addr} {o : HO}, H4 q = some o → (∀ kvs, o ≠ .dK kvs) → upd (upd H4 pn (.lst [])) sd (.dK (dictP (ps ++ [(kn, pn)]))) q = some o := fun {q o} e hne => by
      have h1 : q ≠ sd := fun z => by rw [z, esd] at e; exact hne _ (Option.some.inj e).symm
      rw [upd_ne h1, upd_ne (fun z => by rw [z, hpn] at e; cases e)]
      exact e
    have psd : pn ≠ sd := fun z => by rw [z, esd] at hpn; cases hpn
    have epn : upd (upd H4 pn (.lst [])) sd (.dK (dictP (ps ++ [(kn, pn)]))) pn = some (.lst []) := by rw [upd_ne psd]; exact upd_same
    have ela5 := nesd ela (fun _ z => by cases z)
    have ema5 := nesd ema (fun _ z => by cases z)
    have eb5 := nesd (gg.tup eb (nn _)) (fun _ z => by cases z)
    have esd5 : upd (upd H4 pn (.lst [])) sd (.dK (dictP (ps ++ [(kn, pn)]))) sd = some (.dK (dictP (ps ++ [(kn, pn)]))) := upd_same
    have hps5 : ∀ tp ∈ ps ++ [(kn, pn)], upd (upd H4 pn (.lst [])) sd (.dK (dictP (ps ++ [(kn, pn)]))) tp.2 = some (.lst []) ∧ H tp.2 = none := fun tp m => by
      rcases List.mem_append.mp m with z | z
      · exact ⟨nesd (hps tp z).1 (fun _ z => by cases z), (hps tp z).2⟩
      · rw [List.mem_singleton.mp z]
        exact ⟨epn, gg.al _ hpn⟩
    have hms5 : ∀ v ∈ ms, mkAt (upd (upd H4 pn (.lst [])) sd (.dK (dictP (ps ++ [(kn, pn)])))) ks v := fun v m => (hms v m).st fun q ys e => nesd e (fun _ z => by cases z)
    have nla : pn ≠ la := fun z => by rw [z, ela] at hpn; cases hpn
    have nma' : pn ≠ ma := fun z => by rw [z, ema] at hpn; cases hpn
    have nps' : (la :: (ps ++ [(kn, pn)]).map Prod.snd).Nodup := by
      have h1 := List.nodup_cons.mp nps
      rw [List.map_append, List.nodup_cons]
      refine ⟨fun z => ?_, List.nodup_append.mpr ⟨h1.2, by simp, fun x hx y hy e => ?_⟩⟩
      · rcases List.mem_append.mp z with z | z
        · exact h1.1 z
        · rcases List.mem_cons.mp z with w | w
          · exact nla w.symm
          · cases w
      · have hy' : y = pn := by simpa using hy
        subst hy'
        subst e
        obtain ⟨tp, mtp, e2⟩ := List.mem_map.mp hx
        have := (hps tp mtp).1
        rw [e2, hpn] at this
        cases this
    generalize hH5 : upd (upd H4 pn (.lst [])) sd (.dK (dictP (ps ++ [(kn, pn)]))) = H5 at *
    refine ⟨_, rfl, _, rfl, b, rfl, ⟨_, SqT.of eb5⟩, fun D' hD' => ?_⟩
    have kid : ∀ (j : Nat) md, mds[j]? = some md → (kn, j, md) ∈ rowsM ks := fun j md e => by
      refine List.mem_flatMap.mpr ⟨.tuple [.str kn, .tuple mds], List.mem_of_getElem? ekn, ?_⟩
      refine List.mem_map.mpr ⟨(md, j), ?_, rfl⟩
      exact List.mem_zipIdx_iff_getElem?.mpr e
    refine lc_it walk_tup (fun j H' => Go T [] H5 H' ∧ ∃ acc, H' D' = some (.lst acc) ∧ acc.length = j ∧ ∀ v ∈ acc, mkAt H' ks v) ⟨Go.new hD', [], upd_same, rfl, by simp⟩ (fun j H' _ h => SqT.of (h.1.tup eb5 (nn _))) (fun j x H6 H7 hj h y => ?_) (fun H6 h => ?_)
    · obtain ⟨g6, acc, ea, la', ha⟩ := h
      obtain ⟨rfl, exj⟩ := y
      obtain ⟨md, em, hz⟩ := dy.get exj
      have hmd := hmm md (List.mem_of_getElem? em)
      obtain ⟨q1, wx, wy, mnn, rfl, eq1, rfl, emd, hwy⟩ : ∃ q1 wx wy mnn, x = .ref q1 ∧ H q1 = some (.tup [wx, wy]) ∧ wx = .str mnn ∧ mnn = SL.mkN md ∧ Dv [a, l] H wy (sndD md) := by
        obtain ⟨mn, fs, rfl, f4, hfs⟩ := maker_parts hmd
        obtain ⟨q1, wx, wy, rfl, eq1, nq1, hwx, hwy⟩ := dv_pair hz
        cases hwx
        exact ⟨q1, _, wy, mn, rfl, eq1, rfl, rfl, hwy⟩
      obtain ⟨fl, rfl, efl, _, lfl⟩ := flds_dv hmd hwy
      subst emd
      have eq6 := (gd.trans g6).tup eq1 (nn _)
      have efl6 := (gd.trans g6).tup efl (nn _)
      refine ⟨rfl, _, rfl, _, rfl, q1, _, 0, _, rfl, rfl, SqT.of eq6, atI_nat (j := 0) rfl, _, rfl, q1, _, 1, _, rfl, rfl, SqT.of eq6, atI_nat (j := 1) rfl, by show 3 ≤ sizeLine; decide, fun t ht7 => ?_⟩
      have u7 := Go.new (T := T) (M := []) (o := .tup [.str kn, .str (SL.mkN md), .ref fl]) ht7
      have ea7 := u7.lst ea (nn _)
      refine ⟨acc, ea7, by rw [la', sizeLine_eq]; omega, (g6.trans u7).over hD' ea7 (fun _ z => by cases z), acc ++ [.ref t], upd_same, by rw [List.length_append, la'] <;> rfl, fun v hv' => ?_⟩
      have st7 := (ST.go0 u7).trans (ST.set (o' := .lst (acc ++ [.ref t])) ea7)
      rcases List.mem_append.mp hv' with z | z
      · exact (ha v z).st fun q ys e => st7.tup e
      · rw [List.mem_singleton.mp z]
        exact ⟨kn, j, md, t, fl, kid j md em, rfl, (ST.set (o' := .lst (acc ++ [.ref t])) ea7).tup upd_same, st7.tup efl6⟩
    · obtain ⟨g6, acc, ea, la', ha⟩ := h
      have ema6 := g6.lst ema5 (nn _)
      have lr : (rowsM (ks.take i)).length ≤ 6 * i := by
        have := rows_len (ks := ks.take i) fun k hk' => hkb k (List.mem_of_mem_take hk')
        rw [List.length_take] at this
        omega
      refine ⟨ma, D', ms, acc, rfl, rfl, ema6, ea, by rw [lms, la', sizeLine_eq]; omega, fun p2 hp2 => ?_⟩
      have u8 := Go.new (T := T) (M := []) (o := .lst (ms ++ acc)) hp2
      have g8 := g6.trans u8
      refine ⟨ps ++ [(kn, pn)], p2, ms ++ acc, _, _, rfl, gd.trans g8, g8.lst ela5 (nn _), g8.gr _ _ esd5 (nn _) (fun _ z => by cases z), ?_, nps', fun tp m => ⟨g8.lst (hps5 tp m).1 (nn _), (hps5 tp m).2⟩, upd_same, ?_, (gd.trans g6).al _ hp2, fun v hv' => ?_, ?_⟩
      · rw [List.map_append, eps, List.take_add_one, ekn, Option.toList_some, List.map_append]
        rfl
      · intro z
        rcases List.mem_cons.mp z with z | z
        · have := g6.lst ela5 (nn _)
          rw [← z, hp2] at this
          cases this
        · obtain ⟨tp, mtp, e2⟩ := List.mem_map.mp z
          have := g6.lst (hps5 tp mtp).1 (nn _)
          rw [e2, hp2] at this
          cases this
      · rcases List.mem_append.mp hv' with z | z
        · exact (hms5 v z).st fun q ys e => g8.tup e (nn _)
        · exact (ha v z).st fun q ys e => u8.tup e (nn _)
      · rw [rows_snoc ekn, List.length_append, List.length_append, lms, la', tag_len, ly]
        rfl
  · obtain ⟨ps, ma, ms, p6, p7, rfl, gg, ela, esd, eps, nps, hps, ema, nma, hma0, hms, lms⟩ := h
    rw [lx, List.take_length] at eps lms
    have lr : (rowsM ks).length ≤ 6 * ks.length := rows_len hkb
    have lr1 := rows_pos hkb hk1
    have W3 := W.go gg
    have na := W.ne hla
    have nma0 := W.ne hma0
    have npa : ∀ tp ∈ ps, tp.2 ∉ [a, l] := fun tp m => nin (W.ne (hps tp m).2)
    have nlm : ma ≠ la := fun z => nma (List.mem_cons.mpr (.inl z))
    have npl : ∀ tp ∈ ps, tp.2 ≠ la ∧ tp.2 ≠ ma := fun tp m => ⟨fun z => (List.nodup_cons.mp nps).1 (List.mem_map.mpr ⟨tp, m, z⟩), fun z => nma (List.mem_cons_of_mem _ (List.mem_map.mpr ⟨tp, m, z⟩))⟩
    have npp : ∀ tp ∈ ps, ∀ tp' ∈ ps, tp.2 = tp'.2 → tp = tp' := by
      have h1 := (List.nodup_cons.mp nps).2
      intro tp m tp' m' e
      obtain ⟨i1, hi1, e1⟩ := List.mem_iff_getElem.mp m
      obtain ⟨i2, hi2, e2⟩ := List.mem_iff_getElem.mp m'
      have : i1 = i2 := by
        refine (List.getElem_inj (xs := ps.map Prod.snd) (h₀ := by rw [List.length_map]; exact hi1) (h₁ := by rw [List.length_map]; exact hi2) h1).mp ?_
        rw [List.getElem_map, List.getElem_map, e1, e2, e]
      subst this
      rw [← e1, ← e2]
    refine ⟨_, rfl, _, _, rfl, rfl, .inl ⟨by decide, by decide⟩, _, rfl, by omega, by omega, ?_⟩
    refine for_it (walk_range (lo := 0) (n := (3 * count).toNat)) (fun i σ H' => ∃ rows sorts vs p6 p7 p8 p9 p10 p11 p12 p13, σ = [some (.ref a), some (.ref fa), some (.int count), some (.ref la), some (.ref sd), some (.ref ma), p6, p7, p8, p9, p10, p11, p12, p13] ∧ Go T [a, l] H H' ∧ WellAt a l H' (k + 32 * ((i : Nat) : Int)) ∧ ST H3 H' ∧ H' la = some (.lst vs) ∧ rowsV H' vs rows ∧ H' ma = some (.lst ms) ∧ rowsFit ks rows sorts ∧ smallR rows ∧ (rows.length : Int) ≤ count ∧ spotsOk H' ps sorts)
      ⟨[], [], [], _, _, _, _, _, _, _, _, rfl, gg.of0, W3.up (by omega), ST.refl, ela, ⟨rfl, fun i v e => by cases e⟩, ema, ⟨rfl, fun i r e => by cases e⟩, (fun r m => by cases m), by show (0 : Int) ≤ count; omega, fun tp m => ⟨[], (hps tp m).1, Nat.le_refl _, fun n m => by cases m⟩⟩
      (fun _ _ _ _ _ => trivial) (fun i x σ H4a H4 hi h y => ?_) (fun σ H4 h => ?_)
    · obtain ⟨rows, sorts, vs, p6, p7, p8, p9, p10, p11, p12, p13, rfl, g4, W4, st4, ela4, rv4, ema4, fit4, sm4, cnt4, sp4⟩ := h
      obtain ⟨rfl, ey⟩ := y
      have ey2 : x = V.int (i : Int) := by rw [ey]; show V.int (0 + (i : Int)) = _; rw [Int.zero_add]
      clear ey
      subst ey2
      have hi96 : i < 291 := by omega
      refine ⟨_, rfl, _, rfl, _, rfl, ma, ms, rfl, .inl (SqL.of ema4), a, l, k + 32 * i, _, rfl, by omega, by omega, by omega, W4, g4.tb ht, fun i5 H5 i50 i51 W5 g5 t5 => ?_⟩
      obtain ⟨v5, ev5, mv5⟩ := at_ok i50 i51
      have st5 := st4.trans (ST.go g5 (fun b hb => by
        obtain ⟨ns, s, c, w1, w2, w3, _⟩ := W4
        rcases List.mem_cons.mp hb with rfl | hb
        · exact ⟨_, w2⟩
        · rw [List.mem_singleton.mp hb]
          exact ⟨_, w3⟩))
      have ms5 : ∀ v ∈ ms, mkAt H5 ks v := fun v m => (hms v m).st fun q ys e => st5.tup e
      obtain ⟨kd, pp, m, t, fl, hm, rfl, et, efl⟩ := ms5 v5 mv5
      have ema5 := g5.lst ema4 (nin nma0)
      refine ⟨ma, ms, i5, _, rfl, rfl, SqL.of ema5, ev5, t, _, rfl, SqT.of et, rfl, _, _, rfl, _, _, rfl, _, _, rfl, rfl, ?_⟩
      refine ⟨_, rfl, _, rfl, ma, ms, rfl, .inl (SqL.of ema5), _, _, rfl, rfl, _, rfl, ?_⟩
      have ela5 := g5.lst ela4 (nin na)
      have rv5 := rv4.st fun q ys e => (ST.go g5 (fun b hb => by
        obtain ⟨ns, s, c, w1, w2, w3, _⟩ := W4
        rcases List.mem_cons.mp hb with rfl | hb
        · exact ⟨_, w2⟩
        · rw [List.mem_singleton.mp hb]
          exact ⟨_, w3⟩)).tup e
      have sp5 : spotsOk H5 ps sorts := fun tp m => by
        obtain ⟨L, h1, h2, h3⟩ := sp4 tp m
        exact ⟨L, g5.lst h1 (npa tp m), h2, h3⟩
      by_cases cb : (i : Int) < (ms.length : Int)
      · refine if_true_of (decide_eq_true cb) ?_
        have ev6 : ms[i]? = some ms[i] := List.getElem?_eq_getElem (by omega)
        generalize ms[i] = v6 at ev6
        clear hm et efl
        obtain ⟨kd, pp, m, t, fl, hm, rfl, et, efl⟩ := ms5 v6 (List.mem_of_getElem? ev6)
        refine ⟨_, rfl, _, rfl, ma, ms, (i : Int), _, rfl, rfl, SqL.of ema5, atI_nat ev6, t, _, rfl, SqT.of et, rfl, _, _, rfl, _, _, rfl, _, _, rfl, rfl, ?_⟩
        refine ⟨_, rfl, la, vs, rfl, .inl (SqL.of ela5), _, rfl, rfl, _, rfl, ?_⟩
        have cont : ∀ (p7 p11 p12 p13 : Option V) (H' : Hp), H' = H5 → ∃ rows' sorts' vs' q6 q7 q8 q9 q10 q11 q12 q13, [some (V.ref a), some (V.ref fa), some (V.int count), some (V.ref la), some (V.ref sd), some (V.ref ma), some (V.str kd), p7, some (V.str (SL.mkN m)), some (V.int (i : Int)), some (V.ref fl), p11, p12, p13] = [some (V.ref a), some (V.ref fa), some (V.int count), some (V.ref la), some (V.ref sd), some (V.ref ma), q6, q7, q8, q9, q10, q11, q12, q13] ∧ Go T [a, l] H H5 ∧ WellAt a l H5 (k + 32 * ((i + 1 : Nat) : Int)) ∧ ST H3 H5 ∧ H5 la = some (.lst vs') ∧ rowsV H5 vs' rows' ∧ H5 ma = some (.lst ms) ∧ rowsFit ks rows' sorts' ∧ smallR rows' ∧ (rows'.length : Int) ≤ count ∧ spotsOk H5 ps sorts' := fun p7 p11 p12 p13 H' _ =>
          ⟨rows, sorts, vs, _, _, _, _, _, _, _, _, rfl, g4.trans g5, W5.up (by omega), st5, ela5, rv5, ema5, fit4, sm4, cnt4, sp5⟩
        by_cases c2 : (vs.length : Int) = count
        · refine if_true_of (decide_eq_true (by rw [c2])) (iteT ?_)
          exact cont _ _ _ _ H5 rfl
        · refine if_false_of (decide_eq_false fun e => c2 (V.int.inj e)) ?_
          refine ⟨_, rfl, fl, rfl, ⟨_, SqT.of efl⟩, fun D' hD' => ?_⟩
          have gD := Go.new (T := T) (M := []) (o := .lst []) hD'
          have lfl : (flds m).length ≤ 4 := by
            obtain ⟨x, fs, rfl, l4, hf4⟩ := maker_parts (rows_maker hks hm)
            show ((itemsD (sndD (.tuple [.str x, .tuple fs]))).map strD).length ≤ 4
            rw [List.length_map]
            exact l4
          obtain ⟨hkt, hft⟩ := hmore kd pp m hm
          rw [← eps] at hkt hft
          have sp5' : ∀ t, t ∈ ps.map Prod.fst → ∃ p, (t, p) ∈ ps ∧ valV (dictP ps) (.inr t) = some (.ref p) ∧ ∃ L : List Nat, H5 p = some (.lst (L.map fun (n : Nat) => V.int (n : Int))) ∧ L.length ≤ sorts.length ∧ ∀ n ∈ L, sorts[n]? = some t := fun t ht' => by
            obtain ⟨p, h1, h2⟩ := dictP_some ht'
            obtain ⟨L, h3, h4, h5⟩ := sp5 _ h1
            exact ⟨p, h1, h2, L, h3, h4, h5⟩
          refine lc_map (T := T) (H0 := H5) (H1 := H5) (fun j => V.bl (badAt H5 ps ((flds m)[j]?))) walk_tup (fun H' g' => SqT.of (g'.tup efl (nn _))) t5 Go.refl hD' (by rw [List.length_map, sizeLine_eq]; omega) (fun j x H' H'' R hj g' t' y kq => ?_) (fun H' g' t' e' => ?_)
          · obtain ⟨rfl, ex'⟩ := y
            rw [List.getElem?_map] at ex'
            obtain ⟨f', ef', rfl⟩ := Option.map_eq_some_iff.mp ex'
            rw [ef'] at kq
            refine ⟨rfl, _, rfl, rfl, _, rfl, ?_⟩
            by_cases cn : f' = "number"
            · refine if_false_of (by rw [cn]; rfl) ?_
              have : badAt H5 ps (some f') = false := badAt_num cn
              rw [this] at kq
              exact kq _ Go.refl
            · refine if_true_of (by rw [decide_eq_false fun e => cn (V.str.inj e)]; rfl) ?_
              have hf' := (hft f' (List.mem_of_getElem? ef')).resolve_left cn
              obtain ⟨p, h1, h2, L, h3, h4, h5⟩ := sp5' f' hf'
              have : badAt H5 ps (some f') = (L.map fun (n : Nat) => V.int (n : Int)).isEmpty := badAt_at cn h2 h3
              rw [this] at kq
              refine ⟨_, rfl, _, rfl, sd, .ref p, rfl, ?_, by show 0 ≤ sizeLine; omega, fun q' hq' => ?_⟩
              · have := DGet.k (k := (Sum.inr f' : Key)) ((st5.trans (ST.go0 g')).dk esd)
                rw [h2] at this
                exact this
              have u' := Go.new (T := T) (M := []) (o := .lst []) hq'
              exact ⟨p, q', _, rfl, rfl, SqL.of (u'.lst (g'.lst h3 (nn _)) (nn _)), SqL.of upd_same, kq _ u'⟩
          · rw [List.length_map] at e'
            refine ⟨D', (List.range (flds m).length).map fun j => badAt H5 ps ((flds m)[j]?), rfl, SqL.of (by rw [List.map_map]; exact e'), _, rfl, ?_⟩
            by_cases c3 : (((List.range (flds m).length).map fun j => badAt H5 ps ((flds m)[j]?)).any id) = true
            · refine if_true_of c3 ?_
              refine ⟨rows, sorts, vs, _, _, _, _, _, _, _, _, rfl, (g4.trans g5).trans g'.of0, (W5.go g').up (by omega), st5.trans (ST.go0 g'), g'.lst ela5 (nn _), rv5.st fun q ys e => g'.tup e (nn _), g'.lst ema5 (nn _), fit4, sm4, cnt4, fun tp m => ?_⟩
              obtain ⟨L, h1, h2, h3⟩ := sp5 tp m
              exact ⟨L, g'.lst h1 (nn _), h2, h3⟩
            refine if_false_of (by simpa using c3) ?_
            have good : ∀ f' ∈ flds m, f' = "number" ∨ ∃ p, (f', p) ∈ ps ∧ valV (dictP ps) (.inr f') = some (.ref p) ∧ ∃ L : List Nat, H5 p = some (.lst (L.map fun (n : Nat) => V.int (n : Int))) ∧ 1 ≤ L.length ∧ L.length ≤ sorts.length ∧ ∀ n ∈ L, sorts[n]? = some f' := fun f' mf => by
              by_cases cn : f' = "number"
              · exact .inl cn
              obtain ⟨p, h1, h2, L, h3, h4, h5⟩ := sp5' f' ((hft f' mf).resolve_left cn)
              refine .inr ⟨p, h1, h2, L, h3, ?_, h4, h5⟩
              cases L with
              | cons x L => exact Nat.succ_le_succ (Nat.zero_le _)
              | nil =>
                refine absurd ?_ c3
                obtain ⟨j, hj, ej⟩ := List.mem_iff_getElem.mp mf
                refine List.any_eq_true.mpr ⟨true, List.mem_map.mpr ⟨j, List.mem_range.mpr hj, ?_⟩, rfl⟩
                rw [List.getElem?_eq_getElem hj, ej]
                exact badAt_at (xs := []) cn h2 h3
            refine ⟨by show 0 ≤ sizeLine; omega, fun e0 he0 => ?_⟩
            have u0 := Go.new (T := T) (M := []) (o := .tup []) he0
            have g6 := g'.trans u0
            have st6 := st5.trans (ST.go0 g6)
            have W6 := W5.go g6
            have ela6 := g6.lst ela5 (nn _)
            have ema6 := g6.lst ema5 (nn _)
            have rv6 := rv5.st fun q ys e => g6.tup e (nn _)
            have sp6 : ∀ tp ∈ ps, upd H' e0 (.tup []) tp.2 = H5 tp.2 := fun tp m => by
              obtain ⟨L, h1, _, _⟩ := sp5 tp m
              rw [g6.lst h1 (nn _), h1]
            have ee0 : upd H' e0 (.tup []) e0 = some (.tup (([] : List Int).map V.int)) := upd_same
            have G6 := (g4.trans g5).trans (g6.of0 (M := [a, l]))
            have efl6 := g6.tup efl (nn _)
            generalize upd H' e0 (.tup []) = H6 at *
            refine ⟨_, rfl, fl, rfl, ⟨_, SqT.of efl6⟩, ?_⟩
            refine for_it (n := ((flds m).map V.str).length) walk_tup (fun j σ H' => ∃ (e : Addr) (es : List Int) (q7 q11 q13 : Option V), σ = [some (V.ref a), some (V.ref fa), some (V.int count), some (V.ref la), some (V.ref sd), some (V.ref ma), some (V.str kd), q7, some (V.str (SL.mkN m)), some (V.int (i : Int)), some (V.ref fl), q11, some (V.ref e), q13] ∧ Go T [a, l] H H' ∧ WellAt a l H' (k + 32 * ((i : Nat) : Int) + 1 + 7 * ((j : Nat) : Int)) ∧ ST H6 H' ∧ H' la = some (.lst vs) ∧ H' ma = some (.lst ms) ∧ (∀ tp ∈ ps, H' tp.2 = H5 tp.2) ∧ H' e = some (.tup (es.map V.int)) ∧ es.length = j ∧ (∀ (j' : Nat) f' z, (flds m)[j']? = some f' → es[j']? = some z → fitE sorts f' z) ∧ ∀ z : Int, z ∈ es → z.natAbs ≤ bigInt)
              ⟨e0, [], _, _, _, rfl, G6, W6.up (by omega), ST.refl, ela6, ema6, sp6, ee0, rfl, (fun j' f' z e1 e2 => by cases e2), (fun z m => by cases m)⟩
              (fun j σ H' _ ⟨_, _, _, _, _, _, _, _, s', _⟩ => SqT.of (s'.tup efl6)) (fun j x σ H7a H7 hj h y => ?_) (fun σ H7 h => ?_)
            · obtain ⟨e, es, q7, q11, q13, rfl, G7, W7, st7, ela7, ema7, sp7, ee7, les, fes, bes⟩ := h
              obtain ⟨rfl, ex'⟩ := y
              rw [List.getElem?_map] at ex'
              obtain ⟨f', ef', rfl⟩ := Option.map_eq_some_iff.mp ex'
              rw [List.length_map] at hj
              have fes2 : ∀ (z' : Int), fitE sorts f' z' → ∀ (j' : Nat) f'' z, (flds m)[j']? = some f'' → (es ++ [z'])[j']? = some z → fitE sorts f'' z := fun z' hz' j' f'' z e1 e2 => by
                rcases Nat.lt_trichotomy j' es.length with c | c | c
                · rw [List.getElem?_append_left c] at e2
                  exact fes j' f'' z e1 e2
                · subst c
                  rw [List.getElem?_append_right (Nat.le_refl _), Nat.sub_self] at e2
                  cases e2
                  rw [les, ef'] at e1
                  cases e1
                  exact hz'
                · have := (List.getElem?_eq_some_iff.mp e2).1
                  rw [List.length_append, List.length_singleton] at this
                  omega
              have bes2 : ∀ z' : Int, z'.natAbs ≤ bigInt → ∀ z ∈ es ++ [z'], z.natAbs ≤ bigInt := fun z' hz' z mz => by
                rcases List.mem_append.mp mz with w | w
                · exact bes z w
                · rw [List.mem_singleton.mp w]
                  exact hz'
              have wl7 : ∀ b ∈ [a, l], ∃ ys, H7 b = some (.lst ys) := fun b hb => by
                obtain ⟨ns, s, c, w1, w2, w3, _⟩ := W7
                rcases List.mem_cons.mp hb with rfl | hb
                · exact ⟨_, w2⟩
                · rw [List.mem_singleton.mp hb]
                  exact ⟨_, w3⟩
              refine ⟨_, rfl, rfl, _, rfl, ?_⟩
              by_cases cn : f' = "number"
              · refine if_true_of (decide_eq_true (by rw [cn])) ?_
                refine ⟨_, rfl, _, rfl, a, l, _, rfl, by omega, W7, G7.tb ht, fun z H8 bz W8 g8 t8 => ⟨by show 1 ≤ sizeLine; rw [sizeLine_eq]; omega, fun u hu' => ?_⟩⟩
                have st8 := ST.go g8 wl7
                have uu := Go.new (T := T) (M := []) (o := .tup [V.int z]) hu'
                refine catT_ok (T := T) (M := []) (uu.tup (st8.tup ee7) (nn _)) upd_same (nn _) (nn _) (by simp only [List.length_map, List.length_cons, List.length_nil]; omega) (fun r _ => nn r) fun r2 H9 er2 nr2 g9 => ?_
                have g89 := uu.trans g9
                refine ⟨r2, es ++ [z], _, _, _, rfl, (G7.trans g8).trans g89.of0, (W8.go g89).up (by omega), (st7.trans st8).trans (ST.go0 g89), g89.lst (g8.lst ela7 (nin na)) (nn _), g89.lst (g8.lst ema7 (nin nma0)) (nn _), fun tp m => ?_, by rw [er2, List.map_append] <;> rfl, by rw [List.length_append, les] <;> rfl, fes2 z (.inl cn), bes2 z bz⟩
                obtain ⟨L, h1, _, _⟩ := sp5 tp m
                rw [h1]
                refine g89.lst (g8.lst ?_ (npa tp m)) (nn _)
                rw [sp7 tp m, h1]
              · refine if_false_of (decide_eq_false fun e => cn (V.str.inj e)) ?_
                obtain ⟨p, h1, h2, L, h3, hL1, h4, h5⟩ := (good f' (List.mem_of_getElem? ef')).resolve_left cn
                have hp7 : H7 p = some (.lst (L.map fun (n : Nat) => V.int (n : Int))) := by rw [sp7 _ h1]; exact h3
                have dg : DGet H7 sd (.str f') (some (.ref p)) := by
                  have := DGet.k (k := (Sum.inr f' : Key)) ((st6.trans st7).dk esd)
                  rw [h2] at this
                  exact this
                refine ⟨_, rfl, _, rfl, sd, .ref p, rfl, dg, _, rfl, _, rfl, p, _, rfl, .inl (SqL.of hp7), by show 3 ≤ sizeLine; decide, fun r3 hr3 => ?_⟩
                have v3 := Go.new (T := T) (M := []) (o := .lst [V.int 1, V.int 2, V.int 96]) hr3
                refine ⟨_, rfl, a, l, _, 3, rfl, by decide, by decide, by omega, W7.go v3, v3.tb (G7.tb ht), fun i8 H8 i80 i81 W8 g8 t8 => ?_⟩
                obtain ⟨mv, em8, mv1, mv2⟩ : ∃ mv : Int, atI [V.int 1, V.int 2, V.int 96] i8 = some (.int mv) ∧ 1 ≤ mv ∧ mv ≤ 96 := by
                  have : i8 = 0 ∨ i8 = 1 ∨ i8 = 2 := by omega
                  rcases this with rfl | rfl | rfl
                  · exact ⟨1, rfl, by decide, by decide⟩
                  · exact ⟨2, rfl, by decide, by decide⟩
                  · exact ⟨96, rfl, by decide, by decide⟩
                have er8 := g8.lst (upd_same (H := H7) (a := r3) (o := .lst [V.int 1, V.int 2, V.int 96])) (nin (W7.ne hr3))
                obtain ⟨mn', emn, mn1, mn2⟩ : ∃ mn' : Int, mn' = (if mv < (((L.map fun (n : Nat) => V.int (n : Int)).length : Nat) : Int) then mv else (((L.map fun (n : Nat) => V.int (n : Int)).length : Nat) : Int)) ∧ 1 ≤ mn' ∧ mn' ≤ (L.length : Int) := by
                  refine ⟨_, rfl, ?_, ?_⟩
                  · rw [List.length_map]
                    split <;> omega
                  · rw [List.length_map]
                    split <;> omega
                have lL : L.length ≤ 97 := by have := fit4.1; omega
                refine ⟨r3, _, i8, _, rfl, rfl, SqL.of er8, em8, _, _, rfl, a, l, _, _, rfl, by rw [← emn]; omega, by rw [← emn]; omega, by omega, W8, t8, fun i9 H9 i90 i91 W9 g9 t9 => ?_⟩
                rw [← emn] at i91
                have wl8 : ∀ b ∈ [a, l], ∃ ys, upd H7 r3 (.lst [V.int 1, V.int 2, V.int 96]) b = some (.lst ys) := fun b hb => by
                  obtain ⟨ys, ey⟩ := wl7 b hb
                  exact ⟨ys, v3.lst ey (nn _)⟩
                have wl9 : ∀ b ∈ [a, l], ∃ ys, H8 b = some (.lst ys) := fun b hb => by
                  obtain ⟨ns, s, c, w1, w2, w3, _⟩ := W8
                  rcases List.mem_cons.mp hb with rfl | hb
                  · exact ⟨_, w2⟩
                  · rw [List.mem_singleton.mp hb]
                    exact ⟨_, w3⟩
                have st9 := ((ST.go0 v3).trans (ST.go g8 wl8)).trans (ST.go g9 wl9)
                have hl9 : ∀ {q : Addr} {ys : List V}, H7 q = some (.lst ys) → q ∉ [a, l] → H9 q = some (.lst ys) := fun e n => g9.lst (g8.lst (v3.lst e (nn _)) n) n
                have hp9 := hl9 hp7 (npa _ h1)
                obtain ⟨nv, env⟩ : ∃ nv, L[L.length - 1 - i9.toNat]? = some nv := ⟨_, List.getElem?_eq_getElem (by omega)⟩
                have hnv := h5 nv (List.mem_of_getElem? env)
                refine ⟨_, rfl, _, rfl, _, rfl, p, _, rfl, .inl (SqL.of hp9), _, _, rfl, rfl, _, rfl, _, _, rfl, rfl, p, _, _, .int (nv : Int), rfl, rfl, SqL.of hp9, ?_, by show 1 ≤ sizeLine; rw [sizeLine_eq]; omega, fun u hu' => ?_⟩
                · have e1 : (((L.map fun (n : Nat) => V.int (n : Int)).length : Nat) : Int) - 1 - i9 = ((L.length - 1 - i9.toNat : Nat) : Int) := by
                    rw [List.length_map]
                    omega
                  rw [e1]
                  exact atI_nat (by rw [List.getElem?_map, env] <;> rfl)
                have uu := Go.new (T := T) (M := []) (o := .tup [V.int (nv : Int)]) hu'
                refine catT_ok (T := T) (M := []) (uu.tup (st9.tup ee7) (nn _)) upd_same (nn _) (nn _) (by simp only [List.length_map, List.length_cons, List.length_nil]; omega) (fun r _ => nn r) fun r2 H10 er2 nr2 g10 => ?_
                have g89 := uu.trans g10
                have bnv : ((nv : Nat) : Int).natAbs ≤ bigInt := by
                  have := (List.getElem?_eq_some_iff.mp hnv).1
                  have hb : 10000 ≤ bigInt := by unfold bigInt; decide +kernel
                  have := fit4.1
                  omega
                refine ⟨r2, es ++ [(nv : Int)], _, _, _, rfl, (((G7.trans v3.of0).trans g8).trans g9).trans g89.of0, (W9.go g89).up (by omega), (st7.trans st9).trans (ST.go0 g89), g89.lst (hl9 ela7 (nin na)) (nn _), g89.lst (hl9 ema7 (nin nma0)) (nn _), fun tp m => ?_, by rw [er2, List.map_append] <;> rfl, by rw [List.length_append, les] <;> rfl, fes2 _ (.inr ⟨nv, rfl, hnv⟩), bes2 _ bnv⟩
                obtain ⟨L', h1', _, _⟩ := sp5 tp m
                rw [h1']
                refine g89.lst (hl9 ?_ (npa tp m)) (nn _)
                rw [sp7 tp m, h1']
            · obtain ⟨e, es, q7, q11, q13, rfl, G7, W7, st7, ela7, ema7, sp7, ee7, les, fes, bes⟩ := h
              rw [List.length_map] at W7 les
              obtain ⟨p, h1, h2, L, h3, h4, h5⟩ := sp5' kd hkt
              have hp7 : H7 p = some (.lst (L.map fun (n : Nat) => V.int (n : Int))) := by rw [sp7 _ h1]; exact h3
              have dg : DGet H7 sd (.str kd) (some (.ref p)) := by
                have := DGet.k (k := (Sum.inr kd : Key)) ((st6.trans st7).dk esd)
                rw [h2] at this
                exact this
              have lL : L.length ≤ 97 := by have := fit4.1; omega
              have rv7 := rv6.st fun q ys e => st7.tup e
              have hp0 : H p = none := (hps _ h1).2
              have l5 := rv5.1
              refine ⟨_, rfl, _, rfl, sd, .ref p, rfl, dg, .inl ⟨rfl, _, SqL.of hp7⟩, _, rfl, la, vs, rfl, .inl (SqL.of ela7), p, _, _, rfl, rfl, hp7, by rw [List.length_map, sizeLine_eq]; omega, ?_⟩
              have nlap : la ≠ p := fun z => (npl _ h1).1 z.symm
              have nmap : ma ≠ p := fun z => (npl _ h1).2 z.symm
              have G8 := G7.over hp0 hp7 (o := .lst ((L.map fun (n : Nat) => V.int (n : Int)) ++ [V.int (vs.length : Int)])) (fun _ z => by cases z)
              have st8 := ST.set (o' := .lst ((L.map fun (n : Nat) => V.int (n : Int)) ++ [V.int (vs.length : Int)])) hp7
              have W8 : WellAt a l (upd H7 p (.lst ((L.map fun (n : Nat) => V.int (n : Int)) ++ [V.int (vs.length : Int)]))) _ := W7.set (by have := npa _ h1; simpa using this)
              have ep8 : upd H7 p (.lst ((L.map fun (n : Nat) => V.int (n : Int)) ++ [V.int (vs.length : Int)])) p = _ := upd_same
              have ela8 : upd H7 p (.lst ((L.map fun (n : Nat) => V.int (n : Int)) ++ [V.int (vs.length : Int)])) la = some (.lst vs) := by rw [upd_ne nlap]; exact ela7
              have ema8 : upd H7 p (.lst ((L.map fun (n : Nat) => V.int (n : Int)) ++ [V.int (vs.length : Int)])) ma = some (.lst ms) := by rw [upd_ne nmap]; exact ema7
              have sp8 : ∀ tp ∈ ps, tp.2 ≠ p → upd H7 p (.lst ((L.map fun (n : Nat) => V.int (n : Int)) ++ [V.int (vs.length : Int)])) tp.2 = H5 tp.2 := fun tp m n => by rw [upd_ne n]; exact sp7 tp m
              generalize upd H7 p (.lst ((L.map fun (n : Nat) => V.int (n : Int)) ++ [V.int (vs.length : Int)])) = H8 at *
              refine ⟨_, rfl, .inl ⟨rfl, _, SqL.of ela8⟩, _, rfl, _, rfl, by show 2 ≤ sizeLine; decide, fun r hr' => ?_⟩
              have u9 := Go.new (T := T) (M := []) (o := .tup [V.str (SL.mkN m), V.ref e]) hr'
              have ela9 := u9.lst ela8 (nn _)
              have st9 := (ST.go0 u9).trans (ST.set (o' := .lst (vs ++ [V.ref r])) ela9)
              have rl : r ≠ la := fun z => by rw [z, ela8] at hr'; cases hr'
              refine ⟨la, _, _, rfl, rfl, ela9, by rw [sizeLine_eq]; omega, rows ++ [(SL.mkN m, es)], sorts ++ [kd], vs ++ [.ref r], _, _, _, _, _, _, _, _, rfl, (G8.trans u9.of0).over hla ela9 (fun _ z => by cases z), ((W8.go u9).set (by exact na)).up (by omega), ((st6.trans st7).trans st8).trans st9, upd_same, ?_, ?_, fit4.snoc hm les fes, ?_, ?_, fun tp m => ?_⟩
              · refine (rv7.st fun q ys e => (st8.trans st9).tup e).snoc ?_ ((st8.trans st9).tup ee7)
                rw [upd_ne rl]
                exact upd_same
              · rw [upd_ne nlm]
                exact u9.lst ema8 (nn _)
              · intro r' mr z mz
                rcases List.mem_append.mp mr with w | w
                · exact sm4 r' w z mz
                · rw [List.mem_singleton.mp w] at mz
                  exact bes z mz
              · rw [List.length_append, List.length_singleton]
                omega
              · by_cases ct : tp.2 = p
                · have : tp = (kd, p) := npp tp m _ h1 ct
                  subst this
                  refine ⟨L ++ [rows.length], ?_, ?_, fun n mn => ?_⟩
                  · rw [upd_ne (npl _ h1).1, u9.lst ep8 (nn _), List.map_append, l5]
                    rfl
                  · rw [List.length_append, List.length_append]
                    simp only [List.length_singleton]
                    omega
                  · rcases List.mem_append.mp mn with w | w
                    · have hn := h5 n w
                      rw [List.getElem?_append_left (List.getElem?_eq_some_iff.mp hn).1]
                      exact hn
                    · rw [List.mem_singleton.mp w, ← fit4.1, List.getElem?_append_right (Nat.le_refl _), Nat.sub_self] <;> rfl
                · obtain ⟨L', h1', h2', h3'⟩ := sp5 tp m
                  refine ⟨L', ?_, by rw [List.length_append]; omega, fun n mn => ?_⟩
                  · rw [upd_ne (npl tp m).1]
                    refine u9.lst ?_ (nn _)
                    rw [sp8 tp m ct]
                    exact h1'
                  · have hn := h3' n mn
                    rw [List.getElem?_append_left (List.getElem?_eq_some_iff.mp hn).1]
                    exact hn
      · refine if_false_of (decide_eq_false cb) ?_
        refine ⟨_, rfl, la, vs, rfl, .inl (SqL.of ela5), _, rfl, rfl, _, rfl, ?_⟩
        have cont : ∀ (p7 p11 p12 p13 : Option V) (H' : Hp), H' = H5 → ∃ rows' sorts' vs' q6 q7 q8 q9 q10 q11 q12 q13, [some (V.ref a), some (V.ref fa), some (V.int count), some (V.ref la), some (V.ref sd), some (V.ref ma), some (V.str kd), p7, some (V.str (SL.mkN m)), some (V.int (i : Int)), some (V.ref fl), p11, p12, p13] = [some (V.ref a), some (V.ref fa), some (V.int count), some (V.ref la), some (V.ref sd), some (V.ref ma), q6, q7, q8, q9, q10, q11, q12, q13] ∧ Go T [a, l] H H5 ∧ WellAt a l H5 (k + 32 * ((i + 1 : Nat) : Int)) ∧ ST H3 H5 ∧ H5 la = some (.lst vs') ∧ rowsV H5 vs' rows' ∧ H5 ma = some (.lst ms) ∧ rowsFit ks rows' sorts' ∧ smallR rows' ∧ (rows'.length : Int) ≤ count ∧ spotsOk H5 ps sorts' := fun p7 p11 p12 p13 H' _ =>
          ⟨rows, sorts, vs, _, _, _, _, _, _, _, _, rfl, g4.trans g5, W5.up (by omega), st5, ela5, rv5, ema5, fit4, sm4, cnt4, sp5⟩
        by_cases c2 : (vs.length : Int) = count
        · refine if_true_of (decide_eq_true (by rw [c2])) (iteT ?_)
          exact cont _ _ _ _ H5 rfl
        · refine if_false_of (decide_eq_false fun e => c2 (V.int.inj e)) ?_
          refine ⟨_, rfl, fl, rfl, ⟨_, SqT.of efl⟩, fun D' hD' => ?_⟩
          have gD := Go.new (T := T) (M := []) (o := .lst []) hD'
          have lfl : (flds m).length ≤ 4 := by
            obtain ⟨x, fs, rfl, l4, hf4⟩ := maker_parts (rows_maker hks hm)
            show ((itemsD (sndD (.tuple [.str x, .tuple fs]))).map strD).length ≤ 4
            rw [List.length_map]
            exact l4
          obtain ⟨hkt, hft⟩ := hmore kd pp m hm
          rw [← eps] at hkt hft
          have sp5' : ∀ t, t ∈ ps.map Prod.fst → ∃ p, (t, p) ∈ ps ∧ valV (dictP ps) (.inr t) = some (.ref p) ∧ ∃ L : List Nat, H5 p = some (.lst (L.map fun (n : Nat) => V.int (n : Int))) ∧ L.length ≤ sorts.length ∧ ∀ n ∈ L, sorts[n]? = some t := fun t ht' => by
            obtain ⟨p, h1, h2⟩ := dictP_some ht'
            obtain ⟨L, h3, h4, h5⟩ := sp5 _ h1
            exact ⟨p, h1, h2, L, h3, h4, h5⟩
          refine lc_map (T := T) (H0 := H5) (H1 := H5) (fun j => V.bl (badAt H5 ps ((flds m)[j]?))) walk_tup (fun H' g' => SqT.of (g'.tup efl (nn _))) t5 Go.refl hD' (by rw [List.length_map, sizeLine_eq]; omega) (fun j x H' H'' R hj g' t' y kq => ?_) (fun H' g' t' e' => ?_)
          · obtain ⟨rfl, ex'⟩ := y
            rw [List.getElem?_map] at ex'
            obtain ⟨f', ef', rfl⟩ := Option.map_eq_some_iff.mp ex'
            rw [ef'] at kq
            refine ⟨rfl, _, rfl, rfl, _, rfl, ?_⟩
            by_cases cn : f' = "number"
            · refine if_false_of (by rw [cn]; rfl) ?_
              have : badAt H5 ps (some f') = false := badAt_num cn
              rw [this] at kq
              exact kq _ Go.refl
            · refine if_true_of (by rw [decide_eq_false fun e => cn (V.str.inj e)]; rfl) ?_
              have hf' := (hft f' (List.mem_of_getElem? ef')).resolve_left cn
              obtain ⟨p, h1, h2, L, h3, h4, h5⟩ := sp5' f' hf'
              have : badAt H5 ps (some f') = (L.map fun (n : Nat) => V.int (n : Int)).isEmpty := badAt_at cn h2 h3
              rw [this] at kq
              refine ⟨_, rfl, _, rfl, sd, .ref p, rfl, ?_, by show 0 ≤ sizeLine; omega, fun q' hq' => ?_⟩
              · have := DGet.k (k := (Sum.inr f' : Key)) ((st5.trans (ST.go0 g')).dk esd)
                rw [h2] at this
                exact this
              have u' := Go.new (T := T) (M := []) (o := .lst []) hq'
              exact ⟨p, q', _, rfl, rfl, SqL.of (u'.lst (g'.lst h3 (nn _)) (nn _)), SqL.of upd_same, kq _ u'⟩
          · rw [List.length_map] at e'
            refine ⟨D', (List.range (flds m).length).map fun j => badAt H5 ps ((flds m)[j]?), rfl, SqL.of (by rw [List.map_map]; exact e'), _, rfl, ?_⟩
            by_cases c3 : (((List.range (flds m).length).map fun j => badAt H5 ps ((flds m)[j]?)).any id) = true
            · refine if_true_of c3 ?_
              refine ⟨rows, sorts, vs, _, _, _, _, _, _, _, _, rfl, (g4.trans g5).trans g'.of0, (W5.go g').up (by omega), st5.trans (ST.go0 g'), g'.lst ela5 (nn _), rv5.st fun q ys e => g'.tup e (nn _), g'.lst ema5 (nn _), fit4, sm4, cnt4, fun tp m => ?_⟩
              obtain ⟨L, h1, h2, h3⟩ := sp5 tp m
              exact ⟨L, g'.lst h1 (nn _), h2, h3⟩
            refine if_false_of (by simpa using c3) ?_
            have good : ∀ f' ∈ flds m, f' = "number" ∨ ∃ p, (f', p) ∈ ps ∧ valV (dictP ps) (.inr f') = some (.ref p) ∧ ∃ L : List Nat, H5 p = some (.lst (L.map fun (n : Nat) => V.int (n : Int))) ∧ 1 ≤ L.length ∧ L.length ≤ sorts.length ∧ ∀ n ∈ L, sorts[n]? = some f' := fun f' mf => by
              by_cases cn : f' = "number"
              · exact .inl cn
              obtain ⟨p, h1, h2, L, h3, h4, h5⟩ := sp5' f' ((hft f' mf).resolve_left cn)
              refine .inr ⟨p, h1, h2, L, h3, ?_, h4, h5⟩
              cases L with
              | cons x L => exact Nat.succ_le_succ (Nat.zero_le _)
              | nil =>
                refine absurd ?_ c3
                obtain ⟨j, hj, ej⟩ := List.mem_iff_getElem.mp mf
                refine List.any_eq_true.mpr ⟨true, List.mem_map.mpr ⟨j, List.mem_range.mpr hj, ?_⟩, rfl⟩
                rw [List.getElem?_eq_getElem hj, ej]
                exact badAt_at (xs := []) cn h2 h3
            refine ⟨by show 0 ≤ sizeLine; omega, fun e0 he0 => ?_⟩
            have u0 := Go.new (T := T) (M := []) (o := .tup []) he0
            have g6 := g'.trans u0
            have st6 := st5.trans (ST.go0 g6)
            have W6 := W5.go g6
            have ela6 := g6.lst ela5 (nn _)
            have ema6 := g6.lst ema5 (nn _)
            have rv6 := rv5.st fun q ys e => g6.tup e (nn _)
            have sp6 : ∀ tp ∈ ps, upd H' e0 (.tup []) tp.2 = H5 tp.2 := fun tp m => by
              obtain ⟨L, h1, _, _⟩ := sp5 tp m
              rw [g6.lst h1 (nn _), h1]
            have ee0 : upd H' e0 (.tup []) e0 = some (.tup (([] : List Int).map V.int)) := upd_same
            have G6 := (g4.trans g5).trans (g6.of0 (M := [a, l]))
            have efl6 := g6.tup efl (nn _)
            generalize upd H' e0 (.tup []) = H6 at *
            refine ⟨_, rfl, fl, rfl, ⟨_, SqT.of efl6⟩, ?_⟩
            refine for_it (n := ((flds m).map V.str).length) walk_tup (fun j σ H' => ∃ (e : Addr) (es : List Int) (q7 q11 q13 : Option V), σ = [some (V.ref a), some (V.ref fa), some (V.int count), some (V.ref la), some (V.ref sd), some (V.ref ma), some (V.str kd), q7, some (V.str (SL.mkN m)), some (V.int (i : Int)), some (V.ref fl), q11, some (V.ref e), q13] ∧ Go T [a, l] H H' ∧ WellAt a l H' (k + 32 * ((i : Nat) : Int) + 1 + 7 * ((j : Nat) : Int)) ∧ ST H6 H' ∧ H' la = some (.lst vs) ∧ H' ma = some (.lst ms) ∧ (∀ tp ∈ ps, H' tp.2 = H5 tp.2) ∧ H' e = some (.tup (es.map V.int)) ∧ es.length = j ∧ (∀ (j' : Nat) f' z, (flds m)[j']? = some f' → es[j']? = some z → fitE sorts f' z) ∧ ∀ z : Int, z ∈ es → z.natAbs ≤ bigInt)
              ⟨e0, [], _, _, _, rfl, G6, W6.up (by omega), ST.refl, ela6, ema6, sp6, ee0, rfl, (fun j' f' z e1 e2 => by cases e2), (fun z m => by cases m)⟩
              (fun j σ H' _ ⟨_, _, _, _, _, _, _, _, s', _⟩ => SqT.of (s'.tup efl6)) (fun j x σ H7a H7 hj h y => ?_) (fun σ H7 h => ?_)
            · obtain ⟨e, es, q7, q11, q13, rfl, G7, W7, st7, ela7, ema7, sp7, ee7, les, fes, bes⟩ := h
              obtain ⟨rfl, ex'⟩ := y
              rw [List.getElem?_map] at ex'
              obtain ⟨f', ef', rfl⟩ := Option.map_eq_some_iff.mp ex'
              rw [List.length_map] at hj
              have fes2 : ∀ (z' : Int), fitE sorts f' z' → ∀ (j' : Nat) f'' z, (flds m)[j']? = some f'' → (es ++ [z'])[j']? = some z → fitE sorts f'' z := fun z' hz' j' f'' z e1 e2 => by
                rcases Nat.lt_trichotomy j' es.length with c | c | c
                · rw [List.getElem?_append_left c] at e2
                  exact fes j' f'' z e1 e2
                · subst c
                  rw [List.getElem?_append_right (Nat.le_refl _), Nat.sub_self] at e2
                  cases e2
                  rw [les, ef'] at e1
                  cases e1
                  exact hz'
                · have := (List.getElem?_eq_some_iff.mp e2).1
                  rw [List.length_append, List.length_singleton] at this
                  omega
              have bes2 : ∀ z' : Int, z'.natAbs ≤ bigInt → ∀ z ∈ es ++ [z'], z.natAbs ≤ bigInt := fun z' hz' z mz => by
                rcases List.mem_append.mp mz with w | w
                · exact bes z w
                · rw [List.mem_singleton.mp w]
                  exact hz'
              have wl7 : ∀ b ∈ [a, l], ∃ ys, H7 b = some (.lst ys) := fun b hb => by
                obtain ⟨ns, s, c, w1, w2, w3, _⟩ := W7
                rcases List.mem_cons.mp hb with rfl | hb
                · exact ⟨_, w2⟩
                · rw [List.mem_singleton.mp hb]
                  exact ⟨_, w3⟩
              refine ⟨_, rfl, rfl, _, rfl, ?_⟩
              by_cases cn : f' = "number"
              · refine if_true_of (decide_eq_true (by rw [cn])) ?_
                refine ⟨_, rfl, _, rfl, a, l, _, rfl, by omega, W7, G7.tb ht, fun z H8 bz W8 g8 t8 => ⟨by show 1 ≤ sizeLine; rw [sizeLine_eq]; omega, fun u hu' => ?_⟩⟩
                have st8 := ST.go g8 wl7
                have uu := Go.new (T := T) (M := []) (o := .tup [V.int z]) hu'
                refine catT_ok (T := T) (M := []) (uu.tup (st8.tup ee7) (nn _)) upd_same (nn _) (nn _) (by simp only [List.length_map, List.length_cons, List.length_nil]; omega) (fun r _ => nn r) fun r2 H9 er2 nr2 g9 => ?_
                have g89 := uu.trans g9
                refine ⟨r2, es ++ [z], _, _, _, rfl, (G7.trans g8).trans g89.of0, (W8.go g89).up (by omega), (st7.trans st8).trans (ST.go0 g89), g89.lst (g8.lst ela7 (nin na)) (nn _), g89.lst (g8.lst ema7 (nin nma0)) (nn _), fun tp m => ?_, by rw [er2, List.map_append] <;> rfl, by rw [List.length_append, les] <;> rfl, fes2 z (.inl cn), bes2 z bz⟩
                obtain ⟨L, h1, _, _⟩ := sp5 tp m
                rw [h1]
                refine g89.lst (g8.lst ?_ (npa tp m)) (nn _)
                rw [sp7 tp m, h1]
              · refine if_false_of (decide_eq_false fun e => cn (V.str.inj e)) ?_
                obtain ⟨p, h1, h2, L, h3, hL1, h4, h5⟩ := (good f' (List.mem_of_getElem? ef')).resolve_left cn
                have hp7 : H7 p = some (.lst (L.map fun (n : Nat) => V.int (n : Int))) := by rw [sp7 _ h1]; exact h3
                have dg : DGet H7 sd (.str f') (some (.ref p)) := by
                  have := DGet.k (k := (Sum.inr f' : Key)) ((st6.trans st7).dk esd)
                  rw [h2] at this
                  exact this
                refine ⟨_, rfl, _, rfl, sd, .ref p, rfl, dg, _, rfl, _, rfl, p, _, rfl, .inl (SqL.of hp7), by show 3 ≤ sizeLine; decide, fun r3 hr3 => ?_⟩
                have v3 := Go.new (T := T) (M := []) (o := .lst [V.int 1, V.int 2, V.int 96]) hr3
                refine ⟨_, rfl, a, l, _, 3, rfl, by decide, by decide, by omega, W7.go v3, v3.tb (G7.tb ht), fun i8 H8 i80 i81 W8 g8 t8 => ?_⟩
                obtain ⟨mv, em8, mv1, mv2⟩ : ∃ mv : Int, atI [V.int 1, V.int 2, V.int 96] i8 = some (.int mv) ∧ 1 ≤ mv ∧ mv ≤ 96 := by
                  have : i8 = 0 ∨ i8 = 1 ∨ i8 = 2 := by omega
                  rcases this with rfl | rfl | rfl
                  · exact ⟨1, rfl, by decide, by decide⟩
                  · exact ⟨2, rfl, by decide, by decide⟩
                  · exact ⟨96, rfl, by decide, by decide⟩
                have er8 := g8.lst (upd_same (H := H7) (a := r3) (o := .lst [V.int 1, V.int 2, V.int 96])) (nin (W7.ne hr3))
                obtain ⟨mn', emn, mn1, mn2⟩ : ∃ mn' : Int, mn' = (if mv < (((L.map fun (n : Nat) => V.int (n : Int)).length : Nat) : Int) then mv else (((L.map fun (n : Nat) => V.int (n : Int)).length : Nat) : Int)) ∧ 1 ≤ mn' ∧ mn' ≤ (L.length : Int) := by
                  refine ⟨_, rfl, ?_, ?_⟩
                  · rw [List.length_map]
                    split <;> omega
                  · rw [List.length_map]
                    split <;> omega
                have lL : L.length ≤ 97 := by have := fit4.1; omega
                refine ⟨r3, _, i8, _, rfl, rfl, SqL.of er8, em8, _, _, rfl, a, l, _, _, rfl, by rw [← emn]; omega, by rw [← emn]; omega, by omega, W8, t8, fun i9 H9 i90 i91 W9 g9 t9 => ?_⟩
                rw [← emn] at i91
                have wl8 : ∀ b ∈ [a, l], ∃ ys, upd H7 r3 (.lst [V.int 1, V.int 2, V.int 96]) b = some (.lst ys) := fun b hb => by
                  obtain ⟨ys, ey⟩ := wl7 b hb
                  exact ⟨ys, v3.lst ey (nn _)⟩
                have wl9 : ∀ b ∈ [a, l], ∃ ys, H8 b = some (.lst ys) := fun b hb => by
                  obtain ⟨ns, s, c, w1, w2, w3, _⟩ := W8
                  rcases List.mem_cons.mp hb with rfl | hb
                  · exact ⟨_, w2⟩
                  · rw [List.mem_singleton.mp hb]
                    exact ⟨_, w3⟩
                have st9 := ((ST.go0 v3).trans (ST.go g8 wl8)).trans (ST.go g9 wl9)
                have hl9 : ∀ {q : Addr} {ys : List V}, H7 q = some (.lst ys) → q ∉ [a, l] → H9 q = some (.lst ys) := fun e n => g9.lst (g8.lst (v3.lst e (nn _)) n) n
                have hp9 := hl9 hp7 (npa _ h1)
                obtain ⟨nv, env⟩ : ∃ nv, L[L.length - 1 - i9.toNat]? = some nv := ⟨_, List.getElem?_eq_getElem (by omega)⟩
                have hnv := h5 nv (List.mem_of_getElem? env)
                refine ⟨_, rfl, _, rfl, _, rfl, p, _, rfl, .inl (SqL.of hp9), _, _, rfl, rfl, _, rfl, _, _, rfl, rfl, p, _, _, .int (nv : Int), rfl, rfl, SqL.of hp9, ?_, by show 1 ≤ sizeLine; rw [sizeLine_eq]; omega, fun u hu' => ?_⟩
                · have e1 : (((L.map fun (n : Nat) => V.int (n : Int)).length : Nat) : Int) - 1 - i9 = ((L.length - 1 - i9.toNat : Nat) : Int) := by
                    rw [List.length_map]
                    omega
                  rw [e1]
                  exact atI_nat (by rw [List.getElem?_map, env] <;> rfl)
                have uu := Go.new (T := T) (M := []) (o := .tup [V.int (nv : Int)]) hu'
                refine catT_ok (T := T) (M := []) (uu.tup (st9.tup ee7) (nn _)) upd_same (nn _) (nn _) (by simp only [List.length_map, List.length_cons, List.length_nil]; omega) (fun r _ => nn r) fun r2 H10 er2 nr2 g10 => ?_
                have g89 := uu.trans g10
                have bnv : ((nv : Nat) : Int).natAbs ≤ bigInt := by
                  have := (List.getElem?_eq_some_iff.mp hnv).1
                  have hb : 10000 ≤ bigInt := by unfold bigInt; decide +kernel
                  have := fit4.1
                  omega
                refine ⟨r2, es ++ [(nv : Int)], _, _, _, rfl, (((G7.trans v3.of0).trans g8).trans g9).trans g89.of0, (W9.go g89).up (by omega), (st7.trans st9).trans (ST.go0 g89), g89.lst (hl9 ela7 (nin na)) (nn _), g89.lst (hl9 ema7 (nin nma0)) (nn _), fun tp m => ?_, by rw [er2, List.map_append] <;> rfl, by rw [List.length_append, les] <;> rfl, fes2 _ (.inr ⟨nv, rfl, hnv⟩), bes2 _ bnv⟩
                obtain ⟨L', h1', _, _⟩ := sp5 tp m
                rw [h1']
                refine g89.lst (hl9 ?_ (npa tp m)) (nn _)
                rw [sp7 tp m, h1']
            · obtain ⟨e, es, q7, q11, q13, rfl, G7, W7, st7, ela7, ema7, sp7, ee7, les, fes, bes⟩ := h
              rw [List.length_map] at W7 les
              obtain ⟨p, h1, h2, L, h3, h4, h5⟩ := sp5' kd hkt
              have hp7 : H7 p = some (.lst (L.map fun (n : Nat) => V.int (n : Int))) := by rw [sp7 _ h1]; exact h3
              have dg : DGet H7 sd (.str kd) (some (.ref p)) := by
                have := DGet.k (k := (Sum.inr kd : Key)) ((st6.trans st7).dk esd)
                rw [h2] at this
                exact this
              have lL : L.length ≤ 97 := by have := fit4.1; omega
              have rv7 := rv6.st fun q ys e => st7.tup e
              have hp0 : H p = none := (hps _ h1).2
              have l5 := rv5.1
              refine ⟨_, rfl, _, rfl, sd, .ref p, rfl, dg, .inl ⟨rfl, _, SqL.of hp7⟩, _, rfl, la, vs, rfl, .inl (SqL.of ela7), p, _, _, rfl, rfl, hp7, by rw [List.length_map, sizeLine_eq]; omega, ?_⟩
              have nlap : la ≠ p := fun z => (npl _ h1).1 z.symm
              have nmap : ma ≠ p := fun z => (npl _ h1).2 z.symm
              have G8 := G7.over hp0 hp7 (o := .lst ((L.map fun (n : Nat) => V.int (n : Int)) ++ [V.int (vs.length : Int)])) (fun _ z => by cases z)
              have st8 := ST.set (o' := .lst ((L.map fun (n : Nat) => V.int (n : Int)) ++ [V.int (vs.length : Int)])) hp7
              have W8 : WellAt a l (upd H7 p (.lst ((L.map fun (n : Nat) => V.int (n : Int)) ++ [V.int (vs.length : Int)]))) _ := W7.set (by have := npa _ h1; simpa using this)
              have ep8 : upd H7 p (.lst ((L.map fun (n : Nat) => V.int (n : Int)) ++ [V.int (vs.length : Int)])) p = _ := upd_same
              have ela8 : upd H7 p (.lst ((L.map fun (n : Nat) => V.int (n : Int)) ++ [V.int (vs.length : Int)])) la = some (.lst vs) := by rw [upd_ne nlap]; exact ela7
              have ema8 : upd H7 p (.lst ((L.map fun (n : Nat) => V.int (n : Int)) ++ [V.int (vs.length : Int)])) ma = some (.lst ms) := by rw [upd_ne nmap]; exact ema7
              have sp8 : ∀ tp ∈ ps, tp.2 ≠ p → upd H7 p (.lst ((L.map fun (n : Nat) => V.int (n : Int)) ++ [V.int (vs.length : Int)])) tp.2 = H5 tp.2 := fun tp m n => by rw [upd_ne n]; exact sp7 tp m
              generalize upd H7 p (.lst ((L.map fun (n : Nat) => V.int (n : Int)) ++ [V.int (vs.length : Int)])) = H8 at *
              refine ⟨_, rfl, .inl ⟨rfl, _, SqL.of ela8⟩, _, rfl, _, rfl, by show 2 ≤ sizeLine; decide, fun r hr' => ?_⟩
              have u9 := Go.new (T := T) (M := []) (o := .tup [V.str (SL.mkN m), V.ref e]) hr'
              have ela9 := u9.lst ela8 (nn _)
              have st9 := (ST.go0 u9).trans (ST.set (o' := .lst (vs ++ [V.ref r])) ela9)
              have rl : r ≠ la := fun z => by rw [z, ela8] at hr'; cases hr'
              refine ⟨la, _, _, rfl, rfl, ela9, by rw [sizeLine_eq]; omega, rows ++ [(SL.mkN m, es)], sorts ++ [kd], vs ++ [.ref r], _, _, _, _, _, _, _, _, rfl, (G8.trans u9.of0).over hla ela9 (fun _ z => by cases z), ((W8.go u9).set (by exact na)).up (by omega), ((st6.trans st7).trans st8).trans st9, upd_same, ?_, ?_, fit4.snoc hm les fes, ?_, ?_, fun tp m => ?_⟩
              · refine (rv7.st fun q ys e => (st8.trans st9).tup e).snoc ?_ ((st8.trans st9).tup ee7)
                rw [upd_ne rl]
                exact upd_same
              · rw [upd_ne nlm]
                exact u9.lst ema8 (nn _)
              · intro r' mr z mz
                rcases List.mem_append.mp mr with w | w
                · exact sm4 r' w z mz
                · rw [List.mem_singleton.mp w] at mz
                  exact bes z mz
              · rw [List.length_append, List.length_singleton]
                omega
              · by_cases ct : tp.2 = p
                · have : tp = (kd, p) := npp tp m _ h1 ct
                  subst this
                  refine ⟨L ++ [rows.length], ?_, ?_, fun n mn => ?_⟩
                  · rw [upd_ne (npl _ h1).1, u9.lst ep8 (nn _), List.map_append, l5]
                    rfl
                  · rw [List.length_append, List.length_append]
                    simp only [List.length_singleton]
                    omega
                  · rcases List.mem_append.mp mn with w | w
                    · have hn := h5 n w
                      rw [List.getElem?_append_left (List.getElem?_eq_some_iff.mp hn).1]
                      exact hn
                    · rw [List.mem_singleton.mp w, ← fit4.1, List.getElem?_append_right (Nat.le_refl _), Nat.sub_self] <;> rfl
                · obtain ⟨L', h1', h2', h3'⟩ := sp5 tp m
                  refine ⟨L', ?_, by rw [List.length_append]; omega, fun n mn => ?_⟩
                  · rw [upd_ne (npl tp m).1]
                    refine u9.lst ?_ (nn _)
                    rw [sp8 tp m ct]
                    exact h1'
                  · have hn := h3' n mn
                    rw [List.getElem?_append_left (List.getElem?_eq_some_iff.mp hn).1]
                    exact hn
    · obtain ⟨rows, sorts, vs, p6, p7, p8, p9, p10, p11, p12, p13, rfl, g4, W4, st4, ela4, rv4, ema4, fit4, sm4, cnt4, sp4⟩ := h
      refine ⟨_, rfl, .inl ⟨la, vs, rfl, SqL.of ela4, fun r hr' => ?_⟩⟩
      have u := Go.new (T := T) (M := []) (o := .tup vs) hr'
      have W5 := W4.go u
      obtain ⟨ns, s', c, w1, w2, w3, _⟩ := W5
      refine q (.ref r) rows sorts _ (.tup upd_same (nin (W4.ne hr')) ?_) fit4 sm4 (by omega) ((W4.go u).up (by omega)) (g4.trans u.of0) (u.tb (g4.tb ht))
      refine (rv4.st fun q ys e => u.tup e (nn _)).dv fun b hb => ?_
      rcases List.mem_cons.mp hb with rfl | hb
      · exact ⟨_, w2⟩
      · rw [List.mem_singleton.mp hb]
        exact ⟨_, w3⟩
end
end K3
set_option Elab.async false
set_option linter.all false
set_option maxRecDepth 100000
set_option maxHeartbeats 8000000
namespace SL
open PySem PySem.Spec PyProof.Rows L2 GxR NdefX GA
theorem pe_strN {X : Cx} {a : Expr} {ta : TE} {p pos : Pos} (B : Bl X.mg) (ha : PE X a ta) (h1 : Gl X "str" := by rfl) (he : starEach (a :: []) X.env = (false, eval a X.env) :: starEach [] X.env := by rfl) : PE X (.Call (.Name "str" p) [a] [] pos) (tCB rStrN (tCons ta tNil)) :=
  pe_callTy cr_strN h1 B.str (by decide +kernel) (pa_cons ha pa_nil he) (by decide) (by decide) he
end SL
namespace K3
open PySem PySem.Spec PyProof.Rows L2 GxR NdefX GA SL
abbrev s_law_bent : Stmt := top 42
theorem sc_law_bent : FnScope ["well", "value", "at", "ways", "signs", "sign", "odd"] ["well", "value"] (defScope s_law_bent) := ⟨rfl, rfl, rfl, by decide +kernel, rfl, by decide +kernel, by decide +kernel⟩
/-- what a value near data is: not much greater -/
def nearOk (n : Nat) (d d' : PyData) : Prop := nice (n * 1000000000 + 1000000000000000000000000000000) d' = true ∧ wt d' ≤ 3 * wt d + 2000 ∧ d'.depth ≤ d.depth + 3
def sp_bent (T : List Addr) (dep : Nat) : Sp := fun vs H Q _ => ∃ (a l : Addr) (k : Int) (v : V) (d : PyData) (n : Nat), vs = [.ref a, v] ∧ k + 10 * ((dep : Int) + 1) ≤ 549755813888 ∧ WellAt a l H k ∧ Dv [a, l] H v d ∧ nice n d = true ∧ n.log2 < 1880 ∧ wt d ≤ 1000000 ∧ d.depth ≤ dep ∧ Tabs T H ∧
  ∀ v' d' H', Dv [a, l] H' v' d' → nearOk n d d' → WellAt a l H' (k + 10 * (dep + 1)) → Go T [a, l] H H' → Tabs T H' → Q v' H'
mutual
theorem nice_mono {m n : Nat} (h : m ≤ n) : ∀ {d : PyData}, nice m d = true → nice n d = true
  | .none, _ => by simp only [nice]
  | .bool _, _ => by simp only [nice]
  | .int i, e => by
    simp only [nice, decide_eq_true_eq] at e ⊢
    omega
  | .str x, e => by simpa only [nice] using e
  | .list xs, e => by
    simp only [nice] at e ⊢
    exact niceAll_mono h e
  | .tuple xs, e => by
    simp only [nice] at e ⊢
    exact niceAll_mono h e
  | .dict kvs, e => by simpa only [nice] using e
theorem niceAll_mono {m n : Nat} (h : m ≤ n) : ∀ {xs : List PyData}, niceAll m xs = true → niceAll n xs = true
  | [], _ => rfl
  | x :: xs, e => by
    simp only [niceAll, Bool.and_eq_true] at e ⊢
    exact ⟨nice_mono h e.1, niceAll_mono h e.2⟩
end
theorem at_dv {M : List Addr} {H : Hp} {xs : List V} {ds : List PyData} {i : Int} (h : DvAll M H xs ds) (h0 : 0 ≤ i) (h1 : i < (xs.length : Int)) : ∃ v d, atI xs i = some v ∧ d ∈ ds ∧ Dv M H v d := by
  obtain ⟨j, rfl⟩ : ∃ j : Nat, i = (j : Int) := ⟨i.toNat, by omega⟩
  have hj : j < xs.length := by omega
  have ex := List.getElem?_eq_getElem hj
  obtain ⟨d, ed, hv⟩ := h.get ex
  exact ⟨xs[j], d, atI_nat ex, List.mem_of_getElem? ed, hv⟩
/-- the odd things that hang on nothing -/
def oddA : List PyData := ([("" : Str), "number", "Number", "fun", "kind", "a", "A", "a1", "A1", "1A", "A_", "A b", "Abcdefghij", "abcdefghij"]).map PyData.str ++
  [.str "Abcdefghijk", .str "abcdefghijk", .str "A\n", .int 0, .int 1, .int (-1), .int 2, .bool true, .bool false, .none, .tuple [], .list [], .dict [], .tuple [.str "A"], .tuple [.str "A", .tuple []]]
def oddC : List PyData := [.tuple [.str "num", .tuple [.int 1, .int 1]], .int (10 ^ 30), .tuple [.int 0, .int 1], .tuple [.str "Fun", .tuple []]]
theorem odds_ok : (oddA ++ oddC).all (fun d => nice 1000000000000000000000000000000 d && decide (wt d ≤ 2000) && decide (d.depth ≤ 3)) = true := by decide +kernel
theorem odd_near {n : Nat} {d d' : PyData} (h : d' ∈ oddA ++ oddC) : nearOk n d d' := by
  have := List.all_eq_true.mp odds_ok d' h
  simp only [Bool.and_eq_true, decide_eq_true_eq] at this
  exact ⟨nice_mono (by omega) this.1.1, by omega, by omega⟩
theorem cat_ok {K : PySem.W.Frag} {T M : List Addr} {H : Hp} {p q : Addr} {xs ys : List V} {Q : VK} (hp : H p = some (.tup xs)) (hq : H q = some (.tup ys)) (np : p ∉ M) (nq : q ∉ M) (hl : xs.length + ys.length ≤ 16777216) (fresh : ∀ r, H r = none → r ∉ M)
    (k : ∀ r H', H' r = some (.tup (xs ++ ys)) → r ∉ M → Go T [] H H' → Q (.ref r) H') : rCatA K (.ref p) (.ref q) H Q := by
  refine ⟨p, q, xs, ys, rfl, rfl, SqT.of hp, SqT.of hq, sz hl, fun e => ?_, fun _ e => ?_, fun _ _ r hr => k r _ upd_same (fresh r hr) (Go.new hr)⟩
  · subst e
    exact k q H hq nq Go.refl
  · subst e
    exact k p H (by rw [List.append_nil]; exact hp) np Go.refl
theorem sl_ok {K : PySem.W.Frag} {T M : List Addr} {H : Hp} {p : Addr} {xs : List V} {lo hi : Option Int} {Q : VK} (hp : H p = some (.tup xs)) (np : p ∉ M) (fresh : ∀ r, H r = none → r ∉ M)
    (k : ∀ r H', H' r = some (.tup (cutV xs lo hi)) → r ∉ M → Go T [] H H' → Q (.ref r) H') : rSlA K (.ref p) lo hi H Q := by
  refine ⟨p, xs, rfl, SqT.of hp, fun ⟨e1, e2⟩ => ?_, fun _ r hr => k r _ upd_same (fresh r hr) (Go.new hr)⟩
  refine k p H ?_ np Go.refl
  unfold cutV
  rw [e1, e2, List.drop_zero, Nat.sub_zero, List.take_length]
  exact hp
theorem times_ok {K : PySem.W.Frag} {T M : List Addr} {H : Hp} {p : Addr} {xs : List V} {j : Int} {Q : VK} (hp : H p = some (.tup xs)) (np : p ∉ M) (h2 : 2 ≤ j) (h3 : j ≤ 3) (hl : xs.length ≤ 2000000) (fresh : ∀ r, H r = none → r ∉ M)
    (k : ∀ r H', H' r = some (.tup (List.replicate j.toNat xs).flatten) → r ∉ M → Go T [] H H' → Q (.ref r) H') : rTimes K (.ref p) (.int j) H Q := by
  refine ⟨p, j, xs, rfl, rfl, SqT.of hp, h2, h3, hl, fun e => ?_, fun _ r hr => k r _ upd_same (fresh r hr) (Go.new hr)⟩
  refine k p H ?_ np Go.refl
  rw [hp, e]
  have : ∀ n : Nat, (List.replicate n ([] : List V)).flatten = [] := fun n => by
    induction n with
    | zero => rfl
    | succ n ih => rw [List.replicate_succ, List.flatten_cons, ih] <;> rfl
  rw [this]
section
variable {P : Program} {w : World} {K : PySem.W.Frag} {mg : Str → Option Value} {base : Heap} {f c CK CN CT CR : Addr} {fd : FuncData} {T : List Addr}
theorem near_part {n : Nat} {ds ys : List PyData} (h : nice n (.tuple ds) = true) (m : ∀ d ∈ ys, d ∈ ds) (w : wtAll ys ≤ 3 * wtAll ds) : nearOk n (.tuple ds) (.tuple ys) ∧ nearOk n (.tuple ds) (.list ys) := by
  have h' := nice_tup.mp (nice_mono (n := n * 1000000000 + 1000000000000000000000000000000) (by omega) h)
  obtain ⟨D, e⟩ : ∃ D, PyData.depthAll ds = D := ⟨_, rfl⟩
  have hD := depthAll_le.mp (Nat.le_of_eq e)
  have eD : (PyData.tuple ds).depth = D + 1 := by rw [← e]; simp only [PyData.depth]
  refine ⟨⟨nice_tup.mpr fun d hd => h' d (m d hd), by rw [wt_tupl, wt_tupl]; omega, ?_⟩, nice_lst.mpr fun d hd => h' d (m d hd), by rw [wt_tupl, wt_lst]; omega, ?_⟩
  · rw [eD]
    exact depth_tup.mpr fun d hd => Nat.le_trans (hD d (m d hd)) (by omega)
  · rw [eD]
    exact depth_lst.mpr fun d hd => Nat.le_trans (hD d (m d hd)) (by omega)
theorem near_in {n : Nat} {ds : List PyData} {i : Nat} {d e : PyData} (h : nice n (.tuple ds) = true) (hd : ds[i]? = some d) (ne : nearOk n d e) : nearOk n (.tuple ds) (.tuple ((ds.take i ++ [e]) ++ ds.drop (i + 1))) := by
  have h' := nice_tup.mp (nice_mono (n := n * 1000000000 + 1000000000000000000000000000000) (by omega) h)
  obtain ⟨D, eq⟩ : ∃ D, PyData.depthAll ds = D := ⟨_, rfl⟩
  have hD := depthAll_le.mp (Nat.le_of_eq eq)
  have eD : (PyData.tuple ds).depth = D + 1 := by rw [← eq]; simp only [PyData.depth]
  have md := List.mem_of_getElem? hd
  have wa := wt_around hd
  obtain ⟨n1, n2, n3⟩ := ne
  have mem : ∀ x ∈ (ds.take i ++ [e]) ++ ds.drop (i + 1), x ∈ ds ∨ x = e := fun x hx => by
    rcases List.mem_append.mp hx with z | z
    · rcases List.mem_append.mp z with z | z
      · exact .inl (List.mem_of_mem_take z)
      · exact .inr (List.mem_singleton.mp z)
    · exact .inl (List.mem_of_mem_drop z)
  refine ⟨nice_tup.mpr fun x hx => ?_, ?_, ?_⟩
  · rcases mem x hx with z | rfl
    · exact h' x z
    · exact n1
  · rw [wt_tupl, wt_tupl, wtAll_append, wtAll_append]
    simp only [wtAll]
    omega
  · rw [eD]
    refine depth_tup.mpr fun x hx => ?_
    rcases mem x hx with z | rfl
    · exact Nat.le_trans (hD x z) (by omega)
    · have := hD d md
      omega
theorem near_self {n : Nat} {d : PyData} (h : nice n d = true) : nearOk n d (.tuple [d]) ∧ nearOk n d (.list [d]) ∧ nearOk n d (.tuple [d, d]) := by
  have h' := nice_mono (n := n * 1000000000 + 1000000000000000000000000000000) (by omega) h
  refine ⟨⟨?_, ?_, ?_⟩, ⟨?_, ?_, ?_⟩, ⟨?_, ?_, ?_⟩⟩
  all_goals first
    | (simp only [nice, niceAll]; rw [h'] <;> rfl)
    | (simp only [wt, wtAll]; omega)
    | (simp only [PyData.depth, PyData.depthAll]; omega)
def oddD (d : PyData) : List PyData := oddA ++ ([.tuple [d], .list [d], .tuple [d, d]] ++ oddC)
theorem oddD_near {n : Nat} {d d' : PyData} (h : nice n d = true) (m : d' ∈ oddD d) : nearOk n d d' := by
  rcases List.mem_append.mp m with m | m
  · exact odd_near (List.mem_append_left _ m)
  · rcases List.mem_append.mp m with m | m
    · obtain ⟨h1, h2, h3⟩ := near_self h
      simp only [List.mem_cons, List.not_mem_nil, or_false] at m
      rcases m with rfl | rfl | rfl
      · exact h1
      · exact h2
      · exact h3
    · exact odd_near (List.mem_append_right _ m)
theorem asc_int (i : Int) : asc (Str.ofString (toString i)) = true := asc_of fun c hc => Classical.byContradiction fun z => int_text_free' c ⟨by omega, .inr (by omega)⟩ i hc
theorem log_int {n m : Nat} (hl : n.log2 < 1880) (h : m ≤ n * 1000000000 + 1000000000000000000000000000000) : m.log2 < 1920 := by
  by_cases z : m = 0
  · rw [z]; decide
  refine (Nat.log2_lt z).mpr ?_
  have a1 : n < 2 ^ 1880 := by
    by_cases e : n = 0
    · rw [e]; exact Nat.two_pow_pos _
    · exact (Nat.log2_lt e).mp hl
  have a2 : n * 1000000000 ≤ 2 ^ 1880 * 2 ^ 30 := Nat.mul_le_mul (Nat.le_of_lt a1) (by decide)
  rw [← Nat.pow_add] at a2
  have a3 : (1000000000000000000000000000000 : Nat) ≤ 2 ^ 1910 := Nat.le_trans (show (1000000000000000000000000000000 : Nat) ≤ 2 ^ 100 by decide) (Nat.pow_le_pow_right (by decide) (by decide))
  have a4 : (2 : Nat) ^ 1911 = 2 ^ 1910 + 2 ^ 1910 := by rw [Nat.pow_succ, Nat.mul_two]
  have a5 : (2 : Nat) ^ 1911 < 2 ^ 1920 := Nat.pow_lt_pow_right (by decide) (by decide)
  have a2' : n * 1000000000 ≤ 2 ^ 1910 := a2
  omega
theorem near_int {n : Nat} {d : PyData} {w : Int} (hl : n.log2 < 1880) (h : w.natAbs ≤ n * 1000000000 + 1000000000000000000000000000000) : nearOk n d (.int w) := by
  refine ⟨?_, ?_, ?_⟩
  · simp only [nice]
    exact decide_eq_true h
  · have := int_text_len_1921 (i := w) (log_int hl h)
    simp only [wt]
    omega
  · simp only [PyData.depth]
    omega
theorem near_txt {n : Nat} {d : PyData} {x : Str} (h : asc x = true) (hl : 12 * x.length ≤ 3 * wt d + 1996) : nearOk n d (.str x) := by
  refine ⟨?_, ?_, ?_⟩
  · simpa only [nice] using h
  · simp only [wt]
    omega
  · simp only [PyData.depth]
    omega
theorem len_cut40 (z : Str) : (cutS z none (some 40)).length ≤ 40 := by
  have b := HT.sIx_nat z.length z.length 40
  have b : HT.sIx z.length z.length (some 40) = min 40 z.length := b
  rw [SL.len_list, cutS_list, List.length_take, List.length_drop, b, ← SL.len_list]
  omega
theorem cutV_len (xs : List V) (lo hi : Option Int) : (cutV xs lo hi).length ≤ xs.length := by
  unfold cutV
  rw [List.length_take, List.length_drop]
  omega
theorem tup_ways {n : Nat} {ds : List PyData} {i : Int} {z : PyData} (hn : nice n (.tuple ds) = true) (hz : z ∈ [PyData.tuple (cutD ds none (some i) ++ cutD ds (some (i + 1)) none), .tuple ((cutD ds none (some i) ++ cutD ds (some i) (some (i + 1))) ++ cutD ds (some i) none), .tuple (cutD ds (some i) none ++ cutD ds none (some i)), .list ds, .tuple (List.replicate (2 : Int).toNat ds).flatten, .tuple (List.replicate (3 : Int).toNat ds).flatten]) : nearOk n (.tuple ds) z := by
  have two : ∀ {ys zs : List PyData}, (∀ d ∈ ys, d ∈ ds) → (∀ d ∈ zs, d ∈ ds) → ∀ d ∈ ys ++ zs, d ∈ ds := fun h1 h2 d hd => (List.mem_append.mp hd).elim (h1 d) (h2 d)
  have c := fun lo hi => cutD_wt ds lo hi
  simp only [List.mem_cons, List.not_mem_nil, or_false] at hz
  rcases hz with rfl | rfl | rfl | rfl | rfl | rfl
  · exact (near_part hn (two (fun _ => cutD_mem) fun _ => cutD_mem) (by have := c none (some i); have := c (some (i + 1)) none; rw [wtAll_append]; omega)).1
  · exact (near_part hn (two (two (fun _ => cutD_mem) fun _ => cutD_mem) fun _ => cutD_mem) (by have := c none (some i); have := c (some i) (some (i + 1)); have := c (some i) none; rw [wtAll_append, wtAll_append]; omega)).1
  · exact (near_part hn (two (fun _ => cutD_mem) fun _ => cutD_mem) (by have := c none (some i); have := c (some i) none; rw [wtAll_append]; omega)).1
  · exact (near_part hn (fun _ h => h) (by omega)).2
  · exact (near_part hn (fun _ => rep_mem) (by rw [rep_wt]; show 2 * wtAll ds ≤ _; omega)).1
  · exact (near_part hn (fun _ => rep_mem) (by rw [rep_wt]; show 3 * wtAll ds ≤ _; omega)).1
theorem near_nums {n : Nat} {d dd : PyData} {z : Int} {x : Str} (hl : n.log2 < 1880) (hz : z.natAbs ≤ n + 1) (hx : asc x = true) (m : dd ∈ [PyData.int (z + 1), .int (z - 1), .int (-z), .int (z * (10 : Int) ^ (9 : Int).toNat), .str (cutS x none (some 40))]) : nearOk n d dd := by
  have e9 : (10 : Int) ^ (9 : Int).toNat = 1000000000 := by decide
  simp only [List.mem_cons, List.not_mem_nil, or_false] at m
  rcases m with rfl | rfl | rfl | rfl | rfl
  · exact near_int hl (by omega)
  · exact near_int hl (by omega)
  · exact near_int hl (by omega)
  · rw [e9]
    refine near_int hl ?_
    rw [Int.natAbs_mul]
    show z.natAbs * 1000000000 ≤ _
    have := Nat.mul_le_mul_right 1000000000 hz
    omega
  · refine near_txt (asc_cut hx _ _) ?_
    have := len_cut40 x
    omega
/-- one level of it, the levels below given -/
theorem ok_law_bent_step (dep : Nat) (F : Fun K "_law_bent" "_law_bent" s_law_bent f fd) (B : Bl mg) (Fd : Fnn P w K mg base CX0 1 "_law_draw" ["well", "many"] (sp_draw T)) (Fb : Fnn P w K mg base CX0 (dep + 2) "_law_bent" ["well", "value"] (fun vs H Q E => ∃ j, j < dep ∧ sp_bent T j vs H Q E)) : FnOk P w K mg base CX0 (dep + 3) f fd ["well", "value"] (sp_bent T dep) := by
  have nd := sc_law_bent.nd
  refine F.ok sc_law_bent (fun vs H Q E h => ?_) (fun cdv A outer s H vs Q E hr h => ?_)
  · obtain ⟨_, _, _, _, _, _, rfl, _⟩ := h
    rfl
  obtain ⟨a, l, k, v, d, n, rfl, hk, W, hv, hn, hl, hw, hd, ht, q⟩ := h
  have hu : (A.deeper (envOfC "_law_bent" (defScope s_law_bent) s.heap.objs.size f cdv)).units < cLine := by
    have := hr.un
    omega
  refine ⟨_, (pss_cons (ps_if (PW.pt (pw_and (pt_val (pe_isi_tuple B (pv 1))) (pw_and (pt_cmpR (op_neNil hu) (pv 1) (pe_tup pa_nil) (nomark _)) (pw_and1 (pt_cmpR op_gt (pe_fn Fd hr (by omega) pass0 (pa_cons (pv 0) (pa_cons pe_int pa_nil))) pe_int (nomark _)))))) (pss_cons (ps_set (i := 2) nd rfl (Or.inl rfl) (pe_fn Fd hr (by omega) pass0 (pa_cons (pv 0) (pa_cons (pe_lenq B (pv 1)) pa_nil))))
    (pss_one (ps_ret (pe_op op_catA (pe_op op_catA (pe_slice sl_tupA (pv 1) po_none (po_some (pv 2))) (pe_tup (pa_cons (pe_fn Fb hr (Nat.le_refl _) pass0 (pa_cons (pv 0) (pa_cons (pe_ix ix_tup (pv 1) (pv 2) (fun _ _ => rfl)) pa_nil))) pa_nil))) (pe_slice sl_tupA (pv 1) (po_some (pe_op op_add (pv 2) pe_int)) po_none))))) pss_nil)
    (pss_cons (ps_if (PW.pt (pw_and (pt_val (pe_isi_tuple B (pv 1))) (pw_and1 (pt_cmpR op_gt (pe_fn Fd hr (by omega) pass0 (pa_cons (pv 0) (pa_cons pe_int pa_nil))) pe_int (nomark _))))) (pss_cons (ps_set (i := 2) nd rfl (Or.inl rfl) (pe_fn Fd hr (by omega) pass0 (pa_cons (pv 0) (pa_cons (pe_op op_add (pe_lenq B (pv 1)) pe_int) pa_nil))))
    (pss_cons (ps_set (i := 3) nd rfl (Or.inl rfl) (pe_lst (pa_cons (pe_op op_catA (pe_slice sl_tupA (pv 1) po_none (po_some (pv 2))) (pe_slice sl_tupA (pv 1) (po_some (pe_op op_add (pv 2) pe_int)) po_none)) (pa_cons (pe_op op_catA (pe_op op_catA (pe_slice sl_tupA (pv 1) po_none (po_some (pv 2))) (pe_slice sl_tupA (pv 1) (po_some (pv 2)) (po_some (pe_op op_add (pv 2) pe_int)))) (pe_slice sl_tupA (pv 1) (po_some (pv 2)) po_none)) (pa_cons (pe_op op_catA (pe_slice sl_tupA (pv 1) (po_some (pv 2)) po_none) (pe_slice sl_tupA (pv 1) po_none (po_some (pv 2)))) pa_nil)))))
    (pss_one (ps_ret (pe_ix ix_list (pe_op op_cat (pv 3) (pe_lst (pa_cons (pe_toList B (pv 1)) (pa_cons (pe_op op_times (pv 1) pe_int) (pa_cons (pe_op op_times (pv 1) pe_int) pa_nil))))) (pe_fn Fd hr (by omega) pass0 (pa_cons (pv 0) (pa_cons pe_int pa_nil))) (fun _ _ => rfl)))))) pss_nil)
    (pss_cons (ps_if (PW.pt (pw_and (pt_val (pe_isi_str B (pv 1))) (pw_and1 (pt_cmpR op_gt (pe_fn Fd hr (by omega) pass0 (pa_cons (pv 0) (pa_cons pe_int pa_nil))) pe_int (nomark _))))) (pss_cons (ps_set (i := 4) nd rfl (Or.inl rfl) pe_str)
    (pss_cons (ps_par (i := 2) (j := 5) rfl nd rfl rfl (by decide) rfl rfl (pa_cons (pe_fn Fd hr (by omega) pass0 (pa_cons (pv 0) (pa_cons (pe_op op_add (pe_lens B (pv 1)) pe_int) pa_nil))) (pa_cons (pe_ix ix_str (pv 4) (pe_fn Fd hr (by omega) pass0 (pa_cons (pv 0) (pa_cons (pe_lens B (pv 4)) pa_nil))) (fun _ _ => rfl)) pa_nil)) rfl)
    (pss_cons (ps_set (i := 3) nd rfl (Or.inl rfl) (pe_lst (pa_cons (pe_op op_add_str (pe_op op_add_str (pe_slice sl_str (pv 1) po_none (po_some (pv 2))) (pv 5)) (pe_slice sl_str (pv 1) (po_some (pv 2)) po_none)) (pa_cons (pe_op op_add_str (pe_op op_add_str (pe_slice sl_str (pv 1) po_none (po_some (pv 2))) (pv 5)) (pe_slice sl_str (pv 1) (po_some (pe_op op_add (pv 2) pe_int)) po_none)) (pa_cons (pe_op op_add_str (pv 1) (pv 5)) (pa_cons (pe_lower (pv 1)) pa_nil))))))
    (pss_one (ps_ret (pe_ix ix_list (pe_op op_cat (pv 3) (pe_lst (pa_cons (pe_upper (pv 1)) (pa_cons (pe_slice sl_str (pv 1) (po_some pe_int) po_none) (pa_cons (pe_slice sl_str (pv 1) po_none (po_some (pe_un un_neg pe_int))) (pa_cons (pe_slice sl_str (pv 1) po_none (po_some pe_int)) pa_nil)))))) (pe_fn Fd hr (by omega) pass0 (pa_cons (pv 0) (pa_cons pe_int pa_nil))) (fun _ _ => rfl))))))) pss_nil)
    (pss_cons (ps_if (PW.pt (pw_and (pt_val (pe_isi_int B (pv 1))) (pw_and1 (pt_cmpR op_gt (pe_fn Fd hr (by omega) pass0 (pa_cons (pv 0) (pa_cons pe_int pa_nil))) pe_int (nomark _))))) (pss_one (ps_ret (pe_ix ix_list (pe_lst (pa_cons (pe_op op_addB (pv 1) pe_int) (pa_cons (pe_op op_subB (pv 1) pe_int) (pa_cons (pe_un un_negB (pv 1)) (pa_cons (pe_op op_mulB (pv 1) (pe_op op_pow pe_int pe_int)) (pa_cons (pe_slice sl_str (pe_strN B (pv 1)) po_none (po_some pe_int)) pa_nil)))))) (pe_fn Fd hr (by omega) pass0 (pa_cons (pv 0) (pa_cons pe_int pa_nil))) (fun _ _ => rfl)))) pss_nil)
    (pss_cons (ps_set (i := 6) nd rfl (Or.inl rfl) (pe_lst (pa_cons pe_str (pa_cons pe_str (pa_cons pe_str (pa_cons pe_str (pa_cons pe_str (pa_cons pe_str (pa_cons pe_str (pa_cons pe_str (pa_cons pe_str (pa_cons pe_str (pa_cons pe_str (pa_cons pe_str (pa_cons pe_str (pa_cons pe_str pa_nil))))))))))))))))
    (pss_cons (ps_set (i := 6) nd rfl (Or.inl rfl) (pe_op op_cat (pv 6) (pe_lst (pa_cons pe_str (pa_cons pe_str (pa_cons pe_str (pa_cons pe_int (pa_cons pe_int (pa_cons (pe_un un_neg pe_int) (pa_cons pe_int (pa_cons pe_bl (pa_cons pe_bl (pa_cons pe_non (pa_cons (pe_tup pa_nil) (pa_cons (pe_lst pa_nil) (pa_cons pe_dnewK (pa_cons (pe_tup (pa_cons pe_str pa_nil)) (pa_cons (pe_tup (pa_cons pe_str (pa_cons (pe_tup pa_nil) pa_nil))) pa_nil))))))))))))))))))
    (pss_cons (ps_set (i := 6) nd rfl (Or.inl rfl) (pe_op op_cat (pv 6) (pe_lst (pa_cons (pe_tup (pa_cons (pv 1) pa_nil)) (pa_cons (pe_lst (pa_cons (pv 1) pa_nil)) (pa_cons (pe_tup (pa_cons (pv 1) (pa_cons (pv 1) pa_nil))) (pa_cons (pe_tup (pa_cons pe_str (pa_cons (pe_tup (pa_cons pe_int (pa_cons pe_int pa_nil))) pa_nil))) (pa_cons (pe_op op_pow pe_int pe_int) (pa_cons (pe_tup (pa_cons pe_int (pa_cons pe_int pa_nil))) (pa_cons (pe_tup (pa_cons pe_str (pa_cons (pe_tup pa_nil) pa_nil))) pa_nil))))))))))
    (pss_one (ps_ret (pe_ix ix_list (pv 6) (pe_fn Fd hr (by omega) pass0 (pa_cons (pv 0) (pa_cons (pe_lenq B (pv 6)) pa_nil))) (fun _ _ => rfl))))))))))), ?_⟩
  have nn : ∀ b : Addr, b ∉ ([] : List Addr) := fun b => List.not_mem_nil
  have up : ∀ {p : Addr} {H' : Hp} {k' : Int}, WellAt a l H' k' → H' p = none → p ∉ [a, l] := fun w h => nin (w.ne h)
  refine ⟨_, rfl, _, _, _, rfl, hv, ?_⟩
  cases d with
  | none =>
    refine ⟨_, rfl, iteF (iteF ?_)⟩
    refine ⟨_, rfl, _, _, _, rfl, hv, _, rfl, iteF (iteF ?_)⟩
    refine ⟨_, rfl, _, _, _, rfl, hv, _, rfl, iteF (iteF ?_)⟩
    refine ⟨_, rfl, _, _, _, rfl, hv, _, rfl, iteF (iteF ?_)⟩
    have w0 := W
    have c0 := Go.refl (T := T) (M := []) (H := H)
    refine ⟨by show 14 ≤ sizeLine; decide, fun o1 ho1 => ?_⟩
    have go1 := Go.new (T := T) (M := []) (o := .lst (([("" : Str), "number", "Number", "fun", "kind", "a", "A", "a1", "A1", "1A", "A_", "A b", "Abcdefghij", "abcdefghij"]).map V.str)) ho1
    have no1 := up w0 ho1
    have w1 := w0.go go1
    have c1 := c0.trans go1
    refine ⟨_, rfl, _, rfl, by show 0 ≤ sizeLine; omega, fun e1 he1 => ⟨by show 0 ≤ sizeLine; omega, fun e2 he2 => fun e3 he3 => ⟨by show 1 ≤ sizeLine; decide, fun e4 he4 => ⟨by show 0 ≤ sizeLine; omega, fun e5 he5 => ⟨by show 2 ≤ sizeLine; decide, fun e6 he6 => ⟨by show 15 ≤ sizeLine; decide, fun o2 ho2 => ?_⟩⟩⟩⟩⟩⟩
    have ge1 := Go.new (T := T) (M := []) (o := .tup []) he1
    have ne1 := up w1 he1
    have w2 := w1.go ge1
    have c2 := c1.trans ge1
    have ge2 := Go.new (T := T) (M := []) (o := .lst []) he2
    have ne2 := up w2 he2
    have w3 := w2.go ge2
    have c3 := c2.trans ge2
    have ge3 := Go.new (T := T) (M := []) (o := .dK []) he3
    have ne3 := up w3 he3
    have w4 := w3.go ge3
    have c4 := c3.trans ge3
    have ge4 := Go.new (T := T) (M := []) (o := .tup [.str "A"]) he4
    have ne4 := up w4 he4
    have w5 := w4.go ge4
    have c5 := c4.trans ge4
    have ge5 := Go.new (T := T) (M := []) (o := .tup []) he5
    have ne5 := up w5 he5
    have w6 := w5.go ge5
    have c6 := c5.trans ge5
    have ge6 := Go.new (T := T) (M := []) (o := .tup [.str "A", .ref e5]) he6
    have ne6 := up w6 he6
    have w7 := w6.go ge6
    have c7 := c6.trans ge6
    have go2 := Go.new (T := T) (M := []) (o := .lst [.str "Abcdefghijk", .str "abcdefghijk", .str "A\n", .int 0, .int 1, .int (-1), .int 2, .bl true, .bl false, .non, .ref e1, .ref e2, .ref e3, .ref e4, .ref e6]) ho2
    have no2 := up w7 ho2
    have w8 := w7.go go2
    have c8 := c7.trans go2
    have po1 := (((((((ge1.trans ge2).trans ge3).trans ge4).trans ge5).trans ge6).trans go2)).lst upd_same (nn _)
    have pe1 := ((((((ge2.trans ge3).trans ge4).trans ge5).trans ge6).trans go2)).tup upd_same (nn _)
    have pe2 := (((((ge3.trans ge4).trans ge5).trans ge6).trans go2)).lst upd_same (nn _)
    have pe3 := ((((ge4.trans ge5).trans ge6).trans go2)).gr _ _ (upd_same (a := e3) (o := .dK [])) (nn _) (fun _ z => by cases z)
    have pe4 := (((ge5.trans ge6).trans go2)).tup upd_same (nn _)
    have pe5 := ((ge6.trans go2)).tup upd_same (nn _)
    have pe6 := (go2).tup upd_same (nn _)
    refine ⟨o1, o2, (([("" : Str), "number", "Number", "fun", "kind", "a", "A", "a1", "A1", "1A", "A_", "A b", "Abcdefghij", "abcdefghij"]).map V.str), [V.str "Abcdefghijk", .str "abcdefghijk", .str "A\n", .int 0, .int 1, .int (-1), .int 2, .bl true, .bl false, .non, .ref e1, .ref e2, .ref e3, .ref e4, .ref e6], rfl, rfl, po1, upd_same, by show 29 ≤ sizeLine; decide, fun o3 ho3 => ?_⟩
    have go3 := Go.new (T := T) (M := []) (o := .lst ((([("" : Str), "number", "Number", "fun", "kind", "a", "A", "a1", "A1", "1A", "A_", "A b", "Abcdefghij", "abcdefghij"]).map V.str) ++ [V.str "Abcdefghijk", .str "abcdefghijk", .str "A\n", .int 0, .int 1, .int (-1), .int 2, .bl true, .bl false, .non, .ref e1, .ref e2, .ref e3, .ref e4, .ref e6])) ho3
    have no3 := up w8 ho3
    have w9 := w8.go go3
    have c9 := c8.trans go3
    refine ⟨_, rfl, _, rfl, by show 1 ≤ sizeLine; decide, fun f1 hf1 => ⟨_, rfl, by show 1 ≤ sizeLine; decide, fun f2 hf2 => ⟨_, rfl, _, rfl, by show 2 ≤ sizeLine; decide, fun f3 hf3 => ⟨by show 2 ≤ sizeLine; decide, fun f4 hf4 => ⟨by show 2 ≤ sizeLine; decide, fun f5 hf5 => ⟨_, _, rfl, rfl, ⟨by decide, by decide, by decide⟩, by show 2 ≤ sizeLine; decide, fun f6 hf6 => ⟨by show 0 ≤ sizeLine; omega, fun f7 hf7 => ⟨by show 2 ≤ sizeLine; decide, fun f8 hf8 => ⟨by show 7 ≤ sizeLine; decide, fun o4 ho4 => ?_⟩⟩⟩⟩⟩⟩⟩⟩⟩
    have gf1 := Go.new (T := T) (M := []) (o := .tup [v]) hf1
    have nf1 := up w9 hf1
    have w10 := w9.go gf1
    have c10 := c9.trans gf1
    have gf2 := Go.new (T := T) (M := []) (o := .lst [v]) hf2
    have nf2 := up w10 hf2
    have w11 := w10.go gf2
    have c11 := c10.trans gf2
    have gf3 := Go.new (T := T) (M := []) (o := .tup [v, v]) hf3
    have nf3 := up w11 hf3
    have w12 := w11.go gf3
    have c12 := c11.trans gf3
    have gf4 := Go.new (T := T) (M := []) (o := .tup [.int 1, .int 1]) hf4
    have nf4 := up w12 hf4
    have w13 := w12.go gf4
    have c13 := c12.trans gf4
    have gf5 := Go.new (T := T) (M := []) (o := .tup [.str "num", .ref f4]) hf5
    have nf5 := up w13 hf5
    have w14 := w13.go gf5
    have c14 := c13.trans gf5
    have gf6 := Go.new (T := T) (M := []) (o := .tup [.int 0, .int 1]) hf6
    have nf6 := up w14 hf6
    have w15 := w14.go gf6
    have c15 := c14.trans gf6
    have gf7 := Go.new (T := T) (M := []) (o := .tup []) hf7
    have nf7 := up w15 hf7
    have w16 := w15.go gf7
    have c16 := c15.trans gf7
    have gf8 := Go.new (T := T) (M := []) (o := .tup [.str "Fun", .ref f7]) hf8
    have nf8 := up w16 hf8
    have w17 := w16.go gf8
    have c17 := c16.trans gf8
    have go4 := Go.new (T := T) (M := []) (o := .lst [V.ref f1, .ref f2, .ref f3, .ref f5, .int (10 ^ 30), .ref f6, .ref f8]) ho4
    have no4 := up w17 ho4
    have w18 := w17.go go4
    have c18 := c17.trans go4
    have po3 := (((((((((gf1.trans gf2).trans gf3).trans gf4).trans gf5).trans gf6).trans gf7).trans gf8).trans go4)).lst upd_same (nn _)
    have pf1 := ((((((((gf2.trans gf3).trans gf4).trans gf5).trans gf6).trans gf7).trans gf8).trans go4)).tup upd_same (nn _)
    have pf2 := (((((((gf3.trans gf4).trans gf5).trans gf6).trans gf7).trans gf8).trans go4)).lst upd_same (nn _)
    have pf3 := ((((((gf4.trans gf5).trans gf6).trans gf7).trans gf8).trans go4)).tup upd_same (nn _)
    have pf4 := (((((gf5.trans gf6).trans gf7).trans gf8).trans go4)).tup upd_same (nn _)
    have pf5 := ((((gf6.trans gf7).trans gf8).trans go4)).tup upd_same (nn _)
    have pf6 := (((gf7.trans gf8).trans go4)).tup upd_same (nn _)
    have pf7 := ((gf8.trans go4)).tup upd_same (nn _)
    have pf8 := (go4).tup upd_same (nn _)
    refine ⟨o3, o4, ((([("" : Str), "number", "Number", "fun", "kind", "a", "A", "a1", "A1", "1A", "A_", "A b", "Abcdefghij", "abcdefghij"]).map V.str) ++ [V.str "Abcdefghijk", .str "abcdefghijk", .str "A\n", .int 0, .int 1, .int (-1), .int 2, .bl true, .bl false, .non, .ref e1, .ref e2, .ref e3, .ref e4, .ref e6]), [V.ref f1, .ref f2, .ref f3, .ref f5, .int (10 ^ 30), .ref f6, .ref f8], rfl, rfl, po3, upd_same, by show 36 ≤ sizeLine; decide, fun o5 ho5 => ?_⟩
    have go5 := Go.new (T := T) (M := []) (o := .lst (((([("" : Str), "number", "Number", "fun", "kind", "a", "A", "a1", "A1", "1A", "A_", "A b", "Abcdefghij", "abcdefghij"]).map V.str) ++ [V.str "Abcdefghijk", .str "abcdefghijk", .str "A\n", .int 0, .int 1, .int (-1), .int 2, .bl true, .bl false, .non, .ref e1, .ref e2, .ref e3, .ref e4, .ref e6]) ++ [V.ref f1, .ref f2, .ref f3, .ref f5, .int (10 ^ 30), .ref f6, .ref f8])) ho5
    have no5 := up w18 ho5
    have w19 := w18.go go5
    have c19 := c18.trans go5
    have re1 := (((((((((((go3.trans gf1).trans gf2).trans gf3).trans gf4).trans gf5).trans gf6).trans gf7).trans gf8).trans go4).trans go5)).tup pe1 (nn _)
    have re4 := (((((((((((go3.trans gf1).trans gf2).trans gf3).trans gf4).trans gf5).trans gf6).trans gf7).trans gf8).trans go4).trans go5)).tup pe4 (nn _)
    have re5 := (((((((((((go3.trans gf1).trans gf2).trans gf3).trans gf4).trans gf5).trans gf6).trans gf7).trans gf8).trans go4).trans go5)).tup pe5 (nn _)
    have re6 := (((((((((((go3.trans gf1).trans gf2).trans gf3).trans gf4).trans gf5).trans gf6).trans gf7).trans gf8).trans go4).trans go5)).tup pe6 (nn _)
    have re2 := (((((((((((go3.trans gf1).trans gf2).trans gf3).trans gf4).trans gf5).trans gf6).trans gf7).trans gf8).trans go4).trans go5)).lst pe2 (nn _)
    have re3 := (((((((((((go3.trans gf1).trans gf2).trans gf3).trans gf4).trans gf5).trans gf6).trans gf7).trans gf8).trans go4).trans go5)).gr _ _ pe3 (nn _) (fun _ z => by cases z)
    have rf1 := go5.tup pf1 (nn _)
    have rf3 := go5.tup pf3 (nn _)
    have rf4 := go5.tup pf4 (nn _)
    have rf5 := go5.tup pf5 (nn _)
    have rf6 := go5.tup pf6 (nn _)
    have rf7 := go5.tup pf7 (nn _)
    have rf2 := go5.lst pf2 (nn _)
    have rf8 := go5.tup pf8 (nn _)
    have vz := hv.go (((Go.refl (T := T) (M := [a, l]) (H := H))).trans c19.of0)
    have dz : DvAll [a, l] _ _ (oddD _) := DvAll.append (DvAll.append (DvAll.strs _) (.cons (.str _) (.cons (.str _) (.cons (.str _) (.cons (.int _) (.cons (.int _) (.cons (.int _) (.cons (.int _) (.cons (.bl _) (.cons (.bl _) (.cons .non (.cons (.tup re1 ne1 .nil) (.cons (.lst re2 ne2 .nil) (.cons (.dct re3 ne3) (.cons (.tup re4 ne4 (.cons (.str _) .nil)) (.cons (.tup re6 ne6 (.cons (.str _) (.cons (.tup re5 ne5 .nil) .nil))) .nil))))))))))))))))
      (.cons (.tup rf1 nf1 (.cons vz .nil)) (.cons (.lst rf2 nf2 (.cons vz .nil)) (.cons (.tup rf3 nf3 (.cons vz (.cons vz .nil))) (.cons (.tup rf5 nf5 (.cons (.str _) (.cons (.tup rf4 nf4 (.cons (.int _) (.cons (.int _) .nil))) .nil))) (.cons (.int _) (.cons (.tup rf6 nf6 (.cons (.int _) (.cons (.int _) .nil))) (.cons (.tup rf8 nf8 (.cons (.str _) (.cons (.tup rf7 nf7 .nil) .nil))) .nil)))))))
    refine ⟨_, rfl, _, rfl, _, rfl, o5, _, rfl, .inl (SqL.of upd_same), a, l, k, _, rfl, (show (0 : Int) < 36 by decide), (show (36 : Int) < 1073741824 by decide), by omega, w19, c19.tb (((Go.refl (T := T) (M := [a, l]) (H := H))).tb ht), fun iz Hz z0 z1 Wz gz tz => ?_⟩
    obtain ⟨vv, dd, ez, mz, hz⟩ := at_dv dz z0 z1
    exact ⟨o5, _, iz, vv, rfl, rfl, SqL.of (gz.lst upd_same no5), ez, q vv dd Hz (hz.go gz) (oddD_near hn mz) (Wz.up (by omega)) ((((Go.refl (T := T) (M := [a, l]) (H := H))).trans c19.of0).trans gz) tz⟩
  | list ls =>
    refine ⟨_, rfl, iteF (iteF ?_)⟩
    refine ⟨_, rfl, _, _, _, rfl, hv, _, rfl, iteF (iteF ?_)⟩
    refine ⟨_, rfl, _, _, _, rfl, hv, _, rfl, iteF (iteF ?_)⟩
    refine ⟨_, rfl, _, _, _, rfl, hv, _, rfl, iteF (iteF ?_)⟩
    have w0 := W
    have c0 := Go.refl (T := T) (M := []) (H := H)
    refine ⟨by show 14 ≤ sizeLine; decide, fun o1 ho1 => ?_⟩
    have go1 := Go.new (T := T) (M := []) (o := .lst (([("" : Str), "number", "Number", "fun", "kind", "a", "A", "a1", "A1", "1A", "A_", "A b", "Abcdefghij", "abcdefghij"]).map V.str)) ho1
    have no1 := up w0 ho1
    have w1 := w0.go go1
    have c1 := c0.trans go1
    refine ⟨_, rfl, _, rfl, by show 0 ≤ sizeLine; omega, fun e1 he1 => ⟨by show 0 ≤ sizeLine; omega, fun e2 he2 => fun e3 he3 => ⟨by show 1 ≤ sizeLine; decide, fun e4 he4 => ⟨by show 0 ≤ sizeLine; omega, fun e5 he5 => ⟨by show 2 ≤ sizeLine; decide, fun e6 he6 => ⟨by show 15 ≤ sizeLine; decide, fun o2 ho2 => ?_⟩⟩⟩⟩⟩⟩
    have ge1 := Go.new (T := T) (M := []) (o := .tup []) he1
    have ne1 := up w1 he1
    have w2 := w1.go ge1
    have c2 := c1.trans ge1
    have ge2 := Go.new (T := T) (M := []) (o := .lst []) he2
    have ne2 := up w2 he2
    have w3 := w2.go ge2
    have c3 := c2.trans ge2
    have ge3 := Go.new (T := T) (M := []) (o := .dK []) he3
    have ne3 := up w3 he3
    have w4 := w3.go ge3
    have c4 := c3.trans ge3
    have ge4 := Go.new (T := T) (M := []) (o := .tup [.str "A"]) he4
    have ne4 := up w4 he4
    have w5 := w4.go ge4
    have c5 := c4.trans ge4
    have ge5 := Go.new (T := T) (M := []) (o := .tup []) he5
    have ne5 := up w5 he5
    have w6 := w5.go ge5
    have c6 := c5.trans ge5
    have ge6 := Go.new (T := T) (M := []) (o := .tup [.str "A", .ref e5]) he6
    have ne6 := up w6 he6
    have w7 := w6.go ge6
    have c7 := c6.trans ge6
    have go2 := Go.new (T := T) (M := []) (o := .lst [.str "Abcdefghijk", .str "abcdefghijk", .str "A\n", .int 0, .int 1, .int (-1), .int 2, .bl true, .bl false, .non, .ref e1, .ref e2, .ref e3, .ref e4, .ref e6]) ho2
    have no2 := up w7 ho2
    have w8 := w7.go go2
    have c8 := c7.trans go2
    have po1 := (((((((ge1.trans ge2).trans ge3).trans ge4).trans ge5).trans ge6).trans go2)).lst upd_same (nn _)
    have pe1 := ((((((ge2.trans ge3).trans ge4).trans ge5).trans ge6).trans go2)).tup upd_same (nn _)
    have pe2 := (((((ge3.trans ge4).trans ge5).trans ge6).trans go2)).lst upd_same (nn _)
    have pe3 := ((((ge4.trans ge5).trans ge6).trans go2)).gr _ _ (upd_same (a := e3) (o := .dK [])) (nn _) (fun _ z => by cases z)
    have pe4 := (((ge5.trans ge6).trans go2)).tup upd_same (nn _)
    have pe5 := ((ge6.trans go2)).tup upd_same (nn _)
    have pe6 := (go2).tup upd_same (nn _)
    refine ⟨o1, o2, (([("" : Str), "number", "Number", "fun", "kind", "a", "A", "a1", "A1", "1A", "A_", "A b", "Abcdefghij", "abcdefghij"]).map V.str), [V.str "Abcdefghijk", .str "abcdefghijk", .str "A\n", .int 0, .int 1, .int (-1), .int 2, .bl true, .bl false, .non, .ref e1, .ref e2, .ref e3, .ref e4, .ref e6], rfl, rfl, po1, upd_same, by show 29 ≤ sizeLine; decide, fun o3 ho3 => ?_⟩
    have go3 := Go.new (T := T) (M := []) (o := .lst ((([("" : Str), "number", "Number", "fun", "kind", "a", "A", "a1", "A1", "1A", "A_", "A b", "Abcdefghij", "abcdefghij"]).map V.str) ++ [V.str "Abcdefghijk", .str "abcdefghijk", .str "A\n", .int 0, .int 1, .int (-1), .int 2, .bl true, .bl false, .non, .ref e1, .ref e2, .ref e3, .ref e4, .ref e6])) ho3
    have no3 := up w8 ho3
    have w9 := w8.go go3
    have c9 := c8.trans go3
    refine ⟨_, rfl, _, rfl, by show 1 ≤ sizeLine; decide, fun f1 hf1 => ⟨_, rfl, by show 1 ≤ sizeLine; decide, fun f2 hf2 => ⟨_, rfl, _, rfl, by show 2 ≤ sizeLine; decide, fun f3 hf3 => ⟨by show 2 ≤ sizeLine; decide, fun f4 hf4 => ⟨by show 2 ≤ sizeLine; decide, fun f5 hf5 => ⟨_, _, rfl, rfl, ⟨by decide, by decide, by decide⟩, by show 2 ≤ sizeLine; decide, fun f6 hf6 => ⟨by show 0 ≤ sizeLine; omega, fun f7 hf7 => ⟨by show 2 ≤ sizeLine; decide, fun f8 hf8 => ⟨by show 7 ≤ sizeLine; decide, fun o4 ho4 => ?_⟩⟩⟩⟩⟩⟩⟩⟩⟩
    have gf1 := Go.new (T := T) (M := []) (o := .tup [v]) hf1
    have nf1 := up w9 hf1
    have w10 := w9.go gf1
    have c10 := c9.trans gf1
    have gf2 := Go.new (T := T) (M := []) (o := .lst [v]) hf2
    have nf2 := up w10 hf2
    have w11 := w10.go gf2
    have c11 := c10.trans gf2
    have gf3 := Go.new (T := T) (M := []) (o := .tup [v, v]) hf3
    have nf3 := up w11 hf3
    have w12 := w11.go gf3
    have c12 := c11.trans gf3
    have gf4 := Go.new (T := T) (M := []) (o := .tup [.int 1, .int 1]) hf4
    have nf4 := up w12 hf4
    have w13 := w12.go gf4
    have c13 := c12.trans gf4
    have gf5 := Go.new (T := T) (M := []) (o := .tup [.str "num", .ref f4]) hf5
    have nf5 := up w13 hf5
    have w14 := w13.go gf5
    have c14 := c13.trans gf5
    have gf6 := Go.new (T := T) (M := []) (o := .tup [.int 0, .int 1]) hf6
    have nf6 := up w14 hf6
    have w15 := w14.go gf6
    have c15 := c14.trans gf6
    have gf7 := Go.new (T := T) (M := []) (o := .tup []) hf7
    have nf7 := up w15 hf7
    have w16 := w15.go gf7
    have c16 := c15.trans gf7
    have gf8 := Go.new (T := T) (M := []) (o := .tup [.str "Fun", .ref f7]) hf8
    have nf8 := up w16 hf8
    have w17 := w16.go gf8
    have c17 := c16.trans gf8
    have go4 := Go.new (T := T) (M := []) (o := .lst [V.ref f1, .ref f2, .ref f3, .ref f5, .int (10 ^ 30), .ref f6, .ref f8]) ho4
    have no4 := up w17 ho4
    have w18 := w17.go go4
    have c18 := c17.trans go4
    have po3 := (((((((((gf1.trans gf2).trans gf3).trans gf4).trans gf5).trans gf6).trans gf7).trans gf8).trans go4)).lst upd_same (nn _)
    have pf1 := ((((((((gf2.trans gf3).trans gf4).trans gf5).trans gf6).trans gf7).trans gf8).trans go4)).tup upd_same (nn _)
    have pf2 := (((((((gf3.trans gf4).trans gf5).trans gf6).trans gf7).trans gf8).trans go4)).lst upd_same (nn _)
    have pf3 := ((((((gf4.trans gf5).trans gf6).trans gf7).trans gf8).trans go4)).tup upd_same (nn _)
    have pf4 := (((((gf5.trans gf6).trans gf7).trans gf8).trans go4)).tup upd_same (nn _)
    have pf5 := ((((gf6.trans gf7).trans gf8).trans go4)).tup upd_same (nn _)
    have pf6 := (((gf7.trans gf8).trans go4)).tup upd_same (nn _)
    have pf7 := ((gf8.trans go4)).tup upd_same (nn _)
    have pf8 := (go4).tup upd_same (nn _)
    refine ⟨o3, o4, ((([("" : Str), "number", "Number", "fun", "kind", "a", "A", "a1", "A1", "1A", "A_", "A b", "Abcdefghij", "abcdefghij"]).map V.str) ++ [V.str "Abcdefghijk", .str "abcdefghijk", .str "A\n", .int 0, .int 1, .int (-1), .int 2, .bl true, .bl false, .non, .ref e1, .ref e2, .ref e3, .ref e4, .ref e6]), [V.ref f1, .ref f2, .ref f3, .ref f5, .int (10 ^ 30), .ref f6, .ref f8], rfl, rfl, po3, upd_same, by show 36 ≤ sizeLine; decide, fun o5 ho5 => ?_⟩
    have go5 := Go.new (T := T) (M := []) (o := .lst (((([("" : Str), "number", "Number", "fun", "kind", "a", "A", "a1", "A1", "1A", "A_", "A b", "Abcdefghij", "abcdefghij"]).map V.str) ++ [V.str "Abcdefghijk", .str "abcdefghijk", .str "A\n", .int 0, .int 1, .int (-1), .int 2, .bl true, .bl false, .non, .ref e1, .ref e2, .ref e3, .ref e4, .ref e6]) ++ [V.ref f1, .ref f2, .ref f3, .ref f5, .int (10 ^ 30), .ref f6, .ref f8])) ho5
    have no5 := up w18 ho5
    have w19 := w18.go go5
    have c19 := c18.trans go5
    have re1 := (((((((((((go3.trans gf1).trans gf2).trans gf3).trans gf4).trans gf5).trans gf6).trans gf7).trans gf8).trans go4).trans go5)).tup pe1 (nn _)
    have re4 := (((((((((((go3.trans gf1).trans gf2).trans gf3).trans gf4).trans gf5).trans gf6).trans gf7).trans gf8).trans go4).trans go5)).tup pe4 (nn _)
    have re5 := (((((((((((go3.trans gf1).trans gf2).trans gf3).trans gf4).trans gf5).trans gf6).trans gf7).trans gf8).trans go4).trans go5)).tup pe5 (nn _)
    have re6 := (((((((((((go3.trans gf1).trans gf2).trans gf3).trans gf4).trans gf5).trans gf6).trans gf7).trans gf8).trans go4).trans go5)).tup pe6 (nn _)
    have re2 := (((((((((((go3.trans gf1).trans gf2).trans gf3).trans gf4).trans gf5).trans gf6).trans gf7).trans gf8).trans go4).trans go5)).lst pe2 (nn _)
    have re3 := (((((((((((go3.trans gf1).trans gf2).trans gf3).trans gf4).trans gf5).trans gf6).trans gf7).trans gf8).trans go4).trans go5)).gr _ _ pe3 (nn _) (fun _ z => by cases z)
    have rf1 := go5.tup pf1 (nn _)
    have rf3 := go5.tup pf3 (nn _)
    have rf4 := go5.tup pf4 (nn _)
    have rf5 := go5.tup pf5 (nn _)
    have rf6 := go5.tup pf6 (nn _)
    have rf7 := go5.tup pf7 (nn _)
    have rf2 := go5.lst pf2 (nn _)
    have rf8 := go5.tup pf8 (nn _)
    have vz := hv.go (((Go.refl (T := T) (M := [a, l]) (H := H))).trans c19.of0)
    have dz : DvAll [a, l] _ _ (oddD _) := DvAll.append (DvAll.append (DvAll.strs _) (.cons (.str _) (.cons (.str _) (.cons (.str _) (.cons (.int _) (.cons (.int _) (.cons (.int _) (.cons (.int _) (.cons (.bl _) (.cons (.bl _) (.cons .non (.cons (.tup re1 ne1 .nil) (.cons (.lst re2 ne2 .nil) (.cons (.dct re3 ne3) (.cons (.tup re4 ne4 (.cons (.str _) .nil)) (.cons (.tup re6 ne6 (.cons (.str _) (.cons (.tup re5 ne5 .nil) .nil))) .nil))))))))))))))))
      (.cons (.tup rf1 nf1 (.cons vz .nil)) (.cons (.lst rf2 nf2 (.cons vz .nil)) (.cons (.tup rf3 nf3 (.cons vz (.cons vz .nil))) (.cons (.tup rf5 nf5 (.cons (.str _) (.cons (.tup rf4 nf4 (.cons (.int _) (.cons (.int _) .nil))) .nil))) (.cons (.int _) (.cons (.tup rf6 nf6 (.cons (.int _) (.cons (.int _) .nil))) (.cons (.tup rf8 nf8 (.cons (.str _) (.cons (.tup rf7 nf7 .nil) .nil))) .nil)))))))
    refine ⟨_, rfl, _, rfl, _, rfl, o5, _, rfl, .inl (SqL.of upd_same), a, l, k, _, rfl, (show (0 : Int) < 36 by decide), (show (36 : Int) < 1073741824 by decide), by omega, w19, c19.tb (((Go.refl (T := T) (M := [a, l]) (H := H))).tb ht), fun iz Hz z0 z1 Wz gz tz => ?_⟩
    obtain ⟨vv, dd, ez, mz, hz⟩ := at_dv dz z0 z1
    exact ⟨o5, _, iz, vv, rfl, rfl, SqL.of (gz.lst upd_same no5), ez, q vv dd Hz (hz.go gz) (oddD_near hn mz) (Wz.up (by omega)) ((((Go.refl (T := T) (M := [a, l]) (H := H))).trans c19.of0).trans gz) tz⟩
  | dict kv =>
    refine ⟨_, rfl, iteF (iteF ?_)⟩
    refine ⟨_, rfl, _, _, _, rfl, hv, _, rfl, iteF (iteF ?_)⟩
    refine ⟨_, rfl, _, _, _, rfl, hv, _, rfl, iteF (iteF ?_)⟩
    refine ⟨_, rfl, _, _, _, rfl, hv, _, rfl, iteF (iteF ?_)⟩
    have w0 := W
    have c0 := Go.refl (T := T) (M := []) (H := H)
    refine ⟨by show 14 ≤ sizeLine; decide, fun o1 ho1 => ?_⟩
    have go1 := Go.new (T := T) (M := []) (o := .lst (([("" : Str), "number", "Number", "fun", "kind", "a", "A", "a1", "A1", "1A", "A_", "A b", "Abcdefghij", "abcdefghij"]).map V.str)) ho1
    have no1 := up w0 ho1
    have w1 := w0.go go1
    have c1 := c0.trans go1
    refine ⟨_, rfl, _, rfl, by show 0 ≤ sizeLine; omega, fun e1 he1 => ⟨by show 0 ≤ sizeLine; omega, fun e2 he2 => fun e3 he3 => ⟨by show 1 ≤ sizeLine; decide, fun e4 he4 => ⟨by show 0 ≤ sizeLine; omega, fun e5 he5 => ⟨by show 2 ≤ sizeLine; decide, fun e6 he6 => ⟨by show 15 ≤ sizeLine; decide, fun o2 ho2 => ?_⟩⟩⟩⟩⟩⟩
    have ge1 := Go.new (T := T) (M := []) (o := .tup []) he1
    have ne1 := up w1 he1
    have w2 := w1.go ge1
    have c2 := c1.trans ge1
    have ge2 := Go.new (T := T) (M := []) (o := .lst []) he2
    have ne2 := up w2 he2
    have w3 := w2.go ge2
    have c3 := c2.trans ge2
    have ge3 := Go.new (T := T) (M := []) (o := .dK []) he3
    have ne3 := up w3 he3
    have w4 := w3.go ge3
    have c4 := c3.trans ge3
    have ge4 := Go.new (T := T) (M := []) (o := .tup [.str "A"]) he4
    have ne4 := up w4 he4
    have w5 := w4.go ge4
    have c5 := c4.trans ge4
    have ge5 := Go.new (T := T) (M := []) (o := .tup []) he5
    have ne5 := up w5 he5
    have w6 := w5.go ge5
    have c6 := c5.trans ge5
    have ge6 := Go.new (T := T) (M := []) (o := .tup [.str "A", .ref e5]) he6
    have ne6 := up w6 he6
    have w7 := w6.go ge6
    have c7 := c6.trans ge6
    have go2 := Go.new (T := T) (M := []) (o := .lst [.str "Abcdefghijk", .str "abcdefghijk", .str "A\n", .int 0, .int 1, .int (-1), .int 2, .bl true, .bl false, .non, .ref e1, .ref e2, .ref e3, .ref e4, .ref e6]) ho2
    have no2 := up w7 ho2
    have w8 := w7.go go2
    have c8 := c7.trans go2
    have po1 := (((((((ge1.trans ge2).trans ge3).trans ge4).trans ge5).trans ge6).trans go2)).lst upd_same (nn _)
    have pe1 := ((((((ge2.trans ge3).trans ge4).trans ge5).trans ge6).trans go2)).tup upd_same (nn _)
    have pe2 := (((((ge3.trans ge4).trans ge5).trans ge6).trans go2)).lst upd_same (nn _)
    have pe3 := ((((ge4.trans ge5).trans ge6).trans go2)).gr _ _ (upd_same (a := e3) (o := .dK [])) (nn _) (fun _ z => by cases z)
    have pe4 := (((ge5.trans ge6).trans go2)).tup upd_same (nn _)
    have pe5 := ((ge6.trans go2)).tup upd_same (nn _)
    have pe6 := (go2).tup upd_same (nn _)
    refine ⟨o1, o2, (([("" : Str), "number", "Number", "fun", "kind", "a", "A", "a1", "A1", "1A", "A_", "A b", "Abcdefghij", "abcdefghij"]).map V.str), [V.str "Abcdefghijk", .str "abcdefghijk", .str "A\n", .int 0, .int 1, .int (-1), .int 2, .bl true, .bl false, .non, .ref e1, .ref e2, .ref e3, .ref e4, .ref e6], rfl, rfl, po1, upd_same, by show 29 ≤ sizeLine; decide, fun o3 ho3 => ?_⟩
    have go3 := Go.new (T := T) (M := []) (o := .lst ((([("" : Str), "number", "Number", "fun", "kind", "a", "A", "a1", "A1", "1A", "A_", "A b", "Abcdefghij", "abcdefghij"]).map V.str) ++ [V.str "Abcdefghijk", .str "abcdefghijk", .str "A\n", .int 0, .int 1, .int (-1), .int 2, .bl true, .bl false, .non, .ref e1, .ref e2, .ref e3, .ref e4, .ref e6])) ho3
    have no3 := up w8 ho3
    have w9 := w8.go go3
    have c9 := c8.trans go3
    refine ⟨_, rfl, _, rfl, by show 1 ≤ sizeLine; decide, fun f1 hf1 => ⟨_, rfl, by show 1 ≤ sizeLine; decide, fun f2 hf2 => ⟨_, rfl, _, rfl, by show 2 ≤ sizeLine; decide, fun f3 hf3 => ⟨by show 2 ≤ sizeLine; decide, fun f4 hf4 => ⟨by show 2 ≤ sizeLine; decide, fun f5 hf5 => ⟨_, _, rfl, rfl, ⟨by decide, by decide, by decide⟩, by show 2 ≤ sizeLine; decide, fun f6 hf6 => ⟨by show 0 ≤ sizeLine; omega, fun f7 hf7 => ⟨by show 2 ≤ sizeLine; decide, fun f8 hf8 => ⟨by show 7 ≤ sizeLine; decide, fun o4 ho4 => ?_⟩⟩⟩⟩⟩⟩⟩⟩⟩
    have gf1 := Go.new (T := T) (M := []) (o := .tup [v]) hf1
    have nf1 := up w9 hf1
    have w10 := w9.go gf1
    have c10 := c9.trans gf1
    have gf2 := Go.new (T := T) (M := []) (o := .lst [v]) hf2
    have nf2 := up w10 hf2
    have w11 := w10.go gf2
    have c11 := c10.trans gf2
    have gf3 := Go.new (T := T) (M := []) (o := .tup [v, v]) hf3
    have nf3 := up w11 hf3
    have w12 := w11.go gf3
    have c12 := c11.trans gf3
    have gf4 := Go.new (T := T) (M := []) (o := .tup [.int 1, .int 1]) hf4
    have nf4 := up w12 hf4
    have w13 := w12.go gf4
    have c13 := c12.trans gf4
    have gf5 := Go.new (T := T) (M := []) (o := .tup [.str "num", .ref f4]) hf5
    have nf5 := up w13 hf5
    have w14 := w13.go gf5
    have c14 := c13.trans gf5
    have gf6 := Go.new (T := T) (M := []) (o := .tup [.int 0, .int 1]) hf6
    have nf6 := up w14 hf6
    have w15 := w14.go gf6
    have c15 := c14.trans gf6
    have gf7 := Go.new (T := T) (M := []) (o := .tup []) hf7
    have nf7 := up w15 hf7
    have w16 := w15.go gf7
    have c16 := c15.trans gf7
    have gf8 := Go.new (T := T) (M := []) (o := .tup [.str "Fun", .ref f7]) hf8
    have nf8 := up w16 hf8
    have w17 := w16.go gf8
    have c17 := c16.trans gf8
    have go4 := Go.new (T := T) (M := []) (o := .lst [V.ref f1, .ref f2, .ref f3, .ref f5, .int (10 ^ 30), .ref f6, .ref f8]) ho4
    have no4 := up w17 ho4
    have w18 := w17.go go4
    have c18 := c17.trans go4
    have po3 := (((((((((gf1.trans gf2).trans gf3).trans gf4).trans gf5).trans gf6).trans gf7).trans gf8).trans go4)).lst upd_same (nn _)
    have pf1 := ((((((((gf2.trans gf3).trans gf4).trans gf5).trans gf6).trans gf7).trans gf8).trans go4)).tup upd_same (nn _)
    have pf2 := (((((((gf3.trans gf4).trans gf5).trans gf6).trans gf7).trans gf8).trans go4)).lst upd_same (nn _)
    have pf3 := ((((((gf4.trans gf5).trans gf6).trans gf7).trans gf8).trans go4)).tup upd_same (nn _)
    have pf4 := (((((gf5.trans gf6).trans gf7).trans gf8).trans go4)).tup upd_same (nn _)
    have pf5 := ((((gf6.trans gf7).trans gf8).trans go4)).tup upd_same (nn _)
    have pf6 := (((gf7.trans gf8).trans go4)).tup upd_same (nn _)
    have pf7 := ((gf8.trans go4)).tup upd_same (nn _)
    have pf8 := (go4).tup upd_same (nn _)
    refine ⟨o3, o4, ((([("" : Str), "number", "Number", "fun", "kind", "a", "A", "a1", "A1", "1A", "A_", "A b", "Abcdefghij", "abcdefghij"]).map V.str) ++ [V.str "Abcdefghijk", .str "abcdefghijk", .str "A\n", .int 0, .int 1, .int (-1), .int 2, .bl true, .bl false, .non, .ref e1, .ref e2, .ref e3, .ref e4, .ref e6]), [V.ref f1, .ref f2, .ref f3, .ref f5, .int (10 ^ 30), .ref f6, .ref f8], rfl, rfl, po3, upd_same, by show 36 ≤ sizeLine; decide, fun o5 ho5 => ?_⟩
    have go5 := Go.new (T := T) (M := []) (o := .lst (((([("" : Str), "number", "Number", "fun", "kind", "a", "A", "a1", "A1", "1A", "A_", "A b", "Abcdefghij", "abcdefghij"]).map V.str) ++ [V.str "Abcdefghijk", .str "abcdefghijk", .str "A\n", .int 0, .int 1, .int (-1), .int 2, .bl true, .bl false, .non, .ref e1, .ref e2, .ref e3, .ref e4, .ref e6]) ++ [V.ref f1, .ref f2, .ref f3, .ref f5, .int (10 ^ 30), .ref f6, .ref f8])) ho5
    have no5 := up w18 ho5
    have w19 := w18.go go5
    have c19 := c18.trans go5
    have re1 := (((((((((((go3.trans gf1).trans gf2).trans gf3).trans gf4).trans gf5).trans gf6).trans gf7).trans gf8).trans go4).trans go5)).tup pe1 (nn _)
    have re4 := (((((((((((go3.trans gf1).trans gf2).trans gf3).trans gf4).trans gf5).trans gf6).trans gf7).trans gf8).trans go4).trans go5)).tup pe4 (nn _)
    have re5 := (((((((((((go3.trans gf1).trans gf2).trans gf3).trans gf4).trans gf5).trans gf6).trans gf7).trans gf8).trans go4).trans go5)).tup pe5 (nn _)
    have re6 := (((((((((((go3.trans gf1).trans gf2).trans gf3).trans gf4).trans gf5).trans gf6).trans gf7).trans gf8).trans go4).trans go5)).tup pe6 (nn _)
    have re2 := (((((((((((go3.trans gf1).trans gf2).trans gf3).trans gf4).trans gf5).trans gf6).trans gf7).trans gf8).trans go4).trans go5)).lst pe2 (nn _)
    have re3 := (((((((((((go3.trans gf1).trans gf2).trans gf3).trans gf4).trans gf5).trans gf6).trans gf7).trans gf8).trans go4).trans go5)).gr _ _ pe3 (nn _) (fun _ z => by cases z)
    have rf1 := go5.tup pf1 (nn _)
    have rf3 := go5.tup pf3 (nn _)
    have rf4 := go5.tup pf4 (nn _)
    have rf5 := go5.tup pf5 (nn _)
    have rf6 := go5.tup pf6 (nn _)
    have rf7 := go5.tup pf7 (nn _)
    have rf2 := go5.lst pf2 (nn _)
    have rf8 := go5.tup pf8 (nn _)
    have vz := hv.go (((Go.refl (T := T) (M := [a, l]) (H := H))).trans c19.of0)
    have dz : DvAll [a, l] _ _ (oddD _) := DvAll.append (DvAll.append (DvAll.strs _) (.cons (.str _) (.cons (.str _) (.cons (.str _) (.cons (.int _) (.cons (.int _) (.cons (.int _) (.cons (.int _) (.cons (.bl _) (.cons (.bl _) (.cons .non (.cons (.tup re1 ne1 .nil) (.cons (.lst re2 ne2 .nil) (.cons (.dct re3 ne3) (.cons (.tup re4 ne4 (.cons (.str _) .nil)) (.cons (.tup re6 ne6 (.cons (.str _) (.cons (.tup re5 ne5 .nil) .nil))) .nil))))))))))))))))
      (.cons (.tup rf1 nf1 (.cons vz .nil)) (.cons (.lst rf2 nf2 (.cons vz .nil)) (.cons (.tup rf3 nf3 (.cons vz (.cons vz .nil))) (.cons (.tup rf5 nf5 (.cons (.str _) (.cons (.tup rf4 nf4 (.cons (.int _) (.cons (.int _) .nil))) .nil))) (.cons (.int _) (.cons (.tup rf6 nf6 (.cons (.int _) (.cons (.int _) .nil))) (.cons (.tup rf8 nf8 (.cons (.str _) (.cons (.tup rf7 nf7 .nil) .nil))) .nil)))))))
    refine ⟨_, rfl, _, rfl, _, rfl, o5, _, rfl, .inl (SqL.of upd_same), a, l, k, _, rfl, (show (0 : Int) < 36 by decide), (show (36 : Int) < 1073741824 by decide), by omega, w19, c19.tb (((Go.refl (T := T) (M := [a, l]) (H := H))).tb ht), fun iz Hz z0 z1 Wz gz tz => ?_⟩
    obtain ⟨vv, dd, ez, mz, hz⟩ := at_dv dz z0 z1
    exact ⟨o5, _, iz, vv, rfl, rfl, SqL.of (gz.lst upd_same no5), ez, q vv dd Hz (hz.go gz) (oddD_near hn mz) (Wz.up (by omega)) ((((Go.refl (T := T) (M := [a, l]) (H := H))).trans c19.of0).trans gz) tz⟩
  | int z =>
    refine ⟨_, rfl, iteF (iteF ?_)⟩
    refine ⟨_, rfl, _, _, _, rfl, hv, _, rfl, iteF (iteF ?_)⟩
    refine ⟨_, rfl, _, _, _, rfl, hv, _, rfl, iteF (iteF ?_)⟩
    refine ⟨_, rfl, _, _, _, rfl, hv, _, rfl, iteT ?_⟩
    refine ⟨_, rfl, a, l, k, 2, rfl, by decide, by decide, by omega, W, ht, fun i1 H1 j0 j1 W1 g1 t1 => ⟨_, _, rfl, rfl, _, rfl, ?_⟩⟩
    by_cases c1 : (0 : Int) < i1
    · refine if_true_of (decide_eq_true c1) ?_
      cases hv
      refine ⟨_, rfl, z, 1, (.inl rfl), rfl, trivial, _, rfl, z, 1, (.inl rfl), rfl, trivial, _, rfl, z, (.inl rfl), _, rfl, _, _, rfl, rfl, ⟨by decide, by decide, by decide⟩, z, _, (.inl rfl), rfl, .inr ⟨by decide, by decide⟩, _, rfl, ?_⟩
      skip
      have hzn : z.natAbs ≤ n := by simpa only [nice, decide_eq_true_eq] using hn
      have hz20 : z.natAbs.log2 < 1920 := log_int hl (by omega)
      refine .inl ⟨z, rfl, hz20, _, rfl, _, rfl, Nat.le_trans (int_text_len_1921 hz20) (by rw [sizeLine_eq]; decide), by show 5 ≤ sizeLine; decide, fun o ho => ?_⟩
      have gO := Go.new (T := T) (M := []) (o := .lst [.int (z + 1), .int (z - 1), .int (-z), .int (z * (10 : Int) ^ (9 : Int).toNat), .str (cutS (Str.ofString (toString z)) none (some 40))]) ho
      have DZ : DvAll [a, l] (upd H1 o (.lst [.int (z + 1), .int (z - 1), .int (-z), .int (z * (10 : Int) ^ (9 : Int).toNat), .str (cutS (Str.ofString (toString z)) none (some 40))])) _ [PyData.int (z + 1), .int (z - 1), .int (-z), .int (z * (10 : Int) ^ (9 : Int).toNat), .str (cutS (Str.ofString (toString z)) none (some 40))] := .cons (.int _) (.cons (.int _) (.cons (.int _) (.cons (.int _) (.cons (.str _) .nil))))
      refine ⟨_, rfl, a, l, k + 1, 5, rfl, by decide, by decide, by omega, W1.go gO, gO.tb t1, fun iz Hz z0 z1 Wz gz tz => ?_⟩
      obtain ⟨vv, dd, ez, mz, hzz⟩ := at_dv DZ z0 z1
      exact ⟨o, _, iz, vv, rfl, rfl, SqL.of (gz.lst upd_same (up W1 ho)), ez, q vv dd Hz (hzz.go gz) (near_nums hl (by omega) (asc_int z) mz) (Wz.up (by omega)) ((g1.trans gO.of0).trans gz) tz⟩
    · refine if_false_of (decide_eq_false c1) ?_
      have w0 := W1
      have c0 := Go.refl (T := T) (M := []) (H := H1)
      refine ⟨by show 14 ≤ sizeLine; decide, fun o1 ho1 => ?_⟩
      have go1 := Go.new (T := T) (M := []) (o := .lst (([("" : Str), "number", "Number", "fun", "kind", "a", "A", "a1", "A1", "1A", "A_", "A b", "Abcdefghij", "abcdefghij"]).map V.str)) ho1
      have no1 := up w0 ho1
      have w1 := w0.go go1
      have c1 := c0.trans go1
      refine ⟨_, rfl, _, rfl, by show 0 ≤ sizeLine; omega, fun e1 he1 => ⟨by show 0 ≤ sizeLine; omega, fun e2 he2 => fun e3 he3 => ⟨by show 1 ≤ sizeLine; decide, fun e4 he4 => ⟨by show 0 ≤ sizeLine; omega, fun e5 he5 => ⟨by show 2 ≤ sizeLine; decide, fun e6 he6 => ⟨by show 15 ≤ sizeLine; decide, fun o2 ho2 => ?_⟩⟩⟩⟩⟩⟩
      have ge1 := Go.new (T := T) (M := []) (o := .tup []) he1
      have ne1 := up w1 he1
      have w2 := w1.go ge1
      have c2 := c1.trans ge1
      have ge2 := Go.new (T := T) (M := []) (o := .lst []) he2
      have ne2 := up w2 he2
      have w3 := w2.go ge2
      have c3 := c2.trans ge2
      have ge3 := Go.new (T := T) (M := []) (o := .dK []) he3
      have ne3 := up w3 he3
      have w4 := w3.go ge3
      have c4 := c3.trans ge3
      have ge4 := Go.new (T := T) (M := []) (o := .tup [.str "A"]) he4
      have ne4 := up w4 he4
      have w5 := w4.go ge4
      have c5 := c4.trans ge4
      have ge5 := Go.new (T := T) (M := []) (o := .tup []) he5
      have ne5 := up w5 he5
      have w6 := w5.go ge5
      have c6 := c5.trans ge5
      have ge6 := Go.new (T := T) (M := []) (o := .tup [.str "A", .ref e5]) he6
      have ne6 := up w6 he6
      have w7 := w6.go ge6
      have c7 := c6.trans ge6
      have go2 := Go.new (T := T) (M := []) (o := .lst [.str "Abcdefghijk", .str "abcdefghijk", .str "A\n", .int 0, .int 1, .int (-1), .int 2, .bl true, .bl false, .non, .ref e1, .ref e2, .ref e3, .ref e4, .ref e6]) ho2
      have no2 := up w7 ho2
      have w8 := w7.go go2
      have c8 := c7.trans go2
      have po1 := (((((((ge1.trans ge2).trans ge3).trans ge4).trans ge5).trans ge6).trans go2)).lst upd_same (nn _)
      have pe1 := ((((((ge2.trans ge3).trans ge4).trans ge5).trans ge6).trans go2)).tup upd_same (nn _)
      have pe2 := (((((ge3.trans ge4).trans ge5).trans ge6).trans go2)).lst upd_same (nn _)
      have pe3 := ((((ge4.trans ge5).trans ge6).trans go2)).gr _ _ (upd_same (a := e3) (o := .dK [])) (nn _) (fun _ z => by cases z)
      have pe4 := (((ge5.trans ge6).trans go2)).tup upd_same (nn _)
      have pe5 := ((ge6.trans go2)).tup upd_same (nn _)
      have pe6 := (go2).tup upd_same (nn _)
      refine ⟨o1, o2, (([("" : Str), "number", "Number", "fun", "kind", "a", "A", "a1", "A1", "1A", "A_", "A b", "Abcdefghij", "abcdefghij"]).map V.str), [V.str "Abcdefghijk", .str "abcdefghijk", .str "A\n", .int 0, .int 1, .int (-1), .int 2, .bl true, .bl false, .non, .ref e1, .ref e2, .ref e3, .ref e4, .ref e6], rfl, rfl, po1, upd_same, by show 29 ≤ sizeLine; decide, fun o3 ho3 => ?_⟩
      have go3 := Go.new (T := T) (M := []) (o := .lst ((([("" : Str), "number", "Number", "fun", "kind", "a", "A", "a1", "A1", "1A", "A_", "A b", "Abcdefghij", "abcdefghij"]).map V.str) ++ [V.str "Abcdefghijk", .str "abcdefghijk", .str "A\n", .int 0, .int 1, .int (-1), .int 2, .bl true, .bl false, .non, .ref e1, .ref e2, .ref e3, .ref e4, .ref e6])) ho3
      have no3 := up w8 ho3
      have w9 := w8.go go3
      have c9 := c8.trans go3
      refine ⟨_, rfl, _, rfl, by show 1 ≤ sizeLine; decide, fun f1 hf1 => ⟨_, rfl, by show 1 ≤ sizeLine; decide, fun f2 hf2 => ⟨_, rfl, _, rfl, by show 2 ≤ sizeLine; decide, fun f3 hf3 => ⟨by show 2 ≤ sizeLine; decide, fun f4 hf4 => ⟨by show 2 ≤ sizeLine; decide, fun f5 hf5 => ⟨_, _, rfl, rfl, ⟨by decide, by decide, by decide⟩, by show 2 ≤ sizeLine; decide, fun f6 hf6 => ⟨by show 0 ≤ sizeLine; omega, fun f7 hf7 => ⟨by show 2 ≤ sizeLine; decide, fun f8 hf8 => ⟨by show 7 ≤ sizeLine; decide, fun o4 ho4 => ?_⟩⟩⟩⟩⟩⟩⟩⟩⟩
      have gf1 := Go.new (T := T) (M := []) (o := .tup [v]) hf1
      have nf1 := up w9 hf1
      have w10 := w9.go gf1
      have c10 := c9.trans gf1
      have gf2 := Go.new (T := T) (M := []) (o := .lst [v]) hf2
      have nf2 := up w10 hf2
      have w11 := w10.go gf2
      have c11 := c10.trans gf2
      have gf3 := Go.new (T := T) (M := []) (o := .tup [v, v]) hf3
      have nf3 := up w11 hf3
      have w12 := w11.go gf3
      have c12 := c11.trans gf3
      have gf4 := Go.new (T := T) (M := []) (o := .tup [.int 1, .int 1]) hf4
      have nf4 := up w12 hf4
      have w13 := w12.go gf4
      have c13 := c12.trans gf4
      have gf5 := Go.new (T := T) (M := []) (o := .tup [.str "num", .ref f4]) hf5
      have nf5 := up w13 hf5
      have w14 := w13.go gf5
      have c14 := c13.trans gf5
      have gf6 := Go.new (T := T) (M := []) (o := .tup [.int 0, .int 1]) hf6
      have nf6 := up w14 hf6
      have w15 := w14.go gf6
      have c15 := c14.trans gf6
      have gf7 := Go.new (T := T) (M := []) (o := .tup []) hf7
      have nf7 := up w15 hf7
      have w16 := w15.go gf7
      have c16 := c15.trans gf7
      have gf8 := Go.new (T := T) (M := []) (o := .tup [.str "Fun", .ref f7]) hf8
      have nf8 := up w16 hf8
      have w17 := w16.go gf8
      have c17 := c16.trans gf8
      have go4 := Go.new (T := T) (M := []) (o := .lst [V.ref f1, .ref f2, .ref f3, .ref f5, .int (10 ^ 30), .ref f6, .ref f8]) ho4
      have no4 := up w17 ho4
      have w18 := w17.go go4
      have c18 := c17.trans go4
      have po3 := (((((((((gf1.trans gf2).trans gf3).trans gf4).trans gf5).trans gf6).trans gf7).trans gf8).trans go4)).lst upd_same (nn _)
      have pf1 := ((((((((gf2.trans gf3).trans gf4).trans gf5).trans gf6).trans gf7).trans gf8).trans go4)).tup upd_same (nn _)
      have pf2 := (((((((gf3.trans gf4).trans gf5).trans gf6).trans gf7).trans gf8).trans go4)).lst upd_same (nn _)
      have pf3 := ((((((gf4.trans gf5).trans gf6).trans gf7).trans gf8).trans go4)).tup upd_same (nn _)
      have pf4 := (((((gf5.trans gf6).trans gf7).trans gf8).trans go4)).tup upd_same (nn _)
      have pf5 := ((((gf6.trans gf7).trans gf8).trans go4)).tup upd_same (nn _)
      have pf6 := (((gf7.trans gf8).trans go4)).tup upd_same (nn _)
      have pf7 := ((gf8.trans go4)).tup upd_same (nn _)
      have pf8 := (go4).tup upd_same (nn _)
      refine ⟨o3, o4, ((([("" : Str), "number", "Number", "fun", "kind", "a", "A", "a1", "A1", "1A", "A_", "A b", "Abcdefghij", "abcdefghij"]).map V.str) ++ [V.str "Abcdefghijk", .str "abcdefghijk", .str "A\n", .int 0, .int 1, .int (-1), .int 2, .bl true, .bl false, .non, .ref e1, .ref e2, .ref e3, .ref e4, .ref e6]), [V.ref f1, .ref f2, .ref f3, .ref f5, .int (10 ^ 30), .ref f6, .ref f8], rfl, rfl, po3, upd_same, by show 36 ≤ sizeLine; decide, fun o5 ho5 => ?_⟩
      have go5 := Go.new (T := T) (M := []) (o := .lst (((([("" : Str), "number", "Number", "fun", "kind", "a", "A", "a1", "A1", "1A", "A_", "A b", "Abcdefghij", "abcdefghij"]).map V.str) ++ [V.str "Abcdefghijk", .str "abcdefghijk", .str "A\n", .int 0, .int 1, .int (-1), .int 2, .bl true, .bl false, .non, .ref e1, .ref e2, .ref e3, .ref e4, .ref e6]) ++ [V.ref f1, .ref f2, .ref f3, .ref f5, .int (10 ^ 30), .ref f6, .ref f8])) ho5
      have no5 := up w18 ho5
      have w19 := w18.go go5
      have c19 := c18.trans go5
      have re1 := (((((((((((go3.trans gf1).trans gf2).trans gf3).trans gf4).trans gf5).trans gf6).trans gf7).trans gf8).trans go4).trans go5)).tup pe1 (nn _)
      have re4 := (((((((((((go3.trans gf1).trans gf2).trans gf3).trans gf4).trans gf5).trans gf6).trans gf7).trans gf8).trans go4).trans go5)).tup pe4 (nn _)
      have re5 := (((((((((((go3.trans gf1).trans gf2).trans gf3).trans gf4).trans gf5).trans gf6).trans gf7).trans gf8).trans go4).trans go5)).tup pe5 (nn _)
      have re6 := (((((((((((go3.trans gf1).trans gf2).trans gf3).trans gf4).trans gf5).trans gf6).trans gf7).trans gf8).trans go4).trans go5)).tup pe6 (nn _)
      have re2 := (((((((((((go3.trans gf1).trans gf2).trans gf3).trans gf4).trans gf5).trans gf6).trans gf7).trans gf8).trans go4).trans go5)).lst pe2 (nn _)
      have re3 := (((((((((((go3.trans gf1).trans gf2).trans gf3).trans gf4).trans gf5).trans gf6).trans gf7).trans gf8).trans go4).trans go5)).gr _ _ pe3 (nn _) (fun _ z => by cases z)
      have rf1 := go5.tup pf1 (nn _)
      have rf3 := go5.tup pf3 (nn _)
      have rf4 := go5.tup pf4 (nn _)
      have rf5 := go5.tup pf5 (nn _)
      have rf6 := go5.tup pf6 (nn _)
      have rf7 := go5.tup pf7 (nn _)
      have rf2 := go5.lst pf2 (nn _)
      have rf8 := go5.tup pf8 (nn _)
      have vz := hv.go ((g1).trans c19.of0)
      have dz : DvAll [a, l] _ _ (oddD _) := DvAll.append (DvAll.append (DvAll.strs _) (.cons (.str _) (.cons (.str _) (.cons (.str _) (.cons (.int _) (.cons (.int _) (.cons (.int _) (.cons (.int _) (.cons (.bl _) (.cons (.bl _) (.cons .non (.cons (.tup re1 ne1 .nil) (.cons (.lst re2 ne2 .nil) (.cons (.dct re3 ne3) (.cons (.tup re4 ne4 (.cons (.str _) .nil)) (.cons (.tup re6 ne6 (.cons (.str _) (.cons (.tup re5 ne5 .nil) .nil))) .nil))))))))))))))))
        (.cons (.tup rf1 nf1 (.cons vz .nil)) (.cons (.lst rf2 nf2 (.cons vz .nil)) (.cons (.tup rf3 nf3 (.cons vz (.cons vz .nil))) (.cons (.tup rf5 nf5 (.cons (.str _) (.cons (.tup rf4 nf4 (.cons (.int _) (.cons (.int _) .nil))) .nil))) (.cons (.int _) (.cons (.tup rf6 nf6 (.cons (.int _) (.cons (.int _) .nil))) (.cons (.tup rf8 nf8 (.cons (.str _) (.cons (.tup rf7 nf7 .nil) .nil))) .nil)))))))
      refine ⟨_, rfl, _, rfl, _, rfl, o5, _, rfl, .inl (SqL.of upd_same), a, l, (k + 1), _, rfl, (show (0 : Int) < 36 by decide), (show (36 : Int) < 1073741824 by decide), by omega, w19, c19.tb ((g1).tb ht), fun iz Hz z0 z1 Wz gz tz => ?_⟩
      obtain ⟨vv, dd, ez, mz, hz⟩ := at_dv dz z0 z1
      exact ⟨o5, _, iz, vv, rfl, rfl, SqL.of (gz.lst upd_same no5), ez, q vv dd Hz (hz.go gz) (oddD_near hn mz) (Wz.up (by omega)) (((g1).trans c19.of0).trans gz) tz⟩
  | bool z =>
    refine ⟨_, rfl, iteF (iteF ?_)⟩
    refine ⟨_, rfl, _, _, _, rfl, hv, _, rfl, iteF (iteF ?_)⟩
    refine ⟨_, rfl, _, _, _, rfl, hv, _, rfl, iteF (iteF ?_)⟩
    refine ⟨_, rfl, _, _, _, rfl, hv, _, rfl, iteT ?_⟩
    refine ⟨_, rfl, a, l, k, 2, rfl, by decide, by decide, by omega, W, ht, fun i1 H1 j0 j1 W1 g1 t1 => ⟨_, _, rfl, rfl, _, rfl, ?_⟩⟩
    by_cases c1 : (0 : Int) < i1
    · refine if_true_of (decide_eq_true c1) ?_
      cases hv
      refine ⟨_, rfl, (if z = true then 1 else 0), 1, (.inr ⟨z, rfl, rfl⟩), rfl, trivial, _, rfl, (if z = true then 1 else 0), 1, (.inr ⟨z, rfl, rfl⟩), rfl, trivial, _, rfl, (if z = true then 1 else 0), (.inr ⟨z, rfl, rfl⟩), _, rfl, _, _, rfl, rfl, ⟨by decide, by decide, by decide⟩, (if z = true then 1 else 0), _, (.inr ⟨z, rfl, rfl⟩), rfl, .inr ⟨by decide, by decide⟩, _, rfl, ?_⟩
      skip
      refine .inr ⟨z, rfl, _, rfl, _, rfl, by cases z <;> decide, by show 5 ≤ sizeLine; decide, fun o ho => ?_⟩
      have gO := Go.new (T := T) (M := []) (o := .lst [.int ((if z = true then 1 else 0) + 1), .int ((if z = true then 1 else 0) - 1), .int (-(if z = true then 1 else 0)), .int ((if z = true then 1 else 0) * (10 : Int) ^ (9 : Int).toNat), .str (cutS (if z = true then "True" else "False") none (some 40))]) ho
      have DZ : DvAll [a, l] (upd H1 o (.lst [.int ((if z = true then 1 else 0) + 1), .int ((if z = true then 1 else 0) - 1), .int (-(if z = true then 1 else 0)), .int ((if z = true then 1 else 0) * (10 : Int) ^ (9 : Int).toNat), .str (cutS (if z = true then "True" else "False") none (some 40))])) _ [PyData.int ((if z = true then 1 else 0) + 1), .int ((if z = true then 1 else 0) - 1), .int (-(if z = true then 1 else 0)), .int ((if z = true then 1 else 0) * (10 : Int) ^ (9 : Int).toNat), .str (cutS (if z = true then "True" else "False") none (some 40))] := .cons (.int _) (.cons (.int _) (.cons (.int _) (.cons (.int _) (.cons (.str _) .nil))))
      refine ⟨_, rfl, a, l, k + 1, 5, rfl, by decide, by decide, by omega, W1.go gO, gO.tb t1, fun iz Hz z0 z1 Wz gz tz => ?_⟩
      obtain ⟨vv, dd, ez, mz, hzz⟩ := at_dv DZ z0 z1
      exact ⟨o, _, iz, vv, rfl, rfl, SqL.of (gz.lst upd_same (up W1 ho)), ez, q vv dd Hz (hzz.go gz) (near_nums hl (by cases z <;> simp) (by cases z <;> decide +kernel) mz) (Wz.up (by omega)) ((g1.trans gO.of0).trans gz) tz⟩
    · refine if_false_of (decide_eq_false c1) ?_
      have w0 := W1
      have c0 := Go.refl (T := T) (M := []) (H := H1)
      refine ⟨by show 14 ≤ sizeLine; decide, fun o1 ho1 => ?_⟩
      have go1 := Go.new (T := T) (M := []) (o := .lst (([("" : Str), "number", "Number", "fun", "kind", "a", "A", "a1", "A1", "1A", "A_", "A b", "Abcdefghij", "abcdefghij"]).map V.str)) ho1
      have no1 := up w0 ho1
      have w1 := w0.go go1
      have c1 := c0.trans go1
      refine ⟨_, rfl, _, rfl, by show 0 ≤ sizeLine; omega, fun e1 he1 => ⟨by show 0 ≤ sizeLine; omega, fun e2 he2 => fun e3 he3 => ⟨by show 1 ≤ sizeLine; decide, fun e4 he4 => ⟨by show 0 ≤ sizeLine; omega, fun e5 he5 => ⟨by show 2 ≤ sizeLine; decide, fun e6 he6 => ⟨by show 15 ≤ sizeLine; decide, fun o2 ho2 => ?_⟩⟩⟩⟩⟩⟩
      have ge1 := Go.new (T := T) (M := []) (o := .tup []) he1
      have ne1 := up w1 he1
      have w2 := w1.go ge1
      have c2 := c1.trans ge1
      have ge2 := Go.new (T := T) (M := []) (o := .lst []) he2
      have ne2 := up w2 he2
      have w3 := w2.go ge2
      have c3 := c2.trans ge2
      have ge3 := Go.new (T := T) (M := []) (o := .dK []) he3
      have ne3 := up w3 he3
      have w4 := w3.go ge3
      have c4 := c3.trans ge3
      have ge4 := Go.new (T := T) (M := []) (o := .tup [.str "A"]) he4
      have ne4 := up w4 he4
      have w5 := w4.go ge4
      have c5 := c4.trans ge4
      have ge5 := Go.new (T := T) (M := []) (o := .tup []) he5
      have ne5 := up w5 he5
      have w6 := w5.go ge5
      have c6 := c5.trans ge5
      have ge6 := Go.new (T := T) (M := []) (o := .tup [.str "A", .ref e5]) he6
      have ne6 := up w6 he6
      have w7 := w6.go ge6
      have c7 := c6.trans ge6
      have go2 := Go.new (T := T) (M := []) (o := .lst [.str "Abcdefghijk", .str "abcdefghijk", .str "A\n", .int 0, .int 1, .int (-1), .int 2, .bl true, .bl false, .non, .ref e1, .ref e2, .ref e3, .ref e4, .ref e6]) ho2
      have no2 := up w7 ho2
      have w8 := w7.go go2
      have c8 := c7.trans go2
      have po1 := (((((((ge1.trans ge2).trans ge3).trans ge4).trans ge5).trans ge6).trans go2)).lst upd_same (nn _)
      have pe1 := ((((((ge2.trans ge3).trans ge4).trans ge5).trans ge6).trans go2)).tup upd_same (nn _)
      have pe2 := (((((ge3.trans ge4).trans ge5).trans ge6).trans go2)).lst upd_same (nn _)
      have pe3 := ((((ge4.trans ge5).trans ge6).trans go2)).gr _ _ (upd_same (a := e3) (o := .dK [])) (nn _) (fun _ z => by cases z)
      have pe4 := (((ge5.trans ge6).trans go2)).tup upd_same (nn _)
      have pe5 := ((ge6.trans go2)).tup upd_same (nn _)
      have pe6 := (go2).tup upd_same (nn _)
      refine ⟨o1, o2, (([("" : Str), "number", "Number", "fun", "kind", "a", "A", "a1", "A1", "1A", "A_", "A b", "Abcdefghij", "abcdefghij"]).map V.str), [V.str "Abcdefghijk", .str "abcdefghijk", .str "A\n", .int 0, .int 1, .int (-1), .int 2, .bl true, .bl false, .non, .ref e1, .ref e2, .ref e3, .ref e4, .ref e6], rfl, rfl, po1, upd_same, by show 29 ≤ sizeLine; decide, fun o3 ho3 => ?_⟩
      have go3 := Go.new (T := T) (M := []) (o := .lst ((([("" : Str), "number", "Number", "fun", "kind", "a", "A", "a1", "A1", "1A", "A_", "A b", "Abcdefghij", "abcdefghij"]).map V.str) ++ [V.str "Abcdefghijk", .str "abcdefghijk", .str "A\n", .int 0, .int 1, .int (-1), .int 2, .bl true, .bl false, .non, .ref e1, .ref e2, .ref e3, .ref e4, .ref e6])) ho3
      have no3 := up w8 ho3
      have w9 := w8.go go3
      have c9 := c8.trans go3
      refine ⟨_, rfl, _, rfl, by show 1 ≤ sizeLine; decide, fun f1 hf1 => ⟨_, rfl, by show 1 ≤ sizeLine; decide, fun f2 hf2 => ⟨_, rfl, _, rfl, by show 2 ≤ sizeLine; decide, fun f3 hf3 => ⟨by show 2 ≤ sizeLine; decide, fun f4 hf4 => ⟨by show 2 ≤ sizeLine; decide, fun f5 hf5 => ⟨_, _, rfl, rfl, ⟨by decide, by decide, by decide⟩, by show 2 ≤ sizeLine; decide, fun f6 hf6 => ⟨by show 0 ≤ sizeLine; omega, fun f7 hf7 => ⟨by show 2 ≤ sizeLine; decide, fun f8 hf8 => ⟨by show 7 ≤ sizeLine; decide, fun o4 ho4 => ?_⟩⟩⟩⟩⟩⟩⟩⟩⟩
      have gf1 := Go.new (T := T) (M := []) (o := .tup [v]) hf1
      have nf1 := up w9 hf1
      have w10 := w9.go gf1
      have c10 := c9.trans gf1
      have gf2 := Go.new (T := T) (M := []) (o := .lst [v]) hf2
      have nf2 := up w10 hf2
      have w11 := w10.go gf2
      have c11 := c10.trans gf2
      have gf3 := Go.new (T := T) (M := []) (o := .tup [v, v]) hf3
      have nf3 := up w11 hf3
      have w12 := w11.go gf3
      have c12 := c11.trans gf3
      have gf4 := Go.new (T := T) (M := []) (o := .tup [.int 1, .int 1]) hf4
      have nf4 := up w12 hf4
      have w13 := w12.go gf4
      have c13 := c12.trans gf4
      have gf5 := Go.new (T := T) (M := []) (o := .tup [.str "num", .ref f4]) hf5
      have nf5 := up w13 hf5
      have w14 := w13.go gf5
      have c14 := c13.trans gf5
      have gf6 := Go.new (T := T) (M := []) (o := .tup [.int 0, .int 1]) hf6
      have nf6 := up w14 hf6
      have w15 := w14.go gf6
      have c15 := c14.trans gf6
      have gf7 := Go.new (T := T) (M := []) (o := .tup []) hf7
      have nf7 := up w15 hf7
      have w16 := w15.go gf7
      have c16 := c15.trans gf7
      have gf8 := Go.new (T := T) (M := []) (o := .tup [.str "Fun", .ref f7]) hf8
      have nf8 := up w16 hf8
      have w17 := w16.go gf8
      have c17 := c16.trans gf8
      have go4 := Go.new (T := T) (M := []) (o := .lst [V.ref f1, .ref f2, .ref f3, .ref f5, .int (10 ^ 30), .ref f6, .ref f8]) ho4
      have no4 := up w17 ho4
      have w18 := w17.go go4
      have c18 := c17.trans go4
      have po3 := (((((((((gf1.trans gf2).trans gf3).trans gf4).trans gf5).trans gf6).trans gf7).trans gf8).trans go4)).lst upd_same (nn _)
      have pf1 := ((((((((gf2.trans gf3).trans gf4).trans gf5).trans gf6).trans gf7).trans gf8).trans go4)).tup upd_same (nn _)
      have pf2 := (((((((gf3.trans gf4).trans gf5).trans gf6).trans gf7).trans gf8).trans go4)).lst upd_same (nn _)
      have pf3 := ((((((gf4.trans gf5).trans gf6).trans gf7).trans gf8).trans go4)).tup upd_same (nn _)
      have pf4 := (((((gf5.trans gf6).trans gf7).trans gf8).trans go4)).tup upd_same (nn _)
      have pf5 := ((((gf6.trans gf7).trans gf8).trans go4)).tup upd_same (nn _)
      have pf6 := (((gf7.trans gf8).trans go4)).tup upd_same (nn _)
      have pf7 := ((gf8.trans go4)).tup upd_same (nn _)
      have pf8 := (go4).tup upd_same (nn _)
      refine ⟨o3, o4, ((([("" : Str), "number", "Number", "fun", "kind", "a", "A", "a1", "A1", "1A", "A_", "A b", "Abcdefghij", "abcdefghij"]).map V.str) ++ [V.str "Abcdefghijk", .str "abcdefghijk", .str "A\n", .int 0, .int 1, .int (-1), .int 2, .bl true, .bl false, .non, .ref e1, .ref e2, .ref e3, .ref e4, .ref e6]), [V.ref f1, .ref f2, .ref f3, .ref f5, .int (10 ^ 30), .ref f6, .ref f8], rfl, rfl, po3, upd_same, by show 36 ≤ sizeLine; decide, fun o5 ho5 => ?_⟩
      have go5 := Go.new (T := T) (M := []) (o := .lst (((([("" : Str), "number", "Number", "fun", "kind", "a", "A", "a1", "A1", "1A", "A_", "A b", "Abcdefghij", "abcdefghij"]).map V.str) ++ [V.str "Abcdefghijk", .str "abcdefghijk", .str "A\n", .int 0, .int 1, .int (-1), .int 2, .bl true, .bl false, .non, .ref e1, .ref e2, .ref e3, .ref e4, .ref e6]) ++ [V.ref f1, .ref f2, .ref f3, .ref f5, .int (10 ^ 30), .ref f6, .ref f8])) ho5
      have no5 := up w18 ho5
      have w19 := w18.go go5
      have c19 := c18.trans go5
      have re1 := (((((((((((go3.trans gf1).trans gf2).trans gf3).trans gf4).trans gf5).trans gf6).trans gf7).trans gf8).trans go4).trans go5)).tup pe1 (nn _)
      have re4 := (((((((((((go3.trans gf1).trans gf2).trans gf3).trans gf4).trans gf5).trans gf6).trans gf7).trans gf8).trans go4).trans go5)).tup pe4 (nn _)
      have re5 := (((((((((((go3.trans gf1).trans gf2).trans gf3).trans gf4).trans gf5).trans gf6).trans gf7).trans gf8).trans go4).trans go5)).tup pe5 (nn _)
      have re6 := (((((((((((go3.trans gf1).trans gf2).trans gf3).trans gf4).trans gf5).trans gf6).trans gf7).trans gf8).trans go4).trans go5)).tup pe6 (nn _)
      have re2 := (((((((((((go3.trans gf1).trans gf2).trans gf3).trans gf4).trans gf5).trans gf6).trans gf7).trans gf8).trans go4).trans go5)).lst pe2 (nn _)
      have re3 := (((((((((((go3.trans gf1).trans gf2).trans gf3).trans gf4).trans gf5).trans gf6).trans gf7).trans gf8).trans go4).trans go5)).gr _ _ pe3 (nn _) (fun _ z => by cases z)
      have rf1 := go5.tup pf1 (nn _)
      have rf3 := go5.tup pf3 (nn _)
      have rf4 := go5.tup pf4 (nn _)
      have rf5 := go5.tup pf5 (nn _)
      have rf6 := go5.tup pf6 (nn _)
      have rf7 := go5.tup pf7 (nn _)
      have rf2 := go5.lst pf2 (nn _)
      have rf8 := go5.tup pf8 (nn _)
      have vz := hv.go ((g1).trans c19.of0)
      have dz : DvAll [a, l] _ _ (oddD _) := DvAll.append (DvAll.append (DvAll.strs _) (.cons (.str _) (.cons (.str _) (.cons (.str _) (.cons (.int _) (.cons (.int _) (.cons (.int _) (.cons (.int _) (.cons (.bl _) (.cons (.bl _) (.cons .non (.cons (.tup re1 ne1 .nil) (.cons (.lst re2 ne2 .nil) (.cons (.dct re3 ne3) (.cons (.tup re4 ne4 (.cons (.str _) .nil)) (.cons (.tup re6 ne6 (.cons (.str _) (.cons (.tup re5 ne5 .nil) .nil))) .nil))))))))))))))))
        (.cons (.tup rf1 nf1 (.cons vz .nil)) (.cons (.lst rf2 nf2 (.cons vz .nil)) (.cons (.tup rf3 nf3 (.cons vz (.cons vz .nil))) (.cons (.tup rf5 nf5 (.cons (.str _) (.cons (.tup rf4 nf4 (.cons (.int _) (.cons (.int _) .nil))) .nil))) (.cons (.int _) (.cons (.tup rf6 nf6 (.cons (.int _) (.cons (.int _) .nil))) (.cons (.tup rf8 nf8 (.cons (.str _) (.cons (.tup rf7 nf7 .nil) .nil))) .nil)))))))
      refine ⟨_, rfl, _, rfl, _, rfl, o5, _, rfl, .inl (SqL.of upd_same), a, l, (k + 1), _, rfl, (show (0 : Int) < 36 by decide), (show (36 : Int) < 1073741824 by decide), by omega, w19, c19.tb ((g1).tb ht), fun iz Hz z0 z1 Wz gz tz => ?_⟩
      obtain ⟨vv, dd, ez, mz, hz⟩ := at_dv dz z0 z1
      exact ⟨o5, _, iz, vv, rfl, rfl, SqL.of (gz.lst upd_same no5), ez, q vv dd Hz (hz.go gz) (oddD_near hn mz) (Wz.up (by omega)) (((g1).trans c19.of0).trans gz) tz⟩
  | str x =>
    have hax : asc x = true := by simpa only [nice] using hn
    have lx : 12 * x.length + 4 ≤ 1000000 := by simpa only [wt] using hw
    have sx : x.length ≤ sizeLine := by rw [sizeLine_eq]; omega
    refine ⟨_, rfl, iteF (iteF ?_)⟩
    refine ⟨_, rfl, _, _, _, rfl, hv, _, rfl, iteF (iteF ?_)⟩
    refine ⟨_, rfl, _, _, _, rfl, hv, _, rfl, iteT ?_⟩
    refine ⟨_, rfl, a, l, k, 3, rfl, by decide, by decide, by omega, W, ht, fun i1 H1 j0 j1 W1 g1 t1 => ⟨_, _, rfl, rfl, _, rfl, ?_⟩⟩
    by_cases c1 : (0 : Int) < i1
    · refine if_true_of (decide_eq_true c1) ?_
      cases hv
      refine ⟨_, rfl, _, rfl, x, rfl, sx, _, _, rfl, rfl, a, l, k + 1, _, rfl, by omega, by omega, by omega, W1, t1, fun i2 H2 j20 j21 W2 g2 t2 => ?_⟩
      obtain ⟨S, eS⟩ : ∃ z : Str, z = " !\"#$&'()*+,-./0123456789:;<=>?@ABCDEFGHIJKLMNOPQRSTUVWXYZ[\\]^_`abcdefghijklmnopqrstuvwxyz{|}~\n" := ⟨_, rfl⟩
      have aS : asc S = true ∧ 1 ≤ S.length ∧ S.length ≤ 200 := by rw [eS]; decide +kernel
      rw [← eS]
      refine ⟨_, rfl, _, rfl, _, rfl, S, rfl, by rw [sizeLine_eq]; omega, a, l, k + 1 + 1, _, rfl, by omega, by omega, by omega, W2, t2, fun i3 H3 j30 j31 W3 g3 t3 => ?_⟩
      obtain ⟨c0, ec0, mc0⟩ := at_ok (xs := S.cps.toList) j30 (by rw [← SL.len_list]; exact j31)
      refine ⟨S, i3, c0, rfl, rfl, by rw [sizeLine_eq]; omega, ec0, _, _, rfl, ?_⟩
      have ag : asc (⟨#[c0]⟩ : Str) = true := asc_one aS.1 mc0
      have lg : ((⟨#[c0]⟩ : Str)).length = 1 := rfl
      generalize (⟨#[c0]⟩ : Str) = sg at ag lg ⊢
      have q1 := len_cut x none (some i2)
      have q2 := len_cut x (some i2) none
      have q3 := len_cut x (some (i2 + 1)) none
      have w1 : (cutS x none (some i2) ++ sg).length ≤ x.length + 1 := by rw [strLen_append]; omega
      have w2 : ((cutS x none (some i2) ++ sg) ++ cutS x (some i2) none).length ≤ 2 * x.length + 1 := by rw [strLen_append]; omega
      have w3 : ((cutS x none (some i2) ++ sg) ++ cutS x (some (i2 + 1)) none).length ≤ 2 * x.length + 1 := by rw [strLen_append]; omega
      have w4 : (x ++ sg).length ≤ x.length + 1 := by rw [strLen_append]; omega
      have lo := lo_len hax
      have hi := up_len hax
      have b1 : (cutS x none (some i2)).length + sg.length ≤ sizeLine := by rw [sizeLine_eq]; omega
      have b2 : (cutS x none (some i2) ++ sg).length + (cutS x (some i2) none).length ≤ sizeLine := by rw [sizeLine_eq]; omega
      have b3 : (cutS x none (some i2) ++ sg).length + (cutS x (some (i2 + 1)) none).length ≤ sizeLine := by rw [sizeLine_eq]; omega
      have b4 : x.length + sg.length ≤ sizeLine := by rw [sizeLine_eq]; omega
      have b5 : x.length ≤ 5592405 := by omega
      refine ⟨_, rfl, _, rfl, _, rfl, x, rfl, sx, _, rfl, _, _, rfl, rfl, b1, _, rfl, _, rfl, _, rfl, x, rfl, sx, _, _, rfl, rfl, b2, ?_⟩
      refine ⟨_, rfl, _, rfl, _, rfl, x, rfl, sx, _, rfl, _, _, rfl, rfl, b1, _, rfl, _, rfl, _, _, rfl, rfl, _, rfl, x, rfl, sx, _, _, rfl, rfl, b3, ?_⟩
      refine ⟨_, rfl, _, rfl, _, _, rfl, rfl, b4, _, rfl, ⟨_, rfl⟩, x, rfl, rfl, b5, by show 4 ≤ sizeLine; decide, fun o1 ho1 => ?_⟩
      refine ⟨_, rfl, _, rfl, ⟨_, rfl⟩, x, rfl, rfl, b5, _, rfl, _, rfl, x, rfl, sx, _, rfl, _, rfl, _, rfl, x, rfl, sx, _, rfl, _, rfl, x, rfl, sx, by show 4 ≤ sizeLine; decide, fun o2 ho2 => ?_⟩
      have r1 := len_cut x (some 1) none
      have r2 := len_cut x none (some (-1))
      have r3 := len_cut x none (some 1)
      have near : ∀ z ∈ ([(cutS x none (some i2) ++ sg) ++ cutS x (some i2) none, (cutS x none (some i2) ++ sg) ++ cutS x (some (i2 + 1)) none, x ++ sg, Txt.lower x] ++ [Txt.upper x, cutS x (some 1) none, cutS x none (some (-1)), cutS x none (some 1)] : List Str), asc z = true ∧ 12 * z.length ≤ 3 * wt (.str x) + 1996 := fun z hz => by
        have ew : wt (.str x) = 12 * x.length + 4 := by simp only [wt]
        rw [ew]
        simp only [List.mem_append, List.mem_cons, List.not_mem_nil, or_false] at hz
        rcases hz with (rfl | rfl | rfl | rfl) | (rfl | rfl | rfl | rfl)
        · exact ⟨asc_add (asc_add (asc_cut hax _ _) ag) (asc_cut hax _ _), by omega⟩
        · exact ⟨asc_add (asc_add (asc_cut hax _ _) ag) (asc_cut hax _ _), by omega⟩
        · exact ⟨asc_add hax ag, by omega⟩
        · exact ⟨lo.2, by omega⟩
        · exact ⟨hi.2, by omega⟩
        · exact ⟨asc_cut hax _ _, by omega⟩
        · exact ⟨asc_cut hax _ _, by omega⟩
        · exact ⟨asc_cut hax _ _, by omega⟩
      have g01 := Go.new (T := T) (M := []) (o := .lst (([(cutS x none (some i2) ++ sg) ++ cutS x (some i2) none, (cutS x none (some i2) ++ sg) ++ cutS x (some (i2 + 1)) none, x ++ sg, Txt.lower x] : List Str).map V.str)) ho1
      have g02 := Go.new (T := T) (M := []) (o := .lst (([Txt.upper x, cutS x (some 1) none, cutS x none (some (-1)), cutS x none (some 1)] : List Str).map V.str)) ho2
      refine ⟨o1, o2, ([(cutS x none (some i2) ++ sg) ++ cutS x (some i2) none, (cutS x none (some i2) ++ sg) ++ cutS x (some (i2 + 1)) none, x ++ sg, Txt.lower x] : List Str).map V.str, ([Txt.upper x, cutS x (some 1) none, cutS x none (some (-1)), cutS x none (some 1)] : List Str).map V.str, rfl, rfl, g02.lst upd_same (nn _), upd_same, by show 8 ≤ sizeLine; decide, fun o3 ho3 => ?_⟩
      have g03 := Go.new (T := T) (M := []) (o := .lst (([(cutS x none (some i2) ++ sg) ++ cutS x (some i2) none, (cutS x none (some i2) ++ sg) ++ cutS x (some (i2 + 1)) none, x ++ sg, Txt.lower x] : List Str).map V.str ++ ([Txt.upper x, cutS x (some 1) none, cutS x none (some (-1)), cutS x none (some 1)] : List Str).map V.str)) ho3
      have gg := (g01.trans g02).trans g03
      have w30 := W3.go (g01.trans g02)
      refine ⟨_, rfl, a, l, k + 1 + 1 + 1, 8, rfl, by decide, by decide, by omega, W3.go gg, gg.tb t3, fun iz Hz z0 z1 Wz gz tz => ?_⟩
      obtain ⟨vv, ez, mz⟩ := at_ok (xs := ([(cutS x none (some i2) ++ sg) ++ cutS x (some i2) none, (cutS x none (some i2) ++ sg) ++ cutS x (some (i2 + 1)) none, x ++ sg, Txt.lower x] : List Str).map V.str ++ ([Txt.upper x, cutS x (some 1) none, cutS x none (some (-1)), cutS x none (some 1)] : List Str).map V.str) z0 (by exact z1)
      rw [← List.map_append] at mz
      obtain ⟨z, hz, rfl⟩ := List.mem_map.mp mz
      have nz := near z hz
      exact ⟨o3, _, iz, .str z, rfl, rfl, SqL.of (gz.lst upd_same (up w30 ho3)), ez, q (.str z) (.str z) Hz (.str z) (near_txt nz.1 nz.2) (Wz.up (by omega)) ((((g1.trans g2).trans g3).trans gg.of0).trans gz) tz⟩
    · refine if_false_of (decide_eq_false c1) ?_
      refine ⟨_, rfl, _, _, _, rfl, hv.go g1, _, rfl, iteF (iteF ?_)⟩
      have w0 := W1
      have c0 := Go.refl (T := T) (M := []) (H := H1)
      refine ⟨by show 14 ≤ sizeLine; decide, fun o1 ho1 => ?_⟩
      have go1 := Go.new (T := T) (M := []) (o := .lst (([("" : Str), "number", "Number", "fun", "kind", "a", "A", "a1", "A1", "1A", "A_", "A b", "Abcdefghij", "abcdefghij"]).map V.str)) ho1
      have no1 := up w0 ho1
      have w1 := w0.go go1
      have c1 := c0.trans go1
      refine ⟨_, rfl, _, rfl, by show 0 ≤ sizeLine; omega, fun e1 he1 => ⟨by show 0 ≤ sizeLine; omega, fun e2 he2 => fun e3 he3 => ⟨by show 1 ≤ sizeLine; decide, fun e4 he4 => ⟨by show 0 ≤ sizeLine; omega, fun e5 he5 => ⟨by show 2 ≤ sizeLine; decide, fun e6 he6 => ⟨by show 15 ≤ sizeLine; decide, fun o2 ho2 => ?_⟩⟩⟩⟩⟩⟩
      have ge1 := Go.new (T := T) (M := []) (o := .tup []) he1
      have ne1 := up w1 he1
      have w2 := w1.go ge1
      have c2 := c1.trans ge1
      have ge2 := Go.new (T := T) (M := []) (o := .lst []) he2
      have ne2 := up w2 he2
      have w3 := w2.go ge2
      have c3 := c2.trans ge2
      have ge3 := Go.new (T := T) (M := []) (o := .dK []) he3
      have ne3 := up w3 he3
      have w4 := w3.go ge3
      have c4 := c3.trans ge3
      have ge4 := Go.new (T := T) (M := []) (o := .tup [.str "A"]) he4
      have ne4 := up w4 he4
      have w5 := w4.go ge4
      have c5 := c4.trans ge4
      have ge5 := Go.new (T := T) (M := []) (o := .tup []) he5
      have ne5 := up w5 he5
      have w6 := w5.go ge5
      have c6 := c5.trans ge5
      have ge6 := Go.new (T := T) (M := []) (o := .tup [.str "A", .ref e5]) he6
      have ne6 := up w6 he6
      have w7 := w6.go ge6
      have c7 := c6.trans ge6
      have go2 := Go.new (T := T) (M := []) (o := .lst [.str "Abcdefghijk", .str "abcdefghijk", .str "A\n", .int 0, .int 1, .int (-1), .int 2, .bl true, .bl false, .non, .ref e1, .ref e2, .ref e3, .ref e4, .ref e6]) ho2
      have no2 := up w7 ho2
      have w8 := w7.go go2
      have c8 := c7.trans go2
      have po1 := (((((((ge1.trans ge2).trans ge3).trans ge4).trans ge5).trans ge6).trans go2)).lst upd_same (nn _)
      have pe1 := ((((((ge2.trans ge3).trans ge4).trans ge5).trans ge6).trans go2)).tup upd_same (nn _)
      have pe2 := (((((ge3.trans ge4).trans ge5).trans ge6).trans go2)).lst upd_same (nn _)
      have pe3 := ((((ge4.trans ge5).trans ge6).trans go2)).gr _ _ (upd_same (a := e3) (o := .dK [])) (nn _) (fun _ z => by cases z)
      have pe4 := (((ge5.trans ge6).trans go2)).tup upd_same (nn _)
      have pe5 := ((ge6.trans go2)).tup upd_same (nn _)
      have pe6 := (go2).tup upd_same (nn _)
      refine ⟨o1, o2, (([("" : Str), "number", "Number", "fun", "kind", "a", "A", "a1", "A1", "1A", "A_", "A b", "Abcdefghij", "abcdefghij"]).map V.str), [V.str "Abcdefghijk", .str "abcdefghijk", .str "A\n", .int 0, .int 1, .int (-1), .int 2, .bl true, .bl false, .non, .ref e1, .ref e2, .ref e3, .ref e4, .ref e6], rfl, rfl, po1, upd_same, by show 29 ≤ sizeLine; decide, fun o3 ho3 => ?_⟩
      have go3 := Go.new (T := T) (M := []) (o := .lst ((([("" : Str), "number", "Number", "fun", "kind", "a", "A", "a1", "A1", "1A", "A_", "A b", "Abcdefghij", "abcdefghij"]).map V.str) ++ [V.str "Abcdefghijk", .str "abcdefghijk", .str "A\n", .int 0, .int 1, .int (-1), .int 2, .bl true, .bl false, .non, .ref e1, .ref e2, .ref e3, .ref e4, .ref e6])) ho3
      have no3 := up w8 ho3
      have w9 := w8.go go3
      have c9 := c8.trans go3
      refine ⟨_, rfl, _, rfl, by show 1 ≤ sizeLine; decide, fun f1 hf1 => ⟨_, rfl, by show 1 ≤ sizeLine; decide, fun f2 hf2 => ⟨_, rfl, _, rfl, by show 2 ≤ sizeLine; decide, fun f3 hf3 => ⟨by show 2 ≤ sizeLine; decide, fun f4 hf4 => ⟨by show 2 ≤ sizeLine; decide, fun f5 hf5 => ⟨_, _, rfl, rfl, ⟨by decide, by decide, by decide⟩, by show 2 ≤ sizeLine; decide, fun f6 hf6 => ⟨by show 0 ≤ sizeLine; omega, fun f7 hf7 => ⟨by show 2 ≤ sizeLine; decide, fun f8 hf8 => ⟨by show 7 ≤ sizeLine; decide, fun o4 ho4 => ?_⟩⟩⟩⟩⟩⟩⟩⟩⟩
      have gf1 := Go.new (T := T) (M := []) (o := .tup [v]) hf1
      have nf1 := up w9 hf1
      have w10 := w9.go gf1
      have c10 := c9.trans gf1
      have gf2 := Go.new (T := T) (M := []) (o := .lst [v]) hf2
      have nf2 := up w10 hf2
      have w11 := w10.go gf2
      have c11 := c10.trans gf2
      have gf3 := Go.new (T := T) (M := []) (o := .tup [v, v]) hf3
      have nf3 := up w11 hf3
      have w12 := w11.go gf3
      have c12 := c11.trans gf3
      have gf4 := Go.new (T := T) (M := []) (o := .tup [.int 1, .int 1]) hf4
      have nf4 := up w12 hf4
      have w13 := w12.go gf4
      have c13 := c12.trans gf4
      have gf5 := Go.new (T := T) (M := []) (o := .tup [.str "num", .ref f4]) hf5
      have nf5 := up w13 hf5
      have w14 := w13.go gf5
      have c14 := c13.trans gf5
      have gf6 := Go.new (T := T) (M := []) (o := .tup [.int 0, .int 1]) hf6
      have nf6 := up w14 hf6
      have w15 := w14.go gf6
      have c15 := c14.trans gf6
      have gf7 := Go.new (T := T) (M := []) (o := .tup []) hf7
      have nf7 := up w15 hf7
      have w16 := w15.go gf7
      have c16 := c15.trans gf7
      have gf8 := Go.new (T := T) (M := []) (o := .tup [.str "Fun", .ref f7]) hf8
      have nf8 := up w16 hf8
      have w17 := w16.go gf8
      have c17 := c16.trans gf8
      have go4 := Go.new (T := T) (M := []) (o := .lst [V.ref f1, .ref f2, .ref f3, .ref f5, .int (10 ^ 30), .ref f6, .ref f8]) ho4
      have no4 := up w17 ho4
      have w18 := w17.go go4
      have c18 := c17.trans go4
      have po3 := (((((((((gf1.trans gf2).trans gf3).trans gf4).trans gf5).trans gf6).trans gf7).trans gf8).trans go4)).lst upd_same (nn _)
      have pf1 := ((((((((gf2.trans gf3).trans gf4).trans gf5).trans gf6).trans gf7).trans gf8).trans go4)).tup upd_same (nn _)
      have pf2 := (((((((gf3.trans gf4).trans gf5).trans gf6).trans gf7).trans gf8).trans go4)).lst upd_same (nn _)
      have pf3 := ((((((gf4.trans gf5).trans gf6).trans gf7).trans gf8).trans go4)).tup upd_same (nn _)
      have pf4 := (((((gf5.trans gf6).trans gf7).trans gf8).trans go4)).tup upd_same (nn _)
      have pf5 := ((((gf6.trans gf7).trans gf8).trans go4)).tup upd_same (nn _)
      have pf6 := (((gf7.trans gf8).trans go4)).tup upd_same (nn _)
      have pf7 := ((gf8.trans go4)).tup upd_same (nn _)
      have pf8 := (go4).tup upd_same (nn _)
      refine ⟨o3, o4, ((([("" : Str), "number", "Number", "fun", "kind", "a", "A", "a1", "A1", "1A", "A_", "A b", "Abcdefghij", "abcdefghij"]).map V.str) ++ [V.str "Abcdefghijk", .str "abcdefghijk", .str "A\n", .int 0, .int 1, .int (-1), .int 2, .bl true, .bl false, .non, .ref e1, .ref e2, .ref e3, .ref e4, .ref e6]), [V.ref f1, .ref f2, .ref f3, .ref f5, .int (10 ^ 30), .ref f6, .ref f8], rfl, rfl, po3, upd_same, by show 36 ≤ sizeLine; decide, fun o5 ho5 => ?_⟩
      have go5 := Go.new (T := T) (M := []) (o := .lst (((([("" : Str), "number", "Number", "fun", "kind", "a", "A", "a1", "A1", "1A", "A_", "A b", "Abcdefghij", "abcdefghij"]).map V.str) ++ [V.str "Abcdefghijk", .str "abcdefghijk", .str "A\n", .int 0, .int 1, .int (-1), .int 2, .bl true, .bl false, .non, .ref e1, .ref e2, .ref e3, .ref e4, .ref e6]) ++ [V.ref f1, .ref f2, .ref f3, .ref f5, .int (10 ^ 30), .ref f6, .ref f8])) ho5
      have no5 := up w18 ho5
      have w19 := w18.go go5
      have c19 := c18.trans go5
      have re1 := (((((((((((go3.trans gf1).trans gf2).trans gf3).trans gf4).trans gf5).trans gf6).trans gf7).trans gf8).trans go4).trans go5)).tup pe1 (nn _)
      have re4 := (((((((((((go3.trans gf1).trans gf2).trans gf3).trans gf4).trans gf5).trans gf6).trans gf7).trans gf8).trans go4).trans go5)).tup pe4 (nn _)
      have re5 := (((((((((((go3.trans gf1).trans gf2).trans gf3).trans gf4).trans gf5).trans gf6).trans gf7).trans gf8).trans go4).trans go5)).tup pe5 (nn _)
      have re6 := (((((((((((go3.trans gf1).trans gf2).trans gf3).trans gf4).trans gf5).trans gf6).trans gf7).trans gf8).trans go4).trans go5)).tup pe6 (nn _)
      have re2 := (((((((((((go3.trans gf1).trans gf2).trans gf3).trans gf4).trans gf5).trans gf6).trans gf7).trans gf8).trans go4).trans go5)).lst pe2 (nn _)
      have re3 := (((((((((((go3.trans gf1).trans gf2).trans gf3).trans gf4).trans gf5).trans gf6).trans gf7).trans gf8).trans go4).trans go5)).gr _ _ pe3 (nn _) (fun _ z => by cases z)
      have rf1 := go5.tup pf1 (nn _)
      have rf3 := go5.tup pf3 (nn _)
      have rf4 := go5.tup pf4 (nn _)
      have rf5 := go5.tup pf5 (nn _)
      have rf6 := go5.tup pf6 (nn _)
      have rf7 := go5.tup pf7 (nn _)
      have rf2 := go5.lst pf2 (nn _)
      have rf8 := go5.tup pf8 (nn _)
      have vz := hv.go ((g1).trans c19.of0)
      have dz : DvAll [a, l] _ _ (oddD _) := DvAll.append (DvAll.append (DvAll.strs _) (.cons (.str _) (.cons (.str _) (.cons (.str _) (.cons (.int _) (.cons (.int _) (.cons (.int _) (.cons (.int _) (.cons (.bl _) (.cons (.bl _) (.cons .non (.cons (.tup re1 ne1 .nil) (.cons (.lst re2 ne2 .nil) (.cons (.dct re3 ne3) (.cons (.tup re4 ne4 (.cons (.str _) .nil)) (.cons (.tup re6 ne6 (.cons (.str _) (.cons (.tup re5 ne5 .nil) .nil))) .nil))))))))))))))))
        (.cons (.tup rf1 nf1 (.cons vz .nil)) (.cons (.lst rf2 nf2 (.cons vz .nil)) (.cons (.tup rf3 nf3 (.cons vz (.cons vz .nil))) (.cons (.tup rf5 nf5 (.cons (.str _) (.cons (.tup rf4 nf4 (.cons (.int _) (.cons (.int _) .nil))) .nil))) (.cons (.int _) (.cons (.tup rf6 nf6 (.cons (.int _) (.cons (.int _) .nil))) (.cons (.tup rf8 nf8 (.cons (.str _) (.cons (.tup rf7 nf7 .nil) .nil))) .nil)))))))
      refine ⟨_, rfl, _, rfl, _, rfl, o5, _, rfl, .inl (SqL.of upd_same), a, l, (k + 1), _, rfl, (show (0 : Int) < 36 by decide), (show (36 : Int) < 1073741824 by decide), by omega, w19, c19.tb ((g1).tb ht), fun iz Hz z0 z1 Wz gz tz => ?_⟩
      obtain ⟨vv, dd, ez, mz, hz⟩ := at_dv dz z0 z1
      exact ⟨o5, _, iz, vv, rfl, rfl, SqL.of (gz.lst upd_same no5), ez, q vv dd Hz (hz.go gz) (oddD_near hn mz) (Wz.up (by omega)) (((g1).trans c19.of0).trans gz) tz⟩
  | tuple ds =>
    obtain ⟨p, xs, ev, ep, np, rr⟩ : ∃ p xs, v = .ref p ∧ H p = some (.tup xs) ∧ p ∉ [a, l] ∧ DvAll [a, l] H xs ds := by
      cases hv with
      | tup e m r => exact ⟨_, _, rfl, e, m, r⟩
    have hx : xs.length = ds.length := rr.length
    have hwt : wtAll ds + 4 ≤ 1000000 := by rw [wt_tupl] at hw; exact hw
    have hlen := wtAll_len ds
    refine ⟨_, rfl, iteT ?_⟩
    refine ⟨_, rfl, by show 0 ≤ sizeLine; omega, fun e0 he0 => ?_⟩
    have g0 := Go.new (T := T) (M := []) (o := .tup []) he0
    refine ⟨p, e0, xs, ev, rfl, .inr ⟨SqT.of (g0.tup ep (nn _)), SqT.of upd_same⟩, _, rfl, ?_⟩
    cases exs : xs.isEmpty with
    | true =>
      refine iteF (iteF ?_)
      refine ⟨_, rfl, _, _, _, rfl, hv.go g0.of0, ?_⟩
      refine ⟨_, rfl, iteT ?_⟩
      refine ⟨_, rfl, a, l, k, 3, rfl, by decide, by decide, by omega, (W.go g0), ((g0.of0 : Go T [a, l] H _)).tb ht, fun i2 H2 j20 j21 W2 g2 t2 => ⟨_, _, rfl, rfl, _, rfl, ?_⟩⟩
      have G2 := ((g0.of0 : Go T [a, l] H _)).trans g2
      by_cases c2 : (0 : Int) < i2
      · refine if_true_of (decide_eq_true c2) ?_
        subst ev
        have e2 := G2.tup ep np
        have rr2 := rr.go G2
        refine ⟨_, rfl, _, rfl, _, xs, rfl, .inr (SqT.of e2), _, _, rfl, rfl, a, l, k + 1, _, rfl, by omega, by omega, by omega, W2, t2, fun at' H3 j30 j31 W3 g3 t3 => ?_⟩
        have G3 := G2.trans g3
        have e3 := G3.tup ep np
        have fr3 : ∀ {H' : Hp}, Go T [] H3 H' → ∀ r, H' r = none → r ∉ [a, l] := fun g r h => up (W3.go g) h
        have w0 := Go.refl (T := T) (M := []) (H := H3)
        have cl := fun lo hi => cutV_len xs lo hi
        refine ⟨_, rfl, _, rfl, _, rfl, sl_ok (T := T) (M := [a, l]) e3 np (fr3 w0) fun s1 K1' f1 n1 h1 => ?_⟩
        have w1 := w0.trans h1
        refine ⟨_, rfl, _, rfl, _, _, rfl, rfl, _, rfl, ?_⟩
        try unfold tNoPart
        refine sl_ok (T := T) (M := [a, l]) (w1.tup e3 (nn _)) np (fr3 w1) fun s2 K2' f2 n2 h2 => ?_
        have w2 := w1.trans h2
        refine cat_ok (T := T) (M := [a, l]) (h2.tup f1 (nn _)) f2 n1 n2 (by have := cl none (some at'); have := cl (some (at' + 1)) none; omega) (fr3 w2) fun s3 K3' f3 n3 h3 => ?_
        have w3 := w2.trans h3
        refine ⟨_, rfl, _, rfl, _, rfl, sl_ok (T := T) (M := [a, l]) (w3.tup e3 (nn _)) np (fr3 w3) fun s4 K4' f4 n4 h4 => ?_⟩
        have w4 := w3.trans h4
        refine ⟨_, rfl, _, rfl, _, rfl, _, rfl, _, _, rfl, rfl, _, rfl, sl_ok (T := T) (M := [a, l]) (w4.tup e3 (nn _)) np (fr3 w4) fun s5 K5' f5 n5 h5 => ?_⟩
        have w5 := w4.trans h5
        refine cat_ok (T := T) (M := [a, l]) (h5.tup f4 (nn _)) f5 n4 n5 (by have := cl none (some at'); have := cl (some at') (some (at' + 1)); omega) (fr3 w5) fun s6 K6' f6 n6 h6 => ?_
        have w6 := w5.trans h6
        refine ⟨_, rfl, _, rfl, _, rfl, ?_⟩
        try unfold tNoPart
        refine sl_ok (T := T) (M := [a, l]) (w6.tup e3 (nn _)) np (fr3 w6) fun s7 K7' f7 n7 h7 => ?_
        have w7 := w6.trans h7
        refine cat_ok (T := T) (M := [a, l]) (h7.tup f6 (nn _)) f7 n6 n7 (by have := cl none (some at'); have := cl (some at') (some (at' + 1)); have := cl (some at') none; rw [List.length_append]; omega) (fr3 w7) fun s8 K8' f8 n8 h8 => ?_
        have w8 := w7.trans h8
        refine ⟨_, rfl, _, rfl, _, rfl, ?_⟩
        try unfold tNoPart
        refine sl_ok (T := T) (M := [a, l]) (w8.tup e3 (nn _)) np (fr3 w8) fun s9 K9' f9 n9 h9 => ?_
        have w9 := w8.trans h9
        refine ⟨_, rfl, _, rfl, _, rfl, sl_ok (T := T) (M := [a, l]) (w9.tup e3 (nn _)) np (fr3 w9) fun s10 K10' f10 n10 h10 => ?_⟩
        have w10 := w9.trans h10
        refine cat_ok (T := T) (M := [a, l]) (h10.tup f9 (nn _)) f10 n9 n10 (by have := cl none (some at'); have := cl (some at') none; omega) (fr3 w10) fun s11 K11' f11 n11 h11 => ?_
        have w11 := w10.trans h11
        refine ⟨by show 3 ≤ sizeLine; decide, fun o1 ho1 => ?_⟩
        have h12 := Go.new (T := T) (M := []) (o := .lst [V.ref s3, .ref s8, .ref s11]) ho1
        have w12 := w11.trans h12
        refine ⟨_, rfl, _, rfl, p, xs, rfl, .inr (SqT.of (w12.tup e3 (nn _))), fun l1 hl1 => ?_⟩
        have h13 := Go.new (T := T) (M := []) (o := .lst xs) hl1
        have w13 := w12.trans h13
        have nl1 := fr3 w12 l1 hl1
        refine ⟨_, rfl, ?_⟩
        try unfold tC
        refine times_ok (T := T) (M := [a, l]) (j := 2) (w13.tup e3 (nn _)) np (by decide) (by decide) (by omega) (fr3 w13) fun s14 K14' f14 n14 h14 => ?_
        have w14 := w13.trans h14
        refine ⟨_, rfl, ?_⟩
        try unfold tC
        refine times_ok (T := T) (M := [a, l]) (j := 3) (w14.tup e3 (nn _)) np (by decide) (by decide) (by omega) (fr3 w14) fun s15 K15' f15 n15 h15 => ?_
        have w15 := w14.trans h15
        refine ⟨by show 3 ≤ sizeLine; decide, fun o2 ho2 => ?_⟩
        have h16 := Go.new (T := T) (M := []) (o := .lst [V.ref l1, .ref s14, .ref s15]) ho2
        have w16 := w15.trans h16
        have t13 := ((h13.trans h14).trans h15).trans h16
        refine ⟨o1, o2, [V.ref s3, .ref s8, .ref s11], [V.ref l1, .ref s14, .ref s15], rfl, rfl, t13.lst upd_same (nn _), upd_same, by show 6 ≤ sizeLine; decide, fun o3 ho3 => ?_⟩
        have h17 := Go.new (T := T) (M := []) (o := .lst ([V.ref s3, .ref s8, .ref s11] ++ [V.ref l1, .ref s14, .ref s15])) ho3
        have w17 := w16.trans h17
        have no3 := fr3 w16 o3 ho3
        have u16 := h16.trans h17
        have u15 := h15.trans u16
        have u14 := h14.trans u15
        have u13 := h13.trans u14
        have u12 := h12.trans u13
        have u9 := ((h9.trans h10).trans h11).trans u12
        have u4 := ((((h4.trans h5).trans h6).trans h7).trans h8).trans u9
        have hu : nice n (.tuple ds) = true := hn
        have dxs := rr2.go (g3.trans w17.of0)
        have dz : DvAll [a, l] _ [V.ref s3, .ref s8, .ref s11, .ref l1, .ref s14, .ref s15] [PyData.tuple (cutD ds none (some at') ++ cutD ds (some (at' + 1)) none), .tuple ((cutD ds none (some at') ++ cutD ds (some at') (some (at' + 1))) ++ cutD ds (some at') none), .tuple (cutD ds (some at') none ++ cutD ds none (some at')), .list ds, .tuple (List.replicate (2 : Int).toNat ds).flatten, .tuple (List.replicate (3 : Int).toNat ds).flatten] :=
          .cons (.tup (u4.tup f3 (nn _)) n3 (DvAll.append (dxs.cutD _ _) (dxs.cutD _ _)))
          (.cons (.tup (u9.tup f8 (nn _)) n8 (DvAll.append (DvAll.append (dxs.cutD _ _) (dxs.cutD _ _)) (dxs.cutD _ _)))
          (.cons (.tup (u12.tup f11 (nn _)) n11 (DvAll.append (dxs.cutD _ _) (dxs.cutD _ _)))
          (.cons (.lst (u14.lst upd_same (nn _)) nl1 dxs)
          (.cons (.tup (u15.tup f14 (nn _)) n14 (dxs.rep _))
          (.cons (.tup (u16.tup f15 (nn _)) n15 (dxs.rep _)) .nil)))))
        have near : ∀ z ∈ [PyData.tuple (cutD ds none (some at') ++ cutD ds (some (at' + 1)) none), .tuple ((cutD ds none (some at') ++ cutD ds (some at') (some (at' + 1))) ++ cutD ds (some at') none), .tuple (cutD ds (some at') none ++ cutD ds none (some at')), .list ds, .tuple (List.replicate (2 : Int).toNat ds).flatten, .tuple (List.replicate (3 : Int).toNat ds).flatten], nearOk n (.tuple ds) z := fun z hz => tup_ways hn hz
        refine ⟨_, rfl, a, l, k + 1 + 1, 6, rfl, by decide, by decide, by omega, W3.go w17, w17.tb t3, fun iz Hz z0 z1 Wz gz tz => ?_⟩
        obtain ⟨vv, dd, ez, mz, hz⟩ := at_dv dz z0 (by exact z1)
        exact ⟨o3, _, iz, vv, rfl, rfl, SqL.of (gz.lst upd_same no3), ez, q vv dd Hz (hz.go gz) (near dd mz) (Wz.up (by omega)) ((G3.trans w17.of0).trans gz) tz⟩
      · refine if_false_of (decide_eq_false c2) ?_
        refine ⟨_, rfl, _, _, _, rfl, hv.go G2, _, rfl, iteF (iteF ?_)⟩
        refine ⟨_, rfl, _, _, _, rfl, hv.go G2, _, rfl, iteF (iteF ?_)⟩
        have w0 := W2
        have c0 := Go.refl (T := T) (M := []) (H := H2)
        refine ⟨by show 14 ≤ sizeLine; decide, fun o1 ho1 => ?_⟩
        have go1 := Go.new (T := T) (M := []) (o := .lst (([("" : Str), "number", "Number", "fun", "kind", "a", "A", "a1", "A1", "1A", "A_", "A b", "Abcdefghij", "abcdefghij"]).map V.str)) ho1
        have no1 := up w0 ho1
        have w1 := w0.go go1
        have c1 := c0.trans go1
        refine ⟨_, rfl, _, rfl, by show 0 ≤ sizeLine; omega, fun e1 he1 => ⟨by show 0 ≤ sizeLine; omega, fun e2 he2 => fun e3 he3 => ⟨by show 1 ≤ sizeLine; decide, fun e4 he4 => ⟨by show 0 ≤ sizeLine; omega, fun e5 he5 => ⟨by show 2 ≤ sizeLine; decide, fun e6 he6 => ⟨by show 15 ≤ sizeLine; decide, fun o2 ho2 => ?_⟩⟩⟩⟩⟩⟩
        have ge1 := Go.new (T := T) (M := []) (o := .tup []) he1
        have ne1 := up w1 he1
        have w2 := w1.go ge1
        have c2 := c1.trans ge1
        have ge2 := Go.new (T := T) (M := []) (o := .lst []) he2
        have ne2 := up w2 he2
        have w3 := w2.go ge2
        have c3 := c2.trans ge2
        have ge3 := Go.new (T := T) (M := []) (o := .dK []) he3
        have ne3 := up w3 he3
        have w4 := w3.go ge3
        have c4 := c3.trans ge3
        have ge4 := Go.new (T := T) (M := []) (o := .tup [.str "A"]) he4
        have ne4 := up w4 he4
        have w5 := w4.go ge4
        have c5 := c4.trans ge4
        have ge5 := Go.new (T := T) (M := []) (o := .tup []) he5
        have ne5 := up w5 he5
        have w6 := w5.go ge5
        have c6 := c5.trans ge5
        have ge6 := Go.new (T := T) (M := []) (o := .tup [.str "A", .ref e5]) he6
        have ne6 := up w6 he6
        have w7 := w6.go ge6
        have c7 := c6.trans ge6
        have go2 := Go.new (T := T) (M := []) (o := .lst [.str "Abcdefghijk", .str "abcdefghijk", .str "A\n", .int 0, .int 1, .int (-1), .int 2, .bl true, .bl false, .non, .ref e1, .ref e2, .ref e3, .ref e4, .ref e6]) ho2
        have no2 := up w7 ho2
        have w8 := w7.go go2
        have c8 := c7.trans go2
        have po1 := (((((((ge1.trans ge2).trans ge3).trans ge4).trans ge5).trans ge6).trans go2)).lst upd_same (nn _)
        have pe1 := ((((((ge2.trans ge3).trans ge4).trans ge5).trans ge6).trans go2)).tup upd_same (nn _)
        have pe2 := (((((ge3.trans ge4).trans ge5).trans ge6).trans go2)).lst upd_same (nn _)
        have pe3 := ((((ge4.trans ge5).trans ge6).trans go2)).gr _ _ (upd_same (a := e3) (o := .dK [])) (nn _) (fun _ z => by cases z)
        have pe4 := (((ge5.trans ge6).trans go2)).tup upd_same (nn _)
        have pe5 := ((ge6.trans go2)).tup upd_same (nn _)
        have pe6 := (go2).tup upd_same (nn _)
        refine ⟨o1, o2, (([("" : Str), "number", "Number", "fun", "kind", "a", "A", "a1", "A1", "1A", "A_", "A b", "Abcdefghij", "abcdefghij"]).map V.str), [V.str "Abcdefghijk", .str "abcdefghijk", .str "A\n", .int 0, .int 1, .int (-1), .int 2, .bl true, .bl false, .non, .ref e1, .ref e2, .ref e3, .ref e4, .ref e6], rfl, rfl, po1, upd_same, by show 29 ≤ sizeLine; decide, fun o3 ho3 => ?_⟩
        have go3 := Go.new (T := T) (M := []) (o := .lst ((([("" : Str), "number", "Number", "fun", "kind", "a", "A", "a1", "A1", "1A", "A_", "A b", "Abcdefghij", "abcdefghij"]).map V.str) ++ [V.str "Abcdefghijk", .str "abcdefghijk", .str "A\n", .int 0, .int 1, .int (-1), .int 2, .bl true, .bl false, .non, .ref e1, .ref e2, .ref e3, .ref e4, .ref e6])) ho3
        have no3 := up w8 ho3
        have w9 := w8.go go3
        have c9 := c8.trans go3
        refine ⟨_, rfl, _, rfl, by show 1 ≤ sizeLine; decide, fun f1 hf1 => ⟨_, rfl, by show 1 ≤ sizeLine; decide, fun f2 hf2 => ⟨_, rfl, _, rfl, by show 2 ≤ sizeLine; decide, fun f3 hf3 => ⟨by show 2 ≤ sizeLine; decide, fun f4 hf4 => ⟨by show 2 ≤ sizeLine; decide, fun f5 hf5 => ⟨_, _, rfl, rfl, ⟨by decide, by decide, by decide⟩, by show 2 ≤ sizeLine; decide, fun f6 hf6 => ⟨by show 0 ≤ sizeLine; omega, fun f7 hf7 => ⟨by show 2 ≤ sizeLine; decide, fun f8 hf8 => ⟨by show 7 ≤ sizeLine; decide, fun o4 ho4 => ?_⟩⟩⟩⟩⟩⟩⟩⟩⟩
        have gf1 := Go.new (T := T) (M := []) (o := .tup [v]) hf1
        have nf1 := up w9 hf1
        have w10 := w9.go gf1
        have c10 := c9.trans gf1
        have gf2 := Go.new (T := T) (M := []) (o := .lst [v]) hf2
        have nf2 := up w10 hf2
        have w11 := w10.go gf2
        have c11 := c10.trans gf2
        have gf3 := Go.new (T := T) (M := []) (o := .tup [v, v]) hf3
        have nf3 := up w11 hf3
        have w12 := w11.go gf3
        have c12 := c11.trans gf3
        have gf4 := Go.new (T := T) (M := []) (o := .tup [.int 1, .int 1]) hf4
        have nf4 := up w12 hf4
        have w13 := w12.go gf4
        have c13 := c12.trans gf4
        have gf5 := Go.new (T := T) (M := []) (o := .tup [.str "num", .ref f4]) hf5
        have nf5 := up w13 hf5
        have w14 := w13.go gf5
        have c14 := c13.trans gf5
        have gf6 := Go.new (T := T) (M := []) (o := .tup [.int 0, .int 1]) hf6
        have nf6 := up w14 hf6
        have w15 := w14.go gf6
        have c15 := c14.trans gf6
        have gf7 := Go.new (T := T) (M := []) (o := .tup []) hf7
        have nf7 := up w15 hf7
        have w16 := w15.go gf7
        have c16 := c15.trans gf7
        have gf8 := Go.new (T := T) (M := []) (o := .tup [.str "Fun", .ref f7]) hf8
        have nf8 := up w16 hf8
        have w17 := w16.go gf8
        have c17 := c16.trans gf8
        have go4 := Go.new (T := T) (M := []) (o := .lst [V.ref f1, .ref f2, .ref f3, .ref f5, .int (10 ^ 30), .ref f6, .ref f8]) ho4
        have no4 := up w17 ho4
        have w18 := w17.go go4
        have c18 := c17.trans go4
        have po3 := (((((((((gf1.trans gf2).trans gf3).trans gf4).trans gf5).trans gf6).trans gf7).trans gf8).trans go4)).lst upd_same (nn _)
        have pf1 := ((((((((gf2.trans gf3).trans gf4).trans gf5).trans gf6).trans gf7).trans gf8).trans go4)).tup upd_same (nn _)
        have pf2 := (((((((gf3.trans gf4).trans gf5).trans gf6).trans gf7).trans gf8).trans go4)).lst upd_same (nn _)
        have pf3 := ((((((gf4.trans gf5).trans gf6).trans gf7).trans gf8).trans go4)).tup upd_same (nn _)
        have pf4 := (((((gf5.trans gf6).trans gf7).trans gf8).trans go4)).tup upd_same (nn _)
        have pf5 := ((((gf6.trans gf7).trans gf8).trans go4)).tup upd_same (nn _)
        have pf6 := (((gf7.trans gf8).trans go4)).tup upd_same (nn _)
        have pf7 := ((gf8.trans go4)).tup upd_same (nn _)
        have pf8 := (go4).tup upd_same (nn _)
        refine ⟨o3, o4, ((([("" : Str), "number", "Number", "fun", "kind", "a", "A", "a1", "A1", "1A", "A_", "A b", "Abcdefghij", "abcdefghij"]).map V.str) ++ [V.str "Abcdefghijk", .str "abcdefghijk", .str "A\n", .int 0, .int 1, .int (-1), .int 2, .bl true, .bl false, .non, .ref e1, .ref e2, .ref e3, .ref e4, .ref e6]), [V.ref f1, .ref f2, .ref f3, .ref f5, .int (10 ^ 30), .ref f6, .ref f8], rfl, rfl, po3, upd_same, by show 36 ≤ sizeLine; decide, fun o5 ho5 => ?_⟩
        have go5 := Go.new (T := T) (M := []) (o := .lst (((([("" : Str), "number", "Number", "fun", "kind", "a", "A", "a1", "A1", "1A", "A_", "A b", "Abcdefghij", "abcdefghij"]).map V.str) ++ [V.str "Abcdefghijk", .str "abcdefghijk", .str "A\n", .int 0, .int 1, .int (-1), .int 2, .bl true, .bl false, .non, .ref e1, .ref e2, .ref e3, .ref e4, .ref e6]) ++ [V.ref f1, .ref f2, .ref f3, .ref f5, .int (10 ^ 30), .ref f6, .ref f8])) ho5
        have no5 := up w18 ho5
        have w19 := w18.go go5
        have c19 := c18.trans go5
        have re1 := (((((((((((go3.trans gf1).trans gf2).trans gf3).trans gf4).trans gf5).trans gf6).trans gf7).trans gf8).trans go4).trans go5)).tup pe1 (nn _)
        have re4 := (((((((((((go3.trans gf1).trans gf2).trans gf3).trans gf4).trans gf5).trans gf6).trans gf7).trans gf8).trans go4).trans go5)).tup pe4 (nn _)
        have re5 := (((((((((((go3.trans gf1).trans gf2).trans gf3).trans gf4).trans gf5).trans gf6).trans gf7).trans gf8).trans go4).trans go5)).tup pe5 (nn _)
        have re6 := (((((((((((go3.trans gf1).trans gf2).trans gf3).trans gf4).trans gf5).trans gf6).trans gf7).trans gf8).trans go4).trans go5)).tup pe6 (nn _)
        have re2 := (((((((((((go3.trans gf1).trans gf2).trans gf3).trans gf4).trans gf5).trans gf6).trans gf7).trans gf8).trans go4).trans go5)).lst pe2 (nn _)
        have re3 := (((((((((((go3.trans gf1).trans gf2).trans gf3).trans gf4).trans gf5).trans gf6).trans gf7).trans gf8).trans go4).trans go5)).gr _ _ pe3 (nn _) (fun _ z => by cases z)
        have rf1 := go5.tup pf1 (nn _)
        have rf3 := go5.tup pf3 (nn _)
        have rf4 := go5.tup pf4 (nn _)
        have rf5 := go5.tup pf5 (nn _)
        have rf6 := go5.tup pf6 (nn _)
        have rf7 := go5.tup pf7 (nn _)
        have rf2 := go5.lst pf2 (nn _)
        have rf8 := go5.tup pf8 (nn _)
        have vz := hv.go ((G2).trans c19.of0)
        have dz : DvAll [a, l] _ _ (oddD _) := DvAll.append (DvAll.append (DvAll.strs _) (.cons (.str _) (.cons (.str _) (.cons (.str _) (.cons (.int _) (.cons (.int _) (.cons (.int _) (.cons (.int _) (.cons (.bl _) (.cons (.bl _) (.cons .non (.cons (.tup re1 ne1 .nil) (.cons (.lst re2 ne2 .nil) (.cons (.dct re3 ne3) (.cons (.tup re4 ne4 (.cons (.str _) .nil)) (.cons (.tup re6 ne6 (.cons (.str _) (.cons (.tup re5 ne5 .nil) .nil))) .nil))))))))))))))))
          (.cons (.tup rf1 nf1 (.cons vz .nil)) (.cons (.lst rf2 nf2 (.cons vz .nil)) (.cons (.tup rf3 nf3 (.cons vz (.cons vz .nil))) (.cons (.tup rf5 nf5 (.cons (.str _) (.cons (.tup rf4 nf4 (.cons (.int _) (.cons (.int _) .nil))) .nil))) (.cons (.int _) (.cons (.tup rf6 nf6 (.cons (.int _) (.cons (.int _) .nil))) (.cons (.tup rf8 nf8 (.cons (.str _) (.cons (.tup rf7 nf7 .nil) .nil))) .nil)))))))
        refine ⟨_, rfl, _, rfl, _, rfl, o5, _, rfl, .inl (SqL.of upd_same), a, l, (k + 1), _, rfl, (show (0 : Int) < 36 by decide), (show (36 : Int) < 1073741824 by decide), by omega, w19, c19.tb ((G2).tb ht), fun iz Hz z0 z1 Wz gz tz => ?_⟩
        obtain ⟨vv, dd, ez, mz, hz⟩ := at_dv dz z0 z1
        exact ⟨o5, _, iz, vv, rfl, rfl, SqL.of (gz.lst upd_same no5), ez, q vv dd Hz (hz.go gz) (oddD_near hn mz) (Wz.up (by omega)) (((G2).trans c19.of0).trans gz) tz⟩
    | false =>
      refine iteT ?_
      refine ⟨_, rfl, a, l, k, 6, rfl, by decide, by decide, by omega, W.go g0, g0.tb ht, fun i1 H1 j0 j1 W1 g1 t1 => ⟨_, _, rfl, rfl, _, rfl, ?_⟩⟩
      by_cases c1 : (0 : Int) < i1
      · refine if_true_of (decide_eq_true c1) ?_
        subst ev
        have lpos : 0 < xs.length := by
          cases xs with
          | nil => cases exs
          | cons _ _ => exact Nat.succ_pos _
        have G1 := g0.of0.trans g1
        have e1 := G1.tup ep np
        refine ⟨_, rfl, _, rfl, _, xs, rfl, .inr (SqT.of e1), a, l, k + 1, _, rfl, by omega, by omega, by omega, W1, t1, fun at' H2 j20 j21 W2 g2 t2 => ?_⟩
        have G2 := G1.trans g2
        have e2 := G2.tup ep np
        obtain ⟨ai, rfl⟩ : ∃ j : Nat, at' = (j : Int) := ⟨at'.toNat, by omega⟩
        have hai : ai < xs.length := by omega
        have ex := List.getElem?_eq_getElem hai
        obtain ⟨d', ed, hv'⟩ := rr.get ex
        have md := List.mem_of_getElem? ed
        have wd := wt_mem md
        obtain ⟨D, eD⟩ : ∃ D, PyData.depthAll ds = D := ⟨_, rfl⟩
        have hD := depthAll_le.mp (Nat.le_of_eq eD) d' md
        have eD1 : (PyData.tuple ds).depth = D + 1 := by rw [← eD]; simp only [PyData.depth]
        have rr2 := rr.go G2
        refine ⟨_, rfl, _, rfl, _, rfl, sl_ok (T := T) (M := [a, l]) e2 np (fun r h => up W2 h) fun r1 H3 f1 n1 g3 => ?_⟩
        have e3 := g3.tup e2 (nn _)
        refine ⟨_, rfl, _, rfl, _, rfl, p, xs, ai, xs[ai], rfl, rfl, SqT.of e3, atI_nat ex, ?_⟩
        refine ⟨dep - 1, by omega, a, l, k + 1 + 1, xs[ai], d', n, rfl, by omega, W2.go g3, hv'.go (G2.trans g3.of0), nice_tup.mp hn d' md, hl, by omega, by omega, g3.tb t2, fun v4 d4 H4 hv4 nr4 W4 g4 t4 => ?_⟩
        have e4 := g4.tup e3 np
        have f1' := g4.tup f1 n1
        refine ⟨by show 1 ≤ sizeLine; decide, fun r2 hr2 => ?_⟩
        have g5 := Go.new (T := T) (M := []) (o := .tup [v4]) hr2
        have n2 := up W4 hr2
        refine cat_ok (T := T) (M := [a, l]) (g5.tup f1' (nn _)) upd_same n1 n2 (by have := cutV_len xs none (some (ai : Int)); simp only [List.length_cons, List.length_nil]; omega) (fun r h => up (W4.go g5) h) fun r3 H5 f3 n3 g6 => ?_
        have g56 := g5.trans g6
        have e5 := g56.tup e4 (nn _)
        refine ⟨_, rfl, _, rfl, _, _, rfl, rfl, _, rfl, ?_⟩
        try unfold tNoPart
        refine sl_ok (T := T) (M := [a, l]) e5 np (fun r h => up (W4.go g56) h) fun r4 H6 f4 n4 g7 => ?_
        have f3' := g7.tup f3 (nn _)
        refine cat_ok (T := T) (M := [a, l]) f3' f4 n3 n4 (by have := cutV_len xs none (some (ai : Int)); have := cutV_len xs (some ((ai : Int) + 1)) none; simp only [List.length_append, List.length_cons, List.length_nil]; omega) (fun r h => up ((W4.go g56).go g7) h) fun r5 H7 f5 n5 g8 => ?_
        have gAll := (g56.trans g7).trans g8
        have hds : DvAll [a, l] H7 ((cutV xs none (some (ai : Int)) ++ [v4]) ++ cutV xs (some ((ai : Int) + 1)) none) ((cutD ds none (some (ai : Int)) ++ [d4]) ++ cutD ds (some (((ai + 1 : Nat) : Int))) none) :=
          DvAll.append (DvAll.append ((((rr2.cutD none (some (ai : Int))).go g3.of0).go g4).go gAll.of0) (.cons (hv4.go gAll.of0) .nil)) ((((rr2.cutD (some ((ai + 1 : Nat) : Int)) none).go g3.of0).go g4).go gAll.of0)
        rw [cutD_lo (by omega), cutD_hi (by omega)] at hds
        exact q _ _ _ (.tup f5 n5 hds) (near_in hn ed nr4) ((W4.go gAll).up (by omega)) (((G2.trans g3.of0).trans g4).trans gAll.of0) (gAll.tb t4)
      · refine if_false_of (decide_eq_false c1) ?_
        refine ⟨_, rfl, _, _, _, rfl, hv.go (g0.of0.trans g1), ?_⟩
        refine ⟨_, rfl, iteT ?_⟩
        refine ⟨_, rfl, a, l, (k + 1), 3, rfl, by decide, by decide, by omega, W1, ((g0.of0.trans g1)).tb ht, fun i2 H2 j20 j21 W2 g2 t2 => ⟨_, _, rfl, rfl, _, rfl, ?_⟩⟩
        have G2 := ((g0.of0.trans g1)).trans g2
        by_cases c2 : (0 : Int) < i2
        · refine if_true_of (decide_eq_true c2) ?_
          subst ev
          have e2 := G2.tup ep np
          have rr2 := rr.go G2
          refine ⟨_, rfl, _, rfl, _, xs, rfl, .inr (SqT.of e2), _, _, rfl, rfl, a, l, (k + 1) + 1, _, rfl, by omega, by omega, by omega, W2, t2, fun at' H3 j30 j31 W3 g3 t3 => ?_⟩
          have G3 := G2.trans g3
          have e3 := G3.tup ep np
          have fr3 : ∀ {H' : Hp}, Go T [] H3 H' → ∀ r, H' r = none → r ∉ [a, l] := fun g r h => up (W3.go g) h
          have w0 := Go.refl (T := T) (M := []) (H := H3)
          have cl := fun lo hi => cutV_len xs lo hi
          refine ⟨_, rfl, _, rfl, _, rfl, sl_ok (T := T) (M := [a, l]) e3 np (fr3 w0) fun s1 K1' f1 n1 h1 => ?_⟩
          have w1 := w0.trans h1
          refine ⟨_, rfl, _, rfl, _, _, rfl, rfl, _, rfl, ?_⟩
          try unfold tNoPart
          refine sl_ok (T := T) (M := [a, l]) (w1.tup e3 (nn _)) np (fr3 w1) fun s2 K2' f2 n2 h2 => ?_
          have w2 := w1.trans h2
          refine cat_ok (T := T) (M := [a, l]) (h2.tup f1 (nn _)) f2 n1 n2 (by have := cl none (some at'); have := cl (some (at' + 1)) none; omega) (fr3 w2) fun s3 K3' f3 n3 h3 => ?_
          have w3 := w2.trans h3
          refine ⟨_, rfl, _, rfl, _, rfl, sl_ok (T := T) (M := [a, l]) (w3.tup e3 (nn _)) np (fr3 w3) fun s4 K4' f4 n4 h4 => ?_⟩
          have w4 := w3.trans h4
          refine ⟨_, rfl, _, rfl, _, rfl, _, rfl, _, _, rfl, rfl, _, rfl, sl_ok (T := T) (M := [a, l]) (w4.tup e3 (nn _)) np (fr3 w4) fun s5 K5' f5 n5 h5 => ?_⟩
          have w5 := w4.trans h5
          refine cat_ok (T := T) (M := [a, l]) (h5.tup f4 (nn _)) f5 n4 n5 (by have := cl none (some at'); have := cl (some at') (some (at' + 1)); omega) (fr3 w5) fun s6 K6' f6 n6 h6 => ?_
          have w6 := w5.trans h6
          refine ⟨_, rfl, _, rfl, _, rfl, ?_⟩
          try unfold tNoPart
          refine sl_ok (T := T) (M := [a, l]) (w6.tup e3 (nn _)) np (fr3 w6) fun s7 K7' f7 n7 h7 => ?_
          have w7 := w6.trans h7
          refine cat_ok (T := T) (M := [a, l]) (h7.tup f6 (nn _)) f7 n6 n7 (by have := cl none (some at'); have := cl (some at') (some (at' + 1)); have := cl (some at') none; rw [List.length_append]; omega) (fr3 w7) fun s8 K8' f8 n8 h8 => ?_
          have w8 := w7.trans h8
          refine ⟨_, rfl, _, rfl, _, rfl, ?_⟩
          try unfold tNoPart
          refine sl_ok (T := T) (M := [a, l]) (w8.tup e3 (nn _)) np (fr3 w8) fun s9 K9' f9 n9 h9 => ?_
          have w9 := w8.trans h9
          refine ⟨_, rfl, _, rfl, _, rfl, sl_ok (T := T) (M := [a, l]) (w9.tup e3 (nn _)) np (fr3 w9) fun s10 K10' f10 n10 h10 => ?_⟩
          have w10 := w9.trans h10
          refine cat_ok (T := T) (M := [a, l]) (h10.tup f9 (nn _)) f10 n9 n10 (by have := cl none (some at'); have := cl (some at') none; omega) (fr3 w10) fun s11 K11' f11 n11 h11 => ?_
          have w11 := w10.trans h11
          refine ⟨by show 3 ≤ sizeLine; decide, fun o1 ho1 => ?_⟩
          have h12 := Go.new (T := T) (M := []) (o := .lst [V.ref s3, .ref s8, .ref s11]) ho1
          have w12 := w11.trans h12
          refine ⟨_, rfl, _, rfl, p, xs, rfl, .inr (SqT.of (w12.tup e3 (nn _))), fun l1 hl1 => ?_⟩
          have h13 := Go.new (T := T) (M := []) (o := .lst xs) hl1
          have w13 := w12.trans h13
          have nl1 := fr3 w12 l1 hl1
          refine ⟨_, rfl, ?_⟩
          try unfold tC
          refine times_ok (T := T) (M := [a, l]) (j := 2) (w13.tup e3 (nn _)) np (by decide) (by decide) (by omega) (fr3 w13) fun s14 K14' f14 n14 h14 => ?_
          have w14 := w13.trans h14
          refine ⟨_, rfl, ?_⟩
          try unfold tC
          refine times_ok (T := T) (M := [a, l]) (j := 3) (w14.tup e3 (nn _)) np (by decide) (by decide) (by omega) (fr3 w14) fun s15 K15' f15 n15 h15 => ?_
          have w15 := w14.trans h15
          refine ⟨by show 3 ≤ sizeLine; decide, fun o2 ho2 => ?_⟩
          have h16 := Go.new (T := T) (M := []) (o := .lst [V.ref l1, .ref s14, .ref s15]) ho2
          have w16 := w15.trans h16
          have t13 := ((h13.trans h14).trans h15).trans h16
          refine ⟨o1, o2, [V.ref s3, .ref s8, .ref s11], [V.ref l1, .ref s14, .ref s15], rfl, rfl, t13.lst upd_same (nn _), upd_same, by show 6 ≤ sizeLine; decide, fun o3 ho3 => ?_⟩
          have h17 := Go.new (T := T) (M := []) (o := .lst ([V.ref s3, .ref s8, .ref s11] ++ [V.ref l1, .ref s14, .ref s15])) ho3
          have w17 := w16.trans h17
          have no3 := fr3 w16 o3 ho3
          have u16 := h16.trans h17
          have u15 := h15.trans u16
          have u14 := h14.trans u15
          have u13 := h13.trans u14
          have u12 := h12.trans u13
          have u9 := ((h9.trans h10).trans h11).trans u12
          have u4 := ((((h4.trans h5).trans h6).trans h7).trans h8).trans u9
          have hu : nice n (.tuple ds) = true := hn
          have dxs := rr2.go (g3.trans w17.of0)
          have dz : DvAll [a, l] _ [V.ref s3, .ref s8, .ref s11, .ref l1, .ref s14, .ref s15] [PyData.tuple (cutD ds none (some at') ++ cutD ds (some (at' + 1)) none), .tuple ((cutD ds none (some at') ++ cutD ds (some at') (some (at' + 1))) ++ cutD ds (some at') none), .tuple (cutD ds (some at') none ++ cutD ds none (some at')), .list ds, .tuple (List.replicate (2 : Int).toNat ds).flatten, .tuple (List.replicate (3 : Int).toNat ds).flatten] :=
            .cons (.tup (u4.tup f3 (nn _)) n3 (DvAll.append (dxs.cutD _ _) (dxs.cutD _ _)))
            (.cons (.tup (u9.tup f8 (nn _)) n8 (DvAll.append (DvAll.append (dxs.cutD _ _) (dxs.cutD _ _)) (dxs.cutD _ _)))
            (.cons (.tup (u12.tup f11 (nn _)) n11 (DvAll.append (dxs.cutD _ _) (dxs.cutD _ _)))
            (.cons (.lst (u14.lst upd_same (nn _)) nl1 dxs)
            (.cons (.tup (u15.tup f14 (nn _)) n14 (dxs.rep _))
            (.cons (.tup (u16.tup f15 (nn _)) n15 (dxs.rep _)) .nil)))))
          have near : ∀ z ∈ [PyData.tuple (cutD ds none (some at') ++ cutD ds (some (at' + 1)) none), .tuple ((cutD ds none (some at') ++ cutD ds (some at') (some (at' + 1))) ++ cutD ds (some at') none), .tuple (cutD ds (some at') none ++ cutD ds none (some at')), .list ds, .tuple (List.replicate (2 : Int).toNat ds).flatten, .tuple (List.replicate (3 : Int).toNat ds).flatten], nearOk n (.tuple ds) z := fun z hz => tup_ways hn hz
          refine ⟨_, rfl, a, l, (k + 1) + 1 + 1, 6, rfl, by decide, by decide, by omega, W3.go w17, w17.tb t3, fun iz Hz z0 z1 Wz gz tz => ?_⟩
          obtain ⟨vv, dd, ez, mz, hz⟩ := at_dv dz z0 (by exact z1)
          exact ⟨o3, _, iz, vv, rfl, rfl, SqL.of (gz.lst upd_same no3), ez, q vv dd Hz (hz.go gz) (near dd mz) (Wz.up (by omega)) ((G3.trans w17.of0).trans gz) tz⟩
        · refine if_false_of (decide_eq_false c2) ?_
          refine ⟨_, rfl, _, _, _, rfl, hv.go G2, _, rfl, iteF (iteF ?_)⟩
          refine ⟨_, rfl, _, _, _, rfl, hv.go G2, _, rfl, iteF (iteF ?_)⟩
          have w0 := W2
          have c0 := Go.refl (T := T) (M := []) (H := H2)
          refine ⟨by show 14 ≤ sizeLine; decide, fun o1 ho1 => ?_⟩
          have go1 := Go.new (T := T) (M := []) (o := .lst (([("" : Str), "number", "Number", "fun", "kind", "a", "A", "a1", "A1", "1A", "A_", "A b", "Abcdefghij", "abcdefghij"]).map V.str)) ho1
          have no1 := up w0 ho1
          have w1 := w0.go go1
          have c1 := c0.trans go1
          refine ⟨_, rfl, _, rfl, by show 0 ≤ sizeLine; omega, fun e1 he1 => ⟨by show 0 ≤ sizeLine; omega, fun e2 he2 => fun e3 he3 => ⟨by show 1 ≤ sizeLine; decide, fun e4 he4 => ⟨by show 0 ≤ sizeLine; omega, fun e5 he5 => ⟨by show 2 ≤ sizeLine; decide, fun e6 he6 => ⟨by show 15 ≤ sizeLine; decide, fun o2 ho2 => ?_⟩⟩⟩⟩⟩⟩
          have ge1 := Go.new (T := T) (M := []) (o := .tup []) he1
          have ne1 := up w1 he1
          have w2 := w1.go ge1
          have c2 := c1.trans ge1
          have ge2 := Go.new (T := T) (M := []) (o := .lst []) he2
          have ne2 := up w2 he2
          have w3 := w2.go ge2
          have c3 := c2.trans ge2
          have ge3 := Go.new (T := T) (M := []) (o := .dK []) he3
          have ne3 := up w3 he3
          have w4 := w3.go ge3
          have c4 := c3.trans ge3
          have ge4 := Go.new (T := T) (M := []) (o := .tup [.str "A"]) he4
          have ne4 := up w4 he4
          have w5 := w4.go ge4
          have c5 := c4.trans ge4
          have ge5 := Go.new (T := T) (M := []) (o := .tup []) he5
          have ne5 := up w5 he5
          have w6 := w5.go ge5
          have c6 := c5.trans ge5
          have ge6 := Go.new (T := T) (M := []) (o := .tup [.str "A", .ref e5]) he6
          have ne6 := up w6 he6
          have w7 := w6.go ge6
          have c7 := c6.trans ge6
          have go2 := Go.new (T := T) (M := []) (o := .lst [.str "Abcdefghijk", .str "abcdefghijk", .str "A\n", .int 0, .int 1, .int (-1), .int 2, .bl true, .bl false, .non, .ref e1, .ref e2, .ref e3, .ref e4, .ref e6]) ho2
          have no2 := up w7 ho2
          have w8 := w7.go go2
          have c8 := c7.trans go2
          have po1 := (((((((ge1.trans ge2).trans ge3).trans ge4).trans ge5).trans ge6).trans go2)).lst upd_same (nn _)
          have pe1 := ((((((ge2.trans ge3).trans ge4).trans ge5).trans ge6).trans go2)).tup upd_same (nn _)
          have pe2 := (((((ge3.trans ge4).trans ge5).trans ge6).trans go2)).lst upd_same (nn _)
          have pe3 := ((((ge4.trans ge5).trans ge6).trans go2)).gr _ _ (upd_same (a := e3) (o := .dK [])) (nn _) (fun _ z => by cases z)
          have pe4 := (((ge5.trans ge6).trans go2)).tup upd_same (nn _)
          have pe5 := ((ge6.trans go2)).tup upd_same (nn _)
          have pe6 := (go2).tup upd_same (nn _)
          refine ⟨o1, o2, (([("" : Str), "number", "Number", "fun", "kind", "a", "A", "a1", "A1", "1A", "A_", "A b", "Abcdefghij", "abcdefghij"]).map V.str), [V.str "Abcdefghijk", .str "abcdefghijk", .str "A\n", .int 0, .int 1, .int (-1), .int 2, .bl true, .bl false, .non, .ref e1, .ref e2, .ref e3, .ref e4, .ref e6], rfl, rfl, po1, upd_same, by show 29 ≤ sizeLine; decide, fun o3 ho3 => ?_⟩
          have go3 := Go.new (T := T) (M := []) (o := .lst ((([("" : Str), "number", "Number", "fun", "kind", "a", "A", "a1", "A1", "1A", "A_", "A b", "Abcdefghij", "abcdefghij"]).map V.str) ++ [V.str "Abcdefghijk", .str "abcdefghijk", .str "A\n", .int 0, .int 1, .int (-1), .int 2, .bl true, .bl false, .non, .ref e1, .ref e2, .ref e3, .ref e4, .ref e6])) ho3
          have no3 := up w8 ho3
          have w9 := w8.go go3
          have c9 := c8.trans go3
          refine ⟨_, rfl, _, rfl, by show 1 ≤ sizeLine; decide, fun f1 hf1 => ⟨_, rfl, by show 1 ≤ sizeLine; decide, fun f2 hf2 => ⟨_, rfl, _, rfl, by show 2 ≤ sizeLine; decide, fun f3 hf3 => ⟨by show 2 ≤ sizeLine; decide, fun f4 hf4 => ⟨by show 2 ≤ sizeLine; decide, fun f5 hf5 => ⟨_, _, rfl, rfl, ⟨by decide, by decide, by decide⟩, by show 2 ≤ sizeLine; decide, fun f6 hf6 => ⟨by show 0 ≤ sizeLine; omega, fun f7 hf7 => ⟨by show 2 ≤ sizeLine; decide, fun f8 hf8 => ⟨by show 7 ≤ sizeLine; decide, fun o4 ho4 => ?_⟩⟩⟩⟩⟩⟩⟩⟩⟩
          have gf1 := Go.new (T := T) (M := []) (o := .tup [v]) hf1
          have nf1 := up w9 hf1
          have w10 := w9.go gf1
          have c10 := c9.trans gf1
          have gf2 := Go.new (T := T) (M := []) (o := .lst [v]) hf2
          have nf2 := up w10 hf2
          have w11 := w10.go gf2
          have c11 := c10.trans gf2
          have gf3 := Go.new (T := T) (M := []) (o := .tup [v, v]) hf3
          have nf3 := up w11 hf3
          have w12 := w11.go gf3
          have c12 := c11.trans gf3
          have gf4 := Go.new (T := T) (M := []) (o := .tup [.int 1, .int 1]) hf4
          have nf4 := up w12 hf4
          have w13 := w12.go gf4
          have c13 := c12.trans gf4
          have gf5 := Go.new (T := T) (M := []) (o := .tup [.str "num", .ref f4]) hf5
          have nf5 := up w13 hf5
          have w14 := w13.go gf5
          have c14 := c13.trans gf5
          have gf6 := Go.new (T := T) (M := []) (o := .tup [.int 0, .int 1]) hf6
          have nf6 := up w14 hf6
          have w15 := w14.go gf6
          have c15 := c14.trans gf6
          have gf7 := Go.new (T := T) (M := []) (o := .tup []) hf7
          have nf7 := up w15 hf7
          have w16 := w15.go gf7
          have c16 := c15.trans gf7
          have gf8 := Go.new (T := T) (M := []) (o := .tup [.str "Fun", .ref f7]) hf8
          have nf8 := up w16 hf8
          have w17 := w16.go gf8
          have c17 := c16.trans gf8
          have go4 := Go.new (T := T) (M := []) (o := .lst [V.ref f1, .ref f2, .ref f3, .ref f5, .int (10 ^ 30), .ref f6, .ref f8]) ho4
          have no4 := up w17 ho4
          have w18 := w17.go go4
          have c18 := c17.trans go4
          have po3 := (((((((((gf1.trans gf2).trans gf3).trans gf4).trans gf5).trans gf6).trans gf7).trans gf8).trans go4)).lst upd_same (nn _)
          have pf1 := ((((((((gf2.trans gf3).trans gf4).trans gf5).trans gf6).trans gf7).trans gf8).trans go4)).tup upd_same (nn _)
          have pf2 := (((((((gf3.trans gf4).trans gf5).trans gf6).trans gf7).trans gf8).trans go4)).lst upd_same (nn _)
          have pf3 := ((((((gf4.trans gf5).trans gf6).trans gf7).trans gf8).trans go4)).tup upd_same (nn _)
          have pf4 := (((((gf5.trans gf6).trans gf7).trans gf8).trans go4)).tup upd_same (nn _)
          have pf5 := ((((gf6.trans gf7).trans gf8).trans go4)).tup upd_same (nn _)
          have pf6 := (((gf7.trans gf8).trans go4)).tup upd_same (nn _)
          have pf7 := ((gf8.trans go4)).tup upd_same (nn _)
          have pf8 := (go4).tup upd_same (nn _)
          refine ⟨o3, o4, ((([("" : Str), "number", "Number", "fun", "kind", "a", "A", "a1", "A1", "1A", "A_", "A b", "Abcdefghij", "abcdefghij"]).map V.str) ++ [V.str "Abcdefghijk", .str "abcdefghijk", .str "A\n", .int 0, .int 1, .int (-1), .int 2, .bl true, .bl false, .non, .ref e1, .ref e2, .ref e3, .ref e4, .ref e6]), [V.ref f1, .ref f2, .ref f3, .ref f5, .int (10 ^ 30), .ref f6, .ref f8], rfl, rfl, po3, upd_same, by show 36 ≤ sizeLine; decide, fun o5 ho5 => ?_⟩
          have go5 := Go.new (T := T) (M := []) (o := .lst (((([("" : Str), "number", "Number", "fun", "kind", "a", "A", "a1", "A1", "1A", "A_", "A b", "Abcdefghij", "abcdefghij"]).map V.str) ++ [V.str "Abcdefghijk", .str "abcdefghijk", .str "A\n", .int 0, .int 1, .int (-1), .int 2, .bl true, .bl false, .non, .ref e1, .ref e2, .ref e3, .ref e4, .ref e6]) ++ [V.ref f1, .ref f2, .ref f3, .ref f5, .int (10 ^ 30), .ref f6, .ref f8])) ho5
          have no5 := up w18 ho5
          have w19 := w18.go go5
          have c19 := c18.trans go5
          have re1 := (((((((((((go3.trans gf1).trans gf2).trans gf3).trans gf4).trans gf5).trans gf6).trans gf7).trans gf8).trans go4).trans go5)).tup pe1 (nn _)
          have re4 := (((((((((((go3.trans gf1).trans gf2).trans gf3).trans gf4).trans gf5).trans gf6).trans gf7).trans gf8).trans go4).trans go5)).tup pe4 (nn _)
          have re5 := (((((((((((go3.trans gf1).trans gf2).trans gf3).trans gf4).trans gf5).trans gf6).trans gf7).trans gf8).trans go4).trans go5)).tup pe5 (nn _)
          have re6 := (((((((((((go3.trans gf1).trans gf2).trans gf3).trans gf4).trans gf5).trans gf6).trans gf7).trans gf8).trans go4).trans go5)).tup pe6 (nn _)
          have re2 := (((((((((((go3.trans gf1).trans gf2).trans gf3).trans gf4).trans gf5).trans gf6).trans gf7).trans gf8).trans go4).trans go5)).lst pe2 (nn _)
          have re3 := (((((((((((go3.trans gf1).trans gf2).trans gf3).trans gf4).trans gf5).trans gf6).trans gf7).trans gf8).trans go4).trans go5)).gr _ _ pe3 (nn _) (fun _ z => by cases z)
          have rf1 := go5.tup pf1 (nn _)
          have rf3 := go5.tup pf3 (nn _)
          have rf4 := go5.tup pf4 (nn _)
          have rf5 := go5.tup pf5 (nn _)
          have rf6 := go5.tup pf6 (nn _)
          have rf7 := go5.tup pf7 (nn _)
          have rf2 := go5.lst pf2 (nn _)
          have rf8 := go5.tup pf8 (nn _)
          have vz := hv.go ((G2).trans c19.of0)
          have dz : DvAll [a, l] _ _ (oddD _) := DvAll.append (DvAll.append (DvAll.strs _) (.cons (.str _) (.cons (.str _) (.cons (.str _) (.cons (.int _) (.cons (.int _) (.cons (.int _) (.cons (.int _) (.cons (.bl _) (.cons (.bl _) (.cons .non (.cons (.tup re1 ne1 .nil) (.cons (.lst re2 ne2 .nil) (.cons (.dct re3 ne3) (.cons (.tup re4 ne4 (.cons (.str _) .nil)) (.cons (.tup re6 ne6 (.cons (.str _) (.cons (.tup re5 ne5 .nil) .nil))) .nil))))))))))))))))
            (.cons (.tup rf1 nf1 (.cons vz .nil)) (.cons (.lst rf2 nf2 (.cons vz .nil)) (.cons (.tup rf3 nf3 (.cons vz (.cons vz .nil))) (.cons (.tup rf5 nf5 (.cons (.str _) (.cons (.tup rf4 nf4 (.cons (.int _) (.cons (.int _) .nil))) .nil))) (.cons (.int _) (.cons (.tup rf6 nf6 (.cons (.int _) (.cons (.int _) .nil))) (.cons (.tup rf8 nf8 (.cons (.str _) (.cons (.tup rf7 nf7 .nil) .nil))) .nil)))))))
          refine ⟨_, rfl, _, rfl, _, rfl, o5, _, rfl, .inl (SqL.of upd_same), a, l, ((k + 1) + 1), _, rfl, (show (0 : Int) < 36 by decide), (show (36 : Int) < 1073741824 by decide), by omega, w19, c19.tb ((G2).tb ht), fun iz Hz z0 z1 Wz gz tz => ?_⟩
          obtain ⟨vv, dd, ez, mz, hz⟩ := at_dv dz z0 z1
          exact ⟨o5, _, iz, vv, rfl, rfl, SqL.of (gz.lst upd_same no5), ez, q vv dd Hz (hz.go gz) (oddD_near hn mz) (Wz.up (by omega)) (((G2).trans c19.of0).trans gz) tz⟩
end
end K3
set_option Elab.async false
set_option linter.all false
set_option maxRecDepth 100000
set_option maxHeartbeats 8000000
namespace K3
open PySem PySem.Spec PyProof.Rows L2 GxR NdefX GA SL RZ
section
variable {P : Program} {w : World} {K : PySem.W.Frag} {mg : Str → Option Value} {base : Heap} {f c Pt CK CR CT : Addr} {fd : FuncData} {T : List Addr}
theorem ok_law_sizes (F : Fun K "_law_sizes" "_law_sizes" s_law_sizes f fd) (B : Bl mg) (hs : mg "sum" = none) : FnOk P w K mg base CX0 1 f fd ["table", "lines"] (sp_law_sizes T) := by
  have nd := sc_law_sizes.nd
  refine F.ok sc_law_sizes (fun vs H Q E h => ?_) (fun cdv A outer s H vs Q E hr h => ?_)
  · obtain ⟨_, _, _, _, _, rfl, _⟩ := h
    rfl
  obtain ⟨D, rv, ks, rows, sorts, rfl, hD, hv, hk, hl, hfit, ht, q⟩ := h
  have hu : (A.deeper (envOfC "_law_sizes" (defScope s_law_sizes) s.heap.objs.size f cdv)).units + 1 < cLine := by
    have := hr.un
    omega
  refine ⟨_, pss_cons (ps_set (i := 2) nd rfl (.inr rfl) (pe_lst pa_nil))
    (pss_cons (ps_for PassesOwn.never rfl (pi_tup (pv 1)) (pg_tup rfl (pgs_cons (pg_name (i := 3) nd rfl (.inl rfl)) (pgs_cons (pg_name (i := 4) nd rfl (.inr rfl)) pgs_nil)))
      (pss_cons (ps_set (i := 5) nd rfl (.inr rfl) (pe_ix ix_tup (pe_dget hu (pv 0) (pv 3) (fun _ _ => rfl)) pe_int (fun _ _ => rfl)))
      (pss_one (ps_expr (pe_bm PySem.F.plainAttrs_list PySem.F.slot_list_append PySem.F.type_list_append mt_append (pv 2) (pa_cons (pe_op op_add pe_int (pe_callB (cr_sum rfl) rfl hs (by decide +kernel)
        (pa_cons (pe_lc (own := [("k", 6)]) (g := gName 6) (tt := tTest (tOp rNe (tOp (rIxT K) (tVar 5) (tVar 6)) (tC (.str "number")))) (te := tOp (rIxL K) (tVar 2) (tOp (rIxT K) (tVar 4) (tVar 6))) rfl nd (pi_range1 rfl B.range (pa_cons (pe_lenq B (pv 5)) pa_nil))
          (blkOk_by (own := [("k", 6)]) (N := ["table", "lines", "found", "maker", "entries", "fields", "k"]) (sc := defScope s_law_sizes) (by decide +kernel)) (fun _ _ _ _ _ => pg_name (i := 6) nd rfl (.inl rfl)) (fun _ _ _ _ _ => pts_one (pt_cmpR op_ne (pe_ix ix_tup (pv 5) (pv 6) (fun _ _ => rfl)) pe_str (nomark _)))
          (fun _ _ _ _ _ => pe_ix ix_list (pv 2) (pe_ix ix_tup (pv 4) (pv 6) (fun _ _ => rfl)) (fun _ _ => rfl))) pa_nil) (by decide) (by decide))) pa_nil))))))
    (pss_one (ps_ret (pe_toTup B (pv 2))))), ?_⟩
  have nn : ∀ b : Addr, b ∉ ([] : List Addr) := fun b => List.not_mem_nil
  obtain ⟨nu, _, _⟩ := kinds_names hk
  obtain ⟨a, xs, rfl, ea, _, dx⟩ := dv_tup hv
  have lx := dx.length
  rw [List.length_map] at lx
  refine ⟨by show 0 ≤ sizeLine; omega, fun fa hfa => ?_⟩
  refine ⟨_, rfl, a, rfl, ⟨_, SqT.of ((Go.new (T := T) (M := []) (o := .lst []) hfa).tup ea (nn _))⟩, ?_⟩
  refine for_it (n := xs.length) walk_tup (fun i σ H' => ∃ p3 p4 p5, σ = [some (.ref D), some (.ref a), some (.ref fa), p3, p4, p5, none] ∧ Go T [] H H' ∧ H' fa = some (.lst ((sizesL ks (rows.take i)).map V.int)))
    ⟨none, none, none, rfl, Go.new hfa, upd_same⟩
    (fun i σ H' _ ⟨_, _, _, _, g, _⟩ => SqT.of (g.tup ea (nn _))) (fun i x σ H3 H4 hi h y => ?_) (fun σ H3 h => ?_)
  · obtain ⟨p3, p4, p5, rfl, g3, e3⟩ := h
    obtain ⟨rfl, ex⟩ := y
    obtain ⟨d, ed, hx⟩ := dx.get ex
    rw [List.getElem?_map] at ed
    obtain ⟨⟨mn, es⟩, er, rfl⟩ := Option.map_eq_some_iff.mp ed
    obtain ⟨⟨kd, p, m, hm, hmn, hel, hfi⟩, _⟩ := hfit.2 i (mn, es) er
    have hx4 := hx.go g3
    obtain ⟨r, vx, vy, rfl, er', nr, hvx, hvy⟩ := dv_pair hx4
    cases hvx
    obtain ⟨b, ws, rfl, eb, nb, dw⟩ := dv_tup hvy
    have ew := of_ints dw
    subst ew
    have hxn : mn ∈ namesM (rowsM ks) := List.mem_map.mpr ⟨_, hm, hmn⟩
    have hD4 := hD.go g3
    have lfo := sizesL_len (ks := ks) (rows.take i)
    rw [List.length_take] at lfo
    have nx := sizesL_next (ks := ks) er
    have fe : flK ks mn = flds m := by have hm2 : SL.mkN m = mn := hmn; rw [← hm2]; exact flK_eq nu hm
    have h71 := hfit.1
    generalize hfd : sizesL ks (rows.take i) = cs at *
    have lir : i < rows.length := by omega
    refine ⟨r, _, rfl, SqT.of er', rfl, _, _, rfl, _, _, rfl, rfl, ?_⟩
    obtain ⟨kd', p', m', t', fv', h1, h2, h3, h4, h5⟩ := hD4.get hxn
    have e2 := row_one nu hm h1 (by show SL.mkN m = SL.mkN m'; rw [hmn, h2])
    cases e2
    obtain ⟨fl, rfl, ef, _, lf⟩ := flds_dv (rows_maker hk hm) h5
    refine ⟨_, rfl, _, rfl, D, _, rfl, h3, t', _, 2, _, rfl, rfl, SqT.of h4, atI_nat (j := 2) rfl, ?_⟩
    have lz : ((flds m).zip es).length = (flds m).length := by
      rw [List.length_zip]
      have : es.length = (flds m).length := hel
      omega
    refine ⟨_, rfl, .inl ⟨rfl, _, SqL.of e3⟩, _, rfl, _, _, rfl, .inr (SqT.of ef), _, rfl, by omega, by rw [List.length_map]; omega, fun D' hD' => ?_⟩
    refine lc_it (walk_range (lo := 0) (n := ((((flds m).map V.str).length : Nat) : Int).toNat)) (fun j H' => Go T [] H4 H' ∧ H' D' = some (.lst (((((((flds m).zip es).take j).filterMap keepE)).map fun z => cs.getD z.toNat 0).map V.int)))
      ⟨Go.new hD', by rw [List.take_zero]; exact upd_same⟩ (fun _ _ _ _ => trivial) (fun j v H5 H6 hj h y => ?_) (fun H5 h => ?_)
    · obtain ⟨g5, ac1⟩ := h
      obtain ⟨rfl, ey⟩ := y
      have ey2 : v = V.int (j : Int) := by rw [ey]; show V.int (0 + (j : Int)) = _; rw [Int.zero_add]
      clear ey
      subst ey2
      rw [Int.toNat_natCast, List.length_map] at hj
      have e1 : (flds m)[j]? = some (flds m)[j] := List.getElem?_eq_getElem hj
      have hel2 : es.length = (flds m).length := hel
      have hj2 : j < es.length := by omega
      have e2 : es[j]? = some es[j] := List.getElem?_eq_getElem hj2
      generalize (flds m)[j] = f' at e1
      generalize es[j] = z at e2
      have nxs := among_next e1 e2
      have la := among_len (((flds m).zip es).take j)
      rw [List.length_take] at la
      refine ⟨rfl, _, rfl, _, rfl, fl, _, _, .str f', rfl, rfl, SqT.of (g5.tup ef (nn _)), atI_nat (by rw [List.getElem?_map, e1] <;> rfl), rfl, _, rfl, ?_⟩
      by_cases c1 : f' = "number"
      · refine if_false_of (by rw [c1]; simp) ?_
        refine ⟨g5, ?_⟩
        rw [nxs, if_pos c1, List.append_nil]
        exact ac1
      · refine if_true_of (by simp [c1]) ?_
        rcases hfi j f' z e1 e2 with e | ⟨n, rfl, en⟩
        · exact absurd e c1
        have ln : n < cs.length := by
          have := (List.getElem?_eq_some_iff.mp en).1
          rw [List.length_take] at this
          omega
        refine ⟨_, rfl, _, rfl, _, rfl, b, _, _, .int (n : Int), rfl, rfl, SqT.of (g5.tup eb (nn _)), atI_nat (by rw [List.getElem?_map, e2] <;> rfl), fa, _, (n : Int), _, rfl, rfl, SqL.of (g5.lst e3 (nn _)), atI_nat (by rw [List.getElem?_map, List.getElem?_eq_getElem ln] <;> rfl), ?_⟩
        refine ⟨_, ac1, by rw [List.length_map, List.length_map, sizeLine_eq]; omega, g5.over hD' ac1 (fun _ z => by cases z), ?_⟩
        rw [upd_same, nxs, if_neg c1, List.map_append, List.map_append]
        have e0 : cs.getD ((n : Int)).toNat 0 = cs[n] := by rw [Int.toNat_natCast, List.getD_eq_getElem?_getD, List.getElem?_eq_getElem ln] <;> rfl
        simp only [List.map_cons, List.map_nil, e0]
    · obtain ⟨g5, ac1⟩ := h
      rw [Int.toNat_natCast, List.length_map, ← lz, List.take_length] at ac1
      have e35 := g5.lst e3 (nn _)
      refine ⟨D', _, rfl, SqL.of ac1, _, _, rfl, rfl, fa, _, _, rfl, rfl, e35, by rw [List.length_map, sizeLine_eq]; omega, _, _, _, rfl, (g3.trans g5).over hfa e35 (fun _ z => by cases z), ?_⟩
      rw [upd_same, nx]
      unfold stepZ
      rw [fe, List.map_append]
      rfl
  · obtain ⟨p3, p4, p5, rfl, g3, e3⟩ := h
    rw [lx, List.take_length] at e3
    refine ⟨_, rfl, .inl ⟨fa, _, rfl, SqL.of e3, fun r hr' => ?_⟩⟩
    have gn := Go.new (T := T) (M := []) (o := .tup ((sizesL ks rows).map V.int)) hr'
    exact q r _ (g3.al _ hr') upd_same (g3.trans gn) ((g3.trans gn).tb ht)
end
end K3
set_option Elab.async false
set_option linter.all false
set_option maxRecDepth 100000
set_option maxHeartbeats 8000000
namespace K3
open PySem PySem.Spec PyProof.Rows L2 GxR NdefX GA SL RZ
abbrev s_law_turned : Stmt := top 46
theorem sc_law_turned : FnScope ["well", "table", "lines", "spots", "at", "k", "maker", "entries", "to"] ["well", "table", "lines"] (defScope s_law_turned) := ⟨rfl, rfl, rfl, by decide +kernel, rfl, by decide +kernel, by decide +kernel⟩
/-- a place of an entry of the rows -/
def spotOk (M : List Addr) (H : Hp) (rows : List (Str × List Int)) (x : V) : Prop := ∃ (t : Addr) (i j : Nat) (r : Str × List Int), x = .ref t ∧ H t = some (.tup [.int (i : Int), .int (j : Int)]) ∧ t ∉ M ∧ rows[i]? = some r ∧ j < r.2.length
theorem spotOk.go {T M M' : List Addr} {H H' : Hp} {rows : List (Str × List Int)} {x : V} (h : spotOk M H rows x) (g : Go T M' H H') (s : ∀ b ∈ M', b ∈ M) : spotOk M H' rows x := by
  obtain ⟨t, i, j, r, h1, h2, h3, h4, h5⟩ := h
  exact ⟨t, i, j, r, h1, g.tup h2 (fun z => h3 (s t z)), h3, h4, h5⟩
/-- rows of any entries -/
def shapeR (rows : List (Str × List Int)) : Prop := ∀ r ∈ rows, nmOk r.1 ∧ r.2.length ≤ 4 ∧ ∀ z ∈ r.2, z.natAbs ≤ bigInt
theorem shapeR.sub {rows rows' : List (Str × List Int)} (h : shapeR rows) (s : ∀ r ∈ rows', r ∈ rows) : shapeR rows' := fun r hr => h r (s r hr)
def turnR (rows : List (Str × List Int)) (i j : Nat) (r : Str × List Int) (z : Int) : List (Str × List Int) := (rows.take i ++ [(r.1, (r.2.take j ++ [z]) ++ r.2.drop (j + 1))]) ++ rows.drop (i + 1)
theorem turnR_ok {rows : List (Str × List Int)} {i j : Nat} {r : Str × List Int} {z : Int} (h : shapeR rows) (hi : rows[i]? = some r) (hj : j < r.2.length) (hz : z.natAbs ≤ bigInt) : shapeR (turnR rows i j r z) ∧ (turnR rows i j r z).length = rows.length := by
  have li := (List.getElem?_eq_some_iff.mp hi).1
  refine ⟨fun q hq => ?_, ?_⟩
  · rcases List.mem_append.mp hq with m | m
    · rcases List.mem_append.mp m with m | m
      · exact h q (List.mem_of_mem_take m)
      · rw [List.mem_singleton.mp m]
        obtain ⟨h1, h2, h3⟩ := h r (List.mem_of_getElem? hi)
        refine ⟨h1, ?_, fun y hy => ?_⟩
        · show ((r.2.take j ++ [z]) ++ r.2.drop (j + 1)).length ≤ 4
          rw [List.length_append, List.length_append, List.length_take, List.length_drop, List.length_singleton]
          omega
        · rcases List.mem_append.mp (show y ∈ (r.2.take j ++ [z]) ++ r.2.drop (j + 1) from hy) with m | m
          · rcases List.mem_append.mp m with m | m
            · exact h3 y (List.mem_of_mem_take m)
            · rw [List.mem_singleton.mp m]; exact hz
          · exact h3 y (List.mem_of_mem_drop m)
    · exact h q (List.mem_of_mem_drop m)
  · unfold turnR
    rw [List.length_append, List.length_append, List.length_take, List.length_drop, List.length_singleton]
    omega
def sp_turned (T : List Addr) : Sp := fun vs H Q _ => ∃ (a l : Addr) (k : Int) (tv v : V) (rows : List (Str × List Int)), vs = [.ref a, tv, v] ∧ k ≤ 549755813888 ∧ WellAt a l H k ∧ Dv [a, l] H v (rowsD rows) ∧ shapeR rows ∧ rows.length ≤ 97 ∧ Tabs T H ∧
  ∀ v' rows' H', Dv [a, l] H' v' (rowsD rows') → shapeR rows' → rows'.length = rows.length → WellAt a l H' (k + 5) → Go T [a, l] H H' → Tabs T H' → Q v' H'
theorem at8 {x0 x1 x2 x3 x4 x5 x6 x7 : Int} {b : Int} {i : Int} (h0 : 0 ≤ i) (h1 : i < 8) (h : ∀ x ∈ [x0, x1, x2, x3, x4, x5, x6, x7], (x.natAbs : Int) ≤ b) : ∃ z : Int, atI [V.int x0, V.int x1, V.int x2, V.int x3, V.int x4, V.int x5, V.int x6, V.int x7] i = some (.int z) ∧ (z.natAbs : Int) ≤ b := by
  have : i = 0 ∨ i = 1 ∨ i = 2 ∨ i = 3 ∨ i = 4 ∨ i = 5 ∨ i = 6 ∨ i = 7 := by omega
  rcases this with rfl | rfl | rfl | rfl | rfl | rfl | rfl | rfl
  · exact ⟨x0, rfl, h _ (by simp)⟩
  · exact ⟨x1, rfl, h _ (by simp)⟩
  · exact ⟨x2, rfl, h _ (by simp)⟩
  · exact ⟨x3, rfl, h _ (by simp)⟩
  · exact ⟨x4, rfl, h _ (by simp)⟩
  · exact ⟨x5, rfl, h _ (by simp)⟩
  · exact ⟨x6, rfl, h _ (by simp)⟩
  · exact ⟨x7, rfl, h _ (by simp)⟩
section
variable {P : Program} {w : World} {K : PySem.W.Frag} {mg : Str → Option Value} {base : Heap} {f c Pt CK CR CT : Addr} {fd : FuncData} {T : List Addr}
theorem ok_law_turned (F : Fun K "_law_turned" "_law_turned" s_law_turned f fd) (B : Bl mg) (Fd : Fnn P w K mg base CX0 1 "_law_draw" ["well", "many"] (sp_draw T)) : FnOk P w K mg base CX0 2 f fd ["well", "table", "lines"] (sp_turned T) := by
  have nd := sc_law_turned.nd
  refine F.ok sc_law_turned (fun vs H Q E h => ?_) (fun cdv A outer s H vs Q E hr h => ?_)
  · obtain ⟨_, _, _, _, _, _, rfl, _⟩ := h
    rfl
  obtain ⟨a, l, k, tv, v, rows, rfl, hk, W, hv, hsh, h97, ht, q⟩ := h
  have hu : (A.deeper (envOfC "_law_turned" (defScope s_law_turned) s.heap.objs.size f cdv)).units < cLine := by
    have := hr.un
    omega
  refine ⟨_, pss_cons (ps_set (i := 3) nd rfl (.inl rfl) (pe_lst pa_nil))
    (pss_cons (ps_for PassesOwn.never rfl (pi_range1 rfl B.range (pa_cons (pe_lenq B (pv 2)) pa_nil)) (pg_name (i := 4) nd rfl (.inr rfl))
      (pss_one (ps_set (i := 3) nd rfl (.inl rfl) (pe_op op_cat (pv 3) (pe_lc (own := [("k", 5)]) (g := gName 5) (tt := tYes) (te := tTup (tCons (tVar 4) (tCons (tVar 5) tNil))) rfl nd (pi_range1 rfl B.range (pa_cons (pe_lenq B (pe_ix ix_tup (pe_ix ix_tup (pv 2) (pv 4) (fun _ _ => rfl)) pe_int (fun _ _ => rfl))) pa_nil))
        (blkOk_by (own := [("k", 5)]) (N := ["well", "table", "lines", "spots", "at", "k", "maker", "entries", "to"]) (sc := defScope s_law_turned) (by decide +kernel)) (fun _ _ _ _ _ => pg_name (i := 5) nd rfl (.inl rfl)) (fun _ _ _ _ _ => pts_nil) (fun _ _ _ _ _ => pe_tup (pa_cons (pv 4) (pa_cons (pv 5) pa_nil))))))))
    (pss_cons (ps_if (pt_cmpR (op_eqNil hu) (pv 3) (pe_lst pa_nil) (nomark _)) (pss_one (ps_ret (pv 2))) pss_nil)
    (pss_cons (ps_asg (pe_ix ix_list (pv 3) (pe_fn Fd hr (by decide) pass0 (pa_cons (pv 0) (pa_cons (pe_lenq B (pv 3)) pa_nil))) (fun _ _ => rfl)) (pg_tup rfl (pgs_cons (pg_name (i := 4) nd rfl (.inr rfl)) (pgs_cons (pg_name (i := 5) nd rfl (.inl rfl)) pgs_nil))))
    (pss_cons (ps_asg (pe_ix ix_tup (pv 2) (pv 4) (fun _ _ => rfl)) (pg_tup rfl (pgs_cons (pg_name (i := 6) nd rfl (.inl rfl)) (pgs_cons (pg_name (i := 7) nd rfl (.inl rfl)) pgs_nil))))
    (pss_cons (ps_set (i := 8) nd rfl (.inl rfl) (pe_ix ix_list (pe_lst (pa_cons (pv 4) (pa_cons (pe_op op_add (pv 4) pe_int) (pa_cons (pe_lenq B (pv 2)) (pa_cons (pe_un un_neg pe_int) (pa_cons pe_int (pa_cons (pe_un un_neg (pe_lenq B (pv 2))) (pa_cons (pe_op op_sub (pv 4) pe_int) (pa_cons (pe_fn Fd hr (by decide) pass0 (pa_cons (pv 0) (pa_cons (pe_op op_add (pv 4) pe_int) pa_nil))) pa_nil)))))))))
      (pe_fn Fd hr (by decide) pass0 (pa_cons (pv 0) (pa_cons pe_int pa_nil))) (fun _ _ => rfl)))
    (pss_one (ps_ret (pe_op op_catA (pe_op op_catA (pe_slice sl_tupA (pv 2) po_none (po_some (pv 4))) (pe_tup (pa_cons (pe_tup (pa_cons (pv 6) (pa_cons (pe_op op_catA (pe_op op_catA (pe_slice sl_tupA (pv 7) po_none (po_some (pv 5))) (pe_tup (pa_cons (pv 8) pa_nil))) (pe_slice sl_tupA (pv 7) (po_some (pe_op op_add (pv 5) pe_int)) po_none)) pa_nil))) pa_nil))) (pe_slice sl_tupA (pv 2) (po_some (pe_op op_add (pv 4) pe_int)) po_none))))))))), ?_⟩
  have nn : ∀ b : Addr, b ∉ ([] : List Addr) := fun b => List.not_mem_nil
  have up : ∀ {p : Addr} {H' : Hp} {k' : Int}, WellAt a l H' k' → H' p = none → p ∉ [a, l] := fun w h => nin (w.ne h)
  obtain ⟨p, xs, rfl, ep, np, dx⟩ := dv_tup hv
  have lx := dx.length
  rw [List.length_map] at lx
  refine ⟨by show 0 ≤ sizeLine; omega, fun s0 hs0 => ?_⟩
  have g0 := Go.new (T := T) (M := []) (o := .lst []) hs0
  refine ⟨_, rfl, _, _, rfl, .inr (SqT.of (g0.tup ep (nn _))), ?_⟩
  refine ⟨_, rfl, by omega, by omega, ?_⟩
  refine for_it (walk_range (lo := 0) (n := (((xs.length : Nat) : Int).toNat))) (fun i σ H' => ∃ sp ys p4 p5, σ = [some (.ref a), some tv, some (.ref p), some (.ref sp), p4, p5, none, none, none] ∧ Go T [] H H' ∧ H' sp = some (.lst ys) ∧ sp ∉ [a, l] ∧ (∀ y ∈ ys, spotOk [a, l] H' rows y) ∧ ys.length ≤ 4 * i)
    ⟨s0, [], none, none, rfl, g0, upd_same, up W hs0, (fun y hy => absurd hy List.not_mem_nil), by simp⟩ (fun _ _ _ _ _ => trivial) (fun i x σ H3a H3 hi h y => ?_) (fun σ H3 h => ?_)
  · obtain ⟨sp, ys, p4, p5, rfl, g3, e3, n3, al, ly⟩ := h
    obtain ⟨rfl, ey⟩ := y
    have ey2 : x = V.int (i : Int) := by rw [ey]; show V.int (0 + (i : Int)) = _; rw [Int.zero_add]
    clear ey
    subst ey2
    rw [Int.toNat_natCast] at hi
    have ex : xs[i]? = some xs[i] := List.getElem?_eq_getElem hi
    generalize xs[i] = xi at ex
    obtain ⟨d, ed, hx⟩ := dx.get ex
    rw [List.getElem?_map] at ed
    obtain ⟨⟨mn, es⟩, er, rfl⟩ := Option.map_eq_some_iff.mp ed
    obtain ⟨_, l4, _⟩ := hsh _ (List.mem_of_getElem? er)
    have l4 : es.length ≤ 4 := l4
    obtain ⟨r, vx, vy, rfl, er', nr, hvx, hvy⟩ := dv_pair hx
    cases hvx
    obtain ⟨b, ws, rfl, eb, nb, dw⟩ := dv_tup hvy
    have lw := dw.length
    rw [List.length_map] at lw
    have lw : ws.length = es.length := lw
    have W3 := W.go g3
    refine ⟨_, rfl, _, rfl, _, rfl, p, xs, _, _, rfl, rfl, SqT.of (g3.tup ep (nn _)), atI_nat ex, r, _, 1, _, rfl, rfl, SqT.of (g3.tup er' (nn _)), atI_nat (j := 1) rfl, b, _, rfl, .inr (SqT.of (g3.tup eb (nn _))), ?_⟩
    refine ⟨_, rfl, by omega, by omega, fun D hD => ?_⟩
    refine lc_it (walk_range (lo := 0) (n := (((ws.length : Nat) : Int).toNat))) (fun j H' => Go T [] H3 H' ∧ ∃ acc, H' D = some (.lst acc) ∧ acc.length = j ∧ ∀ y ∈ acc, spotOk [a, l] H' rows y) ⟨Go.new hD, [], upd_same, rfl, fun y hy => absurd hy List.not_mem_nil⟩ (fun _ _ _ _ => trivial) (fun j v H5 H6 hj h y => ?_) (fun H5 h => ?_)
    · obtain ⟨g5, acc, ac1, ac2, ac3⟩ := h
      obtain ⟨rfl, ey⟩ := y
      have ey2 : v = V.int (j : Int) := by rw [ey]; show V.int (0 + (j : Int)) = _; rw [Int.zero_add]
      clear ey
      subst ey2
      rw [Int.toNat_natCast] at hj
      refine ⟨rfl, _, rfl, _, rfl, by show 2 ≤ sizeLine; decide, fun t htt => ?_⟩
      have u := Go.new (T := T) (M := []) (o := .tup [V.int (i : Int), V.int (j : Int)]) htt
      have ac1' := u.lst ac1 (nn _)
      have gs := Go.set (T := T) (M := [D]) (o := .lst (acc ++ [V.ref t])) ac1' (fun _ z => by cases z) (by simp)
      have tD : t ≠ D := fun e => by rw [e, ac1] at htt; cases htt
      have st : ∀ y, spotOk [a, l] H6 rows y → spotOk [a, l] (upd (upd H6 t (.tup [V.int (i : Int), V.int (j : Int)])) D (.lst (acc ++ [V.ref t]))) rows y := fun y hy => by
        obtain ⟨t', i', j', r', h1, h2, h3, h4, h5⟩ := hy
        have h2' := u.tup h2 (nn _)
        exact ⟨t', i', j', r', h1, by rw [upd_ne (fun z => by rw [z, ac1'] at h2'; cases h2')]; exact h2', h3, h4, h5⟩
      refine ⟨acc, ac1', by rw [sizeLine_eq]; omega, (g5.trans u).over hD ac1' (fun _ z => by cases z), acc ++ [V.ref t], upd_same, by rw [List.length_append, ac2] <;> rfl, fun y hy => ?_⟩
      rcases List.mem_append.mp hy with m | m
      · exact st y (ac3 y m)
      · rw [List.mem_singleton.mp m]
        exact ⟨t, i, j, (mn, es), rfl, by rw [upd_ne tD]; exact upd_same, up ((W3.go g5)) htt, er, by show j < es.length; omega⟩
    · obtain ⟨g5, acc, ac1, ac2, ac3⟩ := h
      rw [Int.toNat_natCast] at ac2
      have e35 := g5.lst e3 (nn _)
      refine ⟨sp, D, ys, acc, rfl, rfl, e35, ac1, by rw [sizeLine_eq]; omega, fun r' hr' => ?_⟩
      have u := Go.new (T := T) (M := []) (o := .lst (ys ++ acc)) hr'
      refine ⟨r', ys ++ acc, _, _, rfl, (g3.trans g5).trans u, upd_same, up (W3.go g5) hr', fun y hy => ?_, by rw [List.length_append]; omega⟩
      rcases List.mem_append.mp hy with m | m
      · exact ((al y m).go (M' := []) g5 (by simp)).go (M' := []) u (by simp)
      · exact (ac3 y m).go (M' := []) u (by simp)
  obtain ⟨sp, ys, p4, p5, rfl, g3, e3, n3, al, ly⟩ := h
  rw [Int.toNat_natCast] at ly
  have W3 := W.go g3
  refine ⟨_, rfl, by show 0 ≤ sizeLine; omega, fun e0 he0 => ?_⟩
  have u0 := Go.new (T := T) (M := []) (o := .lst []) he0
  refine ⟨sp, e0, ys, rfl, rfl, SqL.of (u0.lst e3 (nn _)), SqL.of upd_same, _, rfl, ?_⟩
  have g4 := g3.trans u0
  have W4 := W.go g4
  have e4 := u0.lst e3 (nn _)
  have al4 : ∀ y ∈ ys, spotOk [a, l] _ rows y := fun y hy => (al y hy).go (M' := []) u0 (by simp)
  have hv4 := hv.go (g4.of0 : Go T [a, l] H _)
  have t4 := g4.tb ht
  generalize upd H3 e0 (.lst []) = H4 at *
  cases ys with
  | nil =>
    refine iteT ?_
    exact ⟨_, rfl, q _ rows H4 hv4 hsh rfl (W4.up (by omega)) g4.of0 t4⟩
  | cons y0 ys =>
    refine iteF ?_
    have lpos : (0 : Int) < (((y0 :: ys).length : Nat) : Int) := by rw [List.length_cons]; omega
    refine ⟨_, rfl, _, rfl, _, rfl, sp, _, rfl, .inl (SqL.of e4), a, l, k, _, rfl, lpos, by omega, by omega, W4, t4, fun i1 H5 i10 i11 W5 g5 t5 => ?_⟩
    obtain ⟨n1, rfl⟩ : ∃ n : Nat, i1 = (n : Int) := ⟨i1.toNat, by omega⟩
    have hn1 : n1 < (y0 :: ys).length := by omega
    have ex1 := List.getElem?_eq_getElem hn1
    obtain ⟨t, i, j, r, et1, et2, et3, et4, et5⟩ := (al4 _ (List.mem_of_getElem? ex1)).go g5 (fun _ z => z)
    rw [et1] at ex1
    have li := (List.getElem?_eq_some_iff.mp et4).1
    refine ⟨sp, _, (n1 : Int), _, rfl, rfl, SqL.of (g5.lst e4 n3), atI_nat ex1, t, _, rfl, SqT.of et2, rfl, _, _, rfl, _, _, rfl, rfl, ?_⟩
    have ep5 : H5 p = some (.tup xs) := g5.tup (g4.tup ep (nn _)) np
    have exi : xs[i]? = some xs[i] := List.getElem?_eq_getElem (by omega)
    generalize xs[i] = xi at exi
    have dx5 := (dx.go (g4.of0 : Go T [a, l] H H4)).go g5
    obtain ⟨d, ed, hx⟩ := dx5.get exi
    rw [List.getElem?_map, et4] at ed
    obtain ⟨mn, es⟩ := r
    cases ed
    obtain ⟨ra, vx, vy, rfl, er', nr, hvx, hvy⟩ := dv_pair hx
    cases hvx
    obtain ⟨b, ws, rfl, eb, nb, dw⟩ := dv_tup hvy
    have lw := dw.length
    rw [List.length_map] at lw
    have lw : ws.length = es.length := lw
    have et5 : j < es.length := et5
    obtain ⟨_, l4, _⟩ := hsh _ (List.mem_of_getElem? et4)
    have l4 : es.length ≤ 4 := l4
    refine ⟨_, rfl, _, rfl, p, xs, (i : Int), _, rfl, rfl, SqT.of ep5, atI_nat exi, ra, _, rfl, SqT.of er', rfl, _, _, rfl, _, _, rfl, rfl, ?_⟩
    refine ⟨_, rfl, _, rfl, _, _, rfl, rfl, _, rfl, _, _, rfl, .inr (SqT.of ep5), _, rfl, _, rfl, p, _, rfl, .inr (SqT.of ep5), _, rfl, _, rfl, _, _, rfl, rfl, _, rfl, _, rfl, _, _, rfl, rfl, ?_⟩
    refine ⟨a, l, k + 1, _, rfl, by omega, by omega, by omega, W5, t5, fun i2 H6 i20 i21 W6 g6 t6 => ?_⟩
    refine ⟨by show 8 ≤ sizeLine; decide, fun o1 ho1 => ?_⟩
    have u1 := Go.new (T := T) (M := []) (o := .lst [V.int (i : Int), V.int ((i : Int) + 1), V.int ((xs.length : Nat) : Int), V.int (-1), V.int 0, V.int (-((xs.length : Nat) : Int)), V.int ((i : Int) - 1), V.int i2]) ho1
    have no1 := up W6 ho1
    refine ⟨_, rfl, a, l, k + 1 + 1, 8, rfl, by decide, by decide, by omega, W6.go u1, u1.tb t6, fun i3 H7 i30 i31 W7 g7 t7 => ?_⟩
    obtain ⟨z, ez, bz⟩ := at8 (x0 := (i : Int)) (x1 := (i : Int) + 1) (x2 := ((xs.length : Nat) : Int)) (x3 := -1) (x4 := 0) (x5 := -((xs.length : Nat) : Int)) (x6 := (i : Int) - 1) (x7 := i2) (b := 200) i30 i31 (fun x hx => by
      simp only [List.mem_cons, List.not_mem_nil, or_false] at hx
      rcases hx with rfl | rfl | rfl | rfl | rfl | rfl | rfl | rfl <;> omega)
    have G7 : Go T [a, l] H5 H7 := (g6.trans u1.of0).trans g7
    refine ⟨o1, _, i3, _, rfl, rfl, SqL.of (g7.lst upd_same no1), ez, ?_⟩
    have zb : z.natAbs ≤ bigInt := Nat.le_trans (show z.natAbs ≤ 200 by omega) (by unfold bigInt; decide +kernel)
    obtain ⟨sh', len'⟩ := turnR_ok hsh et4 (z := z) et5 zb
    have ep7 := G7.tup ep5 np
    have eb7 := G7.tup eb nb
    have dx7 := dx5.go G7
    have dw7 := dw.go G7
    have fr : ∀ {H' : Hp}, Go T [] H7 H' → ∀ r, H' r = none → r ∉ [a, l] := fun g r h => up (W7.go g) h
    refine ⟨_, rfl, _, rfl, _, rfl, sl_ok (T := T) (M := [a, l]) ep7 np (fr Go.refl) fun s1 K1 f1 n1 h1 => ?_⟩
    refine ⟨_, rfl, _, rfl, _, rfl, _, rfl, sl_ok (T := T) (M := [a, l]) (h1.tup eb7 (nn _)) nb (fr h1) fun s2 K2 f2 n2 h2 => ?_⟩
    have w2 := h1.trans h2
    refine ⟨_, rfl, by show 1 ≤ sizeLine; decide, fun q1 hq1 => ?_⟩
    have h3 := Go.new (T := T) (M := []) (o := .tup [V.int z]) hq1
    have w3 := w2.trans h3
    have m1 := fr w2 _ hq1
    refine cat_ok (T := T) (M := [a, l]) (h3.tup f2 (nn _)) upd_same n2 m1 (by have := cutV_len ws none (some (j : Int)); simp only [List.length_cons, List.length_nil]; omega) (fr w3) fun s4 K4 f4 n4 h4 => ?_
    have w4 := w3.trans h4
    refine ⟨_, rfl, _, rfl, _, _, rfl, rfl, _, rfl, ?_⟩
    try unfold tNoPart
    refine sl_ok (T := T) (M := [a, l]) (w4.tup eb7 (nn _)) nb (fr w4) fun s5 K5 f5 n5 h5 => ?_
    have w5 := w4.trans h5
    refine cat_ok (T := T) (M := [a, l]) (h5.tup f4 (nn _)) f5 n4 n5 (by have := cutV_len ws none (some (j : Int)); have := cutV_len ws (some ((j : Int) + 1)) none; simp only [List.length_append, List.length_cons, List.length_nil]; omega) (fr w5) fun s6 K6 f6 n6 h6 => ?_
    have w6 := w5.trans h6
    refine ⟨by show 2 ≤ sizeLine; decide, fun q2 hq2 => ?_⟩
    have h7 := Go.new (T := T) (M := []) (o := .tup [V.str mn, V.ref s6]) hq2
    have w7 := w6.trans h7
    have m2 := fr w6 _ hq2
    refine ⟨by show 1 ≤ sizeLine; decide, fun q3 hq3 => ?_⟩
    have h8 := Go.new (T := T) (M := []) (o := .tup [V.ref q2]) hq3
    have w8 := w7.trans h8
    have m3 := fr w7 _ hq3
    have s18 : Go T [] K1 _ := ((((((h2.trans h3).trans h4).trans h5).trans h6).trans h7).trans h8)
    refine cat_ok (T := T) (M := [a, l]) (s18.tup f1 (nn _)) upd_same n1 m3 (by have := cutV_len xs none (some (i : Int)); simp only [List.length_cons, List.length_nil]; omega) (fr w8) fun s9 K9 f9 n9 h9 => ?_
    have w9 := w8.trans h9
    refine ⟨_, rfl, _, rfl, _, _, rfl, rfl, _, rfl, ?_⟩
    try unfold tNoPart
    refine sl_ok (T := T) (M := [a, l]) (w9.tup ep7 (nn _)) np (fr w9) fun s10 K10 f10 n10 h10 => ?_
    have w10 := w9.trans h10
    refine cat_ok (T := T) (M := [a, l]) (h10.tup f9 (nn _)) f10 n9 n10 (by have := cutV_len xs none (some (i : Int)); have := cutV_len xs (some ((i : Int) + 1)) none; simp only [List.length_append, List.length_cons, List.length_nil]; omega) (fr w10) fun s11 K11 f11 n11 h11 => ?_
    have w11 := w10.trans h11
    have t611 := ((((h7.trans h8).trans h9).trans h10).trans h11)
    have de : DvAll [a, l] K11 ((cutV ws none (some (j : Int)) ++ [V.int z]) ++ cutV ws (some ((j : Int) + 1)) none) ((cutD (es.map .int) none (some (j : Int)) ++ [.int z]) ++ cutD (es.map .int) (some (((j + 1 : Nat) : Int))) none) :=
      DvAll.append (DvAll.append ((dw7.cutD none (some (j : Int))).go w11.of0) (.cons (.int z) .nil)) ((dw7.cutD (some ((j + 1 : Nat) : Int)) none).go w11.of0)
    rw [cutD_lo (by rw [List.length_map]; omega), cutD_hi (by rw [List.length_map]; omega)] at de
    have ee : (List.take j (es.map PyData.int) ++ [.int z]) ++ List.drop (j + 1) (es.map PyData.int) = ((es.take j ++ [z]) ++ es.drop (j + 1)).map .int := by
      rw [List.map_append, List.map_append, List.map_take, List.map_drop]
      rfl
    rw [ee] at de
    have dr : Dv [a, l] K11 (.ref q2) (rowD (mn, (es.take j ++ [z]) ++ es.drop (j + 1))) := .tup ((((h8.trans h9).trans h10).trans h11).tup upd_same (nn _)) m2 (.cons (.str _) (.cons (.tup (t611.tup f6 (nn _)) n6 de) .nil))
    have dd : DvAll [a, l] K11 ((cutV xs none (some (i : Int)) ++ [V.ref q2]) ++ cutV xs (some ((i : Int) + 1)) none) ((cutD (rows.map rowD) none (some (i : Int)) ++ [rowD (mn, (es.take j ++ [z]) ++ es.drop (j + 1))]) ++ cutD (rows.map rowD) (some (((i + 1 : Nat) : Int))) none) :=
      DvAll.append (DvAll.append ((dx7.cutD none (some (i : Int))).go w11.of0) (.cons dr .nil)) ((dx7.cutD (some ((i + 1 : Nat) : Int)) none).go w11.of0)
    rw [cutD_lo (by rw [List.length_map]; omega), cutD_hi (by rw [List.length_map]; omega)] at dd
    have er : (List.take i (rows.map rowD) ++ [rowD (mn, (es.take j ++ [z]) ++ es.drop (j + 1))]) ++ List.drop (i + 1) (rows.map rowD) = (turnR rows i j (mn, es) z).map rowD := by
      unfold turnR
      rw [List.map_append, List.map_append, List.map_take, List.map_drop]
      rfl
    rw [er] at dd
    exact q _ _ K11 (.tup f11 n11 dd) sh' len' ((W7.go w11).up (by omega)) (((g4.of0.trans g5).trans G7).trans w11.of0) (w11.tb t7)
end
end K3
set_option Elab.async false
set_option linter.all false
set_option maxRecDepth 100000
set_option maxHeartbeats 8000000
namespace K3
open PySem PySem.Spec PyProof.Rows L2 GxR NdefX GA SL RZ
abbrev s_law_door : Stmt := top 47
abbrev s_law_value_right : Stmt := top 48
theorem sc_law_door : FnScope ["door", "family", "value", "found"] ["door", "family", "value"] (defScope s_law_door) := ⟨rfl, rfl, rfl, by decide +kernel, rfl, by decide +kernel, by decide +kernel⟩
theorem sc_law_value_right : FnScope ["family", "value", "copied", "table", "due", "told", "due_sizes", "found", "door"] ["family", "value"] (defScope s_law_value_right) := ⟨rfl, rfl, rfl, by decide +kernel, rfl, by decide +kernel, by decide +kernel⟩
def doorS (b : Bool) : Str := if b = true then "let" else "rows"
def sp_door (T : List Addr) : Sp := fun vs H Q _ => ∃ (n : Int) (kv rv : V) (ks : List PyData) (d : PyData), vs = [.int n, kv, rv] ∧ askR T H kv rv ks d ∧ ∀ H', Go T [] H H' → Tabs T H' → Q (.str (doorS (rowsB ks d))) H'
/-- what is asked where no exception is wished -/
def sp0 (sp : Sp) : Sp := fun vs H Q _ => sp vs H Q E0
def sp_value (T : List Addr) : Sp := fun vs H Q _ => ∃ (kv rv : V) (ks : List PyData) (d : PyData) (n : Nat), vs = [kv, rv] ∧ askR T H kv rv ks d ∧ nice n (.tuple [.tuple ks, d]) = true ∧ n.log2 < 1920 ∧ wt (.tuple [.tuple ks, d]) ≤ 4000000 ∧ (PyData.tuple [.tuple ks, d]).depth ≤ 100 ∧ ∀ H', Go T [] H H' → Tabs T H' → Q (.bl true) H'
theorem ints_okS {zs : List Int} (h : zs.length ≤ 5000) : okS 1 (.tuple (zs.map .int)) := by
  refine .inr (.inr (.inr (.inr ⟨_, rfl, by rw [List.length_map]; exact h, fun e m => ?_⟩)))
  obtain ⟨z, _, rfl⟩ := List.mem_map.mp m
  exact .inr (.inl ⟨z, rfl⟩)
theorem bool_okS (b : Bool) : okS 1 (.bool b) := .inr (.inr (.inr (.inl ⟨b, rfl⟩)))
section
variable {P : Program} {w : World} {K : PySem.W.Frag} {mg : Str → Option Value} {base : Heap} {f c CK CN CT CR : Addr} {fd : FuncData} {T : List Addr}
theorem ok_law_door (F : Fun K "_law_door" "_law_door" s_law_door f fd) (XR : Xc K mg "BadRows" CR) (gT : mg "TreeError" = some (.ref CT)) (rr : PySem.W.exmOne K (.ref CR) (.ref CR) = some true)
    (F2 : Fnn P w K mg base (L2.CX P w) 13 "sizes" ["kinds", "rows"] (sp_sizes T CR)) (F3 : Fnw P w K mg base (L2.CX P w) 13 "words_of" ["kinds", "rows"] (sp_words_of T CR)) :
    FnOk P w K mg base CX0 14 f fd ["door", "family", "value"] (sp_door T) := by
  have nd := sc_law_door.nd
  refine F.ok sc_law_door (fun vs H Q E h => ?_) (fun cdv A outer s H vs Q E hr h => ?_)
  · obtain ⟨_, _, _, _, _, rfl, _⟩ := h
    rfl
  obtain ⟨n, kv, rv, ks, d, rfl, hA, q⟩ := h
  have hr1 : Room 13 _ := hr
  refine ⟨_, pss_cons (ps_set (i := 3) nd rfl (Or.inl rfl) pe_str)
    (pss_cons (ps_try_many (Wout := fun _ _ _ _ => False) (l := [(.ref CR, fun _ _ _ => tAsg (tC (.str "rows")) (gName 3)), (.ref CT, fun _ _ _ => tAsg (tC (.str "error")) (gName 3))]) rfl rfl takes0
      (fun W pn xe tk _ => pss_one (ps_if (pt_cmpR op_eq (pv 0) pe_int (nomark _)) (pss_one (ps_expr (pe_fnS F2 hr1 (by decide) (fun σ => passAt tk σ) (pa_cons (pv 1) (pa_cons (pv 2) pa_nil)))))
        (pss_one (ps_expr (pe_kw F3 hr1 (by decide) (fun σ => passAt tk σ) (pk_cons (pv 1) (pk_cons (pv 2) pk_nil)))))))
      (.cons ⟨rfl, by decide, Or.inl XR.g⟩ (fun _ _ _ _ _ _ _ => pss_one (ps_set (i := 3) nd rfl (Or.inl rfl) pe_str)) (.cons ⟨rfl, by decide, Or.inl gT⟩ (fun _ _ _ _ _ _ _ => pss_one (ps_set (i := 3) nd rfl (Or.inl rfl) pe_str)) .nil)))
    (pss_one (ps_ret (pv 3)))), ?_⟩
  have kR : ∀ (D : Ends) (σ : L2.St) (H' : Hp), D.nx (σ.set 3 (some (.str "rows"))) H' → wMany K (fun _ _ _ _ => False) D [(.ref CR, fun _ _ _ => tAsg (tC (.str "rows")) (gName 3)), (.ref CT, fun _ _ _ => tAsg (tC (.str "error")) (gName 3))] (.ref CR) none σ H' :=
    fun D σ H' h => ⟨true, rr, fun _ _ _ => h, fun z => by cases z⟩
  refine ⟨_, rfl, rfl, _, rfl, ?_⟩
  have bad : rowsB ks d = false → ("rows" : Str) = doorS (rowsB ks d) := fun h => by rw [h] <;> rfl
  have good : rowsB ks d = true → ("let" : Str) = doorS (rowsB ks d) := fun h => by rw [h] <;> rfl
  by_cases n0 : n = 0
  · refine if_true_of (decide_eq_true (by rw [n0])) ?_
    refine ⟨_, rfl, _, rfl, kv, rv, ks, d, rfl, hA, fun hb H' g' t' => kR _ _ _ ⟨_, rfl, ?_⟩, fun hb ds e v H' _ g' t' => ⟨_, rfl, ?_⟩⟩
    · rw [bad hb]
      exact q H' g' t'
    · rw [good hb]
      exact q H' g' t'
  · refine if_false_of (decide_eq_false fun z => n0 (V.int.inj z)) ?_
    refine ⟨_, rfl, _, rfl, kv, rv, ks, d, rfl, hA, fun hb H' g' t' => kR _ _ _ ⟨_, rfl, ?_⟩, fun hb ds e v H' _ g' t' => ⟨_, rfl, ?_⟩⟩
    · rw [bad hb]
      exact q H' g' t'
    · rw [good hb]
      exact q H' g' t'
theorem ok_law_value_right (F : FunT K "_law_value_right" "_law_value_right" s_law_value_right f fd c) (B : Bl mg) (hS : ∃ o, base.get? sysModules = some o) (Ft : Fnn P w K mg base CX0 1 "_law_table" ["family"] (sp_makers_of T)) (Fl : Fnn P w K mg base CX0 1 "_law_is_lines" ["table", "value"] (sp_is_lines T))
    (Fi : Fnn P w K mg base CX0 11 "is_rows" ["kinds", "thing"] (sp_is_rows T)) (Fik : Fnw P w K mg base CX0 11 "is_rows" ["kinds", "thing"] (sp_is_rows T)) (Fs : Fnn P w K mg base CX0 2 "_law_same" ["found", "due"] (sp_same T 1)) (Fd : Fnn P w K mg base CX0 14 "_law_door" ["door", "family", "value"] (sp_door T))
    (Fz : Fnn P w K mg base CX0 1 "_law_sizes" ["table", "lines"] (sp_law_sizes T)) (Fo : Fnn P w K mg base CX0 13 "sizes" ["kinds", "rows"] (sp0 (sp_sizes T CR))) (Fok : Fnw P w K mg base CX0 13 "sizes" ["kinds", "rows"] (sp0 (sp_sizes T CR))) : FnG P w K mg base 15 f fd ["family", "value"] (sp_value T) := by
  have nd := sc_law_value_right.nd
  refine F.okG sc_law_value_right (fun vs H Q h => ?_) (fun A outer s H vs Q hG hr h => ?_)
  · obtain ⟨_, _, _, _, _, rfl, _⟩ := h
    rfl
  obtain ⟨kv, rv, ks, d, n, rfl, hA, hn, hl, hw, hd, q⟩ := h
  have nn : ∀ b : Addr, b ∉ ([] : List Addr) := fun b => List.not_mem_nil
  have hu64 : (A.deeper (envOfC "_law_value_right" (defScope s_law_value_right) s.heap.objs.size f (.ref c))).units + 64 < cLine := by
    have := hr.un
    omega
  refine ⟨_, (pss_cons (ps_set (i := 2) nd rfl (Or.inl rfl) (pe_repr B hG hr hS (pe_tup (pa_cons (pv 0) (pa_cons (pv 1) pa_nil)))))
    (pss_cons (ps_set (i := 3) nd rfl (Or.inl rfl) (pe_fn Ft hr (by decide) pass0 (pa_cons (pv 0) pa_nil)))
    (pss_cons (ps_set (i := 4) nd rfl (Or.inr rfl) (pe_fn Fl hr (by decide) pass0 (pa_cons (pv 3) (pa_cons (pv 1) pa_nil))))
    (pss_cons (ps_set (i := 5) nd rfl (Or.inl rfl) (pe_lst (pa_cons (pe_fn Fi hr (by decide) pass0 (pa_cons (pv 0) (pa_cons (pv 1) pa_nil))) (pa_cons (pe_kw Fik hr (by decide) (fun σ => pass0S σ) (pk_cons (pv 0) (pk_cons (pv 1) pk_nil))) pa_nil))))
    (pss_cons (ps_if (pt_not (pt_val (pe_allL rfl B (pe_lc (own := [("found", 7)]) (g := gName 7) (tt := tYes) rfl nd (pi_list (pv 5)) (blkOk_by (own := [("found", 7)]) (N := ["family", "value", "copied", "table", "due", "told", "due_sizes", "found", "door"]) (sc := defScope s_law_value_right) (by decide +kernel))
        (fun _ _ _ _ _ => (pg_name (i := 7) nd rfl (Or.inl rfl))) (fun _ _ _ _ _ => pts_nil) (fun _ _ _ _ _ => (pe_fn Fs hr (by decide) pass0 (pa_cons (pv 7) (pa_cons (pv 4) pa_nil)))))))) (pss_one (ps_ret pe_bl)) pss_nil)
    (pss_cons (ps_if (pt_cmpR (op_neD hu64) (pe_lc (own := [("door", 8)]) (g := gName 8) (tt := tYes) rfl nd (pi_range1 rfl B.range (pa_cons pe_int pa_nil)) (blkOk_by (own := [("door", 8)]) (N := ["family", "value", "copied", "table", "due", "told", "due_sizes", "found", "door"]) (sc := defScope s_law_value_right) (by decide +kernel)) (fun _ _ _ _ _ => (pg_name (i := 8) nd rfl (Or.inl rfl))) (fun _ _ _ _ _ => pts_nil) (fun _ _ _ _ _ => (pe_fn Fd hr (by decide) pass0 (pa_cons (pv 8) (pa_cons (pv 0) (pa_cons (pv 1) pa_nil))))))
        (pe_ix ix_list (pe_lst (pa_cons (pe_lst (pa_cons pe_str (pa_cons pe_str pa_nil))) (pa_cons (pe_lst (pa_cons pe_str (pa_cons pe_str pa_nil))) pa_nil))) (pe_toInt B (pe_not (pv 4))) (fun _ _ => rfl)) (nomark _)) (pss_one (ps_ret pe_bl)) pss_nil)
    (pss_cons (ps_if (pt_val (pv 4)) (pss_cons (ps_set (i := 6) nd rfl (Or.inl rfl) (pe_fn Fz hr (by decide) pass0 (pa_cons (pv 3) (pa_cons (pv 1) pa_nil))))
        (pss_one (ps_if (PW.pt (pw_or (pt_not (pt_val (pe_fn Fs hr (by decide) pass0 (pa_cons (pe_fn Fo hr (by decide) pass0 (pa_cons (pv 0) (pa_cons (pv 1) pa_nil))) (pa_cons (pv 6) pa_nil))))) (pw_or1 (pt_not (pt_val (pe_fn Fs hr (by decide) pass0 (pa_cons (pe_kw Fok hr (by decide) (fun σ => pass0S σ) (pk_cons (pv 0) (pk_cons (pv 1) pk_nil))) (pa_cons (pv 6) pa_nil)))))))) (pss_one (ps_ret pe_bl)) pss_nil))) pss_nil)
    (pss_one (ps_ret (pe_cmpR op_eq (pe_repr B hG hr hS (pe_tup (pa_cons (pv 0) (pa_cons (pv 1) pa_nil)))) (pv 2) (nomark _))))))))))), ?_⟩
  have both : ∀ {H' : Hp} {p : Addr}, askR T H' kv rv ks d → H' p = none → Dv [] (upd H' p (.tup [kv, rv])) (.ref p) (.tuple [.tuple ks, d]) := fun {H' p} hA hp => by
    have u := Go.new (T := T) (M := []) (o := .tup [kv, rv]) hp
    exact .tup upd_same (nn _) (.cons (hA.1.go u) (.cons (hA.2.1.go u) .nil))
  refine ⟨_, rfl, _, rfl, by show 2 ≤ sizeLine; decide, fun tp htp => ?_⟩
  have u0 := Go.new (T := T) (M := []) (o := .tup [kv, rv]) htp
  refine ⟨.ref tp, [], _, n, rfl, both hA htp, hn, hl, hw, hd, ?_⟩
  have hA0 := hA.go u0
  have g0 : Go T [] H _ := u0
  generalize upd H tp (.tup [kv, rv]) = H0 at *
  refine ⟨_, rfl, kv, ks, rfl, hA0.1, hA0.2.2.1, hA0.2.2.2.2.2, fun D H1 hD0 hD g1 t1 => ?_⟩
  have hA1 := hA0.go g1
  refine ⟨_, rfl, _, rfl, D, rv, ks, d, rfl, hD, hA1.2.1, hA1.2.2.1, t1, fun H2 g2 t2 => ?_⟩
  have hA2 := hA1.go g2
  refine ⟨_, rfl, _, rfl, kv, rv, ks, d, rfl, hA2, fun H3 g3 t3 => ?_⟩
  have hA3 := hA2.go g3
  refine ⟨_, rfl, _, rfl, kv, rv, ks, d, rfl, hA3, fun H4 g4 t4 => ?_⟩
  have hA4 := hA3.go g4
  refine ⟨by show 2 ≤ sizeLine; decide, fun tl htl => ?_⟩
  have u5 := Go.new (T := T) (M := []) (o := .lst [.bl (rowsB ks d), .bl (rowsB ks d)]) htl
  have e5 := upd_same (H := H4) (a := tl) (o := .lst [V.bl (rowsB ks d), .bl (rowsB ks d)])
  have hA5 := hA4.go u5
  have G5 := (((((g0.trans g1).trans g2).trans g3).trans g4).trans u5)
  have hD5 := ((((hD.go g2).go g3).go g4).go u5)
  generalize upd H4 tl (.lst [V.bl (rowsB ks d), .bl (rowsB ks d)]) = H5 at *
  refine ⟨_, rfl, tl, rfl, ⟨_, SqL.of e5⟩, fun D2 hD2 => ?_⟩
  refine lc_map (T := T) (fun _ => .bl true) (walk_list (xs := [.bl (rowsB ks d), .bl (rowsB ks d)])) (fun H6 g6 => SqL.of (g6.lst e5 (nn _))) hA5.2.2.2.2.2 Go.refl hD2 (by show 2 ≤ sizeLine; decide) (fun i x H6 H7 R hi g6 t6 y hR => ?_) (fun H6 g6 t6 ed => ?_)
  · obtain ⟨rfl, ex⟩ := y
    have : x = .bl (rowsB ks d) := by
      have hm := List.mem_of_getElem? ex
      simpa using hm
    subst this
    exact ⟨rfl, _, rfl, _, rfl, _, _, [], [], .bool (rowsB ks d), rfl, .bl _, .bl _, bool_okS _, t6, fun H' g' _ => hR H' g'⟩
  refine ⟨D2, [true, true], rfl, SqL.of ed, _, rfl, ?_⟩
  refine iteF ?_
  have hA6 := hA5.go g6
  have G6 := G5.trans g6
  refine ⟨2, rfl, by decide, by decide, fun D3 hD3 => ?_⟩
  refine lc_map (T := T) (fun _ => .str (doorS (rowsB ks d))) (walk_range (lo := 0) (n := 2)) (fun _ _ => trivial) t6 Go.refl hD3 (by show 2 ≤ sizeLine; decide) (fun i x H7 H8 R hi g7 t7 y hR => ?_) (fun H7 g7 t7 ed7 => ?_)
  · obtain ⟨rfl, rfl⟩ := y
    exact ⟨rfl, _, rfl, _, rfl, _, rfl, _, kv, rv, ks, d, rfl, hA6.go g7, fun H9 g9 t9 => hR H9 g9⟩
  have hA7 := hA6.go g7
  have G7 := G6.trans g7
  refine ⟨by show 2 ≤ sizeLine; decide, fun l1 hl1 => ⟨by show 2 ≤ sizeLine; decide, fun l2 hl2 => ⟨by show 2 ≤ sizeLine; decide, fun l3 hl3 => ?_⟩⟩⟩
  have v1 := Go.new (T := T) (M := []) (o := .lst [.str "let", .str "let"]) hl1
  have v2 := Go.new (T := T) (M := []) (o := .lst [.str "rows", .str "rows"]) hl2
  have v3 := Go.new (T := T) (M := []) (o := .lst [V.ref l1, .ref l2]) hl3
  have f1 := (v2.trans v3).lst (upd_same (H := H7) (a := l1) (o := .lst [V.str "let", .str "let"])) (nn _)
  have f2 := v3.lst (upd_same (a := l2) (o := .lst [V.str "rows", .str "rows"])) (nn _)
  have f7 := ((v1.trans v2).trans v3).lst ed7 (nn _)
  have vA := (v1.trans v2).trans v3
  have f3 := upd_same (H := upd (upd H7 l1 (.lst [V.str "let", .str "let"])) l2 (.lst [V.str "rows", .str "rows"])) (a := l3) (o := .lst [V.ref l1, .ref l2])
  have hA8 := hA7.go vA
  have G8 := G7.trans vA
  generalize upd (upd (upd H7 l1 (.lst [V.str "let", .str "let"])) l2 (.lst [V.str "rows", .str "rows"])) l3 (.lst [V.ref l1, .ref l2]) = H8 at *
  have hst : ∀ (l : List Str) (H' : Hp) (a : Addr), H' a = some (.lst (l.map V.str)) → Dp K H' (.ref a) (.list (l.map .str)) := fun l H' a e => .lst (SqL.of e) (by
    clear e
    induction l with
    | nil => exact .nil
    | cons x r ih => exact .cons (.str x) ih)
  have fin : ∀ H', Go T [] H8 H' → askR T H' kv rv ks d → ∃ x : V, True ∧ True := fun _ _ _ => ⟨.non, trivial, trivial⟩
  refine ⟨_, rfl, _, rfl, .inr ⟨_, rfl, ?_⟩⟩
  cases cb : rowsB ks d with
  | false =>
    rw [cb] at f7
    refine ⟨l3, _, 1, _, rfl, rfl, SqL.of f3, atI_nat (j := 1) rfl, ?_⟩
    refine ⟨_, _, hst [("rows" : Str), "rows"] _ _ f7, hst [("rows" : Str), "rows"] _ _ f2, by decide +kernel, by decide +kernel, _, rfl, ?_⟩
    refine if_false_of (by decide +kernel) ?_
    refine ⟨_, rfl, _, rfl, iteF ?_⟩
    refine ⟨_, rfl, _, rfl, by show 2 ≤ sizeLine; decide, fun tq htq => ?_⟩
    have u9 := Go.new (T := T) (M := []) (o := .tup [kv, rv]) htq
    refine ⟨.ref tq, [], _, n, rfl, both hA8 htq, hn, hl, hw, hd, ?_⟩
    refine ⟨_, rfl, rfl, ?_⟩
    rw [decide_eq_true rfl]
    exact q _ (G8.trans u9) ((G8.trans u9).tb hA.2.2.2.2.2)
  | true =>
    rw [cb] at f7
    refine ⟨l3, _, 0, _, rfl, rfl, SqL.of f3, atI_nat (j := 0) rfl, ?_⟩
    refine ⟨_, _, hst [("let" : Str), "let"] _ _ f7, hst [("let" : Str), "let"] _ _ f1, by decide +kernel, by decide +kernel, _, rfl, ?_⟩
    refine if_false_of (by decide +kernel) ?_
    refine ⟨_, rfl, _, rfl, iteT ?_⟩
    obtain ⟨ds, rfl, hg⟩ := hA8.given cb
    have hD8 := (((hD5.go g6).go g7).go vA)
    obtain ⟨q1, q2, q3, q4, q5, q6, q7, q8⟩ := id hg
    refine ⟨_, rfl, _, rfl, D, rv, ks, ds.map rowOf, sortsB ks ds, rfl, hD8, q2, q3, by omega, q7, q8, fun pz H9 hpz epz g9 t9 => ?_⟩
    have lz := sizesL_len (ks := ks) (ds.map rowOf)
    have hA9 := hA8.go g9
    refine ⟨_, rfl, _, rfl, kv, rv, ks, _, rfl, hA9, (fun hb => by rw [cb] at hb; cases hb), fun _ ds' e' v H10 hv g10 t10 => ?_⟩
    cases e'
    obtain ⟨pv', rfl, _, epv⟩ := hv
    have epz10 := g10.tup epz (nn _)
    have oS : okS 1 (.tuple ((sizesL ks (ds.map rowOf)).map .int)) := ints_okS (by omega)
    refine ⟨_, rfl, _, _, [], [], _, rfl, .tup epv (nn _) (DvAll.ints _), .tup epz10 (nn _) (DvAll.ints _), oS, t10, fun H11 g11 t11 => ⟨_, rfl, iteF ?_⟩⟩
    have hA11 := (hA9.go g10).go g11
    refine ⟨_, rfl, _, rfl, kv, rv, ks, _, rfl, hA11, (fun hb => by rw [cb] at hb; cases hb), fun _ ds' e' v H12 hv g12 t12 => ?_⟩
    cases e'
    obtain ⟨pv2, rfl, _, epv2⟩ := hv
    refine ⟨_, rfl, _, _, [], [], _, rfl, .tup epv2 (nn _) (DvAll.ints _), .tup (g12.tup (g11.tup epz10 (nn _)) (nn _)) (nn _) (DvAll.ints _), oS, t12, fun H13 g13 t13 => ⟨_, rfl, iteF ?_⟩⟩
    have hA13 := (hA11.go g12).go g13
    have G13 := (((((G8.trans g9).trans g10).trans g11).trans g12).trans g13)
    refine ⟨_, rfl, _, rfl, by show 2 ≤ sizeLine; decide, fun tq htq => ?_⟩
    have u9 := Go.new (T := T) (M := []) (o := .tup [kv, rv]) htq
    refine ⟨.ref tq, [], _, n, rfl, both hA13 htq, hn, hl, hw, hd, ?_⟩
    refine ⟨_, rfl, rfl, ?_⟩
    rw [decide_eq_true rfl]
    exact q _ (G13.trans u9) ((G13.trans u9).tb hA.2.2.2.2.2)
end
end K3
set_option Elab.async false
set_option linter.all false
set_option maxRecDepth 100000
set_option maxHeartbeats 8000000
namespace K3
open PySem PySem.Spec PyProof.Rows L2 GxR NdefX GA SL RZ
abbrev s_law : Stmt := top 49
theorem sc_law : FnScope ["script", "well", "turn", "family", "lone", "table", "lines", "values", "k", "turned", "bent", "value"] ["script"] (defScope s_law) := ⟨rfl, rfl, rfl, by decide +kernel, rfl, by decide +kernel, by decide +kernel⟩
theorem int_wt {z : Int} (h : z.natAbs ≤ bigInt) : wt (.int z) ≤ 1925 := by
  simp only [wt]
  have : z.natAbs.log2 < 1920 := by
    by_cases c : z.natAbs = 0
    · rw [c]; decide
    · refine (Nat.log2_lt c).mpr (Nat.lt_of_le_of_lt h ?_)
      unfold bigInt
      decide +kernel
  have := int_text_len_1921 this
  omega
theorem ints_bd : ∀ {es : List Int}, (∀ z ∈ es, z.natAbs ≤ bigInt) → wtAll (es.map .int) ≤ 1927 * es.length ∧ niceAll bigInt (es.map .int) = true ∧ PyData.depthAll (es.map .int) = 0
  | [], _ => ⟨by simp [wtAll], rfl, by simp [PyData.depthAll]⟩
  | z :: r, h => by
    obtain ⟨h1, h2, h3⟩ := ints_bd fun y hy => h y (List.mem_cons_of_mem _ hy)
    have hz := h z List.mem_cons_self
    have hw := int_wt hz
    refine ⟨?_, ?_, ?_⟩
    · rw [List.map_cons, List.length_cons]
      simp only [wtAll]
      omega
    · rw [List.map_cons]
      simp only [niceAll]
      rw [h2]
      simp only [nice, Bool.and_true, decide_eq_true_eq]
      exact hz
    · rw [List.map_cons]
      simp only [PyData.depthAll, PyData.depth]
      rw [h3] <;> rfl
theorem row_bd {n : Str} {es : List Int} (hn : nmOk n) (h4 : es.length ≤ 4) (he : ∀ z ∈ es, z.natAbs ≤ bigInt) : wt (rowD (n, es)) ≤ 8000 ∧ nice bigInt (rowD (n, es)) = true ∧ (rowD (n, es)).depth ≤ 2 := by
  obtain ⟨h1, h2, h3⟩ := ints_bd he
  have ho := hn.old
  refine ⟨?_, ?_, ?_⟩
  · show wt (.tuple [.str n, .tuple (es.map .int)]) ≤ 8000
    simp only [wt, wtAll]
    omega
  · show nice bigInt (.tuple [.str n, .tuple (es.map .int)]) = true
    simp only [nice, niceAll]
    rw [ho.1, h2] <;> rfl
  · show (PyData.tuple [.str n, .tuple (es.map .int)]).depth ≤ 2
    simp only [PyData.depth, PyData.depthAll]
    rw [h3]
    decide
theorem all_bd2 {B D N : Nat} : ∀ {ls : List PyData}, (∀ d ∈ ls, wt d ≤ B ∧ nice N d = true ∧ d.depth ≤ D) → wtAll ls ≤ (B + 2) * ls.length ∧ niceAll N ls = true ∧ PyData.depthAll ls ≤ D
  | [], _ => ⟨by simp [wtAll], rfl, by simp [PyData.depthAll]⟩
  | x :: r, h => by
    have ih := all_bd2 fun y hy => h y (List.mem_cons_of_mem _ hy)
    have hx := h x List.mem_cons_self
    refine ⟨?_, ?_, ?_⟩
    · have e : (B + 2) * (r.length + 1) = (B + 2) * r.length + (B + 2) := Nat.mul_succ _ _
      rw [List.length_cons, e]
      simp only [wtAll]
      have := hx.1
      have := ih.1
      omega
    · simp only [niceAll]
      rw [hx.2.1, ih.2.1] <;> rfl
    · simp only [PyData.depthAll]
      have := hx.2.2
      have := ih.2.2
      omega
theorem cutD_all {ds : List PyData} {i : Int} (h : (ds.length : Int) ≤ i) : SL.cutD ds none (some i) = ds := by
  obtain ⟨j, rfl⟩ : ∃ j : Nat, i = (j : Int) := ⟨i.toNat, by omega⟩
  unfold SL.cutD
  rw [HT.sIx_none, HT.sIx_nat, List.drop_zero, Nat.sub_zero, Nat.min_eq_right (by omega), List.take_length]
theorem cutD_up {ds : List PyData} {i : Int} (h : 1 ≤ i) : SL.cutD ds none (some i) = ds.take i.toNat := by
  by_cases c : (ds.length : Int) ≤ i
  · rw [cutD_all c, List.take_of_length_le (by omega)]
  · have e : i = ((i.toNat : Nat) : Int) := by omega
    conv => lhs; rw [e]
    rw [cutD_lo (by omega)]

theorem shape_of {ks : List PyData} {rows : List (Str × List Int)} {sorts : List Str} (hk : kindsB (.tuple ks) = true) (hf : rowsFit ks rows sorts) (hs : smallR rows) : shapeR rows := fun r mr => by
  obtain ⟨x, es⟩ := r
  obtain ⟨i, hi, ei⟩ := List.mem_iff_getElem.mp mr
  obtain ⟨⟨kd, p, md, hm, hmn, hel, _⟩, _⟩ := hf.2 i (x, es) (by rw [List.getElem?_eq_getElem hi, ei])
  have hmk := rows_maker hk hm
  refine ⟨?_, ?_, hs _ mr⟩
  · have hm2 : SL.mkN md = x := hmn
    show nmOk x
    rw [← hm2]
    obtain ⟨y, fs, rfl, _, _⟩ := maker_parts hmk
    simp only [makerB, Bool.and_eq_true] at hmk
    exact hmk.1.1.2
  · have he2 : es.length = (flds md).length := hel
    obtain ⟨y, fs, rfl, l, _⟩ := maker_parts hmk
    show es.length ≤ 4
    rw [he2]
    show ((itemsD (sndD (.tuple [.str y, .tuple fs]))).map strD).length ≤ 4
    rw [List.length_map]
    exact l
theorem shape_bd {rows : List (Str × List Int)} (h : shapeR rows) : ∀ d ∈ rows.map rowD, wt d ≤ 8000 ∧ nice bigInt d = true ∧ d.depth ≤ 2 := fun d m => by
  obtain ⟨⟨x, es⟩, mr, rfl⟩ := List.mem_map.mp m
  obtain ⟨h1, h2, h3⟩ := h _ mr
  exact row_bd h1 h2 h3
def NB : Nat := (bigInt * 1000000000 + 1000000000000000000000000000000) * 1000000000 + 1000000000000000000000000000000
/-- what _law_value_right takes -/
def good (d : PyData) : Prop := nice NB d = true ∧ wt d ≤ 3000000 ∧ d.depth ≤ 50
theorem part_bd {zs ys : List PyData} {n : Nat} (h : ∀ d ∈ zs, wt d ≤ 8000 ∧ nice bigInt d = true ∧ d.depth ≤ 2) (s : ∀ d ∈ ys, d ∈ zs) (hl : ys.length ≤ n) : nice bigInt (.tuple ys) = true ∧ wt (.tuple ys) ≤ 8002 * n + 4 ∧ (PyData.tuple ys).depth ≤ 3 := by
  obtain ⟨h1, h2, h3⟩ := all_bd2 (B := 8000) (D := 2) (N := bigInt) (ls := ys) fun d m => h d (s d m)
  refine ⟨by simp only [nice]; exact h2, ?_, ?_⟩
  · rw [wt_tupl]
    have := Nat.mul_le_mul_left 8002 hl
    omega
  · simp only [PyData.depth]
    omega
theorem part_good {zs ys : List PyData} (h : ∀ d ∈ zs, wt d ≤ 8000 ∧ nice bigInt d = true ∧ d.depth ≤ 2) (s : ∀ d ∈ ys, d ∈ zs) (hl : ys.length ≤ 200) : good (.tuple ys) := by
  obtain ⟨h1, h2, h3⟩ := part_bd h s hl
  exact ⟨nice_mono (by unfold NB bigInt; decide +kernel) h1, by omega, by omega⟩
theorem part_goodL {zs ys : List PyData} (h : ∀ d ∈ zs, wt d ≤ 8000 ∧ nice bigInt d = true ∧ d.depth ≤ 2) (s : ∀ d ∈ ys, d ∈ zs) (hl : ys.length ≤ 200) : good (.list ys) := by
  obtain ⟨h1, h2, h3⟩ := part_good h s hl
  refine ⟨by simpa only [nice] using h1, ?_, ?_⟩
  · rw [wt_tupl] at h2
    rw [wt_lst]
    exact h2
  · simpa only [PyData.depth] using h3
theorem shape_good {rows : List (Str × List Int)} (h : shapeR rows) (hl : rows.length ≤ 200) : good (rowsD rows) := part_good (shape_bd h) (fun _ m => m) (by rw [List.length_map]; exact hl)
theorem small_good {d : PyData} (h : d = .tuple [] ∨ d = .none ∨ d = .int 0) : good d := by
  have e : ∀ d : PyData, (nice 0 d && decide (wt d ≤ 2000) && decide (d.depth ≤ 9)) = true → good d := fun d h => by
    simp only [Bool.and_eq_true, decide_eq_true_eq] at h
    exact ⟨nice_mono (Nat.zero_le _) h.1.1, by omega, by omega⟩
  rcases h with rfl | rfl | rfl
  · exact e _ (by decide +kernel)
  · exact e _ (by decide +kernel)
  · exact e _ (by decide +kernel)
theorem firsts_good {zs : List PyData} (h : ∀ d ∈ zs, wt d ≤ 8000 ∧ nice bigInt d = true ∧ d.depth ≤ 2) (hl : zs.length ≤ 97) {d : PyData} (m : d ∈ [PyData.tuple zs, .tuple (SL.cutD zs none (some 96)), .tuple (SL.cutD zs none (some 1)), .tuple (SL.cutD zs (some 1) none), .tuple (List.replicate (2 : Int).toNat zs).flatten, .list zs, .tuple [], .none, .int 0, .tuple (zs ++ SL.cutD zs (some (-1)) none)]) : good d := by
  simp only [List.mem_cons, List.not_mem_nil, or_false] at m
  have c := fun lo hi => cutD_len zs lo hi
  rcases m with rfl | rfl | rfl | rfl | rfl | rfl | rfl | rfl | rfl | rfl
  · exact part_good h (fun _ m => m) (by omega)
  · exact part_good h (fun _ m => cutD_mem m) (by have := c none (some 96); omega)
  · exact part_good h (fun _ m => cutD_mem m) (by have := c none (some 1); omega)
  · exact part_good h (fun _ m => cutD_mem m) (by have := c (some 1) none; omega)
  · refine part_good h (fun _ m => rep_mem m) ?_
    have e : (List.replicate (2 : Int).toNat zs).flatten = zs ++ zs := by
      show (List.replicate 2 zs).flatten = zs ++ zs
      simp [List.replicate]
    rw [e, List.length_append]
    omega
  · exact part_goodL h (fun _ m => m) (by omega)
  · exact small_good (.inl rfl)
  · exact small_good (.inr (.inl rfl))
  · exact small_good (.inr (.inr rfl))
  · refine part_good h (fun x m => ?_) (by have := c (some (-1)) none; rw [List.length_append]; omega)
    rcases List.mem_append.mp m with m | m
    · exact m
    · exact cutD_mem m
theorem both_good {ks : List PyData} {d : PyData} (hd : drawnOk (.tuple ks)) (h : good d) : nice NB (.tuple [.tuple ks, d]) = true ∧ wt (.tuple [.tuple ks, d]) ≤ 4000000 ∧ (PyData.tuple [.tuple ks, d]).depth ≤ 100 ∧ wt (.tuple ks) ≤ 4000000 ∧ wt d ≤ 4000000 := by
  obtain ⟨_, _, _, w, n, dp⟩ := hd
  obtain ⟨h1, h2, h3⟩ := h
  refine ⟨?_, ?_, ?_, by omega, by omega⟩
  · have n2 : nice NB (.tuple ks) = true := nice_mono (Nat.zero_le _) n
    have e : nice NB (.tuple [.tuple ks, d]) = (nice NB (.tuple ks) && (nice NB d && true)) := by simp only [nice, niceAll]
    rw [e, n2, h1] <;> rfl
  · rw [wt_pair]
    omega
  · have e : (PyData.tuple [.tuple ks, d]).depth ≤ 60 + 1 := depth_tup.mpr fun x hx => by
      simp only [List.mem_cons, List.not_mem_nil, or_false] at hx
      rcases hx with rfl | rfl
      · omega
      · omega
    omega
/-- a kind of which no tree is -/
def loneK (t : Str) : List PyData := [.tuple [.str t, .tuple [.tuple [.str t, .tuple [.str t]]]]]
theorem lone_ok {t : Str} (h : nmOk t) : drawnOk (.tuple (loneK t)) ∧ kindsB (.tuple (loneK t)) = true := by
  have hh : highS t = true := h
  have ho := h.old
  refine ⟨⟨_, [], rfl, ?_, ?_, ?_⟩, ?_⟩
  · show wt (.tuple (loneK t)) ≤ 80000
    simp only [loneK, wt, wtAll]
    omega
  · show nice 0 (.tuple (loneK t)) = true
    simp only [loneK, nice, niceAll, ho.1]
    rfl
  · show (PyData.tuple (loneK t)).depth ≤ 6
    simp only [loneK, PyData.depth, PyData.depthAll]
    omega
  · have e1 : (itemsD (.tuple (loneK t))).all kindB = true := by
      show (kindB (.tuple [.str t, .tuple [.tuple [.str t, .tuple [.str t]]]]) && true) = true
      simp [kindB, makerB, tupB, fstD, sndD, itemsD, highD, hh, isStr]
    have e2 : unl (titlesD (.tuple (loneK t))) = true := by
      show decide (([PyData.str t].map strD).Nodup) = true
      simp
    have e3 : unl (mnamesD (.tuple (loneK t))) = true := by
      show decide (([PyData.str t].map strD).Nodup) = true
      simp
    have e4 : (fieldsD (.tuple (loneK t))).all (fieldOk (.tuple (loneK t))) = true := by
      show (fieldOk (.tuple (loneK t)) (.str t) && true) = true
      unfold fieldOk
      have : decide (strD (.str t) ∈ (titlesD (.tuple (loneK t))).map strD) = true := decide_eq_true (by show t ∈ [t]; simp)
      rw [this]
      simp
    unfold kindsB
    rw [e1, e2, e3, e4]
    rfl
/-- the list of values so far -/
def VInv (T : List Addr) (a l : Addr) (m : Nat) (k : Int) (z : V) (H : Hp) : Prop := ∃ (p : Addr) (vs : List V) (ds : List PyData), z = .ref p ∧ H p = some (.lst vs) ∧ p ∉ [a, l] ∧ DvAll [a, l] H vs ds ∧ (∀ d ∈ ds, good d) ∧ vs.length ≤ m ∧ WellAt a l H k ∧ Tabs T H
theorem VInv.go {T : List Addr} {a l : Addr} {m : Nat} {k k' : Int} {z : V} {H H' : Hp} (h : VInv T a l m k z H) (g : Go T [a, l] H H') (w : WellAt a l H' k') : VInv T a l m k' z H' := by
  obtain ⟨p, vs, ds, e, h1, h2, h3, h4, h5, _, h7⟩ := h
  exact ⟨p, vs, ds, e, g.lst h1 h2, h2, h3.go g, h4, h5, w, g.tb h7⟩
theorem VInv.up {T : List Addr} {a l : Addr} {m m' : Nat} {k k' : Int} {z : V} {H : Hp} (h : VInv T a l m k z H) (hm : m ≤ m') (hk : k ≤ k') : VInv T a l m' k' z H := by
  obtain ⟨p, vs, ds, e, h1, h2, h3, h4, h5, h6, h7⟩ := h
  exact ⟨p, vs, ds, e, h1, h2, h3, h4, by omega, h6.up hk, h7⟩
/-- values + [..] -/
theorem VInv.cat {T : List Addr} {a l : Addr} {m j : Nat} {k : Int} {z : V} {H : Hp} {o : Addr} {us : List V} {es : List PyData} {Q : VK} (h : VInv T a l m k z H) (ho : H o = some (.lst us)) (hu : DvAll [a, l] H us es) (he : ∀ d ∈ es, good d) (hl : us.length ≤ j) (hm : m + j ≤ 1000)
    (q : ∀ r H', VInv T a l (m + j) k (.ref r) H' → Go T [] H H' → Q (.ref r) H') : rCat z (.ref o) H Q := by
  obtain ⟨p, vs, ds, rfl, h1, h2, h3, h4, h5, h6, h7⟩ := h
  refine ⟨p, o, vs, us, rfl, rfl, h1, ho, by rw [sizeLine_eq]; omega, fun r hr => ?_⟩
  have g := Go.new (T := T) (M := []) (o := .lst (vs ++ us)) hr
  refine q r _ ⟨r, _, _, rfl, upd_same, nin (h6.ne hr), (h3.append hu).go (g.of0 : Go T [a, l] H _), fun d hd => ?_, by rw [List.length_append]; omega, h6.go g, g.tb h7⟩ g
  exact (List.mem_append.mp hd).elim (h4 d) (he d)
theorem ok_law_bent {P : Program} {w : World} {K : PySem.W.Frag} {mg : Str → Option Value} {base : Heap} {f : Addr} {fd : FuncData} {T : List Addr} (F : Fun K "_law_bent" "_law_bent" s_law_bent f fd) (hm : mg "_law_bent" = some (.ref f)) (hb : Binds K fd ["well", "value"] []) (B : Bl mg)
    (Fd : Fnn P w K mg base CX0 1 "_law_draw" ["well", "many"] (sp_draw T)) (dep : Nat) : FnOk P w K mg base CX0 (dep + 3) f fd ["well", "value"] (sp_bent T dep) := by
  induction dep using Nat.strongRecOn with
  | ind dep ih =>
    refine ok_law_bent_step dep F B Fd ⟨f, fd, ⟨?_, ?_⟩, hm, F.kp, hb⟩
    · rintro vs H Q E ⟨j, hj, h⟩
      exact (ih j hj).len vs H Q E h
    · rintro A outer s H args us vs Q E hr env hbt hv ⟨j, hj, h⟩
      exact (ih j hj).run A outer s H args us vs Q E (hr.mono (by omega)) env hbt hv h
def sp_law (K : PySem.W.Frag) (T : List Addr) : Sp := fun vs H Q _ => ∃ (b : Addr) (ns : List Int), vs = [.ref b] ∧ SqL K H b (ns.map V.int) ∧ ns.length ≤ 63 ∧ Tabs T H ∧ ∀ H', Q (.bl true) H'
theorem at136 {i : Nat} (h : i < 3) : ∃ m : Int, atI [V.int 1, V.int 3, V.int 6] (0 + (i : Int)) = some (.int m) ∧ 1 ≤ m ∧ m ≤ 6 := by
  have : i = 0 ∨ i = 1 ∨ i = 2 := by omega
  rcases this with rfl | rfl | rfl
  · exact ⟨1, rfl, by decide, by decide⟩
  · exact ⟨3, rfl, by decide, by decide⟩
  · exact ⟨6, rfl, by decide, by decide⟩
theorem at497 {i : Nat} (h : i < 3) : ∃ m : Int, atI [V.int 4, V.int 12, V.int 97] (0 + (i : Int)) = some (.int m) ∧ 4 ≤ m ∧ m ≤ 97 := by
  have : i = 0 ∨ i = 1 ∨ i = 2 := by omega
  rcases this with rfl | rfl | rfl
  · exact ⟨4, rfl, by decide, by decide⟩
  · exact ⟨12, rfl, by decide, by decide⟩
  · exact ⟨97, rfl, by decide, by decide⟩
section
variable {P : Program} {w : World} {K : PySem.W.Frag} {mg : Str → Option Value} {base : Heap} {f c CK CN CT CR : Addr} {fd : FuncData} {T : List Addr}
theorem ok_law (F : FunT K "law" "law" s_law f fd c) (B : Bl mg) (Fw : Fnn P w K mg base CX0 1 "_law_well" ["script"] (sp_well K T)) (Fd : Fnn P w K mg base CX0 1 "_law_draw" ["well", "many"] (sp_draw T)) (Fk : Fnn P w K mg base CX0 3 "_law_kinds" ["well", "most"] (sp_kindsL T)) (Ft : Fnn P w K mg base CX0 1 "_law_table" ["family"] (sp_makers_of T)) (Fl : Fnn P w K mg base CX0 3 "_law_lines" ["well", "family", "count"] (sp_lines K T))
    (Fu : Fnn P w K mg base CX0 2 "_law_turned" ["well", "table", "lines"] (sp_turned T)) (Fb : Fnn P w K mg base CX0 15 "_law_bent" ["well", "value"] (sp_bent T 12)) (Fv : Fng P w K mg base 15 "_law_value_right" ["family", "value"] (sp_value T)) : FnG P w K mg base 16 f fd ["script"] (sp_law K T) := by
  have nd := sc_law.nd
  refine F.okG sc_law (fun vs H Q h => ?_) (fun A outer s H vs Q hG hr h => ?_)
  · obtain ⟨_, _, rfl, _⟩ := h
    rfl
  obtain ⟨b, ns, rfl, hb, hl, ht, q⟩ := h
  have nn : ∀ b : Addr, b ∉ ([] : List Addr) := fun b => List.not_mem_nil
  refine ⟨_, PSs.nox (pss_cons (ps_set (i := 1) nd rfl (Or.inl rfl) (pe_fn Fw hr (by decide) pass0 (pa_cons (pv 0) pa_nil)))
    (pss_cons (ps_for PassesOwn.never rfl (pi_range1 rfl B.range (pa_cons pe_int pa_nil)) (pg_name (i := 2) nd rfl (Or.inl rfl))
    (pss_cons (ps_set (i := 3) nd rfl (Or.inr rfl) (pe_fn Fk hr (by decide) pass0 (pa_cons (pv 1) (pa_cons (pe_ix ix_list (pe_lst (pa_cons pe_int (pa_cons pe_int (pa_cons pe_int pa_nil)))) (pv 2) (fun _ _ => rfl)) pa_nil))))
    (pss_cons (ps_if (PW.pt (pw_and (pt_cmpR op_eq (pv 2) pe_int (nomark _)) (pw_and1 (pt_cmpR op_eq (pe_fn Fd hr (by decide) pass0 (pa_cons (pv 1) (pa_cons pe_int pa_nil))) pe_int (nomark _))))) (pss_cons (ps_set (i := 4) nd rfl (Or.inl rfl) (pe_ix ix_tup (pe_ix ix_tup (pv 3) pe_int (fun _ _ => rfl)) pe_int (fun _ _ => rfl)))
    (pss_one (ps_set (i := 3) nd rfl (Or.inr rfl) (pe_tup (pa_cons (pe_tup (pa_cons (pv 4) (pa_cons (pe_tup (pa_cons (pe_tup (pa_cons (pv 4) (pa_cons (pe_tup (pa_cons (pv 4) pa_nil)) pa_nil))) pa_nil)) pa_nil))) pa_nil))))) pss_nil)
    (pss_cons (ps_set (i := 5) nd rfl (Or.inl rfl) (pe_fn Ft hr (by decide) pass0 (pa_cons (pv 3) pa_nil)))
    (pss_cons (ps_set (i := 6) nd rfl (Or.inl rfl) (pe_fn Fl hr (by decide) pass0 (pa_cons (pv 1) (pa_cons (pv 3) (pa_cons (pe_op op_sub (pe_ix ix_list (pe_lst (pa_cons pe_int (pa_cons pe_int (pa_cons pe_int pa_nil)))) (pv 2) (fun _ _ => rfl)) (pe_fn Fd hr (by decide) pass0 (pa_cons (pv 1) (pa_cons pe_int pa_nil)))) pa_nil)))))
    (pss_cons (ps_set (i := 7) nd rfl (Or.inl rfl) (pe_lst (pa_cons (pv 6) (pa_cons (pe_slice sl_tupA (pv 6) po_none (po_some pe_int)) (pa_cons (pe_slice sl_tupA (pv 6) po_none (po_some pe_int)) (pa_cons (pe_slice sl_tupA (pv 6) (po_some pe_int) po_none) (pa_cons (pe_op op_times (pv 6) pe_int) (pa_cons (pe_toList B (pv 6)) (pa_cons (pe_tup pa_nil) (pa_cons pe_non (pa_cons pe_int (pa_cons (pe_op op_catA (pv 6) (pe_slice sl_tupA (pv 6) (po_some (pe_un un_neg pe_int)) po_none)) pa_nil))))))))))))
    (pss_cons (ps_for PassesOwn.never rfl (pi_range1 rfl B.range (pa_cons pe_int pa_nil)) (pg_name (i := 8) nd rfl (Or.inl rfl))
    (pss_cons (ps_set (i := 9) nd rfl (Or.inl rfl) (pe_fn Fu hr (by decide) pass0 (pa_cons (pv 1) (pa_cons (pv 5) (pa_cons (pe_slice sl_tupA (pv 6) po_none (po_some (pe_op op_sub pe_int (pe_fn Fd hr (by decide) pass0 (pa_cons (pv 1) (pa_cons pe_int pa_nil)))))) pa_nil)))))
    (pss_cons (ps_set (i := 10) nd rfl (Or.inl rfl) (pe_fn Fb hr (by decide) pass0 (pa_cons (pv 1) (pa_cons (pe_slice sl_tupA (pv 6) po_none (po_some pe_int)) pa_nil))))
    (pss_one (ps_set (i := 7) nd rfl (Or.inl rfl) (pe_op op_cat (pv 7) (pe_lst (pa_cons (pv 9) (pa_cons (pe_fn Fu hr (by decide) pass0 (pa_cons (pv 1) (pa_cons (pv 5) (pa_cons (pv 9) pa_nil)))) (pa_cons (pv 10) (pa_cons (pe_fn Fb hr (by decide) pass0 (pa_cons (pv 1) (pa_cons (pv 10) pa_nil))) pa_nil)))))))))))
    (pss_one (ps_if (pt_not (pt_val (pe_allL rfl B (pe_lc (own := [("value", 11)]) (g := gName 11) (tt := tYes)  rfl nd (pi_list (pv 7)) (blkOk_by (own := [("value", 11)]) (N := ["script", "well", "turn", "family", "lone", "table", "lines", "values", "k", "turned", "bent", "value"]) (sc := defScope s_law) (by decide +kernel))
        (fun _ _ _ _ _ => (pg_name (i := 11) nd rfl (Or.inl rfl))) (fun _ _ _ _ _ => pts_nil) (fun _ _ _ _ _ => (pe_fnG Fv hG hr (by decide) (pa_cons (pv 3) (pa_cons (pv 11) pa_nil)))))))) (pss_one (ps_ret pe_bl)) pss_nil)))))))))
    (pss_one (ps_ret pe_bl)))), ?_⟩
  refine ⟨_, rfl, b, ns, rfl, hb, by omega, ht, fun a l H1 ha hl' W1 g1 t1 => ?_⟩
  refine ⟨3, rfl, by decide, by decide, ?_⟩
  refine for_it (walk_range (lo := 0) (n := (3 : Int).toNat)) (fun i σ H' => ∃ p2 p3 p4 p5 p6 p7 p8 p9p : Option V, ∃ p10, σ = [some (.ref b), some (.ref a), p2, p3, p4, p5, p6, p7, p8, p9p, p10, none] ∧ WellAt a l H' (40000 * ((i : Nat) : Int)) ∧ Tabs T H')
    ⟨_, _, _, _, _, _, _, _, _, rfl, W1.up (by omega), t1⟩ (fun _ _ _ _ _ => trivial) (fun i x σ H2a H2 hi h y => ?_) (fun σ H2 h => ?_)
  · obtain ⟨p2, p3, p4, p5, p6, p7, p8, p9p, p10, rfl, W2, t2⟩ := h
    obtain ⟨rfl, rfl⟩ := y
    have hi : i < 3 := hi
    obtain ⟨m, em, m1, m6⟩ := at136 hi
    obtain ⟨m', em', m1', m97⟩ := at497 hi
    refine ⟨_, rfl, by show 3 ≤ sizeLine; decide, fun q1 hq1 => ?_⟩
    have v1 := Go.new (T := T) (M := []) (o := .lst [V.int 1, .int 3, .int 6]) hq1
    refine ⟨_, rfl, q1, _, _, _, rfl, rfl, SqL.of upd_same, em, a, l, _, m, rfl, m1, m6, by omega, W2.go v1, v1.tb t2, fun v3 dd3 H3 dv3 ok3 kB3 W3 g3 t3 => ?_⟩
    obtain ⟨xk, rk, rfl, _⟩ := id ok3
    refine ⟨_, rfl, rfl, _, rfl, ?_⟩
    by_cases i2 : i = 2
    · refine if_true_of (decide_eq_true (by rw [i2]; rfl)) ?_
      refine ⟨_, rfl, a, l, _, 2, rfl, by decide, by decide, by omega, W3, t3, fun i4 Hc c0 c1 Wc gc tc => ?_⟩
      refine ⟨rfl, _, rfl, ?_⟩
      have dvc := dv3.go gc
      by_cases c2 : i4 = 0
      · refine if_true_of (decide_eq_true (by rw [c2])) ?_
        have kB3' := kB3
        simp only [kindsB, Bool.and_eq_true] at kB3'
        have hxk : kindB xk = true := List.all_eq_true.mp kB3'.1.1.1.2 xk List.mem_cons_self
        obtain ⟨tt, ms, rfl, _, _, _⟩ := kind_parts hxk
        have hnm : nmOk tt := by
          simp only [kindB, Bool.and_eq_true] at hxk
          exact hxk.1.1.2
        obtain ⟨lo1, lo2⟩ := lone_ok hnm
        obtain ⟨fp, fxs, rfl, efp, nfp, dfx⟩ := dv_tup dvc
        cases dfx with
        | cons hx0 hr0 =>
        obtain ⟨kp, vx, vy, rfl, ekp, _, hvx, _⟩ := dv_pair hx0
        cases hvx
        refine ⟨_, rfl, fp, _, 0, _, rfl, rfl, SqT.of efp, atI_nat (j := 0) rfl, kp, _, 0, _, rfl, rfl, SqT.of ekp, atI_nat (j := 0) rfl, ?_⟩
        refine ⟨_, rfl, _, rfl, _, rfl, by show 1 ≤ sizeLine; decide, fun x1 hx1 => ⟨by show 2 ≤ sizeLine; decide, fun x2 hx2 => ⟨by show 1 ≤ sizeLine; decide, fun x3 hx3 => ⟨by show 2 ≤ sizeLine; decide, fun x4 hx4 => ⟨by show 1 ≤ sizeLine; decide, fun x5 hx5 => ?_⟩⟩⟩⟩⟩
        have y1 := Go.new (T := T) (M := []) (o := .tup [V.str tt]) hx1
        have y2 := Go.new (T := T) (M := []) (o := .tup [V.str tt, .ref x1]) hx2
        have y3 := Go.new (T := T) (M := []) (o := .tup [V.ref x2]) hx3
        have y4 := Go.new (T := T) (M := []) (o := .tup [V.str tt, .ref x3]) hx4
        have y5 := Go.new (T := T) (M := []) (o := .tup [V.ref x4]) hx5
        have z12 := y1.trans y2
        have z13 := z12.trans y3
        have z14 := z13.trans y4
        have z15 := z14.trans y5
        have dL : Dv [a, l] _ (.ref x5) (.tuple (loneK tt)) := .tup upd_same (nin ((Wc.go z14).ne hx5)) (.cons (.tup (y5.tup upd_same (nn _)) (nin ((Wc.go z13).ne hx4)) (.cons (.str _) (.cons (.tup ((y4.trans y5).tup upd_same (nn _)) (nin ((Wc.go z12).ne hx3)) (.cons (.tup (((y3.trans y4).trans y5).tup upd_same (nn _)) (nin ((Wc.go y1).ne hx2)) (.cons (.str _) (.cons (.tup ((((y2.trans y3).trans y4).trans y5).tup upd_same (nn _)) (nin (Wc.ne hx1)) (.cons (.str _) .nil)) .nil))) .nil)) .nil))) .nil)
        have WL := Wc.go z15
        have tL := z15.tb tc
        have G3 := trivial
        clear dvc dv3 ok3 kB3 W3 t3 g3 em m1 m6 W2 t2
        generalize upd (upd (upd (upd (upd Hc x1 (.tup [V.str tt])) x2 (.tup [V.str tt, .ref x1])) x3 (.tup [V.ref x2])) x4 (.tup [V.str tt, .ref x3])) x5 (.tup [V.ref x4]) = H3 at dL WL tL ⊢
        have dv3 := dL
        have ok3 := lo1
        have kB3 := lo2
        have W3 := WL.up (j := 40000 * ((i : Nat) : Int) + 10001) (by omega)
        have t3 := tL
        generalize V.ref x5 = v3 at dv3 ⊢
        generalize loneK tt = ks3 at dv3 ok3 kB3
        generalize some (V.str tt) = p4 at *
        have up : ∀ {p : Addr} {H' : Hp} {k' : Int}, WellAt a l H' k' → H' p = none → p ∉ [a, l] := fun w h => nin (w.ne h)
        refine ⟨_, rfl, v3, ks3, rfl, dv3.less (by simp), kB3, t3, fun D H4 hD0 hD g4 t4 => ?_⟩
        clear hD hD0
        have dv4 := dv3.go (g4.of0 : Go T [a, l] H3 H4)
        have W4 := W3.go g4
        refine ⟨_, rfl, _, rfl, by show 3 ≤ sizeLine; decide, fun q2 hq2 => ?_⟩
        have v2 := Go.new (T := T) (M := []) (o := .lst [V.int 4, .int 12, .int 97]) hq2
        refine ⟨_, rfl, q2, _, _, _, rfl, rfl, SqL.of upd_same, em', _, rfl, a, l, 40000 * ((i : Nat) : Int) + 10001, 3, rfl, by decide, by decide, by omega, W4.go v2, v2.tb t4, fun i5 H5 i50 i51 W5 g5 t5 => ⟨_, _, rfl, rfl, ?_⟩⟩
        have dv5 := (dv4.go v2.of0).go g5
        refine ⟨a, l, 40000 * ((i : Nat) : Int) + 10002, m' - i5, v3, ks3, rfl, by omega, by omega, by omega, W5.up (by omega), dv5, kB3, t5, fun v6 rows sorts H6 dl6 fit6 sm6 len6 W6 g6 t6 => ?_⟩
        have dv6 := dv5.go g6
        have sh6 := shape_of kB3 fit6 sm6
        clear fit6 sm6
        obtain ⟨lp, vs, rfl, elp, nlp, dvs⟩ := dv_tup dl6
        have lvs := dvs.length
        rw [List.length_map] at lvs
        have fr6 : ∀ {H' : Hp}, Go T [] H6 H' → ∀ r, H' r = none → r ∉ [a, l] := fun g r h => up (W6.go g) h
        refine ⟨_, rfl, _, rfl, _, rfl, sl_ok (T := T) (M := [a, l]) elp nlp (fr6 Go.refl) fun s1 K1 f1 n1 h1 => ?_⟩
        refine ⟨_, rfl, _, rfl, sl_ok (T := T) (M := [a, l]) (h1.tup elp (nn _)) nlp (fr6 h1) fun s2 K2 f2 n2 h2 => ?_⟩
        have w2 := h1.trans h2
        refine ⟨_, rfl, _, rfl, ?_⟩
        try unfold tNoPart
        refine sl_ok (T := T) (M := [a, l]) (w2.tup elp (nn _)) nlp (fr6 w2) fun s3 K3 f3 n3 h3 => ?_
        have w3 := w2.trans h3
        refine ⟨_, rfl, ?_⟩
        try unfold tC
        refine times_ok (T := T) (M := [a, l]) (j := 2) (w3.tup elp (nn _)) nlp (by decide) (by decide) (by omega) (fr6 w3) fun s4 K4 f4 n4 h4 => ?_
        have w4 := w3.trans h4
        refine ⟨_, rfl, lp, vs, rfl, .inr (SqT.of (w4.tup elp (nn _))), fun l5 hl5 => ?_⟩
        have h5 := Go.new (T := T) (M := []) (o := .lst vs) hl5
        have nl5 := fr6 w4 _ hl5
        have w5 := w4.trans h5
        refine ⟨by show 0 ≤ sizeLine; omega, fun e6 he6 => ?_⟩
        have h6 := Go.new (T := T) (M := []) (o := .tup []) he6
        have ne6 := fr6 w5 _ he6
        have w6 := w5.trans h6
        refine ⟨_, rfl, _, rfl, _, rfl, _, rfl, ?_⟩
        try unfold tNoPart
        refine sl_ok (T := T) (M := [a, l]) (w6.tup elp (nn _)) nlp (fr6 w6) fun s7 K7 f7 n7 h7 => ?_
        have w7 := w6.trans h7
        refine cat_ok (T := T) (M := [a, l]) (w7.tup elp (nn _)) f7 nlp n7 (by have := cutV_len vs (some (-1)) none; omega) (fr6 w7) fun s8 K8 f8 n8 h8 => ?_
        have w8 := w7.trans h8
        refine ⟨by show 10 ≤ sizeLine; decide, fun o9 ho9 => ?_⟩
        have h9 := Go.new (T := T) (M := []) (o := .lst [V.ref lp, .ref s1, .ref s2, .ref s3, .ref s4, .ref l5, .ref e6, .non, .int 0, .ref s8]) ho9
        have no9 := fr6 w8 _ ho9
        have w9 := w8.trans h9
        have r8 := h9
        have r7 := h8.trans r8
        have r6 := h7.trans r7
        have r5 := h6.trans r6
        have r4 := h5.trans r5
        have r3 := h4.trans r4
        have r2 := h3.trans r3
        have r1 := h2.trans r2
        have ds9 := dvs.go (w9.of0 : Go T [a, l] H6 _)
        have dl9 := dl6.go (w9.of0 : Go T [a, l] H6 _)
        have bdL : ∀ d ∈ rows.map rowD, wt d ≤ 8000 ∧ nice bigInt d = true ∧ d.depth ≤ 2 := shape_bd sh6
        have lrd : (rows.map rowD).length ≤ 97 := by rw [List.length_map]; exact len6
        have dZ : DvAll [a, l] _ [V.ref lp, .ref s1, .ref s2, .ref s3, .ref s4, .ref l5, .ref e6, .non, .int 0, .ref s8] [rowsD rows, .tuple (SL.cutD (rows.map rowD) none (some 96)), .tuple (SL.cutD (rows.map rowD) none (some 1)), .tuple (SL.cutD (rows.map rowD) (some 1) none), .tuple (List.replicate (2 : Int).toNat (rows.map rowD)).flatten, .list (rows.map rowD), .tuple [], .none, .int 0, .tuple (rows.map rowD ++ SL.cutD (rows.map rowD) (some (-1)) none)] :=
          .cons dl9 (.cons (.tup (r1.tup f1 (nn _)) n1 (ds9.cutD _ _)) (.cons (.tup (r2.tup f2 (nn _)) n2 (ds9.cutD _ _)) (.cons (.tup (r3.tup f3 (nn _)) n3 (ds9.cutD _ _)) (.cons (.tup (r4.tup f4 (nn _)) n4 (DvAll.rep ds9 _)) (.cons (.lst (r5.lst upd_same (nn _)) nl5 ds9) (.cons (.tup (r6.tup upd_same (nn _)) ne6 .nil) (.cons .non (.cons (.int 0) (.cons (.tup (r8.tup f8 (nn _)) n8 (ds9.append (ds9.cutD _ _))) .nil)))))))))
        have vF : VInv T a l 10 (40000 * ((i : Nat) : Int) + 20002) (.ref o9) _ := ⟨o9, _, _, rfl, upd_same, no9, dZ, fun d hd => firsts_good bdL lrd hd, by show 10 ≤ 10; decide, (W6.go w9).up (by omega), w9.tb t6⟩
        have dv9 := dv6.go (w9.of0 : Go T [a, l] H6 _)
        generalize upd K8 o9 (.lst [V.ref lp, .ref s1, .ref s2, .ref s3, .ref s4, .ref l5, .ref e6, .non, .int 0, .ref s8]) = H9 at *
        refine ⟨5, rfl, by decide, by decide, ?_⟩
        refine for_it (walk_range (lo := 0) (n := (5 : Int).toNat)) (fun j σ H' => ∃ (z : V) (p8 p9 p10 : Option V), σ = [some (.ref b), some (.ref a), some (.int (0 + (i : Int))), some v3, p4, some (.ref D), some (.ref lp), some z, p8, p9, p10, none] ∧ VInv T a l (10 + 4 * j) (40000 * i + 20002 + 300 * j) z H' ∧ Dv [a, l] H' v3 (.tuple ks3) ∧ Dv [a, l] H' (.ref lp) (rowsD rows))
          ⟨_, _, _, _, rfl, vF.up (by omega) (by omega), dv9, dl9⟩ (fun _ _ _ _ _ => trivial) (fun j x σ H10a H10 hj h y => ?_) (fun σ H10 h => ?_)
        · obtain ⟨z, p8, p9, p10, rfl, vJ, dk10, dl10⟩ := h
          obtain ⟨rfl, rfl⟩ := y
          have hj : j < 5 := hj
          obtain ⟨_, _, _, _, _, _, _, _, _, W10, t10⟩ := id vJ
          obtain ⟨lp', vs', e', elp10, nlp', dvs10⟩ := dv_tup dl10
          cases e'
          refine ⟨_, rfl, _, rfl, _, rfl, _, rfl, a, l, 40000 * ((i : Nat) : Int) + 20002 + 300 * ((j : Nat) : Int), 3, rfl, by decide, by decide, by omega, W10, t10, fun i11 H11 i110 i111 W11 g11 t11 => ⟨_, _, rfl, rfl, _, rfl, ?_⟩⟩
          have elp11 := g11.tup elp10 nlp
          refine sl_ok (T := T) (M := [a, l]) elp11 nlp (fun r h => up W11 h) fun s12 K12 f12 n12 h12 => ?_
          have W12 := W11.go h12
          have dc := ((dvs10.go g11).go (h12.of0 : Go T [a, l] H11 K12)).cutD none (some (96 - i11))
          rw [cutD_up (by omega), ← List.map_take] at dc
          refine ⟨a, l, _, .ref D, .ref s12, rows.take (96 - i11).toNat, rfl, by omega, W12.up (k := _) (Int.le_refl _), .tup f12 n12 dc, sh6.sub (fun r hr => List.mem_of_mem_take hr), by rw [List.length_take]; omega, h12.tb t11, fun v13 rows13 H13 dv13 sh13 len13 W13 g13 t13 => ?_⟩
          rw [List.length_take] at len13
          have GA : Go T [a, l] H10 H13 := (g11.trans h12.of0).trans g13
          have elp13 := GA.tup elp10 nlp
          refine ⟨_, rfl, _, rfl, _, rfl, sl_ok (T := T) (M := [a, l]) elp13 nlp (fun r h => up W13 h) fun s14 K14 f14 n14 h14 => ?_⟩
          have dc2 := ((dvs10.go GA).go (h14.of0 : Go T [a, l] H13 K14)).cutD none (some 20)
          obtain ⟨b1, b2, b3⟩ := part_bd (n := 20) (ys := SL.cutD (rows.map rowD) none (some 20)) bdL (fun d hd => cutD_mem hd) (by rw [cutD_up (by decide), List.length_take]; exact Nat.min_le_left _ _)
          have W14 := W13.go h14
          refine ⟨a, l, 40000 * ((i : Nat) : Int) + 20002 + 300 * ((j : Nat) : Int) + 6, .ref s14, _, bigInt, rfl, by omega, W14.up (by omega), .tup f14 n14 dc2, b1, by unfold bigInt; decide +kernel, by omega, by omega, h14.tb t13, fun v15 d15 H15 dv15 nr15 W15 g15 t15 => ?_⟩
          obtain ⟨c1, c2, c3⟩ := nr15
          have GB : Go T [a, l] H13 H15 := h14.of0.trans g15
          have dv13' := dv13.go GB
          refine ⟨_, rfl, _, rfl, _, rfl, _, rfl, _, rfl, a, l, 40000 * ((i : Nat) : Int) + 20002 + 300 * ((j : Nat) : Int) + 136, .ref D, v13, rows13, rfl, by omega, W15.up (by omega), dv13', sh13, by omega, t15, fun v16 rows16 H16 dv16 sh16 len16 W16 g16 t16 => ?_⟩
          refine ⟨_, rfl, _, rfl, _, rfl, a, l, 40000 * ((i : Nat) : Int) + 20002 + 300 * ((j : Nat) : Int) + 141, v15, d15, bigInt * 1000000000 + 1000000000000000000000000000000, rfl, by omega, W16.up (by omega), dv15.go g16, c1, by unfold bigInt; decide +kernel, by omega, by omega, t16, fun v17 d17 H17 dv17 nr17 W17 g17 t17 => ?_⟩
          obtain ⟨d1, d2, d3⟩ := nr17
          refine ⟨by show 4 ≤ sizeLine; decide, fun o18 ho18 => ?_⟩
          have g18 := Go.new (T := T) (M := []) (o := .lst [v13, v16, v15, v17]) ho18
          have GC : Go T [a, l] H15 _ := (g16.trans g17).trans g18.of0
          have GD : Go T [a, l] H10 _ := (GA.trans GB).trans GC
          refine VInv.cat (T := T) (j := 4) (vJ.go GD (W17.go g18)) upd_same (.cons (dv13'.go GC) (.cons ((dv16.go g17).go g18.of0) (.cons (dv15.go GC) (.cons (dv17.go g18.of0) .nil)))) (fun d hd => ?_) (by show 4 ≤ 4; decide) (by omega) fun r19 H19 v19 g19 => ?_
          · simp only [List.mem_cons, List.not_mem_nil, or_false] at hd
            rcases hd with rfl | rfl | rfl | rfl
            · exact shape_good sh13 (by omega)
            · exact shape_good sh16 (by omega)
            · exact ⟨nice_mono (by unfold NB bigInt; decide +kernel) c1, by omega, by omega⟩
            · exact ⟨nice_mono (by unfold NB bigInt; decide +kernel) d1, by omega, by omega⟩
          · exact ⟨_, _, _, _, rfl, v19.up (by omega) (by omega), (dk10.go GD).go g19.of0, (dl10.go GD).go g19.of0⟩
        · obtain ⟨z, p8, p9, p10, rfl, vJ, dk10, dl10⟩ := h
          obtain ⟨p, us, ds, rfl, ep, np, du, hg, lu, W10, t10⟩ := vJ
          refine ⟨_, rfl, p, rfl, ⟨_, SqL.of ep⟩, fun Dl hDl => ?_⟩
          refine lc_map (T := T) (fun _ => .bl true) (walk_list (xs := us)) (fun H6 g6 => SqL.of (g6.lst ep (nn _))) t10 Go.refl hDl (by rw [sizeLine_eq]; have : (5 : Int).toNat = 5 := rfl; omega) (fun i' x H11 H12 R hi' g11 t11 y hR => ?_) (fun H11 g11 t11 ed => ?_)
          · obtain ⟨rfl, ex⟩ := y
            obtain ⟨d, ed, hv⟩ := du.get ex
            have gd := hg d (List.mem_of_getElem? ed)
            obtain ⟨b1, b2, b3, b4, b5⟩ := both_good ok3 gd
            exact ⟨rfl, _, rfl, _, rfl, v3, x, ks3, d, NB, rfl, ⟨(dk10.go (g11.of0 : Go T [a, l] H10 _)).less (by simp), (hv.go (g11.of0 : Go T [a, l] H10 _)).less (by simp), kB3, b4, b5, t11⟩, b1, by unfold NB bigInt; decide +kernel, b2, b3, fun H13 g13 t13 => hR H13 g13⟩
          have em : (List.range us.length).map (fun _ : Nat => V.bl true) = (List.replicate us.length true).map V.bl := by
            rw [List.map_replicate, List.map_const', List.length_range]
          rw [em] at ed
          refine ⟨Dl, List.replicate us.length true, rfl, SqL.of ed, _, rfl, ?_⟩
          have ea : (List.replicate us.length true).all id = true := by simp
          rw [ea]
          refine iteF ?_
          exact ⟨_, _, _, _, _, _, _, _, _, rfl, (W10.go g11).up (by show (40000 * (i : Int) + 20002 + 300 * ((5 : Nat) : Int)) ≤ _; omega), t11⟩
      · refine if_false_of (decide_eq_false fun z => c2 (V.int.inj z)) ?_
        have W3 := Wc.up (j := 40000 * ((i : Nat) : Int) + 10001) (by omega)
        have dv3 := dvc
        have t3 := tc
        have up : ∀ {p : Addr} {H' : Hp} {k' : Int}, WellAt a l H' k' → H' p = none → p ∉ [a, l] := fun w h => nin (w.ne h)
        refine ⟨_, rfl, v3, (xk :: rk), rfl, dv3.less (by simp), kB3, t3, fun D H4 hD0 hD g4 t4 => ?_⟩
        clear hD hD0
        have dv4 := dv3.go (g4.of0 : Go T [a, l] Hc H4)
        have W4 := W3.go g4
        refine ⟨_, rfl, _, rfl, by show 3 ≤ sizeLine; decide, fun q2 hq2 => ?_⟩
        have v2 := Go.new (T := T) (M := []) (o := .lst [V.int 4, .int 12, .int 97]) hq2
        refine ⟨_, rfl, q2, _, _, _, rfl, rfl, SqL.of upd_same, em', _, rfl, a, l, 40000 * ((i : Nat) : Int) + 10001, 3, rfl, by decide, by decide, by omega, W4.go v2, v2.tb t4, fun i5 H5 i50 i51 W5 g5 t5 => ⟨_, _, rfl, rfl, ?_⟩⟩
        have dv5 := (dv4.go v2.of0).go g5
        refine ⟨a, l, 40000 * ((i : Nat) : Int) + 10002, m' - i5, v3, (xk :: rk), rfl, by omega, by omega, by omega, W5.up (by omega), dv5, kB3, t5, fun v6 rows sorts H6 dl6 fit6 sm6 len6 W6 g6 t6 => ?_⟩
        have dv6 := dv5.go g6
        have sh6 := shape_of kB3 fit6 sm6
        clear fit6 sm6
        obtain ⟨lp, vs, rfl, elp, nlp, dvs⟩ := dv_tup dl6
        have lvs := dvs.length
        rw [List.length_map] at lvs
        have fr6 : ∀ {H' : Hp}, Go T [] H6 H' → ∀ r, H' r = none → r ∉ [a, l] := fun g r h => up (W6.go g) h
        refine ⟨_, rfl, _, rfl, _, rfl, sl_ok (T := T) (M := [a, l]) elp nlp (fr6 Go.refl) fun s1 K1 f1 n1 h1 => ?_⟩
        refine ⟨_, rfl, _, rfl, sl_ok (T := T) (M := [a, l]) (h1.tup elp (nn _)) nlp (fr6 h1) fun s2 K2 f2 n2 h2 => ?_⟩
        have w2 := h1.trans h2
        refine ⟨_, rfl, _, rfl, ?_⟩
        try unfold tNoPart
        refine sl_ok (T := T) (M := [a, l]) (w2.tup elp (nn _)) nlp (fr6 w2) fun s3 K3 f3 n3 h3 => ?_
        have w3 := w2.trans h3
        refine ⟨_, rfl, ?_⟩
        try unfold tC
        refine times_ok (T := T) (M := [a, l]) (j := 2) (w3.tup elp (nn _)) nlp (by decide) (by decide) (by omega) (fr6 w3) fun s4 K4 f4 n4 h4 => ?_
        have w4 := w3.trans h4
        refine ⟨_, rfl, lp, vs, rfl, .inr (SqT.of (w4.tup elp (nn _))), fun l5 hl5 => ?_⟩
        have h5 := Go.new (T := T) (M := []) (o := .lst vs) hl5
        have nl5 := fr6 w4 _ hl5
        have w5 := w4.trans h5
        refine ⟨by show 0 ≤ sizeLine; omega, fun e6 he6 => ?_⟩
        have h6 := Go.new (T := T) (M := []) (o := .tup []) he6
        have ne6 := fr6 w5 _ he6
        have w6 := w5.trans h6
        refine ⟨_, rfl, _, rfl, _, rfl, _, rfl, ?_⟩
        try unfold tNoPart
        refine sl_ok (T := T) (M := [a, l]) (w6.tup elp (nn _)) nlp (fr6 w6) fun s7 K7 f7 n7 h7 => ?_
        have w7 := w6.trans h7
        refine cat_ok (T := T) (M := [a, l]) (w7.tup elp (nn _)) f7 nlp n7 (by have := cutV_len vs (some (-1)) none; omega) (fr6 w7) fun s8 K8 f8 n8 h8 => ?_
        have w8 := w7.trans h8
        refine ⟨by show 10 ≤ sizeLine; decide, fun o9 ho9 => ?_⟩
        have h9 := Go.new (T := T) (M := []) (o := .lst [V.ref lp, .ref s1, .ref s2, .ref s3, .ref s4, .ref l5, .ref e6, .non, .int 0, .ref s8]) ho9
        have no9 := fr6 w8 _ ho9
        have w9 := w8.trans h9
        have r8 := h9
        have r7 := h8.trans r8
        have r6 := h7.trans r7
        have r5 := h6.trans r6
        have r4 := h5.trans r5
        have r3 := h4.trans r4
        have r2 := h3.trans r3
        have r1 := h2.trans r2
        have ds9 := dvs.go (w9.of0 : Go T [a, l] H6 _)
        have dl9 := dl6.go (w9.of0 : Go T [a, l] H6 _)
        have bdL : ∀ d ∈ rows.map rowD, wt d ≤ 8000 ∧ nice bigInt d = true ∧ d.depth ≤ 2 := shape_bd sh6
        have lrd : (rows.map rowD).length ≤ 97 := by rw [List.length_map]; exact len6
        have dZ : DvAll [a, l] _ [V.ref lp, .ref s1, .ref s2, .ref s3, .ref s4, .ref l5, .ref e6, .non, .int 0, .ref s8] [rowsD rows, .tuple (SL.cutD (rows.map rowD) none (some 96)), .tuple (SL.cutD (rows.map rowD) none (some 1)), .tuple (SL.cutD (rows.map rowD) (some 1) none), .tuple (List.replicate (2 : Int).toNat (rows.map rowD)).flatten, .list (rows.map rowD), .tuple [], .none, .int 0, .tuple (rows.map rowD ++ SL.cutD (rows.map rowD) (some (-1)) none)] :=
          .cons dl9 (.cons (.tup (r1.tup f1 (nn _)) n1 (ds9.cutD _ _)) (.cons (.tup (r2.tup f2 (nn _)) n2 (ds9.cutD _ _)) (.cons (.tup (r3.tup f3 (nn _)) n3 (ds9.cutD _ _)) (.cons (.tup (r4.tup f4 (nn _)) n4 (DvAll.rep ds9 _)) (.cons (.lst (r5.lst upd_same (nn _)) nl5 ds9) (.cons (.tup (r6.tup upd_same (nn _)) ne6 .nil) (.cons .non (.cons (.int 0) (.cons (.tup (r8.tup f8 (nn _)) n8 (ds9.append (ds9.cutD _ _))) .nil)))))))))
        have vF : VInv T a l 10 (40000 * ((i : Nat) : Int) + 20002) (.ref o9) _ := ⟨o9, _, _, rfl, upd_same, no9, dZ, fun d hd => firsts_good bdL lrd hd, by show 10 ≤ 10; decide, (W6.go w9).up (by omega), w9.tb t6⟩
        have dv9 := dv6.go (w9.of0 : Go T [a, l] H6 _)
        generalize upd K8 o9 (.lst [V.ref lp, .ref s1, .ref s2, .ref s3, .ref s4, .ref l5, .ref e6, .non, .int 0, .ref s8]) = H9 at *
        refine ⟨5, rfl, by decide, by decide, ?_⟩
        refine for_it (walk_range (lo := 0) (n := (5 : Int).toNat)) (fun j σ H' => ∃ (z : V) (p8 p9 p10 : Option V), σ = [some (.ref b), some (.ref a), some (.int (0 + (i : Int))), some v3, p4, some (.ref D), some (.ref lp), some z, p8, p9, p10, none] ∧ VInv T a l (10 + 4 * j) (40000 * i + 20002 + 300 * j) z H' ∧ Dv [a, l] H' v3 (.tuple (xk :: rk)) ∧ Dv [a, l] H' (.ref lp) (rowsD rows))
          ⟨_, _, _, _, rfl, vF.up (by omega) (by omega), dv9, dl9⟩ (fun _ _ _ _ _ => trivial) (fun j x σ H10a H10 hj h y => ?_) (fun σ H10 h => ?_)
        · obtain ⟨z, p8, p9, p10, rfl, vJ, dk10, dl10⟩ := h
          obtain ⟨rfl, rfl⟩ := y
          have hj : j < 5 := hj
          obtain ⟨_, _, _, _, _, _, _, _, _, W10, t10⟩ := id vJ
          obtain ⟨lp', vs', e', elp10, nlp', dvs10⟩ := dv_tup dl10
          cases e'
          refine ⟨_, rfl, _, rfl, _, rfl, _, rfl, a, l, 40000 * ((i : Nat) : Int) + 20002 + 300 * ((j : Nat) : Int), 3, rfl, by decide, by decide, by omega, W10, t10, fun i11 H11 i110 i111 W11 g11 t11 => ⟨_, _, rfl, rfl, _, rfl, ?_⟩⟩
          have elp11 := g11.tup elp10 nlp
          refine sl_ok (T := T) (M := [a, l]) elp11 nlp (fun r h => up W11 h) fun s12 K12 f12 n12 h12 => ?_
          have W12 := W11.go h12
          have dc := ((dvs10.go g11).go (h12.of0 : Go T [a, l] H11 K12)).cutD none (some (96 - i11))
          rw [cutD_up (by omega), ← List.map_take] at dc
          refine ⟨a, l, _, .ref D, .ref s12, rows.take (96 - i11).toNat, rfl, by omega, W12.up (k := _) (Int.le_refl _), .tup f12 n12 dc, sh6.sub (fun r hr => List.mem_of_mem_take hr), by rw [List.length_take]; omega, h12.tb t11, fun v13 rows13 H13 dv13 sh13 len13 W13 g13 t13 => ?_⟩
          rw [List.length_take] at len13
          have GA : Go T [a, l] H10 H13 := (g11.trans h12.of0).trans g13
          have elp13 := GA.tup elp10 nlp
          refine ⟨_, rfl, _, rfl, _, rfl, sl_ok (T := T) (M := [a, l]) elp13 nlp (fun r h => up W13 h) fun s14 K14 f14 n14 h14 => ?_⟩
          have dc2 := ((dvs10.go GA).go (h14.of0 : Go T [a, l] H13 K14)).cutD none (some 20)
          obtain ⟨b1, b2, b3⟩ := part_bd (n := 20) (ys := SL.cutD (rows.map rowD) none (some 20)) bdL (fun d hd => cutD_mem hd) (by rw [cutD_up (by decide), List.length_take]; exact Nat.min_le_left _ _)
          have W14 := W13.go h14
          refine ⟨a, l, 40000 * ((i : Nat) : Int) + 20002 + 300 * ((j : Nat) : Int) + 6, .ref s14, _, bigInt, rfl, by omega, W14.up (by omega), .tup f14 n14 dc2, b1, by unfold bigInt; decide +kernel, by omega, by omega, h14.tb t13, fun v15 d15 H15 dv15 nr15 W15 g15 t15 => ?_⟩
          obtain ⟨c1, c2, c3⟩ := nr15
          have GB : Go T [a, l] H13 H15 := h14.of0.trans g15
          have dv13' := dv13.go GB
          refine ⟨_, rfl, _, rfl, _, rfl, _, rfl, _, rfl, a, l, 40000 * ((i : Nat) : Int) + 20002 + 300 * ((j : Nat) : Int) + 136, .ref D, v13, rows13, rfl, by omega, W15.up (by omega), dv13', sh13, by omega, t15, fun v16 rows16 H16 dv16 sh16 len16 W16 g16 t16 => ?_⟩
          refine ⟨_, rfl, _, rfl, _, rfl, a, l, 40000 * ((i : Nat) : Int) + 20002 + 300 * ((j : Nat) : Int) + 141, v15, d15, bigInt * 1000000000 + 1000000000000000000000000000000, rfl, by omega, W16.up (by omega), dv15.go g16, c1, by unfold bigInt; decide +kernel, by omega, by omega, t16, fun v17 d17 H17 dv17 nr17 W17 g17 t17 => ?_⟩
          obtain ⟨d1, d2, d3⟩ := nr17
          refine ⟨by show 4 ≤ sizeLine; decide, fun o18 ho18 => ?_⟩
          have g18 := Go.new (T := T) (M := []) (o := .lst [v13, v16, v15, v17]) ho18
          have GC : Go T [a, l] H15 _ := (g16.trans g17).trans g18.of0
          have GD : Go T [a, l] H10 _ := (GA.trans GB).trans GC
          refine VInv.cat (T := T) (j := 4) (vJ.go GD (W17.go g18)) upd_same (.cons (dv13'.go GC) (.cons ((dv16.go g17).go g18.of0) (.cons (dv15.go GC) (.cons (dv17.go g18.of0) .nil)))) (fun d hd => ?_) (by show 4 ≤ 4; decide) (by omega) fun r19 H19 v19 g19 => ?_
          · simp only [List.mem_cons, List.not_mem_nil, or_false] at hd
            rcases hd with rfl | rfl | rfl | rfl
            · exact shape_good sh13 (by omega)
            · exact shape_good sh16 (by omega)
            · exact ⟨nice_mono (by unfold NB bigInt; decide +kernel) c1, by omega, by omega⟩
            · exact ⟨nice_mono (by unfold NB bigInt; decide +kernel) d1, by omega, by omega⟩
          · exact ⟨_, _, _, _, rfl, v19.up (by omega) (by omega), (dk10.go GD).go g19.of0, (dl10.go GD).go g19.of0⟩
        · obtain ⟨z, p8, p9, p10, rfl, vJ, dk10, dl10⟩ := h
          obtain ⟨p, us, ds, rfl, ep, np, du, hg, lu, W10, t10⟩ := vJ
          refine ⟨_, rfl, p, rfl, ⟨_, SqL.of ep⟩, fun Dl hDl => ?_⟩
          refine lc_map (T := T) (fun _ => .bl true) (walk_list (xs := us)) (fun H6 g6 => SqL.of (g6.lst ep (nn _))) t10 Go.refl hDl (by rw [sizeLine_eq]; have : (5 : Int).toNat = 5 := rfl; omega) (fun i' x H11 H12 R hi' g11 t11 y hR => ?_) (fun H11 g11 t11 ed => ?_)
          · obtain ⟨rfl, ex⟩ := y
            obtain ⟨d, ed, hv⟩ := du.get ex
            have gd := hg d (List.mem_of_getElem? ed)
            obtain ⟨b1, b2, b3, b4, b5⟩ := both_good ok3 gd
            exact ⟨rfl, _, rfl, _, rfl, v3, x, (xk :: rk), d, NB, rfl, ⟨(dk10.go (g11.of0 : Go T [a, l] H10 _)).less (by simp), (hv.go (g11.of0 : Go T [a, l] H10 _)).less (by simp), kB3, b4, b5, t11⟩, b1, by unfold NB bigInt; decide +kernel, b2, b3, fun H13 g13 t13 => hR H13 g13⟩
          have em : (List.range us.length).map (fun _ : Nat => V.bl true) = (List.replicate us.length true).map V.bl := by
            rw [List.map_replicate, List.map_const', List.length_range]
          rw [em] at ed
          refine ⟨Dl, List.replicate us.length true, rfl, SqL.of ed, _, rfl, ?_⟩
          have ea : (List.replicate us.length true).all id = true := by simp
          rw [ea]
          refine iteF ?_
          exact ⟨_, _, _, _, _, _, _, _, _, rfl, (W10.go g11).up (by show (40000 * (i : Int) + 20002 + 300 * ((5 : Nat) : Int)) ≤ _; omega), t11⟩
    · refine if_false_of (decide_eq_false fun z => i2 (by have := V.int.inj z; omega)) ?_
      have W3 := W3.up (j := 40000 * ((i : Nat) : Int) + 10001) (by omega)
      have up : ∀ {p : Addr} {H' : Hp} {k' : Int}, WellAt a l H' k' → H' p = none → p ∉ [a, l] := fun w h => nin (w.ne h)
      refine ⟨_, rfl, v3, (xk :: rk), rfl, dv3.less (by simp), kB3, t3, fun D H4 hD0 hD g4 t4 => ?_⟩
      clear hD hD0
      have dv4 := dv3.go (g4.of0 : Go T [a, l] H3 H4)
      have W4 := W3.go g4
      refine ⟨_, rfl, _, rfl, by show 3 ≤ sizeLine; decide, fun q2 hq2 => ?_⟩
      have v2 := Go.new (T := T) (M := []) (o := .lst [V.int 4, .int 12, .int 97]) hq2
      refine ⟨_, rfl, q2, _, _, _, rfl, rfl, SqL.of upd_same, em', _, rfl, a, l, 40000 * ((i : Nat) : Int) + 10001, 3, rfl, by decide, by decide, by omega, W4.go v2, v2.tb t4, fun i5 H5 i50 i51 W5 g5 t5 => ⟨_, _, rfl, rfl, ?_⟩⟩
      have dv5 := (dv4.go v2.of0).go g5
      refine ⟨a, l, 40000 * ((i : Nat) : Int) + 10002, m' - i5, v3, (xk :: rk), rfl, by omega, by omega, by omega, W5.up (by omega), dv5, kB3, t5, fun v6 rows sorts H6 dl6 fit6 sm6 len6 W6 g6 t6 => ?_⟩
      have dv6 := dv5.go g6
      have sh6 := shape_of kB3 fit6 sm6
      clear fit6 sm6
      obtain ⟨lp, vs, rfl, elp, nlp, dvs⟩ := dv_tup dl6
      have lvs := dvs.length
      rw [List.length_map] at lvs
      have fr6 : ∀ {H' : Hp}, Go T [] H6 H' → ∀ r, H' r = none → r ∉ [a, l] := fun g r h => up (W6.go g) h
      refine ⟨_, rfl, _, rfl, _, rfl, sl_ok (T := T) (M := [a, l]) elp nlp (fr6 Go.refl) fun s1 K1 f1 n1 h1 => ?_⟩
      refine ⟨_, rfl, _, rfl, sl_ok (T := T) (M := [a, l]) (h1.tup elp (nn _)) nlp (fr6 h1) fun s2 K2 f2 n2 h2 => ?_⟩
      have w2 := h1.trans h2
      refine ⟨_, rfl, _, rfl, ?_⟩
      try unfold tNoPart
      refine sl_ok (T := T) (M := [a, l]) (w2.tup elp (nn _)) nlp (fr6 w2) fun s3 K3 f3 n3 h3 => ?_
      have w3 := w2.trans h3
      refine ⟨_, rfl, ?_⟩
      try unfold tC
      refine times_ok (T := T) (M := [a, l]) (j := 2) (w3.tup elp (nn _)) nlp (by decide) (by decide) (by omega) (fr6 w3) fun s4 K4 f4 n4 h4 => ?_
      have w4 := w3.trans h4
      refine ⟨_, rfl, lp, vs, rfl, .inr (SqT.of (w4.tup elp (nn _))), fun l5 hl5 => ?_⟩
      have h5 := Go.new (T := T) (M := []) (o := .lst vs) hl5
      have nl5 := fr6 w4 _ hl5
      have w5 := w4.trans h5
      refine ⟨by show 0 ≤ sizeLine; omega, fun e6 he6 => ?_⟩
      have h6 := Go.new (T := T) (M := []) (o := .tup []) he6
      have ne6 := fr6 w5 _ he6
      have w6 := w5.trans h6
      refine ⟨_, rfl, _, rfl, _, rfl, _, rfl, ?_⟩
      try unfold tNoPart
      refine sl_ok (T := T) (M := [a, l]) (w6.tup elp (nn _)) nlp (fr6 w6) fun s7 K7 f7 n7 h7 => ?_
      have w7 := w6.trans h7
      refine cat_ok (T := T) (M := [a, l]) (w7.tup elp (nn _)) f7 nlp n7 (by have := cutV_len vs (some (-1)) none; omega) (fr6 w7) fun s8 K8 f8 n8 h8 => ?_
      have w8 := w7.trans h8
      refine ⟨by show 10 ≤ sizeLine; decide, fun o9 ho9 => ?_⟩
      have h9 := Go.new (T := T) (M := []) (o := .lst [V.ref lp, .ref s1, .ref s2, .ref s3, .ref s4, .ref l5, .ref e6, .non, .int 0, .ref s8]) ho9
      have no9 := fr6 w8 _ ho9
      have w9 := w8.trans h9
      have r8 := h9
      have r7 := h8.trans r8
      have r6 := h7.trans r7
      have r5 := h6.trans r6
      have r4 := h5.trans r5
      have r3 := h4.trans r4
      have r2 := h3.trans r3
      have r1 := h2.trans r2
      have ds9 := dvs.go (w9.of0 : Go T [a, l] H6 _)
      have dl9 := dl6.go (w9.of0 : Go T [a, l] H6 _)
      have bdL : ∀ d ∈ rows.map rowD, wt d ≤ 8000 ∧ nice bigInt d = true ∧ d.depth ≤ 2 := shape_bd sh6
      have lrd : (rows.map rowD).length ≤ 97 := by rw [List.length_map]; exact len6
      have dZ : DvAll [a, l] _ [V.ref lp, .ref s1, .ref s2, .ref s3, .ref s4, .ref l5, .ref e6, .non, .int 0, .ref s8] [rowsD rows, .tuple (SL.cutD (rows.map rowD) none (some 96)), .tuple (SL.cutD (rows.map rowD) none (some 1)), .tuple (SL.cutD (rows.map rowD) (some 1) none), .tuple (List.replicate (2 : Int).toNat (rows.map rowD)).flatten, .list (rows.map rowD), .tuple [], .none, .int 0, .tuple (rows.map rowD ++ SL.cutD (rows.map rowD) (some (-1)) none)] :=
        .cons dl9 (.cons (.tup (r1.tup f1 (nn _)) n1 (ds9.cutD _ _)) (.cons (.tup (r2.tup f2 (nn _)) n2 (ds9.cutD _ _)) (.cons (.tup (r3.tup f3 (nn _)) n3 (ds9.cutD _ _)) (.cons (.tup (r4.tup f4 (nn _)) n4 (DvAll.rep ds9 _)) (.cons (.lst (r5.lst upd_same (nn _)) nl5 ds9) (.cons (.tup (r6.tup upd_same (nn _)) ne6 .nil) (.cons .non (.cons (.int 0) (.cons (.tup (r8.tup f8 (nn _)) n8 (ds9.append (ds9.cutD _ _))) .nil)))))))))
      have vF : VInv T a l 10 (40000 * ((i : Nat) : Int) + 20002) (.ref o9) _ := ⟨o9, _, _, rfl, upd_same, no9, dZ, fun d hd => firsts_good bdL lrd hd, by show 10 ≤ 10; decide, (W6.go w9).up (by omega), w9.tb t6⟩
      have dv9 := dv6.go (w9.of0 : Go T [a, l] H6 _)
      generalize upd K8 o9 (.lst [V.ref lp, .ref s1, .ref s2, .ref s3, .ref s4, .ref l5, .ref e6, .non, .int 0, .ref s8]) = H9 at *
      refine ⟨5, rfl, by decide, by decide, ?_⟩
      refine for_it (walk_range (lo := 0) (n := (5 : Int).toNat)) (fun j σ H' => ∃ (z : V) (p8 p9 p10 : Option V), σ = [some (.ref b), some (.ref a), some (.int (0 + (i : Int))), some v3, p4, some (.ref D), some (.ref lp), some z, p8, p9, p10, none] ∧ VInv T a l (10 + 4 * j) (40000 * i + 20002 + 300 * j) z H' ∧ Dv [a, l] H' v3 (.tuple (xk :: rk)) ∧ Dv [a, l] H' (.ref lp) (rowsD rows))
        ⟨_, _, _, _, rfl, vF.up (by omega) (by omega), dv9, dl9⟩ (fun _ _ _ _ _ => trivial) (fun j x σ H10a H10 hj h y => ?_) (fun σ H10 h => ?_)
      · obtain ⟨z, p8, p9, p10, rfl, vJ, dk10, dl10⟩ := h
        obtain ⟨rfl, rfl⟩ := y
        have hj : j < 5 := hj
        obtain ⟨_, _, _, _, _, _, _, _, _, W10, t10⟩ := id vJ
        obtain ⟨lp', vs', e', elp10, nlp', dvs10⟩ := dv_tup dl10
        cases e'
        refine ⟨_, rfl, _, rfl, _, rfl, _, rfl, a, l, 40000 * ((i : Nat) : Int) + 20002 + 300 * ((j : Nat) : Int), 3, rfl, by decide, by decide, by omega, W10, t10, fun i11 H11 i110 i111 W11 g11 t11 => ⟨_, _, rfl, rfl, _, rfl, ?_⟩⟩
        have elp11 := g11.tup elp10 nlp
        refine sl_ok (T := T) (M := [a, l]) elp11 nlp (fun r h => up W11 h) fun s12 K12 f12 n12 h12 => ?_
        have W12 := W11.go h12
        have dc := ((dvs10.go g11).go (h12.of0 : Go T [a, l] H11 K12)).cutD none (some (96 - i11))
        rw [cutD_up (by omega), ← List.map_take] at dc
        refine ⟨a, l, _, .ref D, .ref s12, rows.take (96 - i11).toNat, rfl, by omega, W12.up (k := _) (Int.le_refl _), .tup f12 n12 dc, sh6.sub (fun r hr => List.mem_of_mem_take hr), by rw [List.length_take]; omega, h12.tb t11, fun v13 rows13 H13 dv13 sh13 len13 W13 g13 t13 => ?_⟩
        rw [List.length_take] at len13
        have GA : Go T [a, l] H10 H13 := (g11.trans h12.of0).trans g13
        have elp13 := GA.tup elp10 nlp
        refine ⟨_, rfl, _, rfl, _, rfl, sl_ok (T := T) (M := [a, l]) elp13 nlp (fun r h => up W13 h) fun s14 K14 f14 n14 h14 => ?_⟩
        have dc2 := ((dvs10.go GA).go (h14.of0 : Go T [a, l] H13 K14)).cutD none (some 20)
        obtain ⟨b1, b2, b3⟩ := part_bd (n := 20) (ys := SL.cutD (rows.map rowD) none (some 20)) bdL (fun d hd => cutD_mem hd) (by rw [cutD_up (by decide), List.length_take]; exact Nat.min_le_left _ _)
        have W14 := W13.go h14
        refine ⟨a, l, 40000 * ((i : Nat) : Int) + 20002 + 300 * ((j : Nat) : Int) + 6, .ref s14, _, bigInt, rfl, by omega, W14.up (by omega), .tup f14 n14 dc2, b1, by unfold bigInt; decide +kernel, by omega, by omega, h14.tb t13, fun v15 d15 H15 dv15 nr15 W15 g15 t15 => ?_⟩
        obtain ⟨c1, c2, c3⟩ := nr15
        have GB : Go T [a, l] H13 H15 := h14.of0.trans g15
        have dv13' := dv13.go GB
        refine ⟨_, rfl, _, rfl, _, rfl, _, rfl, _, rfl, a, l, 40000 * ((i : Nat) : Int) + 20002 + 300 * ((j : Nat) : Int) + 136, .ref D, v13, rows13, rfl, by omega, W15.up (by omega), dv13', sh13, by omega, t15, fun v16 rows16 H16 dv16 sh16 len16 W16 g16 t16 => ?_⟩
        refine ⟨_, rfl, _, rfl, _, rfl, a, l, 40000 * ((i : Nat) : Int) + 20002 + 300 * ((j : Nat) : Int) + 141, v15, d15, bigInt * 1000000000 + 1000000000000000000000000000000, rfl, by omega, W16.up (by omega), dv15.go g16, c1, by unfold bigInt; decide +kernel, by omega, by omega, t16, fun v17 d17 H17 dv17 nr17 W17 g17 t17 => ?_⟩
        obtain ⟨d1, d2, d3⟩ := nr17
        refine ⟨by show 4 ≤ sizeLine; decide, fun o18 ho18 => ?_⟩
        have g18 := Go.new (T := T) (M := []) (o := .lst [v13, v16, v15, v17]) ho18
        have GC : Go T [a, l] H15 _ := (g16.trans g17).trans g18.of0
        have GD : Go T [a, l] H10 _ := (GA.trans GB).trans GC
        refine VInv.cat (T := T) (j := 4) (vJ.go GD (W17.go g18)) upd_same (.cons (dv13'.go GC) (.cons ((dv16.go g17).go g18.of0) (.cons (dv15.go GC) (.cons (dv17.go g18.of0) .nil)))) (fun d hd => ?_) (by show 4 ≤ 4; decide) (by omega) fun r19 H19 v19 g19 => ?_
        · simp only [List.mem_cons, List.not_mem_nil, or_false] at hd
          rcases hd with rfl | rfl | rfl | rfl
          · exact shape_good sh13 (by omega)
          · exact shape_good sh16 (by omega)
          · exact ⟨nice_mono (by unfold NB bigInt; decide +kernel) c1, by omega, by omega⟩
          · exact ⟨nice_mono (by unfold NB bigInt; decide +kernel) d1, by omega, by omega⟩
        · exact ⟨_, _, _, _, rfl, v19.up (by omega) (by omega), (dk10.go GD).go g19.of0, (dl10.go GD).go g19.of0⟩
      · obtain ⟨z, p8, p9, p10, rfl, vJ, dk10, dl10⟩ := h
        obtain ⟨p, us, ds, rfl, ep, np, du, hg, lu, W10, t10⟩ := vJ
        refine ⟨_, rfl, p, rfl, ⟨_, SqL.of ep⟩, fun Dl hDl => ?_⟩
        refine lc_map (T := T) (fun _ => .bl true) (walk_list (xs := us)) (fun H6 g6 => SqL.of (g6.lst ep (nn _))) t10 Go.refl hDl (by rw [sizeLine_eq]; have : (5 : Int).toNat = 5 := rfl; omega) (fun i' x H11 H12 R hi' g11 t11 y hR => ?_) (fun H11 g11 t11 ed => ?_)
        · obtain ⟨rfl, ex⟩ := y
          obtain ⟨d, ed, hv⟩ := du.get ex
          have gd := hg d (List.mem_of_getElem? ed)
          obtain ⟨b1, b2, b3, b4, b5⟩ := both_good ok3 gd
          exact ⟨rfl, _, rfl, _, rfl, v3, x, (xk :: rk), d, NB, rfl, ⟨(dk10.go (g11.of0 : Go T [a, l] H10 _)).less (by simp), (hv.go (g11.of0 : Go T [a, l] H10 _)).less (by simp), kB3, b4, b5, t11⟩, b1, by unfold NB bigInt; decide +kernel, b2, b3, fun H13 g13 t13 => hR H13 g13⟩
        have em : (List.range us.length).map (fun _ : Nat => V.bl true) = (List.replicate us.length true).map V.bl := by
          rw [List.map_replicate, List.map_const', List.length_range]
        rw [em] at ed
        refine ⟨Dl, List.replicate us.length true, rfl, SqL.of ed, _, rfl, ?_⟩
        have ea : (List.replicate us.length true).all id = true := by simp
        rw [ea]
        refine iteF ?_
        exact ⟨_, _, _, _, _, _, _, _, _, rfl, (W10.go g11).up (by show (40000 * (i : Int) + 20002 + 300 * ((5 : Nat) : Int)) ≤ _; omega), t11⟩
  · exact q H2
end
end K3
set_option Elab.async false
set_option linter.all false
set_option maxRecDepth 100000
set_option maxHeartbeats 8000000
namespace K3
open PySem PySem.Spec PyProof.Rows L2 GxR NdefX GA SL
section
variable {P : Program} {w : World} {K : PySem.W.Frag} {mg : Str → Option Value} {base : Heap} {f c CK CN CT CR : Addr} {fd : FuncData} {T : List Addr}
theorem ok_law_name (F : Fun K "_law_name" "_law_name" s_law_name f fd) (B : Bl mg) (Fd : Fnn P w K mg base CX0 1 "_law_draw" ["well", "many"] (sp_draw T)) : FnOk P w K mg base CX0 2 f fd ["well", "taken", "high"] (sp_name T) := by
  have nd := sc_law_name.nd
  refine F.ok sc_law_name (fun vs H Q E h => ?_) (fun cdv A outer s H vs Q E hr h => ?_)
  · obtain ⟨_, _, _, _, _, rfl, _⟩ := h
    rfl
  obtain ⟨a, l, t, k, xs, rfl, hk, W, ta, tl, et, hx, lx, ht, q⟩ := h
  have hu : (A.deeper (envOfC "_law_name" (defScope s_law_name) s.heap.objs.size f cdv)).units < cLine := by
    have := hr.un
    omega
  refine ⟨_, (pss_cons (ps_set (i := 3) nd rfl (Or.inl rfl) pe_str)
    (pss_cons (ps_set (i := 4) nd rfl (Or.inr rfl) (pe_op op_add_str (pe_op op_add_str (pv 3) (pe_upper (pv 3))) pe_str))
    (pss_cons (ps_set (i := 5) nd rfl (Or.inr rfl) (pe_ix ix_str (pv 3) (pe_fn Fd hr (by decide) pass0 (pa_cons (pv 0) (pa_cons pe_int pa_nil))) (fun _ _ => rfl)))
    (pss_cons (ps_set (i := 6) nd rfl (Or.inl rfl) (pe_join pe_str (pe_lc (own := [("k", 10)]) (g := gName 10) (tt := tYes)  rfl nd (pi_range1 rfl B.range (pa_cons (pe_fn Fd hr (by decide) pass0 (pa_cons (pv 0) (pa_cons (pe_ix ix_list (pe_lst (pa_cons pe_int (pa_cons pe_int (pa_cons pe_int pa_nil)))) (pe_fn Fd hr (by decide) pass0 (pa_cons (pv 0) (pa_cons pe_int pa_nil))) (fun _ _ => rfl)) pa_nil))) pa_nil)) (blkOk_by (own := [("k", 10)]) (N := ["well", "taken", "high", "low", "signs", "head", "body", "old", "at", "found", "k"]) (sc := defScope s_law_name) (by decide +kernel))
        (fun _ _ _ _ _ => (pg_name (i := 10) nd rfl (Or.inl rfl))) (fun _ _ _ _ _ => pts_nil) (fun _ _ _ _ _ => (pe_ix ix_str (pv 4) (pe_fn Fd hr (by decide) pass0 (pa_cons (pv 0) (pa_cons pe_int pa_nil))) (fun _ _ => rfl))))))
    (pss_cons (ps_if (PW.pt (pw_and (pt_cmpR (op_neNil hu) (pv 1) (pe_lst pa_nil) (nomark _)) (pw_and1 (pt_cmpR op_eq (pe_fn Fd hr (by decide) pass0 (pa_cons (pv 0) (pa_cons pe_int pa_nil))) pe_int (nomark _))))) (pss_cons (ps_set (i := 7) nd rfl (Or.inl rfl) (pe_ix ix_list (pv 1) (pe_fn Fd hr (by decide) pass0 (pa_cons (pv 0) (pa_cons (pe_lenq B (pv 1)) pa_nil))) (fun _ _ => rfl)))
    (pss_cons (ps_set (i := 8) nd rfl (Or.inl rfl) (pe_op op_add pe_int (pe_fn Fd hr (by decide) pass0 (pa_cons (pv 0) (pa_cons (pe_lens B (pv 7)) pa_nil)))))
    (pss_cons (ps_set (i := 5) nd rfl (Or.inr rfl) (pe_lower (pe_ix ix_str (pv 7) pe_int (fun _ _ => rfl))))
    (pss_one (ps_set (i := 6) nd rfl (Or.inl rfl) (pe_slice sl_str (pe_op op_add_str (pe_op op_add_str (pe_slice sl_str (pv 7) po_none (po_some (pv 8))) (pe_ix ix_list (pe_lst (pa_cons pe_str (pa_cons (pe_ix ix_str (pv 4) (pe_fn Fd hr (by decide) pass0 (pa_cons (pv 0) (pa_cons pe_int pa_nil))) (fun _ _ => rfl)) pa_nil))) (pe_fn Fd hr (by decide) pass0 (pa_cons (pv 0) (pa_cons pe_int pa_nil))) (fun _ _ => rfl))) (pe_slice sl_str (pv 7) (po_some (pe_op op_add (pv 8) (pe_fn Fd hr (by decide) pass0 (pa_cons (pv 0) (pa_cons pe_int pa_nil))))) po_none)) (po_some pe_int) (po_some pe_int))))))) pss_nil)
    (pss_cons (ps_if (pt_val (pv 2)) (pss_one (ps_set (i := 5) nd rfl (Or.inr rfl) (pe_upper (pv 5)))) pss_nil)
    (pss_cons (ps_set (i := 9) nd rfl (Or.inl rfl) (pe_op op_add_str (pv 5) (pv 6)))
    (pss_cons (ps_if (PW.pt (pw_or (pt_cmpR op_in_seq (pv 9) (pv 1) rfl) (pw_or1 (pt_cmpR op_in_seq (pv 9) (pe_tup (pa_cons pe_str (pa_cons pe_str (pa_cons pe_str pa_nil)))) rfl)))) (pss_one (ps_set (i := 9) nd rfl (Or.inl rfl) (pe_ix ix_list (pe_lc (own := [("k", 10)]) (g := gName 10) (tt := (tTest (tOp (rIn K true) (tOp rCatS (tVar 5) (tCB rStrI (tCons (tVar 10) tNil))) (tVar 1)))) (te := tOp rCatS (tVar 5) (tCB rStrI (tCons (tVar 10) tNil))) rfl nd (pi_range1 rfl B.range (pa_cons pe_int pa_nil)) (blkOk_by (own := [("k", 10)]) (N := ["well", "taken", "high", "low", "signs", "head", "body", "old", "at", "found", "k"]) (sc := defScope s_law_name) (by decide +kernel))
        (fun _ _ _ _ _ => (pg_name (i := 10) nd rfl (Or.inl rfl))) (fun _ _ _ _ _ => pts_one (pt_cmpR op_notIn_seq (pe_op op_add_str (pv 5) (pe_strI B (pv 10))) (pv 1) rfl)) (fun _ _ _ _ _ => (pe_op op_add_str (pv 5) (pe_strI B (pv 10))))) pe_int (fun _ _ => rfl)))) pss_nil)
    (pss_one (ps_ret (pv 9))))))))))), ?_⟩
  have nn : ∀ b : Addr, b ∉ ([] : List Addr) := fun b => List.not_mem_nil
  have eS : (low26 ++ up26) ++ "0123456789" = an62 := rfl
  have a26 : ∀ c ∈ low26.cps.toList, loC c = true := List.all_eq_true.mp (by decide +kernel)
  have a62 : an an62 = true := by decide +kernel
  refine ⟨_, rfl, _, rfl, ⟨_, rfl⟩, low26, rfl, rfl, by decide +kernel, ?_⟩
  rw [upper26]
  refine ⟨low26, up26, rfl, rfl, by decide +kernel, low26 ++ up26, "0123456789", rfl, rfl, by decide +kernel, ?_⟩
  refine ⟨_, rfl, _, rfl, a, l, k, 26, rfl, by decide, by decide, by omega, W, ht, fun i1 H1 i10 i11 W1 g1 t1 => ?_⟩
  obtain ⟨h0, eh0, mh0⟩ := at_ok (xs := low26.cps.toList) i10 (by exact i11)
  refine ⟨low26, i1, h0, rfl, rfl, by decide +kernel, eh0, ?_⟩
  refine ⟨⟨_, rfl⟩, _, rfl, by show 3 ≤ sizeLine; decide, fun p1 hp1 => ?_⟩
  have gp1 := Go.new (T := T) (M := [a, l]) (o := .lst [.int 2, .int 4, .int 10]) hp1
  have gp1' := Go.new (T := T) (M := []) (o := .lst [.int 2, .int 4, .int 10]) hp1
  refine ⟨_, rfl, a, l, k + 1, 3, rfl, by decide, by decide, by omega, W1.go gp1', gp1.tb t1, fun i2 H2 i20 i21 W2 g2 t2 => ?_⟩
  obtain ⟨m, em, m0, m1⟩ := at3 i20 i21
  refine ⟨p1, _, i2, _, rfl, rfl, SqL.of (g2.lst upd_same (nin (W1.ne hp1))), em, a, l, k + 1 + 1, m, rfl, by omega, by omega, by omega, W2, t2, fun i3 H3 i30 i31 W3 g3 t3 => ?_⟩
  have G3 : Go T [a, l] H H3 := ((g1.trans gp1).trans g2).trans g3
  refine ⟨i3, rfl, by omega, by omega, fun D hD => ?_⟩
  have nD : D ∉ [a, l] := nin (W3.ne hD)
  have gD := Go.new (T := T) (M := []) (o := .lst []) hD
  refine lc_it (walk_range (lo := 0) (n := i3.toNat)) (fun i H' => Go T [a, l] H3 H' ∧ WellAt a l H' (k + 3 + i) ∧ ∃ ys : List Str, H' D = some (.lst (ys.map V.str)) ∧ ys.length = i ∧ ∀ y ∈ ys, y.length ≤ 1 ∧ an y = true) ⟨Go.new hD, (W3.go gD).up (by omega), [], upd_same, rfl, by simp⟩ (fun _ _ _ _ => trivial) (fun i x H4 H5 hi h y => ?_) (fun H4 h => ?_)
  · obtain ⟨gg, W4, ys, ey, ly, hy⟩ := h
    obtain ⟨rfl, rfl⟩ := y
    refine ⟨rfl, _, rfl, _, rfl, a, l, k + 3 + i, 62, rfl, by decide, by decide, by omega, W4, gg.tb t3, fun i5 H5 j0 j1 W5 g5 t5 => ?_⟩
    obtain ⟨c5, ec5, mc5⟩ := at_ok (xs := an62.cps.toList) j0 (by exact j1)
    have e5 := g5.lst ey nD
    refine ⟨an62, i5, c5, rfl, rfl, by decide +kernel, ec5, ys.map V.str, e5, by rw [List.length_map, sizeLine_eq]; omega, (gg.trans g5).over hD e5 (fun _ z => by cases z), ?_, ys ++ [⟨#[c5]⟩], by rw [upd_same, List.map_append] <;> rfl, by rw [List.length_append, ly] <;> rfl, fun y hy' => ?_⟩
    · obtain ⟨ns, s1, c1, w1, w2, w3, w4, w5, w6, w7⟩ := W5
      have n1 : a ≠ D := fun z => nD (by simp [z])
      have n2 : l ≠ D := fun z => nD (by simp [z])
      exact ⟨ns, s1, c1, w1, by rw [upd_ne n1]; exact w2, by rw [upd_ne n2]; exact w3, w4, w5, w6, by omega⟩
    · rcases List.mem_append.mp hy' with z | z
      · exact hy y z
      · rw [List.mem_singleton.mp z]
        exact ⟨Nat.le_refl _, an_one a62 mc5⟩
  obtain ⟨gg, W4, ys, ey, ly, hy⟩ := h
  have hj := join_an hy
  have G4 := G3.trans gg
  have t4 := gg.tb t3
  have sm : (ys.map (fun x : Str => x.length)).sum ≤ ys.length := by
    clear ey ly hj
    induction ys with
    | nil => simp
    | cons y r ih =>
      have h1 := (hy y List.mem_cons_self).1
      have h2 := ih fun z hz => hy z (List.mem_cons_of_mem _ hz)
      rw [List.map_cons, List.sum_cons, List.length_cons]
      omega
  refine ⟨⟨#[]⟩, D, ys, rfl, rfl, .inl (SqL.of ey), by show _ + _ * 0 ≤ _; omega, ?_⟩
  rw [SL.join_nil]
  have W4 : WellAt a l H4 (k + 13) := W4.up (by omega)
  have eT4 : H4 t = some (.lst (xs.map V.str)) := G4.lst et (nin ⟨ta, tl⟩)
  refine ⟨_, rfl, by show 0 ≤ sizeLine; omega, fun p2 hp2 => ?_⟩
  have gq := Go.new (T := T) (M := []) (o := .lst []) hp2
  have G5 : Go T [a, l] H (upd H4 p2 (.lst [])) := G4.trans gq.of0
  have eT5 := gq.lst eT4 (nn _)
  have W5 := W4.go gq
  have hbd : an (Str.join ⟨#[]⟩ ys) = true ∧ (Str.join ⟨#[]⟩ ys).length ≤ 9 := ⟨hj.2, by omega⟩
  have hhd : low1 (⟨#[h0]⟩ : Str) := ⟨h0, rfl, a26 h0 mh0⟩
  refine ⟨t, p2, xs.map V.str, rfl, rfl, .inl ⟨SqL.of eT5, SqL.of upd_same⟩, _, rfl, ?_⟩
  by_cases hne : xs = []
  · rw [show (xs.map V.str).isEmpty = true by rw [hne] <;> rfl]
    refine iteF (iteF ?_)
    refine ⟨_, rfl, _, rfl, iteT ?_⟩
    have l2 : ((Str.join ⟨#[]⟩ ys)).length ≤ 9 := (hbd).2
    have lh : ((⟨#[h0]⟩ : Str)).length = 1 := (hhd).len
    have hu1 : high1 (Txt.upper (⟨#[h0]⟩ : Str)) := up_low hhd
    have lu := hu1.len
    refine ⟨_, rfl, ⟨_, rfl⟩, (⟨#[h0]⟩ : Str), rfl, rfl, by rw [lh]; decide, ?_⟩
    generalize Txt.upper (⟨#[h0]⟩ : Str) = U at hu1 lu ⊢
    refine ⟨_, rfl, _, rfl, U, (Str.join ⟨#[]⟩ ys), rfl, rfl, by rw [sizeLine_eq]; omega, ?_⟩
    refine ⟨_, rfl, _, rfl, t, _, rfl, .inl (SqL.of eT5), rfl, flat_strs _, _, rfl, ?_⟩
    rw [inV_strs]
    by_cases k1 : U ++ (Str.join ⟨#[]⟩ ys) ∈ xs
    · rw [decide_eq_true k1]
      refine iteT ?_
      refine ⟨400, rfl, by decide, by decide, fun D9 hD9 => lc_pick (T := T) (hd := U) (xs := xs) (t := t) eT5 lx hu1 hD9 (fun _ => rfl) (fun _ => rfl) (fun _ => rfl) (fun _ => rfl) (fun H9 y9 ys9 g9 e9 hy9 hn9 => ?_)⟩
      exact ⟨D9, _, 0, .str y9, rfl, rfl, SqL.of e9, atI_nat (j := 0) rfl, _, rfl, q y9 H9 hy9 hn9 (((W5).go g9).up (by omega)) ((G5).trans g9.of0) (((G5).trans g9.of0).tb ht)⟩
    · rw [decide_eq_false k1]
      refine iteF ?_
      refine ⟨_, rfl, by show 3 ≤ sizeLine; decide, fun p8 hp8 => ⟨p8, ([("fun" : Str), "kind", "number"]).map V.str, rfl, .inr (SqT.of upd_same), rfl, flat_strs _, _, rfl, ?_⟩⟩
      have g8 := Go.new (T := T) (M := []) (o := .tup [.str "fun", .str "kind", .str "number"]) hp8
      have e8 := g8.lst eT5 (nn _)
      have W8 := (W5).go g8
      have G8 := (G5).trans g8.of0
      rw [inV_strs]
      by_cases k2 : U ++ (Str.join ⟨#[]⟩ ys) ∈ [("fun" : Str), "kind", "number"]
      · rw [decide_eq_true k2]
        refine iteT ?_
        refine ⟨400, rfl, by decide, by decide, fun D9 hD9 => lc_pick (T := T) (hd := U) (xs := xs) (t := t) e8 lx hu1 hD9 (fun _ => rfl) (fun _ => rfl) (fun _ => rfl) (fun _ => rfl) (fun H9 y9 ys9 g9 e9 hy9 hn9 => ?_)⟩
        exact ⟨D9, _, 0, .str y9, rfl, rfl, SqL.of e9, atI_nat (j := 0) rfl, _, rfl, q y9 H9 hy9 hn9 (((W8).go g9).up (by omega)) ((G8).trans g9.of0) (((G8).trans g9.of0).tb ht)⟩
      · rw [decide_eq_false k2]
        refine iteF ?_
        exact ⟨_, rfl, q _ _ (high_mk hu1 (hbd).1 l2) k1 (W8.up (by omega)) G8 (G8.tb ht)⟩
  · rw [show (xs.map V.str).isEmpty = false by cases xs with | nil => exact absurd rfl hne | cons _ _ => rfl]
    refine iteT ?_
    refine ⟨_, rfl, a, l, k + 13, 2, rfl, by decide, by decide, by omega, W5, G5.tb ht, fun i6 H6 j0 j1 W6 g6 t6 => ⟨rfl, _, rfl, ?_⟩⟩
    have G6 := G5.trans g6
    have eT6 : H6 t = some (.lst (xs.map V.str)) := G6.lst et (nin ⟨ta, tl⟩)
    by_cases h6 : i6 = 0
    · refine if_true_of (decide_eq_true (by rw [h6])) ?_
      have xpos : 0 < xs.length := List.length_pos_iff.mpr hne
      refine ⟨_, rfl, _, rfl, _, rfl, t, _, rfl, .inl (SqL.of eT6), a, l, k + 13 + 1, _, rfl, by rw [List.length_map]; omega, by rw [List.length_map]; omega, by omega, W6, t6, fun i7 H7 j70 j71 W7 g7 t7 => ?_⟩
      obtain ⟨vo, eo, mo⟩ := at_ok j70 j71
      obtain ⟨old, hold, rfl⟩ := List.mem_map.mp mo
      have ox := high_parts (hx old hold)
      have oo := (hx old hold).old
      have G7 := G6.trans g7
      have eT7 : H7 t = some (.lst (xs.map V.str)) := G7.lst et (nin ⟨ta, tl⟩)
      refine ⟨t, _, i7, _, rfl, rfl, SqL.of eT7, eo, ?_⟩
      have lo : old.length ≤ sizeLine := by rw [sizeLine_eq]; have := oo.2.2; omega
      refine ⟨_, rfl, _, rfl, old, rfl, lo, a, l, k + 13 + 1 + 1, _, rfl, by have := oo.2.1; omega, by have := oo.2.2; omega, by omega, W7, t7, fun i8 H8 j80 j81 W8 g8 t8 => ⟨_, _, rfl, rfl, ?_⟩⟩
      obtain ⟨c0, r0, e0⟩ := cons_of_len oo.2.1
      have a0 : asc (⟨#[c0]⟩ : Str) = true := asc_one oo.1 (by rw [e0]; exact List.mem_cons_self)
      refine ⟨_, rfl, old, 0, c0, rfl, rfl, lo, (by rw [e0]; exact atI_nat (j := 0) rfl), ⟨_, rfl⟩, ⟨#[c0]⟩, rfl, rfl, (show 1 ≤ 5592405 by decide), ?_⟩
      obtain ⟨c0', r0', e0', hc0⟩ := ox.2.2.2
      have ec : c0' = c0 := by rw [e0'] at e0; cases e0; rfl
      rw [ec] at hc0
      have hlo := lo_high hc0
      refine ⟨_, rfl, _, rfl, _, rfl, old, rfl, lo, _, rfl, _, rfl, a, l, k + 13 + 1 + 1 + 1, 62, rfl, by decide, by decide, by omega, W8, t8, fun i9 H9 j90 j91 W9 g9 t9 => ?_⟩
      obtain ⟨c9, ec9, mc9⟩ := at_ok (xs := an62.cps.toList) j90 (by exact j91)
      refine ⟨an62, i9, c9, rfl, rfl, by decide +kernel, ec9, by show 2 ≤ sizeLine; decide, fun p9 hp9 => ?_⟩
      have gp9 := Go.new (T := T) (M := []) (o := .lst [.str "", .str ⟨#[c9]⟩]) hp9
      refine ⟨_, rfl, a, l, k + 13 + 1 + 1 + 1 + 1, 2, rfl, by decide, by decide, by omega, W9.go gp9, gp9.tb t9, fun i10 H10 j100 j101 W10 g10 t10 => ?_⟩
      obtain ⟨z, ez, az, lz⟩ := at2 (p := fun z => an z = true ∧ z.length ≤ 1) j100 j101 (x := "") (y := ⟨#[c9]⟩) ⟨rfl, by decide⟩ ⟨an_one a62 mc9, Nat.le_refl _⟩
      refine ⟨p9, _, i10, _, rfl, rfl, SqL.of (g10.lst upd_same (nin (W9.ne hp9))), ez, ?_⟩
      have lc1 := len_cut old none (some (1 + i8))
      refine ⟨_, _, rfl, rfl, by rw [sizeLine_eq]; have := oo.2.2; omega, ?_⟩
      refine ⟨_, rfl, _, rfl, _, rfl, a, l, k + 13 + 1 + 1 + 1 + 1 + 1, 2, rfl, by decide, by decide, by omega, W10, t10, fun i11 H11 j110 j111 W11 g11 t11 => ⟨_, _, rfl, rfl, _, rfl, old, rfl, lo, ?_⟩⟩
      have lc2 := len_cut old (some (1 + i8 + i11)) none
      have lc3 : (cutS old none (some (1 + i8)) ++ z).length ≤ 12 := by rw [strLen_append]; have := oo.2.2; omega
      have lc4 : ((cutS old none (some (1 + i8)) ++ z) ++ cutS old (some (1 + i8 + i11)) none).length ≤ 23 := by rw [strLen_append]; have := oo.2.2; omega
      refine ⟨_, _, rfl, rfl, by rw [sizeLine_eq]; have := oo.2.2; omega, _, rfl, _, rfl, _, rfl, by rw [sizeLine_eq]; omega, ?_⟩
      have G11 := (((((G7.trans g8).trans g9).trans gp9.of0).trans g10).trans g11)
      have eT11 : H11 t = some (.lst (xs.map V.str)) := G11.lst et (nin ⟨ta, tl⟩)
      have hbd2 : an (cutS ((cutS old none (some (1 + i8)) ++ z) ++ cutS old (some (1 + i8 + i11)) none) (some 1) (some 10)) = true ∧ (cutS ((cutS old none (some (1 + i8)) ++ z) ++ cutS old (some (1 + i8 + i11)) none) (some 1) (some 10)).length ≤ 9 :=
        ⟨an_cut (an_add (an_add (an_cut ox.1 _ _) az) (an_cut ox.1 _ _)) _ _, by have := len_cut9 ((cutS old none (some (1 + i8)) ++ z) ++ cutS old (some (1 + i8 + i11)) none); omega⟩
      have hhd2 : low1 (Txt.lower ⟨#[c0]⟩) := hlo
      generalize Txt.lower ⟨#[c0]⟩ = X at hhd2 ⊢
      generalize cutS ((cutS old none (some (1 + i8)) ++ z) ++ cutS old (some (1 + i8 + i11)) none) (some 1) (some 10) = Y at hbd2 ⊢
      refine ⟨_, rfl, _, rfl, iteT ?_⟩
      have l2 : (Y).length ≤ 9 := (hbd2).2
      have lh : (X).length = 1 := (hhd2).len
      have hu1 : high1 (Txt.upper X) := up_low hhd2
      have lu := hu1.len
      refine ⟨_, rfl, ⟨_, rfl⟩, X, rfl, rfl, by rw [lh]; decide, ?_⟩
      generalize Txt.upper X = U at hu1 lu ⊢
      refine ⟨_, rfl, _, rfl, U, Y, rfl, rfl, by rw [sizeLine_eq]; omega, ?_⟩
      refine ⟨_, rfl, _, rfl, t, _, rfl, .inl (SqL.of eT11), rfl, flat_strs _, _, rfl, ?_⟩
      rw [inV_strs]
      by_cases k1 : U ++ Y ∈ xs
      · rw [decide_eq_true k1]
        refine iteT ?_
        refine ⟨400, rfl, by decide, by decide, fun D9 hD9 => lc_pick (T := T) (hd := U) (xs := xs) (t := t) eT11 lx hu1 hD9 (fun _ => rfl) (fun _ => rfl) (fun _ => rfl) (fun _ => rfl) (fun H9 y9 ys9 g9 e9 hy9 hn9 => ?_)⟩
        exact ⟨D9, _, 0, .str y9, rfl, rfl, SqL.of e9, atI_nat (j := 0) rfl, _, rfl, q y9 H9 hy9 hn9 (((W11).go g9).up (by omega)) ((G11).trans g9.of0) (((G11).trans g9.of0).tb ht)⟩
      · rw [decide_eq_false k1]
        refine iteF ?_
        refine ⟨_, rfl, by show 3 ≤ sizeLine; decide, fun p8 hp8 => ⟨p8, ([("fun" : Str), "kind", "number"]).map V.str, rfl, .inr (SqT.of upd_same), rfl, flat_strs _, _, rfl, ?_⟩⟩
        have g8 := Go.new (T := T) (M := []) (o := .tup [.str "fun", .str "kind", .str "number"]) hp8
        have e8 := g8.lst eT11 (nn _)
        have W8 := (W11).go g8
        have G8 := (G11).trans g8.of0
        rw [inV_strs]
        by_cases k2 : U ++ Y ∈ [("fun" : Str), "kind", "number"]
        · rw [decide_eq_true k2]
          refine iteT ?_
          refine ⟨400, rfl, by decide, by decide, fun D9 hD9 => lc_pick (T := T) (hd := U) (xs := xs) (t := t) e8 lx hu1 hD9 (fun _ => rfl) (fun _ => rfl) (fun _ => rfl) (fun _ => rfl) (fun H9 y9 ys9 g9 e9 hy9 hn9 => ?_)⟩
          exact ⟨D9, _, 0, .str y9, rfl, rfl, SqL.of e9, atI_nat (j := 0) rfl, _, rfl, q y9 H9 hy9 hn9 (((W8).go g9).up (by omega)) ((G8).trans g9.of0) (((G8).trans g9.of0).tb ht)⟩
        · rw [decide_eq_false k2]
          refine iteF ?_
          exact ⟨_, rfl, q _ _ (high_mk hu1 (hbd2).1 l2) k1 (W8.up (by omega)) G8 (G8.tb ht)⟩
    · refine if_false_of (decide_eq_false fun z => h6 (V.int.inj z)) ?_
      refine ⟨_, rfl, _, rfl, iteT ?_⟩
      have l2 : ((Str.join ⟨#[]⟩ ys)).length ≤ 9 := (hbd).2
      have lh : ((⟨#[h0]⟩ : Str)).length = 1 := (hhd).len
      have hu1 : high1 (Txt.upper (⟨#[h0]⟩ : Str)) := up_low hhd
      have lu := hu1.len
      refine ⟨_, rfl, ⟨_, rfl⟩, (⟨#[h0]⟩ : Str), rfl, rfl, by rw [lh]; decide, ?_⟩
      generalize Txt.upper (⟨#[h0]⟩ : Str) = U at hu1 lu ⊢
      refine ⟨_, rfl, _, rfl, U, (Str.join ⟨#[]⟩ ys), rfl, rfl, by rw [sizeLine_eq]; omega, ?_⟩
      refine ⟨_, rfl, _, rfl, t, _, rfl, .inl (SqL.of eT6), rfl, flat_strs _, _, rfl, ?_⟩
      rw [inV_strs]
      by_cases k1 : U ++ (Str.join ⟨#[]⟩ ys) ∈ xs
      · rw [decide_eq_true k1]
        refine iteT ?_
        refine ⟨400, rfl, by decide, by decide, fun D9 hD9 => lc_pick (T := T) (hd := U) (xs := xs) (t := t) eT6 lx hu1 hD9 (fun _ => rfl) (fun _ => rfl) (fun _ => rfl) (fun _ => rfl) (fun H9 y9 ys9 g9 e9 hy9 hn9 => ?_)⟩
        exact ⟨D9, _, 0, .str y9, rfl, rfl, SqL.of e9, atI_nat (j := 0) rfl, _, rfl, q y9 H9 hy9 hn9 (((W6).go g9).up (by omega)) ((G6).trans g9.of0) (((G6).trans g9.of0).tb ht)⟩
      · rw [decide_eq_false k1]
        refine iteF ?_
        refine ⟨_, rfl, by show 3 ≤ sizeLine; decide, fun p8 hp8 => ⟨p8, ([("fun" : Str), "kind", "number"]).map V.str, rfl, .inr (SqT.of upd_same), rfl, flat_strs _, _, rfl, ?_⟩⟩
        have g8 := Go.new (T := T) (M := []) (o := .tup [.str "fun", .str "kind", .str "number"]) hp8
        have e8 := g8.lst eT6 (nn _)
        have W8 := (W6).go g8
        have G8 := (G6).trans g8.of0
        rw [inV_strs]
        by_cases k2 : U ++ (Str.join ⟨#[]⟩ ys) ∈ [("fun" : Str), "kind", "number"]
        · rw [decide_eq_true k2]
          refine iteT ?_
          refine ⟨400, rfl, by decide, by decide, fun D9 hD9 => lc_pick (T := T) (hd := U) (xs := xs) (t := t) e8 lx hu1 hD9 (fun _ => rfl) (fun _ => rfl) (fun _ => rfl) (fun _ => rfl) (fun H9 y9 ys9 g9 e9 hy9 hn9 => ?_)⟩
          exact ⟨D9, _, 0, .str y9, rfl, rfl, SqL.of e9, atI_nat (j := 0) rfl, _, rfl, q y9 H9 hy9 hn9 (((W8).go g9).up (by omega)) ((G8).trans g9.of0) (((G8).trans g9.of0).tb ht)⟩
        · rw [decide_eq_false k2]
          refine iteF ?_
          exact ⟨_, rfl, q _ _ (high_mk hu1 (hbd).1 l2) k1 (W8.up (by omega)) G8 (G8.tb ht)⟩
end
end K3
set_option Elab.async false
set_option linter.all false
set_option maxRecDepth 100000
set_option maxHeartbeats 2000000
namespace SL
open PySem PySem.Spec PyProof.Rows L2 GxR NdefX GA
/-- the top's name x is the def st -/
def IsDef (K : PySem.W.Frag) (x : Str) (st : Stmt) : Prop := ∃ (f : Addr) (fd : FuncData), PySem.W.nsIn K mainGlobals x = some (some (.ref f)) ∧ Fun K x x st f fd
/-- .. its code object at c -/
def IsDefC (K : PySem.W.Frag) (x : Str) (st : Stmt) : Prop := ∃ (f c : Addr) (fd : FuncData), PySem.W.nsIn K mainGlobals x = some (some (.ref f)) ∧ FunT K x x st f fd c
/-- .. and its table, not of the written part -/
def IsDefT (K : PySem.W.Frag) (x : Str) (st : Stmt) : Prop := ∃ (f c Q : Addr) (fd : FuncData), PySem.W.nsIn K mainGlobals x = some (some (.ref f)) ∧ FunT K x x st f fd c ∧ PySem.W.tabIn K x = some (c, Q) ∧ K.lookup Q = none
section
variable {K : PySem.W.Frag} {x : Str} {st : Stmt} {f c Q : Addr} {oc kV dc pm cdv ct : Value} {od an : Option Addr} {sl : Array (Option Value)}
theorem isDef (a : PySem.W.nsIn K mainGlobals x = some (some (.ref f))) (l : K.lookup f = some ⟨oc, od, .func (PySem.W.fnOf x x (defArgs st) (defBody st) (defScope st) .none kV dc pm an cdv ct), sl⟩) (h : PySem.W.codeIn K cdv x = true) (k : PySem.W.keepIn K (.ref f) = true) : IsDef K x st :=
  ⟨f, _, a, fun_mk l h k⟩
theorem isDefC (a : PySem.W.nsIn K mainGlobals x = some (some (.ref f))) (l : K.lookup f = some ⟨oc, od, .func (PySem.W.fnOf x x (defArgs st) (defBody st) (defScope st) .none kV dc pm an (.ref c) ct), sl⟩) (h : PySem.W.codeIn K (.ref c) x = true) (k : PySem.W.keepIn K (.ref f) = true) : IsDefC K x st :=
  ⟨f, c, _, a, ⟨oc, od, kV, dc, pm, an, ct, sl, rfl, l, h⟩, k⟩
theorem isDefT {cc : Value} {cd : Option Addr} {vs : Array Value} {csl : Array (Option Value)} (a : PySem.W.nsIn K mainGlobals x = some (some (.ref f))) (l : K.lookup f = some ⟨oc, od, .func (PySem.W.fnOf x x (defArgs st) (defBody st) (defScope st) .none kV dc pm an (.ref c) ct), sl⟩) (h : PySem.W.codeIn K (.ref c) x = true) (k : PySem.W.keepIn K (.ref f) = true)
    (m : K.lookup c = some ⟨cc, cd, .fields vs, csl⟩) (v : (vs[11]? : Option Value) = some (.ref Q)) (n : K.lookup Q = none) : IsDefT K x st := by
  refine ⟨f, c, Q, _, a, ⟨⟨oc, od, kV, dc, pm, an, ct, sl, rfl, l, h⟩, k⟩, ?_, n⟩
  unfold PySem.W.tabIn
  rw [a]
  simp only [l, PySem.W.fnOf, m, v]
theorem Fun.kwb {fd : FuncData} {ps : List Str} (F : Fun K x x st f fd)
    (h : ∀ (kV doc pm : Value) (an : Option Addr) (cdv ct : Value) (us : List Value), us.length = ps.length → bindArgs (PySem.W.fnOf x x (defArgs st) (defBody st) (defScope st) .none kV doc pm an cdv ct) ⟨[], ps.zip us⟩ = pure (ps.zip us)) (s : Shared) (us : List Value) (_ : K.In s.heap) (hl : us.length = ps.length) : BindsTo s fd ⟨[], ps.zip us⟩ (ps.zip us) := by
  obtain ⟨oc, od, kV, doc, pm, an, cdv, ct, osl, rfl, _, _⟩ := F.ex
  exact .of_eq (h kV doc pm an cdv ct us hl)
/-- whether an error of the class at S is taken by «except C» -/
theorem exmOf {S C : Addr} {b : Bool} (h1 : PySem.W.subIn K (.ref C) (.type "BaseException") = some true) (h2 : PySem.W.isClsIn K C = true) (h3 : PySem.W.typeIn K (.ref C) = some (.type "type")) (h4 : PySem.W.subIn K (.ref S) (.ref C) = some b) : PySem.W.exmOne K (.ref S) (.ref C) = some b := by
  have z : (PySem.W.clsIn K C).isSome = true := h2
  unfold PySem.W.exmOne PySem.W.kitCls
  simp [h1, h3, h4, z]
theorem hasInt {x : Str} {i : Int} {t : Tok} (h : PySem.W.nsIn K mainGlobals x = some (some (.int i t))) : ∃ t, PySem.W.nsIn K mainGlobals x = some (some (.int i t)) := ⟨t, h⟩

end
end SL
set_option Elab.async false
set_option linter.all false
set_option maxRecDepth 100000
set_option maxHeartbeats 2000000
namespace K3
open PySem PySem.Spec PyProof.Rows L2 GxR NdefX GA SL RZ
theorem isKept {K : PySem.W.Frag} {x : Str} {xs : List V} {a : Addr} {od : Option Addr} {its : Array Value} {n : Nat} {sl : Array (Option Value)} (h : PySem.W.nsIn K mainGlobals x = some (some (.ref a))) (l : K.lookup a = some ⟨.type "tuple", od, .seq its n, sl⟩) (z : its.size ≤ sizeLine) (v : Vals xs its.toList) :
    ∃ a, PySem.W.nsIn K mainGlobals x = some (some (.ref a)) ∧ Kt K a xs := ⟨a, h, _, its, n, l, rfl, rfl, z, v⟩
/-- what the top has written, as far as the proof asks it -/
structure Top0 (K : PySem.W.Frag) (CK CR CT : Addr) : Prop where
  blt : ∀ x ∈ (["isinstance", "len", "all", "any", "set", "range", "tuple", "list", "int", "str", "bool", "repr", "sum", "min", "max", "zip", "enumerate"] : List Str), PySem.W.nsIn K mainGlobals x = some none
  kept : ∃ a, PySem.W.nsIn K mainGlobals "WORDS_KEPT" = some (some (.ref a)) ∧ Kt K a [.str "fun", .str "kind", .str "number"]
  longest : ∃ t, PySem.W.nsIn K mainGlobals "LONGEST_NAME" = some (some (.int 10 t))
  kinds : ∃ t, PySem.W.nsIn K mainGlobals "MOST_KINDS" = some (some (.int 6 t))
  makers : ∃ t, PySem.W.nsIn K mainGlobals "MOST_MAKERS" = some (some (.int 6 t))
  fields : ∃ t, PySem.W.nsIn K mainGlobals "MOST_FIELDS" = some (some (.int 4 t))
  rows : ∃ t, PySem.W.nsIn K mainGlobals "MOST_ROWS" = some (some (.int 96 t))
  most : ∃ t, PySem.W.nsIn K mainGlobals "MOST_WORDS_OF_ROWS" = some (some (.int 4000 t))
  gK : PySem.W.nsIn K mainGlobals "BadKinds" = some (some (.ref CK))
  xK : PySem.W.excIn K CK [.type "ValueError", .type "Exception", .type "BaseException", .type "object"] "ValueError.__new__" = true
  kK : PySem.W.keepIn K (.ref CK) = true
  bK : PySem.W.subIn K (.ref CK) (.type "BaseException") = some true
  tK : PySem.W.typeIn K (.ref CK) = some (.type "type")
  gR : PySem.W.nsIn K mainGlobals "BadRows" = some (some (.ref CR))
  xR : PySem.W.excIn K CR [.type "ValueError", .type "Exception", .type "BaseException", .type "object"] "ValueError.__new__" = true
  kR : PySem.W.keepIn K (.ref CR) = true
  bR : PySem.W.subIn K (.ref CR) (.type "BaseException") = some true
  tR : PySem.W.typeIn K (.ref CR) = some (.type "type")
  gT : PySem.W.nsIn K mainGlobals "TreeError" = some (some (.ref CT))
  bT : PySem.W.subIn K (.ref CT) (.type "BaseException") = some true
  tT : PySem.W.typeIn K (.ref CT) = some (.type "type")
  iR : PySem.W.isClsIn K CR = true
  rr : PySem.W.subIn K (.ref CR) (.ref CR) = some true
  d_tp : IsDef K "is_tuple" s_is_tuple
  d_rn : IsDef K "is_run" s_is_run
  d_nm : IsDef K "is_name" s_is_name
  d_hi : IsDef K "is_high" s_is_high
  d_un : IsDef K "_are_unlike" s_are_unlike
  d_ma : IsDefT K "_is_maker_alone" s_is_maker_alone
  d_ka : IsDefT K "_is_kind_alone" s_is_kind_alone
  d_ks : IsDefT K "is_kinds" s_is_kinds
  d_in : IsDef K "is_integer" s_is_integer
  d_dk : IsDef K "demand_kinds" s_demand_kinds
  d_mo : IsDef K "makers_of" s_makers_of
  d_ko : IsDef K "kind_of" s_kind_of
  d_fo : IsDef K "fields_of" s_fields_of
  d_en : IsDef K "_is_entry" s_is_entry
  d_rw : IsDefT K "_is_row" s_is_row
  d_ir : IsDef K "is_rows" s_is_rows
  d_dr : IsDef K "demand_rows" s_demand_rows
  d_ta : IsDef K "trees_among" s_trees_among
  d_sz : IsDef K "sizes" s_sizes
  d_jw : IsDef K "_joined_within" s_joined
  d_wo : IsDef K "words_of" s_words_of
  d_lw : IsDef K "_law_well" s_law_well
  d_lr : IsDef K "_law_draw" s_law_draw
  d_la : IsDef K "_law_name" s_law_name
  d_lf : IsDef K "_law_kinds" s_law_kinds
  d_lt : IsDef K "_law_table" s_law_table
  d_lg : IsDef K "_law_integer" s_law_integer
  d_ll : IsDef K "_law_lines" s_law_lines
  d_lb : IsDef K "_law_bent" s_law_bent
  d_li : IsDef K "_law_is_lines" s_law_is_lines
  d_lm : IsDef K "_law_same" s_law_same
  d_lz : IsDef K "_law_sizes" s_law_sizes
  d_lu : IsDef K "_law_turned" s_law_turned
  d_ld : IsDef K "_law_door" s_law_door
  d_lv : IsDefC K "_law_value_right" s_law_value_right
  d_lo : IsDefC K "law" s_law
theorem all_mk {P : Program} {w : World} {K : PySem.W.Frag} {h : Heap} {mg : Str → Option Value} {fa CK CR CT : Addr} (X : K.In h) (G : h.Ns mainGlobals mg) (hfa : mg "law" = some (.ref fa)) (Z : Top0 K CK CR CT)
    (tb : ∀ x ∈ (["_is_maker_alone", "_is_kind_alone", "is_kinds", "_is_row"] : List Str), ∀ c Q : Addr, PySem.W.tabIn K x = some (c, Q) → PySem.W.CodeHd h c Q ∧ h.get? Q = some tblO) :
    ∃ (fd : FuncData) (cs : List (Addr × Addr)) (sp : Sp), (∀ p ∈ cs, h.get? p.2 = some tblO ∧ K.lookup p.2 = none ∧ PySem.W.CodeHd h p.1 p.2) ∧ (∀ (t : Shared) (v : Value), BindsTo t fd ⟨[v], []⟩ [("script", v)]) ∧
      (∀ (H : Hp) (a : Addr) (ns : List Int), ns.length ≤ 63 → (∀ p ∈ cs, H p.2 = some (.tbl #[])) → SqL K H a (ns.map V.int) → sp [.ref a] H (fun v _ => v = .bl true) E0) ∧
      ∀ base : Heap, K.In base → base.Ns mainGlobals mg → (∃ o, base.get? sysModules = some o) → (∀ p ∈ cs, GxR.TabB base mg p.1 p.2) → FnG P w K mg base 16 fa fd ["script"] sp := by
  obtain ⟨f_tp, g_tp, a_tp, F_tp⟩ := Z.d_tp
  obtain ⟨f_rn, g_rn, a_rn, F_rn⟩ := Z.d_rn
  obtain ⟨f_nm, g_nm, a_nm, F_nm⟩ := Z.d_nm
  obtain ⟨f_hi, g_hi, a_hi, F_hi⟩ := Z.d_hi
  obtain ⟨f_un, g_un, a_un, F_un⟩ := Z.d_un
  obtain ⟨f_ma, c_ma, q_ma, g_ma, a_ma, F_ma, i_ma, n_ma⟩ := Z.d_ma
  have h_ma := tb "_is_maker_alone" (by simp) _ _ i_ma
  obtain ⟨f_ka, c_ka, q_ka, g_ka, a_ka, F_ka, i_ka, n_ka⟩ := Z.d_ka
  have h_ka := tb "_is_kind_alone" (by simp) _ _ i_ka
  obtain ⟨f_ks, c_ks, q_ks, g_ks, a_ks, F_ks, i_ks, n_ks⟩ := Z.d_ks
  have h_ks := tb "is_kinds" (by simp) _ _ i_ks
  obtain ⟨f_in, g_in, a_in, F_in⟩ := Z.d_in
  obtain ⟨f_dk, g_dk, a_dk, F_dk⟩ := Z.d_dk
  obtain ⟨f_mo, g_mo, a_mo, F_mo⟩ := Z.d_mo
  obtain ⟨f_ko, g_ko, a_ko, F_ko⟩ := Z.d_ko
  obtain ⟨f_fo, g_fo, a_fo, F_fo⟩ := Z.d_fo
  obtain ⟨f_en, g_en, a_en, F_en⟩ := Z.d_en
  obtain ⟨f_rw, c_rw, q_rw, g_rw, a_rw, F_rw, i_rw, n_rw⟩ := Z.d_rw
  have h_rw := tb "_is_row" (by simp) _ _ i_rw
  obtain ⟨f_ir, g_ir, a_ir, F_ir⟩ := Z.d_ir
  obtain ⟨f_dr, g_dr, a_dr, F_dr⟩ := Z.d_dr
  obtain ⟨f_ta, g_ta, a_ta, F_ta⟩ := Z.d_ta
  obtain ⟨f_sz, g_sz, a_sz, F_sz⟩ := Z.d_sz
  obtain ⟨f_jw, g_jw, a_jw, F_jw⟩ := Z.d_jw
  obtain ⟨f_wo, g_wo, a_wo, F_wo⟩ := Z.d_wo
  obtain ⟨f_lw, g_lw, a_lw, F_lw⟩ := Z.d_lw
  obtain ⟨f_lr, g_lr, a_lr, F_lr⟩ := Z.d_lr
  obtain ⟨f_la, g_la, a_la, F_la⟩ := Z.d_la
  obtain ⟨f_lf, g_lf, a_lf, F_lf⟩ := Z.d_lf
  obtain ⟨f_lt, g_lt, a_lt, F_lt⟩ := Z.d_lt
  obtain ⟨f_lg, g_lg, a_lg, F_lg⟩ := Z.d_lg
  obtain ⟨f_ll, g_ll, a_ll, F_ll⟩ := Z.d_ll
  obtain ⟨f_lb, g_lb, a_lb, F_lb⟩ := Z.d_lb
  obtain ⟨f_li, g_li, a_li, F_li⟩ := Z.d_li
  obtain ⟨f_lm, g_lm, a_lm, F_lm⟩ := Z.d_lm
  obtain ⟨f_lz, g_lz, a_lz, F_lz⟩ := Z.d_lz
  obtain ⟨f_lu, g_lu, a_lu, F_lu⟩ := Z.d_lu
  obtain ⟨f_ld, g_ld, a_ld, F_ld⟩ := Z.d_ld
  obtain ⟨f_lv, c_lv, g_lv, a_lv, F_lv⟩ := Z.d_lv
  obtain ⟨f_lo, c_lo, g_lo, a_lo, F_lo⟩ := Z.d_lo
  have e := hfa.symm.trans (PySem.W.mg_of X G a_lo)
  cases e
  have no : ∀ x ∈ (["isinstance", "len", "all", "any", "set", "range", "tuple", "list", "int", "str", "bool", "repr", "sum", "min", "max", "zip", "enumerate"] : List Str), mg x = none := fun x hx => PySem.W.mg_none_of X G (Z.blt x hx)
  have B : Bl mg := ⟨no "isinstance" (by simp), no "len" (by simp), no "all" (by simp), no "any" (by simp), no "set" (by simp), no "range" (by simp), no "tuple" (by simp), no "list" (by simp), no "int" (by simp), no "str" (by simp), no "bool" (by simp), no "repr" (by simp)⟩
  have int1 : ∀ {x : Str} {i : Int}, (∃ t, PySem.W.nsIn K mainGlobals x = some (some (.int i t))) → ∃ t, mg x = some (.int i t) := fun ⟨t, ht⟩ => ⟨t, PySem.W.mg_of X G ht⟩
  have C : Cn K mg := ⟨int1 Z.longest, let ⟨a, h1, h2⟩ := Z.kept; ⟨a, PySem.W.mg_of X G h1, h2⟩, int1 Z.kinds, int1 Z.makers, int1 Z.fields, int1 Z.rows, int1 Z.most⟩
  have XK : Xc K mg "BadKinds" CK := ⟨PySem.W.mg_of X G Z.gK, Z.xK, Z.kK, Z.bK, Z.tK⟩
  have XR : Xc K mg "BadRows" CR := ⟨PySem.W.mg_of X G Z.gR, Z.xR, Z.kR, Z.bR, Z.tR⟩
  have hgT : mg "TreeError" = some (.ref CT) := PySem.W.mg_of X G Z.gT
  have hrr : PySem.W.exmOne K (.ref CR) (.ref CR) = some true := exmOf Z.bR Z.iR Z.tR Z.rr
  have b_tp : Binds K g_tp ["thing", "least", "most"] [] := (F_tp).binds fun _ _ _ _ _ _ us hl => match us, hl with | [_, _, _], _ => rfl
  have b_rn : Binds K g_rn ["text"] [] := (F_rn).binds fun _ _ _ _ _ _ us hl => match us, hl with | [_], _ => rfl
  have b_nm : Binds K g_nm ["thing"] [] := (F_nm).binds fun _ _ _ _ _ _ us hl => match us, hl with | [_], _ => rfl
  have b_hi : Binds K g_hi ["thing"] [] := (F_hi).binds fun _ _ _ _ _ _ us hl => match us, hl with | [_], _ => rfl
  have b_un : Binds K g_un ["names"] [] := (F_un).binds fun _ _ _ _ _ _ us hl => match us, hl with | [_], _ => rfl
  have b_ma : Binds K g_ma ["thing"] [] := (F_ma.fn).binds fun _ _ _ _ _ _ us hl => match us, hl with | [_], _ => rfl
  have b_ka : Binds K g_ka ["thing"] [] := (F_ka.fn).binds fun _ _ _ _ _ _ us hl => match us, hl with | [_], _ => rfl
  have b_ks : Binds K g_ks ["thing"] [] := (F_ks.fn).binds fun _ _ _ _ _ _ us hl => match us, hl with | [_], _ => rfl
  have b_in : Binds K g_in ["thing"] [] := (F_in).binds fun _ _ _ _ _ _ us hl => match us, hl with | [_], _ => rfl
  have b_dk : Binds K g_dk ["kinds"] [] := (F_dk).binds fun _ _ _ _ _ _ us hl => match us, hl with | [_], _ => rfl
  have b_mo : Binds K g_mo ["kinds"] [] := (F_mo).binds fun _ _ _ _ _ _ us hl => match us, hl with | [_], _ => rfl
  have b_ko : Binds K g_ko ["makers", "maker"] [] := (F_ko).binds fun _ _ _ _ _ _ us hl => match us, hl with | [_, _], _ => rfl
  have b_fo : Binds K g_fo ["makers", "maker"] [] := (F_fo).binds fun _ _ _ _ _ _ us hl => match us, hl with | [_, _], _ => rfl
  have b_en : Binds K g_en ["kinds_ahead", "field", "entry"] [] := (F_en).binds fun _ _ _ _ _ _ us hl => match us, hl with | [_, _, _], _ => rfl
  have b_rw : Binds K g_rw ["makers", "kinds_ahead", "thing"] [] := (F_rw.fn).binds fun _ _ _ _ _ _ us hl => match us, hl with | [_, _, _], _ => rfl
  have b_ir : Binds K g_ir ["kinds", "thing"] [] := (F_ir).binds fun _ _ _ _ _ _ us hl => match us, hl with | [_, _], _ => rfl
  have b_dr : Binds K g_dr ["kinds", "rows"] [] := (F_dr).binds fun _ _ _ _ _ _ us hl => match us, hl with | [_, _], _ => rfl
  have b_ta : Binds K g_ta ["fields", "entries"] [] := (F_ta).binds fun _ _ _ _ _ _ us hl => match us, hl with | [_, _], _ => rfl
  have b_sz : Binds K g_sz ["kinds", "rows"] [] := (F_sz).binds fun _ _ _ _ _ _ us hl => match us, hl with | [_, _], _ => rfl
  have b_jw : Binds K g_jw ["maker", "parts", "most"] [] := (F_jw).binds fun _ _ _ _ _ _ us hl => match us, hl with | [_, _, _], _ => rfl
  have b_wo : Binds K g_wo ["kinds", "rows"] [] := (F_wo).binds fun _ _ _ _ _ _ us hl => match us, hl with | [_, _], _ => rfl
  have b_lw : Binds K g_lw ["script"] [] := (F_lw).binds fun _ _ _ _ _ _ us hl => match us, hl with | [_], _ => rfl
  have b_lr : Binds K g_lr ["well", "many"] [] := (F_lr).binds fun _ _ _ _ _ _ us hl => match us, hl with | [_, _], _ => rfl
  have b_la : Binds K g_la ["well", "taken", "high"] [] := (F_la).binds fun _ _ _ _ _ _ us hl => match us, hl with | [_, _, _], _ => rfl
  have b_lf : Binds K g_lf ["well", "most"] [] := (F_lf).binds fun _ _ _ _ _ _ us hl => match us, hl with | [_, _], _ => rfl
  have b_lt : Binds K g_lt ["family"] [] := (F_lt).binds fun _ _ _ _ _ _ us hl => match us, hl with | [_], _ => rfl
  have b_lg : Binds K g_lg ["well"] [] := (F_lg).binds fun _ _ _ _ _ _ us hl => match us, hl with | [_], _ => rfl
  have b_ll : Binds K g_ll ["well", "family", "count"] [] := (F_ll).binds fun _ _ _ _ _ _ us hl => match us, hl with | [_, _, _], _ => rfl
  have b_lb : Binds K g_lb ["well", "value"] [] := (F_lb).binds fun _ _ _ _ _ _ us hl => match us, hl with | [_, _], _ => rfl
  have b_li : Binds K g_li ["table", "value"] [] := (F_li).binds fun _ _ _ _ _ _ us hl => match us, hl with | [_, _], _ => rfl
  have b_lm : Binds K g_lm ["found", "due"] [] := (F_lm).binds fun _ _ _ _ _ _ us hl => match us, hl with | [_, _], _ => rfl
  have b_lz : Binds K g_lz ["table", "lines"] [] := (F_lz).binds fun _ _ _ _ _ _ us hl => match us, hl with | [_, _], _ => rfl
  have b_lu : Binds K g_lu ["well", "table", "lines"] [] := (F_lu).binds fun _ _ _ _ _ _ us hl => match us, hl with | [_, _, _], _ => rfl
  have b_ld : Binds K g_ld ["door", "family", "value"] [] := (F_ld).binds fun _ _ _ _ _ _ us hl => match us, hl with | [_, _, _], _ => rfl
  have b_lv : Binds K g_lv ["family", "value"] [] := (F_lv.fn).binds fun _ _ _ _ _ _ us hl => match us, hl with | [_, _], _ => rfl
  have b_lo : Binds K g_lo ["script"] [] := (F_lo.fn).binds fun _ _ _ _ _ _ us hl => match us, hl with | [_], _ => rfl
  refine ⟨g_lo, [(c_ma, q_ma), (c_ka, q_ka), (c_ks, q_ks), (c_rw, q_rw)], sp_law K [q_ma, q_ka, q_ks, q_rw], fun p hp => ?_, fun t v => ?_, fun H a ns hl ht hS => ?_, fun base _ _ hS0 TB => ?_⟩
  · simp only [List.mem_cons, List.not_mem_nil, or_false] at hp
    rcases hp with rfl | rfl | rfl | rfl
    · exact ⟨h_ma.2, n_ma, h_ma.1⟩
    · exact ⟨h_ka.2, n_ka, h_ka.1⟩
    · exact ⟨h_ks.2, n_ks, h_ks.1⟩
    · exact ⟨h_rw.2, n_rw, h_rw.1⟩
  · obtain ⟨_, _, _, _, _, _, _, _, rfl, _, _⟩ := F_lo.ex
    exact .of_eq rfl
  · refine ⟨a, ns, rfl, hS, hl, fun Q hQ => ?_, fun _ => rfl⟩
    have e : H Q = some (.tbl #[]) := by
      simp only [List.mem_cons, List.not_mem_nil, or_false] at hQ
      rcases hQ with rfl | rfl | rfl | rfl
      · exact ht (c_ma, _) (by simp)
      · exact ht (c_ka, _) (by simp)
      · exact ht (c_ks, _) (by simp)
      · exact ht (c_rw, _) (by simp)
    exact ⟨#[], e, True.intro⟩
  have tma : GxR.TabB base mg c_ma q_ma := TB (c_ma, q_ma) (by simp)
  have tka : GxR.TabB base mg c_ka q_ka := TB (c_ka, q_ka) (by simp)
  have tks : GxR.TabB base mg c_ks q_ks := TB (c_ks, q_ks) (by simp)
  have trw : GxR.TabB base mg c_rw q_rw := TB (c_rw, q_rw) (by simp)
  have O_tp : FnOk P w K mg base CX0 1 f_tp g_tp ["thing", "least", "most"] sp_is_tuple := ok_is_tuple F_tp B
  have N_tp : Fnn P w K mg base CX0 1 "is_tuple" ["thing", "least", "most"] sp_is_tuple := ⟨f_tp, g_tp, O_tp, PySem.W.mg_of X G a_tp, F_tp.kp, b_tp⟩
  have O_rn : FnOk P w K mg base CX0 1 f_rn g_rn ["text"] sp_is_run := ok_is_run F_rn
  have N_rn : Fnn P w K mg base CX0 1 "is_run" ["text"] sp_is_run := ⟨f_rn, g_rn, O_rn, PySem.W.mg_of X G a_rn, F_rn.kp, b_rn⟩
  have O_nm : FnOk P w K mg base CX0 2 f_nm g_nm ["thing"] sp_is_name := ok_is_name F_nm B C N_rn
  have N_nm : Fnn P w K mg base CX0 2 "is_name" ["thing"] sp_is_name := ⟨f_nm, g_nm, O_nm, PySem.W.mg_of X G a_nm, F_nm.kp, b_nm⟩
  have O_hi : FnOk P w K mg base CX0 3 f_hi g_hi ["thing"] sp_is_high := ok_is_high F_hi N_nm
  have N_hi : Fnn P w K mg base CX0 3 "is_high" ["thing"] sp_is_high := ⟨f_hi, g_hi, O_hi, PySem.W.mg_of X G a_hi, F_hi.kp, b_hi⟩
  have O_un : FnOk P w K mg base CX0 1 f_un g_un ["names"] (sp_are_unlike K) := ok_are_unlike F_un B
  have N_un : Fnn P w K mg base CX0 1 "_are_unlike" ["names"] (sp_are_unlike K) := ⟨f_un, g_un, O_un, PySem.W.mg_of X G a_un, F_un.kp, b_un⟩
  have O_ma : FnOk P w K mg base CX0 5 f_ma g_ma ["thing"] (sp_look [q_ma, q_ka, q_ks, q_rw] makerB) := ok_maker_alone F_ma B C tma (by simp) N_tp N_hi
  have N_ma : Fnn P w K mg base CX0 5 "_is_maker_alone" ["thing"] (sp_look [q_ma, q_ka, q_ks, q_rw] makerB) := ⟨f_ma, g_ma, O_ma, PySem.W.mg_of X G a_ma, F_ma.kp, b_ma⟩
  have O_ka : FnOk P w K mg base CX0 7 f_ka g_ka ["thing"] (sp_look [q_ma, q_ka, q_ks, q_rw] kindB) := ok_kind_alone F_ka B C tka (by simp) N_tp N_hi N_ma
  have N_ka : Fnn P w K mg base CX0 7 "_is_kind_alone" ["thing"] (sp_look [q_ma, q_ka, q_ks, q_rw] kindB) := ⟨f_ka, g_ka, O_ka, PySem.W.mg_of X G a_ka, F_ka.kp, b_ka⟩
  have O_ks : FnOk P w K mg base CX0 9 f_ks g_ks ["thing"] (sp_look [q_ma, q_ka, q_ks, q_rw] kindsB) := ok_is_kinds F_ks B C tks (by simp) N_tp N_un N_ka
  have N_ks : Fnn P w K mg base CX0 9 "is_kinds" ["thing"] (sp_look [q_ma, q_ka, q_ks, q_rw] kindsB) := ⟨f_ks, g_ks, O_ks, PySem.W.mg_of X G a_ks, F_ks.kp, b_ks⟩
  have O_in : FnOk P w K mg base CX0 1 f_in g_in ["thing"] sp_is_integer := ok_is_integer F_in B
  have N_in : Fnn P w K mg base CX0 1 "is_integer" ["thing"] sp_is_integer := ⟨f_in, g_in, O_in, PySem.W.mg_of X G a_in, F_in.kp, b_in⟩
  have O_dk : FnOk P w K mg base CX0 10 f_dk g_dk ["kinds"] (sp_demand_kinds [q_ma, q_ka, q_ks, q_rw]) := ok_demand_kinds F_dk XK N_ks
  have N_dk : Fnn P w K mg base CX0 10 "demand_kinds" ["kinds"] (sp_demand_kinds [q_ma, q_ka, q_ks, q_rw]) := ⟨f_dk, g_dk, O_dk, PySem.W.mg_of X G a_dk, F_dk.kp, b_dk⟩
  have O_mo : FnOk P w K mg base CX0 1 f_mo g_mo ["kinds"] (sp_makers_of [q_ma, q_ka, q_ks, q_rw]) := ok_makers_of F_mo (no "enumerate" (by simp))
  have N_mo : Fnn P w K mg base CX0 1 "makers_of" ["kinds"] (sp_makers_of [q_ma, q_ka, q_ks, q_rw]) := ⟨f_mo, g_mo, O_mo, PySem.W.mg_of X G a_mo, F_mo.kp, b_mo⟩
  have O_ko : FnOk P w K mg base CX0 1 f_ko g_ko ["makers", "maker"] sp_kind_of := ok_kind_of F_ko
  have N_ko : Fnn P w K mg base CX0 1 "kind_of" ["makers", "maker"] sp_kind_of := ⟨f_ko, g_ko, O_ko, PySem.W.mg_of X G a_ko, F_ko.kp, b_ko⟩
  have O_fo : FnOk P w K mg base CX0 1 f_fo g_fo ["makers", "maker"] sp_fields_of := ok_fields_of F_fo
  have N_fo : Fnn P w K mg base CX0 1 "fields_of" ["makers", "maker"] sp_fields_of := ⟨f_fo, g_fo, O_fo, PySem.W.mg_of X G a_fo, F_fo.kp, b_fo⟩
  have O_en : FnOk P w K mg base CX0 2 f_en g_en ["kinds_ahead", "field", "entry"] (sp_is_entry K) := ok_is_entry F_en B N_in
  have N_en : Fnn P w K mg base CX0 2 "_is_entry" ["kinds_ahead", "field", "entry"] (sp_is_entry K) := ⟨f_en, g_en, O_en, PySem.W.mg_of X G a_en, F_en.kp, b_en⟩
  have O_rw : FnOk P w K mg base CX0 4 f_rw g_rw ["makers", "kinds_ahead", "thing"] (sp_is_row K [q_ma, q_ka, q_ks, q_rw]) := ok_is_row F_rw B (no "zip" (by simp)) trw (by simp) N_tp N_fo N_en
  have N_rw : Fnn P w K mg base CX0 4 "_is_row" ["makers", "kinds_ahead", "thing"] (sp_is_row K [q_ma, q_ka, q_ks, q_rw]) := ⟨f_rw, g_rw, O_rw, PySem.W.mg_of X G a_rw, F_rw.kp, b_rw⟩
  have O_ir : FnOk P w K mg base CX0 11 f_ir g_ir ["kinds", "thing"] (sp_is_rows [q_ma, q_ka, q_ks, q_rw]) := ok_is_rows F_ir C N_dk N_tp N_mo N_rw N_ko
  have N_ir : Fnn P w K mg base CX0 11 "is_rows" ["kinds", "thing"] (sp_is_rows [q_ma, q_ka, q_ks, q_rw]) := ⟨f_ir, g_ir, O_ir, PySem.W.mg_of X G a_ir, F_ir.kp, b_ir⟩
  have W_ir : Fnw P w K mg base CX0 11 "is_rows" ["kinds", "thing"] (sp_is_rows [q_ma, q_ka, q_ks, q_rw]) := ⟨f_ir, g_ir, O_ir, PySem.W.mg_of X G a_ir, F_ir.kp, Fun.kwb (F_ir) fun _ _ _ _ _ _ us hl => match us, hl with | [_, _], _ => rfl⟩
  have O_dr : FnOk P w K mg base (L2.CX P w) 12 f_dr g_dr ["kinds", "rows"] (sp_demand_rows [q_ma, q_ka, q_ks, q_rw] CR) := ok_demand_rows F_dr XR N_ir
  have N_dr : Fnn P w K mg base (L2.CX P w) 12 "demand_rows" ["kinds", "rows"] (sp_demand_rows [q_ma, q_ka, q_ks, q_rw] CR) := ⟨f_dr, g_dr, O_dr, PySem.W.mg_of X G a_dr, F_dr.kp, b_dr⟩
  have O_ta : FnOk P w K mg base CX0 1 f_ta g_ta ["fields", "entries"] (sp_among [q_ma, q_ka, q_ks, q_rw]) := ok_trees_among F_ta (no "zip" (by simp))
  have N_ta : Fnn P w K mg base CX0 1 "trees_among" ["fields", "entries"] (sp_among [q_ma, q_ka, q_ks, q_rw]) := ⟨f_ta, g_ta, O_ta, PySem.W.mg_of X G a_ta, F_ta.kp, b_ta⟩
  have O_sz : FnOk P w K mg base (L2.CX P w) 13 f_sz g_sz ["kinds", "rows"] (sp_sizes [q_ma, q_ka, q_ks, q_rw] CR) := ok_sizes F_sz B (no "sum" (by simp)) N_dr N_mo N_fo N_ta
  have N_sz : Fnn P w K mg base (L2.CX P w) 13 "sizes" ["kinds", "rows"] (sp_sizes [q_ma, q_ka, q_ks, q_rw] CR) := ⟨f_sz, g_sz, O_sz, PySem.W.mg_of X G a_sz, F_sz.kp, b_sz⟩
  have N0_sz : Fnn P w K mg base CX0 13 "sizes" ["kinds", "rows"] (sp0 (sp_sizes [q_ma, q_ka, q_ks, q_rw] CR)) := ⟨f_sz, g_sz, FnOk.to0 O_sz, PySem.W.mg_of X G a_sz, F_sz.kp, b_sz⟩
  have W0_sz : Fnw P w K mg base CX0 13 "sizes" ["kinds", "rows"] (sp0 (sp_sizes [q_ma, q_ka, q_ks, q_rw] CR)) := ⟨f_sz, g_sz, FnOk.to0 O_sz, PySem.W.mg_of X G a_sz, F_sz.kp, Fun.kwb (F_sz) fun _ _ _ _ _ _ us hl => match us, hl with | [_, _], _ => rfl⟩
  have O_jw : FnOk P w K mg base CX0 1 f_jw g_jw ["maker", "parts", "most"] (sp_joined K [q_ma, q_ka, q_ks, q_rw]) := ok_joined F_jw B
  have N_jw : Fnn P w K mg base CX0 1 "_joined_within" ["maker", "parts", "most"] (sp_joined K [q_ma, q_ka, q_ks, q_rw]) := ⟨f_jw, g_jw, O_jw, PySem.W.mg_of X G a_jw, F_jw.kp, b_jw⟩
  have O_wo : FnOk P w K mg base (L2.CX P w) 13 f_wo g_wo ["kinds", "rows"] (sp_words_of [q_ma, q_ka, q_ks, q_rw] CR) := ok_words_of F_wo C B (no "zip" (by simp)) N_dr N_mo N_fo N_jw
  have N_wo : Fnn P w K mg base (L2.CX P w) 13 "words_of" ["kinds", "rows"] (sp_words_of [q_ma, q_ka, q_ks, q_rw] CR) := ⟨f_wo, g_wo, O_wo, PySem.W.mg_of X G a_wo, F_wo.kp, b_wo⟩
  have W_wo : Fnw P w K mg base (L2.CX P w) 13 "words_of" ["kinds", "rows"] (sp_words_of [q_ma, q_ka, q_ks, q_rw] CR) := ⟨f_wo, g_wo, O_wo, PySem.W.mg_of X G a_wo, F_wo.kp, Fun.kwb (F_wo) fun _ _ _ _ _ _ us hl => match us, hl with | [_, _], _ => rfl⟩
  have O_lw : FnOk P w K mg base CX0 1 f_lw g_lw ["script"] (sp_well K [q_ma, q_ka, q_ks, q_rw]) := ok_law_well F_lw B
  have N_lw : Fnn P w K mg base CX0 1 "_law_well" ["script"] (sp_well K [q_ma, q_ka, q_ks, q_rw]) := ⟨f_lw, g_lw, O_lw, PySem.W.mg_of X G a_lw, F_lw.kp, b_lw⟩
  have O_lr : FnOk P w K mg base CX0 1 f_lr g_lr ["well", "many"] (sp_draw [q_ma, q_ka, q_ks, q_rw]) := ok_law_draw F_lr B
  have N_lr : Fnn P w K mg base CX0 1 "_law_draw" ["well", "many"] (sp_draw [q_ma, q_ka, q_ks, q_rw]) := ⟨f_lr, g_lr, O_lr, PySem.W.mg_of X G a_lr, F_lr.kp, b_lr⟩
  have O_la : FnOk P w K mg base CX0 2 f_la g_la ["well", "taken", "high"] (sp_name [q_ma, q_ka, q_ks, q_rw]) := ok_law_name F_la B N_lr
  have N_la : Fnn P w K mg base CX0 2 "_law_name" ["well", "taken", "high"] (sp_name [q_ma, q_ka, q_ks, q_rw]) := ⟨f_la, g_la, O_la, PySem.W.mg_of X G a_la, F_la.kp, b_la⟩
  have O_lf : FnOk P w K mg base CX0 3 f_lf g_lf ["well", "most"] (sp_kindsL [q_ma, q_ka, q_ks, q_rw]) := ok_law_kinds F_lf B N_lr N_la
  have N_lf : Fnn P w K mg base CX0 3 "_law_kinds" ["well", "most"] (sp_kindsL [q_ma, q_ka, q_ks, q_rw]) := ⟨f_lf, g_lf, O_lf, PySem.W.mg_of X G a_lf, F_lf.kp, b_lf⟩
  have O_lt : FnOk P w K mg base CX0 1 f_lt g_lt ["family"] (sp_makers_of [q_ma, q_ka, q_ks, q_rw]) := ok_law_table F_lt B
  have N_lt : Fnn P w K mg base CX0 1 "_law_table" ["family"] (sp_makers_of [q_ma, q_ka, q_ks, q_rw]) := ⟨f_lt, g_lt, O_lt, PySem.W.mg_of X G a_lt, F_lt.kp, b_lt⟩
  have O_lg : FnOk P w K mg base CX0 2 f_lg g_lg ["well"] (sp_integer [q_ma, q_ka, q_ks, q_rw]) := ok_law_integer F_lg B N_lr
  have N_lg : Fnn P w K mg base CX0 2 "_law_integer" ["well"] (sp_integer [q_ma, q_ka, q_ks, q_rw]) := ⟨f_lg, g_lg, O_lg, PySem.W.mg_of X G a_lg, F_lg.kp, b_lg⟩
  have O_ll : FnOk P w K mg base CX0 3 f_ll g_ll ["well", "family", "count"] (sp_lines K [q_ma, q_ka, q_ks, q_rw]) := ok_law_lines F_ll B (no "min" (by simp)) N_lr N_lg
  have N_ll : Fnn P w K mg base CX0 3 "_law_lines" ["well", "family", "count"] (sp_lines K [q_ma, q_ka, q_ks, q_rw]) := ⟨f_ll, g_ll, O_ll, PySem.W.mg_of X G a_ll, F_ll.kp, b_ll⟩
  have O_lb : FnOk P w K mg base CX0 15 f_lb g_lb ["well", "value"] (sp_bent [q_ma, q_ka, q_ks, q_rw] 12) := ok_law_bent F_lb (PySem.W.mg_of X G a_lb) b_lb B N_lr 12
  have N_lb : Fnn P w K mg base CX0 15 "_law_bent" ["well", "value"] (sp_bent [q_ma, q_ka, q_ks, q_rw] 12) := ⟨f_lb, g_lb, O_lb, PySem.W.mg_of X G a_lb, F_lb.kp, b_lb⟩
  have O_li : FnOk P w K mg base CX0 1 f_li g_li ["table", "value"] (sp_is_lines [q_ma, q_ka, q_ks, q_rw]) := ok_law_is_lines F_li B
  have N_li : Fnn P w K mg base CX0 1 "_law_is_lines" ["table", "value"] (sp_is_lines [q_ma, q_ka, q_ks, q_rw]) := ⟨f_li, g_li, O_li, PySem.W.mg_of X G a_li, F_li.kp, b_li⟩
  have O_lm : FnOk P w K mg base CX0 2 f_lm g_lm ["found", "due"] (sp_same [q_ma, q_ka, q_ks, q_rw] 1) := ok_law_same F_lm (PySem.W.mg_of X G a_lm) b_lm B 1
  have N_lm : Fnn P w K mg base CX0 2 "_law_same" ["found", "due"] (sp_same [q_ma, q_ka, q_ks, q_rw] 1) := ⟨f_lm, g_lm, O_lm, PySem.W.mg_of X G a_lm, F_lm.kp, b_lm⟩
  have O_lz : FnOk P w K mg base CX0 1 f_lz g_lz ["table", "lines"] (sp_law_sizes [q_ma, q_ka, q_ks, q_rw]) := ok_law_sizes F_lz B (no "sum" (by simp))
  have N_lz : Fnn P w K mg base CX0 1 "_law_sizes" ["table", "lines"] (sp_law_sizes [q_ma, q_ka, q_ks, q_rw]) := ⟨f_lz, g_lz, O_lz, PySem.W.mg_of X G a_lz, F_lz.kp, b_lz⟩
  have O_lu : FnOk P w K mg base CX0 2 f_lu g_lu ["well", "table", "lines"] (sp_turned [q_ma, q_ka, q_ks, q_rw]) := ok_law_turned F_lu B N_lr
  have N_lu : Fnn P w K mg base CX0 2 "_law_turned" ["well", "table", "lines"] (sp_turned [q_ma, q_ka, q_ks, q_rw]) := ⟨f_lu, g_lu, O_lu, PySem.W.mg_of X G a_lu, F_lu.kp, b_lu⟩
  have O_ld : FnOk P w K mg base CX0 14 f_ld g_ld ["door", "family", "value"] (sp_door [q_ma, q_ka, q_ks, q_rw]) := ok_law_door F_ld XR hgT hrr N_sz W_wo
  have N_ld : Fnn P w K mg base CX0 14 "_law_door" ["door", "family", "value"] (sp_door [q_ma, q_ka, q_ks, q_rw]) := ⟨f_ld, g_ld, O_ld, PySem.W.mg_of X G a_ld, F_ld.kp, b_ld⟩
  have V_lv : Fng P w K mg base 15 "_law_value_right" ["family", "value"] (sp_value [q_ma, q_ka, q_ks, q_rw]) := ⟨f_lv, g_lv, ok_law_value_right F_lv B hS0 N_lt N_li N_ir W_ir N_lm N_ld N_lz N0_sz W0_sz, PySem.W.mg_of X G a_lv, F_lv.kp, b_lv⟩
  exact ok_law F_lo B N_lw N_lr N_lf N_lt N_ll N_lu N_lb V_lv
end K3
set_option Elab.async false
open PySem PySem.W PyProof.Rows
set_option maxRecDepth 100000 in
set_option maxHeartbeats 0 in
theorem PySem.Challenge.cw_sameontrees_k03_rows_and_sizes_holds : PySem.Challenge.rw_sameontrees_k03_rows_and_sizes.Holds := by
  w_on; o_law; k_head; (case hw => w_witness2)
  k_fill
  refine SL.walkG (l := PySem.Challenge.rw_sameontrees_k03_rows_and_sizes) (n := 63) (k := 16) (x := "script") rfl (by decide) rfl (by first | rfl | decide +kernel | kernel_rfl) ⟨rfl, by decide, by decide⟩ (fun w h Y => by first | exact kIn_of Y | exact km_in_of Y) ?F
  case F =>
    intro w mg fa h KX G hmg tb
    refine' K3.all_mk KX G hmg ?Z (fun x hx c Q hc => ?tab)
    case tab =>
      simp only [List.mem_cons, List.not_mem_nil, or_false] at hx
      rcases hx with rfl | rfl | rfl | rfl
      · exact tb _ _ _ _ rfl hc
      · exact tb _ _ _ _ rfl hc
      · exact tb _ _ _ _ rfl hc
      · exact tb _ _ _ _ rfl hc
    case Z =>
      refine' ⟨?blt, K3.isKept ?kepta ?keptl ?kepts ?keptv, SL.hasInt ?longest, SL.hasInt ?kinds, SL.hasInt ?makers, SL.hasInt ?fields, SL.hasInt ?rows, SL.hasInt ?most, ?gK, ?xK, ?kK, ?bK, ?tK, ?gR, ?xR, ?kR, ?bR, ?tR, ?gT, ?bT, ?tT, ?iR, ?rr, ?d_tp, ?d_rn, ?d_nm, ?d_hi, ?d_un, ?d_ma, ?d_ka, ?d_ks, ?d_in, ?d_dk, ?d_mo, ?d_ko, ?d_fo, ?d_en, ?d_rw, ?d_ir, ?d_dr, ?d_ta, ?d_sz, ?d_jw, ?d_wo, ?d_lw, ?d_lr, ?d_la, ?d_lf, ?d_lt, ?d_lg, ?d_ll, ?d_lb, ?d_li, ?d_lm, ?d_lz, ?d_lu, ?d_ld, ?d_lv, ?d_lo⟩
      (case blt => intro x hx; simp only [List.mem_cons, List.not_mem_nil, or_false] at hx; (rcases hx with rfl | rfl | rfl | rfl | rfl | rfl | rfl | rfl | rfl | rfl | rfl | rfl | rfl | rfl | rfl | rfl | rfl <;> k_is))
      (case kepta => k_is)
      (case keptl => k_is)
      (case kepts => first | (show _ ≤ sizeLine; decide) | decide +kernel)
      (case keptv => first | exact .cons ⟨_, rfl⟩ (.cons ⟨_, rfl⟩ (.cons ⟨_, rfl⟩ .nil)))
      (case longest => k_is)
      (case kinds => k_is)
      (case makers => k_is)
      (case fields => k_is)
      (case rows => k_is)
      (case most => k_is)
      (case gK => k_is)
      (case xK => first | k_exc)
      (case kK => k_is)
      (case bK => k_is)
      (case tK => k_is)
      (case gR => k_is)
      (case xR => first | k_exc)
      (case kR => k_is)
      (case bR => k_is)
      (case tR => k_is)
      (case gT => k_is)
      (case bT => k_is)
      (case tT => k_is)
      (case iR => k_is)
      (case rr => first | rfl | k_is)
      case d_tp =>
        refine' SL.isDef ?a ?l ?h ?k
        (case a => k_is)
        (case l => k_is)
        (case h => k_is)
        (case k => k_is)
      case d_rn =>
        refine' SL.isDef ?a ?l ?h ?k
        (case a => k_is)
        (case l => k_is)
        (case h => k_is)
        (case k => k_is)
      case d_nm =>
        refine' SL.isDef ?a ?l ?h ?k
        (case a => k_is)
        (case l => k_is)
        (case h => k_is)
        (case k => k_is)
      case d_hi =>
        refine' SL.isDef ?a ?l ?h ?k
        (case a => k_is)
        (case l => k_is)
        (case h => k_is)
        (case k => k_is)
      case d_un =>
        refine' SL.isDef ?a ?l ?h ?k
        (case a => k_is)
        (case l => k_is)
        (case h => k_is)
        (case k => k_is)
      case d_ma =>
        refine' SL.isDefT ?a ?l ?h ?k ?m ?v ?n
        (case a => k_is)
        (case l => k_is)
        (case h => k_is)
        (case k => k_is)
        (case m => k_is)
        (case v => first | rfl)
        (case n => first | kernel_rfl)
      case d_ka =>
        refine' SL.isDefT ?a ?l ?h ?k ?m ?v ?n
        (case a => k_is)
        (case l => k_is)
        (case h => k_is)
        (case k => k_is)
        (case m => k_is)
        (case v => first | rfl)
        (case n => first | kernel_rfl)
      case d_ks =>
        refine' SL.isDefT ?a ?l ?h ?k ?m ?v ?n
        (case a => k_is)
        (case l => k_is)
        (case h => k_is)
        (case k => k_is)
        (case m => k_is)
        (case v => first | rfl)
        (case n => first | kernel_rfl)
      case d_in =>
        refine' SL.isDef ?a ?l ?h ?k
        (case a => k_is)
        (case l => k_is)
        (case h => k_is)
        (case k => k_is)
      case d_dk =>
        refine' SL.isDef ?a ?l ?h ?k
        (case a => k_is)
        (case l => k_is)
        (case h => k_is)
        (case k => k_is)
      case d_mo =>
        refine' SL.isDef ?a ?l ?h ?k
        (case a => k_is)
        (case l => k_is)
        (case h => k_is)
        (case k => k_is)
      case d_ko =>
        refine' SL.isDef ?a ?l ?h ?k
        (case a => k_is)
        (case l => k_is)
        (case h => k_is)
        (case k => k_is)
      case d_fo =>
        refine' SL.isDef ?a ?l ?h ?k
        (case a => k_is)
        (case l => k_is)
        (case h => k_is)
        (case k => k_is)
      case d_en =>
        refine' SL.isDef ?a ?l ?h ?k
        (case a => k_is)
        (case l => k_is)
        (case h => k_is)
        (case k => k_is)
      case d_rw =>
        refine' SL.isDefT ?a ?l ?h ?k ?m ?v ?n
        (case a => k_is)
        (case l => k_is)
        (case h => k_is)
        (case k => k_is)
        (case m => k_is)
        (case v => first | rfl)
        (case n => first | kernel_rfl)
      case d_ir =>
        refine' SL.isDef ?a ?l ?h ?k
        (case a => k_is)
        (case l => k_is)
        (case h => k_is)
        (case k => k_is)
      case d_dr =>
        refine' SL.isDef ?a ?l ?h ?k
        (case a => k_is)
        (case l => k_is)
        (case h => k_is)
        (case k => k_is)
      case d_ta =>
        refine' SL.isDef ?a ?l ?h ?k
        (case a => k_is)
        (case l => k_is)
        (case h => k_is)
        (case k => k_is)
      case d_sz =>
        refine' SL.isDef ?a ?l ?h ?k
        (case a => k_is)
        (case l => k_is)
        (case h => k_is)
        (case k => k_is)
      case d_jw =>
        refine' SL.isDef ?a ?l ?h ?k
        (case a => k_is)
        (case l => k_is)
        (case h => k_is)
        (case k => k_is)
      case d_wo =>
        refine' SL.isDef ?a ?l ?h ?k
        (case a => k_is)
        (case l => k_is)
        (case h => k_is)
        (case k => k_is)
      case d_lw =>
        refine' SL.isDef ?a ?l ?h ?k
        (case a => k_is)
        (case l => k_is)
        (case h => k_is)
        (case k => k_is)
      case d_lr =>
        refine' SL.isDef ?a ?l ?h ?k
        (case a => k_is)
        (case l => k_is)
        (case h => k_is)
        (case k => k_is)
      case d_la =>
        refine' SL.isDef ?a ?l ?h ?k
        (case a => k_is)
        (case l => k_is)
        (case h => k_is)
        (case k => k_is)
      case d_lf =>
        refine' SL.isDef ?a ?l ?h ?k
        (case a => k_is)
        (case l => k_is)
        (case h => k_is)
        (case k => k_is)
      case d_lt =>
        refine' SL.isDef ?a ?l ?h ?k
        (case a => k_is)
        (case l => k_is)
        (case h => k_is)
        (case k => k_is)
      case d_lg =>
        refine' SL.isDef ?a ?l ?h ?k
        (case a => k_is)
        (case l => k_is)
        (case h => k_is)
        (case k => k_is)
      case d_ll =>
        refine' SL.isDef ?a ?l ?h ?k
        (case a => k_is)
        (case l => k_is)
        (case h => k_is)
        (case k => k_is)
      case d_lb =>
        refine' SL.isDef ?a ?l ?h ?k
        (case a => k_is)
        (case l => k_is)
        (case h => k_is)
        (case k => k_is)
      case d_li =>
        refine' SL.isDef ?a ?l ?h ?k
        (case a => k_is)
        (case l => k_is)
        (case h => k_is)
        (case k => k_is)
      case d_lm =>
        refine' SL.isDef ?a ?l ?h ?k
        (case a => k_is)
        (case l => k_is)
        (case h => k_is)
        (case k => k_is)
      case d_lz =>
        refine' SL.isDef ?a ?l ?h ?k
        (case a => k_is)
        (case l => k_is)
        (case h => k_is)
        (case k => k_is)
      case d_lu =>
        refine' SL.isDef ?a ?l ?h ?k
        (case a => k_is)
        (case l => k_is)
        (case h => k_is)
        (case k => k_is)
      case d_ld =>
        refine' SL.isDef ?a ?l ?h ?k
        (case a => k_is)
        (case l => k_is)
        (case h => k_is)
        (case k => k_is)
      case d_lv =>
        refine' SL.isDefC ?a ?l ?h ?k
        (case a => k_is)
        (case l => k_is)
        (case h => k_is)
        (case k => k_is)
      case d_lo =>
        refine' SL.isDefC ?a ?l ?h ?k
        (case a => k_is)
        (case l => k_is)
        (case h => k_is)
        (case k => k_is)
