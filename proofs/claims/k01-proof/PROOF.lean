import PyProof.Rows.All
import Wide.All
import OpenK.AllK
import Wide.FinOn
import HandS.ForExc
import HandS.ForMost
import HandS.AnyAll
import HandS.Nested
import HandS.GenOver
import HandS.IsInst
import HandS.TupAny
import HandS.TupMul
import HandS.Strs
import HandS.Sort
import HandS.StrMore
import HandS.Walk
import HandS.ExcOwn
import HandS.TryMany
import HandS.Iter
import HandS.Steps
import PyProof.ReprRoads
import PyProof.ReprLen
import PyProof.StrLawsRepr
import PyProof.NeKinds
import PyProof.Rows.StrFin3
import PyProof.Rows.StrClose
import PyProof.Rows.StrGather
import HandS.Text
import PyProof.Rows.IntBool
import PyProof.Rows.RuleB_bool
import PyProof.CallStr
import PyProof.PureInt
import PyProof.FactsAll.bool_2
import HandS.HeadWalk
import KE.KNestM
import HandS.Conv
import HandS.Dict
import PyProof.Rows.ReprOcc
import PyProof.Rows.RegStrFacts
import PySem.Challenge.RW_sameontrees_k01_kinds_judged
set_option Elab.async false
set_option linter.all false
set_option maxRecDepth 100000
set_option maxHeartbeats 2000000
/-! own rules, 1: a generator expression that all or any consumes, whatever its element does -/
namespace GA
open PySem PySem.Spec PyProof.Rows L2 GxR NdefX

/-- the frame of a generator expression as a context; fp: the walked iterator's records; s, H: where its frame was made -/
@[reducible] def gcx (X : Cx) (N : List Str) (scope : Scope) (cl : List (Str × Addr)) (code : Value) (C : Addr) (A : Around) (fp : List Addr) (s : Shared) (H : Hp) (pn : List (Addr × Obj)) : Cx :=
  { X with A := A, N := N, s_0 := s, H_0 := H, env := genEnv scope cl C code builtinsNs X.env, outer := X.stack, stack := genEnv scope cl C code builtinsNs X.env :: X.stack,
           ex := fp, calm := true, fn := fun _ => false, pn := pn, xe := fun _ _ => False }

/-- a generator expression's scope: the captured names first, then its own -/
structure GSc (N fr : List Str) (sc : Scope) : Prop where
  kind : sc.kind = .function
  co : sc.isCoroutine = false
  nd : N.Nodup
  pre : N.take fr.length = fr
  dot : sc.names.lookup (".0" : Str) = some NameKind.local
  nocell : ∀ y ∈ sc.names, y.2 ≠ .cell
  free : ∀ y ∈ sc.names, y.2 = .free → y.1 ∈ fr
  frk : ∀ x ∈ fr, sc.names.lookup x = some .free
  frm : ∀ y ∈ fr, (y, NameKind.free) ∈ sc.names
def gscB (N fr : List Str) (sc : Scope) : Bool :=
  decide (sc.kind = .function) && !sc.isCoroutine && decide N.Nodup && decide (N.take fr.length = fr) && decide (sc.names.lookup (".0" : Str) = some NameKind.local) && sc.names.all (fun y => !decide (y.2 = .cell)) &&
    sc.names.all (fun y => !decide (y.2 = .free) || decide (y.1 ∈ fr)) && fr.all (fun x => decide (sc.names.lookup x = some .free)) && fr.all fun y => decide ((y, NameKind.free) ∈ sc.names)
theorem gsc_by {N fr : List Str} {sc : Scope} (h : gscB N fr sc = true) : GSc N fr sc := by
  unfold gscB at h
  simp only [Bool.and_eq_true, Bool.not_eq_true', decide_eq_true_eq, List.all_eq_true, Bool.or_eq_true, decide_eq_false_iff_not] at h
  obtain ⟨⟨⟨⟨⟨⟨⟨⟨h1, h2⟩, h3⟩, h4⟩, h5⟩, h6⟩, h7⟩, h8⟩, h9⟩ := h
  exact ⟨h1, h2, h3, h4, h5, h6, fun y hy e => (h7 y hy).elim (fun z => absurd e z) id, h8, h9⟩

section
variable {X : Cx} {pins : List (Addr × Obj)} {σ : L2.St} {H H' : Hp} {s s' : Shared}

theorem not_stk (I : Inv X pins σ H s) {b : Addr} (h1 : b ≠ X.env.locals) (h2 : b ∉ X.fs) : b ∉ frs X.stack := fun z =>
  (List.mem_cons.mp (I.stkSub b z)).elim h1 h2

theorem inv_gcx {N fr : List Str} {scope : Scope} {cl : List (Str × Addr)} {js : List Nat} {code : Value} {C : Addr} {A : Around} {fp : List Addr} {pn : List (Addr × Obj)} {m : Str → Option Value}
    (I : Inv X pins σ H s) (S : GSc N fr scope) (cp : Caps X cl fr js) (hA : A.handled = none) (hfr : A.frames = some (genEnv scope cl C code builtinsNs X.env :: X.stack))
    (hfp : ∀ b ∈ fp, FpOk X pins H b) (hfl : ∀ b ∈ fp, b < s.heap.objs.size) (hC : s.heap.objs.size ≤ C) (hns : s'.heap.Ns C m) (hos : s'.os = s.os) (hb : AllBare s'.gens) (un : Un (frs X.stack) fp H H' s.heap s'.heap)
    (hok : HOk X.prog X.w H' s'.heap) (hfC : H' C = none)
    (hpn : ∀ p ∈ pn, s'.heap.get? p.1 = some p.2 ∧ H' p.1 = none ∧ p.1 ≠ C ∧ p.1 ∉ frs X.stack ∧ ∀ v, p.2.data ≠ .cell v) :
    Inv (gcx X N scope cl code C A fp s H pn) [] (startF N [] (js.map (slotAt σ))) H' s' := by
  have CA := cells_of I cp
  have ltc : ∀ y c, cl.lookup y = some c → c < s.heap.objs.size := fun y c e => by
    obtain ⟨_, v, o, ho, _⟩ := CA.all y c e
    exact Heap.lt_size ho
  have cfp : ∀ y c, cl.lookup y = some c → c ∉ fp := fun y c e z => (hfp c z).2.2.2.2.1 y c (cp.sub y c e) rfl
  have cellK : ∀ y c, cl.lookup y = some c → ∀ v, s.heap.IsCell c v → s'.heap.IsCell c v := fun y c e v ⟨o, ho, hd⟩ => by
    obtain ⟨sl, q⟩ := un.any ho (CA.all y c e).1 (cfp y c e)
    exact ⟨_, q, hd⟩
  have hgk : ∀ y, (gcx X N scope cl code C A fp s H pn).env.kindOf y = scope.names.lookup y := fun y => rfl
  refine ⟨⟨I.ok.mod, S.kind, I.ok.glob, rfl, hC, CA.inj, fun y hy => ?_, fun y c z _ => ?_, fun _ => hA, hfr, .inr ⟨rfl, rfl⟩, fun b hb => ⟨fun z => ?_, fun y c e z => ?_⟩, I.bs, Nat.le_trans I.ok.bsz I.sz, fun b o e hb => ?_, fun b hb => ?_, I.stack, I.stkFree⟩,
    hos, hb, un, ⟨m, hns, fun i y v e1 e2 e3 => ?_⟩, fun y c e => ?_, hfC, fun y c e => ?_, fun p hp => ?_, hok, ?_⟩
  · rw [hgk] at hy
    rcases hy with hy | hy
    · exact absurd rfl (S.nocell _ (PySem.mem_of_lookup hy))
    · obtain ⟨i, hi⟩ := List.mem_iff_getElem?.mp (S.free _ (PySem.mem_of_lookup hy) rfl)
      obtain ⟨c, hc, _⟩ := CA.has i y hi
      exact ⟨c, hc⟩
  · exact absurd z Bool.false_ne_true
  · have h1 := hfl b hb
    have z' : b = C := z
    rw [z'] at h1
    exact absurd (Nat.lt_of_lt_of_le h1 hC) (Nat.lt_irrefl _)
  · have h2 := ltc y c e
    exact cfp y c e (by rw [show c = b from z]; exact hb)
  · have h1 := (I.ok.bs b o e).1
    rcases (hfp b hb).2.2.2.1 with h2 | h2
    · exact I.ok.noex b o e h2
    · exact absurd (Nat.lt_of_lt_of_le (Heap.lt_size h1) h2) (Nat.lt_irrefl _)
  · exact not_stk I (hfp b hb).2.1 (hfp b hb).2.2.1
  · have e1 : N[i]? = some y := e1
    have clen := CA.len
    rw [List.length_map] at clen
    unfold startF at e2
    rw [List.map_nil, List.nil_append] at e2
    by_cases h2 : i < fr.length
    · have hq : fr[i]? = some y := by
        rw [← S.pre, List.getElem?_take_of_lt h2]
        exact e1
      rw [List.getElem?_append_left (by rw [List.length_map]; omega)] at e2
      obtain ⟨c, hc, hv⟩ := CA.has i y hq
      obtain ⟨u, ru, hu⟩ := hv v e2
      exact ⟨u, ru, .inr ⟨.inr (S.frk y (List.mem_of_getElem? hq)), c, hc, cellK y c hc _ hu⟩⟩
    · rw [List.getElem?_append_right (by rw [List.length_map]; omega), List.getElem?_replicate] at e2
      split at e2 <;> cases e2
  · obtain ⟨v, z⟩ := (CA.all y c e).2
    exact ⟨v, cellK y c e v z⟩
  · obtain ⟨n, v, o, ho, _⟩ := CA.all y c e
    exact un.free c o ho n (cfp y c e)
  · rw [List.append_nil] at hp
    exact hpn p hp
  · have clen := CA.len
    have hpl := congrArg List.length S.pre
    simp only [List.length_take] at hpl
    unfold startF
    show _ = N.length
    simp only [List.length_append, List.length_map, List.length_replicate, List.length_nil, List.map_nil]
    rw [List.length_map] at clen
    omega
end
end GA
set_option Elab.async false
set_option linter.all false
set_option maxRecDepth 100000
set_option maxHeartbeats 2000000
namespace GA
open PySem PySem.Spec PyProof.Rows L2 GxR NdefX

section
variable {A : Around} {elt tg iter : Expr} {scope : Scope} {gpos : Pos} {it acc : Value} {cenv : Env} {ifs : List Expr}
abbrev gexp (elt tg iter : Expr) (scope : Scope) (gpos : Pos) : Expr := .GeneratorExp elt [⟨tg, iter, [], 0⟩] scope gpos
abbrev gloop (elt tg iter : Expr) (scope : Scope) (gpos : Pos) (it : Value) (cenv : Env) : Code := .compLoop (gexp elt tg iter scope gpos) 0 it .none cenv
abbrev gstart (elt tg iter : Expr) (scope : Scope) (gpos : Pos) (it : Value) (cenv : Env) : Code := .compStart (gexp elt tg iter scope gpos) 0 it .none cenv
theorem overL_hd : (A.over (gloop elt tg iter scope gpos it cenv) []).handled = A.handled := rfl
theorem overL_fr {l : List Env} (h : A.frames = some l) : (A.over (gloop elt tg iter scope gpos it cenv) []).frames = some (cenv :: l) := by
  show pushEnvs [cenv] (pushEnvs [] A.frames) = _
  rw [h] <;> rfl
theorem overL_dp : (A.over (gloop elt tg iter scope gpos it cenv) []).depth = A.depth + 1 := by
  show A.depth + 0 + 1 = _
  omega
theorem overL_un : (A.over (gloop elt tg iter scope gpos it cenv) []).units = A.units + 3 := by
  show A.units + 0 + 3 = _
  omega
theorem roomL {k : Nat} (r : Room (k + 1) A) : Room k ((A.in1.in1).over (gloop elt tg iter scope gpos it cenv) []) :=
  ⟨r.hd, by have := r.dp; rw [overL_dp]; show A.depth + 1 + 3 * k + 5 < _; omega, by have := r.un; rw [overL_un]; show A.units + 1 + 1 + 3 + 16 * k + 200 < _; omega⟩
end

/-- the turns of a generator expression, in its own frame: W an invariant over turn, measure, slots and heap; Qe: behind its end; K: what is known of what is handed out -/
def GTurn (J : It) (g : TG) (te : TE) (W : Nat → Nat → L2.St → Hp → Prop) (Qe : Hp → Prop) (K : Nat → Nat → L2.St → V → Hp → Prop) : Prop :=
  ∀ i m σ H, W i m σ H → (J.stop i H ∧ Qe H) ∨ (J.go i H ∧ 0 < m ∧ ∀ x H', J.yld i H x H' → g x σ H' fun σ2 H2 => te σ2 H2 fun r H3 => K i m σ2 r H3)

section
variable {X : Cx} {N : List Str} {elt tg iter : Expr} {scope : Scope} {gpos : Pos} {cl : List (Str × Addr)} {code : Value} {C it ga : Addr} {go : Obj} {fp : List Addr} {s2 : Shared} {H2 : Hp} {J : It} {g : TG} {te : TE}
  {W : Nat → Nat → L2.St → Hp → Prop} {Qe : Hp → Prop} {K : Nat → Nat → L2.St → V → Hp → Prop} {tn : Nat → Heap → Prop}
abbrev cenvOf (X : Cx) (scope : Scope) (cl : List (Str × Addr)) (code : Value) (C : Addr) : Env := genEnv scope cl C code builtinsNs X.env
/-- the running frame's context -/
abbrev gX (X : Cx) (N : List Str) (elt tg iter : Expr) (scope : Scope) (gpos : Pos) (cl : List (Str × Addr)) (code : Value) (C it : Addr) (fp : List Addr) (s2 : Shared) (H2 : Hp) (pn : List (Addr × Obj)) : Cx :=
  gcx X N scope cl code C ((X.A.in1.in1).over (gloop elt tg iter scope gpos (.ref it) (cenvOf X scope cl code C)) []) fp s2 H2 pn
def gEnd (Xg : Cx) (fp : List Addr) (Qe : Hp → Prop) : Nat → Shared → Shared → Prop := fun _ _ s => ∃ σ H, Inv Xg [] σ H s ∧ (∀ b ∈ fp, H b = none) ∧ Qe H
def gYld (Xg : Cx) (fp : List Addr) (tn : Nat → Heap → Prop) (W : Nat → Nat → L2.St → Hp → Prop) (K : Nat → Nat → L2.St → V → Hp → Prop) : Protocol := fun _ _ v s kap =>
  ∃ i m σ H r, RelV r v ∧ Inv Xg [] σ H s ∧ tn (i + 1) s.heap ∧ (∀ b ∈ fp, H b = none) ∧ K i m σ r H ∧
    ∀ m' s'', m' < m → W (i + 1) m' σ H → s''.heap = s.heap → s''.os = s.os → AllBare s''.gens → kap (.send .none) s''

theorem fpOk_g {pins : List (Addr × Obj)} {σ : L2.St} {H : Hp} {s : Shared} {pn : List (Addr × Obj)} (I : Inv (gX X N elt tg iter scope gpos cl code C it fp s2 H2 pn) pins σ H s) (hn : ∀ b ∈ fp, H b = none) (hp : ∀ b ∈ fp, ∀ p ∈ pn ++ pins, p.1 ≠ b) :
    ∀ b ∈ fp, FpOk (gX X N elt tg iter scope gpos cl code C it fp s2 H2 pn) pins H b := fun b hb =>
  ⟨hn b hb, (I.ok.exf b hb).1, I.ok.exfs b hb, .inl hb, (I.ok.exf b hb).2, hp b hb⟩

theorem inv_awake {pins : List (Addr × Obj)} {σ : L2.St} {H : Hp} {s s' : Shared} (I : Inv X pins σ H s) (h1 : s'.heap = s.heap) (h2 : s'.os = s.os) (h3 : AllBare s'.gens) : Inv X pins σ H s' := by
  refine Inv.call' (ch := []) I h2 ?_ ?_ h3 (fun b z => absurd z (by simp))
  · rw [h1]; exact Un.refl
  · rw [h1]; exact I.hok

theorem seg_gloop (hg : PG (gX X N elt tg iter scope gpos cl code C it fp s2 H2 [(ga, go)]) tg g) (he : PE (gX X N elt tg iter scope gpos cl code C it fp s2 H2 [(ga, go)]) elt te)
    (T : Turn X.prog X.w X.K tg J fp it tn) (hfp : ga ∉ fp) (hco : scope.isCoroutine = false) (turn : GTurn J g te W Qe K) :
    ∀ (n m i : Nat) (s₀ s : Shared) (σ : L2.St) (H : Hp), m ≤ n → W i m σ H → Inv (gX X N elt tg iter scope gpos cl code C it fp s2 H2 [(ga, go)]) [] σ H s → tn i s.heap → (∀ b ∈ fp, H b = none) →
      Seg (model X.prog X.w) X.A.in1.in1 (fun n s₀ r s₁ => r = .ok .next ∧ gEnd (gX X N elt tg iter scope gpos cl code C it fp s2 H2 [(ga, go)]) fp Qe n s₀ s₁) (gYld (gX X N elt tg iter scope gpos cl code C it fp s2 H2 [(ga, go)]) fp tn W K) n s₀
        (gloop elt tg iter scope gpos (.ref it) (cenvOf X scope cl code C)) ((model X.prog X.w).den (gloop elt tg iter scope gpos (.ref it) (cenvOf X scope cl code C))) [] s := by
  intro n
  have pne : ∀ pins : List (Addr × Obj), (∀ p ∈ pins, p.1 ∈ fp → False) → ∀ b ∈ fp, ∀ p ∈ [(ga, go)] ++ pins, p.1 ≠ b := fun pins hp b hb p h e => by
    rcases List.mem_append.mp h with h | h
    · rw [List.mem_singleton.mp h] at e
      exact hfp (by rw [show ga = b from e]; exact hb)
    · exact hp p h (by rw [e]; exact hb)
  induction n with
  | zero =>
    intro m i s₀ s σ H hm hw I hst hn
    show Seg _ _ _ _ _ s₀ _ ((compTurn (gexp elt tg iter scope gpos) 0 (.ref it) .none (cenvOf X scope cl code C)).onRaise (leaving (cenvOf X scope cl code C))) [] s
    rw [compTurn_gen, Sem.onRaise_eq_wrap]
    refine seg_bind_wrap (wpAny_standAt ?_)
    rcases turn i m σ H hw with ⟨st, q⟩ | ⟨_, hm0, _⟩
    · refine seg_bind_wrap (wpAny_mono (T.done (gX X N elt tg iter scope gpos cl code C it fp s2 H2 [(ga, go)]) rfl rfl rfl rfl i [] s σ H (fun _ _ => False) I (fpOk_g I hn (pne [] fun _ h => by simp at h)) hst st) (fun r s' ⟨hr, I'⟩ => ?_) fun _ _ e => e.elim)
      subst hr
      exact seg_end (.ok .next) ⟨rfl, σ, H, I', hn, q⟩
    · omega
  | succ n ih =>
    intro m i s₀ s σ H hm hw I hst hn
    show Seg _ _ _ _ _ s₀ _ ((compTurn (gexp elt tg iter scope gpos) 0 (.ref it) .none (cenvOf X scope cl code C)).onRaise (leaving (cenvOf X scope cl code C))) [] s
    rw [compTurn_gen, Sem.onRaise_eq_wrap]
    refine seg_bind_wrap (wpAny_standAt ?_)
    have ok0 := fpOk_g I hn (pne [] fun _ h => by simp at h)
    rcases turn i m σ H hw with ⟨st, q⟩ | ⟨hgo, hm0, hstep⟩
    · refine seg_bind_wrap (wpAny_mono (T.done (gX X N elt tg iter scope gpos cl code C it fp s2 H2 [(ga, go)]) rfl rfl rfl rfl i [] s σ H (fun _ _ => False) I ok0 hst st) (fun r s' ⟨hr, I'⟩ => ?_) fun _ _ e => e.elim)
      subst hr
      exact seg_end (.ok .next) ⟨rfl, σ, H, I', hn, q⟩
    · refine seg_bind_wrap (wpAny_mono (T.item (gX X N elt tg iter scope gpos cl code C it fp s2 H2 [(ga, go)]) rfl rfl rfl rfl i [] s σ H (fun _ _ => False) I ok0 hst hgo) (fun r s3 ⟨u, hr, h3⟩ => ?_) fun _ _ e => e.elim)
      subst hr
      refine seg_bind_wrap (wpAny_mono h3 (fun _ s4 ⟨x, H4, I4, r4, y4, st4, n4⟩ => ?_) fun _ _ e => e.elim)
      have I4' := I4.pinned (fpOk_g I4 n4 (pne [] fun _ h => by simp at h)) (T.obj _ _ st4)
      refine seg_bind_wrap (wpAny_mono (hg.run _ s4 σ H4 x u _ I4' r4 (hstep x H4 y4)) (fun _ s5 ⟨σ5, H5, I5, q5⟩ => ?_) fun _ _ e => e.elim)
      simp only [List.forIn_nil]
      refine seg_bind_wrap (wpAny_pure ?_)
      simp only [if_true]
      have hy : ∀ v, yieldOut (cenvOf X scope cl code C) v = yieldValue v := fun v => by
        unfold yieldOut
        rw [show (cenvOf X scope cl code C).scope.isCoroutine = false from hco] <;> rfl
      simp only [hy]
      rw [Sem.bind_eq_wrap', Sem.bind_eq_wrap', Sem.wrap_wrap, Sem.wrap_wrap]
      refine seg_wrap (wpAny_mono (he.run _ s5 σ5 H5 _ I5 q5) (fun v s6 ⟨r, H6, I6, r6, q6⟩ => ?_) fun _ _ e => e.elim)
      have keepP : ∀ b ∈ fp, (∀ o, s4.heap.get? b = some o → s6.heap.get? b = some o) ∧ H6 b = none := fun b hb => by
        obtain ⟨o, e, d⟩ := T.obj _ _ st4 b hb
        have z := I6.pin (b, o) (List.mem_append_right _ (List.mem_append_right _ (mem_pinsAt hb e)))
        exact ⟨fun o' e' => by rw [e] at e'; cases e'; exact z.1, z.2.1⟩
      have st6 := T.keep _ _ s6.heap st4 fun b hb o e => (keepP b hb).1 o e
      have J6 : Inv (gX X N elt tg iter scope gpos cl code C it fp s2 H2 [(ga, go)]) [] σ5 H6 s6 := I6.unpinned (pins := [])
      refine seg_at (seg_yield rfl rfl rfl ⟨i, m, σ5, H6, r, r6, J6, st6, fun b hb => (keepP b hb).2, q6, fun m' s'' hlt hw' e1 e2 e3 => ?_⟩)
      refine seg_again rfl (ih m' (i + 1) s'' s'' σ5 H6 (by omega) hw' (inv_awake J6 e1 e2 e3) (by rw [e1]; exact st6) fun b hb => (keepP b hb).2)
end
end GA
set_option Elab.async false
set_option linter.all false
set_option maxRecDepth 100000
set_option maxHeartbeats 2000000
namespace GA
open PySem PySem.Spec PyProof.Rows L2 GxR NdefX
open GenW

theorem allBare_set {s : Shared} {g : Nat} {x : GenState} (h : AllBare s.gens) (hx : x.bare = true) : AllBare (s.setGen g x).gens := fun y hy => by
  have hy : y ∈ s.gens.setIfInBounds g x := hy
  rcases Array.mem_or_eq_of_mem_setIfInBounds hy with z | z
  · exact h y z
  · rw [z]; exact hx
theorem setGen_at {s : Shared} {g : Nat} {x : GenState} (h : g + 1 ≤ (s.setGen g x).gens.size) : (s.setGen g x).gens[g]? = some x := by
  rw [setGen_size] at h
  have hlt : g < s.gens.size := h
  simp [Shared.setGen, hlt]

section
variable {X : Cx} {N : List Str} {elt tg iter : Expr} {scope : Scope} {gpos : Pos} {cl : List (Str × Addr)} {code : Value} {C it ga : Addr} {go : Obj} {fp : List Addr} {s2 : Shared} {H2 : Hp} {J : It} {g : TG} {te : TE}
  {W : Nat → Nat → L2.St → Hp → Prop} {Qe : Hp → Prop} {K : Nat → Nat → L2.St → V → Hp → Prop} {tn : Nat → Heap → Prop}

theorem seg_gstart (hg : PG (gX X N elt tg iter scope gpos cl code C it fp s2 H2 [(ga, go)]) tg g) (he : PE (gX X N elt tg iter scope gpos cl code C it fp s2 H2 [(ga, go)]) elt te)
    (T : Turn X.prog X.w X.K tg J fp it tn) (hfp : ga ∉ fp) (hco : scope.isCoroutine = false) (turn : GTurn J g te W Qe K) (n m : Nat) (s₀ s : Shared) (σ : L2.St) (H : Hp) (hm : m ≤ n) (hw : W 0 m σ H)
    (I : Inv (gX X N elt tg iter scope gpos cl code C it fp s2 H2 [(ga, go)]) [] σ H s) (hst : tn 0 s.heap) (hn : ∀ b ∈ fp, H b = none) :
    Seg (model X.prog X.w) X.A.in1.in1 (fun n s₀ r s₁ => r = .ok .next ∧ gEnd (gX X N elt tg iter scope gpos cl code C it fp s2 H2 [(ga, go)]) fp Qe n s₀ s₁) (gYld (gX X N elt tg iter scope gpos cl code C it fp s2 H2 [(ga, go)]) fp tn W K) n s₀
      (gstart elt tg iter scope gpos (.ref it) (cenvOf X scope cl code C)) ((model X.prog X.w).den (gstart elt tg iter scope gpos (.ref it) (cenvOf X scope cl code C))) [] s := by
  have loop := seg_gloop hg he T hfp hco turn n m 0 s₀ s σ H hm hw I hst hn
  show Seg _ _ _ _ _ s₀ _ ((compStart (gexp elt tg iter scope gpos) 0 (.ref it) .none (cenvOf X scope cl code C)).onRaise (leaving (cenvOf X scope cl code C))) [] s
  unfold compStart
  rw [Sem.onRaise_eq_wrap]
  show Seg _ _ _ _ _ s₀ _ ((ask >>= _).wrap _ _ _ _) [] s
  refine seg_bind_wrap (wpAny_askSetting ?_)
  split
  · exact seg_again rfl loop
  · refine seg_bind_wrap (wpAny_rule ?_)
    show Seg _ _ _ _ _ s₀ _ ((standAt iter.pos >>= _).wrap _ _ _ _) [] s
    exact seg_bind_wrap (wpAny_standAt (seg_bind_wrap (T.self _ 0 s _ _ hst (seg_again rfl loop))))

/-- a generator that stands ready, in the state s: it will go on from the turn i -/
def GSt (X Xg : Cx) (fp : List Addr) (tn : Nat → Heap → Prop) (W : Nat → Nat → L2.St → Hp → Prop) (Qe : Hp → Prop) (K : Nat → Nat → L2.St → V → Hp → Prop) (gn n : Nat) (H : Hp) (s : Shared) : Prop :=
  ∃ σ gs, Inv Xg [] σ H s ∧ (∀ b ∈ fp, H b = none) ∧ s.gens[gn]? = some gs ∧ ∀ s'', s''.heap = s.heap → s''.os = s.os → AllBare s''.gens →
    gs.Goes (model X.prog X.w) X.A.in1.in1 (fun n s₀ r s₁ => r = .ok .next ∧ gEnd Xg fp Qe n s₀ s₁) (gYld Xg fp tn W K) n (.send .none) s''

/-- what all and any ask of an item: stop: the truth at which they end -/
def KB (stop : Bool) (W : Nat → Nat → L2.St → Hp → Prop) (Qb : Bool → Hp → Prop) : Nat → Nat → L2.St → V → Hp → Prop := fun i m σ r H =>
  ∃ b, r = .bl b ∧ if b = stop then Qb stop H else ∃ m', m' < m ∧ W (i + 1) m' σ H

theorem g_next {stop : Bool} {gn : Nat} {Qb : Bool → Hp → Prop} {Q : Option Value → Shared → Prop} {E : Value → Shared → Prop} {n : Nat} {H : Hp} {s : Shared} {k : Nat} {pn : List (Addr × Obj)}
    (hr : Room k X.A) (hgo : ∀ s : Shared, s.heap.get? ga = some go → s.heap.IsGen ga gn) (hpn : pn = [(ga, go)])
    (st : GSt X (gX X N elt tg iter scope gpos cl code C it fp s2 H2 pn) fp tn W (Qb (!stop)) (KB stop W Qb) gn n H s)
    (hend : ∀ σ H' s', Inv (gX X N elt tg iter scope gpos cl code C it fp s2 H2 pn) [] σ H' s' → (∀ b ∈ fp, H' b = none) → Qb (!stop) H' → Q none s')
    (hstop : ∀ σ H' s', Inv (gX X N elt tg iter scope gpos cl code C it fp s2 H2 pn) [] σ H' s' → (∀ b ∈ fp, H' b = none) → Qb stop H' → Q (some (.bool stop)) s')
    (hgoon : ∀ m H' s', n = m + 1 → GSt X (gX X N elt tg iter scope gpos cl code C it fp s2 H2 pn) fp tn W (Qb (!stop)) (KB stop W Qb) gn m H' s' → Q (some (.bool (!stop))) s') :
    wpAny (model X.prog X.w) X.A.in1 (pyNext (.ref ga)) Q E s := by
  subst hpn
  obtain ⟨σ, gs, I, hn, hgs, goes⟩ := st
  have hlt : gn + 1 ≤ s.gens.size := by
    rcases Nat.lt_or_ge gn s.gens.size with h | h
    · exact h
    · rw [Array.getElem?_eq_none h] at hgs; cases hgs
  have hpin := (I.pin (ga, go) (List.mem_append_left _ (List.mem_singleton.mpr rfl))).1
  refine wpAny_gsz (n := gn + 1) hlt ?_
  refine wpAny_pyNext_genexpQ (Y := gYld (gX X N elt tg iter scope gpos cl code C it fp s2 H2 [(ga, go)]) fp tn W (KB stop W Qb)) (P := gEnd (gX X N elt tg iter scope gpos cl code C it fp s2 H2 [(ga, go)]) fp (Qb (!stop))) (n := n) hr.hd I.nolimit hr.depth (hgo s hpin) hgs (goes _ rfl rfl (allBare_set I.bare rfl)) (fun v s₁ gs' hb hv => ?_) (fun s₁ hp h' hk => ?_)
  · obtain ⟨i, m, σ', H', r, rv, J', st', n', ⟨b, eb, kb⟩, kap⟩ := hv
    subst eb
    obtain rfl : v = Value.bool b := rv
    have J2 : Inv (gX X N elt tg iter scope gpos cl code C it fp s2 H2 [(ga, go)]) [] σ' H' (s₁.setGen gn gs') := inv_awake J' rfl rfl (allBare_set J'.bare hb)
    intro hsz
    by_cases e : b = stop
    · subst e
      rw [if_pos rfl] at kb
      exact hstop σ' H' _ J2 n' kb
    · rw [if_neg e] at kb
      have eb : b = !stop := by cases b <;> cases stop <;> simp_all
      subst eb
      obtain ⟨m', hm', w'⟩ := kb
      cases n with
      | zero => exact (kap m' s₁ hm' w' rfl rfl J'.bare).elim
      | succ n0 =>
        exact hgoon n0 H' _ rfl ⟨σ', gs', J2, n', setGen_at hsz, fun s'' e1 e2 e3 => kap m' s'' hm' w' e1 e2 e3⟩
  · obtain ⟨σ', H', J', n', q⟩ := hp
    intro _
    have J2 : Inv (gX X N elt tg iter scope gpos cl code C it fp s2 H2 [(ga, go)]) [] σ' H' (s₁.setGen gn .finished) := inv_awake J' rfl rfl (allBare_set J'.bare rfl)
    exact hend σ' H' _ (J2.kept (t' := s₁.toks) hk) n' q

theorem all_loop {gn : Nat} {Qb : Bool → Hp → Prop} {k : Nat} {pn : List (Addr × Obj)} {R : Result → Shared → Prop}
    (hr : Room k X.A) (hgo : ∀ s : Shared, s.heap.get? ga = some go → s.heap.IsGen ga gn) (hpn : pn = [(ga, go)])
    (hR : ∀ b σ H' s', Inv (gX X N elt tg iter scope gpos cl code C it fp s2 H2 pn) [] σ H' s' → (∀ b ∈ fp, H' b = none) → Qb b H' → R (.ok (.ret (.bool b))) s') :
    ∀ (n : Nat) (H : Hp) (s : Shared), GSt X (gX X N elt tg iter scope gpos cl code C it fp s2 H2 pn) fp tn W (Qb true) (KB false W Qb) gn n H s → codeAny (model X.prog X.w) X.A (.builtin "all.loop" ⟨[.ref ga], []⟩) R s := by
  intro n
  induction n with
  | zero =>
    intro H s st
    refine codeAny_builtin F.entry_all_loop ?_
    rw [Around.under_plainId F.plain_all_loop _]
    show wpAny _ X.A.in1 (pyNext (.ref ga) >>= _) _ _ s
    refine wpAny_bind (g_next (stop := false) hr hgo hpn st (fun σ H' s' J n' q => ?_) (fun σ H' s' J n' q => ?_) (fun m H' s' e => by omega))
    · exact wpAny_bind (wpAny_rule (wpAny_pure (hR true σ H' s' J n' q)))
    · refine wpAny_bind (wpAny_holding (wpAny_truthy_bool ?_))
      refine wpAny_bind (wpAny_letGo ?_)
      simp only [Bool.false_eq_true, if_false]
      exact wpAny_bind (wpAny_rule (wpAny_pure (hR false σ H' s' J n' q)))
  | succ n ih =>
    intro H s st
    refine codeAny_builtin F.entry_all_loop ?_
    rw [Around.under_plainId F.plain_all_loop _]
    show wpAny _ X.A.in1 (pyNext (.ref ga) >>= _) _ _ s
    refine wpAny_bind (g_next (stop := false) hr hgo hpn st (fun σ H' s' J n' q => ?_) (fun σ H' s' J n' q => ?_) (fun m H' s' e st' => ?_))
    · exact wpAny_bind (wpAny_rule (wpAny_pure (hR true σ H' s' J n' q)))
    · refine wpAny_bind (wpAny_holding (wpAny_truthy_bool ?_))
      refine wpAny_bind (wpAny_letGo ?_)
      simp only [Bool.false_eq_true, if_false]
      exact wpAny_bind (wpAny_rule (wpAny_pure (hR false σ H' s' J n' q)))
    · have e' : m = n := by omega
      subst e'
      refine wpAny_bind (wpAny_holding (wpAny_truthy_bool ?_))
      refine wpAny_bind (wpAny_letGo ?_)
      simp only [Bool.not_false, if_true]
      exact wpAny_pure ⟨plainId_quiet F.plain_all_loop _, ih H' s' st'⟩

theorem any_loop {gn : Nat} {Qb : Bool → Hp → Prop} {k : Nat} {pn : List (Addr × Obj)} {R : Result → Shared → Prop}
    (hr : Room k X.A) (hgo : ∀ s : Shared, s.heap.get? ga = some go → s.heap.IsGen ga gn) (hpn : pn = [(ga, go)])
    (hR : ∀ b σ H' s', Inv (gX X N elt tg iter scope gpos cl code C it fp s2 H2 pn) [] σ H' s' → (∀ b ∈ fp, H' b = none) → Qb b H' → R (.ok (.ret (.bool b))) s') :
    ∀ (n : Nat) (H : Hp) (s : Shared), GSt X (gX X N elt tg iter scope gpos cl code C it fp s2 H2 pn) fp tn W (Qb false) (KB true W Qb) gn n H s → codeAny (model X.prog X.w) X.A (.builtin "any.loop" ⟨[.ref ga], []⟩) R s := by
  intro n
  induction n with
  | zero =>
    intro H s st
    refine codeAny_builtin F.entry_any_loop ?_
    rw [Around.under_plainId F.plain_any_loop _]
    show wpAny _ X.A.in1 (pyNext (.ref ga) >>= _) _ _ s
    refine wpAny_bind (g_next (stop := true) hr hgo hpn st (fun σ H' s' J n' q => ?_) (fun σ H' s' J n' q => ?_) (fun m H' s' e => by omega))
    · exact wpAny_bind (wpAny_rule (wpAny_pure (hR false σ H' s' J n' q)))
    · refine wpAny_bind (wpAny_holding (wpAny_truthy_bool ?_))
      refine wpAny_bind (wpAny_letGo ?_)
      simp only [if_true]
      exact wpAny_bind (wpAny_rule (wpAny_pure (hR true σ H' s' J n' q)))
  | succ n ih =>
    intro H s st
    refine codeAny_builtin F.entry_any_loop ?_
    rw [Around.under_plainId F.plain_any_loop _]
    show wpAny _ X.A.in1 (pyNext (.ref ga) >>= _) _ _ s
    refine wpAny_bind (g_next (stop := true) hr hgo hpn st (fun σ H' s' J n' q => ?_) (fun σ H' s' J n' q => ?_) (fun m H' s' e st' => ?_))
    · exact wpAny_bind (wpAny_rule (wpAny_pure (hR false σ H' s' J n' q)))
    · refine wpAny_bind (wpAny_holding (wpAny_truthy_bool ?_))
      refine wpAny_bind (wpAny_letGo ?_)
      simp only [if_true]
      exact wpAny_bind (wpAny_rule (wpAny_pure (hR true σ H' s' J n' q)))
    · have e' : m = n := by omega
      subst e'
      refine wpAny_bind (wpAny_holding (wpAny_truthy_bool ?_))
      refine wpAny_bind (wpAny_letGo ?_)
      simp only [Bool.not_true, Bool.false_eq_true, if_false]
      exact wpAny_pure ⟨plainId_quiet F.plain_any_loop _, ih H' s' st'⟩
end
end GA
set_option Elab.async false
set_option linter.all false
set_option maxRecDepth 100000
set_option maxHeartbeats 2000000
namespace GA
open PySem PySem.Spec PyProof.Rows L2 GxR NdefX
open GenW

/-- the reading of all(elt for tg in iter), any(..): stop: the truth that ends it -/
def tGen (P : Addr) (wi : TI) (g : TG) (te : TE) (N : List Str) (js : List Nat) (stop : Bool) : TE := fun σ H Q =>
  wi σ H fun J H1 => TabG H1 P ∧ ∀ H2, Tabbed P H1 H2 → ∃ W, (∃ m, W 0 m (startF N [] (js.map (slotAt σ))) H2) ∧ GTurn J g te W (fun H' => Q (.bl (!stop)) H') (KB stop W fun b H' => Q (.bl b) H')

section
variable {X : Cx} {N fr : List Str} {js : List Nat} {elt tg iter : Expr} {scope : Scope} {gpos : Pos} {g : TG} {te : TE} {wi : TI} {c P : Addr} {k : Nat} {stop : Bool}

theorem gen_made {pins : List (Addr × Obj)} {σ : L2.St} {H : Hp} {s : Shared} {Q : VK} {Q' : Value → Shared → Prop} (hr : Room (k + 1) X.A) (TB : TabB X.base X.mg c P) (hcode : X.env.code = .ref c) (S : GSc N fr scope)
    (hfree : ∀ y ∈ fr, X.env.scope.names.lookup y = some .cell ∨ X.env.scope.names.lookup y = some .free) (hjs : js.map (fun j => X.N[j]?) = fr.map some)
    (hi : PI X tg iter wi) (hg : ∀ code C it fp s2 H2 pn, PG (gX X N elt tg iter scope gpos (cloFrom X.env.cells scope.names []) code C it fp s2 H2 pn) tg g)
    (he : ∀ code C it fp s2 H2 pn, Room k (gX X N elt tg iter scope gpos (cloFrom X.env.cells scope.names []) code C it fp s2 H2 pn).A → PE (gX X N elt tg iter scope gpos (cloFrom X.env.cells scope.names []) code C it fp s2 H2 pn) elt te)
    (hs : ∀ v, genFold iter X.env v = pure v) (I : Inv X pins σ H s) (h : tGen P wi g te N js stop σ H Q)
    (hQ : ∀ (code : Value) (C it ga : Addr) (go : Obj) (gn n : Nat) (fp : List Addr) (tn : Nat → Heap → Prop) (s2 s5 : Shared) (H2 H5 : Hp) (W : Nat → Nat → L2.St → Hp → Prop),
      (∀ s : Shared, s.heap.get? ga = some go → s.heap.IsGen ga gn) → s5.heap.get? ga = some go →
      GSt X (gX X N elt tg iter scope gpos (cloFrom X.env.cells scope.names []) code C it fp s2 H2 [(ga, go)]) fp tn W (fun H' => Q (.bl (!stop)) H') (KB stop W fun b H' => Q (.bl b) H') gn n H5 s5 →
      (∀ σ' H' s', Inv (gX X N elt tg iter scope gpos (cloFrom X.env.cells scope.names []) code C it fp s2 H2 [(ga, go)]) [] σ' H' s' → Inv X pins σ H' s') → Q' (.ref ga) s5) :
    wpAny (model X.prog X.w) X.A (eval (gexp elt tg iter scope gpos) X.env) Q' X.xe s := by
  have hcl : ∀ y ∈ scope.names, y.2 = .free → ∃ c, X.env.cells.lookup y.1 = some c := fun y hy e => (hfree y.1 (S.free y hy e)).elim (fun z => I.ok.has _ (.inl z)) fun z => I.ok.has _ (.inr z)
  refine wpAny_GeneratorExp_make S.co (closure_ok hcl) S.nocell S.dot S.kind hr.depth ?_ hs
  refine thn (hi.run pins s σ H _ I h) fun xv s1 h1 => thn h1 fun itv s2 h2 => ?_
  obtain ⟨it, fp, tn, J, H2, rfl, I2, T, st2, f2, ⟨ps, hP, ht⟩, q2⟩ := h2
  have hPs : s2.heap.get? P = some { cls := .none, data := .fields ps } := I2.hok P _ hP
  have cd : PySem.W.CodeHd s2.heap c P := TB.code.keeps I2.bk
  have fpo : ∀ b ∈ fp, ∃ o, s2.heap.get? b = some o ∧ ∀ v, o.data ≠ .cell v := T.obj 0 _ st2
  have fpP : ∀ b ∈ fp, b ≠ P := fun b hb z => by
    have := (f2 b hb).1
    rw [z, hP] at this
    cases this
  refine ⟨I2.nolimit, ?_⟩
  have cont : ∀ (cv : Value) (h3 : Heap) (tk : Nat) (ps' : Array Value), Heap.ExtBut P s2.heap h3 → s2.heap.objs.size ≤ h3.objs.size → h3.get? P = some { cls := .none, data := .fields ps' } → (∃ more, ps' = ps ++ more) → TriplesOk ps'.toList →
      wpAny (model X.prog X.w) X.A (builtinsFor X.env.globals X.env.builtins) (fun bi s₄ =>
        ∀ h', (h'.Ns s₄.heap.objs.size fun y => if y = (".0" : Str) then some (Value.ref it) else none) → Heap.SameBut s₄.heap.objs.size (s₄.heap.push { cls := .type "frame", data := .dict #[] }) h' →
          Q' (.ref h'.objs.size) { s₄ with
            gens := s₄.gens.push (.fresh (gstart elt tg iter scope gpos (.ref it) (genEnv scope (cloFrom X.env.cells scope.names []) s₄.heap.objs.size cv bi X.env))),
            toks := s₄.toks + 1 + 1 + 1,
            heap := h'.push { cls := .type "generator", data := .fields #[.int s₄.gens.size 0, .str "<genexpr>" (s₄.toks + 1), .str (X.env.qual ++ "<genexpr>") (s₄.toks + 1 + 1)] } }) X.xe { s2 with heap := h3, toks := tk } := by
    intro cv h3 tk ps' hx hsz hP3 hmore ht3
    obtain ⟨bm, ob, e1, e2, e3, e4, e5, e6, e7, e8⟩ := TB.bm
    have keep3 : ∀ b u, b ≠ P → s2.heap.get? b = some u → h3.get? b = some u := fun b u hb e => hx b u hb e
    refine wpAny_builtinsFor (m := X.mg) (by rw [I2.ok.glob]; exact (I2.mod.glob.keeps I2.bk).extBut hx TB.gP) e1 e2 (keep3 _ _ e4 (I2.bk _ _ e5)) e6 e7 e8 ?_
    intro h' hns hsb
    obtain ⟨more, em⟩ := hmore
    have hC : s2.heap.objs.size ≤ h3.objs.size := hsz
    have sz' : h'.objs.size = h3.objs.size + 1 := by rw [hsb.1, Heap.size_push]
    have keep' : ∀ b u, h3.get? b = some u → h'.get? b = some u := fun b u e => hsb.extBut b u (Nat.ne_of_lt (Heap.lt_size e)) (Heap.get?_push_of_some _ e)
    generalize hgo : ({ cls := .type "generator", data := .fields #[.int ({ s2 with heap := h3, toks := tk } : Shared).gens.size 0, .str "<genexpr>" (({ s2 with heap := h3, toks := tk } : Shared).toks + 1), .str (X.env.qual ++ "<genexpr>") (({ s2 with heap := h3, toks := tk } : Shared).toks + 1 + 1)] } : Obj) = go
    have gens : ∀ s : Shared, s.heap.get? h'.objs.size = some go → s.heap.IsGen h'.objs.size s2.gens.size := fun s e => by
      rw [← hgo] at e
      exact ⟨_, _, _, e, rfl, rfl, rfl⟩
    have hgat : (h'.push go).get? h'.objs.size = some go := Heap.get?_push_size _ (by rw [← hgo]; rfl)
    have keep5 : ∀ b u, b ≠ P → s2.heap.get? b = some u → (h'.push go).get? b = some u := fun b u hb e => Heap.get?_push_of_some _ (keep' b u (keep3 b u hb e))
    have hP5 : (h'.push go).get? P = some { cls := .none, data := .fields ps' } := Heap.get?_push_of_some _ (keep' _ _ hP3)
    have hPlt : P < s2.heap.objs.size := Heap.lt_size hPs
    -- the caller's invariant at the end of the making
    have J : Inv X pins σ (upd H2 P (.tbl (ps ++ more))) { s2 with heap := h'.push go, gens := s2.gens.push (.fresh (gstart elt tg iter scope gpos (.ref it) (cenvOf X scope (cloFrom X.env.cells scope.names []) cv h3.objs.size))), drawn := s2.drawn, toks := tk + 1 + 1 + 1 } :=
      inv_tab (more := more) I2 hP (fun b u hb e => keep5 b u hb e) (by rw [← em]; exact hP5) (I2.bare.push rfl)
    have tb5 : Tabbed P H2 (upd H2 P (.tbl (ps ++ more))) := ⟨⟨ps ++ more, upd_same, by rw [← em]; exact ht3⟩, fun b hb => upd_ne hb⟩
    obtain ⟨W, ⟨m, w0⟩, turn⟩ := q2 _ tb5
    have fpn : ∀ b ∈ fp, upd H2 P (.tbl (ps ++ more)) b = none := fun b hb => by rw [upd_ne (fpP b hb)]; exact (f2 b hb).1
    have fpl : ∀ b ∈ fp, b < s2.heap.objs.size := fun b hb => by
      obtain ⟨o, e, _⟩ := fpo b hb
      exact Heap.lt_size e
    have un5 : Un (frs X.stack) fp H2 (upd H2 P (.tbl (ps ++ more))) s2.heap (h'.push go) := by
      have nP : ∀ b u, H2 b = some u → (∀ q, u ≠ .tbl q) → b ≠ P := fun b u e q z => by
        rw [z, hP] at e
        exact q ps (Option.some.inj e).symm
      have nN : ∀ b, H2 b = none → b ≠ P := fun b e z => by
        rw [z, hP] at e
        cases e
      refine ⟨fun b o e n _ _ => keep5 b o (nN b n) e, fun b o e n _ _ => ⟨o.slots, keep5 b o (nN b n) e⟩, fun b o e n _ => by rw [upd_ne (nN b n)]; exact n, fun b o e _ => ?_, fun b xs e => by rw [upd_ne (nP b _ e (fun q z => by cases z))]; exact e,
        fun b o u e => by rw [upd_ne (nP b _ e (fun q z => by cases z))]; exact e, fun b qs e => ?_⟩
      · by_cases hb : b = P
        · rw [hb]; exact ⟨_, hP5⟩
        · exact ⟨o, keep5 b o hb e⟩
      · by_cases hb : b = P
        · rw [hb, hP] at e
          cases e
          rw [hb, upd_same]
          exact ⟨more, rfl⟩
        · rw [upd_ne hb, e]
          exact ⟨#[], by simp⟩
    have hCn : ∀ b : Addr, s2.heap.objs.size ≤ b → b ≠ P := fun b hb z => by
      rw [z] at hb
      exact Nat.lt_irrefl _ (Nat.lt_of_lt_of_le hPlt hb)
    have hC5 : upd H2 P (.tbl (ps ++ more)) h3.objs.size = none := by rw [upd_ne (hCn _ hC)]; exact I2.hok.fresh hC
    have hga : s2.heap.objs.size ≤ h'.objs.size := by rw [sz']; exact Nat.le_succ_of_le hC
    have cp : Caps X (cloFrom X.env.cells scope.names []) fr js := Caps.made I2.ok (fun y hy e => hfree y.1 (S.free y hy e)) S.frm hjs
    have IG : Inv (gX X N elt tg iter scope gpos (cloFrom X.env.cells scope.names []) cv h3.objs.size it fp s2 H2 [(h'.objs.size, go)]) [] (startF N [] (js.map (slotAt σ))) (upd H2 P (.tbl (ps ++ more)))
        { s2 with heap := h'.push go, gens := s2.gens.push (.fresh (gstart elt tg iter scope gpos (.ref it) (cenvOf X scope (cloFrom X.env.cells scope.names []) cv h3.objs.size))), drawn := s2.drawn, toks := tk + 1 + 1 + 1 } := by
      refine inv_gcx (m := fun y => if y = (".0" : Str) then some (Value.ref it) else none) I2 S cp hr.hd (overL_fr I2.ok.frames) f2 fpl hC (hns.push _) rfl J.bare un5 J.hok hC5 fun p hp => ?_
      rw [List.mem_singleton.mp hp]
      refine ⟨hgat, ?_, ?_, fun z => ?_, fun v z => ?_⟩
      · rw [upd_ne (hCn _ hga)]; exact I2.hok.fresh hga
      · intro z
        have z' : h'.objs.size = h3.objs.size := z
        omega
      · have z' : h'.objs.size ∈ frs X.stack := z
        exact not_stk I2 (Nat.ne_of_gt (Nat.lt_of_lt_of_le I2.lt hga)) (I2.nofs hga) z'
      · have z' : go.data = .cell v := z
        rw [← hgo] at z'
        cases z'
    have gaf : h'.objs.size ∉ fp := fun z => Nat.lt_irrefl _ (Nat.lt_of_lt_of_le (fpl _ z) hga)
    have st5 : tn 0 (h'.push go) := T.keep 0 _ _ st2 fun b hb o e => keep5 b o (fpP b hb) e
    refine hQ cv h3.objs.size it h'.objs.size go s2.gens.size m fp tn s2 _ H2 _ W gens hgat ⟨_, _, IG, fpn, Array.getElem?_push_size .., fun s'' x1 x2 x3 => ⟨rfl, ?_⟩⟩ fun σ' H' s' Ig => ?_
    · have r5 : Room k (gX X N elt tg iter scope gpos (cloFrom X.env.cells scope.names []) cv h3.objs.size it fp s2 H2 [(h'.objs.size, go)]).A := roomL hr
      exact seg_gstart (hg _ _ _ _ _ _ _) (he _ _ _ _ _ _ _ r5) T gaf S.co turn m m s'' s'' _ _ (Nat.le_refl _) w0 (inv_awake IG x1 x2 x3) (by rw [x1]; exact st5) fpn
    · refine Inv.call' (ch := fp) I2 Ig.os Ig.base Ig.hok Ig.bare fun b hb => ?_
      obtain ⟨g1, g2, g3, g4, g5, g6⟩ := f2 b hb
      exact ⟨g4, g2, g5, g6⟩
  cases hf : codeAmong gpos ps.toList with
  | none =>
    refine wpAny_genexprCodeX hcode (cd.code hPs ht) (cd.tab hPs) hf fun c' h' tk hx hge hlt hco' _ htab' _ => ?_
    obtain ⟨o1, vs, f1, tf, fl, tg, inF, tx, tt, op, _, _, _, _, _, _, _, _, _, htr, _⟩ := hco'
    exact cont _ h' tk _ hx (Nat.le_trans hge (Nat.le_of_lt hlt)) htab'.2 ⟨_, rfl⟩ htr
  | some cv =>
    refine wpAny_genexprCode_hit hcode (cd.code hPs ht) hf ?_
    exact cont cv s2.heap s2.toks ps (Heap.ExtBut.refl _ _) (Nat.le_refl _) hPs ⟨#[], by simp⟩ ht

/-- all(elt for tg in iter) -/
theorem pe_all {p pos : Pos} (hr : Room (k + 1) X.A) (hgl : Gl X "all") (hm : X.mg "all" = none) (TB : TabB X.base X.mg c P) (hcode : X.env.code = .ref c) (S : GSc N fr scope)
    (hfree : ∀ y ∈ fr, X.env.scope.names.lookup y = some .cell ∨ X.env.scope.names.lookup y = some .free) (hjs : js.map (fun j => X.N[j]?) = fr.map some)
    (hi : PI X tg iter wi) (hg : ∀ code C it fp s2 H2 pn, PG (gX X N elt tg iter scope gpos (cloFrom X.env.cells scope.names []) code C it fp s2 H2 pn) tg g)
    (he : ∀ code C it fp s2 H2 pn, Room k (gX X N elt tg iter scope gpos (cloFrom X.env.cells scope.names []) code C it fp s2 H2 pn).A → PE (gX X N elt tg iter scope gpos (cloFrom X.env.cells scope.names []) code C it fp s2 H2 pn) elt te)
    (hs : ∀ v, genFold iter X.env v = pure v := by intro _; rfl) (hse : starEach [gexp elt tg iter scope gpos] X.env = (false, eval (gexp elt tg iter scope gpos) X.env) :: starEach [] X.env := by rfl) :
    PE X (.Call (.Name "all" p) [gexp elt tg iter scope gpos] [] pos) (tGen P wi g te N js false) := by
  refine ⟨fun pins s σ H Q I h => ?_⟩
  refine wpAny_Call_Name_kw (ld_blt I hgl hm (by decide +kernel : bootBuiltins "all" = some (.builtin "all")) ?_)
  refine PyProof.Rows.callWith_builtin1 ?_ hse (by rfl)
  rw [hse]
  show wpAny _ _ (spliced ((false, eval (gexp elt tg iter scope gpos) X.env) :: backTo pos (starEach [] X.env))) _ _ s
  refine Calls.spliced_cons (gen_made (stop := false) hr TB hcode S hfree hjs hi hg he hs I h fun code C it ga go gn n fp tn s2 s5 H2 H5 W hgo hga st lv => ?_)
  refine Calls.spliced_nil ?_
  refine call_function_tree F.kind_all F.plain_all F.entry_all (F.args_all1 _) ?_
  unfold Builtin.«all»
  refine wpAny_bind (m := oneArg "all" _) (wpAny_pure ?_)
  refine wpAny_bind (wpAny_pyIter_gen (hgo s5 hga) ?_)
  refine wpAny_pure ⟨plainId_quiet F.plain_all_loop _, ?_⟩
  exact all_loop (Qb := fun b H' => Q (.bl b) H') hr hgo rfl (fun b σ' H' s' Ig _ q => ⟨.bl b, H', lv σ' H' s' Ig, rfl, q⟩) n H5 s5 st

/-- any(elt for tg in iter) -/
theorem pe_any {p pos : Pos} (hr : Room (k + 1) X.A) (hgl : Gl X "any") (hm : X.mg "any" = none) (TB : TabB X.base X.mg c P) (hcode : X.env.code = .ref c) (S : GSc N fr scope)
    (hfree : ∀ y ∈ fr, X.env.scope.names.lookup y = some .cell ∨ X.env.scope.names.lookup y = some .free) (hjs : js.map (fun j => X.N[j]?) = fr.map some)
    (hi : PI X tg iter wi) (hg : ∀ code C it fp s2 H2 pn, PG (gX X N elt tg iter scope gpos (cloFrom X.env.cells scope.names []) code C it fp s2 H2 pn) tg g)
    (he : ∀ code C it fp s2 H2 pn, Room k (gX X N elt tg iter scope gpos (cloFrom X.env.cells scope.names []) code C it fp s2 H2 pn).A → PE (gX X N elt tg iter scope gpos (cloFrom X.env.cells scope.names []) code C it fp s2 H2 pn) elt te)
    (hs : ∀ v, genFold iter X.env v = pure v := by intro _; rfl) (hse : starEach [gexp elt tg iter scope gpos] X.env = (false, eval (gexp elt tg iter scope gpos) X.env) :: starEach [] X.env := by rfl) :
    PE X (.Call (.Name "any" p) [gexp elt tg iter scope gpos] [] pos) (tGen P wi g te N js true) := by
  refine ⟨fun pins s σ H Q I h => ?_⟩
  refine wpAny_Call_Name_kw (ld_blt I hgl hm boot_any ?_)
  refine PyProof.Rows.callWith_builtin1 ?_ hse (by rfl)
  rw [hse]
  show wpAny _ _ (spliced ((false, eval (gexp elt tg iter scope gpos) X.env) :: backTo pos (starEach [] X.env))) _ _ s
  refine Calls.spliced_cons (gen_made (stop := true) hr TB hcode S hfree hjs hi hg he hs I h fun code C it ga go gn n fp tn s2 s5 H2 H5 W hgo hga st lv => ?_)
  refine Calls.spliced_nil ?_
  refine call_function_tree F.kind_any F.plain_any F.entry_any (F.args_any1 _) ?_
  unfold Builtin.«any»
  refine wpAny_bind (m := oneArg "any" _) (wpAny_pure ?_)
  refine wpAny_bind (wpAny_pyIter_gen (hgo s5 hga) ?_)
  refine wpAny_pure ⟨plainId_quiet F.plain_any_loop _, ?_⟩
  exact any_loop (Qb := fun b H' => Q (.bl b) H') hr hgo rfl (fun b σ' H' s' Ig _ q => ⟨.bl b, H', lv σ' H' s' Ig, rfl, q⟩) n H5 s5 st
end
end GA
set_option Elab.async false
set_option linter.all false
set_option maxRecDepth 100000
set_option maxHeartbeats 2000000
/-! own words, 2: heaps that go on, data at any depth with empty dicts, isinstance of data -/
namespace SL
open PySem PySem.Spec PyProof.Rows L2 GxR NdefX GA

/-- the code tables that the law's defs have -/
def Tabs (T : List Addr) (H : Hp) : Prop := ∀ P ∈ T, TabG H P
/-- from H on: what was tracked stands but at M; the tables grow -/
structure Go (T M : List Addr) (H H' : Hp) : Prop where
  gr : ∀ b o, H b = some o → b ∉ M → (∀ ps, o ≠ .tbl ps) → H' b = some o
  al : ∀ b, H' b = none → H b = none
  tb : Tabs T H → Tabs T H'
section
variable {T M M' : List Addr} {H H1 H2 : Hp} {p : Addr} {o : HO}
theorem Go.refl : Go T M H H := ⟨fun _ _ e _ _ => e, fun _ e => e, fun t => t⟩
theorem Go.trans (a : Go T M H H1) (b : Go T M H1 H2) : Go T M H H2 := ⟨fun c o e n t => b.gr c o (a.gr c o e n t) n t, fun c e => a.al c (b.al c e), fun t => b.tb (a.tb t)⟩
theorem Go.more (a : Go T M H H1) (h : ∀ b ∈ M, b ∈ M') : Go T M' H H1 := ⟨fun c o e n t => a.gr c o e (fun z => n (h c z)) t, a.al, a.tb⟩
theorem Go.of0 (a : Go T [] H H1) : Go T M H H1 := a.more fun _ h => by simp at h
theorem Tabs.new (t : Tabs T H) (h : H p = none) : Tabs T (upd H p o) := fun P hP => by
  obtain ⟨ps, e, r⟩ := t P hP
  exact ⟨ps, by rw [upd_ne (ne_of_none e h)]; exact e, r⟩
theorem Go.new (h : H p = none) : Go T M H (upd H p o) := ⟨fun b u e _ _ => by rw [upd_ne (ne_of_none e h)]; exact e, fun b e => upd_none e, fun t => t.new h⟩
theorem Go.set {u : HO} (h : H p = some u) (hu : ∀ ps, u ≠ .tbl ps) (hm : p ∈ M) : Go T M H (upd H p o) :=
  ⟨fun b v e n _ => by rw [upd_ne (fun z => n (by rw [z]; exact hm))]; exact e, fun b e => upd_none e, fun t P hP => by
    obtain ⟨ps, e, r⟩ := t P hP
    exact ⟨ps, by rw [upd_ne (ne_of e h (fun z => hu ps z.symm))]; exact e, r⟩⟩
theorem Go.tbd {P : Addr} (t : TabG H P) (x : Tabbed P H H1) : Go T M H H1 := by
  obtain ⟨ps, e, r⟩ := t
  refine ⟨fun b o hb _ hn => ?_, fun b hb => ?_, fun z Q hQ => ?_⟩
  · by_cases h : b = P
    · rw [h, e] at hb
      exact absurd (Option.some.inj hb).symm (hn ps)
    · rw [x.2 b h]; exact hb
  · by_cases h : b = P
    · obtain ⟨ps', e', _⟩ := x.1
      rw [h, e'] at hb
      cases hb
    · rw [← x.2 b h]; exact hb
  · by_cases h : Q = P
    · rw [h]; exact x.1
    · obtain ⟨qs, e1, e2⟩ := z Q hQ
      exact ⟨qs, by rw [x.2 Q h]; exact e1, e2⟩
theorem Go.over {u : HO} (g : Go T M H H1) (n : H p = none) (e : H1 p = some u) (hu : ∀ ps, u ≠ .tbl ps) : Go T M H (upd H1 p o) :=
  ⟨fun b v h m t => by rw [upd_ne (ne_of_none h n)]; exact g.gr b v h m t, fun b h => g.al b (upd_none h), fun t => (Go.set (M := [p]) e hu (by simp)).tb (g.tb t)⟩
theorem Go.lst {xs : List V} {a : Addr} (g : Go T M H H1) (h : H a = some (.lst xs)) (n : a ∉ M) : H1 a = some (.lst xs) := g.gr a _ h n fun _ z => by cases z
theorem Go.tup {xs : List V} {a : Addr} (g : Go T M H H1) (h : H a = some (.tup xs)) (n : a ∉ M) : H1 a = some (.tup xs) := g.gr a _ h n fun _ z => by cases z
theorem Go.sqT {K : PySem.W.Frag} {xs : List V} {a : Addr} (g : Go T [] H H1) (h : SqT K H a xs) : SqT K H1 a xs := by
  rcases h with (h | ⟨o, h⟩) | h
  · exact .inl (.inl (g.gr a _ h (by simp) fun _ z => by cases z))
  · exact .inl (.inr ⟨o, g.gr a _ h (by simp) fun _ z => by cases z⟩)
  · exact .inr h
theorem Go.sqL {K : PySem.W.Frag} {xs : List V} {a : Addr} (g : Go T [] H H1) (h : SqL K H a xs) : SqL K H1 a xs := by
  rcases h with (h | ⟨o, h⟩) | h
  · exact .inl (.inl (g.gr a _ h (by simp) fun _ z => by cases z))
  · exact .inl (.inr ⟨o, g.gr a _ h (by simp) fun _ z => by cases z⟩)
  · exact .inr h
end

mutual
/-- the value v bears the data d; none of it stands at M -/
inductive Dv (M : List Addr) (H : Hp) : V → PyData → Prop
  | non : Dv M H .non .none
  | bl (b : Bool) : Dv M H (.bl b) (.bool b)
  | int (i : Int) : Dv M H (.int i) (.int i)
  | str (x : Str) : Dv M H (.str x) (.str x)
  | lst {a : Addr} {xs : List V} {ds : List PyData} : H a = some (.lst xs) → a ∉ M → DvAll M H xs ds → Dv M H (.ref a) (.list ds)
  | tup {a : Addr} {xs : List V} {ds : List PyData} : H a = some (.tup xs) → a ∉ M → DvAll M H xs ds → Dv M H (.ref a) (.tuple ds)
  | dct {a : Addr} : H a = some (.dK []) → a ∉ M → Dv M H (.ref a) (.dict [])
inductive DvAll (M : List Addr) (H : Hp) : List V → List PyData → Prop
  | nil : DvAll M H [] []
  | cons {v : V} {vs : List V} {d : PyData} {ds : List PyData} : Dv M H v d → DvAll M H vs ds → DvAll M H (v :: vs) (d :: ds)
end
section
variable {T M M' : List Addr} {H H1 H2 : Hp} {p : Addr} {o : HO}
mutual
theorem Dv.map (g : ∀ b o, H b = some o → b ∉ M → (∀ ps, o ≠ .tbl ps) → H1 b = some o ∧ b ∉ M') : ∀ {v : V} {d : PyData}, Dv M H v d → Dv M' H1 v d
  | _, _, .non => .non
  | _, _, .bl b => .bl b
  | _, _, .int i => .int i
  | _, _, .str x => .str x
  | _, _, .lst e n r => .lst (g _ _ e n fun _ z => by cases z).1 (g _ _ e n fun _ z => by cases z).2 (DvAll.map g r)
  | _, _, .tup e n r => .tup (g _ _ e n fun _ z => by cases z).1 (g _ _ e n fun _ z => by cases z).2 (DvAll.map g r)
  | _, _, .dct e n => .dct (g _ _ e n fun _ z => by cases z).1 (g _ _ e n fun _ z => by cases z).2
theorem DvAll.map (g : ∀ b o, H b = some o → b ∉ M → (∀ ps, o ≠ .tbl ps) → H1 b = some o ∧ b ∉ M') : ∀ {vs : List V} {ds : List PyData}, DvAll M H vs ds → DvAll M' H1 vs ds
  | _, _, .nil => .nil
  | _, _, .cons h t => .cons (Dv.map g h) (DvAll.map g t)
end
theorem Dv.go {v : V} {d : PyData} (h : Dv M H v d) (g : Go T M H H1) : Dv M H1 v d := h.map fun b o e n t => ⟨g.gr b o e n t, n⟩
theorem DvAll.go {v : List V} {d : List PyData} (h : DvAll M H v d) (g : Go T M H H1) : DvAll M H1 v d := h.map fun b o e n t => ⟨g.gr b o e n t, n⟩
theorem Dv.less {v : V} {d : PyData} (h : Dv M H v d) (s : ∀ b ∈ M', b ∈ M) : Dv M' H v d := h.map fun b o e n _ => ⟨e, fun z => n (s b z)⟩
theorem DvAll.less {v : List V} {d : List PyData} (h : DvAll M H v d) (s : ∀ b ∈ M', b ∈ M) : DvAll M' H v d := h.map fun b o e n _ => ⟨e, fun z => n (s b z)⟩
/-- a new object is kept apart from now on -/
theorem Dv.hide {v : V} {d : PyData} (h : Dv M H v d) (hp : H p = none) : Dv (p :: M) H v d := h.map fun b o e n _ => ⟨e, fun z => (List.mem_cons.mp z).elim (fun y => by rw [y, hp] at e; cases e) n⟩
theorem DvAll.hide {v : List V} {d : List PyData} (h : DvAll M H v d) (hp : H p = none) : DvAll (p :: M) H v d := h.map fun b o e n _ => ⟨e, fun z => (List.mem_cons.mp z).elim (fun y => by rw [y, hp] at e; cases e) n⟩

theorem DvAll.length : ∀ {xs : List V} {ds : List PyData}, DvAll M H xs ds → xs.length = ds.length
  | _, _, .nil => rfl
  | _, _, .cons _ t => by rw [List.length_cons, List.length_cons, DvAll.length t]
theorem DvAll.append : ∀ {xs ys : List V} {ds es : List PyData}, DvAll M H xs ds → DvAll M H ys es → DvAll M H (xs ++ ys) (ds ++ es)
  | _, _, _, _, .nil, s => s
  | _, _, _, _, .cons r t, s => .cons r (DvAll.append t s)
theorem DvAll.take : ∀ {xs : List V} {ds : List PyData} (n : Nat), DvAll M H xs ds → DvAll M H (xs.take n) (ds.take n)
  | _, _, 0, _ => .nil
  | _, _, _ + 1, .nil => .nil
  | _, _, n + 1, .cons r t => .cons r (DvAll.take n t)
theorem DvAll.drop : ∀ {xs : List V} {ds : List PyData} (n : Nat), DvAll M H xs ds → DvAll M H (xs.drop n) (ds.drop n)
  | _, _, 0, r => r
  | _, _, _ + 1, .nil => .nil
  | _, _, n + 1, .cons _ t => DvAll.drop n t
theorem DvAll.get : ∀ {xs : List V} {ds : List PyData} {i : Nat} {x : V}, DvAll M H xs ds → xs[i]? = some x → ∃ d, ds[i]? = some d ∧ Dv M H x d
  | _, _, _, _, .nil, e => by simp at e
  | _, _, 0, _, .cons r _, e => by simp at e; subst e; exact ⟨_, rfl, r⟩
  | _, _, i + 1, x, .cons _ t, e => by
    obtain ⟨u, h1, h2⟩ := DvAll.get (i := i) (x := x) t (by simpa using e)
    exact ⟨u, by simpa using h1, h2⟩
theorem DvAll.getD : ∀ {xs : List V} {ds : List PyData} {i : Nat} {d : PyData}, DvAll M H xs ds → ds[i]? = some d → ∃ x, xs[i]? = some x ∧ Dv M H x d
  | _, _, _, _, .nil, e => by simp at e
  | _, _, 0, _, .cons r _, e => by simp at e; subst e; exact ⟨_, rfl, r⟩
  | _, _, i + 1, x, .cons _ t, e => by
    obtain ⟨u, h1, h2⟩ := DvAll.getD (i := i) (d := x) t (by simpa using e)
    exact ⟨u, by simpa using h1, h2⟩
theorem DvAll.strs : ∀ (xs : List Str), DvAll M H (xs.map V.str) (xs.map PyData.str)
  | [] => .nil
  | x :: r => .cons (.str x) (DvAll.strs r)
theorem DvAll.of_strs : ∀ {vs : List V} {xs : List Str}, DvAll M H vs (xs.map PyData.str) → vs = xs.map V.str
  | [], [], _ => rfl
  | _ :: _, _ :: _, .cons h t => by
    cases h
    rw [DvAll.of_strs t] <;> rfl
theorem DvAll.ints : ∀ (xs : List Int), DvAll M H (xs.map V.int) (xs.map PyData.int)
  | [] => .nil
  | x :: r => .cons (.int x) (DvAll.ints r)
/-- the slices' bounds -/
theorem DvAll.cut {xs : List V} {ds : List PyData} (h : DvAll M H xs ds) (lo hi : Option Int) : DvAll M H (cutV xs lo hi) ((ds.drop (HT.sIx ds.length 0 lo)).take (HT.sIx ds.length ds.length hi - HT.sIx ds.length 0 lo)) := by
  unfold cutV
  rw [h.length]
  exact (h.drop _).take _
end

/-! ### isinstance -/
def tyN : PyData → String
  | .none => "NoneType"
  | .bool _ => "bool"
  | .int _ => "int"
  | .str _ => "str"
  | .list _ => "list"
  | .tuple _ => "tuple"
  | .dict _ => "dict"
section
variable {K : PySem.W.Frag} {M : List Addr} {H : Hp} {v : V} {d : PyData} {Q : VK}
theorem Dv.ty (h : Dv M H v d) : TyX K H v (.type (tyN d)) := by
  cases h with
  | non => exact .base .non
  | bl b => exact .base (.bl b)
  | int i => exact .base (.int i)
  | str x => exact .base (.str x)
  | lst e _ _ => exact .base (.lst e)
  | tup e _ _ => exact .base (.tup e)
  | dct e _ => exact .base (.dK e)
def isTuple : PyData → Bool
  | .tuple _ => true
  | _ => false
def isStr : PyData → Bool
  | .str _ => true
  | _ => false
def isInt : PyData → Bool
  | .int _ => true
  | .bool _ => true
  | _ => false
def isBool : PyData → Bool
  | .bool _ => true
  | _ => false
theorem isi_of {T : String} {b : Bool} (h : Dv M H v d) (k : kitB (tyN d) T = some b) (q : Q (.bl b) H) : rIsi K [v, .ty T] H Q := ⟨v, .ty T, _, .type T, b, rfl, .ty T, h.ty, kit_ty k, q⟩
theorem isi_tuple (h : Dv M H v d) (q : Q (.bl (isTuple d)) H) : rIsi K [v, .ty "tuple"] H Q := by
  refine isi_of h ?_ q
  cases d <;> first
    | exact (by decide +kernel : kitB "NoneType" "tuple" = some false)
    | exact (by decide +kernel : kitB "bool" "tuple" = some false)
    | exact (by decide +kernel : kitB "int" "tuple" = some false)
    | exact (by decide +kernel : kitB "str" "tuple" = some false)
    | exact (by decide +kernel : kitB "list" "tuple" = some false)
    | exact (by decide +kernel : kitB "tuple" "tuple" = some true)
    | exact (by decide +kernel : kitB "dict" "tuple" = some false)
theorem isi_str (h : Dv M H v d) (q : Q (.bl (isStr d)) H) : rIsi K [v, .ty "str"] H Q := by
  refine isi_of h ?_ q
  cases d <;> first
    | exact (by decide +kernel : kitB "NoneType" "str" = some false)
    | exact (by decide +kernel : kitB "bool" "str" = some false)
    | exact (by decide +kernel : kitB "int" "str" = some false)
    | exact (by decide +kernel : kitB "str" "str" = some true)
    | exact (by decide +kernel : kitB "list" "str" = some false)
    | exact (by decide +kernel : kitB "tuple" "str" = some false)
    | exact (by decide +kernel : kitB "dict" "str" = some false)
theorem isi_int (h : Dv M H v d) (q : Q (.bl (isInt d)) H) : rIsi K [v, .ty "int"] H Q := by
  refine isi_of h ?_ q
  cases d <;> first
    | exact (by decide +kernel : kitB "NoneType" "int" = some false)
    | exact (by decide +kernel : kitB "bool" "int" = some true)
    | exact (by decide +kernel : kitB "int" "int" = some true)
    | exact (by decide +kernel : kitB "str" "int" = some false)
    | exact (by decide +kernel : kitB "list" "int" = some false)
    | exact (by decide +kernel : kitB "tuple" "int" = some false)
    | exact (by decide +kernel : kitB "dict" "int" = some false)
theorem isi_bool (h : Dv M H v d) (q : Q (.bl (isBool d)) H) : rIsi K [v, .ty "bool"] H Q := by
  refine isi_of h ?_ q
  cases d <;> first
    | exact (by decide +kernel : kitB "NoneType" "bool" = some false)
    | exact (by decide +kernel : kitB "bool" "bool" = some true)
    | exact (by decide +kernel : kitB "int" "bool" = some false)
    | exact (by decide +kernel : kitB "str" "bool" = some false)
    | exact (by decide +kernel : kitB "list" "bool" = some false)
    | exact (by decide +kernel : kitB "tuple" "bool" = some false)
    | exact (by decide +kernel : kitB "dict" "bool" = some false)
end
end SL
set_option Elab.async false
set_option linter.all false
set_option maxRecDepth 100000
set_option maxHeartbeats 2000000
/-! own words, 3: a def as its callers know it; the built-ins' names -/
namespace SL
open PySem PySem.Spec PyProof.Rows L2 GxR NdefX GA

/-- a def as its callers know it -/
structure Fnn (P : Program) (w : World) (K : PySem.W.Frag) (mg : Str → Option Value) (base : Heap) (CX : CXT) (k : Nat) (x : Str) (ps : List Str) (sp : Sp) : Prop where
  ex : ∃ (f : Addr) (fd : FuncData), FnOk P w K mg base CX k f fd ps sp ∧ mg x = some (.ref f) ∧ PySem.W.keepIn K (.ref f) = true ∧ Binds K fd ps []
/-- .. and by keywords -/
structure Fnk (P : Program) (w : World) (K : PySem.W.Frag) (mg : Str → Option Value) (base : Heap) (CX : CXT) (k : Nat) (x : Str) (ps ks : List Str) (g : List V → List V → List V) (sp : Sp) : Prop where
  ex : ∃ (f : Addr) (fd : FuncData) (gu : List Value → List Value → List Value), FnOk P w K mg base CX k f fd ps sp ∧ mg x = some (.ref f) ∧ PySem.W.keepIn K (.ref f) = true ∧ KBinds K fd ps ks gu g
section
variable {X : Cx} {CX : CXT} {k j : Nat} {x : Str} {ps ks : List Str} {sp : Sp} {e : Expr} {es : List Expr} {t tk : TA} {p pos : Pos} {E : XK}
theorem pe_fn (F : Fnn X.prog X.w X.K X.mg X.base CX k x ps sp) (hr : Room j X.A) (hk : k ≤ j) (hx : Passes CX X E) (ha : PA X (e :: es) t) (hg : Gl X x := by rfl) (hdb : (x == ("__debug__" : Str)) = false := by decide)
    (he : starEach (e :: es) X.env = (false, eval e X.env) :: starEach es X.env := by rfl) (hpl : (backTo pos (starEach es X.env)).any (·.1) = false := by rfl) : PE X (.Call (.Name x p) (e :: es) [] pos) (tCall sp [] E t) := by
  obtain ⟨f, fd, G, m, kp, b⟩ := F.ex
  exact pe_call G (hr.mono hk) hg m kp b .nil hx ha hdb he hpl
theorem pe_fn0 (F : Fnn X.prog X.w X.K X.mg X.base CX k x ps sp) (hr : Room j X.A) (hk : k ≤ j) (hx : Passes CX X E) (hg : Gl X x := by rfl) (hdb : (x == ("__debug__" : Str)) = false := by decide) : PE X (.Call (.Name x p) [] [] pos) (tCall sp [] E tNil) := by
  obtain ⟨f, fd, G, m, kp, b⟩ := F.ex
  exact pe_call0 G (hr.mono hk) hg m kp b .nil hx hdb
end

/-- no module name hides a built-in that is used -/
structure Bl (mg : Str → Option Value) : Prop where
  isinst : mg "isinstance" = none
  len : mg "len" = none
  all : mg "all" = none
  any : mg "any" = none
  set : mg "set" = none
  range : mg "range" = none
  tuple : mg "tuple" = none
  list : mg "list" = none
  int : mg "int" = none
  str : mg "str" = none
  bool : mg "bool" = none
  repr : mg "repr" = none
section
variable {X : Cx} {a : Expr} {ta : TE} {p q pos : Pos}
/-- isinstance(a, T) of data -/
def rIsiD (T : String) (g : PyData → Bool) : List V → Hp → VK → Prop := fun xs H Q => ∃ (x : V) (M : List Addr) (d : PyData), xs = [x, .ty T] ∧ Dv M H x d ∧ Q (.bl (g d)) H
theorem call_isi_tuple : CallR X (.builtin "isinstance") (rIsiD "tuple" isTuple) := fun pins s σ H xs us Q I r ⟨x, M, d, e, h, q⟩ => call_isi pins s σ H xs us Q I r (by rw [e]; exact isi_tuple h q)
theorem call_isi_str : CallR X (.builtin "isinstance") (rIsiD "str" isStr) := fun pins s σ H xs us Q I r ⟨x, M, d, e, h, q⟩ => call_isi pins s σ H xs us Q I r (by rw [e]; exact isi_str h q)
theorem call_isi_int : CallR X (.builtin "isinstance") (rIsiD "int" isInt) := fun pins s σ H xs us Q I r ⟨x, M, d, e, h, q⟩ => call_isi pins s σ H xs us Q I r (by rw [e]; exact isi_int h q)
theorem call_isi_bool : CallR X (.builtin "isinstance") (rIsiD "bool" isBool) := fun pins s σ H xs us Q I r ⟨x, M, d, e, h, q⟩ => call_isi pins s σ H xs us Q I r (by rw [e]; exact isi_bool h q)
theorem pe_isi_tuple (B : Bl X.mg) (ha : PE X a ta) (h1 : Gl X "isinstance" := by rfl) (h2 : Gl X "tuple" := by rfl)
    (he : starEach (a :: [.Name "tuple" q]) X.env = (false, eval a X.env) :: starEach [.Name "tuple" q] X.env := by rfl) : PE X (.Call (.Name "isinstance" p) [a, .Name "tuple" q] [] pos) (tCB (rIsiD "tuple" isTuple) (tCons ta (tCons (tC (.ty "tuple")) tNil))) :=
  pe_callB call_isi_tuple h1 B.isinst (by decide +kernel) (pa_cons ha (pa_cons (pe_bltn (v := .ty "tuple") h2 B.tuple (by decide +kernel) rfl) pa_nil) he) (by decide) (by decide) he
theorem pe_isi_str (B : Bl X.mg) (ha : PE X a ta) (h1 : Gl X "isinstance" := by rfl) (h2 : Gl X "str" := by rfl)
    (he : starEach (a :: [.Name "str" q]) X.env = (false, eval a X.env) :: starEach [.Name "str" q] X.env := by rfl) : PE X (.Call (.Name "isinstance" p) [a, .Name "str" q] [] pos) (tCB (rIsiD "str" isStr) (tCons ta (tCons (tC (.ty "str")) tNil))) :=
  pe_callB call_isi_str h1 B.isinst (by decide +kernel) (pa_cons ha (pa_cons (pe_bltn (v := .ty "str") h2 B.str (by decide +kernel) rfl) pa_nil) he) (by decide) (by decide) he
theorem pe_isi_int (B : Bl X.mg) (ha : PE X a ta) (h1 : Gl X "isinstance" := by rfl) (h2 : Gl X "int" := by rfl)
    (he : starEach (a :: [.Name "int" q]) X.env = (false, eval a X.env) :: starEach [.Name "int" q] X.env := by rfl) : PE X (.Call (.Name "isinstance" p) [a, .Name "int" q] [] pos) (tCB (rIsiD "int" isInt) (tCons ta (tCons (tC (.ty "int")) tNil))) :=
  pe_callB call_isi_int h1 B.isinst (by decide +kernel) (pa_cons ha (pa_cons (pe_bltn (v := .ty "int") h2 B.int (by decide +kernel) rfl) pa_nil) he) (by decide) (by decide) he
theorem pe_isi_bool (B : Bl X.mg) (ha : PE X a ta) (h1 : Gl X "isinstance" := by rfl) (h2 : Gl X "bool" := by rfl)
    (he : starEach (a :: [.Name "bool" q]) X.env = (false, eval a X.env) :: starEach [.Name "bool" q] X.env := by rfl) : PE X (.Call (.Name "isinstance" p) [a, .Name "bool" q] [] pos) (tCB (rIsiD "bool" isBool) (tCons ta (tCons (tC (.ty "bool")) tNil))) :=
  pe_callB call_isi_bool h1 B.isinst (by decide +kernel) (pa_cons ha (pa_cons (pe_bltn (v := .ty "bool") h2 B.bool (by decide +kernel) rfl) pa_nil) he) (by decide) (by decide) he
/-- len of a list or tuple; of a text -/
theorem pe_lenq (B : Bl X.mg) (ha : PE X a ta) (h1 : Gl X "len" := by rfl) (he : starEach (a :: []) X.env = (false, eval a X.env) :: starEach [] X.env := by rfl) : PE X (.Call (.Name "len" p) [a] [] pos) (tCB (fun xs H Q => ∃ p ys, xs = [.ref p] ∧ (SqL X.K H p ys ∨ SqT X.K H p ys) ∧ Q (.int ys.length) H) (tCons ta tNil)) :=
  pe_callB call_len_seq h1 B.len PySem.boot_len (pa_cons ha pa_nil he) (by decide) (by decide) he
theorem pe_lens (B : Bl X.mg) (ha : PE X a ta) (h1 : Gl X "len" := by rfl) (he : starEach (a :: []) X.env = (false, eval a X.env) :: starEach [] X.env := by rfl) : PE X (.Call (.Name "len" p) [a] [] pos) (tCB (fun xs H Q => ∃ z, xs = [.str z] ∧ z.length ≤ sizeLine ∧ Q (.int z.length) H) (tCons ta tNil)) :=
  pe_callB call_len_str h1 B.len PySem.boot_len (pa_cons ha pa_nil he) (by decide) (by decide) he
end
theorem if_true_of {c : Bool} {A B : Prop} (hc : c = true) (h : A) : if c = true then A else B := by
  rw [if_pos hc]
  exact h
theorem if_false_of {c : Bool} {A B : Prop} (hc : c = false) (h : B) : if c = true then A else B := by
  rw [hc, if_neg Bool.false_ne_true]
  exact h
theorem sz {n : Nat} (h : n ≤ 16777216) : n ≤ sizeLine := by rw [sizeLine_eq]; exact h
end SL
set_option Elab.async false
set_option linter.all false
set_option maxRecDepth 100000
set_option maxHeartbeats 4000000
/-! own words, 4: how many unlike texts a list has: len(set(xs)) -/
namespace SL
open PySem PySem.Spec PyProof.Rows L2 GxR NdefX GA

def uniq (l : List Str) : List Str := l.foldl (fun acc x => if x ∈ acc then acc else acc ++ [x]) []
theorem uniq_snoc (l : List Str) (x : Str) : uniq (l ++ [x]) = if x ∈ uniq l then uniq l else uniq l ++ [x] := by
  unfold uniq
  rw [List.foldl_append] <;> rfl
theorem mem_uniq {x : Str} : ∀ {l : List Str}, x ∈ uniq l ↔ x ∈ l := by
  have key : ∀ (l : List Str) (acc : List Str), x ∈ l.foldl (fun acc x => if x ∈ acc then acc else acc ++ [x]) acc ↔ x ∈ acc ∨ x ∈ l := by
    intro l
    induction l with
    | nil => intro acc; simp
    | cons y r ih =>
      intro acc
      rw [List.foldl_cons, ih]
      by_cases h : y ∈ acc
      · rw [if_pos h]
        constructor
        · rintro (h1 | h1)
          · exact .inl h1
          · exact .inr (List.mem_cons_of_mem _ h1)
        · rintro (h1 | h1)
          · exact .inl h1
          · rcases List.mem_cons.mp h1 with rfl | h1
            · exact .inl h
            · exact .inr h1
      · rw [if_neg h, List.mem_append, List.mem_singleton, List.mem_cons]
        constructor
        · rintro ((h1 | h1) | h1)
          · exact .inl h1
          · exact .inr (.inl h1)
          · exact .inr (.inr h1)
        · rintro (h1 | h1 | h1)
          · exact .inl (.inl h1)
          · exact .inl (.inr h1)
          · exact .inr h1
  intro l
  have := key l []
  simpa [uniq] using this
theorem uniq_le : ∀ l : List Str, (uniq l).length ≤ l.length := by
  have key : ∀ (l acc : List Str), (l.foldl (fun acc x => if x ∈ acc then acc else acc ++ [x]) acc).length ≤ acc.length + l.length := by
    intro l
    induction l with
    | nil => intro acc; simp
    | cons y r ih =>
      intro acc
      rw [List.foldl_cons]
      refine Nat.le_trans (ih _) ?_
      split
      · simp only [List.length_cons]; omega
      · simp only [List.length_append, List.length_cons, List.length_nil]; omega
  intro l
  simpa [uniq] using key l []
theorem nodup_uniq : ∀ l : List Str, (uniq l).Nodup := by
  have key : ∀ (l acc : List Str), acc.Nodup → (l.foldl (fun acc x => if x ∈ acc then acc else acc ++ [x]) acc).Nodup := by
    intro l
    induction l with
    | nil => intro acc h; exact h
    | cons y r ih =>
      intro acc h
      rw [List.foldl_cons]
      refine ih _ ?_
      split
      · exact h
      · rename_i hn
        refine List.nodup_append.mpr ⟨h, by simp, fun a ha b hb => ?_⟩
        rw [List.mem_singleton.mp hb]
        exact fun e => hn (e ▸ ha)
  intro l
  exact key l [] (by simp)
/-- all are unlike exactly if as many are counted -/
theorem uniq_len {l : List Str} : (uniq l).length = l.length ↔ l.Nodup := by
  have key : ∀ (l acc : List Str), acc.Nodup → ((l.foldl (fun acc x => if x ∈ acc then acc else acc ++ [x]) acc).length = acc.length + l.length ↔ (acc ++ l).Nodup) := by
    intro l
    induction l with
    | nil => intro acc h; simpa using h
    | cons y r ih =>
      intro acc h
      rw [List.foldl_cons]
      by_cases hy : y ∈ acc
      · rw [if_pos hy]
        have z : (r.foldl (fun acc x => if x ∈ acc then acc else acc ++ [x]) acc).length ≤ acc.length + r.length := by
          have key2 : ∀ (l acc : List Str), (l.foldl (fun acc x => if x ∈ acc then acc else acc ++ [x]) acc).length ≤ acc.length + l.length := by
            intro l
            induction l with
            | nil => intro acc; simp
            | cons y r ih =>
              intro acc
              rw [List.foldl_cons]
              refine Nat.le_trans (ih _) ?_
              split
              · simp only [List.length_cons]; omega
              · simp only [List.length_append, List.length_cons, List.length_nil]; omega
          exact key2 r acc
        constructor
        · intro e
          rw [List.length_cons] at e
          omega
        · intro nd
          have := (List.nodup_append.mp nd).2.2 y hy y List.mem_cons_self
          exact absurd rfl this
      · rw [if_neg hy]
        have nd' : (acc ++ [y]).Nodup := List.nodup_append.mpr ⟨h, by simp, fun a ha b hb => by rw [List.mem_singleton.mp hb]; exact fun e => hy (e ▸ ha)⟩
        have := ih (acc ++ [y]) nd'
        rw [List.length_append, List.length_singleton, List.append_assoc, List.singleton_append] at this
        rw [List.length_cons, ← this]
        constructor <;> intro e <;> omega
  have := key l [] (by simp)
  simpa [uniq] using this

section
variable {prog : Program} {w : World} {A : Around} {R : Result → Shared → Prop} {I : Addr} {fp wr : List Addr} {G : Array GenState → Array GenState → Prop} {n : Nat} {P : Nat → Value → Prop} {St : Nat → Shared → Prop}
/-- each text of the walk is put into the set at S -/
theorem loop_strs (W : WalksS prog w A.in1 I fp wr G n P St) (S : Addr) (hSf : S ∉ fp) (xs : List Str) (hsz : xs.length = n) (hn1 : n + 2 < scanBound)
    (hval : ∀ i v, P i v → ∃ t, v = .str (xs.getD i Str.empty) t) :
    ∀ (k i : Nat) (s : Shared), n - i = k → i ≤ n → St i s →
      s.heap.SetOf (PySem.strKind prog w) S (fun q => decide (q ∈ xs.take i)) (uniq (xs.take i)).length →
      (∀ s', Moved (S :: wr) G s s' → s'.heap.SetOf (PySem.strKind prog w) S (fun q => decide (q ∈ xs)) (uniq xs).length → R (.ok (.ret .none)) s') →
      codeAny (model prog w) A (.builtin "set.update.loop" ⟨[.ref S, .ref I], []⟩) R s := by
  have hSw : S ∉ wr := fun h => hSf (W.sub _ h)
  have up : ∀ b ∈ wr, b ∈ S :: wr := fun b hb => List.mem_cons_of_mem _ hb
  have still : ∀ {s s' : Shared} {q : Str → Bool} {m : Nat}, Moved wr G s s' → s.heap.SetOf (PySem.strKind prog w) S q m → s'.heap.SetOf (PySem.strKind prog w) S q m := fun hm ⟨o, es, ep, t, ho, r⟩ => ⟨o, es, ep, t, hm.heap S _ hSw ho, r⟩
  intro k
  induction k with
  | zero =>
    intro i s hk hi hst hS hR
    have hin : i = n := by omega
    subst hin
    rw [List.take_of_length_le (by omega)] at hS
    refine codeAny_builtin PyProof.Rows.F.entry_set_update_loop ?_
    rw [Around.under_plainId PyProof.Rows.F.plain_set_update_loop _]
    show wpAny _ A.in1 (pyNext (.ref I) >>= _) _ _ s
    exact wpAny_bind (W.done s _ _ hst fun s' hm => wpAny_pure (hR s' (hm.mono up) (still hm hS)))
  | succ k ih =>
    intro i s hk hi hst hS hR
    have hlt : i < n := by omega
    have hlx : i < xs.length := by omega
    refine codeAny_builtin PyProof.Rows.F.entry_set_update_loop ?_
    rw [Around.under_plainId PyProof.Rows.F.plain_set_update_loop _]
    show wpAny _ A.in1 (pyNext (.ref I) >>= _) _ _ s
    refine wpAny_bind (W.item i s _ _ hlt hst fun v s' hP hst' hm => ?_)
    obtain ⟨t, rfl⟩ := hval i v hP
    have hS' := still hm hS
    show wpAny _ A.in1 (holding [Value.str (xs.getD i Str.empty) t] (setAdd S (.str (xs.getD i Str.empty) t)) >>= _) _ _ s'
    refine wpAny_bind (wpAny_holding ?_)
    unfold setAdd
    refine wpAny_holding (wpAny_bind ((PySem.strKind prog w).pyHash (k := xs.getD i Str.empty) (strKind_is _ _ _ _) ?_))
    have hcnt : (uniq (xs.take i)).length + 1 < scanBound := by
      have := uniq_le (xs.take i)
      rw [List.length_take] at this
      omega
    refine wpAny_setAddHashed_of (knd := PySem.strKind prog w) (s := { s' with toks := s'.toks + 1 }) (strKind_is _ _ _ _) rfl hS' hcnt fun h' hsb hS2 => ?_
    have et : xs.take (i + 1) = xs.take i ++ [xs.getD i Str.empty] := by
      rw [List.take_add_one, List.getD_eq_getElem?_getD, List.getElem?_eq_getElem hlx] <;> rfl
    have hSi : h'.SetOf (PySem.strKind prog w) S (fun q => decide (q ∈ xs.take (i + 1))) (uniq (xs.take (i + 1))).length := by
      refine SetOf_congr hS2 (fun q => ?_) ?_
      · rw [et]
        simp [List.mem_append]
      · rw [et, uniq_snoc]
        by_cases hm2 : xs.getD i Str.empty ∈ xs.take i
        · rw [if_pos (mem_uniq.mpr hm2), if_pos (decide_eq_true hm2)]
        · rw [if_neg (fun z => hm2 (mem_uniq.mp z)), if_neg (by simpa using hm2), List.length_append, List.length_singleton]
    refine wpAny_pure ⟨plainId_quiet PyProof.Rows.F.plain_set_update_loop _, ih (i + 1) _ (by omega) hlt (W.frame _ s' _ _ hst' (Nat.le_succ _) fun b hb o e => ?_) hSi fun s'' hm'' hS'' => ?_⟩
    · rw [hsb.2 b (fun h : b = S => hSf (by rw [← h]; exact hb))]; exact e
    · refine hR s'' (Moved.trans W.gtrans ((hm.mono up).then_heap (Nat.le_succ _) fun b o hb e => ?_) hm'') hS''
      rw [hsb.2 b (fun h : b = S => hb (by rw [h]; exact List.mem_cons_self))]; exact e
end

section
variable {prog : Program} {w : World} {A : Around} {E : Value → Shared → Prop} {s : Shared}
theorem set_of_strs {l : Addr} {items : Array Value} {xs : List Str} {Q : Value → Shared → Prop}
    (hh : A.handled = none) (hl : s.heap.IsList l items) (hi : PyProof.Rows.StrsAre items.toList xs) (hn1 : xs.length + 2 < scanBound)
    (h : ∀ (h' : Heap) (tk : Nat), h'.SetOf (PySem.strKind prog w) s.heap.objs.size (fun q => decide (q ∈ xs)) (uniq xs).length →
      (∀ b o, b < s.heap.objs.size → s.heap.get? b = some o → h'.get? b = some o) → Q (.ref s.heap.objs.size) { s with heap := h', toks := tk }) :
    wpAny (model prog w) A (call (.type "set") [.ref l]) Q E s := by
  obtain ⟨c, tl, hmro⟩ := PySem.F.called_set.mro
  have hmade := PySem.F.called_set.made
  have hsub := PySem.F.called_set.sub
  refine wpAny_call (codeAny_of_tree ?_)
  show wpAny _ _ (callAny (.type "set") _) _ _ _
  refine wpAny_pure ⟨Code.quiet_builtin _ (by decide +kernel), codeAny_builtin PySem.F.entry_type_call ?_⟩
  rw [Around.under_plain (weight_type_call_type "set" [.ref l] []) rfl]
  have h1 := PySem.F.called_set.notType
  have h2 := PySem.F.called_set.canCreate
  have hct := PySem.F.typeCall_set_1 (.ref l)
  repeat (any_goals (first | assumption | wp_step))
  refine codeAny_mono (code_set_new_1 (.ref l) (E := E) (Q₁ := fun obj s₁ => ∃ led : Bool, obj = .ref s.heap.objs.size ∧ s₁ = { s with heap := s.heap.push { cls := .type "set", dict := none, data := .set #[] 0 (.fresh 0 0 led) } }) fun led => ⟨led, rfl, rfl⟩) fun r s₁ hr => ?_
  cases r with
  | error e => exact hr
  | ok fl =>
    cases fl with
    | ret obj =>
      obtain ⟨led, rfl, rfl⟩ := hr
      generalize hso : ({ cls := .type "set", dict := none, data := .set #[] 0 (.fresh 0 0 led) } : Obj) = so
      have hS : (s.heap.push so).get? s.heap.objs.size = some so := Heap.get?_push_size _ (by rw [← hso] <;> rfl)
      have hT : Shared.TypeIs { s with heap := s.heap.push so } (.ref s.heap.objs.size) "set" := ⟨_, hS, by rw [← hso]⟩
      have hli := PySem.F.called_set.init.lookup
      have hbi := PySem.F.called_set.init.bind (.ref s.heap.objs.size)
      repeat (any_goals (first | assumption | wp_step))
      refine codeAny_mono (codeAny_call_builtin (R := wants (fun r s₂ => r = .none ∧ ∃ h' tk, s₂ = { s with heap := h', toks := tk } ∧
          h'.SetOf (PySem.strKind prog w) s.heap.objs.size (fun q => decide (q ∈ xs)) (uniq xs).length ∧
          (∀ b o, b < s.heap.objs.size → s.heap.get? b = some o → h'.get? b = some o)) E) PySem.F.called_set.init.plain PySem.F.entry_set_init (check_set_init_1 hT ?_)) fun r₂ s₂ hr₂ => ?_
      · obtain ⟨ol, hol, hcl, nl, hdl⟩ := hl
        obtain ⟨ocls, odict, odata, oslots⟩ := ol
        simp only at hcl hdl
        subst hcl; subst hdl
        subst hso
        have hol' : (s.heap.push { cls := .type "set", dict := none, data := .set #[] 0 (.fresh 0 0 led) }).get? l = some { cls := .type "list", dict := odict, data := .seq items nl, slots := oslots } := Heap.get?_push_of_some _ hol
        have hsls := PySem.F.sub_list_set
        have hslf := PySem.F.sub_list_frozenset
        have hne : (Value.type "list" == Value.type "dict") = false := by decide
        have hl1 : (s.heap.push { cls := .type "set", dict := none, data := .set #[] 0 (.fresh 0 0 led) }).IsList l items := ⟨_, hol', rfl, nl, rfl⟩
        unfold Builtin.«set.__init__» noKeywords Builtin.Frozenset.updateFrom
        generalize hPI : pyIter = PI
        wp_walk
        subst hPI
        refine wpAny_pyIter_list hl1 ?_
        refine wpAny_bind (wpAny_runValue ?_)
        have hlS : l < s.heap.objs.size := Heap.lt_size hol
        have hh3 : A.in1.in1.in1.handled = none := by simp [hh]
        have szp : ∀ o : Obj, (s.heap.push o).objs.size = s.heap.objs.size + 1 := fun o => Heap.size_push ..
        have hneI : l ≠ (s.heap.push { cls := .type "set", dict := none, data := .set #[] 0 (.fresh 0 0 led) }).objs.size := by
          rw [szp]; exact Nat.ne_of_lt (Nat.lt_succ_of_lt hlS)
        have hSf : s.heap.objs.size ∉ [(s.heap.push { cls := .type "set", dict := none, data := .set #[] 0 (.fresh 0 0 led) }).objs.size, l] := by
          rw [szp]; simp only [List.mem_cons, List.not_mem_nil, or_false, not_or]
          exact ⟨Nat.ne_of_lt (Nat.lt_succ_self _), Nat.ne_of_gt hlS⟩
        have hsz : xs.length = items.size := by rw [← StrsAre.len_eq hi, Array.length_toList]
        have hval : ∀ (i : Nat) (v : Value), items[i]? = some v → ∃ t, v = .str (xs.getD i Str.empty) t := fun i v hv => SS.strs_at hi i v (by rw [Array.getElem?_toList]; exact hv)
        refine loop_strs ((Walks.list hh3 _ l hneI items).toS) s.heap.objs.size
          hSf xs hsz (by rw [← hsz]; exact hn1) hval (items.size - 0) 0 _ (by omega) (Nat.zero_le _)
          ⟨⟨_, Heap.get?_push_size _ rfl, rfl, rfl⟩, (hl1.push _)⟩ ?hS0 ?hR
        case hS0 =>
          have hget : ((s.heap.push { cls := .type "set", dict := none, data := .set #[] 0 (.fresh 0 0 led) }).push { cls := .type "list_iterator", data := .fields #[.ref l, .int 0 0] }).get? s.heap.objs.size
              = some { cls := .type "set", dict := none, data := .set #[] 0 (.fresh 0 0 led) } := Heap.get?_push_of_some _ hS
          exact PyProof.Rows.SetOf_congr ((PyProof.Rows.setObjOf_fresh (knd := PySem.strKind prog w) led).setOf hget (by unfold scanBound; omega)) (fun _ => by simp) rfl
        case hR =>
          intro s' hm hS'
          obtain ⟨h', g', d', tk', os'⟩ := s'
          have eg : g' = s.gens := hm.gens
          have ed : d' = s.drawn := hm.drawn
          have eo : os' = s.os := hm.os
          subst eg; subst ed; subst eo
          show wpAny _ _ _ _ _ _
          refine wpAny_pure ?_
          show wpAny _ _ (ret Value.none) _ _ _
          refine wpAny_pure ⟨rfl, h', tk', rfl, hS', fun b o hb e => ?_⟩
          have hb1 : b ≠ s.heap.objs.size := Nat.ne_of_lt hb
          have hb2 : b ≠ (s.heap.push { cls := .type "set", dict := none, data := .set #[] 0 (.fresh 0 0 led) }).objs.size := by
            rw [szp]; exact Nat.ne_of_lt (Nat.lt_succ_of_lt hb)
          exact hm.heap b o (by simp only [List.mem_cons, List.not_mem_nil, or_false, not_or]; exact ⟨hb1, hb2⟩) (Heap.get?_push_of_some _ (Heap.get?_push_of_some _ e))
      · cases r₂ with
        | error e => exact hr₂
        | ok fl₂ =>
          cases fl₂ with
          | ret r =>
            obtain ⟨rfl, h', tk, rfl, hS', hk'⟩ := hr₂
            repeat (any_goals (first | assumption | wp_step))
            exact h _ _ hS' hk'
          | _ => exact hr₂.elim
    | _ => exact hr.elim
end

section
variable {X : Cx} {a : Expr} {ta : TE} {p p2 q pos : Pos}
/-- len(set(xs)), xs a list of texts -/
def tLenU (K : PySem.W.Frag) (ta : TE) : TE := fun σ H Q => ta σ H fun x H1 => ∃ (l : Addr) (xs : List Str), x = .ref l ∧ SqL K H1 l (xs.map V.str) ∧ xs.length ≤ 4000 ∧ Q (.int (uniq xs).length) H1
theorem pe_lenU (B : Bl X.mg) (ha : PE X a ta) (hc : X.calm = true := by rfl) (hg : Gl X "len" := by rfl) (hg2 : Gl X "set" := by rfl)
    (na : starEach [a] X.env = (false, eval a X.env) :: starEach [] X.env := by rfl) : PE X (.Call (.Name "len" p) [.Call (.Name "set" p2) [a] [] q] [] pos) (tLenU X.K ta) := by
  refine ⟨fun pins s σ H Q I h => ?_⟩
  refine Call_ (ld_blt I hg B.len boot_len ?_)
  refine PyProof.Rows.callWith_builtin1 (PyProof.Rows.args_cons ?_ rfl) rfl rfl
  refine Call_ (ld_blt I hg2 B.set boot_set ?_)
  refine PyProof.Rows.callWith_type1 (PyProof.Rows.args_cons (thn (ha.run pins s σ H _ I h) fun v s1 ⟨x, H1, I1, r1, l, xs, ex, hq, h1, q1⟩ => PyProof.Rows.args_nil ?_) na) na rfl
  subst ex
  cases r1
  obtain ⟨its, r, pl, hz⟩ := I1.list hq
  refine set_of_strs (I1.ok.hd hc) pl.isList (by simpa using strsAre_of r) (by unfold scanBound; omega) fun h' tk hS hk => ?_
  refine PyProof.Rows.args_nil ?_
  have hle := uniq_le xs
  obtain ⟨o, es, ep, t, ho, hex, hd, _, _, _, hf, hn⟩ := hS
  have I2 : Inv X pins σ H1 { s1 with heap := h', toks := tk } := I1.kept fun b o e => hk b o (Heap.lt_size e) e
  refine call_len_set ho hex hd hf (by rw [hn] <;> omega) ⟨.int (uniq xs).length, H1, I2.tok _, ⟨_, by rw [hn]⟩, q1⟩
end
end SL
set_option Elab.async false
set_option linter.all false
set_option maxRecDepth 100000
set_option maxHeartbeats 2000000
/-! own words, 5: the size of data (no less than its repr's), kinds as data -/
namespace SL
open PySem PySem.Spec PyProof.Rows L2 GxR NdefX GA
mutual
/-- no less than the signs of the repr -/
def wt : PyData → Nat
  | .none => 4
  | .bool _ => 5
  | .int i => (Str.ofString (toString i)).length + 4
  | .str x => 12 * x.length + 4
  | .list xs => wtAll xs + 4
  | .tuple xs => wtAll xs + 4
  | .dict kvs => 4 + 16777217 * kvs.length
def wtAll : List PyData → Nat
  | [] => 0
  | x :: xs => wt x + 2 + wtAll xs
end
theorem wtAll_append : ∀ (xs ys : List PyData), wtAll (xs ++ ys) = wtAll xs + wtAll ys
  | [], ys => by simp [wtAll]
  | x :: xs, ys => by
    have := wtAll_append xs ys
    simp only [List.cons_append, wtAll]
    omega
theorem wtAll_len : ∀ (xs : List PyData), 2 * xs.length ≤ wtAll xs
  | [] => by simp [wtAll]
  | x :: xs => by
    have := wtAll_len xs
    simp only [List.length_cons, wtAll]
    omega
theorem wtAll_take (xs : List PyData) (n : Nat) : wtAll (xs.take n) ≤ wtAll xs := by
  have := wtAll_append (xs.take n) (xs.drop n)
  rw [List.take_append_drop] at this
  omega
theorem wtAll_drop (xs : List PyData) (n : Nat) : wtAll (xs.drop n) ≤ wtAll xs := by
  have := wtAll_append (xs.take n) (xs.drop n)
  rw [List.take_append_drop] at this
  omega
theorem wt_get : ∀ {xs : List PyData} {i : Nat} {d : PyData}, xs[i]? = some d → wt d + 2 ≤ wtAll xs
  | [], _, _, h => by simp at h
  | x :: xs, 0, d, h => by
    simp at h
    subst h
    simp only [wtAll]
    omega
  | x :: xs, i + 1, d, h => by
    have := wt_get (xs := xs) (i := i) (d := d) (by simpa using h)
    simp only [wtAll]
    omega
theorem wt_mem {xs : List PyData} {d : PyData} (h : d ∈ xs) : wt d + 2 ≤ wtAll xs := by
  obtain ⟨i, hi⟩ := List.mem_iff_getElem?.mp h
  exact wt_get hi

/-! ### names as the document has them -/
def upC (c : Nat) : Bool := decide (65 ≤ c) && decide (c ≤ 90)
def loC (c : Nat) : Bool := decide (97 ≤ c) && decide (c ≤ 122)
def diC (c : Nat) : Bool := decide (48 ≤ c) && decide (c ≤ 57)
def anC (c : Nat) : Bool := upC c || loC c || diC c
def kept (x : Str) : Bool := decide (x = "fun") || decide (x = "kind") || decide (x = "number")
/-- a name -/
def nameS (x : Str) : Bool := decide (1 ≤ x.length) && decide (x.length ≤ 10) && x.cps.toList.all anC && (match x.cps.toList with | c :: _ => upC c || loC c | [] => false) && !kept x
def highS (x : Str) : Bool := nameS x && (match x.cps.toList with | c :: _ => upC c | [] => false)
def lowS (x : Str) : Bool := nameS x && (match x.cps.toList with | c :: _ => loC c | [] => false)
def highD : PyData → Bool
  | .str x => highS x
  | _ => false
/-! ### kinds -/
def tupB (d : PyData) (l m : Int) : Bool := match d with
  | .tuple xs => decide (l ≤ (xs.length : Int)) && decide ((xs.length : Int) ≤ m)
  | _ => false
def fstD : PyData → PyData
  | .tuple (a :: _) => a
  | _ => .none
def sndD : PyData → PyData
  | .tuple (_ :: b :: _) => b
  | _ => .none
def itemsD : PyData → List PyData
  | .tuple l => l
  | _ => []
def strD : PyData → Str
  | .str x => x
  | _ => Str.empty
def makerB (d : PyData) : Bool := tupB d 2 2 && highD (fstD d) && tupB (sndD d) 0 4 && (itemsD (sndD d)).all isStr
def kindB (d : PyData) : Bool := tupB d 2 2 && highD (fstD d) && tupB (sndD d) 1 6 && (itemsD (sndD d)).all makerB
def titlesD (d : PyData) : List PyData := (itemsD d).map fstD
def makersD (d : PyData) : List PyData := (itemsD d).flatMap fun k => itemsD (sndD k)
def mnamesD (d : PyData) : List PyData := (makersD d).map fstD
def fieldsD (d : PyData) : List PyData := (makersD d).flatMap fun m => itemsD (sndD m)
def unl (l : List PyData) : Bool := decide ((l.map strD).Nodup)
def fieldOk (d : PyData) (f : PyData) : Bool := decide (strD f = "number") || decide (strD f ∈ (titlesD d).map strD)
/-- kinds -/
def kindsB (d : PyData) : Bool := tupB d 1 6 && (itemsD d).all kindB && unl (titlesD d) && unl (mnamesD d) && (fieldsD d).all (fieldOk d)
theorem tup2 {d : PyData} (h : tupB d 2 2 = true) : ∃ x y, d = .tuple [x, y] := by
  cases d with
  | tuple xs =>
    simp only [tupB, Bool.and_eq_true, decide_eq_true_eq] at h
    match xs, h with
    | [x, y], _ => exact ⟨x, y, rfl⟩
    | [], h => simp at h
    | [_], h => simp at h
    | _ :: _ :: _ :: r, h => simp only [List.length_cons] at h; omega
  | _ => simp [tupB] at h
theorem tupOf {d : PyData} {l m : Int} (h : tupB d l m = true) : ∃ xs, d = .tuple xs ∧ l ≤ (xs.length : Int) ∧ (xs.length : Int) ≤ m := by
  cases d with
  | tuple xs =>
    simp only [tupB, Bool.and_eq_true, decide_eq_true_eq] at h
    exact ⟨xs, rfl, h.1, h.2⟩
  | _ => simp [tupB] at h
theorem dv_pair {M : List Addr} {H : Hp} {v : V} {x y : PyData} (h : Dv M H v (.tuple [x, y])) : ∃ a vx vy, v = .ref a ∧ H a = some (.tup [vx, vy]) ∧ a ∉ M ∧ Dv M H vx x ∧ Dv M H vy y := by
  cases h with
  | tup e n r =>
    cases r with
    | cons h1 r =>
      cases r with
      | cons h2 r =>
        cases r
        exact ⟨_, _, _, rfl, e, n, h1, h2⟩
theorem dv_tup {M : List Addr} {H : Hp} {v : V} {xs : List PyData} (h : Dv M H v (.tuple xs)) : ∃ a vs, v = .ref a ∧ H a = some (.tup vs) ∧ a ∉ M ∧ DvAll M H vs xs := by
  cases h with
  | tup e n r => exact ⟨_, _, rfl, e, n, r⟩
theorem wt_pair (x y : PyData) : wt (.tuple [x, y]) = wt x + wt y + 8 := by
  simp only [wt, wtAll]
  omega
theorem wt_tup (xs : List PyData) : wt (.tuple xs) = wtAll xs + 4 := by simp only [wt]
end SL
set_option Elab.async false
set_option linter.all false
set_option maxRecDepth 100000
set_option maxHeartbeats 2000000
/-! own words, 6: signs below 128 -/
namespace SL
open PySem PySem.Spec PyProof.Rows L2 GxR NdefX GA
theorem sign_tab : (List.range 128).all (fun c => (Unicode.isAlnum c == anC c) && (Unicode.isAlpha c == (upC c || loC c)) && ((Unicode.isUpper c && !(Unicode.isLower c || Unicode.isTitle c)) == upC c) && ((Unicode.isLower c && !(Unicode.isUpper c || Unicode.isTitle c)) == loC c)) = true := by decide +kernel
theorem sign_at {c : Nat} (h : c < 128) : Unicode.isAlnum c = anC c ∧ Unicode.isAlpha c = (upC c || loC c) ∧ (Unicode.isUpper c && !(Unicode.isLower c || Unicode.isTitle c)) = upC c ∧ (Unicode.isLower c && !(Unicode.isUpper c || Unicode.isTitle c)) = loC c := by
  have := List.all_eq_true.mp sign_tab c (List.mem_range.mpr h)
  simp only [Bool.and_eq_true, beq_iff_eq] at this
  obtain ⟨⟨⟨h1, h2⟩, h3⟩, h4⟩ := this
  exact ⟨h1, h2, h3, h4⟩
theorem anC_lt {c : Nat} (h : anC c = true) : c < 128 := by
  unfold anC upC loC diC at h
  simp only [Bool.or_eq_true, Bool.and_eq_true, decide_eq_true_eq] at h
  omega
theorem run_iff (x : Str) : (Txt.isascii x && Txt.isalnum x) = (decide (1 ≤ x.length) && x.cps.toList.all anC) := by
  unfold Txt.isascii Txt.isalnum
  rw [Bool.eq_iff_iff]
  simp only [Bool.and_eq_true, Array.all_eq_true_iff_forall_mem, decide_eq_true_eq, List.all_eq_true, Array.mem_toList_iff]
  constructor
  · rintro ⟨h1, h2, h3⟩
    exact ⟨by have : x.length > 0 := h2; omega, fun c hc => by rw [← (sign_at (h1 c hc)).1]; exact h3 c hc⟩
  · rintro ⟨h1, h2⟩
    exact ⟨fun c hc => anC_lt (h2 c hc), by show x.length > 0; omega, fun c hc => by rw [(sign_at (anC_lt (h2 c hc))).1]; exact h2 c hc⟩
theorem alpha1 {c : Nat} (h : c < 128) : Txt.isalpha ⟨#[c]⟩ = (upC c || loC c) := by
  unfold Txt.isalpha
  rw [← (sign_at h).2.1]
  simp [Str.length]
theorem upper1 {c : Nat} (h : c < 128) : Txt.isupper ⟨#[c]⟩ = upC c := by
  unfold Txt.isupper
  rw [← (sign_at h).2.2.1]
  simp
theorem lower1 {c : Nat} (h : c < 128) : Txt.islower ⟨#[c]⟩ = loC c := by
  unfold Txt.islower
  rw [← (sign_at h).2.2.2]
  simp
theorem inV_strs (x : Str) : ∀ l : List Str, inV (.str x) (l.map V.str) = decide (x ∈ l)
  | [] => rfl
  | y :: r => by
    have ih := inV_strs x r
    unfold inV at ih ⊢
    rw [List.map_cons, List.any_cons, ih]
    have e : eqV (.str y) (.str x) = decide (x = y) := by
      unfold eqV
      first
        | (by_cases h : x = y
           · subst h; simp
           · simp [h, Ne.symm h])
    rw [e]
    by_cases h : x = y
    · subst h; simp
    · simp [h]
theorem goQ {Q : VK} {H : Hp} {b c : Bool} (q : Q (.bl b) H) (e : b = c) : Q (.bl c) H := by rw [← e]; exact q
theorem cons_of_len {x : Str} (h : 1 ≤ x.length) : ∃ c r, x.cps.toList = c :: r := by
  have e : x.length = x.cps.toList.length := by simp [Str.length]
  cases q : x.cps.toList with
  | nil => rw [e, q] at h; simp at h
  | cons c r => exact ⟨c, r, rfl⟩
end SL
set_option Elab.async false
set_option linter.all false
set_option maxRecDepth 100000
set_option maxHeartbeats 2000000
/-! own words, 7: a def whose code object is known -/
namespace SL
open PySem PySem.Spec PyProof.Rows L2 GxR NdefX GA
/-- a def of the top whose code object stands at c -/
structure FunT (K : PySem.W.Frag) (x qual : Str) (st : Stmt) (f : Addr) (fd : FuncData) (c : Addr) : Prop where
  ex : ∃ (oc : Value) (od : Option Addr) (kV doc pm : Value) (an : Option Addr) (ct : Value) (osl : Array (Option Value)),
    fd = PySem.W.fnOf x qual (defArgs st) (defBody st) (defScope st) .none kV doc pm an (.ref c) ct ∧ K.lookup f = some ⟨oc, od, .func fd, osl⟩ ∧ PySem.W.codeIn K (.ref c) qual = true
  kp : PySem.W.keepIn K (.ref f) = true
section
variable {P : Program} {w : World} {K : PySem.W.Frag} {mg : Str → Option Value} {base : Heap} {x qual : Str} {st : Stmt} {f c : Addr} {fd : FuncData} {N ps : List Str} {k : Nat} {sp : Sp}
theorem FunT.fn (F : FunT K x qual st f fd c) : Fun K x qual st f fd := by
  obtain ⟨oc, od, kV, doc, pm, an, ct, osl, e, l, h⟩ := F.ex
  exact ⟨⟨oc, od, kV, doc, pm, an, _, ct, osl, e, l, h⟩, F.kp⟩
theorem FunT.ok (F : FunT K x qual st f fd c) (S : FnScope N ps (defScope st)) (len : ∀ vs H Q E, sp vs H Q E → vs.length = ps.length)
    (hbody : ∀ (A : Around) (outer : List Env) (s : Shared) (H : Hp) (vs : List V) (Q : VK) (E : XK), Room k (A.deeper (envOfC qual (defScope st) s.heap.objs.size f (.ref c))) → sp vs H Q E →
      ∃ t, PSs (cxOf CX0 P w K mg base N qual (defScope st) f (.ref c) A outer s H E).nox (defBody st) t ∧ t { nx := fun _ H' => Q .non H', rt := Q } (start N vs) H) : FnOk P w K mg base CX0 (k + 1) f fd ps sp := by
  obtain ⟨oc, od, kV, doc, pm, an, ct, osl, rfl, lk, hcd⟩ := F.ex
  refine fn_of lk hcd S len fun A outer s H vs Q E hr hsp => ?_
  obtain ⟨t, h, q⟩ := hbody A outer s H vs Q E hr hsp
  exact ⟨t, h.nox, q⟩
theorem FunT.okX (F : FunT K x qual st f fd c) (S : FnScope N ps (defScope st)) (len : ∀ vs H Q E, sp vs H Q E → vs.length = ps.length)
    (hbody : ∀ (A : Around) (outer : List Env) (s : Shared) (H : Hp) (vs : List V) (Q : VK) (E : XK), Room k (A.deeper (envOfC qual (defScope st) s.heap.objs.size f (.ref c))) → sp vs H Q E →
      ∃ t, PSs (cxOf (L2.CX P w) P w K mg base N qual (defScope st) f (.ref c) A outer s H E) (defBody st) t ∧ t { nx := fun _ H' => Q .non H', rt := Q } (start N vs) H) : FnOk P w K mg base (L2.CX P w) (k + 1) f fd ps sp := by
  obtain ⟨oc, od, kV, doc, pm, an, ct, osl, rfl, lk, hcd⟩ := F.ex
  exact fn_of lk hcd S len hbody
end
section
variable {X : Cx} {T M : List Addr} {H : Hp} {K : PySem.W.Frag} {P a : Addr} {xs : List V} {ds : List PyData}
/-- the reading of all(test(x) for x in t), t a tuple of data, x in the slot j: b the truth of each -/
theorem all_tup {te : TE} {σ0 : L2.St} {Q : VK} {b : PyData → Bool} {j : Nat} (hx : H a = some (.tup xs)) (ha : a ∉ M) (hd : DvAll M H xs ds) (ht : Tabs T H) (hP : P ∈ T)
    (hb : ∀ (x : V) (d : PyData) (H' : Hp) (R : VK), d ∈ ds → Dv M H' x d → Go T M H H' → Tabs T H' → (∀ H'' , Go T M H' H'' → Tabs T H'' → R (.bl (b d)) H'') → te (σ0.set j (some x)) H' R)
    (hq : ∀ H', Go T M H H' → Tabs T H' → Q (.bl (ds.all b)) H') :
    TabG H P ∧ ∀ H2, Tabbed P H H2 → ∃ W, (∃ m, W 0 m σ0 H2) ∧ GTurn (Itt K a) (gName j) te W (fun H' => Q (.bl (!false)) H') (KB false W fun b H' => Q (.bl b) H') := by
  refine ⟨ht P hP, fun H2 tb => ?_⟩
  have hl := hd.length
  have g2 : Go T M H H2 := Go.tbd (ht P hP) tb
  refine ⟨fun i m σ H' => m = xs.length - i ∧ i ≤ xs.length ∧ Go T M H H' ∧ Tabs T H' ∧ (∀ v, σ.set j v = σ0.set j v) ∧ (ds.take i).all b = true, ⟨xs.length, rfl, Nat.zero_le _, g2, g2.tb ht, fun _ => rfl, by simp⟩, ?_⟩
  rintro i m σ H' ⟨rfl, hi, gg, tt, hs, hall⟩
  have hx' : SqT K H' a xs := SqT.of (gg.tup hx ha)
  by_cases hlt : i < xs.length
  · refine .inr ⟨⟨xs, xs[i], hx', by simp [hlt]⟩, by omega, fun x H'' y => ?_⟩
    obtain ⟨e, y⟩ := y
    subst e
    have ex : xs[i]? = some x := y xs hx'
    obtain ⟨d, ed, hv⟩ := hd.get ex
    show te (σ.set j (some x)) H'' _
    rw [hs]
    refine hb x d H'' _ (List.mem_of_getElem? ed) (hv.go gg) gg tt fun H3 g3 t3 => ?_
    refine ⟨b d, rfl, ?_⟩
    have et : ds.take (i + 1) = ds.take i ++ [d] := by rw [List.take_add_one, ed] <;> rfl
    cases c : b d with
    | true =>
      rw [if_neg (by simp)]
      exact ⟨xs.length - (i + 1), by omega, rfl, hlt, gg.trans g3, t3, fun v => by rw [List.set_set], by rw [et, List.all_append, hall]; simp [c]⟩
    | false =>
      rw [if_pos rfl]
      have : ds.all b = false := by
        rw [List.all_eq_false]
        exact ⟨d, List.mem_of_getElem? ed, by rw [c]; simp⟩
      rw [← this]
      exact hq H3 (gg.trans g3) t3
  · have e : i = xs.length := by omega
    subst e
    rw [hl, List.take_length] at hall
    refine .inl ⟨⟨xs, hx', Nat.le_refl _⟩, ?_⟩
    have := hq H' gg tt
    rw [hall] at this
    exact this
/-- .. over a list of data -/
theorem all_lst {te : TE} {σ0 : L2.St} {Q : VK} {b : PyData → Bool} {j : Nat} (hx : H a = some (.lst xs)) (ha : a ∉ M) (hd : DvAll M H xs ds) (ht : Tabs T H) (hP : P ∈ T)
    (hb : ∀ (x : V) (d : PyData) (H' : Hp) (R : VK), d ∈ ds → Dv M H' x d → Go T M H H' → Tabs T H' → (∀ H'' , Go T M H' H'' → Tabs T H'' → R (.bl (b d)) H'') → te (σ0.set j (some x)) H' R)
    (hq : ∀ H', Go T M H H' → Tabs T H' → Q (.bl (ds.all b)) H') :
    TabG H P ∧ ∀ H2, Tabbed P H H2 → ∃ W, (∃ m, W 0 m σ0 H2) ∧ GTurn (Itl K a) (gName j) te W (fun H' => Q (.bl (!false)) H') (KB false W fun b H' => Q (.bl b) H') := by
  refine ⟨ht P hP, fun H2 tb => ?_⟩
  have hl := hd.length
  have g2 : Go T M H H2 := Go.tbd (ht P hP) tb
  refine ⟨fun i m σ H' => m = xs.length - i ∧ i ≤ xs.length ∧ Go T M H H' ∧ Tabs T H' ∧ (∀ v, σ.set j v = σ0.set j v) ∧ (ds.take i).all b = true, ⟨xs.length, rfl, Nat.zero_le _, g2, g2.tb ht, fun _ => rfl, by simp⟩, ?_⟩
  rintro i m σ H' ⟨rfl, hi, gg, tt, hs, hall⟩
  have hx' : SqL K H' a xs := SqL.of (gg.lst hx ha)
  by_cases hlt : i < xs.length
  · refine .inr ⟨⟨xs, xs[i], hx', by simp [hlt]⟩, by omega, fun x H'' y => ?_⟩
    obtain ⟨e, y⟩ := y
    subst e
    have ex : xs[i]? = some x := y xs hx'
    obtain ⟨d, ed, hv⟩ := hd.get ex
    show te (σ.set j (some x)) H'' _
    rw [hs]
    refine hb x d H'' _ (List.mem_of_getElem? ed) (hv.go gg) gg tt fun H3 g3 t3 => ?_
    refine ⟨b d, rfl, ?_⟩
    have et : ds.take (i + 1) = ds.take i ++ [d] := by rw [List.take_add_one, ed] <;> rfl
    cases c : b d with
    | true =>
      rw [if_neg (by simp)]
      exact ⟨xs.length - (i + 1), by omega, rfl, hlt, gg.trans g3, t3, fun v => by rw [List.set_set], by rw [et, List.all_append, hall]; simp [c]⟩
    | false =>
      rw [if_pos rfl]
      have : ds.all b = false := by
        rw [List.all_eq_false]
        exact ⟨d, List.mem_of_getElem? ed, by rw [c]; simp⟩
      rw [← this]
      exact hq H3 (gg.trans g3) t3
  · have e : i = xs.length := by omega
    subst e
    rw [hl, List.take_length] at hall
    refine .inl ⟨⟨xs, hx', Nat.le_refl _⟩, ?_⟩
    have := hq H' gg tt
    rw [hall] at this
    exact this
end
end SL
set_option Elab.async false
set_option linter.all false
set_option maxRecDepth 100000
set_option maxHeartbeats 2000000
/-! own words, 8: comprehensions over data of pairs -/
namespace SL
open PySem PySem.Spec PyProof.Rows L2 GxR NdefX GA
section
variable {T M : List Addr} {H0 H1 : Hp} {K : PySem.W.Frag} {J : It} {G : Hp → Prop} {xs : List V} {ds : List PyData} {D : Addr} {Qd : Hp → Prop} {σ : L2.St}
theorem iteYes {A B : Prop} (h : A) : if true = true then A else B := by rw [if_pos rfl]; exact h
theorem dv_two {M : List Addr} {H : Hp} {v : V} {x y : PyData} (h : Dv M H v (.tuple [x, y])) : ∃ a vx vy, v = .ref a ∧ H a = some (.tup [vx, vy]) ∧ a ∉ M ∧ Dv M H vx x ∧ Dv M H vy y := dv_pair h
/-- [x for x, _ in pairs] -/
theorem lc_fst {i j : Nat} {vs : List Nat} (w : Walk J xs.length G (YAt xs)) (hG : ∀ H', Go T M H0 H' → G H') (hd : DvAll M H0 xs ds) (hp : ∀ d ∈ ds, ∃ x y, d = .tuple [x, y]) (g1 : Go T M H0 H1) (hD : H1 D = none) (hn : xs.length ≤ sizeLine)
    (hw : ∀ v1 v2, wipe (((wipe σ vs).set i (some v1)).set j (some v2)) vs = wipe σ vs) (hv : ∀ v1 v2, (((wipe σ vs).set i (some v1)).set j (some v2))[i]? = some (some v1))
    (hq : ∀ H' acc, Go T M H0 H' → H' D = some (.lst acc) → DvAll M H0 acc (ds.map fstD) → Qd H') :
    ∃ W : Nat → Nat → Hp → Prop, (∃ m, W 0 m (upd H1 D (.lst []))) ∧ ∀ i' m H, W i' m H →
      (J.stop i' H ∧ Qd H) ∨ (J.go i' H ∧ ∃ Nx : Hp → Prop, (∀ H', Nx H' → ∃ m', m' < m ∧ W (i' + 1) m' H') ∧ ∀ x H', J.yld i' H x H' → gTup K 2 (gCons (gName i) (gCons (gName j) gNil)) x (wipe σ vs) H' fun σ2 H2 => wipe σ2 vs = wipe σ vs ∧ tYes σ2 H2 fun b H3 =>
        if b = true then tVar i σ2 H3 fun y H4 => ∃ acc, H4 D = some (.lst acc) ∧ acc.length < sizeLine ∧ Nx (upd H4 D (.lst (acc ++ [y]))) else Nx H3) := by
  have hD0 : H0 D = none := g1.al D hD
  refine lc_it w (fun n H' => Go T M H0 H' ∧ ∃ acc, H' D = some (.lst acc) ∧ acc.length = n ∧ DvAll M H0 acc ((ds.take n).map fstD)) ⟨g1.trans (Go.new hD), [], upd_same, rfl, .nil⟩ (fun n H' _ h => hG H' h.1) (fun n x H' H'' hlt h y => ?_) (fun H' h => ?_)
  · obtain ⟨gg, acc, ea, el, da⟩ := h
    obtain ⟨rfl, ex⟩ := y
    obtain ⟨d, ed, hx⟩ := hd.get ex
    obtain ⟨p, q, rfl⟩ := hp d (List.mem_of_getElem? ed)
    obtain ⟨a, vx, vy, rfl, e, na, hx, hy⟩ := dv_pair hx
    refine ⟨a, _, rfl, SqT.of (gg.tup e na), rfl, _, _, rfl, _, _, rfl, rfl, ?_⟩
    refine ⟨hw vx vy, ?_⟩
    unfold tYes
    show if true = true then _ else _
    rw [if_pos rfl]
    refine ⟨vx, hv vx vy, acc, ea, by omega, gg.over hD0 ea (fun _ z => by cases z), acc ++ [vx], upd_same, by rw [List.length_append, el] <;> rfl, ?_⟩
    have : ds.take (n + 1) = ds.take n ++ [.tuple [p, q]] := by rw [List.take_add_one, ed] <;> rfl
    rw [this, List.map_append]
    exact da.append (.cons hx .nil)
  · obtain ⟨gg, acc, ea, el, da⟩ := h
    rw [hd.length, List.take_length] at da
    exact hq H' acc gg ea da
theorem sndD_pair (x y : PyData) : sndD (.tuple [x, y]) = y := rfl
/-- [x for _, own in pairs for x in own] -/
theorem lc2_snd {i j k : Nat} {vs vs1 : List Nat} {c : Nat} (w : Walk J xs.length G (YAt xs)) (hG : ∀ H', Go T M H0 H' → G H') (hd : DvAll M H0 xs ds) (hp : ∀ d ∈ ds, ∃ x l, d = .tuple [x, .tuple l] ∧ l.length ≤ c) (g1 : Go T M H0 H1) (hD : H1 D = none) (hn : xs.length * c ≤ sizeLine)
    (hw : ∀ v1 v2, wipe (((wipe σ vs).set i (some v1)).set j (some v2)) vs = wipe σ vs) (hv : ∀ v1 v2, (((wipe σ vs).set i (some v1)).set j (some v2))[j]? = some (some v2))
    (hw1 : ∀ v1 v2 v3, wipe ((wipe (((wipe σ vs).set i (some v1)).set j (some v2)) vs1).set k (some v3)) vs1 = wipe (((wipe σ vs).set i (some v1)).set j (some v2)) vs1)
    (hv1 : ∀ v1 v2 v3, ((wipe (((wipe σ vs).set i (some v1)).set j (some v2)) vs1).set k (some v3))[k]? = some (some v3))
    (hq : ∀ H' acc, Go T M H0 H' → H' D = some (.lst acc) → DvAll M H0 acc (ds.flatMap fun d => itemsD (sndD d)) → Qd H') :
    ∃ W : Nat → Nat → Hp → Prop, (∃ m, W 0 m (upd H1 D (.lst []))) ∧ ∀ i' m H, W i' m H →
  (J.stop i' H ∧ Qd H) ∨ (J.go i' H ∧ ∃ Nx : Hp → Prop, (∀ H', Nx H' → ∃ m', m' < m ∧ W (i' + 1) m' H') ∧ ∀ x H', J.yld i' H x H' → gTup K 2 (gCons (gName i) (gCons (gName j) gNil)) x (wipe σ vs) H' fun σ2 H2 => wipe σ2 vs = wipe σ vs ∧ tYes σ2 H2 fun b H3 =>
    if b = true then iTup K (tVar j) σ2 H3 fun J1 H4 => ∃ W1 : Nat → Nat → Hp → Prop, (∃ m, W1 0 m H4) ∧ ∀ j' k' H, W1 j' k' H →
      (J1.stop j' H ∧ Nx H) ∨ (J1.go j' H ∧ ∃ Nx1 : Hp → Prop, (∀ H', Nx1 H' → ∃ k'', k'' < k' ∧ W1 (j' + 1) k'' H') ∧ ∀ x H', J1.yld j' H x H' → gName k x (wipe σ2 vs1) H' fun σ3 H5 => wipe σ3 vs1 = wipe σ2 vs1 ∧ tYes σ3 H5 fun b H6 =>
        if b = true then tVar k σ3 H6 fun y H7 => ∃ acc, H7 D = some (.lst acc) ∧ acc.length < sizeLine ∧ Nx1 (upd H7 D (.lst (acc ++ [y]))) else Nx1 H6)
    else Nx H3) := by
  have hD0 : H0 D = none := g1.al D hD
  have hl0 := hd.length
  refine ⟨fun n m H' => m = xs.length - n ∧ n ≤ xs.length ∧ Go T M H0 H' ∧ ∃ acc, H' D = some (.lst acc) ∧ acc.length ≤ n * c ∧ DvAll M H0 acc ((ds.take n).flatMap fun d => itemsD (sndD d)), ⟨xs.length, rfl, Nat.zero_le _, g1.trans (Go.new hD), [], upd_same, by simp, .nil⟩, ?_⟩
  rintro n m H' ⟨rfl, hi, gg, acc, ea, el, da⟩
  by_cases hlt : n < xs.length
  · refine .inr ⟨w.goes n H' hlt (hG H' gg), fun H2 => Go T M H0 H2 ∧ ∃ acc, H2 D = some (.lst acc) ∧ acc.length ≤ (n + 1) * c ∧ DvAll M H0 acc ((ds.take (n + 1)).flatMap fun d => itemsD (sndD d)), fun H2 h2 => ⟨xs.length - (n + 1), by omega, rfl, hlt, h2⟩, fun x H2 y => ?_⟩
    obtain ⟨rfl, ex⟩ := w.yields n H' x H2 hlt (hG H' gg) y
    obtain ⟨d, ed, hx⟩ := hd.get ex
    obtain ⟨p, l, rfl, hc⟩ := hp d (List.mem_of_getElem? ed)
    obtain ⟨a, vx, vy, rfl, e, na, hx, hy⟩ := dv_pair hx
    obtain ⟨b, ws, rfl, eb, nb, hws⟩ := dv_tup hy
    have hl1 := hws.length
    have et : ds.take (n + 1) = ds.take n ++ [.tuple [p, .tuple l]] := by rw [List.take_add_one, ed] <;> rfl
    have em : (n + 1) * c = n * c + c := Nat.succ_mul n c
    have ec : (n + 1) * c ≤ xs.length * c := Nat.mul_le_mul_right c hlt
    refine ⟨a, _, rfl, SqT.of (gg.tup e na), rfl, _, _, rfl, _, _, rfl, rfl, ?_⟩
    refine ⟨hw _ _, ?_⟩
    unfold tYes
    show if true = true then _ else _
    rw [if_pos rfl]
    refine ⟨_, hv _ _, b, rfl, ⟨_, SqT.of (gg.tup eb nb)⟩, ?_⟩
    refine ⟨fun r m' H3 => m' = ws.length - r ∧ r ≤ ws.length ∧ Go T M H0 H3 ∧ ∃ acc, H3 D = some (.lst acc) ∧ acc.length ≤ n * c + r ∧ DvAll M H0 acc (((ds.take n).flatMap fun d => itemsD (sndD d)) ++ l.take r), ⟨ws.length, rfl, Nat.zero_le _, gg, acc, ea, by omega, by rw [List.take_zero, List.append_nil]; exact da⟩, ?_⟩
    rintro r m' H3 ⟨rfl, hr, g3, acc3, ea3, el3, da3⟩
    have sq : SqT K H3 b ws := SqT.of (g3.tup eb nb)
    by_cases hlt2 : r < ws.length
    · refine .inr ⟨⟨ws, ws[r], sq, by simp [hlt2]⟩, fun H4 => Go T M H0 H4 ∧ ∃ acc, H4 D = some (.lst acc) ∧ acc.length ≤ n * c + (r + 1) ∧ DvAll M H0 acc (((ds.take n).flatMap fun d => itemsD (sndD d)) ++ l.take (r + 1)), fun H4 h4 => ⟨ws.length - (r + 1), by omega, rfl, hlt2, h4⟩, fun x' H4 y' => ?_⟩
      obtain ⟨rfl, y'⟩ := y'
      have ex' := y' ws sq
      obtain ⟨d', ed', hx'⟩ := hws.get ex'
      refine ⟨hw1 _ _ x', ?_⟩
      show if true = true then _ else _
      rw [if_pos rfl]
      refine ⟨x', hv1 _ _ x', acc3, ea3, by omega, g3.over hD0 ea3 (fun _ z => by cases z), acc3 ++ [x'], upd_same, by rw [List.length_append, List.length_singleton]; omega, ?_⟩
      have et' : l.take (r + 1) = l.take r ++ [d'] := by rw [List.take_add_one, ed'] <;> rfl
      rw [et', ← List.append_assoc]
      exact da3.append (.cons hx' .nil)
    · have e : r = ws.length := by omega
      subst e
      refine .inl ⟨⟨ws, sq, Nat.le_refl _⟩, g3, acc3, ea3, by omega, ?_⟩
      rw [hl1, List.take_length] at da3
      have ef : ([PyData.tuple [p, .tuple l]] : List PyData).flatMap (fun d => itemsD (sndD d)) = l := List.append_nil l
      rw [et, List.flatMap_append, ef]
      exact da3
  · have e : n = xs.length := by omega
    subst e
    rw [hl0, List.take_length] at da
    exact .inl ⟨w.stops H' (hG H' gg), hq H' acc gg ea da⟩
/-- all(test(x) for x in source), x in the slot j; b the truth of each -/
theorem all_it {te : TE} {σ0 : L2.St} {S : Hp → Prop} {Z : Bool → Hp → Prop} {b : PyData → Bool} {j : Nat} {P : Addr} {H : Hp} (w : Walk J xs.length G (YAt xs)) (hG : ∀ H', Go T M H H' → G H') (hd : DvAll M H xs ds) (ht : Tabs T H) (hP : P ∈ T)
    (hb : ∀ (x : V) (d : PyData) (H' : Hp) (R : VK), d ∈ ds → Dv M H' x d → Go T M H H' → Tabs T H' → (∀ H'' , Go T M H' H'' → Tabs T H'' → R (.bl (b d)) H'') → te (σ0.set j (some x)) H' R)
    (hS : ∀ H', Go T M H H' → Tabs T H' → ds.all b = true → S H') (hZ : ∀ H', Go T M H H' → Tabs T H' → ds.all b = false → Z false H') :
    TabG H P ∧ ∀ H2, Tabbed P H H2 → ∃ W, (∃ m, W 0 m σ0 H2) ∧ GTurn J (gName j) te W S (KB false W Z) := by
  refine ⟨ht P hP, fun H2 tb => ?_⟩
  have hl := hd.length
  have g2 : Go T M H H2 := Go.tbd (ht P hP) tb
  refine ⟨fun i m σ H' => m = xs.length - i ∧ i ≤ xs.length ∧ Go T M H H' ∧ Tabs T H' ∧ (∀ v, σ.set j v = σ0.set j v) ∧ (ds.take i).all b = true, ⟨xs.length, rfl, Nat.zero_le _, g2, g2.tb ht, fun _ => rfl, by simp⟩, ?_⟩
  rintro i m σ H' ⟨rfl, hi, gg, tt, hs, hall⟩
  by_cases hlt : i < xs.length
  · refine .inr ⟨w.goes i H' hlt (hG H' gg), by omega, fun x H'' y => ?_⟩
    obtain ⟨rfl, ex⟩ := w.yields i H' x H'' hlt (hG H' gg) y
    obtain ⟨d, ed, hv⟩ := hd.get ex
    show te (σ.set j (some x)) H'' _
    rw [hs]
    refine hb x d H'' _ (List.mem_of_getElem? ed) (hv.go gg) gg tt fun H3 g3 t3 => ?_
    refine ⟨b d, rfl, ?_⟩
    have et : ds.take (i + 1) = ds.take i ++ [d] := by rw [List.take_add_one, ed] <;> rfl
    cases c : b d with
    | true =>
      rw [if_neg (by simp)]
      exact ⟨xs.length - (i + 1), by omega, rfl, hlt, gg.trans g3, t3, fun v => by rw [List.set_set], by rw [et, List.all_append, hall]; simp [c]⟩
    | false =>
      rw [if_pos rfl]
      refine hZ H3 (gg.trans g3) t3 ?_
      rw [List.all_eq_false]
      exact ⟨d, List.mem_of_getElem? ed, by rw [c]; simp⟩
  · have e : i = xs.length := by omega
    subst e
    rw [hl, List.take_length] at hall
    exact .inl ⟨w.stops H' (hG H' gg), hS H' gg tt hall⟩
end
end SL
set_option Elab.async false
set_option linter.all false
set_option maxRecDepth 100000
set_option maxHeartbeats 2000000
/-! own words, 9: calls with keywords alone; calls whose exception the slots' wish takes -/
namespace SL
open PySem PySem.Spec PyProof.Rows L2 GxR NdefX GA
/-- a def as it is called by all its keywords, in its parameters' order -/
structure Fnw (P : Program) (w : World) (K : PySem.W.Frag) (mg : Str → Option Value) (base : Heap) (CX : CXT) (k : Nat) (x : Str) (ps : List Str) (sp : Sp) : Prop where
  ex : ∃ (f : Addr) (fd : FuncData), FnOk P w K mg base CX k f fd ps sp ∧ mg x = some (.ref f) ∧ PySem.W.keepIn K (.ref f) = true ∧ ∀ (s : Shared) (ws : List Value), K.In s.heap → ws.length = ps.length → BindsTo s fd ⟨[], ps.zip ws⟩ (ps.zip ws)
section
variable {X : Cx} {CX : CXT} {k j : Nat} {x : Str} {ps : List Str} {sp : Sp} {e : Expr} {es : List Expr} {kws : List Keyword} {t tk : TA} {p pos : Pos} {E : L2.St → XK} {f : Addr} {fd : FuncData}
theorem run_fw {pins : List (Addr × Obj)} {σ : L2.St} {H : Hp} {s : Shared} {Q : VK} {us : List Value} {vs : List V} (F : FnOk X.prog X.w X.K X.mg X.base CX k f fd ps sp) (hr : Room k X.A)
    (hb : ∀ (s : Shared) (ws : List Value), X.K.In s.heap → ws.length = ps.length → BindsTo s fd ⟨[], ps.zip ws⟩ (ps.zip ws)) (hx : PassesAt CX X σ (E σ))
    (I : Inv X pins σ H s) (r : Vals vs us) (h : sp vs H Q (E σ)) : wpAny (model X.prog X.w) X.A (call (.ref f) [] (ps.zip us)) (EP X pins σ Q) X.xe s := by
  have hl : us.length = ps.length := by rw [← r.length]; exact F.len _ _ _ _ h
  refine wpAny_call (codeAny_mono (F.run X.A X.stack s H ⟨[], ps.zip us⟩ us vs Q (E σ) hr I.env0 (hb s us I.kIn hl) r h) fun r s' hq => ?_)
  cases r with
  | error e => exact hx pins H s e s' I hq
  | ok fl =>
    cases fl with
    | ret u => exact I.after hq
    | next => exact False.elim hq
    | brk => exact False.elim hq
    | cont => exact False.elim hq
/-- f(k = v, ..) -/
theorem pe_kw (F : Fnw X.prog X.w X.K X.mg X.base CX k x ps sp) (hr : Room j X.A) (hk : k ≤ j) (hx : ∀ σ, PassesAt CX X σ (E σ)) (hkw : PK X kws tk) (hg : Gl X x := by rfl)
    (hall : (backToKw pos (keywordEach kws X.env)).all (·.1.isSome) = true := by rfl) (hks : (backToKw pos (keywordEach kws X.env)).filterMap (·.1) = ps := by rfl) (hdb : (x == ("__debug__" : Str)) = false := by decide)
    (hpl : ((backTo pos (starEach [] X.env)).any (·.1) || (backToKw pos (keywordEach kws X.env)).any (·.1.isNone)) = false := by rfl) :
    PE X (.Call (.Name x p) [] kws pos) (tCallS sp E tk) := by
  obtain ⟨f, fd, G, m, kp, b⟩ := F.ex
  refine ⟨fun pins s σ H Q I h => ?_⟩
  refine wpAny_Call_Name_kw (ld_glob I hg m ?_ hdb)
  refine PySem.W.callWith_KW0 (h₀ := X.base) I.ok.mod.kin kp hall ?_ hpl
  refine thn (hkw.run pos pins s σ H _ I h) fun ws s2 ⟨zs, H2, I2, rz, q2⟩ => ⟨I2.kIn, ?_⟩
  rw [hks]
  exact run_fw G (hr.mono hk) b (hx σ) I2 rz q2
/-- f(e, ..), an exception of which is the slots' own wish -/
theorem pe_fnS (F : Fnn X.prog X.w X.K X.mg X.base CX k x ps sp) (hr : Room j X.A) (hk : k ≤ j) (hx : ∀ σ, PassesAt CX X σ (E σ)) (ha : PA X (e :: es) t) (hg : Gl X x := by rfl) (hdb : (x == ("__debug__" : Str)) = false := by decide)
    (he : starEach (e :: es) X.env = (false, eval e X.env) :: starEach es X.env := by rfl) (hpl : (backTo pos (starEach es X.env)).any (·.1) = false := by rfl) : PE X (.Call (.Name x p) (e :: es) [] pos) (tCallS sp E t) := by
  obtain ⟨f, fd, G, m, kp, b⟩ := F.ex
  exact pe_callS G (hr.mono hk) hg m kp b hx ha hdb he hpl
theorem pass0S {X : Cx} (σ : L2.St) : PassesAt CX0 X σ E0 := fun pins H s e s' I c => pass0 pins σ H s e s' I c
end
end SL
set_option Elab.async false
set_option linter.all false
set_option maxRecDepth 100000
set_option maxHeartbeats 2000000
/-! own words, 10: not in range(..); range(..) as a value; int(..); all(list); the reading of a list of truths -/
namespace SL
open PySem PySem.Spec PyProof.Rows L2 GxR NdefX GA
section
variable {X : Cx} {a b : Expr} {ta tb : TE} {p pos : Pos}
def rNotRng : R2 := fun x y H Q => ∃ i r lo hi, x = V.int i ∧ y = V.ref r ∧ H r = some (.rng lo hi) ∧ Q (.bl (!decide (lo ≤ i ∧ i < hi))) H
theorem op_outside : OpR X (compareOp .NotIn) rNotRng := by
  intro pins s σ H x y v u Q I rx ry h
  obtain ⟨i, r, lo, hi, rfl, rfl, hr, q⟩ := h
  obtain ⟨k, rfl⟩ := rx
  obtain rfl : u = Value.ref r := ry
  obtain ⟨t1, t2, t3, ho⟩ := I.hok r _ hr
  show wpAny _ _ (do return Value.bool (!(← contains (Value.ref r) (Value.int i k)))) _ _ s
  refine wpAny_bind (wpAny_contains_slot (T := "range") ⟨_, ho, rfl⟩ F.slot_range_contains (call_meets F.slot_range_contains ⟨_, ho, rfl⟩ F.entry_range_contains (F.args_range_contains_2 _ _) (q_contains r lo hi i t1 t2 t3 k) ⟨ho, ?_⟩))
  refine wpAny_truthy_bool (wpAny_pure ⟨.bl _, H, I, rfl, ?_⟩)
  rw [place1]
  exact q
def rRng : List V → Hp → VK → Prop := fun vs H Q => ∃ i j, vs = [V.int i, V.int j] ∧ ∀ p, H p = none → Q (.ref p) (upd H p (.rng i j))
theorem pe_rng (B : Bl X.mg) (ha : PE X a ta) (hb : PE X b tb) (h1 : Gl X "range" := by rfl) (he : starEach (a :: [b]) X.env = (false, eval a X.env) :: starEach [b] X.env := by rfl)
    (he2 : starEach (b :: []) X.env = (false, eval b X.env) :: starEach [] X.env := by rfl) (hpl : (backTo pos (starEach [b] X.env)).any (·.1) = false := by rfl) : PE X (.Call (.Name "range" p) [a, b] [] pos) (tCB rRng (tCons ta (tCons tb tNil))) :=
  pe_callTy cr_range2 h1 B.range (by decide +kernel) (pa_cons ha (pa_cons hb pa_nil he2) he) (by decide) (by decide) he hpl
def rInt : List V → Hp → VK → Prop := fun xs H Q => (∃ i, xs = [.int i] ∧ Q (.int i) H) ∨ ∃ k, xs = [.bl k] ∧ Q (.int (if k then 1 else 0)) H
theorem pe_toInt (B : Bl X.mg) (ha : PE X a ta) (h1 : Gl X "int" := by rfl) (he : starEach (a :: []) X.env = (false, eval a X.env) :: starEach [] X.env := by rfl) : PE X (.Call (.Name "int" p) [a] [] pos) (tCB rInt (tCons ta tNil)) :=
  pe_callTy call_int1 h1 B.int (by decide +kernel) (pa_cons ha pa_nil he) (by decide) (by decide) he
def rLst (K : PySem.W.Frag) : List V → Hp → VK → Prop := fun xs H Q => ∃ p ys, xs = [.ref p] ∧ (SqL K H p ys ∨ SqT K H p ys) ∧ ∀ l, H l = none → Q (.ref l) (upd H l (.lst ys))
theorem pe_toList (B : Bl X.mg) (ha : PE X a ta) (h1 : Gl X "list" := by rfl) (he : starEach (a :: []) X.env = (false, eval a X.env) :: starEach [] X.env := by rfl) : PE X (.Call (.Name "list" p) [a] [] pos) (tCB (rLst X.K) (tCons ta tNil)) :=
  pe_callTy call_list_of h1 B.list (by decide +kernel) (pa_cons ha pa_nil he) (by decide) (by decide) he
theorem pe_allL (hc : X.calm = true) (B : Bl X.mg) (ha : PE X a ta) (h1 : Gl X "all" := by rfl) (he : starEach (a :: []) X.env = (false, eval a X.env) :: starEach [] X.env := by rfl) : PE X (.Call (.Name "all" p) [a] [] pos) (tCB (rAll X.K) (tCons ta tNil)) :=
  pe_callB (cr_all hc) h1 B.all (by decide +kernel) (pa_cons ha pa_nil he) (by decide) (by decide) he
end
section
variable {T : List Addr} {H0 H1 : Hp} {J : It} {n : Nat} {G : Hp → Prop} {Y : Nat → Hp → V → Hp → Prop} {D : Addr} {Qd : Hp → Prop} {σ : L2.St} {g : TG} {te : TE} {vs : List Nat}
/-- [te for g in J]: f i the i-th value; what is made meanwhile stays -/
theorem lc_map (f : Nat → V) (w : Walk J n G Y) (hG : ∀ H', Go T [] H0 H' → G H') (ht : Tabs T H0) (g1 : Go T [] H0 H1) (hD : H1 D = none) (hn : n ≤ sizeLine)
    (hs : ∀ i x H' H'' (R : VK), i < n → Go T [] H0 H' → Tabs T H' → Y i H' x H'' → (∀ H3, Go T [] H' H3 → R (f i) H3) → g x (wipe σ vs) H'' fun σ2 H2 => wipe σ2 vs = wipe σ vs ∧ te σ2 H2 R)
    (hq : ∀ H', Go T [] H0 H' → Tabs T H' → H' D = some (.lst ((List.range n).map f)) → Qd H') :
    ∃ W : Nat → Nat → Hp → Prop, (∃ m, W 0 m (upd H1 D (.lst []))) ∧ ∀ i' m H, W i' m H →
      (J.stop i' H ∧ Qd H) ∨ (J.go i' H ∧ ∃ Nx : Hp → Prop, (∀ H', Nx H' → ∃ m', m' < m ∧ W (i' + 1) m' H') ∧ ∀ x H', J.yld i' H x H' → g x (wipe σ vs) H' fun σ2 H2 => wipe σ2 vs = wipe σ vs ∧ tYes σ2 H2 fun b H3 =>
        if b = true then te σ2 H3 fun y H4 => ∃ acc, H4 D = some (.lst acc) ∧ acc.length < sizeLine ∧ Nx (upd H4 D (.lst (acc ++ [y]))) else Nx H3) := by
  have hD0 : H0 D = none := g1.al D hD
  refine lc_it w (fun i H' => Go T [] H0 H' ∧ H' D = some (.lst ((List.range i).map f))) ⟨g1.trans (Go.new hD), upd_same⟩ (fun i H' _ h => hG H' h.1) (fun i x H' H'' hlt h y => ?_) (fun H' h => hq H' h.1 (h.1.tb ht) h.2)
  obtain ⟨gg, e⟩ := h
  refine hs i x H' H'' _ hlt gg (gg.tb ht) y fun H3 g3 => ?_
  have e3 := g3.lst e List.not_mem_nil
  refine ⟨_, e3, by rw [List.length_map, List.length_range]; omega, (gg.trans g3).over hD0 e3 (fun _ z => by cases z), ?_⟩
  rw [upd_same, List.range_succ, List.map_append] <;> rfl
end
theorem map_range_get {α β : Type} {xs : List α} {f : Nat → β} {g : α → β} (h : ∀ i x, xs[i]? = some x → f i = g x) : (List.range xs.length).map f = xs.map g := by
  apply List.ext_getElem?
  intro i
  rw [List.getElem?_map, List.getElem?_map]
  by_cases hi : i < xs.length
  · rw [List.getElem?_range hi, List.getElem?_eq_getElem hi]
    exact congrArg some (h i _ (List.getElem?_eq_getElem hi))
  · rw [List.getElem?_eq_none (by simpa using hi), List.getElem?_eq_none (by simpa using hi)] <;> rfl
end SL
set_option Elab.async false
set_option linter.all false
set_option maxRecDepth 100000
set_option maxHeartbeats 2000000
/-! own words, 11: how great data is; its repr; defs that are called with no guard about -/
namespace SL
open PySem PySem.Spec PyProof.Rows L2 GxR NdefX GA
def asc (x : Str) : Bool := x.cps.toList.all fun c => decide (c < 128)
mutual
/-- ints no greater than n, ascii texts, empty dicts -/
def nice (n : Nat) : PyData → Bool
  | .none => true
  | .bool _ => true
  | .int i => decide (i.natAbs ≤ n)
  | .str x => asc x
  | .list xs => niceAll n xs
  | .tuple xs => niceAll n xs
  | .dict kvs => kvs.isEmpty
def niceAll (n : Nat) : List PyData → Bool
  | [] => true
  | x :: xs => nice n x && niceAll n xs
end
theorem shown_repr (x : Str) (h : asc x = true) : (reprText x).length ≤ 10 * x.length + 2 := StrLaws.reprText_len x fun c hc => by
  have := List.all_eq_true.mp h c hc
  have := of_decide_eq_true this
  omega
mutual
theorem shown_le {n : Nat} : ∀ {d : PyData}, nice n d = true → d.shown.length ≤ wt d
  | .none, _ => by simp only [PyData.shown, wt]; decide
  | .bool b, _ => by cases b <;> simp only [PyData.shown, wt] <;> decide
  | .int i, _ => by
    simp only [PyData.shown, wt]
    exact Nat.le_add_right _ _
  | .str x, h => by
    have := shown_repr x (by simpa only [nice] using h)
    simp only [PyData.shown, wt]
    omega
  | .list xs, h => by
    have h1 := shownAll_le (xs := xs) (by simpa only [nice] using h)
    have h2 := listText_len_le (PyData.shownAll xs)
    simp only [PyData.shown, wt]
    omega
  | .tuple xs, h => by
    have h1 := shownAll_le (xs := xs) (by simpa only [nice] using h)
    have h2 := tupleText_len_le (PyData.shownAll xs)
    simp only [PyData.shown, wt]
    omega
  | .dict [], _ => by
    simp only [PyData.shown, PyData.shownKv, wt]
    decide +kernel
  | .dict (_ :: _), h => by simp [nice] at h
theorem shownAll_le {n : Nat} : ∀ {xs : List PyData}, niceAll n xs = true → ((PyData.shownAll xs).map (·.length)).sum + 2 * (PyData.shownAll xs).length ≤ wtAll xs
  | [], _ => by simp [PyData.shownAll, wtAll]
  | x :: xs, h => by
    simp only [niceAll, Bool.and_eq_true] at h
    have h1 := shown_le h.1
    have h2 := shownAll_le h.2
    simp only [PyData.shownAll, wtAll, List.map_cons, List.sum_cons, List.length_cons]
    omega
end
mutual
theorem showable_of {n : Nat} (hn : n.log2 < 1920) : ∀ {d : PyData}, nice n d = true → d.showable = true
  | .none, _ => by simp only [PyData.showable]
  | .bool b, _ => by simp only [PyData.showable]
  | .int i, h => by
    simp only [nice, decide_eq_true_eq] at h
    simp only [PyData.showable, decide_eq_true_eq]
    by_cases z : i.natAbs = 0
    · rw [z]; decide
    · have a1 := (Nat.le_log2 z).mp (Nat.le_refl i.natAbs.log2)
      have hz : n ≠ 0 := by omega
      have : i.natAbs.log2 ≤ n.log2 := (Nat.le_log2 hz).mpr (Nat.le_trans a1 h)
      omega
  | .str x, _ => by simp only [PyData.showable]
  | .list xs, h => by
    simp only [PyData.showable]
    exact showableAll_of hn (by simpa only [nice] using h)
  | .tuple xs, h => by
    simp only [PyData.showable]
    exact showableAll_of hn (by simpa only [nice] using h)
  | .dict [], _ => by simp only [PyData.showable, PyData.showableKv]
  | .dict (_ :: _), h => by simp [nice] at h
theorem showableAll_of {n : Nat} (hn : n.log2 < 1920) : ∀ {xs : List PyData}, niceAll n xs = true → PyData.showableAll xs = true
  | [], _ => by simp only [PyData.showableAll]
  | x :: xs, h => by
    simp only [niceAll, Bool.and_eq_true] at h
    simp only [PyData.showableAll, Bool.and_eq_true]
    exact ⟨showable_of hn h.1, showableAll_of hn h.2⟩
end
section
variable {P : Program} {w : World} {H : Hp} {h : Heap} {M : List Addr}
mutual
/-- what bears data is read as that data -/
theorem Dv.reads (ok : HOk P w H h) : ∀ {v : V} {d : PyData} {u : Value}, Dv M H v d → RelV v u → ∃ as, Reads h u d as ∧ ∀ b ∈ as, H b ≠ none
  | _, _, _, .non, r => ⟨[], by cases r; exact .none, by simp⟩
  | _, _, _, .bl b, r => ⟨[], by cases r; exact .bool b, by simp⟩
  | _, _, _, .int i, r => by
    obtain ⟨t, rfl⟩ := r
    exact ⟨[], .int i t, by simp⟩
  | _, _, _, .str x, r => by
    obtain ⟨t, rfl⟩ := r
    exact ⟨[], .str x t, by simp⟩
  | _, _, _, .lst (a := a) e n q, r => by
    cases r
    obtain ⟨z, its, k, rv, g⟩ := ok a _ e
    obtain ⟨as, r1, r2⟩ := DvAll.reads ok q rv
    refine ⟨a :: as, .list g rfl rfl (by simpa using r1), fun b hb => ?_⟩
    rcases List.mem_cons.mp hb with rfl | hb
    · rw [e]; simp
    · exact r2 b hb
  | _, _, _, .tup (a := a) e n q, r => by
    cases r
    obtain ⟨z, its, rv, t⟩ := ok a _ e
    obtain ⟨as, r1, r2⟩ := DvAll.reads ok q rv
    obtain ⟨o, g, c, k, dd⟩ := t
    exact ⟨as, .tuple g c dd (by simpa using r1), r2⟩
  | _, _, _, .dct (a := a) e n, r => by
    cases r
    obtain ⟨z, s, vs, kv, o, es, ep, g, x, dd, k1, k2, k3⟩ := ok a _ e
    cases kv
    have e0 : es.toList = [] := by
      generalize es.toList = l at k2
      cases k2
      rfl
    refine ⟨a :: [] ++ [], .dict g x.1 dd (by rw [e0]; exact .nil) (by rw [e0]; exact .nil), fun b hb => ?_⟩
    have : b = a := by simpa using hb
    rw [this, e]
    simp
theorem DvAll.reads (ok : HOk P w H h) : ∀ {vs : List V} {ds : List PyData} {us : List Value}, DvAll M H vs ds → Vals vs us → ∃ as, ReadsAll h us ds as ∧ ∀ b ∈ as, H b ≠ none
  | _, _, _, .nil, .nil => ⟨[], .nil, by simp⟩
  | _, _, _, .cons x y, .cons r s => by
    obtain ⟨as, r1, r2⟩ := Dv.reads ok x r
    obtain ⟨bs, s1, s2⟩ := DvAll.reads ok y s
    exact ⟨as ++ bs, .cons r1 s1, fun b hb => (List.mem_append.mp hb).elim (r2 b) (s2 b)⟩
end
end
end SL
namespace SL
open PySem PySem.Spec PyProof.Rows L2 GxR NdefX GA
/-- a def that is to be called where no collection is being shown -/
structure FnG (P : Program) (w : World) (K : PySem.W.Frag) (mg : Str → Option Value) (base : Heap) (k : Nat) (f : Addr) (fd : FuncData) (ps : List Str) (sp : Sp) : Prop where
  len : ∀ vs H Q, sp vs H Q E0 → vs.length = ps.length
  run : ∀ (A : Around) (outer : List Env) (s : Shared) (H : Hp) (args : Args) (us : List Value) (vs : List V) (Q : VK), A.guards = some [] → Room k A → Env0 P w K mg base A outer s H → BindsTo s fd args (ps.zip us) → Vals vs us → sp vs H Q E0 →
    codeAny (model P w) A (.call (.ref f) args) (CR CX0 outer P w H s Q E0) s
/-- as its callers know it -/
structure Fng (P : Program) (w : World) (K : PySem.W.Frag) (mg : Str → Option Value) (base : Heap) (k : Nat) (x : Str) (ps : List Str) (sp : Sp) : Prop where
  ex : ∃ (f : Addr) (fd : FuncData), FnG P w K mg base k f fd ps sp ∧ mg x = some (.ref f) ∧ PySem.W.keepIn K (.ref f) = true ∧ Binds K fd ps []
section
variable {P : Program} {w : World} {K : PySem.W.Frag} {mg : Str → Option Value} {base : Heap} {k : Nat} {f c : Addr} {N ps : List Str} {sp : Sp} {x qual : Str} {st : Stmt} {fd : FuncData}
theorem FunT.okG (F : FunT K x qual st f fd c) (S : FnScope N ps (defScope st)) (len : ∀ vs H Q, sp vs H Q E0 → vs.length = ps.length)
    (hbody : ∀ (A : Around) (outer : List Env) (s : Shared) (H : Hp) (vs : List V) (Q : VK), A.guards = some [] → Room k (A.deeper (envOfC qual (defScope st) s.heap.objs.size f (.ref c))) → sp vs H Q E0 →
      ∃ t, PSs (cxOf CX0 P w K mg base N qual (defScope st) f (.ref c) A outer s H E0) (defBody st) t ∧ t { nx := fun _ H' => Q .non H', rt := Q } (start N vs) H) : FnG P w K mg base (k + 1) f fd ps sp := by
  obtain ⟨oc, od, kV, doc, pm, an, ct, osl, rfl, lk, hcd⟩ := F.ex
  refine ⟨len, fun A outer s H args us vs Q hg room env0 bind rel want => ?_⟩
  have inK : K.In s.heap := env0.mod.kin.keeps fun b o e => (env0.bs b o e).1
  have noLim : s.heap.NoLimit := env0.mod.nolimit.keeps fun b o e => (env0.bs b o e).1
  have kinds : ∀ y ∈ ps.zip us, (defScope st).names.lookup y.1 = some .local ∨ ((defScope st).names.lookup y.1 = some .cell ∧ ((cellsFrom (s.heap.objs.size + 1) (defScope st).names []).lookup y.1).isSome = true) := by
    rintro ⟨n, v⟩ hy
    have := S.par n (List.of_mem_zip hy).1
    exact this.imp id fun q => ⟨q, PySem.W.cellsFrom_some _ _ _ (.inl q)⟩
  refine codeAny_call_function room.depth (inK _ _ lk) rfl S.co S.gen rfl (PySem.W.codeRec_of inK hcd) (bind _ _ _ _ ?_)
  refine wpAny_newFunctionEnv_cells S.kind kinds ?_
  rintro env rfl s1 made
  refine ⟨noLim.keeps made.toInCall.keep, codeAny_func ?_⟩
  obtain ⟨t, ht, hq⟩ := hbody A outer s H vs Q hg (room.deeper _) want
  have I := inv_start (CX := CX0) (E := E0) S room.hd env0 (len _ _ _ want) rel made
  refine wpAny_mono (ht.run [] s1 (start N vs) H _ I hq) ?_ fun _ _ z => z
  have done : ∀ {σ' : L2.St} {H' : Hp} {s' : Shared} {v : V} {u : Value}, Inv (cxOf CX0 P w K mg base N qual (defScope st) f (.ref c) A outer s H E0) [] σ' H' s' → RelV v u → Q v H' → CE outer P w H s Q u s' :=
    fun {_ H' _ v _} J rv q => ⟨v, H', J.os, J.bare, J.base, J.hok, rv, q⟩
  rintro (_ | _ | _ | u) s' hs
  all_goals first
    | (obtain ⟨v, σ', H', J, rv, q⟩ := hs; exact done J rv q)
    | (obtain ⟨σ', H', J, q⟩ := hs; exact done (v := V.non) (u := Value.none) J rfl q)
    | (obtain ⟨_, _, _, q⟩ := hs; exact q.elim)
end
section
variable {X : Cx} {k j : Nat} {x : Str} {ps : List Str} {sp : Sp} {e : Expr} {es : List Expr} {t : TA} {p pos : Pos}
theorem pe_fnG (F : Fng X.prog X.w X.K X.mg X.base k x ps sp) (hG : X.A.guards = some []) (hr : Room j X.A) (hk : k ≤ j) (ha : PA X (e :: es) t) (hg : Gl X x := by rfl) (hdb : (x == ("__debug__" : Str)) = false := by decide)
    (he : starEach (e :: es) X.env = (false, eval e X.env) :: starEach es X.env := by rfl) (hpl : (backTo pos (starEach es X.env)).any (·.1) = false := by rfl) : PE X (.Call (.Name x p) (e :: es) [] pos) (tCall sp [] E0 t) := by
  obtain ⟨f, fd, G, m, kp, b⟩ := F.ex
  refine ⟨fun pins s σ H Q I h => ?_⟩
  refine wpAny_Call_Name_kw (ld_glob I hg m ?_ hdb)
  refine PySem.W.callWith_K (h₀ := X.base) I.ok.mod.kin kp (thn (ha.run pos pins s σ H _ I h) fun us s1 ⟨vs, H1, I1, r, q⟩ => ⟨I1.kIn, ?_⟩) he hpl
  have q : sp vs H1 Q E0 := by
    have q' : sp (vs ++ []) H1 Q E0 := q
    rw [List.append_nil] at q'
    exact q'
  have hl : us.length = ps.length := by rw [← r.length]; exact G.len _ _ _ q
  have bb := b s1 us I1.kIn (by rw [List.append_nil]; exact hl)
  rw [List.append_nil] at bb
  refine wpAny_call (codeAny_mono (G.run X.A X.stack s1 H1 ⟨us, []⟩ us vs Q hG (hr.mono hk) I1.env0 bb r q) ?_)
  rintro (err | fl) s' hq
  · exact hq.elim
  · rcases fl with _ | _ | _ | u
    all_goals first
      | exact I1.after hq
      | exact hq.elim
end
end SL
set_option Elab.async false
set_option linter.all false
set_option maxRecDepth 100000
set_option maxHeartbeats 2000000
/-! own words, 12: repr of data -/
namespace SL
open PySem PySem.Spec PyProof.Rows L2 GxR NdefX GA
/-- repr(v), v bearing data -/
def rRepr : List V → Hp → VK → Prop := fun xs H Q => ∃ (v : V) (M : List Addr) (d : PyData) (n : Nat), xs = [v] ∧ Dv M H v d ∧ nice n d = true ∧ n.log2 < 1920 ∧ wt d ≤ 4000000 ∧ d.depth ≤ 100 ∧ Q (.str d.shown) H
section
variable {X : Cx} {k : Nat} {a : Expr} {ta : TE} {p pos : Pos}
theorem cr_repr (hG : X.A.guards = some []) (hr : Room k X.A) (hm : ∃ o, X.base.get? sysModules = some o) : CallR X (.builtin "repr") rRepr := by
  intro pins s σ H xs us Q I r h
  obtain ⟨v, M, d, n, rfl, hv, hn, hl, hw, hd, q⟩ := h
  obtain ⟨u, rfl, ru⟩ := vals1 r
  have hln := shown_le hn
  have hz : d.shown.length ≤ sizeLine := by rw [sizeLine_eq]; omega
  have hs := showable_of hl hn
  obtain ⟨o, ho⟩ := hm
  have hfree : H sysModules = none := (I.bs _ _ ho).2
  obtain ⟨as, rd, tr⟩ := hv.reads I.hok ru
  have hno : sysModules ∉ as := fun m => tr _ m hfree
  have fin : ∀ h' u' tk, (∀ b o, s.heap.get? b = some o → h'.get? b = some o) → EP X pins σ Q (.str d.shown u') { s with heap := h', toks := tk } := fun h' u' tk hk => ⟨.str d.shown, H, I.kept (t' := tk) hk, ⟨_, rfl⟩, q⟩
  cases rd with
  | none => exact PySem.P.repr_of_none (fin s.heap _ _ fun _ _ e => e)
  | bool b =>
    refine PySem.P.repr_of_bool ?_
    have := fin s.heap s.toks (s.toks + 1) fun _ _ e => e
    simpa only [PyData.shown] using this
  | int i t =>
    refine PySem.P.repr_of_int (by simpa only [PyData.showable, decide_eq_true_eq] using hs) ?_
    have := fin s.heap s.toks (s.toks + 1) fun _ _ e => e
    simpa only [PyData.shown] using this
  | str x t =>
    refine PySem.P.repr_of_str ?_ (by simpa only [PyData.shown] using hz)
    have := fin s.heap s.toks (s.toks + 1) fun _ _ e => e
    simpa only [PyData.shown] using this
  | list h1 h2 h3 h4 => exact repr_of_reads' (.list h1 h2 h3 h4) hs (fun _ => hno) hG (by have := hr.un; omega) (fun _ _ e => e) (fun h' u tk hk => fin h' u tk hk) hz
  | tuple h1 h2 h3 h4 => exact repr_of_reads' (.tuple h1 h2 h3 h4) hs (fun _ => hno) hG (by have := hr.un; omega) (fun _ _ e => e) (fun h' u tk hk => fin h' u tk hk) hz
  | dict h1 h2 h3 h4 h5 => exact repr_of_reads' (.dict h1 h2 h3 h4 h5) hs (fun _ => hno) hG (by have := hr.un; omega) (fun _ _ e => e) (fun h' u tk hk => fin h' u tk hk) hz
theorem pe_repr (B : Bl X.mg) (hG : X.A.guards = some []) (hr : Room k X.A) (hm : ∃ o, X.base.get? sysModules = some o) (ha : PE X a ta) (h1 : Gl X "repr" := by rfl) (he : starEach (a :: []) X.env = (false, eval a X.env) :: starEach [] X.env := by rfl) :
    PE X (.Call (.Name "repr" p) [a] [] pos) (tCB rRepr (tCons ta tNil)) := pe_callB (cr_repr hG hr hm) h1 B.repr (by decide +kernel) (pa_cons ha pa_nil he) (by decide) (by decide) he
end
end SL
set_option Elab.async false
set_option linter.all false
set_option maxRecDepth 100000
set_option maxHeartbeats 2000000
/-! own words, 13: xs != [], t != (), t * k -/
namespace SL
open PySem PySem.Spec PyProof.Rows L2 GxR NdefX GA
section
variable {X : Cx}
/-- xs != ys, ys empty -/
def rNeNil (K : PySem.W.Frag) : R2 := fun x y H Q => ∃ a b xs, x = .ref a ∧ y = .ref b ∧ ((SqL K H a xs ∧ SqL K H b []) ∨ (SqT K H a xs ∧ SqT K H b [])) ∧ Q (.bl (!xs.isEmpty)) H
theorem op_neNil (hu : X.A.units < cLine) : OpR X (compareOp .NotEq) (rNeNil X.K) := by
  intro pins s σ H x y v u Q I rx ry h
  obtain ⟨a, b, xs, rfl, rfl, h, q⟩ := h
  cases rx
  cases ry
  show wpAny _ _ (richCompare .NotEq (.ref a) (.ref b)) _ _ _
  have fin : EP X pins σ Q (.bool (!xs.isEmpty)) s := ⟨.bl _, H, I, rfl, q⟩
  rcases h with ⟨h1, h2⟩ | ⟨h1, h2⟩
  · obtain ⟨its, r, p, _⟩ := I.list h1
    obtain ⟨its2, r2, p2, _⟩ := I.list h2
    cases r2
    obtain ⟨o, n, g, c, _, dd⟩ := p
    obtain ⟨o2, n2, g2, c2, _, dd2⟩ := p2
    have l1 : s.heap.IsList a its.toArray := ⟨o, g, c, n, dd⟩
    have l2 : s.heap.IsList b ([] : List Value).toArray := ⟨o2, g2, c2, n2, dd2⟩
    cases r with
    | nil => exact PySem.SeqAt.RcNeAt.lists l1 l2 rfl hu (e := fun _ => true) (fun j hj _ => absurd hj (Nat.not_lt_zero _)) _ _ _ _ fin
    | cons _ _ => exact PySem.SeqAt.RcNeAt.lists_lengths l1 l2 rfl hu _ _ _ _ fin
  · obtain ⟨its, r, ⟨o, g, c, n, dd⟩, _⟩ := I.tuple h1
    obtain ⟨its2, r2, ⟨o2, g2, c2, n2, dd2⟩, _⟩ := I.tuple h2
    cases r2
    have l1 : s.heap.IsTuple a its.toArray := ⟨o, g, c, n, dd⟩
    have l2 : s.heap.IsTuple b ([] : List Value).toArray := ⟨o2, g2, c2, n2, dd2⟩
    refine PySem.SeqAt.RcNeAt.tuples l1 l2 hu (e := fun _ => true) (fun j _ hj => absurd hj (Nat.not_lt_zero _)) _ _ _ _ ?_
    cases r with
    | nil => exact fin
    | cons _ _ => simpa using fin
/-- t * k, k being 2 or 3; the empty tuple is itself -/
def rTimes (K : PySem.W.Frag) : R2 := fun x y H Q => ∃ l k xs, x = .ref l ∧ y = .int k ∧ SqT K H l xs ∧ 2 ≤ k ∧ k ≤ 3 ∧ xs.length ≤ 2000000 ∧ (xs = [] → Q (.ref l) H) ∧ (xs ≠ [] → ∀ p, H p = none → Q (.ref p) (upd H p (.tup (List.replicate k.toNat xs).flatten)))
theorem mul_nil (l : Addr) (n : Nat) (dd : Option Addr) (sl : Array (Option Value)) (x : Int) (u : Tok) (c0 : (decide (x < -(2 ^ 63)) || decide (x ≥ 2 ^ 63)) = false) :
    Meets (Builtin.«tuple.__mul__» ⟨[.ref l, .int x u], []⟩) (fun _ R s => s.heap.get? l = some { cls := .type "tuple", dict := dd, data := .seq #[] n, slots := sl } ∧ R (.ok (.ret (.ref l))) s) :=
  .of_wp fun prog w A R s h => by
    obtain ⟨hp, g, d, tk, os⟩ := s
    obtain ⟨hl, h⟩ := h
    have f1 := AutoSeq1.idx_int
    wp_walk using wpAny_loadPart' hl
    repeat (first
      | (refine wpAny_ite_false (decide_eq_false (by rw [c0]; exact Bool.false_ne_true)) ?_; wp_walk using wpAny_loadPart' hl))
    exact ⟨_, rfl, h⟩
theorem op_times : OpR X (binaryOp .Mult) (rTimes X.K) := by
  intro pins s σ H x y v u Q I rx ry h
  obtain ⟨l, k, xs, rfl, rfl, hT, k2, k3, hz, q0, q1⟩ := h
  cases rx
  obtain ⟨t, rfl⟩ := ry
  obtain ⟨its, r, ⟨⟨cls, dd, data, sl⟩, ho, hc, n, hd⟩, _⟩ := I.tuple hT
  simp only at hc hd
  subst hc hd
  have hle : its.length = xs.length := r.length.symm
  have c0 : (decide (k < -(2 ^ 63)) || decide (k ≥ 2 ^ 63)) = false := by
    rw [decide_eq_false (by omega), decide_eq_false (by omega)] <;> rfl
  refine wpAny_binaryOp_repeat_ref (T := "tuple") (U := "int") (by decide) ⟨_, ho, rfl⟩ (fun s' => typeIs_int s' k t) noFill_tuple_mul F.fills_int_mul F.slot_int_rmul repeat_tuple F.slot_int_index.lookup
    (call_meets F.slot_int_rmul (typeIs_int s k t) F.entry_int_rmul (F.args_int_rmul_2 _ _) (int_rmul_tuple k t l its.toArray n dd sl) ⟨ho, rfl, ⟨_, ho, rfl⟩, ?_⟩)
  by_cases hne : xs = []
  · subst hne
    cases r
    exact call_meets F.slot_tuple_mul ⟨_, ho, rfl⟩ F.entry_tuple_mul (F.args_tuple_mul_2 _ _) (mul_nil l n dd sl k t c0) ⟨ho, .ref l, H, I, rfl, q0 rfl⟩
  · have hi : its.toArray.isEmpty = false := by
      cases r with
      | nil => exact absurd rfl hne
      | cons _ _ => rfl
    have hsz0 : its.toArray.size = xs.length := by rw [List.size_toArray, hle]
    have hm : ((its.toArray.size : Nat) : Int) * k ≤ 6000000 := by
      rw [hsz0]
      have a1 : ((xs.length : Nat) : Int) * k ≤ 2000000 * k := Int.mul_le_mul_of_nonneg_right (by omega) (by omega)
      omega
    have lim : k.toNat * xs.length ≤ 3 * 2000000 := Nat.mul_le_mul (by omega) hz
    have flen : (List.replicate k.toNat its).flatten.length ≤ sizeLine := by
      rw [PyProof.Rows.lm_len_rep_flat, hle, sizeLine_eq]
      omega
    have c1 : (its.toArray.isEmpty || k == 1) = false := by
      rw [hi, Bool.false_or]
      exact beq_eq_false_iff_ne.mpr (by omega)
    have c2 : (decide (k ≤ 0) || its.toArray.isEmpty) = false := by
      rw [hi, Bool.or_false]
      exact decide_eq_false (by omega)
    have c4 : Builtin.Tuple.tupleTooMany (((its.toArray.size : Nat) : Int) * k) = false := by
      unfold Builtin.Tuple.tupleTooMany
      rw [sizeLine_eq]
      exact decide_eq_false (by omega)
    refine call_meets F.slot_tuple_mul ⟨_, ho, rfl⟩ F.entry_tuple_mul (F.args_tuple_mul_2 _ _) (tuple_mulW l its.toArray n dd sl k t c0 c1 c2 (by omega) c4 (by rw [size_rep, List.size_toArray]; exact flen)) ⟨ho, ?_⟩
    rw [size_rep]
    refine ⟨.ref s.heap.objs.size, _, I.laid (t' := s.toks) (o := .tup (List.replicate k.toNat xs).flatten) (fun b ob q => Heap.get?_push_of_some _ q) (Nat.le_refl _) ?_, rfl, q1 hne _ (I.hok.fresh (Nat.le_refl _))⟩
    exact ⟨by rw [PyProof.Rows.lm_len_rep_flat, sizeLine_eq]; omega, _, r.rep k.toNat, IsTup.new _ _⟩
end
end SL
set_option Elab.async false
set_option linter.all false
set_option maxRecDepth 100000
set_option maxHeartbeats 2000000
/-! own words, 14: ascii texts -/
namespace SL
open PySem PySem.Spec PyProof.Rows L2 GxR NdefX GA
theorem asc_mem {x : Str} (h : asc x = true) : ∀ c ∈ x.cps.toList, c < 128 := fun c hc => of_decide_eq_true (List.all_eq_true.mp h c hc)
theorem asc_of {x : Str} (h : ∀ c ∈ x.cps.toList, c < 128) : asc x = true := List.all_eq_true.mpr fun c hc => decide_eq_true (h c hc)
theorem cps_add (x y : Str) : (x ++ y).cps.toList = x.cps.toList ++ y.cps.toList := by
  show (x.cps ++ y.cps).toList = _
  simp
theorem asc_add {x y : Str} (h : asc x = true) (k : asc y = true) : asc (x ++ y) = true := asc_of fun c hc => by
  rw [cps_add] at hc
  exact (List.mem_append.mp hc).elim (asc_mem h c) (asc_mem k c)
theorem asc_one {x : Str} {c : Nat} (h : asc x = true) (hc : c ∈ x.cps.toList) : asc ⟨#[c]⟩ = true := asc_of fun d hd => by
  have : d = c := by simpa using hd
  rw [this]
  exact asc_mem h c hc
theorem cutS_list (z : Str) (lo hi : Option Int) : (cutS z lo hi).cps.toList = (z.cps.toList.drop (HT.sIx z.length 0 lo)).take (HT.sIx z.length z.length hi - HT.sIx z.length 0 lo) := by
  unfold cutS
  simp
theorem len_list (z : Str) : z.length = z.cps.toList.length := by simp [Str.length]
theorem asc_cut {z : Str} (h : asc z = true) (lo hi : Option Int) : asc (cutS z lo hi) = true := asc_of fun c hc => by
  rw [cutS_list] at hc
  exact asc_mem h c (List.mem_of_mem_drop (List.mem_of_mem_take hc))
theorem len_cut (z : Str) (lo hi : Option Int) : (cutS z lo hi).length ≤ z.length := by
  rw [len_list, cutS_list, List.length_take, List.length_drop, ← len_list]
  omega
/-- z[1:10] has nine signs at most -/
theorem len_cut9 (z : Str) : (cutS z (some 1) (some 10)).length ≤ 9 := by
  have a := HT.sIx_nat z.length 0 1
  have b := HT.sIx_nat z.length z.length 10
  have a : HT.sIx z.length 0 (some 1) = min 1 z.length := a
  have b : HT.sIx z.length z.length (some 10) = min 10 z.length := b
  rw [len_list, cutS_list, List.length_take, List.length_drop, a, b, ← len_list]
  omega
theorem up_len {x : Str} (h : asc x = true) : (Txt.upper x).length = x.length ∧ asc (Txt.upper x) = true := by
  rw [PyProof.Rows.upper_ascii (asc_mem h)]
  refine ⟨by simp [Str.length], asc_of fun c hc => ?_⟩
  have hc : c ∈ (x.cps.map up1).toList := hc
  rw [Array.toList_map] at hc
  obtain ⟨d, hd, rfl⟩ := List.mem_map.mp hc
  have := asc_mem h d hd
  unfold up1
  split <;> omega
theorem lo_len {x : Str} (h : asc x = true) : (Txt.lower x).length = x.length ∧ asc (Txt.lower x) = true := by
  rw [PyProof.Rows.lower_ascii (asc_mem h)]
  refine ⟨by simp [Str.length], asc_of fun c hc => ?_⟩
  have hc : c ∈ (x.cps.map lo1).toList := hc
  rw [Array.toList_map] at hc
  obtain ⟨d, hd, rfl⟩ := List.mem_map.mp hc
  have := asc_mem h d hd
  unfold lo1
  split <;> omega
theorem join_nil (ys : List Str) : Txt.join (⟨#[]⟩ : Str) ys = Str.join ⟨#[]⟩ ys := eq_of_beq (join_closes rfl)
/-- texts of one sign each, joined -/
theorem join_ones : ∀ {ys : List Str}, (∀ y ∈ ys, y.length ≤ 1 ∧ asc y = true) → (Str.join ⟨#[]⟩ ys).length ≤ ys.length ∧ asc (Str.join ⟨#[]⟩ ys) = true
  | [], _ => ⟨Nat.le_refl _, rfl⟩
  | y :: r, h => by
    have ih := join_ones fun z hz => h z (List.mem_cons_of_mem _ hz)
    have hy := h y List.mem_cons_self
    rw [show Str.join ⟨#[]⟩ (y :: r) = y ++ Str.join ⟨#[]⟩ r from join_nil_cons y r]
    refine ⟨?_, asc_add hy.2 ih.2⟩
    rw [strLen_append, List.length_cons]
    omega
theorem str_400 : (List.range 400).all (fun k : Nat => asc (Str.ofString (toString (k : Int))) && decide ((Str.ofString (toString (k : Int))).length ≤ 3)) = true := by decide +kernel
theorem str_100 : ((List.range 100).map fun k : Nat => Str.ofString (toString (k : Int))).Nodup := by decide +kernel
end SL
set_option Elab.async false
set_option linter.all false
set_option maxRecDepth 100000
set_option maxHeartbeats 2000000
/-! own words, 15: a, b, c = x, y, z with three local names -/
namespace SL
open PySem PySem.Spec PyProof.Rows L2 GxR NdefX GA
def tPar3 (i j k : Nat) (ta : TA) : TS := fun D σ H => ta σ H fun vs H1 => ∃ u v w, vs = [u, v, w] ∧ D.nx (((σ.set k (some w)).set j (some v)).set i (some u)) H1
theorem ps_par3 {X : Cx} {i j k : Nat} {x y z : Str} {a b c : Expr} {ta : TA} {px py pz pt pos : Pos} {kt k2 pt2} (hc : X.calm = true) (hN : X.N.Nodup) (hi : X.N[i]? = some x) (hj : X.N[j]? = some y) (hk : X.N[k]? = some z)
    (hx : X.env.scope.names.lookup x = some .local) (hy : X.env.scope.names.lookup y = some .local) (hz : X.env.scope.names.lookup z = some .local) (ha : PA X [a, b, c] ta)
    (hw : swappedStores [.Tuple [.Name x px, .Name y py, .Name z pz] kt pt] (.Tuple [a, b, c] k2 pt2) X.env = pure (some [x, y, z]))
    (hs : swapsWithSole [.Tuple [.Name x px, .Name y py, .Name z pz] kt pt] (.Tuple [a, b, c] k2 pt2) pos.line X.env = pure false := by rfl) :
    PS X (.Assign [.Tuple [.Name x px, .Name y py, .Name z pz] kt pt] (.Tuple [a, b, c] k2 pt2) pos) (tPar3 i j k ta) := by
  refine ⟨fun pins s σ H D I h => ?_⟩
  rw [exec_Assign_arm]
  refine wpAny_bind (wpAny_standAt ?_)
  rw [hs]
  refine wpAny_bind (wpAny_pure ?_)
  rw [if_neg (by decide)]
  refine wpAny_bind (Tuple_ (thn (ha.run _ pins s σ H _ I h) fun us s1 hh => ?_))
  obtain ⟨vs, H1, I1, r1, u, v, w, rfl, q1⟩ := hh
  obtain ⟨u1, u2, u3, rfl, ru, rv, rw'⟩ : ∃ u1 u2 u3, us = [u1, u2, u3] ∧ RelV u u1 ∧ RelV v u2 ∧ RelV w u3 := by
    rcases r1 with _ | ⟨p, _ | ⟨p2, _ | ⟨p3, r⟩⟩⟩
    cases r
    exact ⟨_, _, _, rfl, p, p2, p3⟩
  refine wpAny_newObj_type ?_ (by show 3 ≤ sizeLine; decide)
  have I2 : Inv X pins σ H1 { s1 with heap := s1.heap.push { cls := .type "tuple", data := .seq [u1, u2, u3].toArray } } := I1.kept (t' := s1.toks) fun b o e => Heap.get?_push_of_some _ e
  rw [hw]
  refine wpAny_bind (wpAny_pure ?_)
  show wpAny (model X.prog X.w) X.A (do rule "assign.swapped-stores"; let items ← unpackItems (.ref s1.heap.objs.size) 3 none; assignInOrder [fun v => bindName X.env z v, fun v => bindName X.env y v, fun v => bindName X.env x v] items.reverse; pure Flow.next) _ _ _
  refine wpAny_bind (wpAny_rule (wpAny_bind (unpackItems_tuple (items := #[u1, u2, u3]) (I.ok.hd hc) (IsTup.new s1.heap _) fun h' hx' => ?_)))
  have I3 := I2.kept (h' := h') (t' := s1.toks) fun b o e => hx' b o (Nat.ne_of_lt (Heap.lt_size e)) e
  show wpAny _ _ (assignInOrder [fun v => bindName X.env z v, fun v => bindName X.env y v, fun v => bindName X.env x v] [u3, u2, u1] >>= fun _ => pure Flow.next) _ _ _
  refine wpAny_bind (assignInOrder_cons (wpAny_bindName (store_ok I3 hN hk (.inl hz) rw' (fun s2 I4 => ?_) (.inr hz))))
  refine assignInOrder_cons (wpAny_bindName (store_ok I4 hN hj (.inl hy) rv (fun s3 I5 => ?_) (.inr hy)))
  refine assignInOrder_cons (wpAny_bindName (store_ok I5 hN hi (.inl hx) ru (fun s4 I6 => assignInOrder_nil (wpAny_pure ?_)) (.inr hx)))
  exact ⟨_, _, I6, q1⟩
end SL
set_option Elab.async false
set_option linter.all false
set_option maxRecDepth 100000
set_option maxHeartbeats 2000000
/-! own words, 16: +, -, * with a whole number or a truth on the left; str of these -/
namespace SL
open PySem PySem.Spec PyProof.Rows L2 GxR NdefX GA
/-- a whole number or a truth, and as a number -/
def numV (x : V) (i : Int) : Prop := x = .int i ∨ ∃ b, x = .bl b ∧ i = if b = true then 1 else 0
section
variable {X : Cx}
def rNumI (C : Int → Int → Prop) (g : Int → Int → Int) : R2 := fun x y H Q => ∃ i j, numV x i ∧ y = .int j ∧ C i j ∧ Q (.int (g i j)) H
theorem op_addB : OpR X (binaryOp .Add) (rNumI (fun _ _ => True) (· + ·)) := by
  intro pins s σ H x y v u Q I rx ry h
  obtain ⟨i, j, hx, rfl, _, q⟩ := h
  obtain ⟨t, rfl⟩ := ry
  have fin : EP X pins σ Q (.int (i + j) s.toks) { s with toks := s.toks + 1 } := ⟨.int (i + j), H, I.tok _, ⟨_, rfl⟩, q⟩
  rcases hx with rfl | ⟨b, rfl, rfl⟩
  · obtain ⟨t', rfl⟩ := rx
    exact add_int fin
  · cases rx
    exact IntBool.add_bool_int fin
theorem op_subB : OpR X (binaryOp .Sub) (rNumI (fun _ _ => True) (· - ·)) := by
  intro pins s σ H x y v u Q I rx ry h
  obtain ⟨i, j, hx, rfl, _, q⟩ := h
  obtain ⟨t, rfl⟩ := ry
  have fin : EP X pins σ Q (.int (i - j) s.toks) { s with toks := s.toks + 1 } := ⟨.int (i - j), H, I.tok _, ⟨_, rfl⟩, q⟩
  rcases hx with rfl | ⟨b, rfl, rfl⟩
  · obtain ⟨t', rfl⟩ := rx
    exact sub_int fin
  · cases rx
    exact IntBool.sub_bool_int fin
theorem op_mulB : OpR X (binaryOp .Mult) (rNumI CMul (· * ·)) := by
  intro pins s σ H x y v u Q I rx ry h
  obtain ⟨i, j, hx, rfl, hc, q⟩ := h
  obtain ⟨t, rfl⟩ := ry
  have fin : EP X pins σ Q (.int (i * j) s.toks) { s with toks := s.toks + 1 } := ⟨.int (i * j), H, I.tok _, ⟨_, rfl⟩, q⟩
  rcases hx with rfl | ⟨b, rfl, rfl⟩
  · obtain ⟨t', rfl⟩ := rx
    exact mul_int fin hc.ok
  · cases rx
    exact IntBool.mul_bool_int fin
theorem neg_bool {prog : Program} {w : World} {A : Around} {E : Value → Shared → Prop} {s : Shared} {b : Bool} {Q : Value → Shared → Prop} (h : Q (.int (-(if b = true then 1 else 0)) s.toks) { s with toks := s.toks + 1 }) : wpAny (model prog w) A (unaryOp .USub (.bool b)) Q E s := by
  refine unaryOp_gives (op := .USub) (PySem.typeIs_bool s b) rfl F.slot_bool_neg F.entry_int_neg (F.args_int_neg_1 _) (m := Made.int (-(if b = true then 1 else 0))) (by cases b <;> exact .of_eq rfl) h
def rNegB : V → Hp → VK → Prop := fun x H Q => ∃ i, numV x i ∧ Q (.int (-i)) H
theorem un_negB {X : Cx} : UnR X (unaryOp .USub) rNegB := by
  intro pins s σ H x v Q I rx h
  obtain ⟨i, hx, q⟩ := h
  have fin : EP X pins σ Q (.int (-i) s.toks) { s with toks := s.toks + 1 } := ⟨.int (-i), H, I.tok _, ⟨_, rfl⟩, q⟩
  rcases hx with rfl | ⟨b, rfl, rfl⟩
  · obtain ⟨t', rfl⟩ := rx
    exact neg_int fin
  · cases rx
    exact neg_bool fin
/-- str(x) of a whole number or a truth: some ascii text -/
def rStrN : List V → Hp → VK → Prop := fun xs H Q => (∃ i, xs = [.int i] ∧ i.natAbs.log2 < 1920 ∧ Q (.str (toString i)) H) ∨ ∃ b, xs = [.bl b] ∧ Q (.str (if b = true then "True" else "False")) H
theorem cr_strN : CallR X (.type "str") rStrN := by
  intro pins s σ H xs us Q I r h
  rcases h with ⟨i, rfl, hz, q⟩ | ⟨b, rfl, q⟩
  · exact call_str_int pins s σ H _ us Q I r ⟨i, rfl, hz, q⟩
  · obtain ⟨u, rfl, ru⟩ := vals1 r
    cases ru
    exact PySem.P.str_of_bool ⟨.str _, H, I.tok _, ⟨_, rfl⟩, q⟩
end
end SL
set_option Elab.async false
set_option linter.all false
set_option maxRecDepth 100000
set_option maxHeartbeats 2000000
/-! own words, 17: parts of data lists: ints, depth, slices -/
namespace SL
open PySem PySem.Spec PyProof.Rows L2 GxR NdefX GA
theorem niceAll_iff {n : Nat} : ∀ {xs : List PyData}, niceAll n xs = true ↔ ∀ d ∈ xs, nice n d = true
  | [] => by simp [niceAll]
  | x :: xs => by
    simp only [niceAll, Bool.and_eq_true, List.mem_cons, forall_eq_or_imp]
    exact and_congr Iff.rfl niceAll_iff
theorem depthAll_le {D : Nat} : ∀ {xs : List PyData}, PyData.depthAll xs ≤ D ↔ ∀ d ∈ xs, d.depth ≤ D
  | [] => by simp [PyData.depthAll]
  | x :: xs => by
    have ih := depthAll_le (D := D) (xs := xs)
    simp only [PyData.depthAll, List.mem_cons, forall_eq_or_imp]
    rw [← ih]
    omega
theorem nice_tup {n : Nat} {xs : List PyData} : nice n (.tuple xs) = true ↔ ∀ d ∈ xs, nice n d = true := by
  simp only [nice]
  exact niceAll_iff
theorem nice_lst {n : Nat} {xs : List PyData} : nice n (.list xs) = true ↔ ∀ d ∈ xs, nice n d = true := by
  simp only [nice]
  exact niceAll_iff
theorem depth_tup {D : Nat} {xs : List PyData} : (PyData.tuple xs).depth ≤ D + 1 ↔ ∀ d ∈ xs, d.depth ≤ D := by
  rw [← depthAll_le]
  simp only [PyData.depth]
  omega
theorem depth_lst {D : Nat} {xs : List PyData} : (PyData.list xs).depth ≤ D + 1 ↔ ∀ d ∈ xs, d.depth ≤ D := by
  rw [← depthAll_le]
  simp only [PyData.depth]
  omega
theorem wt_tupl (xs : List PyData) : wt (.tuple xs) = wtAll xs + 4 := by simp only [wt]
theorem wt_lst (xs : List PyData) : wt (.list xs) = wtAll xs + 4 := by simp only [wt]
/-- the slice of data -/
def cutD (ds : List PyData) (lo hi : Option Int) : List PyData := (ds.drop (HT.sIx ds.length 0 lo)).take (HT.sIx ds.length ds.length hi - HT.sIx ds.length 0 lo)
theorem cutD_mem {ds : List PyData} {lo hi : Option Int} {d : PyData} (h : d ∈ cutD ds lo hi) : d ∈ ds := List.mem_of_mem_drop (List.mem_of_mem_take h)
theorem cutD_wt (ds : List PyData) (lo hi : Option Int) : wtAll (cutD ds lo hi) ≤ wtAll ds := Nat.le_trans (wtAll_take _ _) (wtAll_drop _ _)
theorem cutD_len (ds : List PyData) (lo hi : Option Int) : (cutD ds lo hi).length ≤ ds.length := by
  unfold cutD
  rw [List.length_take, List.length_drop]
  omega
theorem DvAll.cutD {M : List Addr} {H : Hp} {xs : List V} {ds : List PyData} (h : DvAll M H xs ds) (lo hi : Option Int) : DvAll M H (cutV xs lo hi) (cutD ds lo hi) := h.cut lo hi
theorem rep_mem {n : Nat} {ds : List PyData} {d : PyData} (h : d ∈ (List.replicate n ds).flatten) : d ∈ ds := by
  obtain ⟨l, hl, hd⟩ := List.mem_flatten.mp h
  rw [(List.mem_replicate.mp hl).2] at hd
  exact hd
theorem DvAll.rep {M : List Addr} {H : Hp} {xs : List V} {ds : List PyData} (h : DvAll M H xs ds) : ∀ n : Nat, DvAll M H (List.replicate n xs).flatten (List.replicate n ds).flatten
  | 0 => .nil
  | n + 1 => by
    rw [List.replicate_succ, List.flatten_cons, List.replicate_succ, List.flatten_cons]
    exact h.append (DvAll.rep h n)
theorem rep_wt (ds : List PyData) : ∀ n : Nat, wtAll (List.replicate n ds).flatten = n * wtAll ds
  | 0 => by simp [wtAll]
  | n + 1 => by
    rw [List.replicate_succ, List.flatten_cons, wtAll_append, rep_wt ds n, Nat.succ_mul]
    omega
theorem cutD_lo {ds : List PyData} {i : Nat} (h : i ≤ ds.length) : cutD ds none (some (i : Int)) = ds.take i := by
  unfold cutD
  rw [HT.sIx_none, HT.sIx_nat, List.drop_zero, Nat.sub_zero, Nat.min_eq_left h]
theorem cutD_hi {ds : List PyData} {i : Nat} (h : i ≤ ds.length) : cutD ds (some (i : Int)) none = ds.drop i := by
  unfold cutD
  rw [HT.sIx_none, HT.sIx_nat, Nat.min_eq_left h]
  exact List.take_of_length_le (by rw [List.length_drop]; omega)
theorem wt_around {ds : List PyData} {i : Nat} {d : PyData} (h : ds[i]? = some d) : wtAll (ds.take i) + (wt d + 2 + wtAll (ds.drop (i + 1))) = wtAll ds := by
  have hi : i < ds.length := (List.getElem?_eq_some_iff.mp h).1
  have e : ds.drop i = d :: ds.drop (i + 1) := by
    rw [List.drop_eq_getElem_cons hi]
    congr 1
    exact (List.getElem?_eq_some_iff.mp h).2
  have w := wtAll_append (ds.take i) (ds.drop i)
  rw [List.take_append_drop, e] at w
  simp only [wtAll] at w
  omega
end SL
set_option Elab.async false
set_option linter.all false
set_option maxRecDepth 100000
set_option maxHeartbeats 2000000
/-! own words, 18: the law's def called where no guard is about, beside tables of code objects -/
namespace SL
open PySem PySem.Spec PyProof.Rows L2 GxR NdefX GA
abbrev scrO (us : List Value) : Obj := { cls := .type "list", data := .seq us.toArray }
abbrev tblO : Obj := { cls := .none, data := .fields #[] }
/-- where the law is called: the written part, the names, code objects cs with their empty tables, the script -/
structure Stand (K : PySem.W.Frag) (mg mb : Str → Option Value) (cs : List (Addr × Addr)) (s : Shared) (a : Addr) (us : List Value) (ns : List Int) : Prop where
  kin : K.In s.heap
  glo : s.heap.Ns mainGlobals mg
  blt : s.heap.Ns builtinsNs mb
  boot : ∀ y : Str, y ≠ "__name__" → mb y = bootBuiltins y
  lim : s.heap.NoLimit
  gens : s.gens = #[]
  tab : ∀ p ∈ cs, s.heap.get? p.2 = some tblO
  tabK : ∀ p ∈ cs, K.lookup p.2 = none
  code : ∀ p ∈ cs, PySem.W.CodeHd s.heap p.1 p.2
  bm : ∃ (m : Addr) (ob : Obj), mg "__builtins__" = some (.ref m) ∧ m ≠ builtinsNs ∧ s.heap.get? m = some ob ∧ ob.cls = .type "module" ∧ ob.dict = some builtinsNs ∧ ob.data = .plain
  scr : s.heap.get? a = some (scrO us)
  mods : ∃ m, s.heap.Ns sysModules m
  nums : IntsAre us ns
  short : ns.length ≤ sizeLine
/-- what is tracked there: the tables; the script, unless the top has written it -/
def trk0 (K : PySem.W.Frag) (cs : List (Addr × Addr)) (a : Addr) (us : List Value) (ns : List Int) : Hp := fun b =>
  if b ∈ cs.map (·.2) then some (.tbl #[]) else if b = a ∧ (K.lookup a).isNone = true then some (.frz (scrO us) (.lst (ns.map V.int))) else none
section
variable {P : Program} {w : World} {K : PySem.W.Frag} {mg mb : Str → Option Value} {cs : List (Addr × Addr)} {s : Shared} {a b : Addr} {us : List Value} {ns : List Int} {o : Obj} {u : HO}
theorem trk0_tab {p : Addr × Addr} (h : p ∈ cs) : trk0 K cs a us ns p.2 = some (.tbl #[]) := if_pos (List.mem_map_of_mem h)
theorem Stand.cases (S : Stand K mg mb cs s a us ns) (h : trk0 K cs a us ns b = some u) :
    (u = .tbl #[] ∧ s.heap.get? b = some tblO ∧ ∃ p ∈ cs, p.2 = b) ∨ (u = .frz (scrO us) (.lst (ns.map V.int)) ∧ b = a ∧ K.lookup a = none) := by
  unfold trk0 at h
  split at h
  · rename_i m
    obtain ⟨p, hp, e⟩ := List.mem_map.mp m
    cases h
    exact .inl ⟨rfl, by rw [← e]; exact S.tab p hp, p, hp, e⟩
  · split at h
    · rename_i m
      cases h
      exact .inr ⟨rfl, m.1, by simpa using m.2⟩
    · cases h
/-- what is neither a list nor a table is not tracked -/
theorem Stand.off (S : Stand K mg mb cs s a us ns) (e : s.heap.get? b = some o) (n1 : ∀ vs n, o.data ≠ .seq vs n) (n2 : o.data ≠ .fields #[]) : trk0 K cs a us ns b = none := by
  cases q : trk0 K cs a us ns b with
  | none => rfl
  | some u =>
    rcases S.cases q with ⟨_, e2, _⟩ | ⟨_, rfl, _⟩
    · rw [e] at e2
      cases e2
      exact absurd rfl n2
    · rw [S.scr] at e
      cases e
      exact absurd rfl (n1 _ _)
theorem Stand.base (S : Stand K mg mb cs s a us ns) (e : s.heap.get? b = some o) (n1 : ∀ vs n, o.data ≠ .seq vs n) (n2 : o.data ≠ .fields #[]) : (hidT s.heap (trk0 K cs a us ns)).get? b = some o := hidT_get e (S.off e n1 n2)
theorem Stand.named (S : Stand K mg mb cs s a us ns) {g : Addr} {m : Str → Option Value} (h : s.heap.Ns g m) : (hidT s.heap (trk0 K cs a us ns)).Ns g m := by
  obtain ⟨o, es, ep, e, d, r⟩ := h
  exact ⟨o, es, ep, S.base e (by rw [d]; intro _ _ z; cases z) (by rw [d]; intro z; cases z), d, r⟩
theorem Stand.kinB (S : Stand K mg mb cs s a us ns) : K.In (hidT s.heap (trk0 K cs a us ns)) := fun b o e => by
  refine hidT_get (S.kin b o e) ?_
  cases q : trk0 K cs a us ns b with
  | none => rfl
  | some u =>
    rcases S.cases q with ⟨_, _, p, hp, rfl⟩ | ⟨_, rfl, k⟩
    · rw [S.tabK p hp] at e
      cases e
    · rw [k] at e
      cases e
theorem Stand.mod (S : Stand K mg mb cs s a us ns) : L2.Mod K mg (hidT s.heap (trk0 K cs a us ns)) := by
  obtain ⟨mc, l1, l2⟩ := S.lim
  exact ⟨S.kinB, S.named S.glo, ⟨mb, S.named S.blt, S.boot⟩, mc, S.named l1, l2⟩
theorem Stand.tabB (S : Stand K mg mb cs s a us ns) {p : Addr × Addr} (hp : p ∈ cs) : GxR.TabB (hidT s.heap (trk0 K cs a us ns)) mg p.1 p.2 := by
  have ht := S.tab p hp
  refine ⟨?_, ?_, ?_⟩
  · obtain ⟨o, vs, file, tf, flags, tg, inF, text, tt, e, r1, r2, r3, r⟩ := S.code p hp
    refine ⟨o, vs, file, tf, flags, tg, inF, text, tt, S.base e (by rw [r2]; intro _ _ z; cases z) ?_, r1, r2, r3, r⟩
    rw [r2]
    intro z
    cases z
    simp at r3
  · obtain ⟨m, ob, b1, b2, b3, b4, b5, b6⟩ := S.bm
    refine ⟨m, ob, b1, b2, ?_, ?_, S.base b3 (by rw [b6]; intro _ _ z; cases z) (by rw [b6]; intro z; cases z), b4, b5, b6⟩
    · rintro rfl
      obtain ⟨o, es, ep, e, d, _⟩ := S.glo
      rw [b3] at e
      cases e
      rw [b6] at d
      cases d
    · rintro rfl
      rw [ht] at b3
      cases b3
      cases b6
  · intro z
    obtain ⟨o, es, ep, e, d, _⟩ := S.glo
    rw [z, ht] at e
    cases e
    cases d
theorem Stand.hok (S : Stand K mg mb cs s a us ns) : HOk P w (trk0 K cs a us ns) s.heap := fun b u h => by
  rcases S.cases h with ⟨rfl, e, _⟩ | ⟨rfl, rfl, _⟩
  · exact e
  · exact ⟨S.scr, by rw [List.length_map]; exact S.short, us, _, vals_ints S.nums, S.scr⟩
theorem Stand.sq (S : Stand K mg mb cs s a us ns) : SqL K (trk0 K cs a us ns) a (ns.map V.int) := by
  have na : a ∉ cs.map (·.2) := fun m => by
    obtain ⟨p, hp, e⟩ := List.mem_map.mp m
    have t := S.tab p hp
    rw [e, S.scr] at t
    cases t
  cases k : K.lookup a with
  | none => exact .inl (.inr ⟨scrO us, (if_neg na).trans (if_pos ⟨rfl, by rw [k] <;> rfl⟩)⟩)
  | some o =>
    have e := S.kin a o k
    rw [S.scr] at e
    cases e
    exact .inr ⟨_, us.toArray, _, k, rfl, rfl, rfl, by rw [List.size_toArray, S.nums.length]; exact S.short, by simpa using vals_ints S.nums⟩
theorem Stand.env (S : Stand K mg mb cs s a us ns) : Env0 P w K mg (hidT s.heap (trk0 K cs a us ns)) callerA [] s (trk0 K cs a us ns) where
  frames := rfl
  mod := S.mod
  bs := fun _ _ e => of_hidT e
  bsz := Nat.le_of_eq (hidT_size _ _)
  funs := trivial
  frf := fun _ h => absurd h List.not_mem_nil
  hok := S.hok
  bare := .of_eq S.gens
/-- what stood before stands behind the call, the tables grown -/
theorem Stand.old (S : Stand K mg mb cs s a us ns) {s' : Shared} {H' : Hp} (un : Un [] [] (trk0 K cs a us ns) H' s.heap s'.heap) (ok : HOk P w H' s'.heap) : OldK s.heap s'.heap := by
  have grown : ∀ p ∈ cs, ∃ more : Array Value, s'.heap.get? p.2 = some { cls := .none, data := .fields more } := fun p hp => by
    obtain ⟨more, e⟩ := un.tbls p.2 #[] (trk0_tab hp)
    exact ⟨_, ok _ _ e⟩
  have each : ∀ b o, s.heap.get? b = some o → s'.heap.get? b = some o ∨ ∃ p ∈ cs, p.2 = b := fun b o e => by
    cases q : trk0 K cs a us ns b with
    | none => exact .inl (un.keep b o e q List.not_mem_nil List.not_mem_nil)
    | some u =>
      rcases S.cases q with ⟨_, _, h⟩ | ⟨rfl, rfl, _⟩
      · exact .inr h
      · refine .inl ?_
        have k := (ok _ _ (un.frzs _ _ _ q)).1
        rw [S.scr] at e
        cases e
        exact k
  refine ⟨fun b o e => ?_, fun b o e => ?_⟩
  · rcases each b o e with h | ⟨p, hp, rfl⟩
    · exact .inl h
    · obtain ⟨more, hm⟩ := grown p hp
      rw [S.tab p hp] at e
      cases e
      exact .inr (.inl ⟨((S.code p hp).tab (S.tab p hp)).isCodeTable, rfl, #[], more, rfl, by rw [Array.empty_append]; exact hm⟩)
  · rcases each b o e with h | ⟨p, hp, rfl⟩
    · exact ⟨o, h⟩
    · obtain ⟨more, hm⟩ := grown p hp
      exact ⟨_, hm⟩
/-- the call gives True -/
theorem Stand.run (S : Stand K mg mb cs s a us ns) {k : Nat} {fa : Addr} {fd : FuncData} {x : Str} {sp : Sp} (hr : Room k callerA) (F : ∀ base : Heap, K.In base → base.Ns mainGlobals mg → (∃ o, base.get? sysModules = some o) → (∀ p ∈ cs, GxR.TabB base mg p.1 p.2) → FnG P w K mg base k fa fd [x] sp)
    (hb : ∀ (t : Shared) (v : Value), BindsTo t fd ⟨[v], []⟩ [(x, v)]) (hsp : ∀ H : Hp, (∀ p ∈ cs, H p.2 = some (.tbl #[])) → SqL K H a (ns.map V.int) → sp [.ref a] H (fun v _ => v = .bl true) E0) :
    codeAny (model P w) callerA (.call (.ref fa) ⟨[.ref a], []⟩) (fun r s' => r = .ok (.ret (.bool true)) ∧ OldK s.heap s'.heap ∧ s'.os = s.os ∧ AllBare s'.gens) s := by
  obtain ⟨m, hm⟩ := S.mods
  obtain ⟨ob, _, _, eb, _⟩ := S.named hm
  have G := F _ S.kinB (S.named S.glo) ⟨ob, eb⟩ fun p hp => S.tabB hp
  have go := G.run callerA [] s (trk0 K cs a us ns) ⟨[.ref a], []⟩ [.ref a] [.ref a] _ rfl hr S.env (hb s (.ref a)) (.cons rfl .nil) (hsp _ (fun _ hp => trk0_tab hp) S.sq)
  refine codeAny_mono go ?_
  rintro (err | fl) s' h
  · exact False.elim h
  · rcases fl with _ | _ | _ | v
    · exact False.elim h
    · exact False.elim h
    · exact False.elim h
    · obtain ⟨y, H', os, bare, un, ok, rel, rfl⟩ := h
      cases rel
      exact ⟨rfl, S.old un ok, os, bare⟩
end
/-- the law's row, once its def is shown to give True -/
theorem walkG {l : PySem.W.OpenLaw} {n k : Nat} {q : Program} {loose : List Str} {XP : (Str → Option Value) → Heap → Prop} {YP : World → Heap → Prop} {d : DefRec} {K : Params → PySem.W.Frag} {x : Str}
    (hn : l.most = some n) (hn2 : n ≤ sizeLine) (hdf : d.params.defaults = []) (hq : importsNone q = true) (hr : Room k callerA) (hY : ∀ (w : World) (h : Heap), YP w h → (K w.params).In h)
    (F : ∀ (w : World) (mg : Str → Option Value) (fa : Addr) (h : Heap), (K w.params).In h → h.Ns mainGlobals mg → mg d.name = some (.ref fa) →
      (∀ (e : DefRec) (y : Str) (c Q : Addr), (recsOf q).find? (fun r => r.name == y) = some e → PySem.W.tabIn (K w.params) y = some (c, Q) → PySem.W.CodeHd h c Q ∧ h.get? Q = some tblO) →
      ∃ (fd : FuncData) (cs : List (Addr × Addr)) (sp : Sp), (∀ p ∈ cs, h.get? p.2 = some tblO ∧ (K w.params).lookup p.2 = none ∧ PySem.W.CodeHd h p.1 p.2) ∧ (∀ (t : Shared) (v : Value), BindsTo t fd ⟨[v], []⟩ [(x, v)]) ∧
        (∀ (H : Hp) (a : Addr) (ns : List Int), ns.length ≤ n → (∀ p ∈ cs, H p.2 = some (.tbl #[])) → SqL (K w.params) H a (ns.map V.int) → sp [.ref a] H (fun v _ => v = .bl true) E0) ∧
        ∀ base : Heap, (K w.params).In base → base.Ns mainGlobals mg → (∃ o, base.get? sysModules = some o) → (∀ p ∈ cs, GxR.TabB base mg p.1 p.2) → FnG l.prog w (K w.params) mg base k fa fd [x] sp) :
    PySem.W.WalkO q loose XP YP l.row.toRowW d [] (fun f vs => PySem.call f vs) := by
  refine Att.attach_callB hn hdf fun w s₀ s₁ mg mb fa o pm cd doc a us ns G Y _ _ _ hmg hobj hints hlen _ hg => ?_
  have KX := hY w _ Y
  obtain ⟨fd, cs, sp, ht, hb, hsp, hF⟩ := F w mg fa _ KX G.T.g hmg fun e y c Q h1 h2 => PySem.W.tab_of G.T KX h1 h2
  obtain ⟨mm, hmm, _⟩ := (G.T.seer hq).mods
  have S : Stand (K w.params) mg mb cs s₁ a us ns := ⟨KX, G.T.g, G.T.b, G.T.builtins, G.T.nolimit, hg, fun p hp => (ht p hp).1, fun p hp => (ht p hp).2.1, fun p hp => (ht p hp).2.2, G.T.bmain, hobj, ⟨mm, hmm⟩, hints, Nat.le_trans hlen hn2⟩
  exact S.run hr hF hb fun H h1 h2 => hsp H a ns hlen h1 h2
end SL
set_option Elab.async false
set_option linter.all false
set_option maxRecDepth 100000
set_option maxHeartbeats 4000000
namespace K1
open PySem PySem.Spec PyProof.Rows L2 GxR NdefX GA SL
def top (i : Nat) : Stmt := PySem.Challenge.pw_sameontrees_k01_kinds_judged.main.body.getD i (.Pass ⟨0, 0, 0, 0⟩)
abbrev s_is_tuple : Stmt := top 4
abbrev s_is_name : Stmt := top 5
abbrev s_is_high : Stmt := top 6
abbrev s_is_run : Stmt := top 7
/-- a tuple of texts of the written part -/
def Kt (K : PySem.W.Frag) (a : Addr) (xs : List V) : Prop := ∃ (o : Obj) (its : Array Value) (n : Nat), K.lookup a = some o ∧ o.cls = .type "tuple" ∧ o.data = .seq its n ∧ its.size ≤ sizeLine ∧ Vals xs its.toList
/-- the module's constants -/
structure Cn (K : PySem.W.Frag) (mg : Str → Option Value) : Prop where
  longest : ∃ t, mg "LONGEST_NAME" = some (.int 10 t)
  kept : ∃ a, mg "WORDS_KEPT" = some (.ref a) ∧ Kt K a [.str "fun", .str "kind", .str "number"]
  kinds : ∃ t, mg "MOST_KINDS" = some (.int 6 t)
  makers : ∃ t, mg "MOST_MAKERS" = some (.int 6 t)
  fields : ∃ t, mg "MOST_FIELDS" = some (.int 4 t)
  rows : ∃ t, mg "MOST_ROWS" = some (.int 96 t)
  words : ∃ t, mg "MOST_WORDS" = some (.int 400 t)

def sp_is_tuple : Sp := fun vs H Q _ => ∃ (M : List Addr) (v : V) (d : PyData) (l m : Int), vs = [v, .int l, .int m] ∧ Dv M H v d ∧ Q (.bl (tupB d l m)) H
theorem sc_is_tuple : FnScope ["thing", "least", "most"] ["thing", "least", "most"] (defScope s_is_tuple) := ⟨rfl, rfl, rfl, by decide +kernel, rfl, by decide +kernel, by decide +kernel⟩
def sp_is_run : Sp := fun vs H Q _ => ∃ x : Str, vs = [.str x] ∧ Q (.bl (decide (1 ≤ x.length) && x.cps.toList.all anC)) H
theorem sc_is_run : FnScope ["text"] ["text"] (defScope s_is_run) := ⟨rfl, rfl, rfl, by decide +kernel, rfl, by decide +kernel, by decide +kernel⟩
def nameD : PyData → Bool
  | .str x => nameS x
  | _ => false
def sp_is_name : Sp := fun vs H Q _ => ∃ (M : List Addr) (v : V) (d : PyData), vs = [v] ∧ Dv M H v d ∧ wt d ≤ 4000000 ∧ Q (.bl (nameD d)) H
theorem sc_is_name : FnScope ["thing"] ["thing"] (defScope s_is_name) := ⟨rfl, rfl, rfl, by decide +kernel, rfl, by decide +kernel, by decide +kernel⟩
def sp_is_high : Sp := fun vs H Q _ => ∃ (M : List Addr) (v : V) (d : PyData), vs = [v] ∧ Dv M H v d ∧ wt d ≤ 4000000 ∧ Q (.bl (highD d)) H
theorem sc_is_high : FnScope ["thing"] ["thing"] (defScope s_is_high) := ⟨rfl, rfl, rfl, by decide +kernel, rfl, by decide +kernel, by decide +kernel⟩
section
variable {P : Program} {w : World} {K : PySem.W.Frag} {mg : Str → Option Value} {base : Heap} {f : Addr} {fd : FuncData}
theorem ok_is_tuple (F : Fun K "is_tuple" "is_tuple" s_is_tuple f fd) (B : Bl mg) : FnOk P w K mg base CX0 1 f fd ["thing", "least", "most"] sp_is_tuple := by
  refine F.ok sc_is_tuple (fun vs H Q E h => ?_) (fun cdv A outer s H vs Q E hr h => ?_)
  · obtain ⟨_, _, _, _, _, rfl, _⟩ := h
    rfl
  obtain ⟨M, v, d, l, m, rfl, hv, q⟩ := h
  refine ⟨_, pss_one (ps_ret (pe_and (pe_isi_tuple B (pv 0)) (pe_one (pe_chain op_le op_le (pv 1) (pe_lenq B (pv 0)) (pv 2))))), ?_⟩
  refine ⟨_, rfl, _, _, _, rfl, hv, ?_⟩
  cases hv with
  | @tup a xs ds e n r =>
    refine ⟨_, rfl, iteT ?_⟩
    refine ⟨_, rfl, _, rfl, _, _, rfl, .inr (SqT.of e), _, _, rfl, rfl, _, rfl, ?_⟩
    have hl := r.length
    unfold tupB at q
    simp only [← hl] at q
    by_cases c : l ≤ (xs.length : Int)
    · rw [decide_eq_true c, Bool.true_and] at q
      refine if_true_of (decide_eq_true c) ?_
      exact ⟨_, rfl, _, _, rfl, rfl, q⟩
    · rw [decide_eq_false c, Bool.false_and] at q
      exact if_false_of (decide_eq_false c) q
  | _ => exact ⟨_, rfl, iteF q⟩
theorem ok_is_run (F : Fun K "is_run" "is_run" s_is_run f fd) : FnOk P w K mg base CX0 1 f fd ["text"] sp_is_run := by
  refine F.ok sc_is_run (fun vs H Q E h => ?_) (fun cdv A outer s H vs Q E hr h => ?_)
  · obtain ⟨_, rfl, _⟩ := h
    rfl
  obtain ⟨x, rfl, q⟩ := h
  refine ⟨_, pss_one (ps_ret (pe_and (pe_bm0 PySem.F.plainAttrs_str PySem.F.slot_str_isascii PySem.F.type_str_isascii mt_isascii (pv 0)) (pe_one (pe_bm0 PySem.F.plainAttrs_str PySem.F.slot_str_isalnum PySem.F.type_str_isalnum mt_isalnum (pv 0))))), ?_⟩
  rw [← run_iff] at q
  refine ⟨_, rfl, rfl, x, rfl, rfl, trivial, _, rfl, ?_⟩
  cases e : Txt.isascii x with
  | true =>
    rw [e, Bool.true_and] at q
    refine iteT ?_
    exact ⟨_, rfl, rfl, x, rfl, rfl, trivial, q⟩
  | false =>
    rw [e, Bool.false_and] at q
    exact iteF q
theorem ok_is_name (F : Fun K "is_name" "is_name" s_is_name f fd) (B : Bl mg) (C : Cn K mg) (Fr : Fnn P w K mg base CX0 1 "is_run" ["text"] sp_is_run) : FnOk P w K mg base CX0 2 f fd ["thing"] sp_is_name := by
  obtain ⟨tl, mL⟩ := C.longest
  obtain ⟨ak, mK, hK⟩ := C.kept
  refine F.ok sc_is_name (fun vs H Q E h => ?_) (fun cdv A outer s H vs Q E hr h => ?_)
  · obtain ⟨_, _, _, rfl, _⟩ := h
    rfl
  obtain ⟨M, v, d, rfl, hv, hw, q⟩ := h
  refine ⟨_, pss_cons (ps_if (PW.pt (pw_or (pt_not (pt_val (pe_isi_str B (pv 0)))) (pw_or1 (pt_cmpR op_gt (pe_lens B (pv 0)) (pe_glob (v := .int 10) rfl mL ⟨_, rfl⟩) (nomark _))))) (pss_one (ps_ret pe_bl)) pss_nil)
    (pss_one (ps_ret (pe_and (pe_fn Fr hr (by decide) pass0 (pa_cons (pv 0) pa_nil)) (pe_and (pe_bm0 PySem.F.plainAttrs_str PySem.F.slot_str_isalpha PySem.F.type_str_isalpha mt_isalpha (pe_ix ix_str (pv 0) pe_int (fun _ _ => rfl)))
      (pe_one (pe_cmpR op_notIn_seq (pv 0) (pe_glob (v := .ref ak) rfl mK rfl) rfl)))))), ?_⟩
  refine ⟨_, rfl, _, _, _, rfl, hv, _, rfl, ?_⟩
  cases hv with
  | str x =>
    refine iteF ?_
    have hs : x.length ≤ sizeLine := sz (by unfold wt at hw; omega)
    refine ⟨_, rfl, x, rfl, hs, _, _, rfl, rfl, _, rfl, ?_⟩
    have q : Q (.bl (nameS x)) H := q
    unfold nameS at q
    by_cases c : (10 : Int) < (x.length : Int)
    · refine if_true_of (decide_eq_true c) ?_
      have c' : ¬ x.length ≤ 10 := by omega
      rw [decide_eq_false c'] at q
      exact goQ (c := false) q (by simp)
    · refine if_false_of (decide_eq_false c) ?_
      have c' : x.length ≤ 10 := by omega
      rw [decide_eq_true c'] at q
      refine ⟨_, rfl, x, rfl, _, rfl, ?_⟩
      by_cases c1 : 1 ≤ x.length
      · rw [decide_eq_true c1] at q ⊢
        obtain ⟨c0, r0, e0⟩ := cons_of_len c1
        rw [e0] at q ⊢
        by_cases c2 : (c0 :: r0).all anC = true
        · rw [c2] at q ⊢
          have hc0 : anC c0 = true := List.all_eq_true.mp c2 c0 List.mem_cons_self
          refine iteT ?_
          refine ⟨_, rfl, x, 0, c0, rfl, rfl, hs, (by rw [e0]; exact atI_nat (j := 0) rfl), rfl, _, rfl, rfl, trivial, _, rfl, ?_⟩
          rw [alpha1 (anC_lt hc0)]
          simp only [Bool.true_and] at q
          by_cases c3 : (upC c0 || loC c0) = true
          · rw [c3] at q ⊢
            refine iteT ?_
            refine ⟨_, rfl, ak, ([("fun" : Str), "kind", "number"]).map V.str, rfl, .inr (.inr hK), rfl, flat_strs _, ?_⟩
            rw [inV_strs]
            have e : decide (x ∈ [("fun" : Str), "kind", "number"]) = kept x := by
              unfold kept
              simp only [List.mem_cons, List.not_mem_nil, or_false, Bool.decide_or, Bool.or_assoc]
            rw [e]
            simpa using q
          · rw [Bool.eq_false_iff.mpr c3] at q ⊢
            exact iteF (by simpa using q)
        · rw [Bool.eq_false_iff.mpr c2] at q ⊢
          exact iteF (by simpa using q)
      · rw [decide_eq_false c1] at q ⊢
        exact iteF (by simpa using q)
  | _ => exact iteT q
theorem ok_is_high (F : Fun K "is_high" "is_high" s_is_high f fd) (Fn : Fnn P w K mg base CX0 2 "is_name" ["thing"] sp_is_name) : FnOk P w K mg base CX0 3 f fd ["thing"] sp_is_high := by
  refine F.ok sc_is_high (fun vs H Q E h => ?_) (fun cdv A outer s H vs Q E hr h => ?_)
  · obtain ⟨_, _, _, rfl, _⟩ := h
    rfl
  obtain ⟨M, v, d, rfl, hv, hw, q⟩ := h
  refine ⟨_, pss_one (ps_ret (pe_and (pe_fn Fn hr (by decide) pass0 (pa_cons (pv 0) pa_nil)) (pe_one (pe_bm0 PySem.F.plainAttrs_str PySem.F.slot_str_isupper PySem.F.type_str_isupper mt_isupper (pe_ix ix_str (pv 0) pe_int (fun _ _ => rfl)))))), ?_⟩
  refine ⟨_, rfl, M, v, d, rfl, hv, hw, _, rfl, ?_⟩
  cases hv with
  | str x =>
    have hs : x.length ≤ sizeLine := sz (by unfold wt at hw; omega)
    show if nameS x = true then _ else _
    have q' : Q (.bl (highS x)) H := q
    unfold highS at q'
    cases c : nameS x with
    | true =>
      refine iteT ?_
      have c1 : 1 ≤ x.length ∧ x.cps.toList.all anC = true := by
        unfold nameS at c
        simp only [Bool.and_eq_true, decide_eq_true_eq] at c
        exact ⟨c.1.1.1.1, c.1.1.2⟩
      obtain ⟨c0, r0, e0⟩ := cons_of_len c1.1
      have hc0 : anC c0 = true := List.all_eq_true.mp c1.2 c0 (by rw [e0]; exact List.mem_cons_self)
      refine ⟨_, rfl, x, 0, c0, rfl, rfl, hs, (by rw [e0]; exact atI_nat (j := 0) rfl), rfl, _, rfl, rfl, trivial, ?_⟩
      rw [upper1 (anC_lt hc0)]
      rw [c, e0] at q'
      simpa using q'
    | false =>
      refine iteF ?_
      rw [c] at q'
      simpa using q'
  | _ => exact iteF q
end
end K1
set_option Elab.async false
set_option linter.all false
set_option maxRecDepth 100000
set_option maxHeartbeats 4000000
namespace K1
open PySem PySem.Spec PyProof.Rows L2 GxR NdefX GA SL
abbrev s_are_unlike : Stmt := top 41
abbrev s_is_maker_alone : Stmt := top 40
abbrev s_is_kind_alone : Stmt := top 39
def sp_are_unlike (K : PySem.W.Frag) : Sp := fun vs H Q _ => ∃ (a : Addr) (xs : List Str), vs = [.ref a] ∧ SqL K H a (xs.map V.str) ∧ xs.length ≤ 4000 ∧ Q (.bl (decide xs.Nodup)) H
theorem sc_are_unlike : FnScope ["names"] ["names"] (defScope s_are_unlike) := ⟨rfl, rfl, rfl, by decide +kernel, rfl, by decide +kernel, by decide +kernel⟩
/-- what looks at a part of kinds promises: b of the part's data -/
def sp_look (T : List Addr) (b : PyData → Bool) : Sp := fun vs H Q _ => ∃ (M : List Addr) (v : V) (d : PyData), vs = [v] ∧ Dv M H v d ∧ wt d ≤ 4000000 ∧ Tabs T H ∧ ∀ H', Go T M H H' → Tabs T H' → Q (.bl (b d)) H'
theorem sc_maker_alone : FnScope ["thing", "name", "fields"] ["thing"] (defScope s_is_maker_alone) := ⟨rfl, rfl, rfl, by decide +kernel, rfl, by decide +kernel, by decide +kernel⟩
section
variable {P : Program} {w : World} {K : PySem.W.Frag} {mg : Str → Option Value} {base : Heap} {f c Pt : Addr} {fd : FuncData} {T : List Addr}
theorem ok_are_unlike (F : Fun K "_are_unlike" "_are_unlike" s_are_unlike f fd) (B : Bl mg) : FnOk P w K mg base CX0 1 f fd ["names"] (sp_are_unlike K) := by
  refine F.ok sc_are_unlike (fun vs H Q E h => ?_) (fun cdv A outer s H vs Q E hr h => ?_)
  · obtain ⟨_, _, rfl, _⟩ := h
    rfl
  obtain ⟨a, xs, rfl, hx, hl, q⟩ := h
  refine ⟨_, pss_one (ps_ret (pe_cmpR op_eq (pe_lenU B (pv 0)) (pe_lenq B (pv 0)) (nomark _))), ?_⟩
  refine ⟨_, rfl, a, xs, rfl, hx, hl, _, rfl, a, _, rfl, .inl hx, rfl, ?_⟩
  refine goQ q ?_
  rw [List.length_map]
  have e := uniq_len (l := xs)
  rw [decide_eq_decide, ← e]
  constructor
  · intro h
    rw [h]
  · intro h
    have h' := V.int.inj h
    omega
theorem ok_maker_alone (F : FunT K "_is_maker_alone" "_is_maker_alone" s_is_maker_alone f fd c) (B : Bl mg) (C : Cn K mg) (TB : TabB base mg c Pt) (hP : Pt ∈ T) (Ft : Fnn P w K mg base CX0 1 "is_tuple" ["thing", "least", "most"] sp_is_tuple)
    (Fh : Fnn P w K mg base CX0 3 "is_high" ["thing"] sp_is_high) : FnOk P w K mg base CX0 5 f fd ["thing"] (sp_look T makerB) := by
  obtain ⟨tf, mF⟩ := C.fields
  refine F.ok sc_maker_alone (fun vs H Q E h => ?_) (fun A outer s H vs Q E hr h => ?_)
  · obtain ⟨_, _, _, rfl, _⟩ := h
    rfl
  obtain ⟨M, v, d, rfl, hv, hw, ht, q⟩ := h
  have nd := sc_maker_alone.nd
  refine ⟨_, pss_cons (ps_if (pt_not (pt_val (pe_fn Ft hr (by decide) pass0 (pa_cons (pv 0) (pa_cons pe_int (pa_cons pe_int pa_nil)))))) (pss_one (ps_ret pe_bl)) pss_nil)
    (pss_cons (ps_asg (pv 0) (pg_tup rfl (pgs_cons (pg_name (i := 1) nd rfl (.inl rfl)) (pgs_cons (pg_name (i := 2) nd rfl (.inl rfl)) pgs_nil))))
    (pss_one (ps_ret (pe_and (pe_fn Fh hr (by decide) pass0 (pa_cons (pv 1) pa_nil)) (pe_and (pe_fn Ft hr (by decide) pass0 (pa_cons (pv 2) (pa_cons pe_int (pa_cons (pe_glob (v := .int 4) rfl mF ⟨_, rfl⟩) pa_nil))))
      (pe_one (pe_all (N := ["field"]) (fr := []) (js := []) hr rfl B.all TB rfl (gsc_by (by decide +kernel)) (by simp) rfl (pi_tup (pv 2)) (fun _ _ _ _ _ _ _ => pg_name (i := 0) (show (["field"] : List Str).Nodup by decide +kernel) rfl (.inl rfl))
        (fun _ _ _ _ _ _ _ hr' => pe_isi_str B (pv 0))))))))), ?_⟩
  refine ⟨_, rfl, M, v, d, 2, 2, rfl, hv, _, rfl, ?_⟩
  by_cases c1 : tupB d 2 2 = true
  · obtain ⟨x, y, rfl⟩ := tup2 c1
    obtain ⟨a, vx, vy, rfl, e, na, hx, hy⟩ := dv_pair hv
    rw [wt_pair] at hw
    refine if_false_of (by rw [c1] <;> rfl) ?_
    refine ⟨_, rfl, a, _, rfl, SqT.of e, rfl, _, _, rfl, _, _, rfl, rfl, ?_⟩
    refine ⟨_, rfl, M, vx, x, rfl, hx, by omega, _, rfl, ?_⟩
    have qq : makerB (.tuple [x, y]) = (highD x && (tupB y 0 4 && (itemsD y).all isStr)) := by
      unfold makerB
      rw [c1]
      show (true && highD x && tupB y 0 4 && (itemsD y).all isStr) = _
      rw [Bool.true_and, Bool.and_assoc]
    rw [qq] at q
    cases c2 : highD x with
    | false =>
      refine iteF ?_
      rw [c2] at q
      exact q H Go.refl ht
    | true =>
      refine iteT ?_
      rw [c2, Bool.true_and] at q
      refine ⟨_, rfl, M, vy, y, 0, 4, rfl, hy, _, rfl, ?_⟩
      cases c3 : tupB y 0 4 with
      | false =>
        refine iteF ?_
        rw [c3] at q
        exact q H Go.refl ht
      | true =>
        refine iteT ?_
        rw [c3, Bool.true_and] at q
        obtain ⟨fs, rfl, l0, l4⟩ := tupOf c3
        obtain ⟨b, ws, rfl, eb, nb, hws⟩ := dv_tup hy
        refine ⟨_, rfl, b, rfl, ⟨_, SqT.of eb⟩, all_tup (b := isStr) eb nb hws ht hP (fun x' d' H' R _ hv' g' t' hR => ?_) q⟩
        exact ⟨_, rfl, _, _, _, rfl, hv', hR H' Go.refl t'⟩
  · refine if_true_of (by rw [Bool.eq_false_iff.mpr c1] <;> rfl) ?_
    have := q H Go.refl ht
    have e : makerB d = false := by unfold makerB; rw [Bool.eq_false_iff.mpr c1] <;> rfl
    rw [e] at this
    exact this
end
end K1
set_option Elab.async false
set_option linter.all false
set_option maxRecDepth 100000
set_option maxHeartbeats 4000000
namespace K1
open PySem PySem.Spec PyProof.Rows L2 GxR NdefX GA SL
abbrev s_is_kinds : Stmt := top 22
theorem sc_kind_alone : FnScope ["thing", "name", "makers"] ["thing"] (defScope s_is_kind_alone) := ⟨rfl, rfl, rfl, by decide +kernel, rfl, by decide +kernel, by decide +kernel⟩
/-! ### the data of kinds -/
theorem maker_of {m : PyData} (h : makerB m = true) : ∃ (x : Str) (fs : List Str), m = .tuple [.str x, .tuple (fs.map .str)] ∧ highS x = true ∧ fs.length ≤ 4 := by
  unfold makerB at h
  simp only [Bool.and_eq_true] at h
  obtain ⟨⟨⟨h1, h2⟩, h3⟩, h4⟩ := h
  obtain ⟨a, b, rfl⟩ := tup2 h1
  have h2 : highD a = true := h2
  obtain ⟨x, rfl⟩ : ∃ x, a = .str x := by
    cases a with
    | str x => exact ⟨x, rfl⟩
    | _ => simp [highD] at h2
  obtain ⟨fs, e, l0, l4⟩ := tupOf h3
  have e : b = .tuple fs := e
  subst e
  have h4 : fs.all isStr = true := h4
  have key : ∀ l : List PyData, l.all isStr = true → ∃ ys : List Str, l = ys.map .str := by
    intro l
    induction l with
    | nil => intro _; exact ⟨[], rfl⟩
    | cons d r ih =>
      intro h
      rw [List.all_cons, Bool.and_eq_true] at h
      obtain ⟨ys, e⟩ := ih h.2
      cases d with
      | str y => exact ⟨y :: ys, by rw [e] <;> rfl⟩
      | _ => simp [isStr] at h
  obtain ⟨ys, rfl⟩ := key fs h4
  exact ⟨x, ys, rfl, h2, by rw [List.length_map] at l4; omega⟩
theorem kind_of {k : PyData} (h : kindB k = true) : ∃ (x : Str) (ms : List PyData), k = .tuple [.str x, .tuple ms] ∧ highS x = true ∧ 1 ≤ ms.length ∧ ms.length ≤ 6 ∧ ms.all makerB = true := by
  unfold kindB at h
  simp only [Bool.and_eq_true] at h
  obtain ⟨⟨⟨h1, h2⟩, h3⟩, h4⟩ := h
  obtain ⟨a, b, rfl⟩ := tup2 h1
  have h2 : highD a = true := h2
  obtain ⟨x, rfl⟩ : ∃ x, a = .str x := by
    cases a with
    | str x => exact ⟨x, rfl⟩
    | _ => simp [highD] at h2
  obtain ⟨fs, e, l0, l4⟩ := tupOf h3
  have e : b = .tuple fs := e
  subst e
  exact ⟨x, fs, rfl, h2, by omega, by omega, h4⟩
/-- the kinds' names, all makers -/
def kNames (ks : List PyData) : List Str := ks.map fun k => strD (fstD k)
def kMakers (ks : List PyData) : List PyData := ks.flatMap fun k => itemsD (sndD k)
def mFields (ms : List PyData) : List Str := ms.flatMap fun m => (itemsD (sndD m)).map strD
theorem take_snoc {α : Type} {l : List α} {i : Nat} {x : α} (h : l[i]? = some x) : l.take (i + 1) = l.take i ++ [x] := by rw [List.take_add_one, h] <;> rfl
theorem len_makers : ∀ ks : List PyData, (∀ k ∈ ks, kindB k = true) → (kMakers ks).length ≤ 6 * ks.length
  | [], _ => by simp [kMakers]
  | k :: r, h => by
    obtain ⟨x, ms, rfl, _, _, l6, _⟩ := kind_of (h k List.mem_cons_self)
    have ih := len_makers r fun k hk => h k (List.mem_cons_of_mem _ hk)
    have e : kMakers (.tuple [.str x, .tuple ms] :: r) = ms ++ kMakers r := by
      unfold kMakers
      rw [List.flatMap_cons] <;> rfl
    rw [e, List.length_append, List.length_cons]
    omega
theorem all_makers : ∀ ks : List PyData, (∀ k ∈ ks, kindB k = true) → ∀ m ∈ kMakers ks, makerB m = true := fun ks h m hm => by
  unfold kMakers at hm
  obtain ⟨k, hk, hm⟩ := List.mem_flatMap.mp hm
  obtain ⟨x, ms, rfl, _, _, _, ha⟩ := kind_of (h k hk)
  exact List.all_eq_true.mp ha m hm
theorem len_fields : ∀ ms : List PyData, (∀ m ∈ ms, makerB m = true) → (mFields ms).length ≤ 4 * ms.length
  | [], _ => by simp [mFields]
  | m :: r, h => by
    obtain ⟨x, fs, rfl, _, l4⟩ := maker_of (h m List.mem_cons_self)
    have ih := len_fields r fun k hk => h k (List.mem_cons_of_mem _ hk)
    have e : mFields (.tuple [.str x, .tuple (fs.map .str)] :: r) = ((fs.map PyData.str).map strD) ++ mFields r := by
      unfold mFields
      rw [List.flatMap_cons] <;> rfl
    rw [e, List.length_append, List.length_map, List.length_map, List.length_cons]
    omega
theorem strs_back (fs : List Str) : (fs.map PyData.str).map strD = fs := by
  rw [List.map_map]
  exact List.map_id'' (fun _ => rfl) fs
section
variable {P : Program} {w : World} {K : PySem.W.Frag} {mg : Str → Option Value} {base : Heap} {f c Pt : Addr} {fd : FuncData} {T : List Addr}
theorem ok_kind_alone (F : FunT K "_is_kind_alone" "_is_kind_alone" s_is_kind_alone f fd c) (B : Bl mg) (C : Cn K mg) (TB : TabB base mg c Pt) (hP : Pt ∈ T) (Ft : Fnn P w K mg base CX0 1 "is_tuple" ["thing", "least", "most"] sp_is_tuple)
    (Fh : Fnn P w K mg base CX0 3 "is_high" ["thing"] sp_is_high) (Fm : Fnn P w K mg base CX0 5 "_is_maker_alone" ["thing"] (sp_look T makerB)) : FnOk P w K mg base CX0 7 f fd ["thing"] (sp_look T kindB) := by
  obtain ⟨tf, mF⟩ := C.makers
  refine F.ok sc_kind_alone (fun vs H Q E h => ?_) (fun A outer s H vs Q E hr h => ?_)
  · obtain ⟨_, _, _, rfl, _⟩ := h
    rfl
  obtain ⟨M, v, d, rfl, hv, hw, ht, q⟩ := h
  have nd := sc_kind_alone.nd
  refine ⟨_, pss_cons (ps_if (pt_not (pt_val (pe_fn Ft hr (by decide) pass0 (pa_cons (pv 0) (pa_cons pe_int (pa_cons pe_int pa_nil)))))) (pss_one (ps_ret pe_bl)) pss_nil)
    (pss_cons (ps_asg (pv 0) (pg_tup rfl (pgs_cons (pg_name (i := 1) nd rfl (.inl rfl)) (pgs_cons (pg_name (i := 2) nd rfl (.inl rfl)) pgs_nil))))
    (pss_one (ps_ret (pe_and (pe_fn Fh hr (by decide) pass0 (pa_cons (pv 1) pa_nil)) (pe_and (pe_fn Ft hr (by decide) pass0 (pa_cons (pv 2) (pa_cons pe_int (pa_cons (pe_glob (v := .int 6) rfl mF ⟨_, rfl⟩) pa_nil))))
      (pe_one (pe_all (k := 5) (N := ["maker"]) (fr := []) (js := []) hr rfl B.all TB rfl (gsc_by (by decide +kernel)) (by simp) rfl (pi_tup (pv 2)) (fun _ _ _ _ _ _ _ => pg_name (i := 0) (show (["maker"] : List Str).Nodup by decide +kernel) rfl (.inl rfl))
        (fun _ _ _ _ _ _ _ hr' => pe_fn Fm hr' (by decide) pass0 (pa_cons (pv 0) pa_nil))))))))), ?_⟩
  refine ⟨_, rfl, M, v, d, 2, 2, rfl, hv, _, rfl, ?_⟩
  by_cases c1 : tupB d 2 2 = true
  · obtain ⟨x, y, rfl⟩ := tup2 c1
    obtain ⟨a, vx, vy, rfl, e, na, hx, hy⟩ := dv_pair hv
    rw [wt_pair] at hw
    refine if_false_of (by rw [c1] <;> rfl) ?_
    refine ⟨_, rfl, a, _, rfl, SqT.of e, rfl, _, _, rfl, _, _, rfl, rfl, ?_⟩
    refine ⟨_, rfl, M, vx, x, rfl, hx, by omega, _, rfl, ?_⟩
    have qq : kindB (.tuple [x, y]) = (highD x && (tupB y 1 6 && (itemsD y).all makerB)) := by
      unfold kindB
      rw [c1]
      show (true && highD x && tupB y 1 6 && (itemsD y).all makerB) = _
      rw [Bool.true_and, Bool.and_assoc]
    rw [qq] at q
    cases c2 : highD x with
    | false =>
      refine iteF ?_
      rw [c2] at q
      exact q H Go.refl ht
    | true =>
      refine iteT ?_
      rw [c2, Bool.true_and] at q
      refine ⟨_, rfl, M, vy, y, 1, 6, rfl, hy, _, rfl, ?_⟩
      cases c3 : tupB y 1 6 with
      | false =>
        refine iteF ?_
        rw [c3] at q
        exact q H Go.refl ht
      | true =>
        refine iteT ?_
        rw [c3, Bool.true_and] at q
        obtain ⟨fs, rfl, l0, l4⟩ := tupOf c3
        obtain ⟨b, ws, rfl, eb, nb, hws⟩ := dv_tup hy
        rw [wt_tup] at hw
        refine ⟨_, rfl, b, rfl, ⟨_, SqT.of eb⟩, all_tup (b := makerB) eb nb hws ht hP (fun x' d' H' R hd' hv' g' t' hR => ?_) q⟩
        have := wt_mem hd'
        exact ⟨_, rfl, M, x', d', rfl, hv', by omega, t', hR⟩
  · refine if_true_of (by rw [Bool.eq_false_iff.mpr c1] <;> rfl) ?_
    have := q H Go.refl ht
    have e : kindB d = false := by unfold kindB; rw [Bool.eq_false_iff.mpr c1] <;> rfl
    rw [e] at this
    exact this
theorem sc_is_kinds : FnScope ["thing", "names", "makers", "fields", "name", "_", "own", "maker", "field"] ["thing"] (defScope s_is_kinds) := ⟨rfl, rfl, rfl, by decide +kernel, rfl, by decide +kernel, by decide +kernel⟩
end
end K1
set_option Elab.async false
set_option linter.all false
set_option maxRecDepth 100000
set_option maxHeartbeats 8000000
namespace K1
open PySem PySem.Spec PyProof.Rows L2 GxR NdefX GA SL
theorem strs_of : ∀ {l : List PyData}, (∀ d ∈ l, isStr d = true) → l = (l.map strD).map .str
  | [], _ => rfl
  | d :: r, h => by
    have ih := strs_of fun x hx => h x (List.mem_cons_of_mem _ hx)
    have h1 := h d List.mem_cons_self
    cases d with
    | str y =>
      show PyData.str y :: r = PyData.str y :: ((r.map strD).map .str)
      rw [← ih]
    | _ => simp [isStr] at h1
theorem titles_str {ks : List PyData} (hk : ∀ k ∈ ks, kindB k = true) : ∀ d ∈ ks.map fstD, isStr d = true := fun d hd => by
  obtain ⟨k, hkm, rfl⟩ := List.mem_map.mp hd
  obtain ⟨x, ms, rfl, _⟩ := kind_of (hk k hkm)
  rfl
theorem mnames_str {ms : List PyData} (hm : ∀ m ∈ ms, makerB m = true) : ∀ d ∈ ms.map fstD, isStr d = true := fun d hd => by
  obtain ⟨m, hmm, rfl⟩ := List.mem_map.mp hd
  obtain ⟨x, ms, rfl, _⟩ := maker_of (hm m hmm)
  rfl
theorem fields_str {ms : List PyData} (hm : ∀ m ∈ ms, makerB m = true) : ∀ d ∈ ms.flatMap (fun m => itemsD (sndD m)), isStr d = true := fun d hd => by
  obtain ⟨m, hmm, hd⟩ := List.mem_flatMap.mp hd
  obtain ⟨x, fs, rfl, _⟩ := maker_of (hm m hmm)
  obtain ⟨y, _, rfl⟩ := List.mem_map.mp (show d ∈ fs.map PyData.str from hd)
  rfl
theorem flen : ∀ {ms : List PyData}, (∀ m ∈ ms, makerB m = true) → (ms.flatMap (fun m => itemsD (sndD m))).length ≤ 4 * ms.length
  | [], _ => by simp
  | m :: r, h => by
    obtain ⟨x, fs, rfl, _, l4⟩ := maker_of (h m List.mem_cons_self)
    have ih := flen fun k hk => h k (List.mem_cons_of_mem _ hk)
    rw [List.flatMap_cons, List.length_append, List.length_cons]
    have : (itemsD (sndD (.tuple [.str x, .tuple (fs.map .str)]))).length = fs.length := List.length_map ..
    omega
section
variable {P : Program} {w : World} {K : PySem.W.Frag} {mg : Str → Option Value} {base : Heap} {f c Pt : Addr} {fd : FuncData} {T : List Addr}
theorem ok_is_kinds (F : FunT K "is_kinds" "is_kinds" s_is_kinds f fd c) (B : Bl mg) (C : Cn K mg) (TB : TabB base mg c Pt) (hP : Pt ∈ T) (Ft : Fnn P w K mg base CX0 1 "is_tuple" ["thing", "least", "most"] sp_is_tuple)
    (Fu : Fnn P w K mg base CX0 1 "_are_unlike" ["names"] (sp_are_unlike K)) (Fm : Fnn P w K mg base CX0 7 "_is_kind_alone" ["thing"] (sp_look T kindB)) : FnOk P w K mg base CX0 9 f fd ["thing"] (sp_look T kindsB) := by
  obtain ⟨tf, mF⟩ := C.kinds
  refine F.ok sc_is_kinds (fun vs H Q E h => ?_) (fun A outer s H vs Q E hr h => ?_)
  · obtain ⟨_, _, _, rfl, _⟩ := h
    rfl
  obtain ⟨M, v, d, rfl, hv, hw, ht, q⟩ := h
  replace hv : Dv [] H v d := hv.less fun _ z => by simp at z
  replace q : ∀ H', Go T [] H H' → Tabs T H' → Q (.bl (kindsB d)) H' := fun H' g t => q H' g.of0 t
  have nd := sc_is_kinds.nd
  refine ⟨_, pss_cons (ps_if (PW.pt (pw_or (pt_not (pt_val (pe_fn Ft hr (by decide) pass0 (pa_cons (pv 0) (pa_cons pe_int (pa_cons (pe_glob (v := .int 6) rfl mF ⟨_, rfl⟩) pa_nil))))))
      (pw_or1 (pt_not (pt_val (pe_all (k := 7) (N := ["kind"]) (fr := []) (js := []) hr rfl B.all TB rfl (gsc_by (by decide +kernel)) (by simp) rfl (pi_tup (pv 0)) (fun _ _ _ _ _ _ _ => pg_name (i := 0) (show (["kind"] : List Str).Nodup by decide +kernel) rfl (.inl rfl))
        (fun _ _ _ _ _ _ _ hr' => pe_fn Fm hr' (by decide) pass0 (pa_cons (pv 0) pa_nil)))))))) (pss_one (ps_ret pe_bl)) pss_nil)
    (pss_cons (ps_set (i := 1) nd rfl (Or.inr rfl) (pe_lc (own := [("name", 4), ("_", 5)]) (g := gTup K 2 (gCons (gName 4) (gCons (gName 5) gNil))) (tt := tYes) rfl nd (pi_tup (pv 0)) (blkOk_by (own := [("name", 4), ("_", 5)]) (N := ["thing", "names", "makers", "fields", "name", "_", "own", "maker", "field"]) (sc := defScope s_is_kinds) (by decide +kernel))
        (fun _ _ _ _ _ => pg_tup rfl (pgs_cons (pg_name (i := 4) nd rfl (Or.inl rfl)) (pgs_cons (pg_name (i := 5) nd rfl (Or.inl rfl)) pgs_nil))) (fun _ _ _ _ _ => pts_nil) (fun _ _ _ _ _ => pv 4)))
    (pss_cons (ps_setLc2 (i := 2) (own := [("_", 5), ("own", 6), ("maker", 7)]) (vs1 := [7]) (g := gTup K 2 (gCons (gName 5) (gCons (gName 6) gNil))) (g1 := gName 7) (tt := tYes) (tt1 := tYes) (wi1 := iTup K (tVar 6)) rfl nd rfl rfl (sw_true rfl rfl rfl (by decide +kernel)) (pi_tup (pv 0))
        (blkOk_by (own := [("_", 5), ("own", 6), ("maker", 7)]) (N := ["thing", "names", "makers", "fields", "name", "_", "own", "maker", "field"]) (sc := defScope s_is_kinds) (by decide +kernel)) (by decide)
        (fun _ _ _ _ _ => pg_tup rfl (pgs_cons (pg_name (i := 5) nd rfl (Or.inl rfl)) (pgs_cons (pg_name (i := 6) nd rfl (Or.inl rfl)) pgs_nil))) (fun _ _ _ _ _ => pts_nil) (fun _ _ _ _ _ => pi_tup (pv 6)) (fun _ _ _ _ _ => pg_name (i := 7) nd rfl (Or.inl rfl)) (fun _ _ _ _ _ => pts_nil) (fun _ _ _ _ _ => pv 7))
    (pss_cons (ps_setLc2 (i := 3) (own := [("_", 5), ("own", 6), ("field", 8)]) (vs1 := [8]) (g := gTup K 2 (gCons (gName 5) (gCons (gName 6) gNil))) (g1 := gName 8) (tt := tYes) (tt1 := tYes) (wi1 := iTup K (tVar 6)) rfl nd rfl rfl (sw_true rfl rfl rfl (by decide +kernel)) (pi_list (pv 2))
        (blkOk_by (own := [("_", 5), ("own", 6), ("field", 8)]) (N := ["thing", "names", "makers", "fields", "name", "_", "own", "maker", "field"]) (sc := defScope s_is_kinds) (by decide +kernel)) (by decide)
        (fun _ _ _ _ _ => pg_tup rfl (pgs_cons (pg_name (i := 5) nd rfl (Or.inl rfl)) (pgs_cons (pg_name (i := 6) nd rfl (Or.inl rfl)) pgs_nil))) (fun _ _ _ _ _ => pts_nil) (fun _ _ _ _ _ => pi_tup (pv 6)) (fun _ _ _ _ _ => pg_name (i := 8) nd rfl (Or.inl rfl)) (fun _ _ _ _ _ => pts_nil) (fun _ _ _ _ _ => pv 8))
    (pss_one (ps_ret (pe_and (pe_fn Fu hr (by decide) pass0 (pa_cons (pv 1) pa_nil)) (pe_and (pe_fn Fu hr (by decide) pass0 (pa_cons (pe_lc (own := [("name", 4), ("_", 5)]) (g := gTup K 2 (gCons (gName 4) (gCons (gName 5) gNil))) (tt := tYes) rfl nd (pi_list (pv 2)) (blkOk_by (own := [("name", 4), ("_", 5)]) (N := ["thing", "names", "makers", "fields", "name", "_", "own", "maker", "field"]) (sc := defScope s_is_kinds) (by decide +kernel))
        (fun _ _ _ _ _ => pg_tup rfl (pgs_cons (pg_name (i := 4) nd rfl (Or.inl rfl)) (pgs_cons (pg_name (i := 5) nd rfl (Or.inl rfl)) pgs_nil))) (fun _ _ _ _ _ => pts_nil) (fun _ _ _ _ _ => pv 4)) pa_nil))
      (pe_one (pe_all (k := 7) (te := tOrV (tOp rEq (tVar 1) (tC (.str "number"))) (tOp (rIn K false) (tVar 1) (tVar 0))) (N := ["names", "field"]) (fr := ["names"]) (js := [1]) hr rfl B.all TB rfl (gsc_by (by decide +kernel)) (fun y hy => by rw [List.mem_singleton.mp hy]; exact .inl rfl) rfl (pi_list (pv 3)) (fun _ _ _ _ _ _ _ => pg_name (i := 1) (show (["names", "field"] : List Str).Nodup by decide +kernel) rfl (.inl rfl))
        (fun _ _ _ _ _ _ _ hr' => pe_or (pe_cmpR op_eq (pv 1) pe_str (nomark _)) (pe_one (pe_cmpR op_in_seq (pv 1) (pv 0) rfl)))))))))))), ?_⟩
  refine ⟨_, rfl, [], v, d, 1, 6, rfl, hv, _, rfl, ?_⟩
  by_cases c1 : tupB d 1 6 = true
  · obtain ⟨ks, rfl, l1, l6⟩ := tupOf c1
    obtain ⟨a, xs, rfl, e, na, hxs⟩ := dv_tup hv
    have hl := hxs.length
    rw [wt_tup] at hw
    rw [c1]
    refine iteF ?_
    refine ⟨_, rfl, a, rfl, ⟨_, SqT.of e⟩, all_it (b := kindB) walk_tup (fun H' g => SqT.of (g.tup e na)) hxs ht hP (fun x' d' H' R hd' hv' g' t' hR => ?_) (fun H1 g1 t1 c2 => ?_) (fun H1 g1 t1 c2 => ?_)⟩
    · have := wt_mem hd'
      exact ⟨_, rfl, [], x', d', rfl, hv', by omega, t', hR⟩
    · refine ⟨_, rfl, ?_⟩
      refine iteF ?_
      have hk : ∀ k ∈ ks, kindB k = true := fun k hk => List.all_eq_true.mp c2 k hk
      have h0 : DvAll [] H1 xs ks := hxs.go g1
      have e1 : H1 a = some (.tup xs) := g1.tup e na
      have nn : ∀ b : Addr, b ∉ ([] : List Addr) := fun b => List.not_mem_nil
      refine ⟨_, rfl, a, rfl, ⟨_, SqT.of e1⟩, fun D hD => ?_⟩
      refine lc_fst (M := []) (T := T) (H0 := H1) (xs := xs) (ds := ks) walk_tup (fun H' g => SqT.of (g.tup e1 (nn _))) h0 ?_ Go.refl hD (sz (by omega)) (fun _ _ => rfl) (fun _ _ => rfl) (fun H2 acc g2 e2 d2 => ?_)
      · intro k hkm
        obtain ⟨x, ms, rfl, _⟩ := kind_of (hk k hkm)
        exact ⟨_, _, rfl⟩
      refine ⟨_, rfl, a, rfl, ⟨_, SqT.of (g2.tup e1 (nn _))⟩, fun D2 hD2 => ?_⟩
      refine lc2_snd (M := []) (T := T) (H0 := H2) (xs := xs) (ds := ks) (c := 6) walk_tup (fun H' g => SqT.of ((g2.trans g).tup e1 (nn _))) (h0.go g2) ?_ Go.refl hD2 (sz (by omega)) (fun _ _ => rfl) (fun _ _ => rfl) (fun _ _ _ => rfl) (fun _ _ _ => rfl) (fun H3 ac3 g3 e3 d3 => ?_)
      · intro k hkm
        obtain ⟨x, ms, rfl, _, _, l, _⟩ := kind_of (hk k hkm)
        exact ⟨_, _, rfl, l⟩
      have hm := all_makers ks hk
      have lm := len_makers ks hk
      have lac := d3.length
      have lac : ac3.length = (kMakers ks).length := lac
      refine ⟨_, rfl, D2, rfl, ⟨_, SqL.of e3⟩, fun D3 hD3 => ?_⟩
      refine lc2_snd (M := []) (T := T) (H0 := H3) (xs := ac3) (ds := kMakers ks) (c := 4) walk_list (fun H' g => SqL.of (g.lst e3 (nn _))) (d3.go g3) ?_ Go.refl hD3 (sz (by omega)) (fun _ _ => rfl) (fun _ _ => rfl) (fun _ _ _ => rfl) (fun _ _ _ => rfl) (fun H4 ac4 g4 e4 d4 => ?_)
      · intro m hmm
        obtain ⟨x, fs, rfl, _, l⟩ := maker_of (hm m hmm)
        exact ⟨_, _, rfl, by rw [List.length_map]; exact l⟩
      have g14 := (g2.trans g3).trans g4
      have eD := (g3.trans g4).lst e2 (nn _)
      have E1 := strs_of (titles_str hk)
      have d2' := d2
      rw [E1] at d2'
      have d2' := d2'.of_strs
      have lk : ((ks.map fstD).map strD).length = ks.length := by rw [List.length_map, List.length_map]
      refine ⟨_, rfl, D, (ks.map fstD).map strD, rfl, SqL.of (by rw [← d2']; exact eD), by omega, _, rfl, ?_⟩
      have qq : kindsB (.tuple ks) = (unl (ks.map fstD) && (unl ((kMakers ks).map fstD) && ((kMakers ks).flatMap fun m => itemsD (sndD m)).all (fieldOk (.tuple ks)))) := by
        unfold kindsB
        rw [c1]
        show (true && ks.all kindB && unl (ks.map fstD) && unl ((kMakers ks).map fstD) && ((kMakers ks).flatMap fun m => itemsD (sndD m)).all (fieldOk (.tuple ks))) = _
        rw [c2, Bool.true_and, Bool.true_and, Bool.and_assoc]
      rw [qq] at q
      show if unl (ks.map fstD) = true then _ else _
      cases c3 : unl (ks.map fstD) with
      | false =>
        refine iteF ?_
        rw [c3] at q
        exact q H4 (g1.trans g14) (g14.tb t1)
      | true =>
        refine iteT ?_
        rw [c3, Bool.true_and] at q
        have e3' : H4 D2 = some (.lst ac3) := g4.lst e3 (nn _)
        refine ⟨_, rfl, D2, rfl, ⟨_, SqL.of e3'⟩, fun D5 hD5 => ?_⟩
        refine lc_fst (M := []) (T := T) (H0 := H4) (xs := ac3) (ds := kMakers ks) walk_list (fun H' g => SqL.of (g.lst e3' (nn _))) ((d3.go g3).go g4) ?_ Go.refl hD5 (sz (by omega)) (fun _ _ => rfl) (fun _ _ => rfl) (fun H5 ac5 g5 e5 d5 => ?_)
        · intro m hmm
          obtain ⟨x, fs, rfl, _, l⟩ := maker_of (hm m hmm)
          exact ⟨_, _, rfl⟩
        have E2 := strs_of (mnames_str hm)
        have d5' := d5
        rw [E2] at d5'
        have d5' := d5'.of_strs
        have lk5 : (((kMakers ks).map fstD).map strD).length = (kMakers ks).length := by rw [List.length_map, List.length_map]
        refine ⟨D5, ((kMakers ks).map fstD).map strD, rfl, SqL.of (by rw [← d5']; exact e5), by omega, _, rfl, ?_⟩
        show if unl ((kMakers ks).map fstD) = true then _ else _
        have g15 := g14.trans g5
        cases c4 : unl ((kMakers ks).map fstD) with
        | false =>
          refine iteF ?_
          rw [c4] at q
          exact q H5 (g1.trans g15) (g15.tb t1)
        | true =>
          refine iteT ?_
          rw [c4, Bool.true_and] at q
          have e4' : H5 D3 = some (.lst ac4) := g5.lst e4 (nn _)
          refine ⟨_, rfl, D3, rfl, ⟨_, SqL.of e4'⟩, all_it (b := fieldOk (.tuple ks)) (T := T) (M := []) walk_list (fun H' g => SqL.of (g.lst e4' (nn _))) ((d4.go g4).go g5) (g15.tb t1) hP (fun x' d' H' R hd' hv' g' t' hR => ?_) (fun H6 g6 t6 c5 => ?_) (fun H6 g6 t6 c5 => ?_)⟩
          · have hs := fields_str hm d' hd'
            cases d' with
            | str y =>
              cases hv'
              refine ⟨_, rfl, rfl, _, rfl, ?_⟩
              have en : fieldOk (.tuple ks) (.str y) = (decide (V.str y = V.str "number") || inV (.str y) (((ks.map fstD).map strD).map V.str)) := by
                rw [inV_strs]
                show (decide (y = "number") || decide (y ∈ (ks.map fstD).map strD)) = _
                congr 1
                rw [decide_eq_decide]
                exact ⟨fun h => by rw [h], fun h => V.str.inj h⟩
              rw [en] at hR
              cases c5 : decide (V.str y = V.str "number") with
              | true =>
                refine iteT ?_
                rw [c5, Bool.true_or] at hR
                exact hR H' Go.refl t'
              | false =>
                refine iteF ?_
                rw [c5, Bool.false_or] at hR
                refine ⟨_, rfl, _, rfl, D, ((ks.map fstD).map strD).map V.str, rfl, .inl (SqL.of (by rw [← d2']; exact (g5.trans g').lst eD (nn _))), rfl, ?_, ?_⟩
                · rw [List.all_map]
                  exact List.all_eq_true.mpr fun _ _ => rfl
                · exact hR H' Go.refl t'
            | _ => simp [isStr] at hs
          · show Q (.bl true) H6
            have := q H6 (g1.trans (g15.trans g6)) t6
            have c5' : ((kMakers ks).flatMap fun m => itemsD (sndD m)).all (fieldOk (.tuple ks)) = true := c5
            rw [c5'] at this
            exact this
          · have := q H6 (g1.trans (g15.trans g6)) t6
            have c5' : ((kMakers ks).flatMap fun m => itemsD (sndD m)).all (fieldOk (.tuple ks)) = false := c5
            rw [c5'] at this
            exact this
    · refine ⟨_, rfl, ?_⟩
      refine iteT ?_
      have := q H1 g1 t1
      have e : kindsB (.tuple ks) = false := by
        unfold kindsB
        rw [c1]
        show (true && ks.all kindB && unl (ks.map fstD) && unl ((kMakers ks).map fstD) && ((kMakers ks).flatMap fun m => itemsD (sndD m)).all (fieldOk (.tuple ks))) = _
        rw [c2] <;> rfl
      rw [e] at this
      exact this
  · have c1' : tupB d 1 6 = false := Bool.eq_false_iff.mpr c1
    rw [c1']
    refine iteT ?_
    have := q H Go.refl ht
    have e : kindsB d = false := by unfold kindsB; rw [c1'] <;> rfl
    rw [e] at this
    exact this
end
end K1
set_option Elab.async false
set_option linter.all false
set_option maxRecDepth 100000
set_option maxHeartbeats 4000000
namespace K1
open PySem PySem.Spec PyProof.Rows L2 GxR NdefX GA SL
abbrev s_is_tree : Stmt := top 23
abbrev s_is_rows : Stmt := top 24
abbrev s_sizes : Stmt := top 25
abbrev s_words_of : Stmt := top 26
abbrev s_ahead : Stmt := top 27
abbrev s_rows_of : Stmt := top 28
abbrev s_demand_kinds : Stmt := top 29
abbrev s_demand_kind : Stmt := top 30
abbrev s_demand_tree : Stmt := top 31
abbrev s_demand_rows : Stmt := top 32
/-- an own error class of the module -/
structure Xc (K : PySem.W.Frag) (mg : Str → Option Value) (x : Str) (C : Addr) : Prop where
  g : mg x = some (.ref C)
  x : PySem.W.excIn K C [.type "ValueError", .type "Exception", .type "BaseException", .type "object"] "ValueError.__new__" = true
  k : PySem.W.keepIn K (.ref C) = true
  b : PySem.W.subIn K (.ref C) (.type "BaseException") = some true
  t : PySem.W.typeIn K (.ref C) = some (.type "type")
theorem ps_raiseX {X : Cx} {W : WX} {C : Addr} {x m : Str} {j : Nat} {p p2 pos pos2 : Pos} (hc : X.calm = true) (T : Xc X.K X.mg x C) (tk : Takes X W) (hg : Gl X x := by rfl) (hdb : (x == ("__debug__" : Str)) = false := by decide) :
    PS X (.Raise (some (.Call (.Name x p) [.Constant (.str m) j p2] [] pos)) none pos2) (fun _ σ H => W (.ref C) none σ H) := ps_raise hc tk (pmk_own PySem.F.excBase_ValueError T.x T.g T.k (raises_own T.b T.t) hg hdb)
/-- kinds are asked for -/
def sp_kinds (T : List Addr) (CK : Addr) : Sp := fun vs H Q E => ∃ (v : V) (d : PyData), vs = [v] ∧ Dv [] H v d ∧ wt d ≤ 4000000 ∧ Tabs T H ∧ ∀ H', Go T [] H H' → Tabs T H' → if kindsB d = true then Q .non H' else E (.ref CK) none H'
/-- .. and a kind, but none is given -/
def sp_kind (T : List Addr) (CK CN : Addr) (n : Nat) : Sp := fun vs H Q E => ∃ (v u : V) (r : List V) (d e : PyData), vs = v :: u :: r ∧ r.length = n ∧ Dv [] H v d ∧ Dv [] H u e ∧ highD e = false ∧ wt d ≤ 4000000 ∧ Tabs T H ∧
  ∀ H', Go T [] H H' → Tabs T H' → if kindsB d = true then E (.ref CN) none H' else E (.ref CK) none H'
/-- .. and rows, but none are given -/
def sp_rows (T : List Addr) (CK : Addr) (N : VK → XK → Hp → Prop) : Sp := fun vs H Q E => ∃ (v u : V) (d e : PyData), vs = [v, u] ∧ Dv [] H v d ∧ Dv [] H u e ∧ tupB e 1 96 = false ∧ wt d ≤ 4000000 ∧ Tabs T H ∧
  ∀ H', Go T [] H H' → Tabs T H' → if kindsB d = true then N Q E H' else E (.ref CK) none H'
theorem sc_demand_kinds : FnScope ["kinds"] ["kinds"] (defScope s_demand_kinds) := ⟨rfl, rfl, rfl, by decide +kernel, rfl, by decide +kernel, by decide +kernel⟩
theorem sc_demand_kind : FnScope ["kinds", "kind", "name", "_"] ["kinds", "kind"] (defScope s_demand_kind) := ⟨rfl, rfl, rfl, by decide +kernel, rfl, by decide +kernel, by decide +kernel⟩
theorem sc_demand_tree : FnScope ["kinds", "kind", "words"] ["kinds", "kind", "words"] (defScope s_demand_tree) := ⟨rfl, rfl, rfl, by decide +kernel, rfl, by decide +kernel, by decide +kernel⟩
theorem sc_demand_rows : FnScope ["kinds", "rows"] ["kinds", "rows"] (defScope s_demand_rows) := ⟨rfl, rfl, rfl, by decide +kernel, rfl, by decide +kernel, by decide +kernel⟩
section
variable {P : Program} {w : World} {K : PySem.W.Frag} {mg : Str → Option Value} {base : Heap} {f c CK CN CT CR : Addr} {fd : FuncData} {T : List Addr}
theorem ok_demand_kinds (F : Fun K "demand_kinds" "demand_kinds" s_demand_kinds f fd) (XK' : Xc K mg "BadKinds" CK) (Fk : Fnn P w K mg base CX0 9 "is_kinds" ["thing"] (sp_look T kindsB)) : FnOk P w K mg base (L2.CX P w) 10 f fd ["kinds"] (sp_kinds T CK) := by
  refine F.okX sc_demand_kinds (fun vs H Q E h => ?_) (fun cdv A outer s H vs Q E hr h => ?_)
  · obtain ⟨_, _, rfl, _⟩ := h
    rfl
  obtain ⟨v, d, rfl, hv, hw, ht, q⟩ := h
  refine ⟨_, pss_one (ps_if (pt_not (pt_val (pe_fn Fk hr (by decide) pass0 (pa_cons (pv 0) pa_nil)))) (pss_one (ps_raiseX rfl XK' (takes_of rfl rfl rfl rfl))) pss_nil), ?_⟩
  refine ⟨_, rfl, [], v, d, rfl, hv, hw, ht, fun H' g' t' => ⟨_, rfl, ?_⟩⟩
  have qq := q H' g' t'
  cases c : kindsB d with
  | true =>
    rw [c] at qq
    exact iteF ((if_pos rfl).mp qq)
  | false =>
    rw [c] at qq
    exact iteT ((if_neg Bool.false_ne_true).mp qq)
theorem ok_demand_kind (F : Fun K "demand_kind" "demand_kind" s_demand_kind f fd) (B : Bl mg) (XN : Xc K mg "BadKind" CN) (Fd : Fnn P w K mg base (L2.CX P w) 10 "demand_kinds" ["kinds"] (sp_kinds T CK)) : FnOk P w K mg base (L2.CX P w) 11 f fd ["kinds", "kind"] (sp_kind T CK CN 0) := by
  have nd := sc_demand_kind.nd
  refine F.okX sc_demand_kind (fun vs H Q E h => ?_) (fun cdv A outer s H vs Q E hr h => ?_)
  · obtain ⟨_, _, r, _, _, rfl, hr, _⟩ := h
    rw [List.length_eq_zero_iff.mp hr] <;> rfl
  obtain ⟨v, u, r, d, e, rfl, hr0, hv, hu, he, hw, ht, q⟩ := h
  rw [List.length_eq_zero_iff.mp hr0]
  refine ⟨_, pss_cons (ps_expr (pe_fn Fd hr (by decide) (passes_call (takes_of rfl rfl rfl rfl) (fun _ _ _ _ h => h)) (pa_cons (pv 0) pa_nil)))
    (pss_one (ps_if (PW.pt (pw_or (pt_not (pt_val (pe_isi_str B (pv 1)))) (pw_or1 (pt_cmpR op_notIn_seq (pv 1) (pe_lc (own := [("name", 2), ("_", 3)]) (g := gTup K 2 (gCons (gName 2) (gCons (gName 3) gNil))) (tt := tYes) rfl nd (pi_tup (pv 0)) (blkOk_by (own := [("name", 2), ("_", 3)]) (N := ["kinds", "kind", "name", "_"]) (sc := defScope s_demand_kind) (by decide +kernel))
        (fun _ _ _ _ _ => pg_tup rfl (pgs_cons (pg_name (i := 2) nd rfl (Or.inl rfl)) (pgs_cons (pg_name (i := 3) nd rfl (Or.inl rfl)) pgs_nil))) (fun _ _ _ _ _ => pts_nil) (fun _ _ _ _ _ => pv 2)) rfl)))) (pss_one (ps_raiseX rfl XN (takes_of rfl rfl rfl rfl))) pss_nil)), ?_⟩
  refine ⟨_, rfl, v, d, rfl, hv, hw, ht, fun H' g' t' => ?_⟩
  have qq := q H' g' t'
  cases c : kindsB d with
  | false =>
    rw [c] at qq
    exact iteF ((if_neg Bool.false_ne_true).mp qq)
  | true =>
    rw [c] at qq
    refine iteT ?_
    have q2 : ∀ H'', Go T [] H H'' → Tabs T H'' → E (.ref CN) none H'' := fun H'' g'' t'' => by
      have := q H'' g'' t''
      rw [c] at this
      exact (if_pos rfl).mp this
    refine ⟨_, rfl, _, _, _, rfl, hu.go g', _, rfl, ?_⟩
    cases e with
    | str y =>
      cases hu
      refine iteF ?_
      unfold kindsB at c
      simp only [Bool.and_eq_true] at c
      obtain ⟨⟨⟨⟨c1, c2⟩, _⟩, _⟩, _⟩ := c
      obtain ⟨ks, rfl, l1, l6⟩ := tupOf c1
      obtain ⟨a, xs, rfl, e, na, hxs⟩ := dv_tup hv
      have hk : ∀ k ∈ ks, kindB k = true := fun k hk => List.all_eq_true.mp c2 k hk
      have e1 : H' a = some (.tup xs) := g'.tup e na
      have hl := hxs.length
      refine ⟨_, rfl, _, rfl, a, rfl, ⟨_, SqT.of e1⟩, fun D hD => ?_⟩
      refine lc_fst (M := []) (T := T) (H0 := H') (xs := xs) (ds := ks) walk_tup (fun H' g => SqT.of (g.tup e1 (by simp))) (hxs.go g') ?_ Go.refl hD (sz (by omega)) (fun _ _ => rfl) (fun _ _ => rfl) (fun H2 acc g2 e2 d2 => ?_)
      · intro k hkm
        obtain ⟨x, ms, rfl, _⟩ := kind_of (hk k hkm)
        exact ⟨_, _, rfl⟩
      rw [strs_of (titles_str hk)] at d2
      have d2' := d2.of_strs
      refine ⟨D, _, rfl, .inl (SqL.of e2), rfl, ?_, _, rfl, ?_⟩
      · rw [d2', List.all_map]
        exact List.all_eq_true.mpr fun _ _ => rfl
      · refine if_true_of ?_ (q2 H2 (g'.trans g2) (g2.tb t'))
        rw [d2', inV_strs]
        have nin : y ∉ (ks.map fstD).map strD := fun hin => by
          obtain ⟨t, hm, rfl⟩ := List.mem_map.mp hin
          obtain ⟨k, hkm, rfl⟩ := List.mem_map.mp hm
          obtain ⟨x, ms, rfl, hx, _⟩ := kind_of (hk k hkm)
          have he : highS x = false := he
          rw [he] at hx
          cases hx
        rw [decide_eq_false nin] <;> rfl
    | _ => exact iteT (q2 H' g' t')
theorem sc_is_tree : FnScope ["kinds", "kind", "thing", "makers", "awaited", "word"] ["kinds", "kind", "thing"] (defScope s_is_tree) := ⟨rfl, rfl, rfl, by decide +kernel, rfl, by decide +kernel, by decide +kernel⟩
theorem sc_ahead : FnScope ["kinds", "kind", "one", "other", "makers"] ["kinds", "kind", "one", "other"] (defScope s_ahead) := ⟨rfl, rfl, rfl, by decide +kernel, rfl, by decide +kernel, by decide +kernel⟩
theorem sc_is_rows : FnScope ["kinds", "thing", "makers", "kinds_ahead", "row"] ["kinds", "thing"] (defScope s_is_rows) := ⟨rfl, rfl, rfl, by decide +kernel, rfl, by decide +kernel, by decide +kernel⟩
theorem ok_is_tree (F : Fun K "is_tree" "is_tree" s_is_tree f fd) (Fd : Fnn P w K mg base (L2.CX P w) 11 "demand_kind" ["kinds", "kind"] (sp_kind T CK CN 0)) : FnOk P w K mg base (L2.CX P w) 12 f fd ["kinds", "kind", "thing"] (sp_kind T CK CN 1) := by
  refine F.okX sc_is_tree (fun vs H Q E h => ?_) (fun cdv A outer s H vs Q E hr h => ?_)
  · obtain ⟨_, _, r, _, _, rfl, hr, _⟩ := h
    rw [List.length_cons, List.length_cons, hr] <;> rfl
  obtain ⟨v, u, r, d, e, rfl, hr0, h⟩ := h
  match r, hr0 with
  | [t], _ =>
    refine ⟨_, pss_cons (ps_expr (pe_fn Fd hr (by decide) (passes_call (takes_of rfl rfl rfl rfl) (fun _ _ _ _ h => h)) (pa_cons (pv 0) (pa_cons (pv 1) pa_nil)))) pss_never, ?_⟩
    exact ⟨_, rfl, _, rfl, v, u, [], d, e, rfl, rfl, h⟩
theorem ok_demand_tree (F : Fun K "demand_tree" "demand_tree" s_demand_tree f fd) (Fd : Fnn P w K mg base (L2.CX P w) 12 "is_tree" ["kinds", "kind", "thing"] (sp_kind T CK CN 1)) : FnOk P w K mg base (L2.CX P w) 13 f fd ["kinds", "kind", "words"] (sp_kind T CK CN 1) := by
  refine F.okX sc_demand_tree (fun vs H Q E h => ?_) (fun cdv A outer s H vs Q E hr h => ?_)
  · obtain ⟨_, _, r, _, _, rfl, hr, _⟩ := h
    rw [List.length_cons, List.length_cons, hr] <;> rfl
  obtain ⟨v, u, r, d, e, rfl, hr0, h⟩ := h
  match r, hr0 with
  | [t], _ =>
    refine ⟨_, pss_one (ps_if (pt_not (pt_val (pe_fn Fd hr (by decide) (passes_call (takes_of rfl rfl rfl rfl) (fun _ _ _ _ h => h)) (pa_cons (pv 0) (pa_cons (pv 1) (pa_cons (pv 2) pa_nil)))))) pss_never pss_nil), ?_⟩
    exact ⟨_, rfl, _, rfl, _, rfl, v, u, [t], d, e, rfl, rfl, h⟩
theorem ok_ahead (F : Fun K "ahead" "ahead" s_ahead f fd) (Fd : Fnn P w K mg base (L2.CX P w) 13 "demand_tree" ["kinds", "kind", "words"] (sp_kind T CK CN 1)) : FnOk P w K mg base (L2.CX P w) 14 f fd ["kinds", "kind", "one", "other"] (sp_kind T CK CN 2) := by
  refine F.okX sc_ahead (fun vs H Q E h => ?_) (fun cdv A outer s H vs Q E hr h => ?_)
  · obtain ⟨_, _, r, _, _, rfl, hr, _⟩ := h
    rw [List.length_cons, List.length_cons, hr] <;> rfl
  obtain ⟨v, u, r, d, e, rfl, hr0, h⟩ := h
  match r, hr0 with
  | [t, t'], _ =>
    refine ⟨_, pss_cons (ps_expr (pe_fn Fd hr (by decide) (passes_call (takes_of rfl rfl rfl rfl) (fun _ _ _ _ h => h)) (pa_cons (pv 0) (pa_cons (pv 1) (pa_cons (pv 2) pa_nil))))) pss_never, ?_⟩
    exact ⟨_, rfl, _, rfl, _, rfl, v, u, [t], d, e, rfl, rfl, h⟩
theorem ok_is_rows (F : Fun K "is_rows" "is_rows" s_is_rows f fd) (C : Cn K mg) (Ft : Fnn P w K mg base CX0 1 "is_tuple" ["thing", "least", "most"] sp_is_tuple) (Fd : Fnn P w K mg base (L2.CX P w) 10 "demand_kinds" ["kinds"] (sp_kinds T CK)) :
    FnOk P w K mg base (L2.CX P w) 11 f fd ["kinds", "thing"] (sp_rows T CK fun Q _ H' => Q (.bl false) H') := by
  obtain ⟨tf, mF⟩ := C.rows
  refine F.okX sc_is_rows (fun vs H Q E h => ?_) (fun cdv A outer s H vs Q E hr h => ?_)
  · obtain ⟨_, _, _, _, rfl, _⟩ := h
    rfl
  obtain ⟨v, u, d, e, rfl, hv, hu, he, hw, ht, q⟩ := h
  refine ⟨_, pss_cons (ps_expr (pe_fn Fd hr (by decide) (passes_call (takes_of rfl rfl rfl rfl) (fun _ _ _ _ h => h)) (pa_cons (pv 0) pa_nil)))
    (pss_cons (ps_if (pt_not (pt_val (pe_fn Ft hr (by decide) pass0 (pa_cons (pv 1) (pa_cons pe_int (pa_cons (pe_glob (v := .int 96) rfl mF ⟨_, rfl⟩) pa_nil)))))) (pss_one (ps_ret pe_bl)) pss_nil) pss_never), ?_⟩
  refine ⟨_, rfl, v, d, rfl, hv, hw, ht, fun H' g' t' => ?_⟩
  have qq := q H' g' t'
  cases c : kindsB d with
  | false =>
    rw [c] at qq
    exact iteF ((if_neg Bool.false_ne_true).mp qq)
  | true =>
    rw [c] at qq
    refine iteT ?_
    refine ⟨_, rfl, [], u, e, 1, 96, rfl, hu.go g', _, rfl, ?_⟩
    rw [he]
    exact iteT ((if_pos rfl).mp qq)
theorem ok_demand_rows (F : Fun K "demand_rows" "demand_rows" s_demand_rows f fd) (XR : Xc K mg "BadRows" CR) (Fd : Fnn P w K mg base (L2.CX P w) 11 "is_rows" ["kinds", "thing"] (sp_rows T CK fun Q _ H' => Q (.bl false) H')) :
    FnOk P w K mg base (L2.CX P w) 12 f fd ["kinds", "rows"] (sp_rows T CK fun _ E H' => E (.ref CR) none H') := by
  refine F.okX sc_demand_rows (fun vs H Q E h => ?_) (fun cdv A outer s H vs Q E hr h => ?_)
  · obtain ⟨_, _, _, _, rfl, _⟩ := h
    rfl
  obtain ⟨v, u, d, e, rfl, hv, hu, he, hw, ht, q⟩ := h
  refine ⟨_, pss_one (ps_if (pt_not (pt_val (pe_fn Fd hr (by decide) (passes_call (takes_of rfl rfl rfl rfl) (fun _ _ _ _ h => h)) (pa_cons (pv 0) (pa_cons (pv 1) pa_nil))))) (pss_one (ps_raiseX rfl XR (takes_of rfl rfl rfl rfl))) pss_nil), ?_⟩
  refine ⟨_, rfl, _, rfl, v, u, d, e, rfl, hv, hu, he, hw, ht, fun H' g' t' => ?_⟩
  have qq := q H' g' t'
  cases c : kindsB d with
  | false =>
    rw [c] at qq
    exact iteF ((if_neg Bool.false_ne_true).mp qq)
  | true =>
    rw [c] at qq
    exact iteT ⟨_, rfl, iteT ((if_pos rfl).mp qq)⟩
theorem sc_sizes : FnScope ["kinds", "rows", "makers", "found", "maker", "entries", "parts"] ["kinds", "rows"] (defScope s_sizes) := ⟨rfl, rfl, rfl, by decide +kernel, rfl, by decide +kernel, by decide +kernel⟩
theorem ok_sizes (F : Fun K "sizes" "sizes" s_sizes f fd) (Fd : Fnn P w K mg base (L2.CX P w) 12 "demand_rows" ["kinds", "rows"] (sp_rows T CK fun _ E H' => E (.ref CR) none H')) :
    FnOk P w K mg base (L2.CX P w) 13 f fd ["kinds", "rows"] (sp_rows T CK fun _ E H' => E (.ref CR) none H') := by
  refine F.okX sc_sizes (fun vs H Q E h => ?_) (fun cdv A outer s H vs Q E hr h => ?_)
  · obtain ⟨_, _, _, _, rfl, _⟩ := h
    rfl
  obtain ⟨v, u, d, e, rfl, hv, hu, he, hw, ht, q⟩ := h
  refine ⟨_, pss_cons (ps_expr (pe_fn Fd hr (by decide) (passes_call (takes_of rfl rfl rfl rfl) (fun _ _ _ _ h => h)) (pa_cons (pv 0) (pa_cons (pv 1) pa_nil)))) pss_never, ?_⟩
  exact ⟨_, rfl, _, rfl, v, u, d, e, rfl, hv, hu, he, hw, ht, fun H' g' t' => q H' g' t'⟩
theorem sc_words_of : FnScope ["kinds", "rows", "makers", "found", "maker", "entries", "fields", "parts"] ["kinds", "rows"] (defScope s_words_of) := ⟨rfl, rfl, rfl, by decide +kernel, rfl, by decide +kernel, by decide +kernel⟩
theorem ok_words_of (F : Fun K "words_of" "words_of" s_words_of f fd) (Fd : Fnn P w K mg base (L2.CX P w) 12 "demand_rows" ["kinds", "rows"] (sp_rows T CK fun _ E H' => E (.ref CR) none H')) :
    FnOk P w K mg base (L2.CX P w) 13 f fd ["kinds", "rows"] (sp_rows T CK fun _ E H' => E (.ref CR) none H') := by
  refine F.okX sc_words_of (fun vs H Q E h => ?_) (fun cdv A outer s H vs Q E hr h => ?_)
  · obtain ⟨_, _, _, _, rfl, _⟩ := h
    rfl
  obtain ⟨v, u, d, e, rfl, hv, hu, he, hw, ht, q⟩ := h
  refine ⟨_, pss_cons (ps_expr (pe_fn Fd hr (by decide) (passes_call (takes_of rfl rfl rfl rfl) (fun _ _ _ _ h => h)) (pa_cons (pv 0) (pa_cons (pv 1) pa_nil)))) pss_never, ?_⟩
  exact ⟨_, rfl, _, rfl, v, u, d, e, rfl, hv, hu, he, hw, ht, fun H' g' t' => q H' g' t'⟩
theorem sc_rows_of : FnScope ["kinds", "kind", "words", "parts", "order", "index", "makers", "names"] ["kinds", "kind", "words"] (defScope s_rows_of) := ⟨rfl, rfl, rfl, by decide +kernel, rfl, by decide +kernel, by decide +kernel⟩
theorem ok_rows_of (F : Fun K "rows_of" "rows_of" s_rows_of f fd) (Fd : Fnn P w K mg base (L2.CX P w) 13 "demand_tree" ["kinds", "kind", "words"] (sp_kind T CK CN 1)) : FnOk P w K mg base (L2.CX P w) 14 f fd ["kinds", "kind", "words"] (sp_kind T CK CN 1) := by
  refine F.okX sc_rows_of (fun vs H Q E h => ?_) (fun cdv A outer s H vs Q E hr h => ?_)
  · obtain ⟨_, _, r, _, _, rfl, hr, _⟩ := h
    rw [List.length_cons, List.length_cons, hr] <;> rfl
  obtain ⟨v, u, r, d, e, rfl, hr0, h⟩ := h
  match r, hr0 with
  | [t], _ =>
    refine ⟨_, pss_cons (ps_expr (pe_fn Fd hr (by decide) (passes_call (takes_of rfl rfl rfl rfl) (fun _ _ _ _ h => h)) (pa_cons (pv 0) (pa_cons (pv 1) (pa_cons (pv 2) pa_nil))))) pss_never, ?_⟩
    exact ⟨_, rfl, _, rfl, _, rfl, v, u, [t], d, e, rfl, rfl, h⟩
end
end K1
set_option Elab.async false
set_option linter.all false
set_option maxRecDepth 100000
set_option maxHeartbeats 4000000
namespace K1
open PySem PySem.Spec PyProof.Rows L2 GxR NdefX GA SL
abbrev s_law_door : Stmt := top 59
/-- what the clauses of the law's try take -/
structure Xm (K : PySem.W.Frag) (mg : Str → Option Value) (CK CN CR CT : Addr) : Prop where
  gT : mg "TreeError" = some (.ref CT)
  kk : PySem.W.exmOne K (.ref CK) (.ref CK) = some true
  nk : PySem.W.exmOne K (.ref CN) (.ref CK) = some false
  rk : PySem.W.exmOne K (.ref CR) (.ref CK) = some false
  nt : PySem.W.exmOne K (.ref CN) (.ref CT) = some true
  rt : PySem.W.exmOne K (.ref CR) (.ref CT) = some true
def doorS (n : Int) (b : Bool) : Str := if b = true then (if n = 1 then "let" else "other") else "kinds"
def sp_door (T : List Addr) : Sp := fun vs H Q _ => ∃ (n : Int) (v : V) (d : PyData), vs = [.int n, v] ∧ Dv [] H v d ∧ wt d ≤ 4000000 ∧ Tabs T H ∧ ∀ H', Go T [] H H' → Tabs T H' → Q (.str (doorS n (kindsB d))) H'
theorem sc_law_door : FnScope ["door", "value", "found"] ["door", "value"] (defScope s_law_door) := ⟨rfl, rfl, rfl, by decide +kernel, rfl, by decide +kernel, by decide +kernel⟩
section
variable {P : Program} {w : World} {K : PySem.W.Frag} {mg : Str → Option Value} {base : Heap} {f c CK CN CT CR : Addr} {fd : FuncData} {T : List Addr}
theorem ok_law_door (F : Fun K "_law_door" "_law_door" s_law_door f fd) (XK' : Xc K mg "BadKinds" CK) (M : Xm K mg CK CN CR CT)
    (F0 : Fnw P w K mg base (L2.CX P w) 12 "is_tree" ["kinds", "kind", "thing"] (sp_kind T CK CN 1)) (F1 : Fnn P w K mg base (L2.CX P w) 11 "is_rows" ["kinds", "thing"] (sp_rows T CK fun Q _ H' => Q (.bl false) H'))
    (F2 : Fnn P w K mg base (L2.CX P w) 13 "sizes" ["kinds", "rows"] (sp_rows T CK fun _ E H' => E (.ref CR) none H')) (F3 : Fnw P w K mg base (L2.CX P w) 13 "words_of" ["kinds", "rows"] (sp_rows T CK fun _ E H' => E (.ref CR) none H'))
    (F4 : Fnn P w K mg base (L2.CX P w) 14 "ahead" ["kinds", "kind", "one", "other"] (sp_kind T CK CN 2)) (F5 : Fnn P w K mg base (L2.CX P w) 14 "rows_of" ["kinds", "kind", "words"] (sp_kind T CK CN 1)) :
    FnOk P w K mg base CX0 15 f fd ["door", "value"] (sp_door T) := by
  have nd := sc_law_door.nd
  refine F.ok sc_law_door (fun vs H Q E h => ?_) (fun cdv A outer s H vs Q E hr h => ?_)
  · obtain ⟨_, _, _, rfl, _⟩ := h
    rfl
  obtain ⟨n, v, d, rfl, hv, hw, ht, q⟩ := h
  have hr1 : Room 14 _ := hr
  refine ⟨_, pss_cons (ps_set (i := 2) nd rfl (Or.inl rfl) pe_str)
    (pss_cons (ps_try_many (Wout := fun _ _ _ _ => False) (l := [(.ref CK, fun _ _ _ => tAsg (tC (.str "kinds")) (gName 2)), (.ref CT, fun _ _ _ => tAsg (tC (.str "other")) (gName 2))]) rfl rfl takes0
      (fun W pn xe tk _ => pss_one (ps_if (pt_cmpR op_eq (pv 0) pe_int (nomark _)) (pss_one (ps_expr (pe_kw F0 hr1 (by decide) (fun σ => passAt tk σ) (pk_cons (pv 1) (pk_cons pe_str (pk_cons (pe_tup pa_nil) pk_nil))))))
        (pss_one (ps_if (pt_cmpR op_eq (pv 0) pe_int (nomark _)) (pss_one (ps_expr (pe_fnS F1 hr1 (by decide) (fun σ => passAt tk σ) (pa_cons (pv 1) (pa_cons (pe_lst pa_nil) pa_nil)))))
        (pss_one (ps_if (pt_cmpR op_eq (pv 0) pe_int (nomark _)) (pss_one (ps_expr (pe_fnS F2 hr1 (by decide) (fun σ => passAt tk σ) (pa_cons (pv 1) (pa_cons (pe_tup pa_nil) pa_nil)))))
        (pss_one (ps_if (pt_cmpR op_eq (pv 0) pe_int (nomark _)) (pss_one (ps_expr (pe_kw F3 hr1 (by decide) (fun σ => passAt tk σ) (pk_cons (pv 1) (pk_cons pe_int pk_nil)))))
        (pss_one (ps_if (pt_cmpR op_eq (pv 0) pe_int (nomark _)) (pss_one (ps_expr (pe_fnS F4 hr1 (by decide) (fun σ => passAt tk σ) (pa_cons (pv 1) (pa_cons pe_non (pa_cons (pe_tup pa_nil) (pa_cons (pe_tup pa_nil) pa_nil)))))))
        (pss_one (ps_expr (pe_fnS F5 hr1 (by decide) (fun σ => passAt tk σ) (pa_cons (pv 1) (pa_cons pe_str (pa_cons pe_non pa_nil))))))))))))))))
      (.cons ⟨rfl, by decide, Or.inl XK'.g⟩ (fun _ _ _ _ _ _ _ => pss_one (ps_set (i := 2) nd rfl (Or.inl rfl) pe_str)) (.cons ⟨rfl, by decide, Or.inl M.gT⟩ (fun _ _ _ _ _ _ _ => pss_one (ps_set (i := 2) nd rfl (Or.inl rfl) pe_str)) .nil)))
    (pss_one (ps_ret (pv 2)))), ?_⟩
  have kK : ∀ (D : Ends) (σ : L2.St) (H' : Hp), D.nx (σ.set 2 (some (.str "kinds"))) H' → wMany K (fun _ _ _ _ => False) D [(.ref CK, fun _ _ _ => tAsg (tC (.str "kinds")) (gName 2)), (.ref CT, fun _ _ _ => tAsg (tC (.str "other")) (gName 2))] (.ref CK) none σ H' :=
    fun D σ H' h => ⟨true, M.kk, fun _ _ _ => h, fun z => by cases z⟩
  have kN : ∀ (D : Ends) (σ : L2.St) (H' : Hp), D.nx (σ.set 2 (some (.str "other"))) H' → wMany K (fun _ _ _ _ => False) D [(.ref CK, fun _ _ _ => tAsg (tC (.str "kinds")) (gName 2)), (.ref CT, fun _ _ _ => tAsg (tC (.str "other")) (gName 2))] (.ref CN) none σ H' :=
    fun D σ H' h => Exists.intro false (And.intro M.nk (And.intro (fun z => Bool.noConfusion z) fun _ => Exists.intro true (And.intro M.nt (And.intro (fun _ _ _ => h) fun z => Bool.noConfusion z))))
  have kR : ∀ (D : Ends) (σ : L2.St) (H' : Hp), D.nx (σ.set 2 (some (.str "other"))) H' → wMany K (fun _ _ _ _ => False) D [(.ref CK, fun _ _ _ => tAsg (tC (.str "kinds")) (gName 2)), (.ref CT, fun _ _ _ => tAsg (tC (.str "other")) (gName 2))] (.ref CR) none σ H' :=
    fun D σ H' h => Exists.intro false (And.intro M.rk (And.intro (fun z => Bool.noConfusion z) fun _ => Exists.intro true (And.intro M.rt (And.intro (fun _ _ _ => h) fun z => Bool.noConfusion z))))
  have fin : ∀ (H' : Hp) (x : Str), Go T [] H H' → Tabs T H' → x = doorS n (kindsB d) → Q (.str x) H' := fun H' x g t e => by rw [e]; exact q H' g t
  have ne : ∀ m : Int, n ≠ m → decide (V.int n = V.int m) = false := fun m h => decide_eq_false fun z => h (V.int.inj z)
  have d1 : kindsB d = false → ("kinds" : Str) = doorS n (kindsB d) := fun h => by unfold doorS; rw [h] <;> rfl
  have d2 : kindsB d = true → n ≠ 1 → ("other" : Str) = doorS n (kindsB d) := fun h h1 => by
    unfold doorS
    rw [h, if_pos rfl, if_neg h1]
  refine ⟨_, rfl, rfl, _, rfl, ?_⟩
  by_cases n0 : n = 0
  · refine if_true_of (decide_eq_true (by rw [n0])) ?_
    refine ⟨_, rfl, by show 0 ≤ sizeLine; omega, fun p hp => ?_⟩
    have gp : Go T [] H (upd H p (.tup [])) := Go.new hp
    refine ⟨v, .str "", [.ref p], d, .str "", rfl, rfl, hv.go gp, .str _, by decide +kernel, hw, gp.tb ht, fun H' g' t' => ?_⟩
    cases c : kindsB d with
    | true => exact iteT (kN _ _ _ ⟨_, rfl, fin H' _ (gp.trans g') t' (d2 c (by omega))⟩)
    | false => exact iteF (kK _ _ _ ⟨_, rfl, fin H' _ (gp.trans g') t' (d1 c)⟩)
  refine if_false_of (ne 0 n0) ?_
  refine ⟨_, rfl, rfl, _, rfl, ?_⟩
  by_cases n1 : n = 1
  · refine if_true_of (decide_eq_true (by rw [n1])) ?_
    refine ⟨_, rfl, by show 0 ≤ sizeLine; omega, fun p hp => ?_⟩
    have gp : Go T [] H (upd H p (.lst [])) := Go.new hp
    refine ⟨v, .ref p, d, .list [], rfl, hv.go gp, .lst upd_same (by simp) .nil, rfl, hw, gp.tb ht, fun H' g' t' => ?_⟩
    cases c : kindsB d with
    | true => exact iteT ⟨_, rfl, fin H' _ (gp.trans g') t' (by unfold doorS; rw [c, if_pos rfl, if_pos n1])⟩
    | false => exact iteF (kK _ _ _ ⟨_, rfl, fin H' _ (gp.trans g') t' (d1 c)⟩)
  refine if_false_of (ne 1 n1) ?_
  refine ⟨_, rfl, rfl, _, rfl, ?_⟩
  by_cases n2 : n = 2
  · refine if_true_of (decide_eq_true (by rw [n2])) ?_
    refine ⟨_, rfl, by show 0 ≤ sizeLine; omega, fun p hp => ?_⟩
    have gp : Go T [] H (upd H p (.tup [])) := Go.new hp
    refine ⟨v, .ref p, d, .tuple [], rfl, hv.go gp, .tup upd_same (by simp) .nil, rfl, hw, gp.tb ht, fun H' g' t' => ?_⟩
    cases c : kindsB d with
    | true => exact iteT (kR _ _ _ ⟨_, rfl, fin H' _ (gp.trans g') t' (d2 c n1)⟩)
    | false => exact iteF (kK _ _ _ ⟨_, rfl, fin H' _ (gp.trans g') t' (d1 c)⟩)
  refine if_false_of (ne 2 n2) ?_
  refine ⟨_, rfl, rfl, _, rfl, ?_⟩
  by_cases n3 : n = 3
  · refine if_true_of (decide_eq_true (by rw [n3])) ?_
    refine ⟨_, rfl, v, .int 0, d, .int 0, rfl, hv, .int 0, rfl, hw, ht, fun H' g' t' => ?_⟩
    cases c : kindsB d with
    | true => exact iteT (kR _ _ _ ⟨_, rfl, fin H' _ g' t' (d2 c n1)⟩)
    | false => exact iteF (kK _ _ _ ⟨_, rfl, fin H' _ g' t' (d1 c)⟩)
  refine if_false_of (ne 3 n3) ?_
  refine ⟨_, rfl, rfl, _, rfl, ?_⟩
  by_cases n4 : n = 4
  · refine if_true_of (decide_eq_true (by rw [n4])) ?_
    refine ⟨_, rfl, by show 0 ≤ sizeLine; omega, fun p hp => ⟨by show 0 ≤ sizeLine; omega, fun p2 hp2 => ?_⟩⟩
    have gp : Go T [] H (upd (upd H p (.tup [])) p2 (.tup [])) := (Go.new hp).trans (Go.new hp2)
    refine ⟨v, .non, [.ref p, .ref p2], d, .none, rfl, rfl, hv.go gp, .non, rfl, hw, gp.tb ht, fun H' g' t' => ?_⟩
    cases c : kindsB d with
    | true => exact iteT (kN _ _ _ ⟨_, rfl, fin H' _ (gp.trans g') t' (d2 c n1)⟩)
    | false => exact iteF (kK _ _ _ ⟨_, rfl, fin H' _ (gp.trans g') t' (d1 c)⟩)
  refine if_false_of (ne 4 n4) ?_
  refine ⟨_, rfl, v, .str "", [.non], d, .str "", rfl, rfl, hv, .str _, by decide +kernel, hw, ht, fun H' g' t' => ?_⟩
  cases c : kindsB d with
  | true => exact iteT (kN _ _ _ ⟨_, rfl, fin H' _ g' t' (d2 c n1)⟩)
  | false => exact iteF (kK _ _ _ ⟨_, rfl, fin H' _ g' t' (d1 c)⟩)
end
end K1
set_option Elab.async false
set_option linter.all false
set_option maxRecDepth 100000
set_option maxHeartbeats 4000000
namespace K1
open PySem PySem.Spec PyProof.Rows L2 GxR NdefX GA SL
abbrev s_law_is : Stmt := top 60
abbrev s_law_is_name : Stmt := top 56
abbrev s_law_is_kinds : Stmt := top 57
def sp_law_is : Sp := fun vs H Q _ => ∃ (a b : Bool), vs = [.bl a, .bl b] ∧ Q (.bl (decide (a = b))) H
theorem sc_law_is : FnScope ["found", "due"] ["found", "due"] (defScope s_law_is) := ⟨rfl, rfl, rfl, by decide +kernel, rfl, by decide +kernel, by decide +kernel⟩
def sp_law_is_name (T : List Addr) : Sp := fun vs H Q _ => ∃ (v : V) (d : PyData), vs = [v, .bl true] ∧ Dv [] H v d ∧ wt d ≤ 4000000 ∧ Tabs T H ∧ ∀ H', Go T [] H H' → Tabs T H' → Q (.bl (highD d)) H'
theorem sc_law_is_name : FnScope ["value", "high", "low", "sign"] ["value", "high"] (defScope s_law_is_name) := ⟨rfl, rfl, rfl, by decide +kernel, rfl, by decide +kernel, by decide +kernel⟩
section
variable {P : Program} {w : World} {K : PySem.W.Frag} {mg : Str → Option Value} {base : Heap} {f c CK CN CT CR : Addr} {fd : FuncData} {T : List Addr}
theorem ok_law_is (F : Fun K "_law_is" "_law_is" s_law_is f fd) (B : Bl mg) : FnOk P w K mg base CX0 1 f fd ["found", "due"] sp_law_is := by
  refine F.ok sc_law_is (fun vs H Q E h => ?_) (fun cdv A outer s H vs Q E hr h => ?_)
  · obtain ⟨_, _, rfl, _⟩ := h
    rfl
  obtain ⟨a, b, rfl, q⟩ := h
  refine ⟨_, pss_one (ps_ret (pe_and (pe_isi_bool B (pv 0)) (pe_one (pe_cmpR op_eq (pv 0) (pv 1) (nomark _))))), ?_⟩
  refine ⟨_, rfl, _, [], _, rfl, .bl a, _, rfl, iteT ⟨_, rfl, _, rfl, rfl, goQ q ?_⟩⟩
  cases a <;> cases b <;> rfl
def low26 : Str := "abcdefghijklmnopqrstuvwxyz"
def up26 : Str := "ABCDEFGHIJKLMNOPQRSTUVWXYZ"
def an62 : Str := (low26 ++ up26) ++ "0123456789"
theorem upper26 : Txt.upper low26 = up26 := by
  rw [PyProof.Rows.upper_ascii (by decide +kernel)]
  decide +kernel
theorem mem_of_tab {L : List Nat} {p : Nat → Bool} (h1 : L.all (fun c => decide (c < 128)) = true) (h2 : (List.range 128).all (fun c => decide (c ∈ L) == p c) = true) (h3 : ∀ c, p c = true → c < 128) (c : Nat) : decide (c ∈ L) = p c := by
  by_cases h : c < 128
  · exact beq_iff_eq.mp (List.all_eq_true.mp h2 c (List.mem_range.mpr h))
  · have a : decide (c ∈ L) = false := decide_eq_false fun m => h (of_decide_eq_true (List.all_eq_true.mp h1 c m))
    have b : p c = false := by
      cases e : p c with
      | true => exact absurd (h3 c e) h
      | false => rfl
    rw [a, b]
theorem mem_up (c : Nat) : decide (c ∈ up26.cps.toList) = upC c := mem_of_tab (by decide +kernel) (by decide +kernel) (fun c h => anC_lt (by unfold anC; rw [h] <;> rfl)) c
theorem mem_an (c : Nat) : decide (c ∈ an62.cps.toList) = anC c := mem_of_tab (by decide +kernel) (by decide +kernel) (fun c h => anC_lt h) c
theorem ok_law_is_name (F : Fun K "_law_is_name" "_law_is_name" s_law_is_name f fd) (B : Bl mg) : FnOk P w K mg base CX0 1 f fd ["value", "high"] (sp_law_is_name T) := by
  have nd := sc_law_is_name.nd
  refine F.ok sc_law_is_name (fun vs H Q E h => ?_) (fun cdv A outer s H vs Q E hr h => ?_)
  · obtain ⟨_, _, rfl, _⟩ := h
    rfl
  obtain ⟨v, d, rfl, hv, hw, ht, q⟩ := h
  refine ⟨_, pss_cons (ps_set (i := 2) nd rfl (Or.inr rfl) pe_str)
    (pss_cons (ps_if (PW.pt (pw_or (pt_not (pt_val (pe_isi_str B (pv 0)))) (pw_or (pt_cmpR op_outside (pe_lens B (pv 0)) (pe_rng B pe_int pe_int) rfl) (pw_or1 (pt_cmpR op_in_seq (pv 0) (pe_tup (pa_cons pe_str (pa_cons pe_str (pa_cons pe_str pa_nil)))) rfl))))) (pss_one (ps_ret pe_bl)) pss_nil)
    (pss_cons (ps_if (pt_cmpR op_notInS (pe_ix ix_str (pv 0) pe_int (fun _ _ => rfl)) (pe_ix ix_list (pe_lst (pa_cons (pv 2) (pa_cons (pe_upper (pv 2)) pa_nil))) (pe_toInt B (pv 1)) (fun _ _ => rfl)) rfl) (pss_one (ps_ret pe_bl)) pss_nil)
    (pss_one (ps_ret (pe_allL rfl B (pe_lc (own := [("sign", 3)]) (g := gName 3) (tt := tYes) rfl nd (pi_str (pv 0)) (blkOk_by (own := [("sign", 3)]) (N := ["value", "high", "low", "sign"]) (sc := defScope s_law_is_name) (by decide +kernel))
        (fun _ _ _ _ _ => pg_name (i := 3) nd rfl (Or.inl rfl)) (fun _ _ _ _ _ => pts_nil) (fun _ _ _ _ _ => pe_cmpR op_inS (pv 3) (pe_op op_add_str (pe_op op_add_str (pv 2) (pe_upper (pv 2))) pe_str) rfl))))))), ?_⟩
  refine ⟨_, rfl, _, _, _, rfl, hv, _, rfl, ?_⟩
  cases hv with
  | str x =>
    refine iteF ?_
    have hs : x.length ≤ sizeLine := sz (by unfold wt at hw; omega)
    refine ⟨_, rfl, x, rfl, hs, 1, 11, rfl, fun p hp => ⟨_, p, 1, 11, rfl, rfl, upd_same, _, rfl, ?_⟩⟩
    have gp : Go T [] H (upd H p (.rng 1 11)) := Go.new hp
    have q1 : ∀ H', Go T [] (upd H p (.rng 1 11)) H' → Q (.bl (highS x)) H' := fun H' g => q H' (gp.trans g) (g.tb (gp.tb ht))
    have hS : highS x = (decide (1 ≤ x.length) && decide (x.length ≤ 10) && x.cps.toList.all anC && !kept x && (match x.cps.toList with | c :: _ => upC c | [] => false)) := by
      unfold highS nameS
      cases e : x.cps.toList with
      | nil => simp
      | cons c r =>
        simp only [List.all_cons]
        cases upC c <;> cases loC c <;> simp
    by_cases c : (1 : Int) ≤ (x.length : Int) ∧ (x.length : Int) < 11
    · rw [decide_eq_true c]
      refine iteF ?_
      have c1 : 1 ≤ x.length := by omega
      have c2 : x.length ≤ 10 := by omega
      rw [decide_eq_true c1, decide_eq_true c2] at hS
      refine ⟨_, rfl, by show 3 ≤ sizeLine; decide, fun p2 hp2 => ?_⟩
      have gp2 : Go T [] (upd H p (.rng 1 11)) (upd (upd H p (.rng 1 11)) p2 (.tup [.str "fun", .str "kind", .str "number"])) := Go.new hp2
      refine ⟨p2, ([("fun" : Str), "kind", "number"]).map V.str, rfl, .inr (SqT.of upd_same), rfl, flat_strs _, _, rfl, ?_⟩
      rw [inV_strs]
      have e : decide (x ∈ [("fun" : Str), "kind", "number"]) = kept x := by
        unfold kept
        simp only [List.mem_cons, List.not_mem_nil, or_false, Bool.decide_or, Bool.or_assoc]
      show if decide (x ∈ [("fun" : Str), "kind", "number"]) = true then _ else _
      rw [e]
      cases ck : kept x with
      | true =>
        rw [ck] at hS
        refine iteT ?_
        have := q1 _ gp2
        rw [hS] at this
        exact goQ this (by simp)
      | false =>
        rw [ck] at hS
        refine iteF ?_
        obtain ⟨c0, r0, e0⟩ := cons_of_len c1
        rw [e0] at hS
        refine ⟨_, rfl, x, 0, c0, rfl, rfl, hs, (by rw [e0]; exact atI_nat (j := 0) rfl), _, rfl, _, rfl, ⟨_, rfl⟩, low26, rfl, rfl, by decide +kernel, by show 2 ≤ sizeLine; decide, fun p3 hp3 => ?_⟩
        rw [upper26]
        refine ⟨_, rfl, .inr ⟨true, rfl, p3, [.str low26, .str up26], 1, .str up26, rfl, rfl, SqL.of upd_same, rfl, c0, up26, rfl, rfl, _, rfl, ?_⟩⟩
        have gp3 := gp2.trans (Go.new (T := T) (M := []) (o := .lst [.str low26, .str up26]) hp3)
        rw [mem_up]
        simp only [Bool.true_and, Bool.not_false, Bool.and_true] at hS
        cases cu : upC c0 with
        | false =>
          refine iteT ?_
          have := q1 _ gp3
          rw [hS, cu, Bool.and_false] at this
          exact this
        | true =>
          refine iteF ?_
          rw [cu, Bool.and_true] at hS
          refine ⟨_, rfl, x, rfl, fun D hD => ?_⟩
          refine lc_map (T := T) (H0 := _) (fun i => .bl (anC (x.cps.toList.getD i 0))) walk_str (fun _ _ => trivial) ((gp.trans gp3).tb ht) Go.refl hD (show x.cps.size ≤ sizeLine from hs) (fun i y H' H'' R hi g t h hR => ?_) (fun H' g' t' e' => ?_)
          · obtain ⟨rfl, c', ec, rfl⟩ := h
            refine ⟨rfl, _, rfl, _, rfl, _, rfl, ⟨_, rfl⟩, low26, rfl, rfl, by decide +kernel, ?_⟩
            rw [upper26]
            refine ⟨low26, up26, rfl, rfl, by decide +kernel, low26 ++ up26, "0123456789", rfl, rfl, by decide +kernel, c', an62, rfl, rfl, ?_⟩
            rw [mem_an]
            have : x.cps.toList.getD i 0 = c' := by rw [List.getD_eq_getElem?_getD, Array.getElem?_toList, ec] <;> rfl
            have := hR H'' Go.refl
            rw [‹x.cps.toList.getD i 0 = c'›] at this
            exact this
          · have em : (List.range x.cps.toList.length).map (fun i => anC (x.cps.toList.getD i 0)) = x.cps.toList.map anC := map_range_get fun i c' h => by rw [List.getD_eq_getElem?_getD, h] <;> rfl
            refine ⟨D, x.cps.toList.map anC, rfl, SqL.of ?_, ?_⟩
            · rw [← em, List.map_map]
              exact e'
            · have := q1 H' (gp3.trans g')
              rw [hS, ← e0] at this
              refine goQ this ?_
              rw [List.all_map]
              rfl
    · rw [decide_eq_false c]
      refine iteT ?_
      have := q1 _ Go.refl
      rw [hS] at this
      refine goQ this ?_
      by_cases c1 : 1 ≤ x.length
      · have c2 : ¬ x.length ≤ 10 := by omega
        rw [decide_eq_false c2]
        simp
      · rw [decide_eq_false c1]
        simp
  | _ => exact iteT (q H Go.refl ht)
end
end K1
set_option Elab.async false
set_option linter.all false
set_option maxRecDepth 100000
set_option maxHeartbeats 4000000
namespace K1
open PySem PySem.Spec PyProof.Rows L2 GxR NdefX GA SL
def mShape (m : PyData) : Bool := tupB m 2 2 && tupB (sndD m) 0 4
def kShape (k : PyData) : Bool := tupB k 2 2 && tupB (sndD k) 1 6 && (itemsD (sndD k)).all mShape
def fieldOk2 (ks : List PyData) (f : PyData) : Bool := isStr f && decide (strD f ∈ (ks.map fstD).map strD ++ [("number" : Str)])
theorem maker_shape (m : PyData) : makerB m = (mShape m && highD (fstD m) && (itemsD (sndD m)).all isStr) := by
  unfold makerB mShape
  cases tupB m 2 2 <;> cases highD (fstD m) <;> cases tupB (sndD m) 0 4 <;> simp
theorem all_and {α : Type} (p q : α → Bool) : ∀ l : List α, l.all (fun x => p x && q x) = (l.all p && l.all q)
  | [] => rfl
  | x :: r => by
    rw [List.all_cons, List.all_cons, List.all_cons, all_and p q r]
    cases p x <;> cases q x <;> cases r.all p <;> simp
theorem all_congr {α : Type} {p q : α → Bool} (h : ∀ x, p x = q x) (l : List α) : l.all p = l.all q := by
  rw [show p = q from funext h]
theorem kind_shape (k : PyData) : kindB k = (kShape k && highD (fstD k) && ((itemsD (sndD k)).map fstD).all highD && ((itemsD (sndD k)).flatMap fun m => itemsD (sndD m)).all isStr) := by
  have e : (itemsD (sndD k)).all makerB = ((itemsD (sndD k)).all mShape && ((itemsD (sndD k)).map fstD).all highD && ((itemsD (sndD k)).flatMap fun m => itemsD (sndD m)).all isStr) := by
    rw [all_congr maker_shape, all_and (fun m => mShape m && highD (fstD m)) (fun m => (itemsD (sndD m)).all isStr), all_and mShape (fun m => highD (fstD m)), List.all_map, List.all_flatMap]
    rfl
  unfold kindB kShape
  rw [e]
  cases tupB k 2 2 <;> cases highD (fstD k) <;> cases tupB (sndD k) 1 6 <;> simp
theorem kinds_all (ks : List PyData) : ks.all kindB = (ks.all kShape && (ks.map fstD ++ (kMakers ks).map fstD).all highD && ((kMakers ks).flatMap fun m => itemsD (sndD m)).all isStr) := by
  rw [all_congr kind_shape, all_and (fun k => kShape k && highD (fstD k) && ((itemsD (sndD k)).map fstD).all highD) _, all_and (fun k => kShape k && highD (fstD k)) _, all_and kShape _]
  unfold kMakers
  rw [List.all_append, List.all_map, List.map_flatMap, List.all_flatMap, List.flatMap_assoc, List.all_flatMap]
  cases ks.all kShape <;> simp [Function.comp_def]
theorem kinds_shape {ks : List PyData} (h : tupB (.tuple ks) 1 6 = true) (hs : ks.all kShape = true) :
    kindsB (.tuple ks) = ((ks.map fstD ++ (kMakers ks).map fstD).all highD && (unl (ks.map fstD) && (unl ((kMakers ks).map fstD) && ((kMakers ks).flatMap fun m => itemsD (sndD m)).all (fieldOk2 ks)))) := by
  unfold kindsB
  rw [h]
  show (true && ks.all kindB && unl (ks.map fstD) && unl ((kMakers ks).map fstD) && ((kMakers ks).flatMap fun m => itemsD (sndD m)).all (fieldOk (.tuple ks))) = _
  rw [kinds_all, hs]
  have e : (((kMakers ks).flatMap fun m => itemsD (sndD m)).all isStr && ((kMakers ks).flatMap fun m => itemsD (sndD m)).all (fieldOk (.tuple ks))) = ((kMakers ks).flatMap fun m => itemsD (sndD m)).all (fieldOk2 ks) := by
    rw [← all_and isStr (fieldOk (.tuple ks))]
    refine all_congr (fun f => ?_) _
    unfold fieldOk2 fieldOk
    congr 1
    rw [← Bool.decide_or]
    refine decide_eq_decide.mpr ?_
    show (strD f = "number" ∨ strD f ∈ (ks.map fstD).map strD) ↔ _
    rw [List.mem_append, List.mem_singleton]
    exact Or.comm
  rw [← e]
  cases (ks.map fstD ++ (kMakers ks).map fstD).all highD <;> cases unl (ks.map fstD) <;> cases unl ((kMakers ks).map fstD) <;> simp
theorem flen2 : ∀ {ms : List PyData}, ms.all mShape = true → (ms.flatMap (fun m => itemsD (sndD m))).length ≤ 4 * ms.length
  | [], _ => by simp
  | m :: r, h => by
    rw [List.all_cons, Bool.and_eq_true] at h
    have ih := flen2 h.2
    rw [List.flatMap_cons, List.length_append, List.length_cons]
    have : (itemsD (sndD m)).length ≤ 4 := by
      have h1 := h.1
      unfold mShape at h1
      rw [Bool.and_eq_true] at h1
      obtain ⟨xs, e, _, l⟩ := tupOf h1.2
      rw [e]
      show xs.length ≤ 4
      omega
    omega
theorem kinds_bad {ks : List PyData} {k : PyData} (hk : k ∈ ks) (h : kShape k = false) : kindsB (.tuple ks) = false := by
  have : ks.all kindB = false := by
    rw [List.all_eq_false]
    exact ⟨k, hk, by rw [kind_shape, h] <;> simp⟩
  unfold kindsB
  show (_ && ks.all kindB && _ && _ && _) = false
  rw [this]
  simp
theorem names_wt {ks : List PyData} (hs : ks.all kShape = true) {i : Nat} {d : PyData} (h : (ks.map fstD ++ (kMakers ks).map fstD)[i]? = some d) {b : Nat} (hw : wtAll ks + 4 ≤ b) : wt d ≤ b := by
  have hm := List.mem_of_getElem? h
  have two : ∀ {k : PyData}, tupB k 2 2 = true → wt (fstD k) + 2 ≤ wt k ∧ wt (sndD k) + 2 ≤ wt k := fun {k} hk => by
    obtain ⟨x, y, rfl⟩ := tup2 hk
    rw [wt_pair]
    show wt x + 2 ≤ _ ∧ wt y + 2 ≤ _
    omega
  rcases List.mem_append.mp hm with hm | hm
  · obtain ⟨k, hk, rfl⟩ := List.mem_map.mp hm
    have h1 := List.all_eq_true.mp hs k hk
    unfold kShape at h1
    simp only [Bool.and_eq_true] at h1
    have := two h1.1.1
    have := wt_mem hk
    omega
  · obtain ⟨m, hm2, rfl⟩ := List.mem_map.mp hm
    unfold kMakers at hm2
    obtain ⟨k, hk, hm⟩ := List.mem_flatMap.mp hm2
    have h1 := List.all_eq_true.mp hs k hk
    unfold kShape at h1
    simp only [Bool.and_eq_true] at h1
    have h2 := List.all_eq_true.mp h1.2 m hm
    unfold mShape at h2
    rw [Bool.and_eq_true] at h2
    have a1 := two h2.1
    have a2 := two h1.1.1
    have a3 := wt_mem hk
    have a4 := wt_mem hm
    obtain ⟨xs, e, _, _⟩ := tupOf h1.1.2
    rw [e, wt_tup] at a2
    rw [e] at a4
    have a4 : wt m + 2 ≤ wtAll xs := a4
    omega
theorem high_str {d : PyData} (h : highD d = true) : isStr d = true := by
  cases d with
  | str x => rfl
  | _ => simp [highD] at h
theorem uniq_lt (l : List Str) : decide (((uniq l).length : Int) < (l.length : Int)) = !decide l.Nodup := by
  have h1 := uniq_le l
  have h2 := uniq_len (l := l)
  by_cases h : l.Nodup
  · have := h2.mpr h
    rw [decide_eq_true h, decide_eq_false (by omega)] <;> rfl
  · have : (uniq l).length ≠ l.length := fun z => h (h2.mp z)
    rw [decide_eq_false h, decide_eq_true (by omega)] <;> rfl
end K1
set_option Elab.async false
set_option linter.all false
set_option maxRecDepth 100000
set_option maxHeartbeats 8000000
namespace K1
open PySem PySem.Spec PyProof.Rows L2 GxR NdefX GA SL
theorem sc_law_is_kinds : FnScope ["value", "titles", "makers", "fields", "piece", "maker", "title", "field"] ["value"] (defScope s_law_is_kinds) := ⟨rfl, rfl, rfl, by decide +kernel, rfl, by decide +kernel, by decide +kernel⟩
/-- what the loops have: the kinds ks looked at, the makers ms -/
def KInv (T : List Addr) (H0 : Hp) (v : V) (ts ms : List PyData) (b : Nat) (σ : L2.St) (H' : Hp) : Prop :=
  Go T [] H0 H' ∧ ms.all mShape = true ∧ ms.length ≤ b ∧ ∃ (t m f : Addr) (tl ml fl : List V) (p q : Option V), σ = [some v, some (.ref t), some (.ref m), some (.ref f), p, q, none, none] ∧ H0 t = none ∧ H0 m = none ∧ H0 f = none ∧ t ≠ m ∧ f ≠ t ∧ f ≠ m ∧
    H' t = some (.lst tl) ∧ H' m = some (.lst ml) ∧ H' f = some (.lst fl) ∧ DvAll [] H0 tl ts ∧ DvAll [] H0 ml (ms.map fstD) ∧ DvAll [] H0 fl (ms.flatMap fun m => itemsD (sndD m))
section
variable {P : Program} {w : World} {K : PySem.W.Frag} {mg : Str → Option Value} {base : Heap} {f c CK CN CT CR : Addr} {fd : FuncData} {T : List Addr}
theorem ok_law_is_kinds (F : Fun K "_law_is_kinds" "_law_is_kinds" s_law_is_kinds f fd) (B : Bl mg) (Fn : Fnn P w K mg base CX0 1 "_law_is_name" ["value", "high"] (sp_law_is_name T)) : FnOk P w K mg base CX0 2 f fd ["value"] (sp_look T kindsB) := by
  have nd := sc_law_is_kinds.nd
  refine F.ok sc_law_is_kinds (fun vs H Q E h => ?_) (fun cdv A outer s H vs Q E hr h => ?_)
  · obtain ⟨_, _, _, rfl, _⟩ := h
    rfl
  obtain ⟨M, v, d, rfl, hv, hw, ht, q⟩ := h
  replace hv : Dv [] H v d := hv.less fun _ z => by simp at z
  replace q : ∀ H', Go T [] H H' → Tabs T H' → Q (.bl (kindsB d)) H' := fun H' g t => q H' g.of0 t
  refine ⟨_, (pss_cons (ps_if (PW.pt (pw_or (pt_not (pt_val (pe_isi_tuple B (pv 0)))) (pw_or1 (pt_cmpR op_outside (pe_lenq B (pv 0)) (pe_rng B pe_int pe_int) rfl)))) (pss_one (ps_ret pe_bl)) pss_nil)
    (pss_cons (ps_asg (pe_tup (pa_cons (pe_lst pa_nil) (pa_cons (pe_lst pa_nil) (pa_cons (pe_lst pa_nil) pa_nil)))) (pg_tup rfl (pgs_cons (pg_name (i := 1) nd rfl (Or.inr rfl)) (pgs_cons (pg_name (i := 2) nd rfl (Or.inl rfl)) (pgs_cons (pg_name (i := 3) nd rfl (Or.inl rfl)) pgs_nil)))))
    (pss_cons (ps_for PassesOwn.never rfl (pi_tup (pv 0)) (pg_name (i := 4) nd rfl (Or.inl rfl))
    (pss_cons (ps_if (PW.pt (pw_or (pt_not (pt_val (pe_isi_tuple B (pv 4)))) (pw_or (pt_cmpR op_ne (pe_lenq B (pv 4)) pe_int (nomark _)) (pw_or1 (pt_not (pt_val (pe_isi_tuple B (pe_ix ix_tup (pv 4) pe_int (fun _ _ => rfl))))))))) (pss_one (ps_ret pe_bl)) pss_nil)
    (pss_cons (ps_if (pt_cmpR op_outside (pe_lenq B (pe_ix ix_tup (pv 4) pe_int (fun _ _ => rfl))) (pe_rng B pe_int pe_int) rfl) (pss_one (ps_ret pe_bl)) pss_nil)
    (pss_cons (ps_expr (pe_bm PySem.F.plainAttrs_list PySem.F.slot_list_append PySem.F.type_list_append mt_append (pv 1) (pa_cons (pe_ix ix_tup (pv 4) pe_int (fun _ _ => rfl)) pa_nil)))
    (pss_one (ps_for PassesOwn.never rfl (pi_tup (pe_ix ix_tup (pv 4) pe_int (fun _ _ => rfl))) (pg_name (i := 5) nd rfl (Or.inl rfl))
    (pss_cons (ps_if (PW.pt (pw_or (pt_not (pt_val (pe_isi_tuple B (pv 5)))) (pw_or (pt_cmpR op_ne (pe_lenq B (pv 5)) pe_int (nomark _)) (pw_or (pt_not (pt_val (pe_isi_tuple B (pe_ix ix_tup (pv 5) pe_int (fun _ _ => rfl))))) (pw_or1 (pt_cmpR op_gt (pe_lenq B (pe_ix ix_tup (pv 5) pe_int (fun _ _ => rfl))) pe_int (nomark _))))))) (pss_one (ps_ret pe_bl)) pss_nil)
    (pss_cons (ps_expr (pe_bm PySem.F.plainAttrs_list PySem.F.slot_list_append PySem.F.type_list_append mt_append (pv 2) (pa_cons (pe_ix ix_tup (pv 5) pe_int (fun _ _ => rfl)) pa_nil)))
    (pss_one (ps_set (i := 3) nd rfl (Or.inl rfl) (pe_op op_cat (pv 3) (pe_toList B (pe_ix ix_tup (pv 5) pe_int (fun _ _ => rfl))))))))))))))
    (pss_cons (ps_if (pt_not (pt_val (pe_allL rfl B (pe_lc (own := [("title", 6)]) (g := gName 6) (tt := tYes)  rfl nd (pi_list (pe_op op_cat (pv 1) (pv 2))) (blkOk_by (own := [("title", 6)]) (N := ["value", "titles", "makers", "fields", "piece", "maker", "title", "field"]) (sc := defScope s_law_is_kinds) (by decide +kernel))
        (fun _ _ _ _ _ => (pg_name (i := 6) nd rfl (Or.inl rfl))) (fun _ _ _ _ _ => pts_nil) (fun _ _ _ _ _ => (pe_fn Fn hr (by decide) pass0 (pa_cons (pv 6) (pa_cons pe_bl pa_nil)))))))) (pss_one (ps_ret pe_bl)) pss_nil)
    (pss_cons (ps_if (PW.pt (pw_or (pt_cmpR op_lt (pe_lenU B (pv 1)) (pe_lenq B (pv 1)) (nomark _)) (pw_or1 (pt_cmpR op_lt (pe_lenU B (pv 2)) (pe_lenq B (pv 2)) (nomark _))))) (pss_one (ps_ret pe_bl)) pss_nil)
    (pss_one (ps_ret (pe_allL rfl B (pe_lc (own := [("field", 7)]) (g := gName 7) (tt := tYes) (te := tAndV (tCB (rIsiD "str" isStr) (tCons (tVar 7) (tCons (tC (.ty "str")) tNil))) (tOp (rIn K false) (tVar 7) (tOp rCat (tVar 1) (tLst (tCons (tC (.str "number")) tNil))))) rfl nd (pi_list (pv 3)) (blkOk_by (own := [("field", 7)]) (N := ["value", "titles", "makers", "fields", "piece", "maker", "title", "field"]) (sc := defScope s_law_is_kinds) (by decide +kernel))
        (fun _ _ _ _ _ => (pg_name (i := 7) nd rfl (Or.inl rfl))) (fun _ _ _ _ _ => pts_nil) (fun _ _ _ _ _ => pe_and (pe_isi_str B (pv 7)) (pe_one (pe_cmpR op_in_seq (pv 7) (pe_op op_cat (pv 1) (pe_lst (pa_cons pe_str pa_nil))) rfl)))))))))))), ?_⟩
  have nn : ∀ b : Addr, b ∉ ([] : List Addr) := fun b => List.not_mem_nil
  refine ⟨_, rfl, _, _, _, rfl, hv, _, rfl, ?_⟩
  by_cases c1 : tupB d 1 6 = true
  · obtain ⟨ks, rfl, l1, l6⟩ := tupOf c1
    obtain ⟨a, xs, rfl, e, na, hxs⟩ := dv_tup hv
    have hl := hxs.length
    rw [wt_tup] at hw
    refine iteF ?_
    refine ⟨_, rfl, a, _, rfl, .inr (SqT.of e), 1, 7, rfl, fun p hp => ⟨_, p, 1, 7, rfl, rfl, upd_same, _, rfl, ?_⟩⟩
    rw [decide_eq_true (show (1 : Int) ≤ (xs.length : Int) ∧ (xs.length : Int) < 7 by omega)]
    refine iteF ?_
    have g0 : Go T [] H (upd H p (.rng 1 7)) := Go.new hp
    refine ⟨by show 0 ≤ sizeLine; omega, fun at' ht' => ⟨by show 0 ≤ sizeLine; omega, fun am hm' => ⟨by show 0 ≤ sizeLine; omega, fun af hf' => ⟨by show 3 ≤ sizeLine; decide, fun tt ht2 => ?_⟩⟩⟩⟩
    refine ⟨tt, _, rfl, SqT.of upd_same, rfl, _, _, rfl, _, _, rfl, _, _, rfl, rfl, ?_⟩
    have gn : Go T [] H (upd (upd (upd (upd (upd H p (.rng 1 7)) at' (.lst [])) am (.lst [])) af (.lst [])) tt (.tup [.ref at', .ref am, .ref af])) := (((g0.trans (Go.new ht')).trans (Go.new hm')).trans (Go.new hf')).trans (Go.new ht2)
    have st : upd (upd (upd (upd (upd H p (.rng 1 7)) at' (.lst [])) am (.lst [])) af (.lst [])) tt (.tup [.ref at', .ref am, .ref af]) at' = some (.lst []) := (Go.new (T := T) ht2).lst ((Go.new (T := T) hf').lst ((Go.new (T := T) hm').lst upd_same (nn _)) (nn _)) (nn _)
    have sm : upd (upd (upd (upd (upd H p (.rng 1 7)) at' (.lst [])) am (.lst [])) af (.lst [])) tt (.tup [.ref at', .ref am, .ref af]) am = some (.lst []) := (Go.new (T := T) ht2).lst ((Go.new (T := T) hf').lst upd_same (nn _)) (nn _)
    have sf : upd (upd (upd (upd (upd H p (.rng 1 7)) at' (.lst [])) am (.lst [])) af (.lst [])) tt (.tup [.ref at', .ref am, .ref af]) af = some (.lst []) := (Go.new (T := T) ht2).lst upd_same (nn _)
    have nt : H at' = none := upd_none ht'
    have nm : H am = none := upd_none (upd_none hm')
    have nf : H af = none := upd_none (upd_none (upd_none hf'))
    have tm : at' ≠ am := ne_of_none (upd_same (H := upd H p (.rng 1 7)) (a := at') (o := .lst [])) hm'
    have fm : af ≠ am := (ne_of_none (upd_same (a := am) (o := .lst [])) hf').symm
    have ft : af ≠ at' := (ne_of_none ((Go.new (T := T) hm').lst (upd_same (a := at')) (nn _)) hf').symm
    refine ⟨_, rfl, a, rfl, ⟨_, SqT.of (gn.tup e na)⟩, ?_⟩
    refine for_it (n := xs.length) walk_tup (fun i σ H' => (ks.take i).all kShape = true ∧ KInv T H (.ref a) ((ks.take i).map fstD) (kMakers (ks.take i)) (6 * i) σ H') ⟨rfl, gn, rfl, by simp [kMakers], at', am, af, [], [], [], none, none, rfl, nt, nm, nf, tm, ft, fm, st, sm, sf, .nil, .nil, .nil⟩ (fun i σ H' _ h => SqT.of (h.2.1.tup e na)) (fun i x σ H' H'' hi h y => ?_) (fun σ H' h => ?_)
    · obtain ⟨sk, gg, sm', lb, t, m, f', tl, ml, fl, pp, qq, rfl, h1, h2, h3, h4, h5, h6, e1, e2, e3, d1, d2, d3⟩ := h
      obtain ⟨rfl, ex⟩ := y
      obtain ⟨d, ed, hx⟩ := hxs.get ex
      have hdm := List.mem_of_getElem? ed
      have bad : ∀ H3, Go T [] H H3 → kShape d = false → Q (.bl false) H3 := fun H3 g3 hb => by
        have := q H3 g3 (g3.tb ht)
        rw [kinds_bad hdm hb] at this
        exact this
      have eti : ks.take (i + 1) = ks.take i ++ [d] := by rw [List.take_add_one, ed] <;> rfl
      refine ⟨_, rfl, _, _, _, rfl, hx.go gg, _, rfl, ?_⟩
      cases hx with
      | @tup b ys ds eb nb hys =>
        refine iteF ?_
        have hyl := hys.length
        have eb' := gg.tup eb nb
        refine ⟨_, rfl, b, _, rfl, .inr (SqT.of eb'), rfl, _, rfl, ?_⟩
        by_cases c2 : ys.length = 2
        · refine if_false_of (by rw [c2] <;> rfl) ?_
          obtain ⟨d0, d1', ez⟩ : ∃ d0 d1', ds = [d0, d1'] := by
            match ds, hyl.symm.trans c2 with
            | [x, y], _ => exact ⟨x, y, rfl⟩
          subst ez
          obtain ⟨_, y0, y1, er, eb2, _, hy0, hy1⟩ := dv_pair (Dv.tup eb nb hys)
          cases er
          rw [eb] at eb2
          cases eb2
          refine ⟨_, rfl, b, _, 1, _, rfl, rfl, SqT.of eb', rfl, _, [], _, rfl, hy1.go gg, _, rfl, ?_⟩
          cases hy1 with
          | @tup b2 zs ds2 eb2 nb2 hzs =>
            refine iteF ?_
            have hzl := hzs.length
            have eb2' := gg.tup eb2 nb2
            refine ⟨_, rfl, b, _, 1, _, rfl, rfl, SqT.of eb', rfl, b2, _, rfl, .inr (SqT.of eb2'), 1, 7, rfl, fun p2 hp2 => ⟨_, p2, 1, 7, rfl, rfl, upd_same, _, rfl, ?_⟩⟩
            have g2 : Go T [] H'' (upd H'' p2 (.rng 1 7)) := Go.new hp2
            by_cases c3 : (1 : Int) ≤ (zs.length : Int) ∧ (zs.length : Int) < 7
            · rw [decide_eq_true c3]
              refine iteF ?_
              have e1' := g2.lst e1 (nn _)
              have ltl := d1.length
              have ltk : (ks.take i).length ≤ 6 := by rw [List.length_take]; omega
              rw [List.length_map] at ltl
              have hH : Go T [] H (upd (upd H'' p2 (.rng 1 7)) t (.lst (tl ++ [y0]))) := (gg.trans g2).over h1 e1' (fun _ z => by cases z)
              refine ⟨_, rfl, .inl ⟨rfl, _, SqL.of e1'⟩, _, rfl, b, _, 0, _, rfl, rfl, SqT.of (g2.tup eb' (nn _)), rfl, t, _, _, rfl, rfl, e1', (by have := sz (n := tl.length) (by omega); rw [sizeLine_eq]; omega), ?_⟩
              refine ⟨_, rfl, b, _, 1, _, rfl, rfl, SqT.of (hH.tup eb nb), rfl, b2, rfl, ⟨_, SqT.of (hH.tup eb2 nb2)⟩, ?_⟩
              refine for_it (n := zs.length) walk_tup (fun j σ H' => KInv T H (.ref a) ((ks.take i).map fstD ++ [d0]) (kMakers (ks.take i) ++ ds2.take j) (6 * i + j) σ H')
                ⟨hH, by rw [List.take_zero, List.append_nil]; exact sm', by rw [List.take_zero, List.append_nil]; exact lb, t, m, f', _, ml, fl, _, _, rfl, h1, h2, h3, h4, h5, h6, upd_same, by rw [upd_ne h4.symm]; exact g2.lst e2 (nn _), by rw [upd_ne h5]; exact g2.lst e3 (nn _), d1.append (.cons hy0 .nil), by rw [List.take_zero, List.append_nil]; exact d2, by rw [List.take_zero, List.append_nil]; exact d3⟩
                (fun j σ H' _ h => SqT.of (h.1.tup eb2 nb2)) (fun j x σ H' H3 hj h y => ?_) (fun σ H' h => ?_)
              · obtain ⟨G1, M1, B1, t, m, f', tl, ml, fl, pp, qq, rfl, h1, h2, h3, h4, h5, h6, e1, e2, e3, d1, d2, d3⟩ := h
                obtain ⟨rfl, ex2⟩ := y
                obtain ⟨dm, edm, hx⟩ := hzs.get ex2
                have hmm := List.mem_of_getElem? edm
                have bad2 : ∀ H4, Go T [] H H4 → mShape dm = false → Q (.bl false) H4 := fun H4 g4 hb => bad H4 g4 (by
                  have : ds2.all mShape = false := by
                    rw [List.all_eq_false]
                    exact ⟨dm, hmm, by rw [hb] <;> simp⟩
                  show (_ && _ && ds2.all mShape) = false
                  rw [this, Bool.and_false])
                have etj : ds2.take (j + 1) = ds2.take j ++ [dm] := by rw [List.take_add_one, edm] <;> rfl
                refine ⟨_, rfl, _, _, _, rfl, hx.go G1, _, rfl, ?_⟩
                cases hx with
                | @tup b3 ws dws eb3 nb3 hws =>
                  refine iteF ?_
                  have hwl := hws.length
                  have eb3' := G1.tup eb3 nb3
                  refine ⟨_, rfl, b3, _, rfl, .inr (SqT.of eb3'), rfl, _, rfl, ?_⟩
                  by_cases c4 : ws.length = 2
                  · refine if_false_of (by rw [c4] <;> rfl) ?_
                    obtain ⟨q0, q1, ez⟩ : ∃ q0 q1, dws = [q0, q1] := by
                      match dws, hwl.symm.trans c4 with
                      | [x, y], _ => exact ⟨x, y, rfl⟩
                    subst ez
                    obtain ⟨_, z0, z1, er, eb4, _, hz0, hz1⟩ := dv_pair (Dv.tup eb3 nb3 hws)
                    cases er
                    rw [eb3] at eb4
                    cases eb4
                    refine ⟨_, rfl, b3, _, 1, _, rfl, rfl, SqT.of eb3', rfl, _, [], _, rfl, hz1.go G1, _, rfl, ?_⟩
                    cases hz1 with
                    | @tup b5 us dus eb5 nb5 hus =>
                      refine iteF ?_
                      have hul := hus.length
                      have eb5' := G1.tup eb5 nb5
                      refine ⟨_, rfl, b3, _, 1, _, rfl, rfl, SqT.of eb3', rfl, b5, _, rfl, .inr (SqT.of eb5'), _, _, rfl, rfl, _, rfl, ?_⟩
                      by_cases c5 : (4 : Int) < (us.length : Int)
                      · refine if_true_of (decide_eq_true c5) (bad2 _ G1 ?_)
                        have : tupB (.tuple dus) 0 4 = false := by
                          rw [Bool.eq_false_iff]
                          intro z
                          obtain ⟨_, z1, z2, z3⟩ := tupOf z
                          cases z1
                          omega
                        show (_ && tupB (.tuple dus) 0 4) = false
                        rw [this, Bool.and_false]
                      · refine if_false_of (decide_eq_false c5) ?_
                        have lml := d2.length
                        rw [List.length_map] at lml
                        have lj : (ds2.take j).length ≤ 6 := by rw [List.length_take]; omega
                        have hG2 : Go T [] H (upd H3 m (.lst (ml ++ [z0]))) := G1.over h2 e2 (fun _ z => by cases z)
                        refine ⟨_, rfl, .inl ⟨rfl, _, SqL.of e2⟩, _, rfl, b3, _, 0, _, rfl, rfl, SqT.of eb3', rfl, m, _, _, rfl, rfl, e2, (by have := sz (n := ml.length) (by omega); rw [sizeLine_eq]; omega), ?_⟩
                        refine ⟨_, rfl, _, rfl, b3, _, 1, _, rfl, rfl, SqT.of (hG2.tup eb3 nb3), rfl, b5, _, rfl, .inr (SqT.of (hG2.tup eb5 nb5)), fun l hl2 => ?_⟩
                        have e3' : upd H3 m (.lst (ml ++ [z0])) f' = some (.lst fl) := by rw [upd_ne h6]; exact e3
                        have gl : Go T [] (upd H3 m (.lst (ml ++ [z0]))) (upd (upd H3 m (.lst (ml ++ [z0]))) l (.lst us)) := Go.new hl2
                        have lfl := d3.length
                        have lfl2 := flen2 M1
                        have lms : (kMakers (ks.take i) ++ ds2.take j).length ≤ 42 := by omega
                        refine ⟨f', l, fl, us, rfl, rfl, gl.lst e3' (nn _), upd_same, sz (by omega), fun p4 hp4 => ?_⟩
                        have hG4 : Go T [] H (upd (upd (upd H3 m (.lst (ml ++ [z0]))) l (.lst us)) p4 (.lst (fl ++ us))) := (hG2.trans gl).trans (Go.new hp4)
                        have shm : mShape (.tuple [q0, .tuple dus]) = true := by
                          show (true && tupB (.tuple dus) 0 4) = true
                          show (true && (decide ((0 : Int) ≤ (dus.length : Int)) && decide ((dus.length : Int) ≤ 4))) = true
                          rw [decide_eq_true (show (0 : Int) ≤ (dus.length : Int) by omega), decide_eq_true (show (dus.length : Int) ≤ 4 by omega)] <;> rfl
                        have st2 : upd (upd H3 m (.lst (ml ++ [z0]))) l (.lst us) t = some (.lst tl) := gl.lst (by rw [upd_ne h4]; exact e1) (nn _)
                        have sm2 : upd (upd H3 m (.lst (ml ++ [z0]))) l (.lst us) m = some (.lst (ml ++ [z0])) := gl.lst upd_same (nn _)
                        refine ⟨hG4, ?_, ?_, t, m, p4, tl, ml ++ [z0], fl ++ us, pp, _, rfl, h1, h2, (hG2.trans gl).al _ hp4, h4, (ne_of_none st2 hp4).symm, (ne_of_none sm2 hp4).symm, (Go.new (T := T) hp4).lst st2 (nn _), (Go.new (T := T) hp4).lst sm2 (nn _), upd_same, d1, ?_, ?_⟩
                        · rw [etj, ← List.append_assoc, List.all_append, M1]
                          show (true && (mShape (.tuple [q0, .tuple dus]) && true)) = true
                          rw [shm] <;> rfl
                        · rw [etj, ← List.append_assoc, List.length_append]
                          show _ + 1 ≤ _
                          omega
                        · rw [etj, ← List.append_assoc, List.map_append]
                          exact d2.append (.cons hz0 .nil)
                        · rw [etj, ← List.append_assoc, List.flatMap_append]
                          have : ([PyData.tuple [q0, .tuple dus]] : List PyData).flatMap (fun m => itemsD (sndD m)) = dus := List.append_nil dus
                          rw [this]
                          exact d3.append hus
                    | _ => exact iteT (bad2 _ G1 (by simp [mShape, sndD, tupB]))
                  · refine if_true_of (by rw [decide_eq_false (fun z => c4 (by have := V.int.inj z; omega))] <;> rfl) (bad2 _ G1 ?_)
                    have : tupB (.tuple dws) 2 2 = false := by
                      rw [Bool.eq_false_iff]
                      intro z
                      obtain ⟨_, z1, z2, z3⟩ := tupOf z
                      cases z1
                      omega
                    show (tupB (.tuple dws) 2 2 && _) = false
                    rw [this, Bool.false_and]
                | _ => exact iteT (bad2 _ G1 rfl)
              · obtain ⟨G1, M1, B1, t, m, f', tl, ml, fl, pp, qq, rfl, h1, h2, h3, h4, h5, h6, e1, e2, e3, d1, d2, d3⟩ := h
                have ez : ds2.take zs.length = ds2 := by rw [hzl, List.take_length]
                rw [ez] at M1 B1 d2 d3
                have ek : kMakers (ks.take (i + 1)) = kMakers (ks.take i) ++ ds2 := by
                  rw [eti]
                  unfold kMakers
                  rw [List.flatMap_append]
                  congr 1
                  exact List.append_nil ds2
                rw [List.all_append, Bool.and_eq_true] at M1
                refine ⟨?_, G1, ?_, ?_, t, m, f', tl, ml, fl, pp, qq, rfl, h1, h2, h3, h4, h5, h6, e1, e2, e3, ?_, ?_, ?_⟩
                · rw [eti, List.all_append, sk, Bool.true_and]
                  show (kShape (.tuple [d0, .tuple ds2]) && true) = true
                  show (true && tupB (.tuple ds2) 1 6 && ds2.all mShape && true) = true
                  rw [M1.2]
                  show (true && (decide ((1 : Int) ≤ (ds2.length : Int)) && decide ((ds2.length : Int) ≤ 6)) && true && true) = true
                  rw [decide_eq_true (show (1 : Int) ≤ (ds2.length : Int) by omega), decide_eq_true (show (ds2.length : Int) ≤ 6 by omega)] <;> rfl
                · rw [ek, List.all_append, M1.1, M1.2] <;> rfl
                · rw [ek]
                  omega
                · rw [eti, List.map_append]
                  exact d1
                · rw [ek]
                  exact d2
                · rw [ek]
                  exact d3
            · rw [decide_eq_false c3]
              refine iteT (bad _ (gg.trans g2) ?_)
              have : tupB (.tuple ds2) 1 6 = false := by
                rw [Bool.eq_false_iff]
                intro z
                obtain ⟨_, z1, z2, z3⟩ := tupOf z
                cases z1
                omega
              show (_ && tupB (.tuple ds2) 1 6 && _) = false
              rw [this] <;> simp
          | _ => exact iteT (bad _ gg (by simp [kShape, sndD, tupB]))
        · refine if_true_of (by rw [decide_eq_false (fun z => c2 (by have := V.int.inj z; omega))] <;> rfl) (bad _ gg ?_)
          have : tupB (.tuple ds) 2 2 = false := by
            rw [Bool.eq_false_iff]
            intro z
            obtain ⟨_, z1, z2, z3⟩ := tupOf z
            cases z1
            omega
          show (tupB (.tuple ds) 2 2 && _ && _) = false
          rw [this] <;> rfl
      | _ => exact iteT (bad _ gg rfl)
    · obtain ⟨sk, gg, sm', lb, t, m, f', tl, ml, fl, pp, qq, rfl, h1, h2, h3, h4, h5, h6, e1, e2, e3, d1, d2, d3⟩ := h
      have ez : ks.take xs.length = ks := by rw [hl, List.take_length]
      rw [ez] at sk sm' lb d1 d2 d3
      have qe := kinds_shape c1 sk
      rw [qe] at q
      have lt := d1.length
      have lm := d2.length
      have lf := d3.length
      have lf2 := flen2 sm'
      rw [List.length_map] at lt lm
      refine ⟨_, rfl, _, rfl, t, m, tl, ml, rfl, rfl, e1, e2, sz (by omega), fun p1 hp1 => ⟨p1, rfl, ⟨_, SqL.of upd_same⟩, fun D hD => ?_⟩⟩
      have gp := Go.new (T := T) (M := []) (o := .lst (tl ++ ml)) hp1
      have g1 := gg.trans gp
      have dA := ((d1.append d2).go g1)
      refine lc_map (T := T) (fun i => .bl (highD ((ks.map fstD ++ (kMakers ks).map fstD).getD i .none))) (walk_list (xs := tl ++ ml)) (fun H3 g3 => SqL.of (g3.lst upd_same (nn _))) (g1.tb ht) Go.refl hD (sz (by rw [List.length_append]; omega)) (fun i x H3 H4 R hi g3 t3 y hR => ?_) (fun H3 g3 t3 ed => ?_)
      · obtain ⟨rfl, ex⟩ := y
        obtain ⟨d, ed, hx⟩ := dA.get ex
        refine ⟨rfl, _, rfl, x, d, rfl, hx.go g3, names_wt sk ed hw, t3, fun H5 g5 t5 => ?_⟩
        have := hR H5 g5
        rw [List.getD_eq_getElem?_getD, ed] at this
        exact this
      · have em : (List.range (tl ++ ml).length).map (fun i => highD ((ks.map fstD ++ (kMakers ks).map fstD).getD i .none)) = (ks.map fstD ++ (kMakers ks).map fstD).map highD := by
          rw [dA.length]
          exact map_range_get fun i x h => by rw [List.getD_eq_getElem?_getD, h] <;> rfl
        refine ⟨D, (ks.map fstD ++ (kMakers ks).map fstD).map highD, rfl, SqL.of (by rw [← em, List.map_map]; exact ed), _, rfl, ?_⟩
        have eid : (((ks.map fstD ++ (kMakers ks).map fstD).map highD).all id) = (ks.map fstD ++ (kMakers ks).map fstD).all highD := by rw [List.all_map] <;> rfl
        rw [eid]
        have gA : Go T [] H H3 := g1.trans g3
        cases ch : (ks.map fstD ++ (kMakers ks).map fstD).all highD with
        | false =>
          refine iteT ?_
          have := q H3 gA t3
          rw [ch] at this
          exact this
        | true =>
          refine iteF ?_
          rw [ch, Bool.true_and] at q
          have hT : ∀ z ∈ ks.map fstD, isStr z = true := fun z hz => high_str (List.all_eq_true.mp ch z (List.mem_append_left _ hz))
          have hM : ∀ z ∈ (kMakers ks).map fstD, isStr z = true := fun z hz => high_str (List.all_eq_true.mp ch z (List.mem_append_right _ hz))
          have E1 := strs_of hT
          have E2 := strs_of hM
          have d1' := d1
          rw [E1] at d1'
          have d1' := d1'.of_strs
          have d2' := d2
          rw [E2] at d2'
          have d2' := d2'.of_strs
          have e1' : H3 t = some (.lst tl) := (gp.trans g3).lst e1 (nn _)
          have e2' : H3 m = some (.lst ml) := (gp.trans g3).lst e2 (nn _)
          have e3' : H3 f' = some (.lst fl) := (gp.trans g3).lst e3 (nn _)
          have L1 : ((ks.map fstD).map strD).length = tl.length := by rw [d1', List.length_map (f := V.str)]
          have L2 : (((kMakers ks).map fstD).map strD).length = ml.length := by rw [d2', List.length_map (f := V.str)]
          refine ⟨_, rfl, t, (ks.map fstD).map strD, rfl, SqL.of (by rw [← d1']; exact e1'), by omega, _, rfl, t, _, rfl, .inl (SqL.of e1'), _, _, rfl, rfl, _, rfl, ?_⟩
          have u1 : decide (((uniq ((ks.map fstD).map strD)).length : Int) < (tl.length : Int)) = !unl (ks.map fstD) := by
            rw [← L1]
            exact uniq_lt _
          have u2 : decide (((uniq (((kMakers ks).map fstD).map strD)).length : Int) < (ml.length : Int)) = !unl ((kMakers ks).map fstD) := by
            rw [← L2]
            exact uniq_lt _
          show if decide (((uniq ((ks.map fstD).map strD)).length : Int) < (tl.length : Int)) = true then _ else _
          rw [u1]
          cases c6 : unl (ks.map fstD) with
          | false =>
            refine iteT ?_
            have := q H3 gA t3
            rw [c6] at this
            exact this
          | true =>
            refine iteF ?_
            rw [c6, Bool.true_and] at q
            refine ⟨_, rfl, m, ((kMakers ks).map fstD).map strD, rfl, SqL.of (by rw [← d2']; exact e2'), by omega, _, rfl, m, _, rfl, .inl (SqL.of e2'), _, _, rfl, rfl, _, rfl, ?_⟩
            show if decide (((uniq (((kMakers ks).map fstD).map strD)).length : Int) < (ml.length : Int)) = true then _ else _
            rw [u2]
            cases c7 : unl ((kMakers ks).map fstD) with
            | false =>
              refine iteT ?_
              have := q H3 gA t3
              rw [c7] at this
              exact this
            | true =>
              refine iteF ?_
              rw [c7, Bool.true_and] at q
              refine ⟨_, rfl, f', rfl, ⟨_, SqL.of e3'⟩, fun D2 hD2 => ?_⟩
              have dF := d3.go gA
              refine lc_map (T := T) (fun i => .bl (fieldOk2 ks (((kMakers ks).flatMap fun m => itemsD (sndD m)).getD i .none))) (walk_list (xs := fl)) (fun H4 g4 => SqL.of (g4.lst e3' (nn _))) t3 Go.refl hD2 (sz (by omega)) (fun i x H4 H5 R hi g4 t4 y hR => ?_) (fun H4 g4 t4 ed4 => ?_)
              · obtain ⟨rfl, ex⟩ := y
                obtain ⟨d, ed, hx⟩ := dF.get ex
                have eg : ((kMakers ks).flatMap fun m => itemsD (sndD m)).getD i .none = d := by rw [List.getD_eq_getElem?_getD, ed] <;> rfl
                rw [eg] at hR
                refine ⟨rfl, _, rfl, _, [], _, rfl, hx.go g4, _, rfl, ?_⟩
                cases hx with
                | str z =>
                  refine iteT ?_
                  refine ⟨_, rfl, _, rfl, by show 1 ≤ sizeLine; decide, fun p2 hp2 => ?_⟩
                  have g5 := Go.new (T := T) (M := []) (o := .lst [.str "number"]) hp2
                  refine ⟨t, p2, tl, [.str "number"], rfl, rfl, g5.lst (g4.lst e1' (nn _)) (nn _), upd_same, sz (by show tl.length + 1 ≤ _; omega), fun p3 hp3 => ?_⟩
                  have ea : tl ++ [V.str "number"] = ((ks.map fstD).map strD ++ [("number" : Str)]).map V.str := by rw [List.map_append, ← d1'] <;> rfl
                  refine ⟨p3, _, rfl, .inl (SqL.of upd_same), rfl, by rw [ea]; exact flat_strs _, ?_⟩
                  have := hR _ (g5.trans (Go.new (o := .lst (tl ++ [.str "number"])) hp3))
                  refine goQ this ?_
                  show (true && decide (z ∈ (ks.map fstD).map strD ++ [("number" : Str)])) = inV (.str z) (tl ++ [V.str "number"])
                  rw [ea, inV_strs, Bool.true_and]
                | _ => exact iteF (hR _ Go.refl)
              · have em2 : (List.range fl.length).map (fun i => fieldOk2 ks (((kMakers ks).flatMap fun m => itemsD (sndD m)).getD i .none)) = ((kMakers ks).flatMap fun m => itemsD (sndD m)).map (fieldOk2 ks) := by
                  rw [lf]
                  exact map_range_get fun i x h => by rw [List.getD_eq_getElem?_getD, h] <;> rfl
                refine ⟨D2, ((kMakers ks).flatMap fun m => itemsD (sndD m)).map (fieldOk2 ks), rfl, SqL.of (by rw [← em2, List.map_map]; exact ed4), ?_⟩
                have := q H4 (gA.trans g4) t4
                refine goQ this ?_
                rw [List.all_map]
                rfl
  · have c1' : tupB d 1 6 = false := Bool.eq_false_iff.mpr c1
    have ek : kindsB d = false := by unfold kindsB; rw [c1'] <;> rfl
    rw [ek] at q
    cases hv with
    | @tup a xs ds e n r =>
      refine iteF ?_
      refine ⟨_, rfl, a, _, rfl, .inr (SqT.of e), 1, 7, rfl, fun p hp => ⟨_, p, 1, 7, rfl, rfl, upd_same, _, rfl, ?_⟩⟩
      have hl := r.length
      have : ¬ ((1 : Int) ≤ (xs.length : Int) ∧ (xs.length : Int) < 7) := fun z => c1 (by
        show (decide ((1 : Int) ≤ (ds.length : Int)) && decide ((ds.length : Int) ≤ 6)) = true
        rw [decide_eq_true (show (1 : Int) ≤ (ds.length : Int) by omega), decide_eq_true (show (ds.length : Int) ≤ 6 by omega)] <;> rfl)
      rw [decide_eq_false this]
      have g0 : Go T [] H (upd H p (.rng 1 7)) := Go.new hp
      exact iteT (q _ g0 (g0.tb ht))
    | _ => exact iteT (q H Go.refl ht)
end
end K1
set_option Elab.async false
set_option linter.all false
set_option maxRecDepth 100000
set_option maxHeartbeats 8000000
namespace K1
open PySem PySem.Spec PyProof.Rows L2 GxR NdefX GA SL
abbrev s_law_value_right : Stmt := top 61
theorem sc_law_value_right : FnScope ["value", "copied", "due", "told", "doors", "dues", "found", "door"] ["value"] (defScope s_law_value_right) := ⟨rfl, rfl, rfl, by decide +kernel, rfl, by decide +kernel, by decide +kernel⟩
def sp_value (T : List Addr) : Sp := fun vs H Q _ => ∃ (v : V) (d : PyData) (n : Nat), vs = [v] ∧ Dv [] H v d ∧ nice n d = true ∧ n.log2 < 1920 ∧ wt d ≤ 4000000 ∧ d.depth ≤ 100 ∧ Tabs T H ∧ ∀ H', Go T [] H H' → Tabs T H' → Q (.bl true) H'
section
variable {P : Program} {w : World} {K : PySem.W.Frag} {mg : Str → Option Value} {base : Heap} {f c CK CN CT CR : Addr} {fd : FuncData} {T : List Addr}
theorem ok_law_value_right (F : FunT K "_law_value_right" "_law_value_right" s_law_value_right f fd c) (B : Bl mg) (hS : ∃ o, base.get? sysModules = some o) (Fl : Fnn P w K mg base CX0 2 "_law_is_kinds" ["value"] (sp_look T kindsB)) (Fk : Fnn P w K mg base CX0 9 "is_kinds" ["thing"] (sp_look T kindsB))
    (Fkw : Fnw P w K mg base CX0 9 "is_kinds" ["thing"] (sp_look T kindsB)) (Fi : Fnn P w K mg base CX0 1 "_law_is" ["found", "due"] sp_law_is) (Fd : Fnn P w K mg base CX0 15 "_law_door" ["door", "value"] (sp_door T)) : FnG P w K mg base 16 f fd ["value"] (sp_value T) := by
  have nd := sc_law_value_right.nd
  refine F.okG sc_law_value_right (fun vs H Q h => ?_) (fun A outer s H vs Q hG hr h => ?_)
  · obtain ⟨_, _, _, rfl, _⟩ := h
    rfl
  obtain ⟨v, d, n, rfl, hv, hn, hl, hw, hd, ht, q⟩ := h
  have nn : ∀ b : Addr, b ∉ ([] : List Addr) := fun b => List.not_mem_nil
  have hu64 : (A.deeper (envOfC "_law_value_right" (defScope s_law_value_right) s.heap.objs.size f (.ref c))).units + 64 < cLine := by
    have := hr.un
    omega
  refine ⟨_, (pss_cons (ps_set (i := 1) nd rfl (Or.inl rfl) (pe_repr B hG hr hS (pv 0)))
    (pss_cons (ps_set (i := 2) nd rfl (Or.inr rfl) (pe_fn Fl hr (by decide) pass0 (pa_cons (pv 0) pa_nil)))
    (pss_cons (ps_set (i := 3) nd rfl (Or.inl rfl) (pe_lst (pa_cons (pe_fn Fk hr (by decide) pass0 (pa_cons (pv 0) pa_nil)) (pa_cons (pe_kw Fkw hr (by decide) (fun σ => pass0S σ) (pk_cons (pv 0) pk_nil)) (pa_cons (pe_fn Fk hr (by decide) pass0 (pa_cons (pv 0) pa_nil)) pa_nil)))))
    (pss_cons (ps_if (pt_not (pt_val (pe_allL rfl B (pe_lc (own := [("found", 6)]) (g := gName 6) (tt := tYes)  rfl nd (pi_list (pv 3)) (blkOk_by (own := [("found", 6)]) (N := ["value", "copied", "due", "told", "doors", "dues", "found", "door"]) (sc := defScope s_law_value_right) (by decide +kernel))
        (fun _ _ _ _ _ => (pg_name (i := 6) nd rfl (Or.inl rfl))) (fun _ _ _ _ _ => pts_nil) (fun _ _ _ _ _ => (pe_fn Fi hr (by decide) pass0 (pa_cons (pv 6) (pa_cons (pv 2) pa_nil)))))))) (pss_one (ps_ret pe_bl)) pss_nil)
    (pss_cons (ps_setLc (i := 4) (own := [("door", 7)]) (g := gName 7) (tt := tYes) rfl nd rfl rfl (sw_true rfl rfl rfl (by decide +kernel)) (pi_range1 rfl B.range (pa_cons pe_int pa_nil)) (blkOk_by (own := [("door", 7)]) (N := ["value", "copied", "due", "told", "doors", "dues", "found", "door"]) (sc := defScope s_law_value_right) (by decide +kernel)) (fun _ _ _ _ _ => (pg_name (i := 7) nd rfl (Or.inl rfl))) (fun _ _ _ _ _ => pts_nil) (fun _ _ _ _ _ => (pe_fn Fd hr (by decide) pass0 (pa_cons (pv 7) (pa_cons (pv 0) pa_nil)))))
    (pss_cons (ps_set (i := 5) nd rfl (Or.inl rfl) (pe_lst (pa_cons pe_str (pa_cons pe_str (pa_cons pe_str (pa_cons pe_str (pa_cons pe_str (pa_cons pe_str pa_nil))))))))
    (pss_cons (ps_if (pt_not (pt_val (pv 2))) (pss_one (ps_set (i := 5) nd rfl (Or.inl rfl) (pe_op op_rep (pe_lst (pa_cons pe_str pa_nil)) pe_int))) pss_nil)
    (pss_one (ps_ret (pe_and (pe_cmpR (op_eqD hu64) (pv 4) (pv 5) (nomark _)) (pe_one (pe_cmpR op_eq (pe_repr B hG hr hS (pv 0)) (pv 1) (nomark _))))))))))))), ?_⟩
  refine ⟨_, rfl, v, [], d, n, rfl, hv, hn, hl, hw, hd, ?_⟩
  refine ⟨_, rfl, [], v, d, rfl, hv, hw, ht, fun H1 g1 t1 => ?_⟩
  refine ⟨_, rfl, [], v, d, rfl, hv.go g1, hw, t1, fun H2 g2 t2 => ⟨_, rfl, [], v, d, rfl, (hv.go g1).go g2, hw, t2, fun H3 g3 t3 => ⟨_, rfl, [], v, d, rfl, ((hv.go g1).go g2).go g3, hw, t3, fun H4 g4 t4 => ⟨by show 3 ≤ sizeLine; decide, fun p hp => ?_⟩⟩⟩⟩
  have gp := Go.new (T := T) (M := []) (o := .lst [.bl (kindsB d), .bl (kindsB d), .bl (kindsB d)]) hp
  have gA := (((g1.trans g2).trans g3).trans g4).trans gp
  have tA := gA.tb ht
  refine ⟨_, rfl, p, rfl, ⟨_, SqL.of upd_same⟩, fun D hD => ?_⟩
  refine lc_map (T := T) (fun _ => .bl true) (walk_list (xs := [.bl (kindsB d), .bl (kindsB d), .bl (kindsB d)])) (fun H5 g5 => SqL.of (g5.lst upd_same (nn _))) tA Go.refl hD (by show 3 ≤ sizeLine; decide) (fun i x H5 H6 R hi g5 t5 y hR => ?_) (fun H5 g5 t5 ed => ?_)
  · obtain ⟨rfl, ex⟩ := y
    have : x = .bl (kindsB d) := by
      have hm := List.mem_of_getElem? ex
      simpa using hm
    subst this
    refine ⟨rfl, _, rfl, _, rfl, kindsB d, kindsB d, rfl, ?_⟩
    rw [decide_eq_true rfl]
    exact hR H6 Go.refl
  refine ⟨D, [true, true, true], rfl, SqL.of ed, _, rfl, ?_⟩
  refine iteF ?_
  have gB := gA.trans g5
  refine ⟨6, rfl, by decide, by decide, fun D2 hD2 => ?_⟩
  refine lc_map (T := T) (fun i => .str (doorS (0 + (i : Int)) (kindsB d))) (walk_range (lo := 0) (n := 6)) (fun _ _ => trivial) t5 Go.refl hD2 (by show 6 ≤ sizeLine; decide) (fun i x H6 H7 R hi g6 t6 y hR => ?_) (fun H6 g6 t6 ed6 => ?_)
  · obtain ⟨rfl, rfl⟩ := y
    exact ⟨rfl, _, rfl, _, rfl, _, v, d, rfl, hv.go (gB.trans g6), hw, t6, fun H8 g8 t8 => hR H8 g8⟩
  have gC := gB.trans g6
  refine ⟨by show 6 ≤ sizeLine; decide, fun q1 hq1 => ?_⟩
  have g7 := Go.new (T := T) (M := []) (o := .lst [.str "other", .str "let", .str "other", .str "other", .str "other", .str "other"]) hq1
  have ed7 := g7.lst ed6 (nn _)
  refine ⟨_, rfl, _, rfl, ?_⟩
  have hst : ∀ (l : List Str) (H' : Hp) (a : Addr), H' a = some (.lst (l.map V.str)) → Dp K H' (.ref a) (.list (l.map .str)) := fun l H' a e => .lst (SqL.of e) (by
    clear e
    induction l with
    | nil => exact .nil
    | cons x r ih => exact .cons (.str x) ih)
  cases cb : kindsB d with
  | true =>
    rw [cb] at ed7
    refine iteF ?_
    have e1 : ((List.range 6).map fun i : Nat => V.str (doorS (0 + (i : Int)) true)) = ([("other" : Str), "let", "other", "other", "other", "other"]).map V.str := rfl
    rw [e1] at ed7
    refine ⟨_, rfl, _, rfl, _, _, hst _ _ _ ed7, hst [("other" : Str), "let", "other", "other", "other", "other"] _ _ upd_same, by decide +kernel, by decide +kernel, _, rfl, ?_⟩
    refine if_true_of (by decide +kernel) ?_
    refine ⟨_, rfl, v, [], d, n, rfl, hv.go (gC.trans g7), hn, hl, hw, hd, _, rfl, rfl, ?_⟩
    rw [decide_eq_true rfl]
    exact q _ (gC.trans g7) ((gC.trans g7).tb ht)
  | false =>
    rw [cb] at ed7
    refine iteT ?_
    have e1 : ((List.range 6).map fun i : Nat => V.str (doorS (0 + (i : Int)) false)) = ([("kinds" : Str), "kinds", "kinds", "kinds", "kinds", "kinds"]).map V.str := rfl
    rw [e1] at ed7
    refine ⟨by show 1 ≤ sizeLine; decide, fun q2 hq2 => ⟨q2, 6, [.str "kinds"], rfl, rfl, upd_same, by decide, by decide, by show 6 ≤ sizeLine; decide, fun q3 hq3 => ?_⟩⟩
    have g8 := g7.trans ((Go.new (T := T) (M := []) (o := .lst [.str "kinds"]) hq2).trans (Go.new (o := .lst (List.replicate (6 : Int).toNat [V.str "kinds"]).flatten) hq3))
    have ed8 := ((Go.new (T := T) (M := []) (o := .lst [.str "kinds"]) hq2).trans (Go.new (o := .lst (List.replicate (6 : Int).toNat [V.str "kinds"]).flatten) hq3)).lst ed7 (nn _)
    refine ⟨_, rfl, _, rfl, _, _, hst _ _ _ ed8, hst [("kinds" : Str), "kinds", "kinds", "kinds", "kinds", "kinds"] _ _ upd_same, by decide +kernel, by decide +kernel, _, rfl, ?_⟩
    refine if_true_of (by decide +kernel) ?_
    refine ⟨_, rfl, v, [], d, n, rfl, hv.go (gC.trans g8), hn, hl, hw, hd, _, rfl, rfl, ?_⟩
    rw [decide_eq_true rfl]
    exact q _ (gC.trans g8) ((gC.trans g8).tb ht)
end
end K1
set_option Elab.async false
set_option linter.all false
set_option maxRecDepth 100000
set_option maxHeartbeats 8000000
namespace K1
open PySem PySem.Spec PyProof.Rows L2 GxR NdefX GA SL
abbrev s_law_well : Stmt := top 51
abbrev s_law_draw : Stmt := top 52
theorem sc_law_well : FnScope ["script", "stir", "cell"] ["script"] (defScope s_law_well) := ⟨rfl, rfl, rfl, by decide +kernel, rfl, by decide +kernel, by decide +kernel⟩
theorem sc_law_draw : FnScope ["well", "many", "top"] ["well", "many"] (defScope s_law_draw) := ⟨rfl, rfl, rfl, by decide +kernel, rfl, by decide +kernel, by decide +kernel⟩
/-- the well at a, its numbers at l; drawn at most k times behind them -/
def WellAt (a l : Addr) (H : Hp) (k : Int) : Prop := ∃ (ns : List Int) (s c : Int), a ≠ l ∧ H a = some (.lst [.ref l, .int s, .int c]) ∧ H l = some (.lst (ns.map V.int)) ∧ 0 ≤ s ∧ s < 2147483647 ∧ 0 ≤ c ∧ c ≤ k
def sp_well (K : PySem.W.Frag) (T : List Addr) : Sp := fun vs H Q _ => ∃ (b : Addr) (ns : List Int), vs = [.ref b] ∧ SqL K H b (ns.map V.int) ∧ ns.length ≤ 1000000 ∧ Tabs T H ∧ ∀ a l H', H a = none → H l = none → WellAt a l H' 0 → Go T [] H H' → Tabs T H' → Q (.ref a) H'
def sp_draw (T : List Addr) : Sp := fun vs H Q _ => ∃ (a l : Addr) (k many : Int), vs = [.ref a, .int many] ∧ 0 < many ∧ many < 1073741824 ∧ k ≤ 1099511627776 ∧ WellAt a l H k ∧ Tabs T H ∧ ∀ i H', 0 ≤ i → i < many → WellAt a l H' (k + 1) → Go T [a, l] H H' → Tabs T H' → Q (.int i) H'
section
variable {P : Program} {w : World} {K : PySem.W.Frag} {mg : Str → Option Value} {base : Heap} {f c CK CN CT CR : Addr} {fd : FuncData} {T : List Addr}
theorem ok_law_well (F : Fun K "_law_well" "_law_well" s_law_well f fd) (B : Bl mg) : FnOk P w K mg base CX0 1 f fd ["script"] (sp_well K T) := by
  have nd := sc_law_well.nd
  refine F.ok sc_law_well (fun vs H Q E h => ?_) (fun cdv A outer s H vs Q E hr h => ?_)
  · obtain ⟨_, _, rfl, _⟩ := h
    rfl
  obtain ⟨b, ns, rfl, hb, hl, ht, q⟩ := h
  have nn : ∀ b : Addr, b ∉ ([] : List Addr) := fun b => List.not_mem_nil
  refine ⟨_, (pss_cons (ps_set (i := 1) nd rfl (Or.inl rfl) pe_int)
    (pss_cons (ps_for PassesOwn.never rfl (pi_list (pv 0)) (pg_name (i := 2) nd rfl (Or.inl rfl))
    (pss_one (ps_set (i := 1) nd rfl (Or.inl rfl) (pe_op op_mod (pe_toInt B (pe_op op_add (pe_op op_add (pe_op op_mul (pv 1) pe_int) (pe_op op_mod (pe_toInt B (pv 2)) pe_int)) pe_int)) pe_int))))
    (pss_one (ps_ret (pe_lst (pa_cons (pe_lc (own := [("cell", 2)]) (g := gName 2) (tt := _)  rfl nd (pi_list (pv 0)) (blkOk_by (own := [("cell", 2)]) (N := ["script", "stir", "cell"]) (sc := defScope s_law_well) (by decide +kernel))
        (fun _ _ _ _ _ => (pg_name (i := 2) nd rfl (Or.inl rfl))) (fun _ _ _ _ _ => pts_one (pt_cmpR op_gt (pv 2) (pe_op op_pow pe_int pe_int) (nomark _))) (fun _ _ _ _ _ => (pe_op op_sub (pe_toInt B (pv 2)) (pe_op op_pow pe_int pe_int)))) (pa_cons (pv 1) (pa_cons pe_int pa_nil)))))))), ?_⟩
  refine ⟨_, rfl, b, rfl, ⟨_, hb⟩, ?_⟩
  refine for_it (n := (ns.map V.int).length) walk_list (fun i σ H' => H' = H ∧ ∃ (s : Int) (p : Option V), σ = [some (.ref b), some (.int s), p] ∧ 0 ≤ s ∧ s < 2147483647) ⟨rfl, 7, none, rfl, by decide, by decide⟩ (fun i σ H' _ h => by rw [h.1]; exact hb) (fun i x σ H' H'' hi h y => ?_) (fun σ H' h => ?_)
  · obtain ⟨rfl, s1, p, rfl, a1, a2⟩ := h
    obtain ⟨rfl, ex⟩ := y
    rw [List.getElem?_map] at ex
    obtain ⟨z, _, rfl⟩ := Option.map_eq_some_iff.mp ex
    refine ⟨_, rfl, _, _, rfl, rfl, .inl ⟨by omega, by omega⟩, _, rfl, .inl ⟨_, rfl, _, _, rfl, rfl, (show (0 : Int) < 2147483629 by decide), _, _, rfl, rfl, _, _, rfl, rfl, .inl ⟨_, rfl, _, _, rfl, rfl, (show (0 : Int) < 2147483647 by decide), ?_⟩⟩⟩
    exact ⟨rfl, _, _, rfl, Int.emod_nonneg _ (by decide), Int.emod_lt_of_pos _ (by decide)⟩
  obtain ⟨rfl, s1, p, rfl, a1, a2⟩ := h
  refine ⟨_, rfl, b, rfl, ⟨_, hb⟩, fun D hD => ?_⟩
  refine lc_it walk_list (fun i H2 => Go T [] H' H2 ∧ ∃ zs : List Int, H2 D = some (.lst (zs.map V.int)) ∧ zs.length ≤ i) ⟨Go.new hD, [], upd_same, Nat.le_refl _⟩ (fun i H2 _ h => h.1.sqL hb) (fun i x H2 H3 hi h y => ?_) (fun H2 h => ?_)
  · obtain ⟨gg, zs, ez, lz⟩ := h
    obtain ⟨rfl, ex⟩ := y
    rw [List.getElem?_map] at ex
    obtain ⟨z, _, rfl⟩ := Option.map_eq_some_iff.mp ex
    rw [List.length_map] at hi
    refine ⟨rfl, _, rfl, _, _, rfl, rfl, ⟨by decide, by decide, by decide⟩, _, _, rfl, rfl, _, rfl, ?_⟩
    show if decide _ = true then _ else _
    split
    · refine ⟨_, rfl, .inl ⟨_, rfl, _, _, rfl, rfl, ⟨by decide, by decide, by decide⟩, _, _, rfl, rfl, ?_⟩⟩
      refine ⟨_, ez, by rw [List.length_map, sizeLine_eq]; omega, gg.over hD ez (fun _ z => by cases z), zs ++ [_], by rw [upd_same, List.map_append] <;> rfl, by rw [List.length_append, List.length_singleton]; omega⟩
    · exact ⟨gg, zs, ez, by omega⟩
  · obtain ⟨gg, zs, ez, lz⟩ := h
    refine ⟨_, rfl, by show 3 ≤ sizeLine; decide, fun p hp => ?_⟩
    have gn := Go.new (T := T) (M := []) (o := .lst [.ref D, .int s1, .int 0]) hp
    exact q p D _ (gg.al _ hp) hD ⟨zs, s1, 0, (ne_of_none ez hp).symm, upd_same, gn.lst ez (nn _), a1, a2, by decide, by decide⟩ (gg.trans gn) ((gg.trans gn).tb ht)
theorem ok_law_draw (F : Fun K "_law_draw" "_law_draw" s_law_draw f fd) (B : Bl mg) : FnOk P w K mg base CX0 1 f fd ["well", "many"] (sp_draw T) := by
  have nd := sc_law_draw.nd
  refine F.ok sc_law_draw (fun vs H Q E h => ?_) (fun cdv A outer s H vs Q E hr h => ?_)
  · obtain ⟨_, _, _, _, rfl, _⟩ := h
    rfl
  obtain ⟨a, l, k, many, rfl, m1, m2, hk, ⟨ns, s0, c0, hal, ea, el, s1, s2, c1, c2⟩, ht, q⟩ := h
  have nn : ∀ b : Addr, b ∉ ([] : List Addr) := fun b => List.not_mem_nil
  have hu : (A.deeper (envOfC "_law_draw" (defScope s_law_draw) s.heap.objs.size f cdv)).units < cLine := by
    have := hr.un
    omega
  refine ⟨_, (pss_cons (ps_if (pt_cmpR (op_neNil hu) (pe_ix ix_list (pv 0) pe_int (fun _ _ => rfl)) (pe_lst pa_nil) (nomark _)) (pss_cons (ps_set (i := 2) nd rfl (Or.inl rfl) (pe_ix ix_list (pe_ix ix_list (pv 0) pe_int (fun _ _ => rfl)) pe_int (fun _ _ => rfl)))
    (pss_cons (ps_if (pt_cmpR op_lt (pv 2) (pv 1) (nomark _)) (pss_one (ps_expr (pe_bm PySem.F.plainAttrs_list PySem.F.slot_list_pop PySem.F.type_list_pop mt_popAt (pe_ix ix_list (pv 0) pe_int (fun _ _ => rfl)) (pa_cons pe_int pa_nil)))) (pss_one (ps_asg (pe_op op_fdivN (pv 2) (pv 1)) (pg_sub (pe_ix ix_list (pv 0) pe_int (fun _ _ => rfl)) pe_int set_list))))
    (pss_one (ps_ret (pe_op op_mod (pe_toInt B (pv 2)) (pv 1)))))) pss_nil)
    (pss_cons (ps_asg (pe_op op_add (pe_ix ix_list (pv 0) pe_int (fun _ _ => rfl)) pe_int) (pg_sub (pv 0) pe_int set_list))
    (pss_cons (ps_asg (pe_op op_mod (pe_toInt B (pe_op op_add (pe_op op_add (pe_op op_mul (pe_ix ix_list (pv 0) pe_int (fun _ _ => rfl)) pe_int) (pe_op op_mul (pe_op op_mul pe_int (pe_ix ix_list (pv 0) pe_int (fun _ _ => rfl))) (pe_ix ix_list (pv 0) pe_int (fun _ _ => rfl)))) pe_int)) pe_int) (pg_sub (pv 0) pe_int set_list))
    (pss_one (ps_ret (pe_op op_mod (pe_op op_fdiv (pe_op op_mod (pe_toInt B (pe_op op_mul (pe_ix ix_list (pv 0) pe_int (fun _ _ => rfl)) (pe_ix ix_list (pv 0) pe_int (fun _ _ => rfl)))) pe_int) pe_int) (pv 1))))))), ?_⟩
  have ma : a ∈ [a, l] := by simp
  have ml : l ∈ [a, l] := by simp
  refine ⟨_, rfl, a, _, 0, _, rfl, rfl, SqL.of ea, rfl, by show 0 ≤ sizeLine; omega, fun e1 he1 => ?_⟩
  have g1 : Go T [a, l] H (upd H e1 (.lst [])) := Go.new he1
  have na : a ≠ e1 := ne_of_none ea he1
  have nl : l ≠ e1 := ne_of_none el he1
  have ea1 : upd H e1 (.lst []) a = some (.lst [.ref l, .int s0, .int c0]) := by rw [upd_ne na]; exact ea
  have el1 : upd H e1 (.lst []) l = some (.lst (ns.map V.int)) := by rw [upd_ne nl]; exact el
  refine ⟨l, e1, ns.map V.int, rfl, rfl, .inl ⟨SqL.of el1, SqL.of upd_same⟩, _, rfl, ?_⟩
  cases ns with
  | nil =>
    refine iteF ?_
    refine ⟨_, rfl, a, _, 2, _, rfl, rfl, SqL.of ea1, rfl, _, _, rfl, rfl, _, rfl, a, _, 2, 2, rfl, rfl, ea1, rfl, ?_⟩
    have ea2 : upd (upd H e1 (.lst [])) a (.lst [.ref l, .int s0, .int (c0 + 1)]) a = some (.lst [.ref l, .int s0, .int (c0 + 1)]) := upd_same
    refine ⟨_, rfl, a, _, 1, _, rfl, rfl, SqL.of ea2, rfl, _, _, rfl, rfl, .inl ⟨by omega, by omega⟩, _, rfl, a, _, 2, _, rfl, rfl, SqL.of ea2, rfl, _, _, rfl, rfl, .inl ⟨by decide, by decide⟩, _, rfl, a, _, 2, _, rfl, rfl, SqL.of ea2, rfl, _, _, rfl, rfl, .inl ⟨by omega, by omega⟩, _, _, rfl, rfl, _, _, rfl, rfl,
      .inl ⟨_, rfl, _, _, rfl, rfl, (show (0 : Int) < 2147483647 by decide), _, rfl, a, _, 1, 1, rfl, rfl, ea2, rfl, ?_⟩⟩
    have b1 := Int.emod_nonneg (s0 * 48271 + 69621 * (c0 + 1) * (c0 + 1) + 40692) (show (2147483647 : Int) ≠ 0 by decide)
    have b2 := Int.emod_lt_of_pos (s0 * 48271 + 69621 * (c0 + 1) * (c0 + 1) + 40692) (show (0 : Int) < 2147483647 by decide)
    refine ⟨_, rfl, a, _, 1, _, rfl, rfl, SqL.of upd_same, rfl, _, rfl, a, _, 1, _, rfl, rfl, SqL.of upd_same, rfl, _, _, rfl, rfl, .inl ⟨by omega, by omega⟩, .inl ⟨_, rfl, _, _, rfl, rfl, (show (0 : Int) < 2147483629 by decide), _, _, rfl, rfl, ⟨by decide, by decide⟩, _, rfl, _, _, rfl, rfl, m1, ?_⟩⟩
    have G := (g1.trans (Go.set (T := T) (M := [a, l]) (o := .lst [.ref l, .int s0, .int (c0 + 1)]) ea1 (fun _ z => by cases z) ma)).trans (Go.set (T := T) (M := [a, l]) (o := .lst ([V.ref l, .int s0, .int (c0 + 1)].set 1 (.int ((s0 * 48271 + 69621 * (c0 + 1) * (c0 + 1) + 40692) % 2147483647)))) ea2 (fun _ z => by cases z) ma)
    refine q _ _ (Int.emod_nonneg _ (by omega)) (Int.emod_lt_of_pos _ m1) ⟨[], _, _, hal, upd_same, ?_, b1, b2, by omega, by omega⟩ G (G.tb ht)
    rw [upd_ne hal.symm, upd_ne hal.symm]
    exact el1
  | cons z r =>
    refine iteT ?_
    refine ⟨_, rfl, a, _, 0, _, rfl, rfl, SqL.of ea1, rfl, l, _, 0, .int z, rfl, rfl, SqL.of el1, atI_nat (j := 0) rfl, ?_⟩
    refine ⟨_, rfl, _, rfl, _, _, rfl, rfl, _, rfl, ?_⟩
    have hix : ixN ((z :: r).map V.int).length 0 = some 0 := by
      unfold ixN
      rw [if_pos (by decide), if_pos (by rw [List.length_map, List.length_cons]; omega)] <;> rfl
    by_cases hc : z < many
    · refine if_true_of (decide_eq_true hc) ?_
      refine ⟨_, rfl, a, _, 0, _, rfl, rfl, SqL.of ea1, rfl, .inl ⟨rfl, _, SqL.of el1⟩, l, _, 0, 0, .int z, rfl, rfl, el1, by decide, by decide, ?_, rfl, ?_⟩
      · exact (ixN_seq hix).1
      refine ⟨_, rfl, .inl ⟨_, rfl, _, rfl, _, _, rfl, rfl, m1, ?_⟩⟩
      have G := g1.trans (Go.set (T := T) (M := [a, l]) (o := .lst (r.map V.int)) el1 (fun _ z => by cases z) ml)
      exact q _ _ (Int.emod_nonneg _ (by omega)) (Int.emod_lt_of_pos _ m1) ⟨r, s0, c0, hal, by rw [upd_ne hal]; exact ea1, upd_same, s1, s2, c1, by omega⟩ G (G.tb ht)
    · refine if_false_of (decide_eq_false hc) ?_
      refine ⟨_, rfl, _, rfl, _, _, rfl, rfl, ⟨by omega, by omega⟩, _, rfl, a, _, 0, _, rfl, rfl, SqL.of ea1, rfl, l, _, 0, 0, rfl, rfl, el1, ?_, ?_⟩
      · exact hix
      refine ⟨_, rfl, .inl ⟨_, rfl, _, rfl, _, _, rfl, rfl, m1, ?_⟩⟩
      have G := g1.trans (Go.set (T := T) (M := [a, l]) (o := .lst ((V.int (z.fdiv many)) :: r.map V.int)) el1 (fun _ z => by cases z) ml)
      exact q _ _ (Int.emod_nonneg _ (by omega)) (Int.emod_lt_of_pos _ m1) ⟨z.fdiv many :: r, s0, c0, hal, by rw [upd_ne hal]; exact ea1, upd_same, s1, s2, c1, by omega⟩ G (G.tb ht)
end
end K1
set_option Elab.async false
set_option linter.all false
set_option maxRecDepth 100000
set_option maxHeartbeats 8000000
namespace SL
open PySem PySem.Spec PyProof.Rows L2 GxR NdefX GA
def rStrI : List V → Hp → VK → Prop := fun xs H Q => ∃ i, xs = [.int i] ∧ i.natAbs.log2 < 1920 ∧ Q (.str (toString i)) H
theorem pe_strI {X : Cx} {a : Expr} {ta : TE} {p pos : Pos} (B : Bl X.mg) (ha : PE X a ta) (h1 : Gl X "str" := by rfl) (he : starEach (a :: []) X.env = (false, eval a X.env) :: starEach [] X.env := by rfl) : PE X (.Call (.Name "str" p) [a] [] pos) (tCB rStrI (tCons ta tNil)) :=
  pe_callTy call_str_int h1 B.str (by decide +kernel) (pa_cons ha pa_nil he) (by decide) (by decide) he
def rCatS : R2 := fun x y H Q => ∃ i j, x = .str i ∧ y = .str j ∧ i.length + j.length ≤ sizeLine ∧ Q (.str (i ++ j)) H
end SL
namespace K1
open PySem PySem.Spec PyProof.Rows L2 GxR NdefX GA SL
abbrev s_law_name : Stmt := top 53
theorem sc_law_name : FnScope ["well", "taken", "high", "low", "signs", "head", "body", "old", "at", "found", "k"] ["well", "taken", "high"] (defScope s_law_name) := ⟨rfl, rfl, rfl, by decide +kernel, rfl, by decide +kernel, by decide +kernel⟩
def nmOk (x : Str) : Prop := asc x = true ∧ 1 ≤ x.length ∧ x.length ≤ 11
def sp_name (T : List Addr) : Sp := fun vs H Q _ => ∃ (a l t : Addr) (k : Int) (xs : List Str), vs = [.ref a, .ref t, .bl true] ∧ k ≤ 549755813888 ∧ WellAt a l H k ∧ t ≠ a ∧ t ≠ l ∧ H t = some (.lst (xs.map V.str)) ∧ (∀ x ∈ xs, nmOk x) ∧ xs.length < 100 ∧ Tabs T H ∧
  ∀ x H', nmOk x → WellAt a l H' (k + 30) → Go T [a, l] H H' → Tabs T H' → Q (.str x) H'
theorem at_ok {α : Type} {xs : List α} {i : Int} (h0 : 0 ≤ i) (h1 : i < (xs.length : Int)) : ∃ c, atI xs i = some c ∧ c ∈ xs := by
  obtain ⟨j, rfl⟩ : ∃ j : Nat, i = (j : Int) := ⟨i.toNat, by omega⟩
  have hj : j < xs.length := by omega
  exact ⟨xs[j], atI_nat (List.getElem?_eq_getElem hj), List.getElem_mem hj⟩
theorem at3 {i : Int} (h0 : 0 ≤ i) (h1 : i < 3) : ∃ m : Int, atI [V.int 2, V.int 4, V.int 10] i = some (.int m) ∧ 2 ≤ m ∧ m ≤ 10 := by
  have : i = 0 ∨ i = 1 ∨ i = 2 := by omega
  rcases this with rfl | rfl | rfl
  · exact ⟨2, rfl, by decide, by decide⟩
  · exact ⟨4, rfl, by decide, by decide⟩
  · exact ⟨10, rfl, by decide, by decide⟩
theorem at2 {i : Int} {x y : Str} {p : Str → Prop} (h0 : 0 ≤ i) (h1 : i < 2) (hx : p x) (hy : p y) : ∃ z, atI [V.str x, V.str y] i = some (.str z) ∧ p z := by
  have : i = 0 ∨ i = 1 := by omega
  rcases this with rfl | rfl
  · exact ⟨x, rfl, hx⟩
  · exact ⟨y, rfl, hy⟩
theorem WellAt.up {a l : Addr} {H : Hp} {k j : Int} (h : WellAt a l H k) (hj : k ≤ j) : WellAt a l H j := by
  obtain ⟨ns, s, c, h1, h2, h3, h4, h5, h6, h7⟩ := h
  exact ⟨ns, s, c, h1, h2, h3, h4, h5, h6, by omega⟩
theorem WellAt.go {a l : Addr} {T : List Addr} {H H' : Hp} {k : Int} (h : WellAt a l H k) (g : Go T [] H H') : WellAt a l H' k := by
  obtain ⟨ns, s, c, h1, h2, h3, h4⟩ := h
  exact ⟨ns, s, c, h1, g.lst h2 (by simp), g.lst h3 (by simp), h4⟩
theorem WellAt.ne {a l p : Addr} {H : Hp} {k : Int} (h : WellAt a l H k) (hp : H p = none) : p ≠ a ∧ p ≠ l := by
  obtain ⟨ns, s, c, h1, h2, h3, h4⟩ := h
  exact ⟨(ne_of_none h2 hp).symm, (ne_of_none h3 hp).symm⟩
theorem nin {p a l : Addr} (h : p ≠ a ∧ p ≠ l) : p ∉ [a, l] := by simp [h.1, h.2]
section
variable {P : Program} {w : World} {K : PySem.W.Frag} {mg : Str → Option Value} {base : Heap} {f c CK CN CT CR : Addr} {fd : FuncData} {T : List Addr}
theorem str_ok {i : Nat} (h : i < 400) : asc (Str.ofString (toString (i : Int))) = true ∧ (Str.ofString (toString (i : Int))).length ≤ 3 := by
  have := List.all_eq_true.mp str_400 i (List.mem_range.mpr h)
  simp only [Bool.and_eq_true, decide_eq_true_eq] at this
  exact this
theorem append_inj {x y z : Str} (h : x ++ y = x ++ z) : y = z := by
  have h1 := congrArg (fun s : Str => s.cps.toList) h
  simp only [cps_add] at h1
  have h2 := List.append_cancel_left h1
  cases y
  cases z
  congr 1
  exact Array.toList_inj.mp h2
theorem nd_le : ∀ {l xs : List Str}, l.Nodup → l ⊆ xs → l.length ≤ xs.length
  | [], _, _, _ => Nat.zero_le _
  | a :: l, xs, h, s => by
    obtain ⟨h1, h2⟩ := List.nodup_cons.mp h
    have ha : a ∈ xs := s List.mem_cons_self
    have ih := nd_le (l := l) (xs := xs.erase a) h2 fun b hb => (List.mem_erase_of_ne fun z => h1 (by rw [← z]; exact hb)).mpr (s (List.mem_cons_of_mem _ hb))
    rw [List.length_erase_of_mem ha] at ih
    have := List.length_pos_of_mem ha
    rw [List.length_cons]
    omega
/-- fewer than a hundred names leave one of a hundred -/
theorem pigeon {hd : Str} {xs : List Str} (hx : xs.length < 100) : ∃ i : Nat, i < 100 ∧ hd ++ Str.ofString (toString (i : Int)) ∉ xs := by
  refine Classical.byContradiction fun no => ?_
  have all : ∀ i : Nat, i < 100 → hd ++ Str.ofString (toString (i : Int)) ∈ xs := fun i hi => Classical.byContradiction fun z => no ⟨i, hi, z⟩
  have nd : ((List.range 100).map fun i : Nat => hd ++ Str.ofString (toString (i : Int))).Nodup := by
    have e : ((List.range 100).map fun i : Nat => hd ++ Str.ofString (toString (i : Int))) = (((List.range 100).map fun k : Nat => Str.ofString (toString (k : Int))).map fun y => hd ++ y) := by rw [List.map_map] <;> rfl
    rw [e]
    exact List.Pairwise.map _ (fun a b hab z => hab (append_inj z)) str_100
  have sub : ((List.range 100).map fun i : Nat => hd ++ Str.ofString (toString (i : Int))) ⊆ xs := fun y hy => by
    obtain ⟨i, hi, rfl⟩ := List.mem_map.mp hy
    exact all i (List.mem_range.mp hi)
  have := nd_le nd sub
  rw [List.length_map, List.length_range] at this
  omega
/-- [head + str(k) for k in range(400) if head + str(k) not in taken] -/
theorem lc_pick {H : Hp} {σ : L2.St} {D t : Addr} {hd : Str} {xs : List Str} {Qd : Hp → Prop} (et : H t = some (.lst (xs.map V.str))) (hx : xs.length < 100) (hh : asc hd = true) (hl : hd.length = 1) (hD : H D = none)
    (hw : ∀ v, wipe ((wipe σ [10]).set 10 (some v)) [10] = wipe σ [10]) (h5 : ∀ v, ((wipe σ [10]).set 10 (some v))[5]? = some (some (.str hd))) (h10 : ∀ v, ((wipe σ [10]).set 10 (some v))[10]? = some (some v)) (h1 : ∀ v, ((wipe σ [10]).set 10 (some v))[1]? = some (some (.ref t)))
    (hq : ∀ H' y ys, Go T [] H H' → H' D = some (.lst (V.str y :: ys)) → nmOk y → Qd H') :
    ∃ W : Nat → Nat → Hp → Prop, (∃ m, W 0 m (upd H D (.lst []))) ∧ ∀ i' m H, W i' m H →
      ((Itr 0 400).stop i' H ∧ Qd H) ∨ ((Itr 0 400).go i' H ∧ ∃ Nx : Hp → Prop, (∀ H', Nx H' → ∃ m', m' < m ∧ W (i' + 1) m' H') ∧ ∀ x H', (Itr 0 400).yld i' H x H' → gName 10 x (wipe σ [10]) H' fun σ2 H2 => wipe σ2 [10] = wipe σ [10] ∧ (tTest (tOp (rIn K true) (tOp rCatS (tVar 5) (tCB rStrI (tCons (tVar 10) tNil))) (tVar 1))) σ2 H2 fun b H3 =>
        if b = true then (tOp rCatS (tVar 5) (tCB rStrI (tCons (tVar 10) tNil))) σ2 H3 fun y H4 => ∃ acc, H4 D = some (.lst acc) ∧ acc.length < sizeLine ∧ Nx (upd H4 D (.lst (acc ++ [y]))) else Nx H3) := by
  have ne : t ≠ D := ne_of_none et hD
  refine lc_it (walk_range (lo := 0) (n := 400)) (fun i H' => Go T [] H H' ∧ ∃ ys : List Str, H' D = some (.lst (ys.map V.str)) ∧ ys.length ≤ i ∧ (∀ y ∈ ys, nmOk y) ∧ (ys = [] → ∀ j, j < i → hd ++ Str.ofString (toString (j : Int)) ∈ xs)) ⟨Go.new hD, [], upd_same, Nat.le_refl _, by simp, fun _ j hj => absurd hj (Nat.not_lt_zero _)⟩ (fun _ _ _ _ => trivial) (fun i x H4 H5 hi h y => ?_) (fun H4 h => ?_)
  · obtain ⟨gg, ys, ey, ly, hy, hn⟩ := h
    obtain ⟨rfl, rfl⟩ := y
    have ez : (0 : Int) + (i : Int) = (i : Int) := Int.zero_add _
    have so := str_ok hi
    have lg : ((0 : Int) + (i : Int)).natAbs.log2 < 1920 := by
      rw [ez, Int.natAbs_natCast]
      have : i.log2 ≤ i := Nat.log2_le_self i
      omega
    refine ⟨hw _, _, h5 _, _, h10 _, _, rfl, lg, hd, _, rfl, rfl, ?_, _, h1 _, t, _, rfl, .inl (SqL.of (gg.lst et List.not_mem_nil)), rfl, flat_strs _, _, rfl, ?_⟩
    · show hd.length + (Str.ofString (toString ((0 : Int) + (i : Int)))).length ≤ sizeLine
      rw [ez, sizeLine_eq]
      omega
    show if (!inV (.str (hd ++ Str.ofString (toString ((0 : Int) + (i : Int))))) (xs.map V.str)) = true then _ else _
    rw [inV_strs, ez]
    by_cases c : hd ++ Str.ofString (toString (i : Int)) ∈ xs
    · rw [decide_eq_true c]
      refine iteF ⟨gg, ys, ey, by omega, hy, fun z j hj => ?_⟩
      by_cases e : j = i
      · rw [e]; exact c
      · exact hn z j (by omega)
    · rw [decide_eq_false c]
      refine iteT ⟨_, h5 _, _, h10 _, _, rfl, lg, hd, _, rfl, rfl, ?_, ys.map V.str, ey, by rw [List.length_map, sizeLine_eq]; omega, gg.over hD ey (fun _ z => by cases z), ys ++ [hd ++ Str.ofString (toString (i : Int))], ?_, by rw [List.length_append, List.length_singleton]; omega, fun y hy' => ?_, fun z => by simp at z⟩
      · show hd.length + (Str.ofString (toString ((0 : Int) + (i : Int)))).length ≤ sizeLine
        rw [ez, sizeLine_eq]
        omega
      · rw [upd_same, List.map_append, ez] <;> rfl
      · rcases List.mem_append.mp hy' with z | z
        · exact hy y z
        · rw [List.mem_singleton.mp z]
          refine ⟨asc_add hh so.1, ?_, ?_⟩ <;> rw [strLen_append] <;> omega
  · obtain ⟨gg, ys, ey, ly, hy, hn⟩ := h
    cases ys with
    | nil =>
      obtain ⟨i, hi, hni⟩ := pigeon (hd := hd) hx
      exact absurd (hn rfl i (by omega)) hni
    | cons y r => exact hq H4 y (r.map V.str) gg ey (hy y List.mem_cons_self)
end
end K1
set_option Elab.async false
set_option linter.all false
set_option maxRecDepth 100000
set_option maxHeartbeats 8000000
namespace K1
open PySem PySem.Spec PyProof.Rows L2 GxR NdefX GA SL
section
variable {P : Program} {w : World} {K : PySem.W.Frag} {mg : Str → Option Value} {base : Heap} {f c CK CN CT CR : Addr} {fd : FuncData} {T : List Addr}
theorem ok_law_name (F : Fun K "_law_name" "_law_name" s_law_name f fd) (B : Bl mg) (Fd : Fnn P w K mg base CX0 1 "_law_draw" ["well", "many"] (sp_draw T)) : FnOk P w K mg base CX0 2 f fd ["well", "taken", "high"] (sp_name T) := by
  have nd := sc_law_name.nd
  refine F.ok sc_law_name (fun vs H Q E h => ?_) (fun cdv A outer s H vs Q E hr h => ?_)
  · obtain ⟨_, _, _, _, _, rfl, _⟩ := h
    rfl
  obtain ⟨a, l, t, k, xs, rfl, hk, W, ta, tl, et, hx, lx, ht, q⟩ := h
  have hu : (A.deeper (envOfC "_law_name" (defScope s_law_name) s.heap.objs.size f cdv)).units < cLine := by
    have := hr.un
    omega
  refine ⟨_, (pss_cons (ps_set (i := 3) nd rfl (Or.inl rfl) pe_str)
    (pss_cons (ps_set (i := 4) nd rfl (Or.inr rfl) (pe_op op_add_str (pe_op op_add_str (pv 3) (pe_upper (pv 3))) pe_str))
    (pss_cons (ps_set (i := 5) nd rfl (Or.inr rfl) (pe_ix ix_str (pv 3) (pe_fn Fd hr (by decide) pass0 (pa_cons (pv 0) (pa_cons pe_int pa_nil))) (fun _ _ => rfl)))
    (pss_cons (ps_set (i := 6) nd rfl (Or.inl rfl) (pe_join pe_str (pe_lc (own := [("k", 10)]) (g := gName 10) (tt := tYes)  rfl nd (pi_range1 rfl B.range (pa_cons (pe_fn Fd hr (by decide) pass0 (pa_cons (pv 0) (pa_cons (pe_ix ix_list (pe_lst (pa_cons pe_int (pa_cons pe_int (pa_cons pe_int pa_nil)))) (pe_fn Fd hr (by decide) pass0 (pa_cons (pv 0) (pa_cons pe_int pa_nil))) (fun _ _ => rfl)) pa_nil))) pa_nil)) (blkOk_by (own := [("k", 10)]) (N := ["well", "taken", "high", "low", "signs", "head", "body", "old", "at", "found", "k"]) (sc := defScope s_law_name) (by decide +kernel))
        (fun _ _ _ _ _ => (pg_name (i := 10) nd rfl (Or.inl rfl))) (fun _ _ _ _ _ => pts_nil) (fun _ _ _ _ _ => (pe_ix ix_str (pv 4) (pe_fn Fd hr (by decide) pass0 (pa_cons (pv 0) (pa_cons pe_int pa_nil))) (fun _ _ => rfl))))))
    (pss_cons (ps_if (PW.pt (pw_and (pt_cmpR (op_neNil hu) (pv 1) (pe_lst pa_nil) (nomark _)) (pw_and1 (pt_cmpR op_eq (pe_fn Fd hr (by decide) pass0 (pa_cons (pv 0) (pa_cons pe_int pa_nil))) pe_int (nomark _))))) (pss_cons (ps_set (i := 7) nd rfl (Or.inl rfl) (pe_ix ix_list (pv 1) (pe_fn Fd hr (by decide) pass0 (pa_cons (pv 0) (pa_cons (pe_lenq B (pv 1)) pa_nil))) (fun _ _ => rfl)))
    (pss_cons (ps_set (i := 8) nd rfl (Or.inl rfl) (pe_op op_add pe_int (pe_fn Fd hr (by decide) pass0 (pa_cons (pv 0) (pa_cons (pe_lens B (pv 7)) pa_nil)))))
    (pss_cons (ps_set (i := 5) nd rfl (Or.inr rfl) (pe_lower (pe_ix ix_str (pv 7) pe_int (fun _ _ => rfl))))
    (pss_one (ps_set (i := 6) nd rfl (Or.inl rfl) (pe_slice sl_str (pe_op op_add_str (pe_op op_add_str (pe_slice sl_str (pv 7) po_none (po_some (pv 8))) (pe_ix ix_list (pe_lst (pa_cons pe_str (pa_cons (pe_ix ix_str (pv 4) (pe_fn Fd hr (by decide) pass0 (pa_cons (pv 0) (pa_cons pe_int pa_nil))) (fun _ _ => rfl)) pa_nil))) (pe_fn Fd hr (by decide) pass0 (pa_cons (pv 0) (pa_cons pe_int pa_nil))) (fun _ _ => rfl))) (pe_slice sl_str (pv 7) (po_some (pe_op op_add (pv 8) (pe_fn Fd hr (by decide) pass0 (pa_cons (pv 0) (pa_cons pe_int pa_nil))))) po_none)) (po_some pe_int) (po_some pe_int))))))) pss_nil)
    (pss_cons (ps_if (pt_val (pv 2)) (pss_one (ps_set (i := 5) nd rfl (Or.inr rfl) (pe_upper (pv 5)))) pss_nil)
    (pss_cons (ps_set (i := 9) nd rfl (Or.inl rfl) (pe_op op_add_str (pv 5) (pv 6)))
    (pss_cons (ps_if (PW.pt (pw_or (pt_cmpR op_in_seq (pv 9) (pv 1) rfl) (pw_or1 (pt_cmpR op_in_seq (pv 9) (pe_tup (pa_cons pe_str (pa_cons pe_str (pa_cons pe_str pa_nil)))) rfl)))) (pss_one (ps_set (i := 9) nd rfl (Or.inl rfl) (pe_ix ix_list (pe_lc (own := [("k", 10)]) (g := gName 10) (tt := (tTest (tOp (rIn K true) (tOp rCatS (tVar 5) (tCB rStrI (tCons (tVar 10) tNil))) (tVar 1)))) (te := tOp rCatS (tVar 5) (tCB rStrI (tCons (tVar 10) tNil))) rfl nd (pi_range1 rfl B.range (pa_cons pe_int pa_nil)) (blkOk_by (own := [("k", 10)]) (N := ["well", "taken", "high", "low", "signs", "head", "body", "old", "at", "found", "k"]) (sc := defScope s_law_name) (by decide +kernel))
        (fun _ _ _ _ _ => (pg_name (i := 10) nd rfl (Or.inl rfl))) (fun _ _ _ _ _ => pts_one (pt_cmpR op_notIn_seq (pe_op op_add_str (pv 5) (pe_strI B (pv 10))) (pv 1) rfl)) (fun _ _ _ _ _ => (pe_op op_add_str (pv 5) (pe_strI B (pv 10))))) pe_int (fun _ _ => rfl)))) pss_nil)
    (pss_one (ps_ret (pv 9))))))))))), ?_⟩
  have nn : ∀ b : Addr, b ∉ ([] : List Addr) := fun b => List.not_mem_nil
  have eS : (low26 ++ up26) ++ "0123456789" = an62 := rfl
  have a26 : asc low26 = true := by decide +kernel
  have a62 : asc an62 = true := by decide +kernel
  refine ⟨_, rfl, _, rfl, ⟨_, rfl⟩, low26, rfl, rfl, by decide +kernel, ?_⟩
  rw [upper26]
  refine ⟨low26, up26, rfl, rfl, by decide +kernel, low26 ++ up26, "0123456789", rfl, rfl, by decide +kernel, ?_⟩
  refine ⟨_, rfl, _, rfl, a, l, k, 26, rfl, by decide, by decide, by omega, W, ht, fun i1 H1 i10 i11 W1 g1 t1 => ?_⟩
  obtain ⟨h0, eh0, mh0⟩ := at_ok (xs := low26.cps.toList) i10 (by exact i11)
  refine ⟨low26, i1, h0, rfl, rfl, by decide +kernel, eh0, ?_⟩
  refine ⟨⟨_, rfl⟩, _, rfl, by show 3 ≤ sizeLine; decide, fun p1 hp1 => ?_⟩
  have gp1 := Go.new (T := T) (M := [a, l]) (o := .lst [.int 2, .int 4, .int 10]) hp1
  have gp1' := Go.new (T := T) (M := []) (o := .lst [.int 2, .int 4, .int 10]) hp1
  refine ⟨_, rfl, a, l, k + 1, 3, rfl, by decide, by decide, by omega, W1.go gp1', gp1.tb t1, fun i2 H2 i20 i21 W2 g2 t2 => ?_⟩
  obtain ⟨m, em, m0, m1⟩ := at3 i20 i21
  refine ⟨p1, _, i2, _, rfl, rfl, SqL.of (g2.lst upd_same (nin (W1.ne hp1))), em, a, l, k + 1 + 1, m, rfl, by omega, by omega, by omega, W2, t2, fun i3 H3 i30 i31 W3 g3 t3 => ?_⟩
  have G3 : Go T [a, l] H H3 := ((g1.trans gp1).trans g2).trans g3
  refine ⟨i3, rfl, by omega, by omega, fun D hD => ?_⟩
  have nD : D ∉ [a, l] := nin (W3.ne hD)
  have gD := Go.new (T := T) (M := []) (o := .lst []) hD
  refine lc_it (walk_range (lo := 0) (n := i3.toNat)) (fun i H' => Go T [a, l] H3 H' ∧ WellAt a l H' (k + 3 + i) ∧ ∃ ys : List Str, H' D = some (.lst (ys.map V.str)) ∧ ys.length = i ∧ ∀ y ∈ ys, y.length ≤ 1 ∧ asc y = true) ⟨Go.new hD, (W3.go gD).up (by omega), [], upd_same, rfl, by simp⟩ (fun _ _ _ _ => trivial) (fun i x H4 H5 hi h y => ?_) (fun H4 h => ?_)
  · obtain ⟨gg, W4, ys, ey, ly, hy⟩ := h
    obtain ⟨rfl, rfl⟩ := y
    refine ⟨rfl, _, rfl, _, rfl, a, l, k + 3 + i, 62, rfl, by decide, by decide, by omega, W4, gg.tb t3, fun i5 H5 j0 j1 W5 g5 t5 => ?_⟩
    obtain ⟨c5, ec5, mc5⟩ := at_ok (xs := an62.cps.toList) j0 (by exact j1)
    have e5 := g5.lst ey nD
    refine ⟨an62, i5, c5, rfl, rfl, by decide +kernel, ec5, ys.map V.str, e5, by rw [List.length_map, sizeLine_eq]; omega, (gg.trans g5).over hD e5 (fun _ z => by cases z), ?_, ys ++ [⟨#[c5]⟩], by rw [upd_same, List.map_append] <;> rfl, by rw [List.length_append, ly] <;> rfl, fun y hy' => ?_⟩
    · obtain ⟨ns, s1, c1, w1, w2, w3, w4, w5, w6, w7⟩ := W5
      have n1 : a ≠ D := fun z => nD (by simp [z])
      have n2 : l ≠ D := fun z => nD (by simp [z])
      exact ⟨ns, s1, c1, w1, by rw [upd_ne n1]; exact w2, by rw [upd_ne n2]; exact w3, w4, w5, w6, by omega⟩
    · rcases List.mem_append.mp hy' with z | z
      · exact hy y z
      · rw [List.mem_singleton.mp z]
        exact ⟨Nat.le_refl _, asc_one a62 mc5⟩
  obtain ⟨gg, W4, ys, ey, ly, hy⟩ := h
  have hj := join_ones hy
  have G4 := G3.trans gg
  have t4 := gg.tb t3
  have sm : (ys.map (fun x : Str => x.length)).sum ≤ ys.length := by
    clear ey ly hj
    induction ys with
    | nil => simp
    | cons y r ih =>
      have h1 := (hy y List.mem_cons_self).1
      have h2 := ih fun z hz => hy z (List.mem_cons_of_mem _ hz)
      rw [List.map_cons, List.sum_cons, List.length_cons]
      omega
  refine ⟨⟨#[]⟩, D, ys, rfl, rfl, .inl (SqL.of ey), by show _ + _ * 0 ≤ _; omega, ?_⟩
  rw [SL.join_nil]
  have W4 : WellAt a l H4 (k + 13) := W4.up (by omega)
  have eT4 : H4 t = some (.lst (xs.map V.str)) := G4.lst et (nin ⟨ta, tl⟩)
  refine ⟨_, rfl, by show 0 ≤ sizeLine; omega, fun p2 hp2 => ?_⟩
  have gq := Go.new (T := T) (M := []) (o := .lst []) hp2
  have G5 : Go T [a, l] H (upd H4 p2 (.lst [])) := G4.trans gq.of0
  have eT5 := gq.lst eT4 (nn _)
  have W5 := W4.go gq
  have hbd : asc (Str.join ⟨#[]⟩ ys) = true ∧ (Str.join ⟨#[]⟩ ys).length ≤ 10 := ⟨hj.2, by omega⟩
  have hhd : asc (⟨#[h0]⟩ : Str) = true ∧ (⟨#[h0]⟩ : Str).length = 1 := ⟨asc_one a26 mh0, rfl⟩
  refine ⟨t, p2, xs.map V.str, rfl, rfl, .inl ⟨SqL.of eT5, SqL.of upd_same⟩, _, rfl, ?_⟩
  by_cases hne : xs = []
  · rw [show (xs.map V.str).isEmpty = true by rw [hne] <;> rfl]
    refine iteF (iteF ?_)
    refine ⟨_, rfl, _, rfl, iteT ?_⟩
    have l2 : ((Str.join ⟨#[]⟩ ys)).length ≤ 10 := (hbd).2
    have hu1 : asc (Txt.upper (⟨#[h0]⟩ : Str)) = true ∧ (Txt.upper (⟨#[h0]⟩ : Str)).length = 1 := ⟨(up_len (hhd).1).2, by rw [(up_len (hhd).1).1]; exact (hhd).2⟩
    refine ⟨_, rfl, ⟨_, rfl⟩, (⟨#[h0]⟩ : Str), rfl, rfl, by rw [(hhd).2]; decide, ?_⟩
    generalize Txt.upper (⟨#[h0]⟩ : Str) = U at hu1 ⊢
    refine ⟨_, rfl, _, rfl, U, (Str.join ⟨#[]⟩ ys), rfl, rfl, by rw [sizeLine_eq]; omega, ?_⟩
    refine ⟨_, rfl, _, rfl, t, _, rfl, .inl (SqL.of eT5), rfl, flat_strs _, _, rfl, ?_⟩
    rw [inV_strs]
    by_cases k1 : U ++ (Str.join ⟨#[]⟩ ys) ∈ xs
    · rw [decide_eq_true k1]
      refine iteT ?_
      refine ⟨400, rfl, by decide, by decide, fun D9 hD9 => lc_pick (T := T) (hd := U) (xs := xs) (t := t) eT5 lx (hu1).1 (hu1).2 hD9 (fun _ => rfl) (fun _ => rfl) (fun _ => rfl) (fun _ => rfl) (fun H9 y9 ys9 g9 e9 hy9 => ?_)⟩
      exact ⟨D9, _, 0, .str y9, rfl, rfl, SqL.of e9, atI_nat (j := 0) rfl, _, rfl, q y9 H9 hy9 (((W5).go g9).up (by omega)) ((G5).trans g9.of0) (((G5).trans g9.of0).tb ht)⟩
    · rw [decide_eq_false k1]
      refine iteF ?_
      refine ⟨_, rfl, by show 3 ≤ sizeLine; decide, fun p8 hp8 => ⟨p8, ([("fun" : Str), "kind", "number"]).map V.str, rfl, .inr (SqT.of upd_same), rfl, flat_strs _, _, rfl, ?_⟩⟩
      have g8 := Go.new (T := T) (M := []) (o := .tup [.str "fun", .str "kind", .str "number"]) hp8
      have e8 := g8.lst eT5 (nn _)
      have W8 := (W5).go g8
      have G8 := (G5).trans g8.of0
      rw [inV_strs]
      by_cases k2 : U ++ (Str.join ⟨#[]⟩ ys) ∈ [("fun" : Str), "kind", "number"]
      · rw [decide_eq_true k2]
        refine iteT ?_
        refine ⟨400, rfl, by decide, by decide, fun D9 hD9 => lc_pick (T := T) (hd := U) (xs := xs) (t := t) e8 lx (hu1).1 (hu1).2 hD9 (fun _ => rfl) (fun _ => rfl) (fun _ => rfl) (fun _ => rfl) (fun H9 y9 ys9 g9 e9 hy9 => ?_)⟩
        exact ⟨D9, _, 0, .str y9, rfl, rfl, SqL.of e9, atI_nat (j := 0) rfl, _, rfl, q y9 H9 hy9 (((W8).go g9).up (by omega)) ((G8).trans g9.of0) (((G8).trans g9.of0).tb ht)⟩
      · rw [decide_eq_false k2]
        refine iteF ?_
        exact ⟨_, rfl, q _ _ ⟨asc_add hu1.1 (hbd).1, by rw [strLen_append]; omega, by rw [strLen_append]; omega⟩ (W8.up (by omega)) G8 (G8.tb ht)⟩
  · rw [show (xs.map V.str).isEmpty = false by cases xs with | nil => exact absurd rfl hne | cons _ _ => rfl]
    refine iteT ?_
    refine ⟨_, rfl, a, l, k + 13, 2, rfl, by decide, by decide, by omega, W5, G5.tb ht, fun i6 H6 j0 j1 W6 g6 t6 => ⟨rfl, _, rfl, ?_⟩⟩
    have G6 := G5.trans g6
    have eT6 : H6 t = some (.lst (xs.map V.str)) := G6.lst et (nin ⟨ta, tl⟩)
    by_cases h6 : i6 = 0
    · refine if_true_of (decide_eq_true (by rw [h6])) ?_
      have xpos : 0 < xs.length := List.length_pos_iff.mpr hne
      refine ⟨_, rfl, _, rfl, _, rfl, t, _, rfl, .inl (SqL.of eT6), a, l, k + 13 + 1, _, rfl, by rw [List.length_map]; omega, by rw [List.length_map]; omega, by omega, W6, t6, fun i7 H7 j70 j71 W7 g7 t7 => ?_⟩
      obtain ⟨vo, eo, mo⟩ := at_ok j70 j71
      obtain ⟨old, hold, rfl⟩ := List.mem_map.mp mo
      have oo := hx old hold
      have G7 := G6.trans g7
      have eT7 : H7 t = some (.lst (xs.map V.str)) := G7.lst et (nin ⟨ta, tl⟩)
      refine ⟨t, _, i7, _, rfl, rfl, SqL.of eT7, eo, ?_⟩
      have lo : old.length ≤ sizeLine := by rw [sizeLine_eq]; have := oo.2.2; omega
      refine ⟨_, rfl, _, rfl, old, rfl, lo, a, l, k + 13 + 1 + 1, _, rfl, by have := oo.2.1; omega, by have := oo.2.2; omega, by omega, W7, t7, fun i8 H8 j80 j81 W8 g8 t8 => ⟨_, _, rfl, rfl, ?_⟩⟩
      obtain ⟨c0, r0, e0⟩ := cons_of_len oo.2.1
      have a0 : asc (⟨#[c0]⟩ : Str) = true := asc_one oo.1 (by rw [e0]; exact List.mem_cons_self)
      refine ⟨_, rfl, old, 0, c0, rfl, rfl, lo, (by rw [e0]; exact atI_nat (j := 0) rfl), ⟨_, rfl⟩, ⟨#[c0]⟩, rfl, rfl, (show 1 ≤ 5592405 by decide), ?_⟩
      have hlo := lo_len a0
      refine ⟨_, rfl, _, rfl, _, rfl, old, rfl, lo, _, rfl, _, rfl, a, l, k + 13 + 1 + 1 + 1, 62, rfl, by decide, by decide, by omega, W8, t8, fun i9 H9 j90 j91 W9 g9 t9 => ?_⟩
      obtain ⟨c9, ec9, mc9⟩ := at_ok (xs := an62.cps.toList) j90 (by exact j91)
      refine ⟨an62, i9, c9, rfl, rfl, by decide +kernel, ec9, by show 2 ≤ sizeLine; decide, fun p9 hp9 => ?_⟩
      have gp9 := Go.new (T := T) (M := []) (o := .lst [.str "", .str ⟨#[c9]⟩]) hp9
      refine ⟨_, rfl, a, l, k + 13 + 1 + 1 + 1 + 1, 2, rfl, by decide, by decide, by omega, W9.go gp9, gp9.tb t9, fun i10 H10 j100 j101 W10 g10 t10 => ?_⟩
      obtain ⟨z, ez, az, lz⟩ := at2 (p := fun z => asc z = true ∧ z.length ≤ 1) j100 j101 (x := "") (y := ⟨#[c9]⟩) ⟨rfl, by decide⟩ ⟨asc_one a62 mc9, Nat.le_refl _⟩
      refine ⟨p9, _, i10, _, rfl, rfl, SqL.of (g10.lst upd_same (nin (W9.ne hp9))), ez, ?_⟩
      have lc1 := len_cut old none (some (1 + i8))
      refine ⟨_, _, rfl, rfl, by rw [sizeLine_eq]; have := oo.2.2; omega, ?_⟩
      refine ⟨_, rfl, _, rfl, _, rfl, a, l, k + 13 + 1 + 1 + 1 + 1 + 1, 2, rfl, by decide, by decide, by omega, W10, t10, fun i11 H11 j110 j111 W11 g11 t11 => ⟨_, _, rfl, rfl, _, rfl, old, rfl, lo, ?_⟩⟩
      have lc2 := len_cut old (some (1 + i8 + i11)) none
      have lc3 : (cutS old none (some (1 + i8)) ++ z).length ≤ 12 := by rw [strLen_append]; have := oo.2.2; omega
      have lc4 : ((cutS old none (some (1 + i8)) ++ z) ++ cutS old (some (1 + i8 + i11)) none).length ≤ 23 := by rw [strLen_append]; have := oo.2.2; omega
      refine ⟨_, _, rfl, rfl, by rw [sizeLine_eq]; have := oo.2.2; omega, _, rfl, _, rfl, _, rfl, by rw [sizeLine_eq]; omega, ?_⟩
      have G11 := (((((G7.trans g8).trans g9).trans gp9.of0).trans g10).trans g11)
      have eT11 : H11 t = some (.lst (xs.map V.str)) := G11.lst et (nin ⟨ta, tl⟩)
      have hbd2 : asc (cutS ((cutS old none (some (1 + i8)) ++ z) ++ cutS old (some (1 + i8 + i11)) none) (some 1) (some 10)) = true ∧ (cutS ((cutS old none (some (1 + i8)) ++ z) ++ cutS old (some (1 + i8 + i11)) none) (some 1) (some 10)).length ≤ 10 :=
        ⟨asc_cut (asc_add (asc_add (asc_cut oo.1 _ _) az) (asc_cut oo.1 _ _)) _ _, by have := len_cut9 ((cutS old none (some (1 + i8)) ++ z) ++ cutS old (some (1 + i8 + i11)) none); omega⟩
      have hhd2 : asc (Txt.lower ⟨#[c0]⟩) = true ∧ (Txt.lower ⟨#[c0]⟩).length = 1 := ⟨hlo.2, hlo.1⟩
      generalize Txt.lower ⟨#[c0]⟩ = X at hhd2 ⊢
      generalize cutS ((cutS old none (some (1 + i8)) ++ z) ++ cutS old (some (1 + i8 + i11)) none) (some 1) (some 10) = Y at hbd2 ⊢
      refine ⟨_, rfl, _, rfl, iteT ?_⟩
      have l2 : (Y).length ≤ 10 := (hbd2).2
      have hu1 : asc (Txt.upper X) = true ∧ (Txt.upper X).length = 1 := ⟨(up_len (hhd2).1).2, by rw [(up_len (hhd2).1).1]; exact (hhd2).2⟩
      refine ⟨_, rfl, ⟨_, rfl⟩, X, rfl, rfl, by rw [(hhd2).2]; decide, ?_⟩
      generalize Txt.upper X = U at hu1 ⊢
      refine ⟨_, rfl, _, rfl, U, Y, rfl, rfl, by rw [sizeLine_eq]; omega, ?_⟩
      refine ⟨_, rfl, _, rfl, t, _, rfl, .inl (SqL.of eT11), rfl, flat_strs _, _, rfl, ?_⟩
      rw [inV_strs]
      by_cases k1 : U ++ Y ∈ xs
      · rw [decide_eq_true k1]
        refine iteT ?_
        refine ⟨400, rfl, by decide, by decide, fun D9 hD9 => lc_pick (T := T) (hd := U) (xs := xs) (t := t) eT11 lx (hu1).1 (hu1).2 hD9 (fun _ => rfl) (fun _ => rfl) (fun _ => rfl) (fun _ => rfl) (fun H9 y9 ys9 g9 e9 hy9 => ?_)⟩
        exact ⟨D9, _, 0, .str y9, rfl, rfl, SqL.of e9, atI_nat (j := 0) rfl, _, rfl, q y9 H9 hy9 (((W11).go g9).up (by omega)) ((G11).trans g9.of0) (((G11).trans g9.of0).tb ht)⟩
      · rw [decide_eq_false k1]
        refine iteF ?_
        refine ⟨_, rfl, by show 3 ≤ sizeLine; decide, fun p8 hp8 => ⟨p8, ([("fun" : Str), "kind", "number"]).map V.str, rfl, .inr (SqT.of upd_same), rfl, flat_strs _, _, rfl, ?_⟩⟩
        have g8 := Go.new (T := T) (M := []) (o := .tup [.str "fun", .str "kind", .str "number"]) hp8
        have e8 := g8.lst eT11 (nn _)
        have W8 := (W11).go g8
        have G8 := (G11).trans g8.of0
        rw [inV_strs]
        by_cases k2 : U ++ Y ∈ [("fun" : Str), "kind", "number"]
        · rw [decide_eq_true k2]
          refine iteT ?_
          refine ⟨400, rfl, by decide, by decide, fun D9 hD9 => lc_pick (T := T) (hd := U) (xs := xs) (t := t) e8 lx (hu1).1 (hu1).2 hD9 (fun _ => rfl) (fun _ => rfl) (fun _ => rfl) (fun _ => rfl) (fun H9 y9 ys9 g9 e9 hy9 => ?_)⟩
          exact ⟨D9, _, 0, .str y9, rfl, rfl, SqL.of e9, atI_nat (j := 0) rfl, _, rfl, q y9 H9 hy9 (((W8).go g9).up (by omega)) ((G8).trans g9.of0) (((G8).trans g9.of0).tb ht)⟩
        · rw [decide_eq_false k2]
          refine iteF ?_
          exact ⟨_, rfl, q _ _ ⟨asc_add hu1.1 (hbd2).1, by rw [strLen_append]; omega, by rw [strLen_append]; omega⟩ (W8.up (by omega)) G8 (G8.tb ht)⟩
    · refine if_false_of (decide_eq_false fun z => h6 (V.int.inj z)) ?_
      refine ⟨_, rfl, _, rfl, iteT ?_⟩
      have l2 : ((Str.join ⟨#[]⟩ ys)).length ≤ 10 := (hbd).2
      have hu1 : asc (Txt.upper (⟨#[h0]⟩ : Str)) = true ∧ (Txt.upper (⟨#[h0]⟩ : Str)).length = 1 := ⟨(up_len (hhd).1).2, by rw [(up_len (hhd).1).1]; exact (hhd).2⟩
      refine ⟨_, rfl, ⟨_, rfl⟩, (⟨#[h0]⟩ : Str), rfl, rfl, by rw [(hhd).2]; decide, ?_⟩
      generalize Txt.upper (⟨#[h0]⟩ : Str) = U at hu1 ⊢
      refine ⟨_, rfl, _, rfl, U, (Str.join ⟨#[]⟩ ys), rfl, rfl, by rw [sizeLine_eq]; omega, ?_⟩
      refine ⟨_, rfl, _, rfl, t, _, rfl, .inl (SqL.of eT6), rfl, flat_strs _, _, rfl, ?_⟩
      rw [inV_strs]
      by_cases k1 : U ++ (Str.join ⟨#[]⟩ ys) ∈ xs
      · rw [decide_eq_true k1]
        refine iteT ?_
        refine ⟨400, rfl, by decide, by decide, fun D9 hD9 => lc_pick (T := T) (hd := U) (xs := xs) (t := t) eT6 lx (hu1).1 (hu1).2 hD9 (fun _ => rfl) (fun _ => rfl) (fun _ => rfl) (fun _ => rfl) (fun H9 y9 ys9 g9 e9 hy9 => ?_)⟩
        exact ⟨D9, _, 0, .str y9, rfl, rfl, SqL.of e9, atI_nat (j := 0) rfl, _, rfl, q y9 H9 hy9 (((W6).go g9).up (by omega)) ((G6).trans g9.of0) (((G6).trans g9.of0).tb ht)⟩
      · rw [decide_eq_false k1]
        refine iteF ?_
        refine ⟨_, rfl, by show 3 ≤ sizeLine; decide, fun p8 hp8 => ⟨p8, ([("fun" : Str), "kind", "number"]).map V.str, rfl, .inr (SqT.of upd_same), rfl, flat_strs _, _, rfl, ?_⟩⟩
        have g8 := Go.new (T := T) (M := []) (o := .tup [.str "fun", .str "kind", .str "number"]) hp8
        have e8 := g8.lst eT6 (nn _)
        have W8 := (W6).go g8
        have G8 := (G6).trans g8.of0
        rw [inV_strs]
        by_cases k2 : U ++ (Str.join ⟨#[]⟩ ys) ∈ [("fun" : Str), "kind", "number"]
        · rw [decide_eq_true k2]
          refine iteT ?_
          refine ⟨400, rfl, by decide, by decide, fun D9 hD9 => lc_pick (T := T) (hd := U) (xs := xs) (t := t) e8 lx (hu1).1 (hu1).2 hD9 (fun _ => rfl) (fun _ => rfl) (fun _ => rfl) (fun _ => rfl) (fun H9 y9 ys9 g9 e9 hy9 => ?_)⟩
          exact ⟨D9, _, 0, .str y9, rfl, rfl, SqL.of e9, atI_nat (j := 0) rfl, _, rfl, q y9 H9 hy9 (((W8).go g9).up (by omega)) ((G8).trans g9.of0) (((G8).trans g9.of0).tb ht)⟩
        · rw [decide_eq_false k2]
          refine iteF ?_
          exact ⟨_, rfl, q _ _ ⟨asc_add hu1.1 (hbd).1, by rw [strLen_append]; omega, by rw [strLen_append]; omega⟩ (W8.up (by omega)) G8 (G8.tb ht)⟩
end
end K1
set_option Elab.async false
set_option linter.all false
set_option maxRecDepth 100000
set_option maxHeartbeats 8000000
namespace SL
open PySem PySem.Spec PyProof.Rows L2 GxR NdefX GA
theorem pe_toTup {X : Cx} {a : Expr} {ta : TE} {p pos : Pos} (B : Bl X.mg) (ha : PE X a ta) (h1 : Gl X "tuple" := by rfl) (he : starEach (a :: []) X.env = (false, eval a X.env) :: starEach [] X.env := by rfl) : PE X (.Call (.Name "tuple" p) [a] [] pos) (tThen ta (kTup X.K)) := pe_tupleOf h1 B.tuple ha he
def rLenQ (K : PySem.W.Frag) : List V → Hp → VK → Prop := fun xs H Q => ∃ p ys, xs = [.ref p] ∧ (SqL K H p ys ∨ SqT K H p ys) ∧ Q (.int ys.length) H
/-- what is kept apart may be what is new -/
theorem Go.cut {T M M' : List Addr} {H H' : Hp} (g : Go T M' H H') (h : ∀ b ∈ M', b ∈ M ∨ H b = none) : Go T M H H' := ⟨fun b o e n t => g.gr b o e (fun z => (h b z).elim n fun w => by rw [e] at w; cases w) t, g.al, g.tb⟩
end SL
namespace K1
open PySem PySem.Spec PyProof.Rows L2 GxR NdefX GA SL
abbrev s_law_kinds : Stmt := top 54
theorem sc_law_kinds : FnScope ["well", "most", "titles", "makers", "found", "k", "title", "some", "maker", "sorts", "fields", "turn", "j", "field"] ["well", "most"] (defScope s_law_kinds) := ⟨rfl, rfl, rfl, by decide +kernel, rfl, by decide +kernel, by decide +kernel⟩
/-- what is drawn as kinds: a tuple that is not empty, not too great -/
def drawnOk (d : PyData) : Prop := ∃ x r, d = .tuple (x :: r) ∧ wt d ≤ 80000 ∧ nice 0 d = true ∧ d.depth ≤ 6
def sp_kindsL (T : List Addr) : Sp := fun vs H Q _ => ∃ (a l : Addr) (k most : Int), vs = [.ref a, .int most] ∧ 1 ≤ most ∧ most ≤ 6 ∧ k ≤ 274877906944 ∧ WellAt a l H k ∧ Tabs T H ∧
  ∀ v d H', Dv [a, l] H' v d → drawnOk d → WellAt a l H' (k + 10000) → Go T [a, l] H H' → Tabs T H' → Q v H'
theorem at346 {i : Int} (h0 : 0 ≤ i) (h1 : i < 3) : ∃ m : Int, atI [V.int 3, V.int 4, V.int 6] i = some (.int m) ∧ 3 ≤ m ∧ m ≤ 6 := by
  have : i = 0 ∨ i = 1 ∨ i = 2 := by omega
  rcases this with rfl | rfl | rfl
  · exact ⟨3, rfl, by decide, by decide⟩
  · exact ⟨4, rfl, by decide, by decide⟩
  · exact ⟨6, rfl, by decide, by decide⟩
theorem at012 {i : Int} (h0 : 0 ≤ i) (h1 : i < 6) : ∃ m : Int, atI [V.int 0, V.int 1, V.int 2, V.int 2, V.int 3, V.int 4] i = some (.int m) ∧ 0 ≤ m ∧ m ≤ 4 := by
  have : i = 0 ∨ i = 1 ∨ i = 2 ∨ i = 3 ∨ i = 4 ∨ i = 5 := by omega
  rcases this with rfl | rfl | rfl | rfl | rfl | rfl
  · exact ⟨0, rfl, by decide, by decide⟩
  · exact ⟨1, rfl, by decide, by decide⟩
  · exact ⟨2, rfl, by decide, by decide⟩
  · exact ⟨2, rfl, by decide, by decide⟩
  · exact ⟨3, rfl, by decide, by decide⟩
  · exact ⟨4, rfl, by decide, by decide⟩
/-- a sort of a field -/
def fdOk (x : Str) : Prop := asc x = true ∧ x.length ≤ 11
theorem strs_wt : ∀ {fs : List Str}, (∀ x ∈ fs, fdOk x) → wtAll (fs.map .str) ≤ 138 * fs.length ∧ niceAll 0 (fs.map .str) = true ∧ PyData.depthAll (fs.map .str) = 0
  | [], _ => ⟨by simp [wtAll], rfl, by simp [PyData.depthAll]⟩
  | x :: r, h => by
    have ih := strs_wt fun y hy => h y (List.mem_cons_of_mem _ hy)
    have hx := h x List.mem_cons_self
    refine ⟨?_, ?_, ?_⟩
    · have := hx.2
      rw [List.map_cons, List.length_cons]
      simp only [wtAll, wt]
      omega
    · rw [List.map_cons]
      simp only [niceAll, nice]
      rw [hx.1, ih.2.1] <;> rfl
    · rw [List.map_cons]
      simp only [PyData.depthAll, PyData.depth]
      rw [ih.2.2] <;> rfl
/-- a drawn maker; a drawn kind -/
def mkOk (d : PyData) : Prop := wt d ≤ 702 ∧ nice 0 d = true ∧ d.depth ≤ 2
def kdOk (d : PyData) : Prop := wt d ≤ 9000 ∧ nice 0 d = true ∧ d.depth ≤ 4
theorem WellAt.set {a l p : Addr} {H : Hp} {k : Int} {o : HO} (h : WellAt a l H k) (hp : p ≠ a ∧ p ≠ l) : WellAt a l (upd H p o) k := by
  obtain ⟨ns, s, c, h1, h2, h3, h4⟩ := h
  exact ⟨ns, s, c, h1, by rw [upd_ne hp.1.symm]; exact h2, by rw [upd_ne hp.2.symm]; exact h3, h4⟩
section
variable {P : Program} {w : World} {K : PySem.W.Frag} {mg : Str → Option Value} {base : Heap} {f c CK CN CT CR : Addr} {fd : FuncData} {T : List Addr}
theorem maker_ok {mk : Str} {fs : List Str} (hm : nmOk mk) (hf : ∀ x ∈ fs, fdOk x) (hl : fs.length ≤ 4) : mkOk (.tuple [.str mk, .tuple (fs.map .str)]) := by
  obtain ⟨h1, h2, h3⟩ := strs_wt hf
  refine ⟨?_, ?_, ?_⟩
  · rw [wt_pair, wt_tup]
    have := hm.2.2
    show 12 * mk.length + 4 + _ + 8 ≤ 702
    omega
  · simp only [nice, niceAll]
    rw [hm.1, h2] <;> rfl
  · simp only [PyData.depth, PyData.depthAll]
    rw [h3]
    decide
theorem all_bd {B D : Nat} : ∀ {ls : List PyData}, (∀ d ∈ ls, wt d ≤ B ∧ nice 0 d = true ∧ d.depth ≤ D) → wtAll ls ≤ (B + 2) * ls.length ∧ niceAll 0 ls = true ∧ PyData.depthAll ls ≤ D
  | [], _ => ⟨by simp [wtAll], rfl, by simp [PyData.depthAll]⟩
  | x :: r, h => by
    have ih := all_bd fun y hy => h y (List.mem_cons_of_mem _ hy)
    have hx := h x List.mem_cons_self
    refine ⟨?_, ?_, ?_⟩
    · have e : (B + 2) * (r.length + 1) = (B + 2) * r.length + (B + 2) := Nat.mul_succ _ _
      rw [List.length_cons, e]
      simp only [wtAll]
      have := hx.1
      have := ih.1
      omega
    · simp only [niceAll]
      rw [hx.2.1, ih.2.1] <;> rfl
    · simp only [PyData.depthAll]
      have := hx.2.2
      have := ih.2.2
      omega
theorem kind_ok {t : Str} {ls : List PyData} (ht : nmOk t) (h : ∀ d ∈ ls, mkOk d) (hl : ls.length ≤ 12) : kdOk (.tuple [.str t, .tuple ls]) := by
  obtain ⟨h1, h2, h3⟩ := all_bd h
  refine ⟨?_, ?_, ?_⟩
  · rw [wt_pair, wt_tup]
    have := ht.2.2
    show 12 * t.length + 4 + _ + 8 ≤ 9000
    omega
  · simp only [nice, niceAll]
    rw [ht.1, h2] <;> rfl
  · simp only [PyData.depth, PyData.depthAll]
    omega
theorem ok_law_kinds (F : Fun K "_law_kinds" "_law_kinds" s_law_kinds f fd) (B : Bl mg) (Fd : Fnn P w K mg base CX0 1 "_law_draw" ["well", "many"] (sp_draw T)) (Fn : Fnn P w K mg base CX0 2 "_law_name" ["well", "taken", "high"] (sp_name T)) : FnOk P w K mg base CX0 3 f fd ["well", "most"] (sp_kindsL T) := by
  have nd := sc_law_kinds.nd
  refine F.ok sc_law_kinds (fun vs H Q E h => ?_) (fun cdv A outer s H vs Q E hr h => ?_)
  · obtain ⟨_, _, _, _, rfl, _⟩ := h
    rfl
  obtain ⟨a, l, k, most, rfl, m1, m2, hk, W, ht, q⟩ := h
  refine ⟨_, (pss_cons (ps_par3 (i := 2) (j := 3) (k := 4) rfl nd rfl rfl rfl rfl rfl rfl (pa_cons (pe_lst pa_nil) (pa_cons (pe_lst pa_nil) (pa_cons (pe_lst pa_nil) pa_nil))) rfl)
    (pss_cons (ps_for PassesOwn.never rfl (pi_range1 rfl B.range (pa_cons (pe_op op_add pe_int (pe_fn Fd hr (by decide) pass0 (pa_cons (pv 0) (pa_cons (pv 1) pa_nil)))) pa_nil)) (pg_name (i := 5) nd rfl (Or.inl rfl))
    (pss_one (ps_expr (pe_bm PySem.F.plainAttrs_list PySem.F.slot_list_append PySem.F.type_list_append mt_append (pv 2) (pa_cons (pe_fn Fn hr (by decide) pass0 (pa_cons (pv 0) (pa_cons (pv 2) (pa_cons pe_bl pa_nil)))) pa_nil)))))
    (pss_cons (ps_for PassesOwn.never rfl (pi_list (pv 2)) (pg_name (i := 6) nd rfl (Or.inl rfl))
    (pss_cons (ps_set (i := 7) nd rfl (Or.inl rfl) (pe_lst pa_nil))
    (pss_cons (ps_for PassesOwn.never rfl (pi_range1 rfl B.range (pa_cons (pe_op op_add pe_int (pe_fn Fd hr (by decide) pass0 (pa_cons (pv 0) (pa_cons (pe_ix ix_list (pe_lst (pa_cons pe_int (pa_cons pe_int (pa_cons pe_int pa_nil)))) (pe_fn Fd hr (by decide) pass0 (pa_cons (pv 0) (pa_cons pe_int pa_nil))) (fun _ _ => rfl)) pa_nil)))) pa_nil)) (pg_name (i := 5) nd rfl (Or.inl rfl))
    (pss_cons (ps_set (i := 8) nd rfl (Or.inl rfl) (pe_fn Fn hr (by decide) pass0 (pa_cons (pv 0) (pa_cons (pv 3) (pa_cons pe_bl pa_nil)))))
    (pss_cons (ps_if (PW.pt (pw_and (pt_cmpR op_notIn_seq (pv 6) (pv 3) rfl) (pw_and1 (pt_cmpR op_eq (pe_fn Fd hr (by decide) pass0 (pa_cons (pv 0) (pa_cons pe_int pa_nil))) pe_int (nomark _))))) (pss_one (ps_set (i := 8) nd rfl (Or.inl rfl) (pv 6))) pss_nil)
    (pss_cons (ps_expr (pe_bm PySem.F.plainAttrs_list PySem.F.slot_list_append PySem.F.type_list_append mt_append (pv 3) (pa_cons (pv 8) pa_nil)))
    (pss_cons (ps_set (i := 9) nd rfl (Or.inr rfl) (pe_op op_cat (pv 2) (pe_lst (pa_cons pe_str pa_nil))))
    (pss_cons (ps_setLc (i := 10) (own := [("j", 12)]) (g := gName 12) (tt := tYes) (te := tOp (rIxL K) (tVar 9) (tCall (sp_draw T) [] E0 (tCons (tVar 0) (tCons (tCB (rLenQ K) (tCons (tVar 9) tNil)) tNil)))) rfl nd rfl rfl (sw_true rfl rfl rfl (by decide +kernel)) (pi_range1 rfl B.range (pa_cons (pe_ix ix_list (pe_lst (pa_cons pe_int (pa_cons pe_int (pa_cons pe_int (pa_cons pe_int (pa_cons pe_int (pa_cons pe_int pa_nil))))))) (pe_fn Fd hr (by decide) pass0 (pa_cons (pv 0) (pa_cons pe_int pa_nil))) (fun _ _ => rfl)) pa_nil)) (blkOk_by (own := [("j", 12)]) (N := ["well", "most", "titles", "makers", "found", "k", "title", "some", "maker", "sorts", "fields", "turn", "j", "field"]) (sc := defScope s_law_kinds) (by decide +kernel)) (fun _ _ _ _ _ => (pg_name (i := 12) nd rfl (Or.inl rfl))) (fun _ _ _ _ _ => pts_nil) (fun _ _ _ _ _ => (pe_ix ix_list (pv 9) (pe_fn Fd hr (by decide) pass0 (pa_cons (pv 0) (pa_cons (pe_lenq B (pv 9)) pa_nil))) (fun _ _ => rfl))))
    (pss_cons (ps_if (PW.pt (pw_and (pt_cmpR op_eq (pv 5) pe_int (nomark _)) (pw_and1 (pt_cmpR op_gt (pe_fn Fd hr (by decide) pass0 (pa_cons (pv 0) (pa_cons pe_int pa_nil))) pe_int (nomark _))))) (pss_one (ps_setLc (i := 10) (own := [("field", 13)]) (g := gName 13) (tt := tTest (tOp rEq (tVar 13) (tC (.str "number")))) rfl nd rfl rfl (sw_true rfl rfl rfl (by decide +kernel)) (pi_list (pv 10)) (blkOk_by (own := [("field", 13)]) (N := ["well", "most", "titles", "makers", "found", "k", "title", "some", "maker", "sorts", "fields", "turn", "j", "field"]) (sc := defScope s_law_kinds) (by decide +kernel)) (fun _ _ _ _ _ => (pg_name (i := 13) nd rfl (Or.inl rfl))) (fun _ _ _ _ _ => pts_one (pt_cmpR op_eq (pv 13) pe_str (nomark _))) (fun _ _ _ _ _ => pv 13))) pss_nil)
    (pss_one (ps_expr (pe_bm PySem.F.plainAttrs_list PySem.F.slot_list_append PySem.F.type_list_append mt_append (pv 7) (pa_cons (pe_tup (pa_cons (pv 8) (pa_cons (pe_toTup B (pv 10)) pa_nil))) pa_nil)))))))))))
    (pss_cons (ps_set (i := 11) nd rfl (Or.inl rfl) (pe_fn Fd hr (by decide) pass0 (pa_cons (pv 0) (pa_cons (pe_lenq B (pv 7)) pa_nil))))
    (pss_one (ps_expr (pe_bm PySem.F.plainAttrs_list PySem.F.slot_list_append PySem.F.type_list_append mt_append (pv 4) (pa_cons (pe_tup (pa_cons (pv 6) (pa_cons (pe_toTup B (pe_op op_cat (pe_slice sl_list (pv 7) (po_some (pv 11)) po_none) (pe_slice sl_list (pv 7) po_none (po_some (pv 11))))) pa_nil))) pa_nil))))))))
    (pss_one (ps_ret (pe_toTup B (pv 4))))))), ?_⟩
  refine ⟨by show 0 ≤ sizeLine; omega, fun tt ht1 => ⟨by show 0 ≤ sizeLine; omega, fun mm hm1 => ⟨by show 0 ≤ sizeLine; omega, fun ff hf1 => ⟨_, _, _, rfl, ?_⟩⟩⟩⟩
  have nn : ∀ b : Addr, b ∉ ([] : List Addr) := fun b => List.not_mem_nil
  have s1 := Go.new (T := T) (M := []) (o := .lst []) ht1
  have s2 := Go.new (T := T) (M := []) (o := .lst []) hm1
  have s3 := Go.new (T := T) (M := []) (o := .lst []) hf1
  have W1 := ((W.go s1).go s2).go s3
  have g0 : Go T [] H (upd (upd (upd H tt (.lst [])) mm (.lst [])) ff (.lst [])) := (s1.trans s2).trans s3
  have ett : upd (upd (upd H tt (.lst [])) mm (.lst [])) ff (.lst []) tt = some (.lst []) := s3.lst (s2.lst upd_same (nn _)) (nn _)
  have emm : upd (upd (upd H tt (.lst [])) mm (.lst [])) ff (.lst []) mm = some (.lst []) := s3.lst upd_same (nn _)
  have eff : upd (upd (upd H tt (.lst [])) mm (.lst [])) ff (.lst []) ff = some (.lst []) := upd_same
  have nt := W.ne ht1
  have nm := (W.go s1).ne hm1
  have nf := ((W.go s1).go s2).ne hf1
  have tm : tt ≠ mm := ne_of_none (upd_same (H := H)) hm1
  have tf : tt ≠ ff := ne_of_none (s2.lst (upd_same (H := H) (a := tt)) (nn _)) hf1
  have mf : mm ≠ ff := ne_of_none (upd_same (a := mm) (o := .lst [])) hf1
  have fresh : ∀ b ∈ [a, l, tt, mm, ff], b ∈ [a, l] ∨ H b = none := fun b hb => by
    simp only [List.mem_cons, List.not_mem_nil, or_false] at hb
    rcases hb with rfl | rfl | rfl | rfl | rfl
    · exact .inl (by simp)
    · exact .inl (by simp)
    · exact .inr ht1
    · exact .inr (upd_none hm1)
    · exact .inr (upd_none (upd_none hf1))
  generalize upd (upd (upd H tt (.lst [])) mm (.lst [])) ff (.lst []) = H1 at *
  refine ⟨_, rfl, _, rfl, a, l, k, most, rfl, by omega, by omega, by omega, W1, g0.tb ht, fun i1 H2 i10 i11 W2 g2 t2 => ⟨_, _, rfl, rfl, _, rfl, by omega, by omega, ?_⟩⟩
  have up2 : ∀ b ∈ [a, l], b ∈ [a, l, tt, mm, ff] := fun b hb => by
    simp only [List.mem_cons, List.not_mem_nil, or_false] at hb ⊢
    rcases hb with rfl | rfl <;> simp
  refine for_it (walk_range (lo := 0) (n := (1 + i1).toNat)) (fun i σ H' => ∃ (ts : List Str) (p : Option V), σ = [some (.ref a), some (.int most), some (.ref tt), some (.ref mm), some (.ref ff), p, none, none, none, none, none, none, none, none] ∧ Go T [a, l, tt, mm, ff] H H' ∧ WellAt a l H' (k + 1 + 30 * i) ∧ H' tt = some (.lst (ts.map V.str)) ∧ ts.length = i ∧ (∀ x ∈ ts, nmOk x) ∧ H' mm = some (.lst []) ∧ H' ff = some (.lst []))
    ⟨[], none, rfl, (g0.of0).trans (g2.more up2), W2.up (by omega), g2.lst ett (nin nt), rfl, by simp, g2.lst emm (nin nm), g2.lst eff (nin nf)⟩ (fun _ _ _ _ _ => trivial) (fun i x σ H3 H4 hi h y => ?_) (fun σ H3 h => ?_)
  · obtain ⟨ts, p, rfl, gg, W3, e1, l1, hx, e2, e3⟩ := h
    obtain ⟨rfl, rfl⟩ := y
    refine ⟨_, rfl, .inl ⟨rfl, _, SqL.of e1⟩, _, rfl, _, rfl, a, l, tt, k + 1 + 30 * i, ts, rfl, by omega, W3, nt.1, nt.2, e1, hx, by omega, gg.tb ht, fun x H5 hx5 W5 g5 t5 => ?_⟩
    have e5 := g5.lst e1 (nin nt)
    refine ⟨tt, _, _, rfl, rfl, e5, by rw [List.length_map, sizeLine_eq]; omega, ts ++ [x], _, rfl, ?_, ?_, by rw [upd_same, List.map_append] <;> rfl, by rw [List.length_append, l1] <;> rfl, ?_, ?_, ?_⟩
    · exact (gg.trans (g5.more up2)).trans (Go.set e5 (fun _ z => by cases z) (by simp))
    · obtain ⟨ns, s1, c1, w1, w2, w3, w4, w5, w6, w7⟩ := W5
      exact ⟨ns, s1, c1, w1, by rw [upd_ne nt.1.symm]; exact w2, by rw [upd_ne nt.2.symm]; exact w3, w4, w5, w6, by omega⟩
    · intro y hy
      rcases List.mem_append.mp hy with z | z
      · exact hx y z
      · rw [List.mem_singleton.mp z]; exact hx5
    · rw [upd_ne tm.symm]; exact g5.lst e2 (nin nm)
    · rw [upd_ne tf.symm]; exact g5.lst e3 (nin nf)
  obtain ⟨ts, p, rfl, gg, W3, e1, l1, hx, e2, e3⟩ := h
  have lts : ts.length ≤ 6 := by omega
  refine ⟨_, rfl, tt, rfl, ⟨_, SqL.of e1⟩, ?_⟩
  refine for_it (n := (ts.map V.str).length) walk_list (fun i σ H' => ∃ (ms : List Str) (vs : List V) (ds : List PyData) (p5 p6 p7 p8 p9 p10 p11 : Option V), σ = [some (.ref a), some (.int most), some (.ref tt), some (.ref mm), some (.ref ff), p5, p6, p7, p8, p9, p10, p11, none, none] ∧ Go T [a, l, tt, mm, ff] H H' ∧ WellAt a l H' (k + 200 + 800 * i) ∧
      H' tt = some (.lst (ts.map V.str)) ∧ H' mm = some (.lst (ms.map V.str)) ∧ ms.length ≤ 6 * i ∧ (∀ x ∈ ms, nmOk x) ∧ H' ff = some (.lst vs) ∧ DvAll [a, l, tt, mm, ff] H' vs ds ∧ ds.length = i ∧ ∀ d ∈ ds, kdOk d)
    ⟨[], [], [], p, none, none, none, none, none, none, rfl, gg, W3.up (by omega), e1, e2, by simp, by simp, e3, .nil, rfl, by simp⟩ (fun i σ H' _ ⟨_, _, _, _, _, _, _, _, _, _, _, _, _, e, _⟩ => SqL.of e) (fun i x σ H4 H5 hi h y => ?_) (fun σ H4 h => ?_)
  · obtain ⟨ms, vs, ds, p5, p6, p7, p8, p9, p10, p11, rfl, gg, W4, e1, e2, lm, hm, e3, dv, ld, hd⟩ := h
    obtain ⟨rfl, ex⟩ := y
    rw [List.getElem?_map] at ex
    obtain ⟨ti, ext, rfl⟩ := Option.map_eq_some_iff.mp ex
    have hti := hx ti (List.mem_of_getElem? ext)
    rw [List.length_map] at hi
    refine ⟨by show 0 ≤ sizeLine; omega, fun ss hss => ?_⟩
    have ns := W4.ne hss
    have st : tt ≠ ss := ne_of_none e1 hss
    have sm : mm ≠ ss := ne_of_none e2 hss
    have sf : ff ≠ ss := ne_of_none e3 hss
    have gs := Go.new (T := T) (M := []) (o := .lst []) hss
    refine ⟨_, rfl, by show 3 ≤ sizeLine; decide, fun q1 hq1 => ?_⟩
    have gq := Go.new (T := T) (M := []) (o := .lst [.int 3, .int 4, .int 6]) hq1
    have gsq := gs.trans gq
    have Wq := W4.go gsq
    refine ⟨_, rfl, a, l, k + 200 + 800 * i, 3, rfl, by decide, by decide, by omega, Wq, gsq.tb (gg.tb ht), fun i2 H6 j20 j21 W6 g6 t6 => ?_⟩
    obtain ⟨m, em, m3, m6⟩ := at346 j20 j21
    refine ⟨q1, _, i2, _, rfl, rfl, SqL.of (g6.lst upd_same (nin ((W4.go gs).ne hq1))), em, a, l, k + 200 + 800 * i + 1, m, rfl, by omega, by omega, by omega, W6, t6, fun i3 H7 j30 j31 W7 g7 t7 => ⟨_, _, rfl, rfl, _, rfl, by omega, by omega, ?_⟩⟩
    have g67 : Go T [a, l] _ H7 := g6.trans g7
    have e1s := g67.lst (gsq.lst e1 (nn _)) (nin nt)
    have e2s := g67.lst (gsq.lst e2 (nn _)) (nin nm)
    have e3s := g67.lst (gsq.lst e3 (nn _)) (nin nf)
    have ess := g67.lst (gq.lst (upd_same (H := H5) (a := ss) (o := .lst [])) (nn _)) (nin ns)
    have up6 : ∀ b ∈ [a, l], b ∈ [ss, a, l, tt, mm, ff] := fun b hb => List.mem_cons_of_mem _ (up2 b hb)
    have gT : Go T [ss, a, l, tt, mm, ff] H5 H7 := gsq.of0.trans (g67.more up6)
    refine for_it (walk_range (lo := 0) (n := (1 + i3).toNat)) (fun j σ H' => ∃ (ms : List Str) (ws : List V) (es : List PyData) (p5 p8 p9 p10 : Option V), σ = [some (.ref a), some (.int most), some (.ref tt), some (.ref mm), some (.ref ff), p5, some (.str ti), some (.ref ss), p8, p9, p10, p11, none, none] ∧ Go T [ss, a, l, tt, mm, ff] H5 H' ∧ WellAt a l H' (k + 200 + 800 * i + 2 + 60 * j) ∧
        H' tt = some (.lst (ts.map V.str)) ∧ H' mm = some (.lst (ms.map V.str)) ∧ ms.length ≤ 6 * i + j ∧ (∀ x ∈ ms, nmOk x) ∧ H' ff = some (.lst vs) ∧ H' ss = some (.lst ws) ∧ DvAll [ss, a, l, tt, mm, ff] H' ws es ∧ es.length = j ∧ ∀ d ∈ es, mkOk d)
      ⟨ms, [], [], p5, p8, p9, p10, rfl, gT, W7.up (by omega), e1s, e2s, by omega, hm, e3s, ess, .nil, rfl, by simp⟩ (fun _ _ _ _ _ => trivial) (fun j x σ H8 H9 hj h y => ?_) (fun σ H8 h => ?_)
    · obtain ⟨ms', ws, es, p5, p8, p9, p10, rfl, G8, W8, f1, f2, lms, hms, f3, f4, dw, les, hes⟩ := h
      obtain ⟨rfl, rfl⟩ := y
      have hl6 : (6 * i + j) ≤ 42 := by omega
      refine ⟨_, rfl, _, rfl, a, l, mm, k + 200 + 800 * i + 2 + 60 * j, ms', rfl, by omega, W8, nm.1, nm.2, f2, hms, by omega, G8.tb (gg.tb ht), fun xn H10 hxn W10 g10 t10 => ?_⟩
      have G10 := G8.trans (g10.more up6)
      have h1 := g10.lst f1 (nin nt)
      have h2 := g10.lst f2 (nin nm)
      have h3 := g10.lst f3 (nin nf)
      have h4 := g10.lst f4 (nin ns)
      have dw10 := dw.go (g10.more up6)
      refine ⟨_, rfl, _, rfl, mm, ms'.map V.str, rfl, .inl (SqL.of h2), rfl, flat_strs _, _, rfl, ?_⟩
      show if (!inV (.str ti) (ms'.map V.str)) = true then _ else _
      rw [inV_strs]
      by_cases hin : ti ∈ ms'
      · rw [decide_eq_true hin]
        refine iteF (iteF ?_)
        refine ⟨_, rfl, .inl ⟨rfl, _, SqL.of h2⟩, _, rfl, mm, _, _, rfl, rfl, h2, by rw [List.length_map, sizeLine_eq]; omega, ?_⟩
        have Ga := (G10).trans (Go.set (T := T) (M := [ss, a, l, tt, mm, ff]) (o := .lst (ms'.map V.str ++ [V.str xn])) h2 (fun _ z => by cases z) (by simp))
        have Wa := WellAt.set (o := .lst (ms'.map V.str ++ [V.str xn])) W10 nm
        have b1 : upd H10 mm (.lst (ms'.map V.str ++ [V.str xn])) tt = some (.lst (ts.map V.str)) := by rw [upd_ne tm]; exact h1
        have b2 : upd H10 mm (.lst (ms'.map V.str ++ [V.str xn])) mm = some (.lst ((ms' ++ [xn]).map V.str)) := by rw [upd_same, List.map_append] <;> rfl
        have b3 : upd H10 mm (.lst (ms'.map V.str ++ [V.str xn])) ff = some (.lst vs) := by rw [upd_ne mf.symm]; exact h3
        have b4 : upd H10 mm (.lst (ms'.map V.str ++ [V.str xn])) ss = some (.lst ws) := by rw [upd_ne sm.symm]; exact h4
        have dA := (dw10).go (Go.set (T := T) (M := [ss, a, l, tt, mm, ff]) (o := .lst (ms'.map V.str ++ [V.str xn])) h2 (fun _ z => by cases z) (by simp))
        refine ⟨_, rfl, by show 1 ≤ sizeLine; decide, fun r1 hr1 => ?_⟩
        have u1 := Go.new (T := T) (M := []) (o := .lst [.str "number"]) hr1
        refine ⟨tt, r1, _, _, rfl, rfl, u1.lst b1 (nn _), upd_same, by rw [List.length_map, sizeLine_eq]; show ts.length + 1 ≤ _; omega, fun r2 hr2 => ?_⟩
        have u2 := Go.new (T := T) (M := []) (o := .lst (ts.map V.str ++ [V.str "number"])) hr2
        refine ⟨by show 6 ≤ sizeLine; decide, fun r3 hr3 => ?_⟩
        have u3 := Go.new (T := T) (M := []) (o := .lst [.int 0, .int 1, .int 2, .int 2, .int 3, .int 4]) hr3
        have uu := (u1.trans u2).trans u3
        have Wb := Wa.go uu
        have Gb := Ga.trans uu.of0
        refine ⟨_, rfl, a, l, k + 200 + 800 * i + 2 + 60 * j + 31, 6, rfl, by decide, by decide, by omega, Wb.up (by omega), Gb.tb (gg.tb ht), fun i9 H12 j90 j91 W12 g12 t12 => ?_⟩
        obtain ⟨m9, em9, n9, m9'⟩ := at012 j90 j91
        refine ⟨r3, _, i9, _, rfl, rfl, SqL.of (g12.lst upd_same (nin ((Wa.go (u1.trans u2)).ne hr3))), em9, m9, rfl, by omega, by omega, fun D hD => ?_⟩
        have nD := W12.ne hD
        have er2 : H12 r2 = some (.lst (ts.map V.str ++ [V.str "number"])) := g12.lst (u3.lst upd_same (nn _)) (nin ((Wa.go u1).ne hr2))
        have nD2 : r2 ≠ D := ne_of_none er2 hD
        have all9 : ∀ v ∈ (ts.map V.str ++ [V.str "number"]), ∃ z, v = V.str z ∧ fdOk z := fun v hv => by
          rcases List.mem_append.mp hv with z | z
          · obtain ⟨y, hy, rfl⟩ := List.mem_map.mp z
            exact ⟨y, rfl, (hx y hy).1, (hx y hy).2.2⟩
          · rw [List.mem_singleton.mp z]
            exact ⟨"number", rfl, by decide +kernel, by decide +kernel⟩
        have G12 := Gb.trans (g12.more up6)
        have c1 := g12.lst (uu.lst b1 (nn _)) (nin nt)
        have c2 := g12.lst (uu.lst b2 (nn _)) (nin nm)
        have c3 := g12.lst (uu.lst b3 (nn _)) (nin nf)
        have c4 := g12.lst (uu.lst b4 (nn _)) (nin ns)
        have dC := (dA.go uu.of0).go (g12.more up6)
        refine lc_it (walk_range (lo := 0) (n := m9.toNat)) (fun i' H' => Go T [a, l] H12 H' ∧ WellAt a l H' (k + 200 + 800 * i + 2 + 60 * j + 32 + i') ∧ ∃ fs : List Str, H' D = some (.lst (fs.map V.str)) ∧ fs.length = i' ∧ ∀ x ∈ fs, fdOk x)
          ⟨Go.new hD, (W12.set nD).up (by omega), [], upd_same, rfl, by simp⟩ (fun _ _ _ _ => trivial) (fun i' x H13 H14 hi' h y => ?_) (fun H13 h => ?_)
        · obtain ⟨v1, v2, fs, v3, v4, v5⟩ := h
          obtain ⟨rfl, rfl⟩ := y
          have er := v1.lst er2 (nin ((Wa.go u1).ne hr2))
          refine ⟨rfl, _, rfl, _, rfl, _, rfl, r2, _, rfl, .inl (SqL.of er), a, l, k + 200 + 800 * i + 2 + 60 * j + 32 + i', _, rfl, by rw [List.length_append, List.length_singleton]; omega, by rw [List.length_append, List.length_map, List.length_singleton]; omega, by omega, v2, v1.tb t12, fun ib Hb jb0 jb1 Wb' gb tb => ?_⟩
          obtain ⟨vo, eo, mo⟩ := at_ok jb0 jb1
          obtain ⟨z, rfl, hz⟩ := all9 _ mo
          have v3' := gb.lst v3 (nin nD)
          refine ⟨r2, _, ib, _, rfl, rfl, SqL.of (gb.lst er (nin ((Wa.go u1).ne hr2))), eo, _, v3', by rw [List.length_map, sizeLine_eq]; omega, (v1.trans gb).over hD v3' (fun _ z => by cases z), (Wb'.set nD).up (by omega), fs ++ [z], by rw [upd_same, List.map_append] <;> rfl, by rw [List.length_append, v4] <;> rfl, fun x hx' => ?_⟩
          rcases List.mem_append.mp hx' with w | w
          · exact v5 x w
          · rw [List.mem_singleton.mp w]; exact hz
        · obtain ⟨v1, v2, fs, v3, v4, v5⟩ := h
          have lf4 : fs.length ≤ 4 := by omega
          have Gc := G12.trans (v1.more up6)
          have d1 := v1.lst c1 (nin nt)
          have d2 := v1.lst c2 (nin nm)
          have d3 := v1.lst c3 (nin nf)
          have d4 := v1.lst c4 (nin ns)
          have dD := dC.go (v1.more up6)
          refine ⟨_, rfl, rfl, _, rfl, ?_⟩
          by_cases hj0 : (0 : Int) + (j : Int) = 0
          · refine if_true_of (decide_eq_true (show V.int (0 + (j : Int)) = V.int 0 by rw [hj0])) ?_
            refine ⟨_, rfl, a, l, k + 200 + 800 * i + 2 + 60 * j + 36, 4, rfl, by decide, by decide, by omega, v2.up (by omega), v1.tb t12, fun ic Hc jc0 jc1 Wc gc tc => ⟨_, _, rfl, rfl, _, rfl, ?_⟩⟩
            have Gd := Gc.trans (gc.more up6)
            have w1 := gc.lst d1 (nin nt)
            have w2 := gc.lst d2 (nin nm)
            have w3 := gc.lst d3 (nin nf)
            have w4 := gc.lst d4 (nin ns)
            have dE := dD.go (gc.more up6)
            have eD := gc.lst v3 (nin nD)
            by_cases hc0 : (0 : Int) < ic
            · refine if_true_of (decide_eq_true hc0) ?_
              refine ⟨_, rfl, D, rfl, ⟨_, SqL.of eD⟩, fun D2 hD2 => ?_⟩
              refine lc_it walk_list (fun i' H' => Go T [] Hc H' ∧ ∃ gs : List Str, H' D2 = some (.lst (gs.map V.str)) ∧ gs.length ≤ i' ∧ ∀ x ∈ gs, fdOk x) ⟨Go.new hD2, [], upd_same, Nat.le_refl _, by simp⟩ (fun i' H' _ h => SqL.of (h.1.lst eD (nn _))) (fun i' x H15 H16 hi' h y => ?_) (fun H15 h => ?_)
              · obtain ⟨z1, gs, z2, z3, z4⟩ := h
                obtain ⟨rfl, ex⟩ := y
                rw [List.getElem?_map] at ex
                obtain ⟨xf, exf, rfl⟩ := Option.map_eq_some_iff.mp ex
                rw [List.length_map] at hi'
                refine ⟨rfl, _, rfl, rfl, _, rfl, ?_⟩
                show if decide _ = true then _ else _
                split
                · refine ⟨_, rfl, _, z2, by rw [List.length_map, sizeLine_eq]; omega, z1.over hD2 z2 (fun _ z => by cases z), gs ++ [xf], by rw [upd_same, List.map_append] <;> rfl, by rw [List.length_append, List.length_singleton]; omega, fun x hx' => ?_⟩
                  rcases List.mem_append.mp hx' with w | w
                  · exact z4 x w
                  · rw [List.mem_singleton.mp w]; exact v5 xf (List.mem_of_getElem? exf)
                · exact ⟨z1, gs, z2, by omega, z4⟩
              · obtain ⟨z1, gs, z2, z3, z4⟩ := h
                rw [List.length_map] at z3
                refine ⟨_, rfl, .inl ⟨rfl, _, SqL.of (z1.lst w4 (nn _))⟩, _, rfl, _, rfl, .inl ⟨D2, _, rfl, SqL.of z2, fun t1 ht1 => ⟨by show 2 ≤ sizeLine; decide, fun t2 ht2 => ?_⟩⟩⟩
                have x1 := Go.new (T := T) (M := []) (o := .tup ((gs).map V.str)) ht1
                have x2 := Go.new (T := T) (M := []) (o := .tup [.str xn, .ref t1]) ht2
                have xx := x1.trans x2
                have n6 : ∀ p : Addr, H15 p = none → p ∉ [ss, a, l, tt, mm, ff] := fun p hp => by
                  have w := ((Wc.go z1)).ne hp
                  simp [w.1, w.2, (ne_of_none (z1.lst w1 (nn _)) hp).symm, (ne_of_none (z1.lst w2 (nn _)) hp).symm, (ne_of_none (z1.lst w3 (nn _)) hp).symm, (ne_of_none (z1.lst w4 (nn _)) hp).symm]
                have y4 := xx.lst (z1.lst w4 (nn _)) (nn _)
                have lw := ((dE.go z1.of0)).length
                have Gs := Go.set (T := T) (M := [ss, a, l, tt, mm, ff]) (o := .lst (ws ++ [V.ref t2])) y4 (fun _ z => by cases z) (by simp)
                refine ⟨ss, ws, _, rfl, rfl, y4, by rw [sizeLine_eq]; omega, ms' ++ [xn], ws ++ [.ref t2], es ++ [.tuple [.str xn, .tuple ((gs).map .str)]], _, _, _, _, rfl, (((Gd.trans z1.of0)).trans xx.of0).trans Gs, ((((Wc.go z1)).go xx).set ns).up (by omega), ?_, ?_, by rw [List.length_append, List.length_singleton]; omega, ?_, ?_, upd_same, ?_, by rw [List.length_append, les] <;> rfl, ?_⟩
                · rw [upd_ne st]; exact xx.lst (z1.lst w1 (nn _)) (nn _)
                · rw [upd_ne sm]; exact xx.lst (z1.lst w2 (nn _)) (nn _)
                · intro y hy
                  rcases List.mem_append.mp hy with z | z
                  · exact hms y z
                  · rw [List.mem_singleton.mp z]; exact hxn
                · rw [upd_ne sf]; exact xx.lst (z1.lst w3 (nn _)) (nn _)
                · refine DvAll.go (T := T) (DvAll.append (((dE.go z1.of0)).go xx.of0) (.cons (.tup upd_same (n6 t2 (x1.al _ ht2)) (.cons (.str _) (.cons (.tup ((x2.tup upd_same (nn _))) (n6 t1 ht1) (DvAll.strs _)) .nil))) .nil)) Gs
                · intro d hd'
                  rcases List.mem_append.mp hd' with z | z
                  · exact hes d z
                  · rw [List.mem_singleton.mp z]; exact maker_ok hxn z4 (by omega : gs.length ≤ 4)
            · refine if_false_of (decide_eq_false hc0) ?_
              refine ⟨_, rfl, .inl ⟨rfl, _, SqL.of w4⟩, _, rfl, _, rfl, .inl ⟨D, _, rfl, SqL.of eD, fun t1 ht1 => ⟨by show 2 ≤ sizeLine; decide, fun t2 ht2 => ?_⟩⟩⟩
              have x1 := Go.new (T := T) (M := []) (o := .tup ((fs).map V.str)) ht1
              have x2 := Go.new (T := T) (M := []) (o := .tup [.str xn, .ref t1]) ht2
              have xx := x1.trans x2
              have n6 : ∀ p : Addr, Hc p = none → p ∉ [ss, a, l, tt, mm, ff] := fun p hp => by
                have w := (Wc).ne hp
                simp [w.1, w.2, (ne_of_none w1 hp).symm, (ne_of_none w2 hp).symm, (ne_of_none w3 hp).symm, (ne_of_none w4 hp).symm]
              have y4 := xx.lst w4 (nn _)
              have lw := (dE).length
              have Gs := Go.set (T := T) (M := [ss, a, l, tt, mm, ff]) (o := .lst (ws ++ [V.ref t2])) y4 (fun _ z => by cases z) (by simp)
              refine ⟨ss, ws, _, rfl, rfl, y4, by rw [sizeLine_eq]; omega, ms' ++ [xn], ws ++ [.ref t2], es ++ [.tuple [.str xn, .tuple ((fs).map .str)]], _, _, _, _, rfl, ((Gd).trans xx.of0).trans Gs, (((Wc).go xx).set ns).up (by omega), ?_, ?_, by rw [List.length_append, List.length_singleton]; omega, ?_, ?_, upd_same, ?_, by rw [List.length_append, les] <;> rfl, ?_⟩
              · rw [upd_ne st]; exact xx.lst w1 (nn _)
              · rw [upd_ne sm]; exact xx.lst w2 (nn _)
              · intro y hy
                rcases List.mem_append.mp hy with z | z
                · exact hms y z
                · rw [List.mem_singleton.mp z]; exact hxn
              · rw [upd_ne sf]; exact xx.lst w3 (nn _)
              · refine DvAll.go (T := T) (DvAll.append ((dE).go xx.of0) (.cons (.tup upd_same (n6 t2 (x1.al _ ht2)) (.cons (.str _) (.cons (.tup ((x2.tup upd_same (nn _))) (n6 t1 ht1) (DvAll.strs _)) .nil))) .nil)) Gs
              · intro d hd'
                rcases List.mem_append.mp hd' with z | z
                · exact hes d z
                · rw [List.mem_singleton.mp z]; exact maker_ok hxn v5 lf4
          · refine if_false_of (decide_eq_false fun z => hj0 (V.int.inj z)) ?_
            refine ⟨_, rfl, .inl ⟨rfl, _, SqL.of d4⟩, _, rfl, _, rfl, .inl ⟨D, _, rfl, SqL.of v3, fun t1 ht1 => ⟨by show 2 ≤ sizeLine; decide, fun t2 ht2 => ?_⟩⟩⟩
            have x1 := Go.new (T := T) (M := []) (o := .tup ((fs).map V.str)) ht1
            have x2 := Go.new (T := T) (M := []) (o := .tup [.str xn, .ref t1]) ht2
            have xx := x1.trans x2
            have n6 : ∀ p : Addr, H13 p = none → p ∉ [ss, a, l, tt, mm, ff] := fun p hp => by
              have w := (v2).ne hp
              simp [w.1, w.2, (ne_of_none d1 hp).symm, (ne_of_none d2 hp).symm, (ne_of_none d3 hp).symm, (ne_of_none d4 hp).symm]
            have y4 := xx.lst d4 (nn _)
            have lw := (dD).length
            have Gs := Go.set (T := T) (M := [ss, a, l, tt, mm, ff]) (o := .lst (ws ++ [V.ref t2])) y4 (fun _ z => by cases z) (by simp)
            refine ⟨ss, ws, _, rfl, rfl, y4, by rw [sizeLine_eq]; omega, ms' ++ [xn], ws ++ [.ref t2], es ++ [.tuple [.str xn, .tuple ((fs).map .str)]], _, _, _, _, rfl, ((Gc).trans xx.of0).trans Gs, (((v2).go xx).set ns).up (by omega), ?_, ?_, by rw [List.length_append, List.length_singleton]; omega, ?_, ?_, upd_same, ?_, by rw [List.length_append, les] <;> rfl, ?_⟩
            · rw [upd_ne st]; exact xx.lst d1 (nn _)
            · rw [upd_ne sm]; exact xx.lst d2 (nn _)
            · intro y hy
              rcases List.mem_append.mp hy with z | z
              · exact hms y z
              · rw [List.mem_singleton.mp z]; exact hxn
            · rw [upd_ne sf]; exact xx.lst d3 (nn _)
            · refine DvAll.go (T := T) (DvAll.append ((dD).go xx.of0) (.cons (.tup upd_same (n6 t2 (x1.al _ ht2)) (.cons (.str _) (.cons (.tup ((x2.tup upd_same (nn _))) (n6 t1 ht1) (DvAll.strs _)) .nil))) .nil)) Gs
            · intro d hd'
              rcases List.mem_append.mp hd' with z | z
              · exact hes d z
              · rw [List.mem_singleton.mp z]; exact maker_ok hxn v5 lf4
      · rw [decide_eq_false hin]
        refine iteT ?_
        refine ⟨_, rfl, a, l, k + 200 + 800 * i + 2 + 60 * j + 30, 5, rfl, by decide, by decide, by omega, W10, t10, fun i11 H11 j110 j111 W11 g11 t11 => ⟨rfl, _, rfl, ?_⟩⟩
        have G11 := G10.trans (g11.more up6)
        have k1 := g11.lst h1 (nin nt)
        have k2 := g11.lst h2 (nin nm)
        have k3 := g11.lst h3 (nin nf)
        have k4 := g11.lst h4 (nin ns)
        have dw11 := dw10.go (g11.more up6)
        by_cases h0 : i11 = 0
        · refine if_true_of (decide_eq_true (by rw [h0])) ?_
          refine ⟨_, rfl, ?_⟩
          refine ⟨_, rfl, .inl ⟨rfl, _, SqL.of k2⟩, _, rfl, mm, _, _, rfl, rfl, k2, by rw [List.length_map, sizeLine_eq]; omega, ?_⟩
          have Ga := (G11).trans (Go.set (T := T) (M := [ss, a, l, tt, mm, ff]) (o := .lst (ms'.map V.str ++ [V.str ti])) k2 (fun _ z => by cases z) (by simp))
          have Wa := WellAt.set (o := .lst (ms'.map V.str ++ [V.str ti])) W11 nm
          have b1 : upd H11 mm (.lst (ms'.map V.str ++ [V.str ti])) tt = some (.lst (ts.map V.str)) := by rw [upd_ne tm]; exact k1
          have b2 : upd H11 mm (.lst (ms'.map V.str ++ [V.str ti])) mm = some (.lst ((ms' ++ [ti]).map V.str)) := by rw [upd_same, List.map_append] <;> rfl
          have b3 : upd H11 mm (.lst (ms'.map V.str ++ [V.str ti])) ff = some (.lst vs) := by rw [upd_ne mf.symm]; exact k3
          have b4 : upd H11 mm (.lst (ms'.map V.str ++ [V.str ti])) ss = some (.lst ws) := by rw [upd_ne sm.symm]; exact k4
          have dA := (dw11).go (Go.set (T := T) (M := [ss, a, l, tt, mm, ff]) (o := .lst (ms'.map V.str ++ [V.str ti])) k2 (fun _ z => by cases z) (by simp))
          refine ⟨_, rfl, by show 1 ≤ sizeLine; decide, fun r1 hr1 => ?_⟩
          have u1 := Go.new (T := T) (M := []) (o := .lst [.str "number"]) hr1
          refine ⟨tt, r1, _, _, rfl, rfl, u1.lst b1 (nn _), upd_same, by rw [List.length_map, sizeLine_eq]; show ts.length + 1 ≤ _; omega, fun r2 hr2 => ?_⟩
          have u2 := Go.new (T := T) (M := []) (o := .lst (ts.map V.str ++ [V.str "number"])) hr2
          refine ⟨by show 6 ≤ sizeLine; decide, fun r3 hr3 => ?_⟩
          have u3 := Go.new (T := T) (M := []) (o := .lst [.int 0, .int 1, .int 2, .int 2, .int 3, .int 4]) hr3
          have uu := (u1.trans u2).trans u3
          have Wb := Wa.go uu
          have Gb := Ga.trans uu.of0
          refine ⟨_, rfl, a, l, k + 200 + 800 * i + 2 + 60 * j + 31, 6, rfl, by decide, by decide, by omega, Wb.up (by omega), Gb.tb (gg.tb ht), fun i9 H12 j90 j91 W12 g12 t12 => ?_⟩
          obtain ⟨m9, em9, n9, m9'⟩ := at012 j90 j91
          refine ⟨r3, _, i9, _, rfl, rfl, SqL.of (g12.lst upd_same (nin ((Wa.go (u1.trans u2)).ne hr3))), em9, m9, rfl, by omega, by omega, fun D hD => ?_⟩
          have nD := W12.ne hD
          have er2 : H12 r2 = some (.lst (ts.map V.str ++ [V.str "number"])) := g12.lst (u3.lst upd_same (nn _)) (nin ((Wa.go u1).ne hr2))
          have nD2 : r2 ≠ D := ne_of_none er2 hD
          have all9 : ∀ v ∈ (ts.map V.str ++ [V.str "number"]), ∃ z, v = V.str z ∧ fdOk z := fun v hv => by
            rcases List.mem_append.mp hv with z | z
            · obtain ⟨y, hy, rfl⟩ := List.mem_map.mp z
              exact ⟨y, rfl, (hx y hy).1, (hx y hy).2.2⟩
            · rw [List.mem_singleton.mp z]
              exact ⟨"number", rfl, by decide +kernel, by decide +kernel⟩
          have G12 := Gb.trans (g12.more up6)
          have c1 := g12.lst (uu.lst b1 (nn _)) (nin nt)
          have c2 := g12.lst (uu.lst b2 (nn _)) (nin nm)
          have c3 := g12.lst (uu.lst b3 (nn _)) (nin nf)
          have c4 := g12.lst (uu.lst b4 (nn _)) (nin ns)
          have dC := (dA.go uu.of0).go (g12.more up6)
          refine lc_it (walk_range (lo := 0) (n := m9.toNat)) (fun i' H' => Go T [a, l] H12 H' ∧ WellAt a l H' (k + 200 + 800 * i + 2 + 60 * j + 32 + i') ∧ ∃ fs : List Str, H' D = some (.lst (fs.map V.str)) ∧ fs.length = i' ∧ ∀ x ∈ fs, fdOk x)
            ⟨Go.new hD, (W12.set nD).up (by omega), [], upd_same, rfl, by simp⟩ (fun _ _ _ _ => trivial) (fun i' x H13 H14 hi' h y => ?_) (fun H13 h => ?_)
          · obtain ⟨v1, v2, fs, v3, v4, v5⟩ := h
            obtain ⟨rfl, rfl⟩ := y
            have er := v1.lst er2 (nin ((Wa.go u1).ne hr2))
            refine ⟨rfl, _, rfl, _, rfl, _, rfl, r2, _, rfl, .inl (SqL.of er), a, l, k + 200 + 800 * i + 2 + 60 * j + 32 + i', _, rfl, by rw [List.length_append, List.length_singleton]; omega, by rw [List.length_append, List.length_map, List.length_singleton]; omega, by omega, v2, v1.tb t12, fun ib Hb jb0 jb1 Wb' gb tb => ?_⟩
            obtain ⟨vo, eo, mo⟩ := at_ok jb0 jb1
            obtain ⟨z, rfl, hz⟩ := all9 _ mo
            have v3' := gb.lst v3 (nin nD)
            refine ⟨r2, _, ib, _, rfl, rfl, SqL.of (gb.lst er (nin ((Wa.go u1).ne hr2))), eo, _, v3', by rw [List.length_map, sizeLine_eq]; omega, (v1.trans gb).over hD v3' (fun _ z => by cases z), (Wb'.set nD).up (by omega), fs ++ [z], by rw [upd_same, List.map_append] <;> rfl, by rw [List.length_append, v4] <;> rfl, fun x hx' => ?_⟩
            rcases List.mem_append.mp hx' with w | w
            · exact v5 x w
            · rw [List.mem_singleton.mp w]; exact hz
          · obtain ⟨v1, v2, fs, v3, v4, v5⟩ := h
            have lf4 : fs.length ≤ 4 := by omega
            have Gc := G12.trans (v1.more up6)
            have d1 := v1.lst c1 (nin nt)
            have d2 := v1.lst c2 (nin nm)
            have d3 := v1.lst c3 (nin nf)
            have d4 := v1.lst c4 (nin ns)
            have dD := dC.go (v1.more up6)
            refine ⟨_, rfl, rfl, _, rfl, ?_⟩
            by_cases hj0 : (0 : Int) + (j : Int) = 0
            · refine if_true_of (decide_eq_true (show V.int (0 + (j : Int)) = V.int 0 by rw [hj0])) ?_
              refine ⟨_, rfl, a, l, k + 200 + 800 * i + 2 + 60 * j + 36, 4, rfl, by decide, by decide, by omega, v2.up (by omega), v1.tb t12, fun ic Hc jc0 jc1 Wc gc tc => ⟨_, _, rfl, rfl, _, rfl, ?_⟩⟩
              have Gd := Gc.trans (gc.more up6)
              have w1 := gc.lst d1 (nin nt)
              have w2 := gc.lst d2 (nin nm)
              have w3 := gc.lst d3 (nin nf)
              have w4 := gc.lst d4 (nin ns)
              have dE := dD.go (gc.more up6)
              have eD := gc.lst v3 (nin nD)
              by_cases hc0 : (0 : Int) < ic
              · refine if_true_of (decide_eq_true hc0) ?_
                refine ⟨_, rfl, D, rfl, ⟨_, SqL.of eD⟩, fun D2 hD2 => ?_⟩
                refine lc_it walk_list (fun i' H' => Go T [] Hc H' ∧ ∃ gs : List Str, H' D2 = some (.lst (gs.map V.str)) ∧ gs.length ≤ i' ∧ ∀ x ∈ gs, fdOk x) ⟨Go.new hD2, [], upd_same, Nat.le_refl _, by simp⟩ (fun i' H' _ h => SqL.of (h.1.lst eD (nn _))) (fun i' x H15 H16 hi' h y => ?_) (fun H15 h => ?_)
                · obtain ⟨z1, gs, z2, z3, z4⟩ := h
                  obtain ⟨rfl, ex⟩ := y
                  rw [List.getElem?_map] at ex
                  obtain ⟨xf, exf, rfl⟩ := Option.map_eq_some_iff.mp ex
                  rw [List.length_map] at hi'
                  refine ⟨rfl, _, rfl, rfl, _, rfl, ?_⟩
                  show if decide _ = true then _ else _
                  split
                  · refine ⟨_, rfl, _, z2, by rw [List.length_map, sizeLine_eq]; omega, z1.over hD2 z2 (fun _ z => by cases z), gs ++ [xf], by rw [upd_same, List.map_append] <;> rfl, by rw [List.length_append, List.length_singleton]; omega, fun x hx' => ?_⟩
                    rcases List.mem_append.mp hx' with w | w
                    · exact z4 x w
                    · rw [List.mem_singleton.mp w]; exact v5 xf (List.mem_of_getElem? exf)
                  · exact ⟨z1, gs, z2, by omega, z4⟩
                · obtain ⟨z1, gs, z2, z3, z4⟩ := h
                  rw [List.length_map] at z3
                  refine ⟨_, rfl, .inl ⟨rfl, _, SqL.of (z1.lst w4 (nn _))⟩, _, rfl, _, rfl, .inl ⟨D2, _, rfl, SqL.of z2, fun t1 ht1 => ⟨by show 2 ≤ sizeLine; decide, fun t2 ht2 => ?_⟩⟩⟩
                  have x1 := Go.new (T := T) (M := []) (o := .tup ((gs).map V.str)) ht1
                  have x2 := Go.new (T := T) (M := []) (o := .tup [.str ti, .ref t1]) ht2
                  have xx := x1.trans x2
                  have n6 : ∀ p : Addr, H15 p = none → p ∉ [ss, a, l, tt, mm, ff] := fun p hp => by
                    have w := ((Wc.go z1)).ne hp
                    simp [w.1, w.2, (ne_of_none (z1.lst w1 (nn _)) hp).symm, (ne_of_none (z1.lst w2 (nn _)) hp).symm, (ne_of_none (z1.lst w3 (nn _)) hp).symm, (ne_of_none (z1.lst w4 (nn _)) hp).symm]
                  have y4 := xx.lst (z1.lst w4 (nn _)) (nn _)
                  have lw := ((dE.go z1.of0)).length
                  have Gs := Go.set (T := T) (M := [ss, a, l, tt, mm, ff]) (o := .lst (ws ++ [V.ref t2])) y4 (fun _ z => by cases z) (by simp)
                  refine ⟨ss, ws, _, rfl, rfl, y4, by rw [sizeLine_eq]; omega, ms' ++ [ti], ws ++ [.ref t2], es ++ [.tuple [.str ti, .tuple ((gs).map .str)]], _, _, _, _, rfl, (((Gd.trans z1.of0)).trans xx.of0).trans Gs, ((((Wc.go z1)).go xx).set ns).up (by omega), ?_, ?_, by rw [List.length_append, List.length_singleton]; omega, ?_, ?_, upd_same, ?_, by rw [List.length_append, les] <;> rfl, ?_⟩
                  · rw [upd_ne st]; exact xx.lst (z1.lst w1 (nn _)) (nn _)
                  · rw [upd_ne sm]; exact xx.lst (z1.lst w2 (nn _)) (nn _)
                  · intro y hy
                    rcases List.mem_append.mp hy with z | z
                    · exact hms y z
                    · rw [List.mem_singleton.mp z]; exact hti
                  · rw [upd_ne sf]; exact xx.lst (z1.lst w3 (nn _)) (nn _)
                  · refine DvAll.go (T := T) (DvAll.append (((dE.go z1.of0)).go xx.of0) (.cons (.tup upd_same (n6 t2 (x1.al _ ht2)) (.cons (.str _) (.cons (.tup ((x2.tup upd_same (nn _))) (n6 t1 ht1) (DvAll.strs _)) .nil))) .nil)) Gs
                  · intro d hd'
                    rcases List.mem_append.mp hd' with z | z
                    · exact hes d z
                    · rw [List.mem_singleton.mp z]; exact maker_ok hti z4 (by omega : gs.length ≤ 4)
              · refine if_false_of (decide_eq_false hc0) ?_
                refine ⟨_, rfl, .inl ⟨rfl, _, SqL.of w4⟩, _, rfl, _, rfl, .inl ⟨D, _, rfl, SqL.of eD, fun t1 ht1 => ⟨by show 2 ≤ sizeLine; decide, fun t2 ht2 => ?_⟩⟩⟩
                have x1 := Go.new (T := T) (M := []) (o := .tup ((fs).map V.str)) ht1
                have x2 := Go.new (T := T) (M := []) (o := .tup [.str ti, .ref t1]) ht2
                have xx := x1.trans x2
                have n6 : ∀ p : Addr, Hc p = none → p ∉ [ss, a, l, tt, mm, ff] := fun p hp => by
                  have w := (Wc).ne hp
                  simp [w.1, w.2, (ne_of_none w1 hp).symm, (ne_of_none w2 hp).symm, (ne_of_none w3 hp).symm, (ne_of_none w4 hp).symm]
                have y4 := xx.lst w4 (nn _)
                have lw := (dE).length
                have Gs := Go.set (T := T) (M := [ss, a, l, tt, mm, ff]) (o := .lst (ws ++ [V.ref t2])) y4 (fun _ z => by cases z) (by simp)
                refine ⟨ss, ws, _, rfl, rfl, y4, by rw [sizeLine_eq]; omega, ms' ++ [ti], ws ++ [.ref t2], es ++ [.tuple [.str ti, .tuple ((fs).map .str)]], _, _, _, _, rfl, ((Gd).trans xx.of0).trans Gs, (((Wc).go xx).set ns).up (by omega), ?_, ?_, by rw [List.length_append, List.length_singleton]; omega, ?_, ?_, upd_same, ?_, by rw [List.length_append, les] <;> rfl, ?_⟩
                · rw [upd_ne st]; exact xx.lst w1 (nn _)
                · rw [upd_ne sm]; exact xx.lst w2 (nn _)
                · intro y hy
                  rcases List.mem_append.mp hy with z | z
                  · exact hms y z
                  · rw [List.mem_singleton.mp z]; exact hti
                · rw [upd_ne sf]; exact xx.lst w3 (nn _)
                · refine DvAll.go (T := T) (DvAll.append ((dE).go xx.of0) (.cons (.tup upd_same (n6 t2 (x1.al _ ht2)) (.cons (.str _) (.cons (.tup ((x2.tup upd_same (nn _))) (n6 t1 ht1) (DvAll.strs _)) .nil))) .nil)) Gs
                · intro d hd'
                  rcases List.mem_append.mp hd' with z | z
                  · exact hes d z
                  · rw [List.mem_singleton.mp z]; exact maker_ok hti v5 lf4
            · refine if_false_of (decide_eq_false fun z => hj0 (V.int.inj z)) ?_
              refine ⟨_, rfl, .inl ⟨rfl, _, SqL.of d4⟩, _, rfl, _, rfl, .inl ⟨D, _, rfl, SqL.of v3, fun t1 ht1 => ⟨by show 2 ≤ sizeLine; decide, fun t2 ht2 => ?_⟩⟩⟩
              have x1 := Go.new (T := T) (M := []) (o := .tup ((fs).map V.str)) ht1
              have x2 := Go.new (T := T) (M := []) (o := .tup [.str ti, .ref t1]) ht2
              have xx := x1.trans x2
              have n6 : ∀ p : Addr, H13 p = none → p ∉ [ss, a, l, tt, mm, ff] := fun p hp => by
                have w := (v2).ne hp
                simp [w.1, w.2, (ne_of_none d1 hp).symm, (ne_of_none d2 hp).symm, (ne_of_none d3 hp).symm, (ne_of_none d4 hp).symm]
              have y4 := xx.lst d4 (nn _)
              have lw := (dD).length
              have Gs := Go.set (T := T) (M := [ss, a, l, tt, mm, ff]) (o := .lst (ws ++ [V.ref t2])) y4 (fun _ z => by cases z) (by simp)
              refine ⟨ss, ws, _, rfl, rfl, y4, by rw [sizeLine_eq]; omega, ms' ++ [ti], ws ++ [.ref t2], es ++ [.tuple [.str ti, .tuple ((fs).map .str)]], _, _, _, _, rfl, ((Gc).trans xx.of0).trans Gs, (((v2).go xx).set ns).up (by omega), ?_, ?_, by rw [List.length_append, List.length_singleton]; omega, ?_, ?_, upd_same, ?_, by rw [List.length_append, les] <;> rfl, ?_⟩
              · rw [upd_ne st]; exact xx.lst d1 (nn _)
              · rw [upd_ne sm]; exact xx.lst d2 (nn _)
              · intro y hy
                rcases List.mem_append.mp hy with z | z
                · exact hms y z
                · rw [List.mem_singleton.mp z]; exact hti
              · rw [upd_ne sf]; exact xx.lst d3 (nn _)
              · refine DvAll.go (T := T) (DvAll.append ((dD).go xx.of0) (.cons (.tup upd_same (n6 t2 (x1.al _ ht2)) (.cons (.str _) (.cons (.tup ((x2.tup upd_same (nn _))) (n6 t1 ht1) (DvAll.strs _)) .nil))) .nil)) Gs
              · intro d hd'
                rcases List.mem_append.mp hd' with z | z
                · exact hes d z
                · rw [List.mem_singleton.mp z]; exact maker_ok hti v5 lf4
        · refine if_false_of (decide_eq_false fun z => h0 (V.int.inj z)) ?_
          refine ⟨_, rfl, .inl ⟨rfl, _, SqL.of k2⟩, _, rfl, mm, _, _, rfl, rfl, k2, by rw [List.length_map, sizeLine_eq]; omega, ?_⟩
          have Ga := (G11).trans (Go.set (T := T) (M := [ss, a, l, tt, mm, ff]) (o := .lst (ms'.map V.str ++ [V.str xn])) k2 (fun _ z => by cases z) (by simp))
          have Wa := WellAt.set (o := .lst (ms'.map V.str ++ [V.str xn])) W11 nm
          have b1 : upd H11 mm (.lst (ms'.map V.str ++ [V.str xn])) tt = some (.lst (ts.map V.str)) := by rw [upd_ne tm]; exact k1
          have b2 : upd H11 mm (.lst (ms'.map V.str ++ [V.str xn])) mm = some (.lst ((ms' ++ [xn]).map V.str)) := by rw [upd_same, List.map_append] <;> rfl
          have b3 : upd H11 mm (.lst (ms'.map V.str ++ [V.str xn])) ff = some (.lst vs) := by rw [upd_ne mf.symm]; exact k3
          have b4 : upd H11 mm (.lst (ms'.map V.str ++ [V.str xn])) ss = some (.lst ws) := by rw [upd_ne sm.symm]; exact k4
          have dA := (dw11).go (Go.set (T := T) (M := [ss, a, l, tt, mm, ff]) (o := .lst (ms'.map V.str ++ [V.str xn])) k2 (fun _ z => by cases z) (by simp))
          refine ⟨_, rfl, by show 1 ≤ sizeLine; decide, fun r1 hr1 => ?_⟩
          have u1 := Go.new (T := T) (M := []) (o := .lst [.str "number"]) hr1
          refine ⟨tt, r1, _, _, rfl, rfl, u1.lst b1 (nn _), upd_same, by rw [List.length_map, sizeLine_eq]; show ts.length + 1 ≤ _; omega, fun r2 hr2 => ?_⟩
          have u2 := Go.new (T := T) (M := []) (o := .lst (ts.map V.str ++ [V.str "number"])) hr2
          refine ⟨by show 6 ≤ sizeLine; decide, fun r3 hr3 => ?_⟩
          have u3 := Go.new (T := T) (M := []) (o := .lst [.int 0, .int 1, .int 2, .int 2, .int 3, .int 4]) hr3
          have uu := (u1.trans u2).trans u3
          have Wb := Wa.go uu
          have Gb := Ga.trans uu.of0
          refine ⟨_, rfl, a, l, k + 200 + 800 * i + 2 + 60 * j + 31, 6, rfl, by decide, by decide, by omega, Wb.up (by omega), Gb.tb (gg.tb ht), fun i9 H12 j90 j91 W12 g12 t12 => ?_⟩
          obtain ⟨m9, em9, n9, m9'⟩ := at012 j90 j91
          refine ⟨r3, _, i9, _, rfl, rfl, SqL.of (g12.lst upd_same (nin ((Wa.go (u1.trans u2)).ne hr3))), em9, m9, rfl, by omega, by omega, fun D hD => ?_⟩
          have nD := W12.ne hD
          have er2 : H12 r2 = some (.lst (ts.map V.str ++ [V.str "number"])) := g12.lst (u3.lst upd_same (nn _)) (nin ((Wa.go u1).ne hr2))
          have nD2 : r2 ≠ D := ne_of_none er2 hD
          have all9 : ∀ v ∈ (ts.map V.str ++ [V.str "number"]), ∃ z, v = V.str z ∧ fdOk z := fun v hv => by
            rcases List.mem_append.mp hv with z | z
            · obtain ⟨y, hy, rfl⟩ := List.mem_map.mp z
              exact ⟨y, rfl, (hx y hy).1, (hx y hy).2.2⟩
            · rw [List.mem_singleton.mp z]
              exact ⟨"number", rfl, by decide +kernel, by decide +kernel⟩
          have G12 := Gb.trans (g12.more up6)
          have c1 := g12.lst (uu.lst b1 (nn _)) (nin nt)
          have c2 := g12.lst (uu.lst b2 (nn _)) (nin nm)
          have c3 := g12.lst (uu.lst b3 (nn _)) (nin nf)
          have c4 := g12.lst (uu.lst b4 (nn _)) (nin ns)
          have dC := (dA.go uu.of0).go (g12.more up6)
          refine lc_it (walk_range (lo := 0) (n := m9.toNat)) (fun i' H' => Go T [a, l] H12 H' ∧ WellAt a l H' (k + 200 + 800 * i + 2 + 60 * j + 32 + i') ∧ ∃ fs : List Str, H' D = some (.lst (fs.map V.str)) ∧ fs.length = i' ∧ ∀ x ∈ fs, fdOk x)
            ⟨Go.new hD, (W12.set nD).up (by omega), [], upd_same, rfl, by simp⟩ (fun _ _ _ _ => trivial) (fun i' x H13 H14 hi' h y => ?_) (fun H13 h => ?_)
          · obtain ⟨v1, v2, fs, v3, v4, v5⟩ := h
            obtain ⟨rfl, rfl⟩ := y
            have er := v1.lst er2 (nin ((Wa.go u1).ne hr2))
            refine ⟨rfl, _, rfl, _, rfl, _, rfl, r2, _, rfl, .inl (SqL.of er), a, l, k + 200 + 800 * i + 2 + 60 * j + 32 + i', _, rfl, by rw [List.length_append, List.length_singleton]; omega, by rw [List.length_append, List.length_map, List.length_singleton]; omega, by omega, v2, v1.tb t12, fun ib Hb jb0 jb1 Wb' gb tb => ?_⟩
            obtain ⟨vo, eo, mo⟩ := at_ok jb0 jb1
            obtain ⟨z, rfl, hz⟩ := all9 _ mo
            have v3' := gb.lst v3 (nin nD)
            refine ⟨r2, _, ib, _, rfl, rfl, SqL.of (gb.lst er (nin ((Wa.go u1).ne hr2))), eo, _, v3', by rw [List.length_map, sizeLine_eq]; omega, (v1.trans gb).over hD v3' (fun _ z => by cases z), (Wb'.set nD).up (by omega), fs ++ [z], by rw [upd_same, List.map_append] <;> rfl, by rw [List.length_append, v4] <;> rfl, fun x hx' => ?_⟩
            rcases List.mem_append.mp hx' with w | w
            · exact v5 x w
            · rw [List.mem_singleton.mp w]; exact hz
          · obtain ⟨v1, v2, fs, v3, v4, v5⟩ := h
            have lf4 : fs.length ≤ 4 := by omega
            have Gc := G12.trans (v1.more up6)
            have d1 := v1.lst c1 (nin nt)
            have d2 := v1.lst c2 (nin nm)
            have d3 := v1.lst c3 (nin nf)
            have d4 := v1.lst c4 (nin ns)
            have dD := dC.go (v1.more up6)
            refine ⟨_, rfl, rfl, _, rfl, ?_⟩
            by_cases hj0 : (0 : Int) + (j : Int) = 0
            · refine if_true_of (decide_eq_true (show V.int (0 + (j : Int)) = V.int 0 by rw [hj0])) ?_
              refine ⟨_, rfl, a, l, k + 200 + 800 * i + 2 + 60 * j + 36, 4, rfl, by decide, by decide, by omega, v2.up (by omega), v1.tb t12, fun ic Hc jc0 jc1 Wc gc tc => ⟨_, _, rfl, rfl, _, rfl, ?_⟩⟩
              have Gd := Gc.trans (gc.more up6)
              have w1 := gc.lst d1 (nin nt)
              have w2 := gc.lst d2 (nin nm)
              have w3 := gc.lst d3 (nin nf)
              have w4 := gc.lst d4 (nin ns)
              have dE := dD.go (gc.more up6)
              have eD := gc.lst v3 (nin nD)
              by_cases hc0 : (0 : Int) < ic
              · refine if_true_of (decide_eq_true hc0) ?_
                refine ⟨_, rfl, D, rfl, ⟨_, SqL.of eD⟩, fun D2 hD2 => ?_⟩
                refine lc_it walk_list (fun i' H' => Go T [] Hc H' ∧ ∃ gs : List Str, H' D2 = some (.lst (gs.map V.str)) ∧ gs.length ≤ i' ∧ ∀ x ∈ gs, fdOk x) ⟨Go.new hD2, [], upd_same, Nat.le_refl _, by simp⟩ (fun i' H' _ h => SqL.of (h.1.lst eD (nn _))) (fun i' x H15 H16 hi' h y => ?_) (fun H15 h => ?_)
                · obtain ⟨z1, gs, z2, z3, z4⟩ := h
                  obtain ⟨rfl, ex⟩ := y
                  rw [List.getElem?_map] at ex
                  obtain ⟨xf, exf, rfl⟩ := Option.map_eq_some_iff.mp ex
                  rw [List.length_map] at hi'
                  refine ⟨rfl, _, rfl, rfl, _, rfl, ?_⟩
                  show if decide _ = true then _ else _
                  split
                  · refine ⟨_, rfl, _, z2, by rw [List.length_map, sizeLine_eq]; omega, z1.over hD2 z2 (fun _ z => by cases z), gs ++ [xf], by rw [upd_same, List.map_append] <;> rfl, by rw [List.length_append, List.length_singleton]; omega, fun x hx' => ?_⟩
                    rcases List.mem_append.mp hx' with w | w
                    · exact z4 x w
                    · rw [List.mem_singleton.mp w]; exact v5 xf (List.mem_of_getElem? exf)
                  · exact ⟨z1, gs, z2, by omega, z4⟩
                · obtain ⟨z1, gs, z2, z3, z4⟩ := h
                  rw [List.length_map] at z3
                  refine ⟨_, rfl, .inl ⟨rfl, _, SqL.of (z1.lst w4 (nn _))⟩, _, rfl, _, rfl, .inl ⟨D2, _, rfl, SqL.of z2, fun t1 ht1 => ⟨by show 2 ≤ sizeLine; decide, fun t2 ht2 => ?_⟩⟩⟩
                  have x1 := Go.new (T := T) (M := []) (o := .tup ((gs).map V.str)) ht1
                  have x2 := Go.new (T := T) (M := []) (o := .tup [.str xn, .ref t1]) ht2
                  have xx := x1.trans x2
                  have n6 : ∀ p : Addr, H15 p = none → p ∉ [ss, a, l, tt, mm, ff] := fun p hp => by
                    have w := ((Wc.go z1)).ne hp
                    simp [w.1, w.2, (ne_of_none (z1.lst w1 (nn _)) hp).symm, (ne_of_none (z1.lst w2 (nn _)) hp).symm, (ne_of_none (z1.lst w3 (nn _)) hp).symm, (ne_of_none (z1.lst w4 (nn _)) hp).symm]
                  have y4 := xx.lst (z1.lst w4 (nn _)) (nn _)
                  have lw := ((dE.go z1.of0)).length
                  have Gs := Go.set (T := T) (M := [ss, a, l, tt, mm, ff]) (o := .lst (ws ++ [V.ref t2])) y4 (fun _ z => by cases z) (by simp)
                  refine ⟨ss, ws, _, rfl, rfl, y4, by rw [sizeLine_eq]; omega, ms' ++ [xn], ws ++ [.ref t2], es ++ [.tuple [.str xn, .tuple ((gs).map .str)]], _, _, _, _, rfl, (((Gd.trans z1.of0)).trans xx.of0).trans Gs, ((((Wc.go z1)).go xx).set ns).up (by omega), ?_, ?_, by rw [List.length_append, List.length_singleton]; omega, ?_, ?_, upd_same, ?_, by rw [List.length_append, les] <;> rfl, ?_⟩
                  · rw [upd_ne st]; exact xx.lst (z1.lst w1 (nn _)) (nn _)
                  · rw [upd_ne sm]; exact xx.lst (z1.lst w2 (nn _)) (nn _)
                  · intro y hy
                    rcases List.mem_append.mp hy with z | z
                    · exact hms y z
                    · rw [List.mem_singleton.mp z]; exact hxn
                  · rw [upd_ne sf]; exact xx.lst (z1.lst w3 (nn _)) (nn _)
                  · refine DvAll.go (T := T) (DvAll.append (((dE.go z1.of0)).go xx.of0) (.cons (.tup upd_same (n6 t2 (x1.al _ ht2)) (.cons (.str _) (.cons (.tup ((x2.tup upd_same (nn _))) (n6 t1 ht1) (DvAll.strs _)) .nil))) .nil)) Gs
                  · intro d hd'
                    rcases List.mem_append.mp hd' with z | z
                    · exact hes d z
                    · rw [List.mem_singleton.mp z]; exact maker_ok hxn z4 (by omega : gs.length ≤ 4)
              · refine if_false_of (decide_eq_false hc0) ?_
                refine ⟨_, rfl, .inl ⟨rfl, _, SqL.of w4⟩, _, rfl, _, rfl, .inl ⟨D, _, rfl, SqL.of eD, fun t1 ht1 => ⟨by show 2 ≤ sizeLine; decide, fun t2 ht2 => ?_⟩⟩⟩
                have x1 := Go.new (T := T) (M := []) (o := .tup ((fs).map V.str)) ht1
                have x2 := Go.new (T := T) (M := []) (o := .tup [.str xn, .ref t1]) ht2
                have xx := x1.trans x2
                have n6 : ∀ p : Addr, Hc p = none → p ∉ [ss, a, l, tt, mm, ff] := fun p hp => by
                  have w := (Wc).ne hp
                  simp [w.1, w.2, (ne_of_none w1 hp).symm, (ne_of_none w2 hp).symm, (ne_of_none w3 hp).symm, (ne_of_none w4 hp).symm]
                have y4 := xx.lst w4 (nn _)
                have lw := (dE).length
                have Gs := Go.set (T := T) (M := [ss, a, l, tt, mm, ff]) (o := .lst (ws ++ [V.ref t2])) y4 (fun _ z => by cases z) (by simp)
                refine ⟨ss, ws, _, rfl, rfl, y4, by rw [sizeLine_eq]; omega, ms' ++ [xn], ws ++ [.ref t2], es ++ [.tuple [.str xn, .tuple ((fs).map .str)]], _, _, _, _, rfl, ((Gd).trans xx.of0).trans Gs, (((Wc).go xx).set ns).up (by omega), ?_, ?_, by rw [List.length_append, List.length_singleton]; omega, ?_, ?_, upd_same, ?_, by rw [List.length_append, les] <;> rfl, ?_⟩
                · rw [upd_ne st]; exact xx.lst w1 (nn _)
                · rw [upd_ne sm]; exact xx.lst w2 (nn _)
                · intro y hy
                  rcases List.mem_append.mp hy with z | z
                  · exact hms y z
                  · rw [List.mem_singleton.mp z]; exact hxn
                · rw [upd_ne sf]; exact xx.lst w3 (nn _)
                · refine DvAll.go (T := T) (DvAll.append ((dE).go xx.of0) (.cons (.tup upd_same (n6 t2 (x1.al _ ht2)) (.cons (.str _) (.cons (.tup ((x2.tup upd_same (nn _))) (n6 t1 ht1) (DvAll.strs _)) .nil))) .nil)) Gs
                · intro d hd'
                  rcases List.mem_append.mp hd' with z | z
                  · exact hes d z
                  · rw [List.mem_singleton.mp z]; exact maker_ok hxn v5 lf4
            · refine if_false_of (decide_eq_false fun z => hj0 (V.int.inj z)) ?_
              refine ⟨_, rfl, .inl ⟨rfl, _, SqL.of d4⟩, _, rfl, _, rfl, .inl ⟨D, _, rfl, SqL.of v3, fun t1 ht1 => ⟨by show 2 ≤ sizeLine; decide, fun t2 ht2 => ?_⟩⟩⟩
              have x1 := Go.new (T := T) (M := []) (o := .tup ((fs).map V.str)) ht1
              have x2 := Go.new (T := T) (M := []) (o := .tup [.str xn, .ref t1]) ht2
              have xx := x1.trans x2
              have n6 : ∀ p : Addr, H13 p = none → p ∉ [ss, a, l, tt, mm, ff] := fun p hp => by
                have w := (v2).ne hp
                simp [w.1, w.2, (ne_of_none d1 hp).symm, (ne_of_none d2 hp).symm, (ne_of_none d3 hp).symm, (ne_of_none d4 hp).symm]
              have y4 := xx.lst d4 (nn _)
              have lw := (dD).length
              have Gs := Go.set (T := T) (M := [ss, a, l, tt, mm, ff]) (o := .lst (ws ++ [V.ref t2])) y4 (fun _ z => by cases z) (by simp)
              refine ⟨ss, ws, _, rfl, rfl, y4, by rw [sizeLine_eq]; omega, ms' ++ [xn], ws ++ [.ref t2], es ++ [.tuple [.str xn, .tuple ((fs).map .str)]], _, _, _, _, rfl, ((Gc).trans xx.of0).trans Gs, (((v2).go xx).set ns).up (by omega), ?_, ?_, by rw [List.length_append, List.length_singleton]; omega, ?_, ?_, upd_same, ?_, by rw [List.length_append, les] <;> rfl, ?_⟩
              · rw [upd_ne st]; exact xx.lst d1 (nn _)
              · rw [upd_ne sm]; exact xx.lst d2 (nn _)
              · intro y hy
                rcases List.mem_append.mp hy with z | z
                · exact hms y z
                · rw [List.mem_singleton.mp z]; exact hxn
              · rw [upd_ne sf]; exact xx.lst d3 (nn _)
              · refine DvAll.go (T := T) (DvAll.append ((dD).go xx.of0) (.cons (.tup upd_same (n6 t2 (x1.al _ ht2)) (.cons (.str _) (.cons (.tup ((x2.tup upd_same (nn _))) (n6 t1 ht1) (DvAll.strs _)) .nil))) .nil)) Gs
              · intro d hd'
                rcases List.mem_append.mp hd' with z | z
                · exact hes d z
                · rw [List.mem_singleton.mp z]; exact maker_ok hxn v5 lf4
    · obtain ⟨ms', ws, es, p5, p8, p9, p10, rfl, G8, W8, f1, f2, lms, hms, f3, f4, dw, les, hes⟩ := h
      have lw := dw.length
      refine ⟨_, rfl, _, rfl, ss, _, rfl, .inl (SqL.of f4), a, l, k + 200 + 800 * i + 2 + 360, _, rfl, by omega, by omega, by omega, W8.up (by omega), G8.tb (gg.tb ht), fun it H9 jt0 jt1 W9 g9 t9 => ?_⟩
      have G9 := G8.trans (g9.more up6)
      have h1 := g9.lst f1 (nin nt)
      have h2 := g9.lst f2 (nin nm)
      have h3 := g9.lst f3 (nin nf)
      have h4 := g9.lst f4 (nin ns)
      have dw9 := dw.go (g9.more up6)
      refine ⟨_, rfl, .inl ⟨rfl, _, SqL.of h3⟩, _, rfl, _, rfl, _, rfl, _, rfl, ?_⟩
      refine ⟨ss, ws, rfl, SqL.of h4, fun q2 hq2 => ⟨_, rfl, _, rfl, _, rfl, ss, ws, rfl, SqL.of ((Go.new (T := T) (M := []) (o := .lst (cutV ws (some it) none)) hq2).lst h4 (nn _)), fun q3 hq3 => ?_⟩⟩
      have z2 := Go.new (T := T) (M := []) (o := .lst (cutV ws (some it) none)) hq2
      have z3 := Go.new (T := T) (M := []) (o := .lst (cutV ws none (some it))) hq3
      have L1 := cutV_length ws (some it) none
      have L2 := cutV_length ws none (some it)
      refine ⟨q2, q3, _, _, rfl, rfl, z3.lst upd_same (nn _), upd_same, by rw [sizeLine_eq]; omega, fun q4 hq4 => .inl ⟨q4, _, rfl, SqL.of upd_same, fun t1 ht1 => ⟨by show 2 ≤ sizeLine; decide, fun t2 ht2 => ?_⟩⟩⟩
      have z4 := Go.new (T := T) (M := []) (o := .lst (cutV ws (some it) none ++ cutV ws none (some it))) hq4
      have x1 := Go.new (T := T) (M := []) (o := .tup (cutV ws (some it) none ++ cutV ws none (some it))) ht1
      have x2 := Go.new (T := T) (M := []) (o := .tup [.str ti, .ref t1]) ht2
      have zz := (z2.trans z3).trans z4
      have xx := (zz.trans x1).trans x2
      have n5 : ∀ p : Addr, H9 p = none → p ∉ [a, l, tt, mm, ff] := fun p hp => by
        have w := W9.ne hp
        simp [w.1, w.2, (ne_of_none h1 hp).symm, (ne_of_none h2 hp).symm, (ne_of_none h3 hp).symm]
      have y3 := xx.lst h3 (nn _)
      have Gs := Go.set (T := T) (M := [a, l, tt, mm, ff]) (o := .lst (vs ++ [V.ref t2])) y3 (fun _ z => by cases z) (by simp)
      have lv := dv.length
      have cut6 : ∀ b ∈ [ss, a, l, tt, mm, ff], b ∈ [a, l, tt, mm, ff] ∨ H5 b = none := fun b hb => by
        rcases List.mem_cons.mp hb with rfl | hb
        · exact .inr hss
        · exact .inl hb
      have G5 : Go T [a, l, tt, mm, ff] H5 H9 := G9.cut cut6
      have up5 : ∀ b ∈ [a, l, tt, mm, ff], b ∈ [ss, a, l, tt, mm, ff] := fun b hb => List.mem_cons_of_mem _ hb
      have dX := (dw9.less up5).go (xx.of0 (M := [a, l, tt, mm, ff]))
      obtain ⟨es1, he1⟩ : ∃ e, e = (es.drop (HT.sIx es.length 0 (some it))).take (HT.sIx es.length es.length none - HT.sIx es.length 0 (some it)) := ⟨_, rfl⟩
      obtain ⟨es2, he2⟩ : ∃ e, e = (es.drop (HT.sIx es.length 0 none)).take (HT.sIx es.length es.length (some it) - HT.sIx es.length 0 none) := ⟨_, rfl⟩
      have dcut := (dX.cut (some it) none).append (dX.cut none (some it))
      rw [← he1, ← he2] at dcut
      have lc := dcut.length
      rw [List.length_append, List.length_append] at lc
      refine ⟨ff, vs, _, rfl, rfl, y3, by rw [sizeLine_eq]; omega, ms', vs ++ [.ref t2], ds ++ [.tuple [.str ti, .tuple (es1 ++ es2)]], _, _, _, _, _, _, _, rfl, ((gg.trans G5).trans xx.of0).trans Gs, ((W9.go xx).set nf).up (by omega), ?_, ?_, by omega, hms, upd_same, ?_, by rw [List.length_append, ld] <;> rfl, ?_⟩
      · rw [upd_ne tf]; exact xx.lst h1 (nn _)
      · rw [upd_ne mf]; exact xx.lst h2 (nn _)
      · have dvE := ((dv.go G5).go (xx.of0 (M := [a, l, tt, mm, ff])))
        exact DvAll.go (T := T) (DvAll.append dvE (.cons (.tup upd_same (n5 t2 ((zz.trans x1).al _ ht2)) (.cons (.str _) (.cons (.tup (x2.tup upd_same (nn _)) (n5 t1 (zz.al _ ht1)) dcut) .nil))) .nil)) Gs
      · intro d hd'
        rcases List.mem_append.mp hd' with z | z
        · exact hd d z
        · rw [List.mem_singleton.mp z]
          refine kind_ok hti (fun d hd2 => ?_) (by rw [List.length_append]; omega)
          rcases List.mem_append.mp hd2 with y | y
          · rw [he1] at y; exact hes d (List.mem_of_mem_drop (List.mem_of_mem_take y))
          · rw [he2] at y; exact hes d (List.mem_of_mem_drop (List.mem_of_mem_take y))
  · obtain ⟨ms, vs, ds, p5, p6, p7, p8, p9, p10, p11, rfl, gg, W4, e1, e2, lm, hm, e3, dv, ld, hd⟩ := h
    rw [List.length_map] at ld W4
    have lv := dv.length
    refine ⟨_, rfl, .inl ⟨ff, _, rfl, SqL.of e3, fun t hnew => ?_⟩⟩
    have gn := Go.new (T := T) (M := []) (o := .tup vs) hnew
    have G := (gg.cut fresh).trans gn.of0
    obtain ⟨w1, w2, w3⟩ := all_bd hd
    have wne := W4.ne hnew
    have dE : Dv [a, l] (upd H4 t (.tup vs)) (.ref t) (.tuple ds) := .tup upd_same (nin wne) ((dv.go gn.of0).less up2)
    have dO : drawnOk (.tuple ds) := by
      cases ds with
      | nil => simp at ld; omega
      | cons d r =>
        refine ⟨d, r, rfl, ?_, ?_, ?_⟩
        · rw [wt_tup]
          have : (d :: r).length ≤ 6 := by omega
          omega
        · simp only [nice]
          exact w2
        · simp only [PyData.depth]
          omega
    exact q _ _ _ dE dO ((W4.go gn).up (by omega)) G (G.tb ht)
end
end K1
set_option Elab.async false
set_option linter.all false
set_option maxRecDepth 100000
set_option maxHeartbeats 8000000
namespace K1
open PySem PySem.Spec PyProof.Rows L2 GxR NdefX GA SL
abbrev s_law_wide : Stmt := top 58
theorem sc_law_wide : FnScope ["well", "titles", "makers", "found", "many", "most", "k", "title", "some", "width", "sorts", "j"] ["well"] (defScope s_law_wide) := ⟨rfl, rfl, rfl, by decide +kernel, rfl, by decide +kernel, by decide +kernel⟩
def sp_wide (T : List Addr) : Sp := fun vs H Q _ => ∃ (a l : Addr) (k : Int), vs = [.ref a] ∧ k ≤ 274877906944 ∧ WellAt a l H k ∧ Tabs T H ∧
  ∀ v d H', Dv [a, l] H' v d → drawnOk d → WellAt a l H' (k + 10000) → Go T [a, l] H H' → Tabs T H' → Q v H'
/-- a list of four small numbers, none of M -/
def four (M : List Addr) (H : Hp) (v : V) : Prop := ∃ p x y z u, v = .ref p ∧ p ∉ M ∧ H p = some (.lst [.int x, .int y, .int z, .int u]) ∧ (1 ≤ x ∧ x ≤ 8) ∧ (1 ≤ y ∧ y ≤ 8) ∧ (1 ≤ z ∧ z ≤ 8) ∧ 1 ≤ u ∧ u ≤ 8
theorem four.go {T M M' : List Addr} {H H' : Hp} {v : V} (h : four M H v) (g : Go T M' H H') (s : ∀ b ∈ M', b ∈ M) : four M H' v := by
  obtain ⟨p, x, y, z, u, e, n, hp, r⟩ := h
  exact ⟨p, x, y, z, u, e, n, g.lst hp (fun w => n (s p w)), r⟩
theorem four.pick {M : List Addr} {H : Hp} {v : V} (h : four M H v) {i : Int} (h0 : 0 ≤ i) (h1 : i < 4) : ∃ p xs m, v = .ref p ∧ H p = some (.lst xs) ∧ atI xs i = some (.int m) ∧ 1 ≤ m ∧ m ≤ 8 := by
  obtain ⟨p, x, y, z, u, rfl, n, hp, a1, a2, a3, a4⟩ := h
  have : i = 0 ∨ i = 1 ∨ i = 2 ∨ i = 3 := by omega
  rcases this with rfl | rfl | rfl | rfl
  · exact ⟨p, _, x, rfl, hp, rfl, a1.1, a1.2⟩
  · exact ⟨p, _, y, rfl, hp, rfl, a2.1, a2.2⟩
  · exact ⟨p, _, z, rfl, hp, rfl, a3.1, a3.2⟩
  · exact ⟨p, _, u, rfl, hp, rfl, a4.1, a4.2⟩
theorem pick3 {M : List Addr} {H : Hp} {x y z : V} {i : Int} (h0 : 0 ≤ i) (h1 : i < 3) (f1 : four M H x) (f2 : four M H y) (f3 : four M H z) : ∃ v, atI [x, y, z] i = some v ∧ four M H v := by
  have : i = 0 ∨ i = 1 ∨ i = 2 := by omega
  rcases this with rfl | rfl | rfl
  · exact ⟨x, rfl, f1⟩
  · exact ⟨y, rfl, f2⟩
  · exact ⟨z, rfl, f3⟩
theorem at04 {i : Int} (h0 : 0 ≤ i) (h1 : i < 5) : ∃ m : Int, atI [V.int 0, V.int 4, V.int 3, V.int 5, V.int 1] i = some (.int m) ∧ 0 ≤ m ∧ m ≤ 5 := by
  have : i = 0 ∨ i = 1 ∨ i = 2 ∨ i = 3 ∨ i = 4 := by omega
  rcases this with rfl | rfl | rfl | rfl | rfl
  · exact ⟨0, rfl, by decide, by decide⟩
  · exact ⟨4, rfl, by decide, by decide⟩
  · exact ⟨3, rfl, by decide, by decide⟩
  · exact ⟨5, rfl, by decide, by decide⟩
  · exact ⟨1, rfl, by decide, by decide⟩
def mkOk5 (d : PyData) : Prop := wt d ≤ 838 ∧ nice 0 d = true ∧ d.depth ≤ 2
theorem maker_ok5 {mk : Str} {fs : List Str} (hm : nmOk mk) (hf : ∀ x ∈ fs, fdOk x) (hl : fs.length ≤ 5) : mkOk5 (.tuple [.str mk, .tuple (fs.map .str)]) := by
  obtain ⟨h1, h2, h3⟩ := strs_wt hf
  refine ⟨?_, ?_, ?_⟩
  · rw [wt_pair, wt_tup]
    have := hm.2.2
    show 12 * mk.length + 4 + _ + 8 ≤ 838
    omega
  · simp only [nice, niceAll]
    rw [hm.1, h2] <;> rfl
  · simp only [PyData.depth, PyData.depthAll]
    rw [h3]
    decide
theorem kind_ok5 {t : Str} {ls : List PyData} (ht : nmOk t) (h : ∀ d ∈ ls, mkOk5 d) (hl : ls.length ≤ 8) : kdOk (.tuple [.str t, .tuple ls]) := by
  obtain ⟨h1, h2, h3⟩ := all_bd h
  refine ⟨?_, ?_, ?_⟩
  · rw [wt_pair, wt_tup]
    have := ht.2.2
    show 12 * t.length + 4 + _ + 8 ≤ 9000
    omega
  · simp only [nice, niceAll]
    rw [ht.1, h2] <;> rfl
  · simp only [PyData.depth, PyData.depthAll]
    omega
section
variable {P : Program} {w : World} {K : PySem.W.Frag} {mg : Str → Option Value} {base : Heap} {f c CK CN CT CR : Addr} {fd : FuncData} {T : List Addr}
theorem ok_law_wide (F : Fun K "_law_wide" "_law_wide" s_law_wide f fd) (B : Bl mg) (Fd : Fnn P w K mg base CX0 1 "_law_draw" ["well", "many"] (sp_draw T)) (Fn : Fnn P w K mg base CX0 2 "_law_name" ["well", "taken", "high"] (sp_name T)) : FnOk P w K mg base CX0 3 f fd ["well"] (sp_wide T) := by
  have nd := sc_law_wide.nd
  refine F.ok sc_law_wide (fun vs H Q E h => ?_) (fun cdv A outer s H vs Q E hr h => ?_)
  · obtain ⟨_, _, _, rfl, _⟩ := h
    rfl
  obtain ⟨a, l, k, rfl, hk, W, ht, q⟩ := h
  refine ⟨_, (pss_cons (ps_par3 (i := 1) (j := 2) (k := 3) rfl nd rfl rfl rfl rfl rfl rfl (pa_cons (pe_lst pa_nil) (pa_cons (pe_lst pa_nil) (pa_cons (pe_lst pa_nil) pa_nil))) rfl)
    (pss_cons (ps_set (i := 4) nd rfl (Or.inl rfl) (pe_ix ix_list (pe_lst (pa_cons (pe_lst (pa_cons pe_int (pa_cons pe_int (pa_cons pe_int (pa_cons pe_int pa_nil))))) (pa_cons (pe_lst (pa_cons pe_int (pa_cons pe_int (pa_cons pe_int (pa_cons pe_int pa_nil))))) (pa_cons (pe_lst (pa_cons pe_int (pa_cons pe_int (pa_cons pe_int (pa_cons pe_int pa_nil))))) pa_nil)))) (pe_fn Fd hr (by decide) pass0 (pa_cons (pv 0) (pa_cons pe_int pa_nil))) (fun _ _ => rfl)))
    (pss_cons (ps_set (i := 5) nd rfl (Or.inl rfl) (pe_ix ix_list (pe_lst (pa_cons (pe_lst (pa_cons pe_int (pa_cons pe_int (pa_cons pe_int (pa_cons pe_int pa_nil))))) (pa_cons (pe_lst (pa_cons pe_int (pa_cons pe_int (pa_cons pe_int (pa_cons pe_int pa_nil))))) (pa_cons (pe_lst (pa_cons pe_int (pa_cons pe_int (pa_cons pe_int (pa_cons pe_int pa_nil))))) pa_nil)))) (pe_fn Fd hr (by decide) pass0 (pa_cons (pv 0) (pa_cons pe_int pa_nil))) (fun _ _ => rfl)))
    (pss_cons (ps_for PassesOwn.never rfl (pi_range1 rfl B.range (pa_cons (pe_ix ix_list (pv 4) (pe_fn Fd hr (by decide) pass0 (pa_cons (pv 0) (pa_cons pe_int pa_nil))) (fun _ _ => rfl)) pa_nil)) (pg_name (i := 6) nd rfl (Or.inl rfl))
    (pss_one (ps_expr (pe_bm PySem.F.plainAttrs_list PySem.F.slot_list_append PySem.F.type_list_append mt_append (pv 1) (pa_cons (pe_fn Fn hr (by decide) pass0 (pa_cons (pv 0) (pa_cons (pv 1) (pa_cons pe_bl pa_nil)))) pa_nil)))))
    (pss_cons (ps_for PassesOwn.never rfl (pi_list (pv 1)) (pg_name (i := 7) nd rfl (Or.inl rfl))
    (pss_cons (ps_set (i := 8) nd rfl (Or.inl rfl) (pe_lst pa_nil))
    (pss_cons (ps_for PassesOwn.never rfl (pi_range1 rfl B.range (pa_cons (pe_ix ix_list (pv 5) (pe_fn Fd hr (by decide) pass0 (pa_cons (pv 0) (pa_cons pe_int pa_nil))) (fun _ _ => rfl)) pa_nil)) (pg_name (i := 6) nd rfl (Or.inl rfl))
    (pss_cons (ps_expr (pe_bm PySem.F.plainAttrs_list PySem.F.slot_list_append PySem.F.type_list_append mt_append (pv 2) (pa_cons (pe_fn Fn hr (by decide) pass0 (pa_cons (pv 0) (pa_cons (pv 2) (pa_cons pe_bl pa_nil)))) pa_nil)))
    (pss_cons (ps_set (i := 9) nd rfl (Or.inl rfl) (pe_ix ix_list (pe_lst (pa_cons pe_int (pa_cons pe_int (pa_cons pe_int (pa_cons pe_int (pa_cons pe_int pa_nil)))))) (pe_op op_mul (pe_fn Fd hr (by decide) pass0 (pa_cons (pv 0) (pa_cons pe_int pa_nil))) (pe_toInt B (pe_cmpR op_eq (pe_fn Fd hr (by decide) pass0 (pa_cons (pv 0) (pa_cons pe_int pa_nil))) pe_int (nomark _)))) (fun _ _ => rfl)))
    (pss_cons (ps_set (i := 10) nd rfl (Or.inr rfl) (pe_op op_cat (pv 1) (pe_lst (pa_cons pe_str pa_nil))))
    (pss_one (ps_expr (pe_bm PySem.F.plainAttrs_list PySem.F.slot_list_append PySem.F.type_list_append mt_append (pv 8) (pa_cons (pe_tup (pa_cons (pe_ix ix_list (pv 2) (pe_un un_neg pe_int) (fun _ _ => rfl)) (pa_cons (pe_toTup B (pe_lc (own := [("j", 11)]) (g := gName 11) (tt := tYes) (te := tOp (rIxL K) (tVar 10) (tCall (sp_draw T) [] E0 (tCons (tVar 0) (tCons (tCB (rLenQ K) (tCons (tVar 10) tNil)) tNil)))) rfl nd (pi_range1 rfl B.range (pa_cons (pv 9) pa_nil)) (blkOk_by (own := [("j", 11)]) (N := ["well", "titles", "makers", "found", "many", "most", "k", "title", "some", "width", "sorts", "j"]) (sc := defScope s_law_wide) (by decide +kernel))
        (fun _ _ _ _ _ => (pg_name (i := 11) nd rfl (Or.inl rfl))) (fun _ _ _ _ _ => pts_nil) (fun _ _ _ _ _ => (pe_ix ix_list (pv 10) (pe_fn Fd hr (by decide) pass0 (pa_cons (pv 0) (pa_cons (pe_lenq B (pv 10)) pa_nil))) (fun _ _ => rfl))))) pa_nil))) pa_nil))))))))
    (pss_one (ps_expr (pe_bm PySem.F.plainAttrs_list PySem.F.slot_list_append PySem.F.type_list_append mt_append (pv 3) (pa_cons (pe_tup (pa_cons (pv 7) (pa_cons (pe_toTup B (pv 8)) pa_nil))) pa_nil)))))))
    (pss_one (ps_ret (pe_toTup B (pv 3))))))))), ?_⟩
  refine ⟨by show 0 ≤ sizeLine; omega, fun tt ht1 => ⟨by show 0 ≤ sizeLine; omega, fun mm hm1 => ⟨by show 0 ≤ sizeLine; omega, fun ff hf1 => ⟨_, _, _, rfl, ?_⟩⟩⟩⟩
  have nn : ∀ b : Addr, b ∉ ([] : List Addr) := fun b => List.not_mem_nil
  have s1 := Go.new (T := T) (M := []) (o := .lst []) ht1
  have s2 := Go.new (T := T) (M := []) (o := .lst []) hm1
  have s3 := Go.new (T := T) (M := []) (o := .lst []) hf1
  have W1 := ((W.go s1).go s2).go s3
  have g0 : Go T [] H (upd (upd (upd H tt (.lst [])) mm (.lst [])) ff (.lst [])) := (s1.trans s2).trans s3
  have ett : upd (upd (upd H tt (.lst [])) mm (.lst [])) ff (.lst []) tt = some (.lst []) := s3.lst (s2.lst upd_same (nn _)) (nn _)
  have emm : upd (upd (upd H tt (.lst [])) mm (.lst [])) ff (.lst []) mm = some (.lst []) := s3.lst upd_same (nn _)
  have eff : upd (upd (upd H tt (.lst [])) mm (.lst [])) ff (.lst []) ff = some (.lst []) := upd_same
  have nt := W.ne ht1
  have nm := (W.go s1).ne hm1
  have nf := ((W.go s1).go s2).ne hf1
  have tm : tt ≠ mm := ne_of_none (upd_same (H := H)) hm1
  have tf : tt ≠ ff := ne_of_none (s2.lst (upd_same (H := H) (a := tt)) (nn _)) hf1
  have mf : mm ≠ ff := ne_of_none (upd_same (a := mm) (o := .lst [])) hf1
  have fresh : ∀ b ∈ [a, l, tt, mm, ff], b ∈ [a, l] ∨ H b = none := fun b hb => by
    simp only [List.mem_cons, List.not_mem_nil, or_false] at hb
    rcases hb with rfl | rfl | rfl | rfl | rfl
    · exact .inl (by simp)
    · exact .inl (by simp)
    · exact .inr ht1
    · exact .inr (upd_none hm1)
    · exact .inr (upd_none (upd_none hf1))
  have W0 := W
  generalize upd (upd (upd H tt (.lst [])) mm (.lst [])) ff (.lst []) = H1 at *
  have up2 : ∀ b ∈ [a, l], b ∈ [a, l, tt, mm, ff] := fun b hb => by
    simp only [List.mem_cons, List.not_mem_nil, or_false] at hb ⊢
    rcases hb with rfl | rfl <;> simp
  have n5 : ∀ {H' : Hp} {p : Addr} {o1 o2 o3 : HO} {k' : Int}, WellAt a l H' k' → H' tt = some o1 → H' mm = some o2 → H' ff = some o3 → H' p = none → p ∉ [a, l, tt, mm, ff] := fun {H' p o1 o2 o3 k'} w e1 e2 e3 hp => by
    have w := w.ne hp
    simp [w.1, w.2, (ne_of_none e1 hp).symm, (ne_of_none e2 hp).symm, (ne_of_none e3 hp).symm]
  refine ⟨by show 4 ≤ sizeLine; decide, fun xl1 xh1 => ⟨by show 4 ≤ sizeLine; decide, fun xl2 xh2 => ⟨by show 4 ≤ sizeLine; decide, fun xl3 xh3 => ⟨by show 3 ≤ sizeLine; decide, fun xl4 xh4 => ?_⟩⟩⟩⟩
  have xc1 := Go.new (T := T) (M := []) (o := .lst [.int 5, .int 6, .int 7, .int 2]) xh1
  have xc2 := Go.new (T := T) (M := []) (o := .lst [.int 1, .int 2, .int 3, .int 1]) xh2
  have xc3 := Go.new (T := T) (M := []) (o := .lst [.int 1, .int 1, .int 2, .int 3]) xh3
  have xc4 := Go.new (T := T) (M := []) (o := .lst [.ref xl1, .ref xl2, .ref xl3]) xh4
  have xc12 := xc1.trans xc2
  have xc123 := xc12.trans xc3
  have xcA := xc123.trans xc4
  have xf1 : four [a, l, tt, mm, ff] _ (.ref xl1) := ⟨xl1, _, _, _, _, rfl, n5 W1 ett emm eff xh1, ((xc2.trans xc3).trans xc4).lst upd_same (nn _), ⟨by decide, by decide⟩, ⟨by decide, by decide⟩, ⟨by decide, by decide⟩, by decide, by decide⟩
  have xf2 : four [a, l, tt, mm, ff] _ (.ref xl2) := ⟨xl2, _, _, _, _, rfl, n5 (W1.go xc1) (xc1.lst ett (nn _)) (xc1.lst emm (nn _)) (xc1.lst eff (nn _)) xh2, (xc3.trans xc4).lst upd_same (nn _), ⟨by decide, by decide⟩, ⟨by decide, by decide⟩, ⟨by decide, by decide⟩, by decide, by decide⟩
  have xf3 : four [a, l, tt, mm, ff] _ (.ref xl3) := ⟨xl3, _, _, _, _, rfl, n5 (W1.go xc12) (xc12.lst ett (nn _)) (xc12.lst emm (nn _)) (xc12.lst eff (nn _)) xh3, xc4.lst upd_same (nn _), ⟨by decide, by decide⟩, ⟨by decide, by decide⟩, ⟨by decide, by decide⟩, by decide, by decide⟩
  have xn4 := n5 (W1.go xc123) (xc123.lst ett (nn _)) (xc123.lst emm (nn _)) (xc123.lst eff (nn _)) xh4
  have gB := g0.trans xcA
  refine ⟨_, rfl, a, l, k, 3, rfl, by decide, by decide, by omega, W1.go xcA, gB.tb ht, fun i1 H2 i10 i11 W2 g2 t2 => ?_⟩
  obtain ⟨vM, eM, fM⟩ := pick3 i10 i11 xf1 xf2 xf3
  refine ⟨xl4, _, i1, _, rfl, rfl, SqL.of (g2.lst upd_same (fun z => xn4 (up2 _ z))), eM, ?_⟩
  have fM2 := fM.go g2 up2
  have ett2 := g2.lst (xcA.lst ett (nn _)) (nin nt)
  have emm2 := g2.lst (xcA.lst emm (nn _)) (nin nm)
  have eff2 := g2.lst (xcA.lst eff (nn _)) (nin nf)
  have G2 : Go T [a, l] H H2 := gB.of0.trans g2
  refine ⟨by show 4 ≤ sizeLine; decide, fun yl1 yh1 => ⟨by show 4 ≤ sizeLine; decide, fun yl2 yh2 => ⟨by show 4 ≤ sizeLine; decide, fun yl3 yh3 => ⟨by show 3 ≤ sizeLine; decide, fun yl4 yh4 => ?_⟩⟩⟩⟩
  have yc1 := Go.new (T := T) (M := []) (o := .lst [.int 1, .int 2, .int 1, .int 1]) yh1
  have yc2 := Go.new (T := T) (M := []) (o := .lst [.int 5, .int 6, .int 7, .int 8]) yh2
  have yc3 := Go.new (T := T) (M := []) (o := .lst [.int 2, .int 1, .int 6, .int 7]) yh3
  have yc4 := Go.new (T := T) (M := []) (o := .lst [.ref yl1, .ref yl2, .ref yl3]) yh4
  have yc12 := yc1.trans yc2
  have yc123 := yc12.trans yc3
  have ycA := yc123.trans yc4
  have yf1 : four [a, l, tt, mm, ff] _ (.ref yl1) := ⟨yl1, _, _, _, _, rfl, n5 W2 ett2 emm2 eff2 yh1, ((yc2.trans yc3).trans yc4).lst upd_same (nn _), ⟨by decide, by decide⟩, ⟨by decide, by decide⟩, ⟨by decide, by decide⟩, by decide, by decide⟩
  have yf2 : four [a, l, tt, mm, ff] _ (.ref yl2) := ⟨yl2, _, _, _, _, rfl, n5 (W2.go yc1) (yc1.lst ett2 (nn _)) (yc1.lst emm2 (nn _)) (yc1.lst eff2 (nn _)) yh2, (yc3.trans yc4).lst upd_same (nn _), ⟨by decide, by decide⟩, ⟨by decide, by decide⟩, ⟨by decide, by decide⟩, by decide, by decide⟩
  have yf3 : four [a, l, tt, mm, ff] _ (.ref yl3) := ⟨yl3, _, _, _, _, rfl, n5 (W2.go yc12) (yc12.lst ett2 (nn _)) (yc12.lst emm2 (nn _)) (yc12.lst eff2 (nn _)) yh3, yc4.lst upd_same (nn _), ⟨by decide, by decide⟩, ⟨by decide, by decide⟩, ⟨by decide, by decide⟩, by decide, by decide⟩
  have yn4 := n5 (W2.go yc123) (yc123.lst ett2 (nn _)) (yc123.lst emm2 (nn _)) (yc123.lst eff2 (nn _)) yh4
  refine ⟨_, rfl, a, l, k + 1, 3, rfl, by decide, by decide, by omega, W2.go ycA, (G2.trans ycA.of0).tb ht, fun i2 H3 i20 i21 W3 g3 t3 => ?_⟩
  obtain ⟨vS, eS, fS⟩ := pick3 i20 i21 yf1 yf2 yf3
  refine ⟨yl4, _, i2, _, rfl, rfl, SqL.of (g3.lst upd_same (fun z => yn4 (up2 _ z))), eS, ?_⟩
  have fS3 := fS.go g3 up2
  have fM3 := (fM2.go ycA (by simp)).go g3 up2
  have ett3 := g3.lst (ycA.lst ett2 (nn _)) (nin nt)
  have emm3 := g3.lst (ycA.lst emm2 (nn _)) (nin nm)
  have eff3 := g3.lst (ycA.lst eff2 (nn _)) (nin nf)
  have G3 : Go T [a, l] H H3 := (G2.trans ycA.of0).trans g3
  refine ⟨_, rfl, _, rfl, a, l, k + 1 + 1, 4, rfl, by decide, by decide, by omega, W3, t3, fun i3 H4 i30 i31 W4 g4 t4 => ?_⟩
  obtain ⟨pM, xM, mM, rfl, epM, eaM, mM1, mM8⟩ := (fM3.go g4 up2).pick i30 i31
  have fM4 := fM3.go g4 up2
  have fS4 := fS3.go g4 up2
  refine ⟨pM, xM, i3, .int mM, rfl, rfl, SqL.of epM, eaM, mM, rfl, by omega, by omega, ?_⟩
  have G4 := G3.trans g4
  have ett4 := g4.lst ett3 (nin nt)
  have emm4 := g4.lst emm3 (nin nm)
  have eff4 := g4.lst eff3 (nin nf)
  have idM : ∀ b ∈ [a, l, tt, mm, ff], b ∈ [a, l, tt, mm, ff] := fun _ h => h
  refine for_it (walk_range (lo := 0) (n := mM.toNat)) (fun i σ H' => ∃ (ts : List Str) (p : Option V), σ = [some (.ref a), some (.ref tt), some (.ref mm), some (.ref ff), some (.ref pM), some vS, p, none, none, none, none, none] ∧ Go T [a, l, tt, mm, ff] H H' ∧ WellAt a l H' (k + 3 + 30 * i) ∧ H' tt = some (.lst (ts.map V.str)) ∧ ts.length = i ∧ (∀ x ∈ ts, nmOk x) ∧ H' mm = some (.lst []) ∧ H' ff = some (.lst []) ∧ four [a, l, tt, mm, ff] H' vS)
    ⟨[], none, rfl, G4.more up2, W4.up (by omega), ett4, rfl, by simp, emm4, eff4, fS4⟩ (fun _ _ _ _ _ => trivial) (fun i x σ H5 H6 hi h y => ?_) (fun σ H5 h => ?_)
  · obtain ⟨ts, p, rfl, gg, W5, e1, l1, hx, e2, e3, fS5⟩ := h
    obtain ⟨rfl, rfl⟩ := y
    refine ⟨_, rfl, .inl ⟨rfl, _, SqL.of e1⟩, _, rfl, _, rfl, a, l, tt, k + 3 + 30 * i, ts, rfl, by omega, W5, nt.1, nt.2, e1, hx, by omega, gg.tb ht, fun x H7 hx7 W7 g7 t7 => ?_⟩
    have e7 := g7.lst e1 (nin nt)
    have Gs := Go.set (T := T) (M := [a, l, tt, mm, ff]) (o := .lst (ts.map V.str ++ [V.str x])) e7 (fun _ z => by cases z) (by simp)
    refine ⟨tt, _, _, rfl, rfl, e7, by rw [List.length_map, sizeLine_eq]; omega, ts ++ [x], _, rfl, (gg.trans (g7.more up2)).trans Gs, (W7.set nt).up (by omega), by rw [upd_same, List.map_append] <;> rfl, by rw [List.length_append, l1] <;> rfl, ?_, ?_, ?_, (fS5.go g7 up2).go Gs idM⟩
    · intro y hy
      rcases List.mem_append.mp hy with z | z
      · exact hx y z
      · rw [List.mem_singleton.mp z]; exact hx7
    · rw [upd_ne tm.symm]; exact g7.lst e2 (nin nm)
    · rw [upd_ne tf.symm]; exact g7.lst e3 (nin nf)
  obtain ⟨ts, p, rfl, gg, W5, e1, l1, hx, e2, e3, fS5⟩ := h
  have lts : ts.length ≤ 8 := by omega
  have lts1 : 1 ≤ ts.length := by omega
  refine ⟨_, rfl, tt, rfl, ⟨_, SqL.of e1⟩, ?_⟩
  refine for_it (n := (ts.map V.str).length) walk_list (fun i σ H' => ∃ (ms : List Str) (vs : List V) (ds : List PyData) (p6 p7 p8 p9 p10 : Option V), σ = [some (.ref a), some (.ref tt), some (.ref mm), some (.ref ff), some (.ref pM), some vS, p6, p7, p8, p9, p10, none] ∧ Go T [a, l, tt, mm, ff] H H' ∧ WellAt a l H' (k + 300 + 800 * i) ∧
      H' tt = some (.lst (ts.map V.str)) ∧ H' mm = some (.lst (ms.map V.str)) ∧ ms.length ≤ 8 * i ∧ (∀ x ∈ ms, nmOk x) ∧ H' ff = some (.lst vs) ∧ DvAll [a, l, tt, mm, ff] H' vs ds ∧ ds.length = i ∧ (∀ d ∈ ds, kdOk d) ∧ four [a, l, tt, mm, ff] H' vS)
    ⟨[], [], [], p, none, none, none, none, rfl, gg, W5.up (by omega), e1, e2, by simp, by simp, e3, .nil, rfl, by simp, fS5⟩ (fun i σ H' _ ⟨_, _, _, _, _, _, _, _, _, _, _, e, _⟩ => SqL.of e) (fun i x σ H6 H7 hi h y => ?_) (fun σ H6 h => ?_)
  · obtain ⟨ms, vs, ds, p6, p7, p8, p9, p10, rfl, gg, W6, e1, e2, lm, hm, e3, dv, ld, hd, fS6⟩ := h
    obtain ⟨rfl, ex⟩ := y
    rw [List.getElem?_map] at ex
    obtain ⟨ti, ext, rfl⟩ := Option.map_eq_some_iff.mp ex
    have hti := hx ti (List.mem_of_getElem? ext)
    rw [List.length_map] at hi
    refine ⟨by show 0 ≤ sizeLine; omega, fun ss hss => ?_⟩
    have ns := W6.ne hss
    have st : tt ≠ ss := ne_of_none e1 hss
    have sm : mm ≠ ss := ne_of_none e2 hss
    have sf : ff ≠ ss := ne_of_none e3 hss
    have gs := Go.new (T := T) (M := []) (o := .lst []) hss
    have Ws := W6.go gs
    refine ⟨_, rfl, _, rfl, a, l, k + 300 + 800 * i, 4, rfl, by decide, by decide, by omega, Ws, gs.tb (gg.tb ht), fun i8 H8 j80 j81 W8 g8 t8 => ?_⟩
    obtain ⟨pS, xS, mS, eS0, epS, eaS, mS1, mS8⟩ := ((fS6.go gs (by simp)).go g8 up2).pick j80 j81
    refine ⟨pS, xS, i8, .int mS, eS0, rfl, SqL.of epS, eaS, mS, rfl, by omega, by omega, ?_⟩
    have up6 : ∀ b ∈ [a, l], b ∈ [ss, a, l, tt, mm, ff] := fun b hb => List.mem_cons_of_mem _ (up2 b hb)
    have gT : Go T [ss, a, l, tt, mm, ff] H7 H8 := gs.of0.trans (g8.more up6)
    refine for_it (walk_range (lo := 0) (n := mS.toNat)) (fun j σ H' => ∃ (ms : List Str) (ws : List V) (es : List PyData) (p6 p9 p10 : Option V), σ = [some (.ref a), some (.ref tt), some (.ref mm), some (.ref ff), some (.ref pM), some vS, p6, some (.str ti), some (.ref ss), p9, p10, none] ∧ Go T [ss, a, l, tt, mm, ff] H7 H' ∧ WellAt a l H' (k + 300 + 800 * i + 1 + 80 * j) ∧
        H' tt = some (.lst (ts.map V.str)) ∧ H' mm = some (.lst (ms.map V.str)) ∧ ms.length ≤ 8 * i + j ∧ (∀ x ∈ ms, nmOk x) ∧ H' ff = some (.lst vs) ∧ H' ss = some (.lst ws) ∧ DvAll [ss, a, l, tt, mm, ff] H' ws es ∧ es.length = j ∧ ∀ d ∈ es, mkOk5 d)
      ⟨ms, [], [], p6, p9, p10, rfl, gT, W8.up (by omega), g8.lst (gs.lst e1 (nn _)) (nin nt), g8.lst (gs.lst e2 (nn _)) (nin nm), by omega, hm, g8.lst (gs.lst e3 (nn _)) (nin nf), g8.lst (upd_same (H := H7) (a := ss) (o := .lst [])) (nin ns), .nil, rfl, by simp⟩ (fun _ _ _ _ _ => trivial) (fun j x σ H9 H10 hj h y => ?_) (fun σ H9 h => ?_)
    · obtain ⟨ms', ws, es, p6, p9, p10, rfl, G9, W9, f1, f2, lms, hms, f3, f4, dw, les, hes⟩ := h
      obtain ⟨rfl, rfl⟩ := y
      have hl8 : 8 * i + j ≤ 64 := by omega
      refine ⟨_, rfl, .inl ⟨rfl, _, SqL.of f2⟩, _, rfl, _, rfl, a, l, mm, k + 300 + 800 * i + 1 + 80 * j, ms', rfl, by omega, W9, nm.1, nm.2, f2, hms, by omega, G9.tb (gg.tb ht), fun xn H11 hxn W11 g11 t11 => ?_⟩
      have h1 := g11.lst f1 (nin nt)
      have h2 := g11.lst f2 (nin nm)
      have h3 := g11.lst f3 (nin nf)
      have h4 := g11.lst f4 (nin ns)
      have Gm := Go.set (T := T) (M := [ss, a, l, tt, mm, ff]) (o := .lst (ms'.map V.str ++ [V.str xn])) h2 (fun _ z => by cases z) (by simp)
      refine ⟨mm, _, _, rfl, rfl, h2, by rw [List.length_map, sizeLine_eq]; omega, ?_⟩
      have Ga := (G9.trans (g11.more up6)).trans Gm
      have Wa := W11.set (o := .lst (ms'.map V.str ++ [V.str xn])) nm
      have b1 : upd H11 mm (.lst (ms'.map V.str ++ [V.str xn])) tt = some (.lst (ts.map V.str)) := by rw [upd_ne tm]; exact h1
      have b2 : upd H11 mm (.lst (ms'.map V.str ++ [V.str xn])) mm = some (.lst (ms'.map V.str ++ [V.str xn])) := upd_same
      have b3 : upd H11 mm (.lst (ms'.map V.str ++ [V.str xn])) ff = some (.lst vs) := by rw [upd_ne mf.symm]; exact h3
      have b4 : upd H11 mm (.lst (ms'.map V.str ++ [V.str xn])) ss = some (.lst ws) := by rw [upd_ne sm.symm]; exact h4
      have dA := (dw.go (g11.more up6)).go Gm
      refine ⟨by show 5 ≤ sizeLine; decide, fun r0 hr0 => ?_⟩
      have u0 := Go.new (T := T) (M := []) (o := .lst [.int 0, .int 4, .int 3, .int 5, .int 1]) hr0
      refine ⟨_, rfl, a, l, k + 300 + 800 * i + 1 + 80 * j + 30, 5, rfl, by decide, by decide, by omega, Wa.go u0, u0.tb (Ga.tb (gg.tb ht)), fun i12 H12 j120 j121 W12 g12 t12 => ?_⟩
      refine ⟨_, rfl, a, l, k + 300 + 800 * i + 1 + 80 * j + 30 + 1, 4, rfl, by decide, by decide, by omega, W12, t12, fun i13 H13 j130 j131 W13 g13 t13 => ⟨rfl, .inr ⟨_, rfl, _, _, rfl, rfl, .inl ⟨by omega, by omega⟩, ?_⟩⟩⟩
      obtain ⟨idx, eidx, ix0, ix5⟩ : ∃ idx : Int, i12 * (if decide (V.int i13 = V.int 0) = true then 1 else 0) = idx ∧ 0 ≤ idx ∧ idx < 5 := by
        by_cases c : decide (V.int i13 = V.int 0) = true
        · exact ⟨i12, by rw [if_pos c, Int.mul_one], j120, j121⟩
        · exact ⟨0, by rw [if_neg c, Int.mul_zero], by decide, by decide⟩
      obtain ⟨wd, ewd, wd0, wd5⟩ := at04 ix0 ix5
      have gbt : Go T [a, l] _ H13 := g12.trans g13
      refine ⟨r0, _, idx, _, rfl, by rw [← eidx], SqL.of (gbt.lst upd_same (nin (Wa.ne hr0))), ewd, ?_⟩
      have Gc := (Ga.trans u0.of0).trans (gbt.more up6)
      have c1 := gbt.lst (u0.lst b1 (nn _)) (nin nt)
      have c2 := gbt.lst (u0.lst b2 (nn _)) (nin nm)
      have c3 := gbt.lst (u0.lst b3 (nn _)) (nin nf)
      have c4 := gbt.lst (u0.lst b4 (nn _)) (nin ns)
      have dC := (dA.go u0.of0).go (gbt.more up6)
      refine ⟨_, rfl, by show 1 ≤ sizeLine; decide, fun r1 hr1 => ?_⟩
      have u1 := Go.new (T := T) (M := []) (o := .lst [.str "number"]) hr1
      refine ⟨tt, r1, _, _, rfl, rfl, u1.lst c1 (nn _), upd_same, by rw [List.length_map, sizeLine_eq]; show ts.length + 1 ≤ _; omega, fun r2 hr2 => ?_⟩
      have u2 := Go.new (T := T) (M := []) (o := .lst (ts.map V.str ++ [V.str "number"])) hr2
      have uu := u1.trans u2
      have v1' := uu.lst c1 (nn _)
      have v2' := uu.lst c2 (nn _)
      have v3' := uu.lst c3 (nn _)
      have v4' := uu.lst c4 (nn _)
      have Wu := W13.go uu
      have Gu := Gc.trans uu.of0
      have dU := dC.go (uu.of0 (M := [ss, a, l, tt, mm, ff]))
      have er2 : upd (upd H13 r1 (.lst [.str "number"])) r2 (.lst (ts.map V.str ++ [V.str "number"])) r2 = some (.lst (ts.map V.str ++ [V.str "number"])) := upd_same
      have nr2 := (W13.go u1).ne hr2
      have all9 : ∀ v ∈ (ts.map V.str ++ [V.str "number"]), ∃ z, v = V.str z ∧ fdOk z := fun v hv => by
        rcases List.mem_append.mp hv with z | z
        · obtain ⟨y, hy, rfl⟩ := List.mem_map.mp z
          exact ⟨y, rfl, (hx y hy).1, (hx y hy).2.2⟩
        · rw [List.mem_singleton.mp z]
          exact ⟨"number", rfl, by decide +kernel, by decide +kernel⟩
      generalize upd (upd H13 r1 (.lst [.str "number"])) r2 (.lst (ts.map V.str ++ [V.str "number"])) = HB at *
      refine ⟨_, rfl, .inl ⟨rfl, _, SqL.of v4'⟩, _, rfl, _, rfl, mm, _, -1, .str xn, rfl, rfl, SqL.of v2', atI_last _ _, _, rfl, wd, rfl, by omega, by omega, fun D hD => ?_⟩
      have nD := Wu.ne hD
      have nD2 : r2 ≠ D := ne_of_none er2 hD
      refine lc_it (walk_range (lo := 0) (n := wd.toNat)) (fun i' H' => Go T [a, l] HB H' ∧ WellAt a l H' (k + 300 + 800 * i + 1 + 80 * j + 40 + i') ∧ ∃ fs : List Str, H' D = some (.lst (fs.map V.str)) ∧ fs.length = i' ∧ ∀ x ∈ fs, fdOk x)
        ⟨Go.new hD, (Wu.set nD).up (by omega), [], upd_same, rfl, by simp⟩ (fun _ _ _ _ => trivial) (fun i' x H15 H16 hi' h y => ?_) (fun H15 h => ?_)
      · obtain ⟨v1, v2, fs, v3, v4, v5⟩ := h
        obtain ⟨rfl, rfl⟩ := y
        have er := v1.lst er2 (nin nr2)
        refine ⟨rfl, _, rfl, _, rfl, _, rfl, r2, _, rfl, .inl (SqL.of er), a, l, k + 300 + 800 * i + 1 + 80 * j + 40 + i', _, rfl, by rw [List.length_append, List.length_singleton]; omega, by rw [List.length_append, List.length_map, List.length_singleton]; omega, by omega, v2, v1.tb (Gu.tb (gg.tb ht)), fun ib Hb jb0 jb1 Wb' gb tb => ?_⟩
        obtain ⟨vo, eo, mo⟩ := at_ok jb0 jb1
        obtain ⟨z, rfl, hz⟩ := all9 _ mo
        have v3b := gb.lst v3 (nin nD)
        refine ⟨r2, _, ib, _, rfl, rfl, SqL.of (gb.lst er (nin nr2)), eo, _, v3b, by rw [List.length_map, sizeLine_eq]; omega, (v1.trans gb).over hD v3b (fun _ z => by cases z), (Wb'.set nD).up (by omega), fs ++ [z], by rw [upd_same, List.map_append] <;> rfl, by rw [List.length_append, v4] <;> rfl, fun x hx' => ?_⟩
        rcases List.mem_append.mp hx' with w | w
        · exact v5 x w
        · rw [List.mem_singleton.mp w]; exact hz
      · obtain ⟨v1, v2, fs, v3, v4, v5⟩ := h
        have lf5 : fs.length ≤ 5 := by omega
        have d1 := v1.lst v1' (nin nt)
        have d2 := v1.lst v2' (nin nm)
        have d3 := v1.lst v3' (nin nf)
        have d4 := v1.lst v4' (nin ns)
        have dD := dU.go (v1.more up6)
        have Gd := Gu.trans (v1.more up6)
        refine .inl ⟨D, _, rfl, SqL.of v3, fun t1 ht1 => ⟨by show 2 ≤ sizeLine; decide, fun t2 ht2 => ?_⟩⟩
        have x1 := Go.new (T := T) (M := []) (o := .tup (fs.map V.str)) ht1
        have x2 := Go.new (T := T) (M := []) (o := .tup [.str xn, .ref t1]) ht2
        have xx := x1.trans x2
        have n6 : ∀ p : Addr, H15 p = none → p ∉ [ss, a, l, tt, mm, ff] := fun p hp => by
          have w := v2.ne hp
          simp [w.1, w.2, (ne_of_none d1 hp).symm, (ne_of_none d2 hp).symm, (ne_of_none d3 hp).symm, (ne_of_none d4 hp).symm]
        have y4 := xx.lst d4 (nn _)
        have lw := dD.length
        have Gs := Go.set (T := T) (M := [ss, a, l, tt, mm, ff]) (o := .lst (ws ++ [V.ref t2])) y4 (fun _ z => by cases z) (by simp)
        refine ⟨ss, ws, _, rfl, rfl, y4, by rw [sizeLine_eq]; omega, ms' ++ [xn], ws ++ [.ref t2], es ++ [.tuple [.str xn, .tuple (fs.map .str)]], _, _, _, rfl, (Gd.trans xx.of0).trans Gs, ((v2.go xx).set ns).up (by omega), ?_, ?_, by rw [List.length_append, List.length_singleton]; omega, ?_, ?_, upd_same, ?_, by rw [List.length_append, les] <;> rfl, ?_⟩
        · rw [upd_ne st]; exact xx.lst d1 (nn _)
        · rw [upd_ne sm, List.map_append]; exact xx.lst d2 (nn _)
        · intro y hy
          rcases List.mem_append.mp hy with z | z
          · exact hms y z
          · rw [List.mem_singleton.mp z]; exact hxn
        · rw [upd_ne sf]; exact xx.lst d3 (nn _)
        · exact DvAll.go (T := T) (DvAll.append (dD.go xx.of0) (.cons (.tup upd_same (n6 t2 (x1.al _ ht2)) (.cons (.str _) (.cons (.tup ((x2.tup upd_same (nn _))) (n6 t1 ht1) (DvAll.strs _)) .nil))) .nil)) Gs
        · intro d hd'
          rcases List.mem_append.mp hd' with z | z
          · exact hes d z
          · rw [List.mem_singleton.mp z]; exact maker_ok5 hxn v5 lf5
    · obtain ⟨ms', ws, es, p6, p9, p10, rfl, G9, W9, f1, f2, lms, hms, f3, f4, dw, les, hes⟩ := h
      have lw := dw.length
      have cut6 : ∀ b ∈ [ss, a, l, tt, mm, ff], b ∈ [a, l, tt, mm, ff] ∨ H7 b = none := fun b hb => by
        rcases List.mem_cons.mp hb with rfl | hb
        · exact .inr hss
        · exact .inl hb
      have G5 : Go T [a, l, tt, mm, ff] H7 H9 := G9.cut cut6
      have up5 : ∀ b ∈ [a, l, tt, mm, ff], b ∈ [ss, a, l, tt, mm, ff] := fun b hb => List.mem_cons_of_mem _ hb
      refine ⟨_, rfl, .inl ⟨rfl, _, SqL.of f3⟩, _, rfl, _, rfl, .inl ⟨ss, _, rfl, SqL.of f4, fun t1 ht1 => ⟨by show 2 ≤ sizeLine; decide, fun t2 ht2 => ?_⟩⟩⟩
      have x1 := Go.new (T := T) (M := []) (o := .tup ws) ht1
      have x2 := Go.new (T := T) (M := []) (o := .tup [.str ti, .ref t1]) ht2
      have xx := x1.trans x2
      have m5 : ∀ p : Addr, H9 p = none → p ∉ [a, l, tt, mm, ff] := fun p hp => by
        have w := W9.ne hp
        simp [w.1, w.2, (ne_of_none f1 hp).symm, (ne_of_none f2 hp).symm, (ne_of_none f3 hp).symm]
      have y3 := xx.lst f3 (nn _)
      have Gs := Go.set (T := T) (M := [a, l, tt, mm, ff]) (o := .lst (vs ++ [V.ref t2])) y3 (fun _ z => by cases z) (by simp)
      have lv := dv.length
      have dX := (dw.less up5).go (xx.of0 (M := [a, l, tt, mm, ff]))
      have hl8 : es.length ≤ 8 := by omega
      refine ⟨ff, vs, _, rfl, rfl, y3, by rw [sizeLine_eq]; omega, ms', vs ++ [.ref t2], ds ++ [.tuple [.str ti, .tuple es]], _, _, _, _, _, rfl, ((gg.trans G5).trans xx.of0).trans Gs, ((W9.go xx).set nf).up (by omega), ?_, ?_, by omega, hms, upd_same, ?_, by rw [List.length_append, ld] <;> rfl, ?_, ((fS6.go G5 idM).go xx (by simp)).go Gs idM⟩
      · rw [upd_ne tf]; exact xx.lst f1 (nn _)
      · rw [upd_ne mf]; exact xx.lst f2 (nn _)
      · have dvE := ((dv.go G5).go (xx.of0 (M := [a, l, tt, mm, ff])))
        exact DvAll.go (T := T) (DvAll.append dvE (.cons (.tup upd_same (m5 t2 (x1.al _ ht2)) (.cons (.str _) (.cons (.tup (x2.tup upd_same (nn _)) (m5 t1 ht1) dX) .nil))) .nil)) Gs
      · intro d hd'
        rcases List.mem_append.mp hd' with z | z
        · exact hd d z
        · rw [List.mem_singleton.mp z]
          exact kind_ok5 hti hes hl8
  · obtain ⟨ms, vs, ds, p6, p7, p8, p9, p10, rfl, gg, W6, e1, e2, lm, hm, e3, dv, ld, hd, fS6⟩ := h
    rw [List.length_map] at ld W6
    have lv := dv.length
    refine ⟨_, rfl, .inl ⟨ff, _, rfl, SqL.of e3, fun t hnew => ?_⟩⟩
    have gn := Go.new (T := T) (M := []) (o := .tup vs) hnew
    have G := (gg.cut fresh).trans gn.of0
    obtain ⟨w1, w2, w3⟩ := all_bd hd
    have wne := W6.ne hnew
    have dE : Dv [a, l] (upd H6 t (.tup vs)) (.ref t) (.tuple ds) := .tup upd_same (nin wne) ((dv.go gn.of0).less up2)
    have dO : drawnOk (.tuple ds) := by
      cases ds with
      | nil => simp at ld; omega
      | cons d r =>
        refine ⟨d, r, rfl, ?_, ?_, ?_⟩
        · rw [wt_tup]
          have : (d :: r).length ≤ 8 := by omega
          omega
        · simp only [nice]
          exact w2
        · simp only [PyData.depth]
          omega
    exact q _ _ _ dE dO ((W6.go gn).up (by omega)) G (G.tb ht)
end
end K1
set_option Elab.async false
set_option linter.all false
set_option maxRecDepth 100000
set_option maxHeartbeats 8000000
namespace SL
open PySem PySem.Spec PyProof.Rows L2 GxR NdefX GA
theorem pe_strN {X : Cx} {a : Expr} {ta : TE} {p pos : Pos} (B : Bl X.mg) (ha : PE X a ta) (h1 : Gl X "str" := by rfl) (he : starEach (a :: []) X.env = (false, eval a X.env) :: starEach [] X.env := by rfl) : PE X (.Call (.Name "str" p) [a] [] pos) (tCB rStrN (tCons ta tNil)) :=
  pe_callTy cr_strN h1 B.str (by decide +kernel) (pa_cons ha pa_nil he) (by decide) (by decide) he
end SL
namespace K1
open PySem PySem.Spec PyProof.Rows L2 GxR NdefX GA SL
abbrev s_law_bent : Stmt := top 55
theorem sc_law_bent : FnScope ["well", "value", "at", "ways", "signs", "sign", "odd"] ["well", "value"] (defScope s_law_bent) := ⟨rfl, rfl, rfl, by decide +kernel, rfl, by decide +kernel, by decide +kernel⟩
/-- what a value near data is: not much greater -/
def nearOk (n : Nat) (d d' : PyData) : Prop := nice (n * 1000000000 + 1000000000000000000000000000000) d' = true ∧ wt d' ≤ 3 * wt d + 2000 ∧ d'.depth ≤ d.depth + 3
def sp_bent (T : List Addr) (dep : Nat) : Sp := fun vs H Q _ => ∃ (a l : Addr) (k : Int) (v : V) (d : PyData) (n : Nat), vs = [.ref a, v] ∧ k + 10 * ((dep : Int) + 1) ≤ 549755813888 ∧ WellAt a l H k ∧ Dv [a, l] H v d ∧ nice n d = true ∧ n.log2 < 1880 ∧ wt d ≤ 1000000 ∧ d.depth ≤ dep ∧ Tabs T H ∧
  ∀ v' d' H', Dv [a, l] H' v' d' → nearOk n d d' → WellAt a l H' (k + 10 * (dep + 1)) → Go T [a, l] H H' → Tabs T H' → Q v' H'
mutual
theorem nice_mono {m n : Nat} (h : m ≤ n) : ∀ {d : PyData}, nice m d = true → nice n d = true
  | .none, _ => by simp only [nice]
  | .bool _, _ => by simp only [nice]
  | .int i, e => by
    simp only [nice, decide_eq_true_eq] at e ⊢
    omega
  | .str x, e => by simpa only [nice] using e
  | .list xs, e => by
    simp only [nice] at e ⊢
    exact niceAll_mono h e
  | .tuple xs, e => by
    simp only [nice] at e ⊢
    exact niceAll_mono h e
  | .dict kvs, e => by simpa only [nice] using e
theorem niceAll_mono {m n : Nat} (h : m ≤ n) : ∀ {xs : List PyData}, niceAll m xs = true → niceAll n xs = true
  | [], _ => rfl
  | x :: xs, e => by
    simp only [niceAll, Bool.and_eq_true] at e ⊢
    exact ⟨nice_mono h e.1, niceAll_mono h e.2⟩
end
theorem at_dv {M : List Addr} {H : Hp} {xs : List V} {ds : List PyData} {i : Int} (h : DvAll M H xs ds) (h0 : 0 ≤ i) (h1 : i < (xs.length : Int)) : ∃ v d, atI xs i = some v ∧ d ∈ ds ∧ Dv M H v d := by
  obtain ⟨j, rfl⟩ : ∃ j : Nat, i = (j : Int) := ⟨i.toNat, by omega⟩
  have hj : j < xs.length := by omega
  have ex := List.getElem?_eq_getElem hj
  obtain ⟨d, ed, hv⟩ := h.get ex
  exact ⟨xs[j], d, atI_nat ex, List.mem_of_getElem? ed, hv⟩
/-- the odd things that hang on nothing -/
def oddA : List PyData := ([("" : Str), "number", "Number", "fun", "kind", "a", "A", "a1", "A1", "1A", "A_", "A b", "Abcdefghij", "abcdefghij"]).map PyData.str ++
  [.str "Abcdefghijk", .str "abcdefghijk", .str "A\n", .int 0, .int 1, .int (-1), .int 2, .bool true, .bool false, .none, .tuple [], .list [], .dict [], .tuple [.str "A"], .tuple [.str "A", .tuple []]]
def oddC : List PyData := [.tuple [.str "num", .tuple [.int 1, .int 1]], .int (10 ^ 30), .tuple [.int 0, .int 1], .tuple [.str "Fun", .tuple []]]
theorem odds_ok : (oddA ++ oddC).all (fun d => nice 1000000000000000000000000000000 d && decide (wt d ≤ 2000) && decide (d.depth ≤ 3)) = true := by decide +kernel
theorem odd_near {n : Nat} {d d' : PyData} (h : d' ∈ oddA ++ oddC) : nearOk n d d' := by
  have := List.all_eq_true.mp odds_ok d' h
  simp only [Bool.and_eq_true, decide_eq_true_eq] at this
  exact ⟨nice_mono (by omega) this.1.1, by omega, by omega⟩
theorem cat_ok {K : PySem.W.Frag} {T M : List Addr} {H : Hp} {p q : Addr} {xs ys : List V} {Q : VK} (hp : H p = some (.tup xs)) (hq : H q = some (.tup ys)) (np : p ∉ M) (nq : q ∉ M) (hl : xs.length + ys.length ≤ 16777216) (fresh : ∀ r, H r = none → r ∉ M)
    (k : ∀ r H', H' r = some (.tup (xs ++ ys)) → r ∉ M → Go T [] H H' → Q (.ref r) H') : rCatA K (.ref p) (.ref q) H Q := by
  refine ⟨p, q, xs, ys, rfl, rfl, SqT.of hp, SqT.of hq, sz hl, fun e => ?_, fun _ e => ?_, fun _ _ r hr => k r _ upd_same (fresh r hr) (Go.new hr)⟩
  · subst e
    exact k q H hq nq Go.refl
  · subst e
    exact k p H (by rw [List.append_nil]; exact hp) np Go.refl
theorem sl_ok {K : PySem.W.Frag} {T M : List Addr} {H : Hp} {p : Addr} {xs : List V} {lo hi : Option Int} {Q : VK} (hp : H p = some (.tup xs)) (np : p ∉ M) (fresh : ∀ r, H r = none → r ∉ M)
    (k : ∀ r H', H' r = some (.tup (cutV xs lo hi)) → r ∉ M → Go T [] H H' → Q (.ref r) H') : rSlA K (.ref p) lo hi H Q := by
  refine ⟨p, xs, rfl, SqT.of hp, fun ⟨e1, e2⟩ => ?_, fun _ r hr => k r _ upd_same (fresh r hr) (Go.new hr)⟩
  refine k p H ?_ np Go.refl
  unfold cutV
  rw [e1, e2, List.drop_zero, Nat.sub_zero, List.take_length]
  exact hp
theorem times_ok {K : PySem.W.Frag} {T M : List Addr} {H : Hp} {p : Addr} {xs : List V} {j : Int} {Q : VK} (hp : H p = some (.tup xs)) (np : p ∉ M) (h2 : 2 ≤ j) (h3 : j ≤ 3) (hl : xs.length ≤ 2000000) (fresh : ∀ r, H r = none → r ∉ M)
    (k : ∀ r H', H' r = some (.tup (List.replicate j.toNat xs).flatten) → r ∉ M → Go T [] H H' → Q (.ref r) H') : rTimes K (.ref p) (.int j) H Q := by
  refine ⟨p, j, xs, rfl, rfl, SqT.of hp, h2, h3, hl, fun e => ?_, fun _ r hr => k r _ upd_same (fresh r hr) (Go.new hr)⟩
  refine k p H ?_ np Go.refl
  rw [hp, e]
  have : ∀ n : Nat, (List.replicate n ([] : List V)).flatten = [] := fun n => by
    induction n with
    | zero => rfl
    | succ n ih => rw [List.replicate_succ, List.flatten_cons, ih] <;> rfl
  rw [this]
section
variable {P : Program} {w : World} {K : PySem.W.Frag} {mg : Str → Option Value} {base : Heap} {f c CK CN CT CR : Addr} {fd : FuncData} {T : List Addr}
theorem near_part {n : Nat} {ds ys : List PyData} (h : nice n (.tuple ds) = true) (m : ∀ d ∈ ys, d ∈ ds) (w : wtAll ys ≤ 3 * wtAll ds) : nearOk n (.tuple ds) (.tuple ys) ∧ nearOk n (.tuple ds) (.list ys) := by
  have h' := nice_tup.mp (nice_mono (n := n * 1000000000 + 1000000000000000000000000000000) (by omega) h)
  obtain ⟨D, e⟩ : ∃ D, PyData.depthAll ds = D := ⟨_, rfl⟩
  have hD := depthAll_le.mp (Nat.le_of_eq e)
  have eD : (PyData.tuple ds).depth = D + 1 := by rw [← e]; simp only [PyData.depth]
  refine ⟨⟨nice_tup.mpr fun d hd => h' d (m d hd), by rw [wt_tupl, wt_tupl]; omega, ?_⟩, nice_lst.mpr fun d hd => h' d (m d hd), by rw [wt_tupl, wt_lst]; omega, ?_⟩
  · rw [eD]
    exact depth_tup.mpr fun d hd => Nat.le_trans (hD d (m d hd)) (by omega)
  · rw [eD]
    exact depth_lst.mpr fun d hd => Nat.le_trans (hD d (m d hd)) (by omega)
theorem near_in {n : Nat} {ds : List PyData} {i : Nat} {d e : PyData} (h : nice n (.tuple ds) = true) (hd : ds[i]? = some d) (ne : nearOk n d e) : nearOk n (.tuple ds) (.tuple ((ds.take i ++ [e]) ++ ds.drop (i + 1))) := by
  have h' := nice_tup.mp (nice_mono (n := n * 1000000000 + 1000000000000000000000000000000) (by omega) h)
  obtain ⟨D, eq⟩ : ∃ D, PyData.depthAll ds = D := ⟨_, rfl⟩
  have hD := depthAll_le.mp (Nat.le_of_eq eq)
  have eD : (PyData.tuple ds).depth = D + 1 := by rw [← eq]; simp only [PyData.depth]
  have md := List.mem_of_getElem? hd
  have wa := wt_around hd
  obtain ⟨n1, n2, n3⟩ := ne
  have mem : ∀ x ∈ (ds.take i ++ [e]) ++ ds.drop (i + 1), x ∈ ds ∨ x = e := fun x hx => by
    rcases List.mem_append.mp hx with z | z
    · rcases List.mem_append.mp z with z | z
      · exact .inl (List.mem_of_mem_take z)
      · exact .inr (List.mem_singleton.mp z)
    · exact .inl (List.mem_of_mem_drop z)
  refine ⟨nice_tup.mpr fun x hx => ?_, ?_, ?_⟩
  · rcases mem x hx with z | rfl
    · exact h' x z
    · exact n1
  · rw [wt_tupl, wt_tupl, wtAll_append, wtAll_append]
    simp only [wtAll]
    omega
  · rw [eD]
    refine depth_tup.mpr fun x hx => ?_
    rcases mem x hx with z | rfl
    · exact Nat.le_trans (hD x z) (by omega)
    · have := hD d md
      omega
theorem near_self {n : Nat} {d : PyData} (h : nice n d = true) : nearOk n d (.tuple [d]) ∧ nearOk n d (.list [d]) ∧ nearOk n d (.tuple [d, d]) := by
  have h' := nice_mono (n := n * 1000000000 + 1000000000000000000000000000000) (by omega) h
  refine ⟨⟨?_, ?_, ?_⟩, ⟨?_, ?_, ?_⟩, ⟨?_, ?_, ?_⟩⟩
  all_goals first
    | (simp only [nice, niceAll]; rw [h'] <;> rfl)
    | (simp only [wt, wtAll]; omega)
    | (simp only [PyData.depth, PyData.depthAll]; omega)
def oddD (d : PyData) : List PyData := oddA ++ ([.tuple [d], .list [d], .tuple [d, d]] ++ oddC)
theorem oddD_near {n : Nat} {d d' : PyData} (h : nice n d = true) (m : d' ∈ oddD d) : nearOk n d d' := by
  rcases List.mem_append.mp m with m | m
  · exact odd_near (List.mem_append_left _ m)
  · rcases List.mem_append.mp m with m | m
    · obtain ⟨h1, h2, h3⟩ := near_self h
      simp only [List.mem_cons, List.not_mem_nil, or_false] at m
      rcases m with rfl | rfl | rfl
      · exact h1
      · exact h2
      · exact h3
    · exact odd_near (List.mem_append_right _ m)
theorem asc_int (i : Int) : asc (Str.ofString (toString i)) = true := asc_of fun c hc => Classical.byContradiction fun z => int_text_free' c ⟨by omega, .inr (by omega)⟩ i hc
theorem log_int {n m : Nat} (hl : n.log2 < 1880) (h : m ≤ n * 1000000000 + 1000000000000000000000000000000) : m.log2 < 1920 := by
  by_cases z : m = 0
  · rw [z]; decide
  refine (Nat.log2_lt z).mpr ?_
  have a1 : n < 2 ^ 1880 := by
    by_cases e : n = 0
    · rw [e]; exact Nat.two_pow_pos _
    · exact (Nat.log2_lt e).mp hl
  have a2 : n * 1000000000 ≤ 2 ^ 1880 * 2 ^ 30 := Nat.mul_le_mul (Nat.le_of_lt a1) (by decide)
  rw [← Nat.pow_add] at a2
  have a3 : (1000000000000000000000000000000 : Nat) ≤ 2 ^ 1910 := Nat.le_trans (show (1000000000000000000000000000000 : Nat) ≤ 2 ^ 100 by decide) (Nat.pow_le_pow_right (by decide) (by decide))
  have a4 : (2 : Nat) ^ 1911 = 2 ^ 1910 + 2 ^ 1910 := by rw [Nat.pow_succ, Nat.mul_two]
  have a5 : (2 : Nat) ^ 1911 < 2 ^ 1920 := Nat.pow_lt_pow_right (by decide) (by decide)
  have a2' : n * 1000000000 ≤ 2 ^ 1910 := a2
  omega
theorem near_int {n : Nat} {d : PyData} {w : Int} (hl : n.log2 < 1880) (h : w.natAbs ≤ n * 1000000000 + 1000000000000000000000000000000) : nearOk n d (.int w) := by
  refine ⟨?_, ?_, ?_⟩
  · simp only [nice]
    exact decide_eq_true h
  · have := int_text_len_1921 (i := w) (log_int hl h)
    simp only [wt]
    omega
  · simp only [PyData.depth]
    omega
theorem near_txt {n : Nat} {d : PyData} {x : Str} (h : asc x = true) (hl : 12 * x.length ≤ 3 * wt d + 1996) : nearOk n d (.str x) := by
  refine ⟨?_, ?_, ?_⟩
  · simpa only [nice] using h
  · simp only [wt]
    omega
  · simp only [PyData.depth]
    omega
theorem len_cut40 (z : Str) : (cutS z none (some 40)).length ≤ 40 := by
  have b := HT.sIx_nat z.length z.length 40
  have b : HT.sIx z.length z.length (some 40) = min 40 z.length := b
  rw [SL.len_list, cutS_list, List.length_take, List.length_drop, b, ← SL.len_list]
  omega
theorem cutV_len (xs : List V) (lo hi : Option Int) : (cutV xs lo hi).length ≤ xs.length := by
  unfold cutV
  rw [List.length_take, List.length_drop]
  omega
theorem tup_ways {n : Nat} {ds : List PyData} {i : Int} {z : PyData} (hn : nice n (.tuple ds) = true) (hz : z ∈ [PyData.tuple (cutD ds none (some i) ++ cutD ds (some (i + 1)) none), .tuple ((cutD ds none (some i) ++ cutD ds (some i) (some (i + 1))) ++ cutD ds (some i) none), .tuple (cutD ds (some i) none ++ cutD ds none (some i)), .list ds, .tuple (List.replicate (2 : Int).toNat ds).flatten, .tuple (List.replicate (3 : Int).toNat ds).flatten]) : nearOk n (.tuple ds) z := by
  have two : ∀ {ys zs : List PyData}, (∀ d ∈ ys, d ∈ ds) → (∀ d ∈ zs, d ∈ ds) → ∀ d ∈ ys ++ zs, d ∈ ds := fun h1 h2 d hd => (List.mem_append.mp hd).elim (h1 d) (h2 d)
  have c := fun lo hi => cutD_wt ds lo hi
  simp only [List.mem_cons, List.not_mem_nil, or_false] at hz
  rcases hz with rfl | rfl | rfl | rfl | rfl | rfl
  · exact (near_part hn (two (fun _ => cutD_mem) fun _ => cutD_mem) (by have := c none (some i); have := c (some (i + 1)) none; rw [wtAll_append]; omega)).1
  · exact (near_part hn (two (two (fun _ => cutD_mem) fun _ => cutD_mem) fun _ => cutD_mem) (by have := c none (some i); have := c (some i) (some (i + 1)); have := c (some i) none; rw [wtAll_append, wtAll_append]; omega)).1
  · exact (near_part hn (two (fun _ => cutD_mem) fun _ => cutD_mem) (by have := c none (some i); have := c (some i) none; rw [wtAll_append]; omega)).1
  · exact (near_part hn (fun _ h => h) (by omega)).2
  · exact (near_part hn (fun _ => rep_mem) (by rw [rep_wt]; show 2 * wtAll ds ≤ _; omega)).1
  · exact (near_part hn (fun _ => rep_mem) (by rw [rep_wt]; show 3 * wtAll ds ≤ _; omega)).1
theorem near_nums {n : Nat} {d dd : PyData} {z : Int} {x : Str} (hl : n.log2 < 1880) (hz : z.natAbs ≤ n + 1) (hx : asc x = true) (m : dd ∈ [PyData.int (z + 1), .int (z - 1), .int (-z), .int (z * (10 : Int) ^ (9 : Int).toNat), .str (cutS x none (some 40))]) : nearOk n d dd := by
  have e9 : (10 : Int) ^ (9 : Int).toNat = 1000000000 := by decide
  simp only [List.mem_cons, List.not_mem_nil, or_false] at m
  rcases m with rfl | rfl | rfl | rfl | rfl
  · exact near_int hl (by omega)
  · exact near_int hl (by omega)
  · exact near_int hl (by omega)
  · rw [e9]
    refine near_int hl ?_
    rw [Int.natAbs_mul]
    show z.natAbs * 1000000000 ≤ _
    have := Nat.mul_le_mul_right 1000000000 hz
    omega
  · refine near_txt (asc_cut hx _ _) ?_
    have := len_cut40 x
    omega
/-- one level of it, the levels below given -/
theorem ok_law_bent_step (dep : Nat) (F : Fun K "_law_bent" "_law_bent" s_law_bent f fd) (B : Bl mg) (Fd : Fnn P w K mg base CX0 1 "_law_draw" ["well", "many"] (sp_draw T)) (Fb : Fnn P w K mg base CX0 (dep + 2) "_law_bent" ["well", "value"] (fun vs H Q E => ∃ j, j < dep ∧ sp_bent T j vs H Q E)) : FnOk P w K mg base CX0 (dep + 3) f fd ["well", "value"] (sp_bent T dep) := by
  have nd := sc_law_bent.nd
  refine F.ok sc_law_bent (fun vs H Q E h => ?_) (fun cdv A outer s H vs Q E hr h => ?_)
  · obtain ⟨_, _, _, _, _, _, rfl, _⟩ := h
    rfl
  obtain ⟨a, l, k, v, d, n, rfl, hk, W, hv, hn, hl, hw, hd, ht, q⟩ := h
  have hu : (A.deeper (envOfC "_law_bent" (defScope s_law_bent) s.heap.objs.size f cdv)).units < cLine := by
    have := hr.un
    omega
  refine ⟨_, (pss_cons (ps_if (PW.pt (pw_and (pt_val (pe_isi_tuple B (pv 1))) (pw_and (pt_cmpR (op_neNil hu) (pv 1) (pe_tup pa_nil) (nomark _)) (pw_and1 (pt_cmpR op_gt (pe_fn Fd hr (by omega) pass0 (pa_cons (pv 0) (pa_cons pe_int pa_nil))) pe_int (nomark _)))))) (pss_cons (ps_set (i := 2) nd rfl (Or.inl rfl) (pe_fn Fd hr (by omega) pass0 (pa_cons (pv 0) (pa_cons (pe_lenq B (pv 1)) pa_nil))))
    (pss_one (ps_ret (pe_op op_catA (pe_op op_catA (pe_slice sl_tupA (pv 1) po_none (po_some (pv 2))) (pe_tup (pa_cons (pe_fn Fb hr (Nat.le_refl _) pass0 (pa_cons (pv 0) (pa_cons (pe_ix ix_tup (pv 1) (pv 2) (fun _ _ => rfl)) pa_nil))) pa_nil))) (pe_slice sl_tupA (pv 1) (po_some (pe_op op_add (pv 2) pe_int)) po_none))))) pss_nil)
    (pss_cons (ps_if (PW.pt (pw_and (pt_val (pe_isi_tuple B (pv 1))) (pw_and1 (pt_cmpR op_gt (pe_fn Fd hr (by omega) pass0 (pa_cons (pv 0) (pa_cons pe_int pa_nil))) pe_int (nomark _))))) (pss_cons (ps_set (i := 2) nd rfl (Or.inl rfl) (pe_fn Fd hr (by omega) pass0 (pa_cons (pv 0) (pa_cons (pe_op op_add (pe_lenq B (pv 1)) pe_int) pa_nil))))
    (pss_cons (ps_set (i := 3) nd rfl (Or.inl rfl) (pe_lst (pa_cons (pe_op op_catA (pe_slice sl_tupA (pv 1) po_none (po_some (pv 2))) (pe_slice sl_tupA (pv 1) (po_some (pe_op op_add (pv 2) pe_int)) po_none)) (pa_cons (pe_op op_catA (pe_op op_catA (pe_slice sl_tupA (pv 1) po_none (po_some (pv 2))) (pe_slice sl_tupA (pv 1) (po_some (pv 2)) (po_some (pe_op op_add (pv 2) pe_int)))) (pe_slice sl_tupA (pv 1) (po_some (pv 2)) po_none)) (pa_cons (pe_op op_catA (pe_slice sl_tupA (pv 1) (po_some (pv 2)) po_none) (pe_slice sl_tupA (pv 1) po_none (po_some (pv 2)))) pa_nil)))))
    (pss_one (ps_ret (pe_ix ix_list (pe_op op_cat (pv 3) (pe_lst (pa_cons (pe_toList B (pv 1)) (pa_cons (pe_op op_times (pv 1) pe_int) (pa_cons (pe_op op_times (pv 1) pe_int) pa_nil))))) (pe_fn Fd hr (by omega) pass0 (pa_cons (pv 0) (pa_cons pe_int pa_nil))) (fun _ _ => rfl)))))) pss_nil)
    (pss_cons (ps_if (PW.pt (pw_and (pt_val (pe_isi_str B (pv 1))) (pw_and1 (pt_cmpR op_gt (pe_fn Fd hr (by omega) pass0 (pa_cons (pv 0) (pa_cons pe_int pa_nil))) pe_int (nomark _))))) (pss_cons (ps_set (i := 4) nd rfl (Or.inl rfl) pe_str)
    (pss_cons (ps_par (i := 2) (j := 5) rfl nd rfl rfl (by decide) rfl rfl (pa_cons (pe_fn Fd hr (by omega) pass0 (pa_cons (pv 0) (pa_cons (pe_op op_add (pe_lens B (pv 1)) pe_int) pa_nil))) (pa_cons (pe_ix ix_str (pv 4) (pe_fn Fd hr (by omega) pass0 (pa_cons (pv 0) (pa_cons (pe_lens B (pv 4)) pa_nil))) (fun _ _ => rfl)) pa_nil)) rfl)
    (pss_cons (ps_set (i := 3) nd rfl (Or.inl rfl) (pe_lst (pa_cons (pe_op op_add_str (pe_op op_add_str (pe_slice sl_str (pv 1) po_none (po_some (pv 2))) (pv 5)) (pe_slice sl_str (pv 1) (po_some (pv 2)) po_none)) (pa_cons (pe_op op_add_str (pe_op op_add_str (pe_slice sl_str (pv 1) po_none (po_some (pv 2))) (pv 5)) (pe_slice sl_str (pv 1) (po_some (pe_op op_add (pv 2) pe_int)) po_none)) (pa_cons (pe_op op_add_str (pv 1) (pv 5)) (pa_cons (pe_lower (pv 1)) pa_nil))))))
    (pss_one (ps_ret (pe_ix ix_list (pe_op op_cat (pv 3) (pe_lst (pa_cons (pe_upper (pv 1)) (pa_cons (pe_slice sl_str (pv 1) (po_some pe_int) po_none) (pa_cons (pe_slice sl_str (pv 1) po_none (po_some (pe_un un_neg pe_int))) (pa_cons (pe_slice sl_str (pv 1) po_none (po_some pe_int)) pa_nil)))))) (pe_fn Fd hr (by omega) pass0 (pa_cons (pv 0) (pa_cons pe_int pa_nil))) (fun _ _ => rfl))))))) pss_nil)
    (pss_cons (ps_if (PW.pt (pw_and (pt_val (pe_isi_int B (pv 1))) (pw_and1 (pt_cmpR op_gt (pe_fn Fd hr (by omega) pass0 (pa_cons (pv 0) (pa_cons pe_int pa_nil))) pe_int (nomark _))))) (pss_one (ps_ret (pe_ix ix_list (pe_lst (pa_cons (pe_op op_addB (pv 1) pe_int) (pa_cons (pe_op op_subB (pv 1) pe_int) (pa_cons (pe_un un_negB (pv 1)) (pa_cons (pe_op op_mulB (pv 1) (pe_op op_pow pe_int pe_int)) (pa_cons (pe_slice sl_str (pe_strN B (pv 1)) po_none (po_some pe_int)) pa_nil)))))) (pe_fn Fd hr (by omega) pass0 (pa_cons (pv 0) (pa_cons pe_int pa_nil))) (fun _ _ => rfl)))) pss_nil)
    (pss_cons (ps_set (i := 6) nd rfl (Or.inl rfl) (pe_lst (pa_cons pe_str (pa_cons pe_str (pa_cons pe_str (pa_cons pe_str (pa_cons pe_str (pa_cons pe_str (pa_cons pe_str (pa_cons pe_str (pa_cons pe_str (pa_cons pe_str (pa_cons pe_str (pa_cons pe_str (pa_cons pe_str (pa_cons pe_str pa_nil))))))))))))))))
    (pss_cons (ps_set (i := 6) nd rfl (Or.inl rfl) (pe_op op_cat (pv 6) (pe_lst (pa_cons pe_str (pa_cons pe_str (pa_cons pe_str (pa_cons pe_int (pa_cons pe_int (pa_cons (pe_un un_neg pe_int) (pa_cons pe_int (pa_cons pe_bl (pa_cons pe_bl (pa_cons pe_non (pa_cons (pe_tup pa_nil) (pa_cons (pe_lst pa_nil) (pa_cons pe_dnewK (pa_cons (pe_tup (pa_cons pe_str pa_nil)) (pa_cons (pe_tup (pa_cons pe_str (pa_cons (pe_tup pa_nil) pa_nil))) pa_nil))))))))))))))))))
    (pss_cons (ps_set (i := 6) nd rfl (Or.inl rfl) (pe_op op_cat (pv 6) (pe_lst (pa_cons (pe_tup (pa_cons (pv 1) pa_nil)) (pa_cons (pe_lst (pa_cons (pv 1) pa_nil)) (pa_cons (pe_tup (pa_cons (pv 1) (pa_cons (pv 1) pa_nil))) (pa_cons (pe_tup (pa_cons pe_str (pa_cons (pe_tup (pa_cons pe_int (pa_cons pe_int pa_nil))) pa_nil))) (pa_cons (pe_op op_pow pe_int pe_int) (pa_cons (pe_tup (pa_cons pe_int (pa_cons pe_int pa_nil))) (pa_cons (pe_tup (pa_cons pe_str (pa_cons (pe_tup pa_nil) pa_nil))) pa_nil))))))))))
    (pss_one (ps_ret (pe_ix ix_list (pv 6) (pe_fn Fd hr (by omega) pass0 (pa_cons (pv 0) (pa_cons (pe_lenq B (pv 6)) pa_nil))) (fun _ _ => rfl))))))))))), ?_⟩
  have nn : ∀ b : Addr, b ∉ ([] : List Addr) := fun b => List.not_mem_nil
  have up : ∀ {p : Addr} {H' : Hp} {k' : Int}, WellAt a l H' k' → H' p = none → p ∉ [a, l] := fun w h => nin (w.ne h)
  refine ⟨_, rfl, _, _, _, rfl, hv, ?_⟩
  cases d with
  | none =>
    refine ⟨_, rfl, iteF (iteF ?_)⟩
    refine ⟨_, rfl, _, _, _, rfl, hv, _, rfl, iteF (iteF ?_)⟩
    refine ⟨_, rfl, _, _, _, rfl, hv, _, rfl, iteF (iteF ?_)⟩
    refine ⟨_, rfl, _, _, _, rfl, hv, _, rfl, iteF (iteF ?_)⟩
    have w0 := W
    have c0 := Go.refl (T := T) (M := []) (H := H)
    refine ⟨by show 14 ≤ sizeLine; decide, fun o1 ho1 => ?_⟩
    have go1 := Go.new (T := T) (M := []) (o := .lst (([("" : Str), "number", "Number", "fun", "kind", "a", "A", "a1", "A1", "1A", "A_", "A b", "Abcdefghij", "abcdefghij"]).map V.str)) ho1
    have no1 := up w0 ho1
    have w1 := w0.go go1
    have c1 := c0.trans go1
    refine ⟨_, rfl, _, rfl, by show 0 ≤ sizeLine; omega, fun e1 he1 => ⟨by show 0 ≤ sizeLine; omega, fun e2 he2 => fun e3 he3 => ⟨by show 1 ≤ sizeLine; decide, fun e4 he4 => ⟨by show 0 ≤ sizeLine; omega, fun e5 he5 => ⟨by show 2 ≤ sizeLine; decide, fun e6 he6 => ⟨by show 15 ≤ sizeLine; decide, fun o2 ho2 => ?_⟩⟩⟩⟩⟩⟩
    have ge1 := Go.new (T := T) (M := []) (o := .tup []) he1
    have ne1 := up w1 he1
    have w2 := w1.go ge1
    have c2 := c1.trans ge1
    have ge2 := Go.new (T := T) (M := []) (o := .lst []) he2
    have ne2 := up w2 he2
    have w3 := w2.go ge2
    have c3 := c2.trans ge2
    have ge3 := Go.new (T := T) (M := []) (o := .dK []) he3
    have ne3 := up w3 he3
    have w4 := w3.go ge3
    have c4 := c3.trans ge3
    have ge4 := Go.new (T := T) (M := []) (o := .tup [.str "A"]) he4
    have ne4 := up w4 he4
    have w5 := w4.go ge4
    have c5 := c4.trans ge4
    have ge5 := Go.new (T := T) (M := []) (o := .tup []) he5
    have ne5 := up w5 he5
    have w6 := w5.go ge5
    have c6 := c5.trans ge5
    have ge6 := Go.new (T := T) (M := []) (o := .tup [.str "A", .ref e5]) he6
    have ne6 := up w6 he6
    have w7 := w6.go ge6
    have c7 := c6.trans ge6
    have go2 := Go.new (T := T) (M := []) (o := .lst [.str "Abcdefghijk", .str "abcdefghijk", .str "A\n", .int 0, .int 1, .int (-1), .int 2, .bl true, .bl false, .non, .ref e1, .ref e2, .ref e3, .ref e4, .ref e6]) ho2
    have no2 := up w7 ho2
    have w8 := w7.go go2
    have c8 := c7.trans go2
    have po1 := (((((((ge1.trans ge2).trans ge3).trans ge4).trans ge5).trans ge6).trans go2)).lst upd_same (nn _)
    have pe1 := ((((((ge2.trans ge3).trans ge4).trans ge5).trans ge6).trans go2)).tup upd_same (nn _)
    have pe2 := (((((ge3.trans ge4).trans ge5).trans ge6).trans go2)).lst upd_same (nn _)
    have pe3 := ((((ge4.trans ge5).trans ge6).trans go2)).gr _ _ (upd_same (a := e3) (o := .dK [])) (nn _) (fun _ z => by cases z)
    have pe4 := (((ge5.trans ge6).trans go2)).tup upd_same (nn _)
    have pe5 := ((ge6.trans go2)).tup upd_same (nn _)
    have pe6 := (go2).tup upd_same (nn _)
    refine ⟨o1, o2, (([("" : Str), "number", "Number", "fun", "kind", "a", "A", "a1", "A1", "1A", "A_", "A b", "Abcdefghij", "abcdefghij"]).map V.str), [V.str "Abcdefghijk", .str "abcdefghijk", .str "A\n", .int 0, .int 1, .int (-1), .int 2, .bl true, .bl false, .non, .ref e1, .ref e2, .ref e3, .ref e4, .ref e6], rfl, rfl, po1, upd_same, by show 29 ≤ sizeLine; decide, fun o3 ho3 => ?_⟩
    have go3 := Go.new (T := T) (M := []) (o := .lst ((([("" : Str), "number", "Number", "fun", "kind", "a", "A", "a1", "A1", "1A", "A_", "A b", "Abcdefghij", "abcdefghij"]).map V.str) ++ [V.str "Abcdefghijk", .str "abcdefghijk", .str "A\n", .int 0, .int 1, .int (-1), .int 2, .bl true, .bl false, .non, .ref e1, .ref e2, .ref e3, .ref e4, .ref e6])) ho3
    have no3 := up w8 ho3
    have w9 := w8.go go3
    have c9 := c8.trans go3
    refine ⟨_, rfl, _, rfl, by show 1 ≤ sizeLine; decide, fun f1 hf1 => ⟨_, rfl, by show 1 ≤ sizeLine; decide, fun f2 hf2 => ⟨_, rfl, _, rfl, by show 2 ≤ sizeLine; decide, fun f3 hf3 => ⟨by show 2 ≤ sizeLine; decide, fun f4 hf4 => ⟨by show 2 ≤ sizeLine; decide, fun f5 hf5 => ⟨_, _, rfl, rfl, ⟨by decide, by decide, by decide⟩, by show 2 ≤ sizeLine; decide, fun f6 hf6 => ⟨by show 0 ≤ sizeLine; omega, fun f7 hf7 => ⟨by show 2 ≤ sizeLine; decide, fun f8 hf8 => ⟨by show 7 ≤ sizeLine; decide, fun o4 ho4 => ?_⟩⟩⟩⟩⟩⟩⟩⟩⟩
    have gf1 := Go.new (T := T) (M := []) (o := .tup [v]) hf1
    have nf1 := up w9 hf1
    have w10 := w9.go gf1
    have c10 := c9.trans gf1
    have gf2 := Go.new (T := T) (M := []) (o := .lst [v]) hf2
    have nf2 := up w10 hf2
    have w11 := w10.go gf2
    have c11 := c10.trans gf2
    have gf3 := Go.new (T := T) (M := []) (o := .tup [v, v]) hf3
    have nf3 := up w11 hf3
    have w12 := w11.go gf3
    have c12 := c11.trans gf3
    have gf4 := Go.new (T := T) (M := []) (o := .tup [.int 1, .int 1]) hf4
    have nf4 := up w12 hf4
    have w13 := w12.go gf4
    have c13 := c12.trans gf4
    have gf5 := Go.new (T := T) (M := []) (o := .tup [.str "num", .ref f4]) hf5
    have nf5 := up w13 hf5
    have w14 := w13.go gf5
    have c14 := c13.trans gf5
    have gf6 := Go.new (T := T) (M := []) (o := .tup [.int 0, .int 1]) hf6
    have nf6 := up w14 hf6
    have w15 := w14.go gf6
    have c15 := c14.trans gf6
    have gf7 := Go.new (T := T) (M := []) (o := .tup []) hf7
    have nf7 := up w15 hf7
    have w16 := w15.go gf7
    have c16 := c15.trans gf7
    have gf8 := Go.new (T := T) (M := []) (o := .tup [.str "Fun", .ref f7]) hf8
    have nf8 := up w16 hf8
    have w17 := w16.go gf8
    have c17 := c16.trans gf8
    have go4 := Go.new (T := T) (M := []) (o := .lst [V.ref f1, .ref f2, .ref f3, .ref f5, .int (10 ^ 30), .ref f6, .ref f8]) ho4
    have no4 := up w17 ho4
    have w18 := w17.go go4
    have c18 := c17.trans go4
    have po3 := (((((((((gf1.trans gf2).trans gf3).trans gf4).trans gf5).trans gf6).trans gf7).trans gf8).trans go4)).lst upd_same (nn _)
    have pf1 := ((((((((gf2.trans gf3).trans gf4).trans gf5).trans gf6).trans gf7).trans gf8).trans go4)).tup upd_same (nn _)
    have pf2 := (((((((gf3.trans gf4).trans gf5).trans gf6).trans gf7).trans gf8).trans go4)).lst upd_same (nn _)
    have pf3 := ((((((gf4.trans gf5).trans gf6).trans gf7).trans gf8).trans go4)).tup upd_same (nn _)
    have pf4 := (((((gf5.trans gf6).trans gf7).trans gf8).trans go4)).tup upd_same (nn _)
    have pf5 := ((((gf6.trans gf7).trans gf8).trans go4)).tup upd_same (nn _)
    have pf6 := (((gf7.trans gf8).trans go4)).tup upd_same (nn _)
    have pf7 := ((gf8.trans go4)).tup upd_same (nn _)
    have pf8 := (go4).tup upd_same (nn _)
    refine ⟨o3, o4, ((([("" : Str), "number", "Number", "fun", "kind", "a", "A", "a1", "A1", "1A", "A_", "A b", "Abcdefghij", "abcdefghij"]).map V.str) ++ [V.str "Abcdefghijk", .str "abcdefghijk", .str "A\n", .int 0, .int 1, .int (-1), .int 2, .bl true, .bl false, .non, .ref e1, .ref e2, .ref e3, .ref e4, .ref e6]), [V.ref f1, .ref f2, .ref f3, .ref f5, .int (10 ^ 30), .ref f6, .ref f8], rfl, rfl, po3, upd_same, by show 36 ≤ sizeLine; decide, fun o5 ho5 => ?_⟩
    have go5 := Go.new (T := T) (M := []) (o := .lst (((([("" : Str), "number", "Number", "fun", "kind", "a", "A", "a1", "A1", "1A", "A_", "A b", "Abcdefghij", "abcdefghij"]).map V.str) ++ [V.str "Abcdefghijk", .str "abcdefghijk", .str "A\n", .int 0, .int 1, .int (-1), .int 2, .bl true, .bl false, .non, .ref e1, .ref e2, .ref e3, .ref e4, .ref e6]) ++ [V.ref f1, .ref f2, .ref f3, .ref f5, .int (10 ^ 30), .ref f6, .ref f8])) ho5
    have no5 := up w18 ho5
    have w19 := w18.go go5
    have c19 := c18.trans go5
    have re1 := (((((((((((go3.trans gf1).trans gf2).trans gf3).trans gf4).trans gf5).trans gf6).trans gf7).trans gf8).trans go4).trans go5)).tup pe1 (nn _)
    have re4 := (((((((((((go3.trans gf1).trans gf2).trans gf3).trans gf4).trans gf5).trans gf6).trans gf7).trans gf8).trans go4).trans go5)).tup pe4 (nn _)
    have re5 := (((((((((((go3.trans gf1).trans gf2).trans gf3).trans gf4).trans gf5).trans gf6).trans gf7).trans gf8).trans go4).trans go5)).tup pe5 (nn _)
    have re6 := (((((((((((go3.trans gf1).trans gf2).trans gf3).trans gf4).trans gf5).trans gf6).trans gf7).trans gf8).trans go4).trans go5)).tup pe6 (nn _)
    have re2 := (((((((((((go3.trans gf1).trans gf2).trans gf3).trans gf4).trans gf5).trans gf6).trans gf7).trans gf8).trans go4).trans go5)).lst pe2 (nn _)
    have re3 := (((((((((((go3.trans gf1).trans gf2).trans gf3).trans gf4).trans gf5).trans gf6).trans gf7).trans gf8).trans go4).trans go5)).gr _ _ pe3 (nn _) (fun _ z => by cases z)
    have rf1 := go5.tup pf1 (nn _)
    have rf3 := go5.tup pf3 (nn _)
    have rf4 := go5.tup pf4 (nn _)
    have rf5 := go5.tup pf5 (nn _)
    have rf6 := go5.tup pf6 (nn _)
    have rf7 := go5.tup pf7 (nn _)
    have rf2 := go5.lst pf2 (nn _)
    have rf8 := go5.tup pf8 (nn _)
    have vz := hv.go (((Go.refl (T := T) (M := [a, l]) (H := H))).trans c19.of0)
    have dz : DvAll [a, l] _ _ (oddD _) := DvAll.append (DvAll.append (DvAll.strs _) (.cons (.str _) (.cons (.str _) (.cons (.str _) (.cons (.int _) (.cons (.int _) (.cons (.int _) (.cons (.int _) (.cons (.bl _) (.cons (.bl _) (.cons .non (.cons (.tup re1 ne1 .nil) (.cons (.lst re2 ne2 .nil) (.cons (.dct re3 ne3) (.cons (.tup re4 ne4 (.cons (.str _) .nil)) (.cons (.tup re6 ne6 (.cons (.str _) (.cons (.tup re5 ne5 .nil) .nil))) .nil))))))))))))))))
      (.cons (.tup rf1 nf1 (.cons vz .nil)) (.cons (.lst rf2 nf2 (.cons vz .nil)) (.cons (.tup rf3 nf3 (.cons vz (.cons vz .nil))) (.cons (.tup rf5 nf5 (.cons (.str _) (.cons (.tup rf4 nf4 (.cons (.int _) (.cons (.int _) .nil))) .nil))) (.cons (.int _) (.cons (.tup rf6 nf6 (.cons (.int _) (.cons (.int _) .nil))) (.cons (.tup rf8 nf8 (.cons (.str _) (.cons (.tup rf7 nf7 .nil) .nil))) .nil)))))))
    refine ⟨_, rfl, _, rfl, _, rfl, o5, _, rfl, .inl (SqL.of upd_same), a, l, k, _, rfl, (show (0 : Int) < 36 by decide), (show (36 : Int) < 1073741824 by decide), by omega, w19, c19.tb (((Go.refl (T := T) (M := [a, l]) (H := H))).tb ht), fun iz Hz z0 z1 Wz gz tz => ?_⟩
    obtain ⟨vv, dd, ez, mz, hz⟩ := at_dv dz z0 z1
    exact ⟨o5, _, iz, vv, rfl, rfl, SqL.of (gz.lst upd_same no5), ez, q vv dd Hz (hz.go gz) (oddD_near hn mz) (Wz.up (by omega)) ((((Go.refl (T := T) (M := [a, l]) (H := H))).trans c19.of0).trans gz) tz⟩
  | list ls =>
    refine ⟨_, rfl, iteF (iteF ?_)⟩
    refine ⟨_, rfl, _, _, _, rfl, hv, _, rfl, iteF (iteF ?_)⟩
    refine ⟨_, rfl, _, _, _, rfl, hv, _, rfl, iteF (iteF ?_)⟩
    refine ⟨_, rfl, _, _, _, rfl, hv, _, rfl, iteF (iteF ?_)⟩
    have w0 := W
    have c0 := Go.refl (T := T) (M := []) (H := H)
    refine ⟨by show 14 ≤ sizeLine; decide, fun o1 ho1 => ?_⟩
    have go1 := Go.new (T := T) (M := []) (o := .lst (([("" : Str), "number", "Number", "fun", "kind", "a", "A", "a1", "A1", "1A", "A_", "A b", "Abcdefghij", "abcdefghij"]).map V.str)) ho1
    have no1 := up w0 ho1
    have w1 := w0.go go1
    have c1 := c0.trans go1
    refine ⟨_, rfl, _, rfl, by show 0 ≤ sizeLine; omega, fun e1 he1 => ⟨by show 0 ≤ sizeLine; omega, fun e2 he2 => fun e3 he3 => ⟨by show 1 ≤ sizeLine; decide, fun e4 he4 => ⟨by show 0 ≤ sizeLine; omega, fun e5 he5 => ⟨by show 2 ≤ sizeLine; decide, fun e6 he6 => ⟨by show 15 ≤ sizeLine; decide, fun o2 ho2 => ?_⟩⟩⟩⟩⟩⟩
    have ge1 := Go.new (T := T) (M := []) (o := .tup []) he1
    have ne1 := up w1 he1
    have w2 := w1.go ge1
    have c2 := c1.trans ge1
    have ge2 := Go.new (T := T) (M := []) (o := .lst []) he2
    have ne2 := up w2 he2
    have w3 := w2.go ge2
    have c3 := c2.trans ge2
    have ge3 := Go.new (T := T) (M := []) (o := .dK []) he3
    have ne3 := up w3 he3
    have w4 := w3.go ge3
    have c4 := c3.trans ge3
    have ge4 := Go.new (T := T) (M := []) (o := .tup [.str "A"]) he4
    have ne4 := up w4 he4
    have w5 := w4.go ge4
    have c5 := c4.trans ge4
    have ge5 := Go.new (T := T) (M := []) (o := .tup []) he5
    have ne5 := up w5 he5
    have w6 := w5.go ge5
    have c6 := c5.trans ge5
    have ge6 := Go.new (T := T) (M := []) (o := .tup [.str "A", .ref e5]) he6
    have ne6 := up w6 he6
    have w7 := w6.go ge6
    have c7 := c6.trans ge6
    have go2 := Go.new (T := T) (M := []) (o := .lst [.str "Abcdefghijk", .str "abcdefghijk", .str "A\n", .int 0, .int 1, .int (-1), .int 2, .bl true, .bl false, .non, .ref e1, .ref e2, .ref e3, .ref e4, .ref e6]) ho2
    have no2 := up w7 ho2
    have w8 := w7.go go2
    have c8 := c7.trans go2
    have po1 := (((((((ge1.trans ge2).trans ge3).trans ge4).trans ge5).trans ge6).trans go2)).lst upd_same (nn _)
    have pe1 := ((((((ge2.trans ge3).trans ge4).trans ge5).trans ge6).trans go2)).tup upd_same (nn _)
    have pe2 := (((((ge3.trans ge4).trans ge5).trans ge6).trans go2)).lst upd_same (nn _)
    have pe3 := ((((ge4.trans ge5).trans ge6).trans go2)).gr _ _ (upd_same (a := e3) (o := .dK [])) (nn _) (fun _ z => by cases z)
    have pe4 := (((ge5.trans ge6).trans go2)).tup upd_same (nn _)
    have pe5 := ((ge6.trans go2)).tup upd_same (nn _)
    have pe6 := (go2).tup upd_same (nn _)
    refine ⟨o1, o2, (([("" : Str), "number", "Number", "fun", "kind", "a", "A", "a1", "A1", "1A", "A_", "A b", "Abcdefghij", "abcdefghij"]).map V.str), [V.str "Abcdefghijk", .str "abcdefghijk", .str "A\n", .int 0, .int 1, .int (-1), .int 2, .bl true, .bl false, .non, .ref e1, .ref e2, .ref e3, .ref e4, .ref e6], rfl, rfl, po1, upd_same, by show 29 ≤ sizeLine; decide, fun o3 ho3 => ?_⟩
    have go3 := Go.new (T := T) (M := []) (o := .lst ((([("" : Str), "number", "Number", "fun", "kind", "a", "A", "a1", "A1", "1A", "A_", "A b", "Abcdefghij", "abcdefghij"]).map V.str) ++ [V.str "Abcdefghijk", .str "abcdefghijk", .str "A\n", .int 0, .int 1, .int (-1), .int 2, .bl true, .bl false, .non, .ref e1, .ref e2, .ref e3, .ref e4, .ref e6])) ho3
    have no3 := up w8 ho3
    have w9 := w8.go go3
    have c9 := c8.trans go3
    refine ⟨_, rfl, _, rfl, by show 1 ≤ sizeLine; decide, fun f1 hf1 => ⟨_, rfl, by show 1 ≤ sizeLine; decide, fun f2 hf2 => ⟨_, rfl, _, rfl, by show 2 ≤ sizeLine; decide, fun f3 hf3 => ⟨by show 2 ≤ sizeLine; decide, fun f4 hf4 => ⟨by show 2 ≤ sizeLine; decide, fun f5 hf5 => ⟨_, _, rfl, rfl, ⟨by decide, by decide, by decide⟩, by show 2 ≤ sizeLine; decide, fun f6 hf6 => ⟨by show 0 ≤ sizeLine; omega, fun f7 hf7 => ⟨by show 2 ≤ sizeLine; decide, fun f8 hf8 => ⟨by show 7 ≤ sizeLine; decide, fun o4 ho4 => ?_⟩⟩⟩⟩⟩⟩⟩⟩⟩
    have gf1 := Go.new (T := T) (M := []) (o := .tup [v]) hf1
    have nf1 := up w9 hf1
    have w10 := w9.go gf1
    have c10 := c9.trans gf1
    have gf2 := Go.new (T := T) (M := []) (o := .lst [v]) hf2
    have nf2 := up w10 hf2
    have w11 := w10.go gf2
    have c11 := c10.trans gf2
    have gf3 := Go.new (T := T) (M := []) (o := .tup [v, v]) hf3
    have nf3 := up w11 hf3
    have w12 := w11.go gf3
    have c12 := c11.trans gf3
    have gf4 := Go.new (T := T) (M := []) (o := .tup [.int 1, .int 1]) hf4
    have nf4 := up w12 hf4
    have w13 := w12.go gf4
    have c13 := c12.trans gf4
    have gf5 := Go.new (T := T) (M := []) (o := .tup [.str "num", .ref f4]) hf5
    have nf5 := up w13 hf5
    have w14 := w13.go gf5
    have c14 := c13.trans gf5
    have gf6 := Go.new (T := T) (M := []) (o := .tup [.int 0, .int 1]) hf6
    have nf6 := up w14 hf6
    have w15 := w14.go gf6
    have c15 := c14.trans gf6
    have gf7 := Go.new (T := T) (M := []) (o := .tup []) hf7
    have nf7 := up w15 hf7
    have w16 := w15.go gf7
    have c16 := c15.trans gf7
    have gf8 := Go.new (T := T) (M := []) (o := .tup [.str "Fun", .ref f7]) hf8
    have nf8 := up w16 hf8
    have w17 := w16.go gf8
    have c17 := c16.trans gf8
    have go4 := Go.new (T := T) (M := []) (o := .lst [V.ref f1, .ref f2, .ref f3, .ref f5, .int (10 ^ 30), .ref f6, .ref f8]) ho4
    have no4 := up w17 ho4
    have w18 := w17.go go4
    have c18 := c17.trans go4
    have po3 := (((((((((gf1.trans gf2).trans gf3).trans gf4).trans gf5).trans gf6).trans gf7).trans gf8).trans go4)).lst upd_same (nn _)
    have pf1 := ((((((((gf2.trans gf3).trans gf4).trans gf5).trans gf6).trans gf7).trans gf8).trans go4)).tup upd_same (nn _)
    have pf2 := (((((((gf3.trans gf4).trans gf5).trans gf6).trans gf7).trans gf8).trans go4)).lst upd_same (nn _)
    have pf3 := ((((((gf4.trans gf5).trans gf6).trans gf7).trans gf8).trans go4)).tup upd_same (nn _)
    have pf4 := (((((gf5.trans gf6).trans gf7).trans gf8).trans go4)).tup upd_same (nn _)
    have pf5 := ((((gf6.trans gf7).trans gf8).trans go4)).tup upd_same (nn _)
    have pf6 := (((gf7.trans gf8).trans go4)).tup upd_same (nn _)
    have pf7 := ((gf8.trans go4)).tup upd_same (nn _)
    have pf8 := (go4).tup upd_same (nn _)
    refine ⟨o3, o4, ((([("" : Str), "number", "Number", "fun", "kind", "a", "A", "a1", "A1", "1A", "A_", "A b", "Abcdefghij", "abcdefghij"]).map V.str) ++ [V.str "Abcdefghijk", .str "abcdefghijk", .str "A\n", .int 0, .int 1, .int (-1), .int 2, .bl true, .bl false, .non, .ref e1, .ref e2, .ref e3, .ref e4, .ref e6]), [V.ref f1, .ref f2, .ref f3, .ref f5, .int (10 ^ 30), .ref f6, .ref f8], rfl, rfl, po3, upd_same, by show 36 ≤ sizeLine; decide, fun o5 ho5 => ?_⟩
    have go5 := Go.new (T := T) (M := []) (o := .lst (((([("" : Str), "number", "Number", "fun", "kind", "a", "A", "a1", "A1", "1A", "A_", "A b", "Abcdefghij", "abcdefghij"]).map V.str) ++ [V.str "Abcdefghijk", .str "abcdefghijk", .str "A\n", .int 0, .int 1, .int (-1), .int 2, .bl true, .bl false, .non, .ref e1, .ref e2, .ref e3, .ref e4, .ref e6]) ++ [V.ref f1, .ref f2, .ref f3, .ref f5, .int (10 ^ 30), .ref f6, .ref f8])) ho5
    have no5 := up w18 ho5
    have w19 := w18.go go5
    have c19 := c18.trans go5
    have re1 := (((((((((((go3.trans gf1).trans gf2).trans gf3).trans gf4).trans gf5).trans gf6).trans gf7).trans gf8).trans go4).trans go5)).tup pe1 (nn _)
    have re4 := (((((((((((go3.trans gf1).trans gf2).trans gf3).trans gf4).trans gf5).trans gf6).trans gf7).trans gf8).trans go4).trans go5)).tup pe4 (nn _)
    have re5 := (((((((((((go3.trans gf1).trans gf2).trans gf3).trans gf4).trans gf5).trans gf6).trans gf7).trans gf8).trans go4).trans go5)).tup pe5 (nn _)
    have re6 := (((((((((((go3.trans gf1).trans gf2).trans gf3).trans gf4).trans gf5).trans gf6).trans gf7).trans gf8).trans go4).trans go5)).tup pe6 (nn _)
    have re2 := (((((((((((go3.trans gf1).trans gf2).trans gf3).trans gf4).trans gf5).trans gf6).trans gf7).trans gf8).trans go4).trans go5)).lst pe2 (nn _)
    have re3 := (((((((((((go3.trans gf1).trans gf2).trans gf3).trans gf4).trans gf5).trans gf6).trans gf7).trans gf8).trans go4).trans go5)).gr _ _ pe3 (nn _) (fun _ z => by cases z)
    have rf1 := go5.tup pf1 (nn _)
    have rf3 := go5.tup pf3 (nn _)
    have rf4 := go5.tup pf4 (nn _)
    have rf5 := go5.tup pf5 (nn _)
    have rf6 := go5.tup pf6 (nn _)
    have rf7 := go5.tup pf7 (nn _)
    have rf2 := go5.lst pf2 (nn _)
    have rf8 := go5.tup pf8 (nn _)
    have vz := hv.go (((Go.refl (T := T) (M := [a, l]) (H := H))).trans c19.of0)
    have dz : DvAll [a, l] _ _ (oddD _) := DvAll.append (DvAll.append (DvAll.strs _) (.cons (.str _) (.cons (.str _) (.cons (.str _) (.cons (.int _) (.cons (.int _) (.cons (.int _) (.cons (.int _) (.cons (.bl _) (.cons (.bl _) (.cons .non (.cons (.tup re1 ne1 .nil) (.cons (.lst re2 ne2 .nil) (.cons (.dct re3 ne3) (.cons (.tup re4 ne4 (.cons (.str _) .nil)) (.cons (.tup re6 ne6 (.cons (.str _) (.cons (.tup re5 ne5 .nil) .nil))) .nil))))))))))))))))
      (.cons (.tup rf1 nf1 (.cons vz .nil)) (.cons (.lst rf2 nf2 (.cons vz .nil)) (.cons (.tup rf3 nf3 (.cons vz (.cons vz .nil))) (.cons (.tup rf5 nf5 (.cons (.str _) (.cons (.tup rf4 nf4 (.cons (.int _) (.cons (.int _) .nil))) .nil))) (.cons (.int _) (.cons (.tup rf6 nf6 (.cons (.int _) (.cons (.int _) .nil))) (.cons (.tup rf8 nf8 (.cons (.str _) (.cons (.tup rf7 nf7 .nil) .nil))) .nil)))))))
    refine ⟨_, rfl, _, rfl, _, rfl, o5, _, rfl, .inl (SqL.of upd_same), a, l, k, _, rfl, (show (0 : Int) < 36 by decide), (show (36 : Int) < 1073741824 by decide), by omega, w19, c19.tb (((Go.refl (T := T) (M := [a, l]) (H := H))).tb ht), fun iz Hz z0 z1 Wz gz tz => ?_⟩
    obtain ⟨vv, dd, ez, mz, hz⟩ := at_dv dz z0 z1
    exact ⟨o5, _, iz, vv, rfl, rfl, SqL.of (gz.lst upd_same no5), ez, q vv dd Hz (hz.go gz) (oddD_near hn mz) (Wz.up (by omega)) ((((Go.refl (T := T) (M := [a, l]) (H := H))).trans c19.of0).trans gz) tz⟩
  | dict kv =>
    refine ⟨_, rfl, iteF (iteF ?_)⟩
    refine ⟨_, rfl, _, _, _, rfl, hv, _, rfl, iteF (iteF ?_)⟩
    refine ⟨_, rfl, _, _, _, rfl, hv, _, rfl, iteF (iteF ?_)⟩
    refine ⟨_, rfl, _, _, _, rfl, hv, _, rfl, iteF (iteF ?_)⟩
    have w0 := W
    have c0 := Go.refl (T := T) (M := []) (H := H)
    refine ⟨by show 14 ≤ sizeLine; decide, fun o1 ho1 => ?_⟩
    have go1 := Go.new (T := T) (M := []) (o := .lst (([("" : Str), "number", "Number", "fun", "kind", "a", "A", "a1", "A1", "1A", "A_", "A b", "Abcdefghij", "abcdefghij"]).map V.str)) ho1
    have no1 := up w0 ho1
    have w1 := w0.go go1
    have c1 := c0.trans go1
    refine ⟨_, rfl, _, rfl, by show 0 ≤ sizeLine; omega, fun e1 he1 => ⟨by show 0 ≤ sizeLine; omega, fun e2 he2 => fun e3 he3 => ⟨by show 1 ≤ sizeLine; decide, fun e4 he4 => ⟨by show 0 ≤ sizeLine; omega, fun e5 he5 => ⟨by show 2 ≤ sizeLine; decide, fun e6 he6 => ⟨by show 15 ≤ sizeLine; decide, fun o2 ho2 => ?_⟩⟩⟩⟩⟩⟩
    have ge1 := Go.new (T := T) (M := []) (o := .tup []) he1
    have ne1 := up w1 he1
    have w2 := w1.go ge1
    have c2 := c1.trans ge1
    have ge2 := Go.new (T := T) (M := []) (o := .lst []) he2
    have ne2 := up w2 he2
    have w3 := w2.go ge2
    have c3 := c2.trans ge2
    have ge3 := Go.new (T := T) (M := []) (o := .dK []) he3
    have ne3 := up w3 he3
    have w4 := w3.go ge3
    have c4 := c3.trans ge3
    have ge4 := Go.new (T := T) (M := []) (o := .tup [.str "A"]) he4
    have ne4 := up w4 he4
    have w5 := w4.go ge4
    have c5 := c4.trans ge4
    have ge5 := Go.new (T := T) (M := []) (o := .tup []) he5
    have ne5 := up w5 he5
    have w6 := w5.go ge5
    have c6 := c5.trans ge5
    have ge6 := Go.new (T := T) (M := []) (o := .tup [.str "A", .ref e5]) he6
    have ne6 := up w6 he6
    have w7 := w6.go ge6
    have c7 := c6.trans ge6
    have go2 := Go.new (T := T) (M := []) (o := .lst [.str "Abcdefghijk", .str "abcdefghijk", .str "A\n", .int 0, .int 1, .int (-1), .int 2, .bl true, .bl false, .non, .ref e1, .ref e2, .ref e3, .ref e4, .ref e6]) ho2
    have no2 := up w7 ho2
    have w8 := w7.go go2
    have c8 := c7.trans go2
    have po1 := (((((((ge1.trans ge2).trans ge3).trans ge4).trans ge5).trans ge6).trans go2)).lst upd_same (nn _)
    have pe1 := ((((((ge2.trans ge3).trans ge4).trans ge5).trans ge6).trans go2)).tup upd_same (nn _)
    have pe2 := (((((ge3.trans ge4).trans ge5).trans ge6).trans go2)).lst upd_same (nn _)
    have pe3 := ((((ge4.trans ge5).trans ge6).trans go2)).gr _ _ (upd_same (a := e3) (o := .dK [])) (nn _) (fun _ z => by cases z)
    have pe4 := (((ge5.trans ge6).trans go2)).tup upd_same (nn _)
    have pe5 := ((ge6.trans go2)).tup upd_same (nn _)
    have pe6 := (go2).tup upd_same (nn _)
    refine ⟨o1, o2, (([("" : Str), "number", "Number", "fun", "kind", "a", "A", "a1", "A1", "1A", "A_", "A b", "Abcdefghij", "abcdefghij"]).map V.str), [V.str "Abcdefghijk", .str "abcdefghijk", .str "A\n", .int 0, .int 1, .int (-1), .int 2, .bl true, .bl false, .non, .ref e1, .ref e2, .ref e3, .ref e4, .ref e6], rfl, rfl, po1, upd_same, by show 29 ≤ sizeLine; decide, fun o3 ho3 => ?_⟩
    have go3 := Go.new (T := T) (M := []) (o := .lst ((([("" : Str), "number", "Number", "fun", "kind", "a", "A", "a1", "A1", "1A", "A_", "A b", "Abcdefghij", "abcdefghij"]).map V.str) ++ [V.str "Abcdefghijk", .str "abcdefghijk", .str "A\n", .int 0, .int 1, .int (-1), .int 2, .bl true, .bl false, .non, .ref e1, .ref e2, .ref e3, .ref e4, .ref e6])) ho3
    have no3 := up w8 ho3
    have w9 := w8.go go3
    have c9 := c8.trans go3
    refine ⟨_, rfl, _, rfl, by show 1 ≤ sizeLine; decide, fun f1 hf1 => ⟨_, rfl, by show 1 ≤ sizeLine; decide, fun f2 hf2 => ⟨_, rfl, _, rfl, by show 2 ≤ sizeLine; decide, fun f3 hf3 => ⟨by show 2 ≤ sizeLine; decide, fun f4 hf4 => ⟨by show 2 ≤ sizeLine; decide, fun f5 hf5 => ⟨_, _, rfl, rfl, ⟨by decide, by decide, by decide⟩, by show 2 ≤ sizeLine; decide, fun f6 hf6 => ⟨by show 0 ≤ sizeLine; omega, fun f7 hf7 => ⟨by show 2 ≤ sizeLine; decide, fun f8 hf8 => ⟨by show 7 ≤ sizeLine; decide, fun o4 ho4 => ?_⟩⟩⟩⟩⟩⟩⟩⟩⟩
    have gf1 := Go.new (T := T) (M := []) (o := .tup [v]) hf1
    have nf1 := up w9 hf1
    have w10 := w9.go gf1
    have c10 := c9.trans gf1
    have gf2 := Go.new (T := T) (M := []) (o := .lst [v]) hf2
    have nf2 := up w10 hf2
    have w11 := w10.go gf2
    have c11 := c10.trans gf2
    have gf3 := Go.new (T := T) (M := []) (o := .tup [v, v]) hf3
    have nf3 := up w11 hf3
    have w12 := w11.go gf3
    have c12 := c11.trans gf3
    have gf4 := Go.new (T := T) (M := []) (o := .tup [.int 1, .int 1]) hf4
    have nf4 := up w12 hf4
    have w13 := w12.go gf4
    have c13 := c12.trans gf4
    have gf5 := Go.new (T := T) (M := []) (o := .tup [.str "num", .ref f4]) hf5
    have nf5 := up w13 hf5
    have w14 := w13.go gf5
    have c14 := c13.trans gf5
    have gf6 := Go.new (T := T) (M := []) (o := .tup [.int 0, .int 1]) hf6
    have nf6 := up w14 hf6
    have w15 := w14.go gf6
    have c15 := c14.trans gf6
    have gf7 := Go.new (T := T) (M := []) (o := .tup []) hf7
    have nf7 := up w15 hf7
    have w16 := w15.go gf7
    have c16 := c15.trans gf7
    have gf8 := Go.new (T := T) (M := []) (o := .tup [.str "Fun", .ref f7]) hf8
    have nf8 := up w16 hf8
    have w17 := w16.go gf8
    have c17 := c16.trans gf8
    have go4 := Go.new (T := T) (M := []) (o := .lst [V.ref f1, .ref f2, .ref f3, .ref f5, .int (10 ^ 30), .ref f6, .ref f8]) ho4
    have no4 := up w17 ho4
    have w18 := w17.go go4
    have c18 := c17.trans go4
    have po3 := (((((((((gf1.trans gf2).trans gf3).trans gf4).trans gf5).trans gf6).trans gf7).trans gf8).trans go4)).lst upd_same (nn _)
    have pf1 := ((((((((gf2.trans gf3).trans gf4).trans gf5).trans gf6).trans gf7).trans gf8).trans go4)).tup upd_same (nn _)
    have pf2 := (((((((gf3.trans gf4).trans gf5).trans gf6).trans gf7).trans gf8).trans go4)).lst upd_same (nn _)
    have pf3 := ((((((gf4.trans gf5).trans gf6).trans gf7).trans gf8).trans go4)).tup upd_same (nn _)
    have pf4 := (((((gf5.trans gf6).trans gf7).trans gf8).trans go4)).tup upd_same (nn _)
    have pf5 := ((((gf6.trans gf7).trans gf8).trans go4)).tup upd_same (nn _)
    have pf6 := (((gf7.trans gf8).trans go4)).tup upd_same (nn _)
    have pf7 := ((gf8.trans go4)).tup upd_same (nn _)
    have pf8 := (go4).tup upd_same (nn _)
    refine ⟨o3, o4, ((([("" : Str), "number", "Number", "fun", "kind", "a", "A", "a1", "A1", "1A", "A_", "A b", "Abcdefghij", "abcdefghij"]).map V.str) ++ [V.str "Abcdefghijk", .str "abcdefghijk", .str "A\n", .int 0, .int 1, .int (-1), .int 2, .bl true, .bl false, .non, .ref e1, .ref e2, .ref e3, .ref e4, .ref e6]), [V.ref f1, .ref f2, .ref f3, .ref f5, .int (10 ^ 30), .ref f6, .ref f8], rfl, rfl, po3, upd_same, by show 36 ≤ sizeLine; decide, fun o5 ho5 => ?_⟩
    have go5 := Go.new (T := T) (M := []) (o := .lst (((([("" : Str), "number", "Number", "fun", "kind", "a", "A", "a1", "A1", "1A", "A_", "A b", "Abcdefghij", "abcdefghij"]).map V.str) ++ [V.str "Abcdefghijk", .str "abcdefghijk", .str "A\n", .int 0, .int 1, .int (-1), .int 2, .bl true, .bl false, .non, .ref e1, .ref e2, .ref e3, .ref e4, .ref e6]) ++ [V.ref f1, .ref f2, .ref f3, .ref f5, .int (10 ^ 30), .ref f6, .ref f8])) ho5
    have no5 := up w18 ho5
    have w19 := w18.go go5
    have c19 := c18.trans go5
    have re1 := (((((((((((go3.trans gf1).trans gf2).trans gf3).trans gf4).trans gf5).trans gf6).trans gf7).trans gf8).trans go4).trans go5)).tup pe1 (nn _)
    have re4 := (((((((((((go3.trans gf1).trans gf2).trans gf3).trans gf4).trans gf5).trans gf6).trans gf7).trans gf8).trans go4).trans go5)).tup pe4 (nn _)
    have re5 := (((((((((((go3.trans gf1).trans gf2).trans gf3).trans gf4).trans gf5).trans gf6).trans gf7).trans gf8).trans go4).trans go5)).tup pe5 (nn _)
    have re6 := (((((((((((go3.trans gf1).trans gf2).trans gf3).trans gf4).trans gf5).trans gf6).trans gf7).trans gf8).trans go4).trans go5)).tup pe6 (nn _)
    have re2 := (((((((((((go3.trans gf1).trans gf2).trans gf3).trans gf4).trans gf5).trans gf6).trans gf7).trans gf8).trans go4).trans go5)).lst pe2 (nn _)
    have re3 := (((((((((((go3.trans gf1).trans gf2).trans gf3).trans gf4).trans gf5).trans gf6).trans gf7).trans gf8).trans go4).trans go5)).gr _ _ pe3 (nn _) (fun _ z => by cases z)
    have rf1 := go5.tup pf1 (nn _)
    have rf3 := go5.tup pf3 (nn _)
    have rf4 := go5.tup pf4 (nn _)
    have rf5 := go5.tup pf5 (nn _)
    have rf6 := go5.tup pf6 (nn _)
    have rf7 := go5.tup pf7 (nn _)
    have rf2 := go5.lst pf2 (nn _)
    have rf8 := go5.tup pf8 (nn _)
    have vz := hv.go (((Go.refl (T := T) (M := [a, l]) (H := H))).trans c19.of0)
    have dz : DvAll [a, l] _ _ (oddD _) := DvAll.append (DvAll.append (DvAll.strs _) (.cons (.str _) (.cons (.str _) (.cons (.str _) (.cons (.int _) (.cons (.int _) (.cons (.int _) (.cons (.int _) (.cons (.bl _) (.cons (.bl _) (.cons .non (.cons (.tup re1 ne1 .nil) (.cons (.lst re2 ne2 .nil) (.cons (.dct re3 ne3) (.cons (.tup re4 ne4 (.cons (.str _) .nil)) (.cons (.tup re6 ne6 (.cons (.str _) (.cons (.tup re5 ne5 .nil) .nil))) .nil))))))))))))))))
      (.cons (.tup rf1 nf1 (.cons vz .nil)) (.cons (.lst rf2 nf2 (.cons vz .nil)) (.cons (.tup rf3 nf3 (.cons vz (.cons vz .nil))) (.cons (.tup rf5 nf5 (.cons (.str _) (.cons (.tup rf4 nf4 (.cons (.int _) (.cons (.int _) .nil))) .nil))) (.cons (.int _) (.cons (.tup rf6 nf6 (.cons (.int _) (.cons (.int _) .nil))) (.cons (.tup rf8 nf8 (.cons (.str _) (.cons (.tup rf7 nf7 .nil) .nil))) .nil)))))))
    refine ⟨_, rfl, _, rfl, _, rfl, o5, _, rfl, .inl (SqL.of upd_same), a, l, k, _, rfl, (show (0 : Int) < 36 by decide), (show (36 : Int) < 1073741824 by decide), by omega, w19, c19.tb (((Go.refl (T := T) (M := [a, l]) (H := H))).tb ht), fun iz Hz z0 z1 Wz gz tz => ?_⟩
    obtain ⟨vv, dd, ez, mz, hz⟩ := at_dv dz z0 z1
    exact ⟨o5, _, iz, vv, rfl, rfl, SqL.of (gz.lst upd_same no5), ez, q vv dd Hz (hz.go gz) (oddD_near hn mz) (Wz.up (by omega)) ((((Go.refl (T := T) (M := [a, l]) (H := H))).trans c19.of0).trans gz) tz⟩
  | int z =>
    refine ⟨_, rfl, iteF (iteF ?_)⟩
    refine ⟨_, rfl, _, _, _, rfl, hv, _, rfl, iteF (iteF ?_)⟩
    refine ⟨_, rfl, _, _, _, rfl, hv, _, rfl, iteF (iteF ?_)⟩
    refine ⟨_, rfl, _, _, _, rfl, hv, _, rfl, iteT ?_⟩
    refine ⟨_, rfl, a, l, k, 2, rfl, by decide, by decide, by omega, W, ht, fun i1 H1 j0 j1 W1 g1 t1 => ⟨_, _, rfl, rfl, _, rfl, ?_⟩⟩
    by_cases c1 : (0 : Int) < i1
    · refine if_true_of (decide_eq_true c1) ?_
      cases hv
      refine ⟨_, rfl, z, 1, (.inl rfl), rfl, trivial, _, rfl, z, 1, (.inl rfl), rfl, trivial, _, rfl, z, (.inl rfl), _, rfl, _, _, rfl, rfl, ⟨by decide, by decide, by decide⟩, z, _, (.inl rfl), rfl, .inr ⟨by decide, by decide⟩, _, rfl, ?_⟩
      skip
      have hzn : z.natAbs ≤ n := by simpa only [nice, decide_eq_true_eq] using hn
      have hz20 : z.natAbs.log2 < 1920 := log_int hl (by omega)
      refine .inl ⟨z, rfl, hz20, _, rfl, _, rfl, Nat.le_trans (int_text_len_1921 hz20) (by rw [sizeLine_eq]; decide), by show 5 ≤ sizeLine; decide, fun o ho => ?_⟩
      have gO := Go.new (T := T) (M := []) (o := .lst [.int (z + 1), .int (z - 1), .int (-z), .int (z * (10 : Int) ^ (9 : Int).toNat), .str (cutS (Str.ofString (toString z)) none (some 40))]) ho
      have DZ : DvAll [a, l] (upd H1 o (.lst [.int (z + 1), .int (z - 1), .int (-z), .int (z * (10 : Int) ^ (9 : Int).toNat), .str (cutS (Str.ofString (toString z)) none (some 40))])) _ [PyData.int (z + 1), .int (z - 1), .int (-z), .int (z * (10 : Int) ^ (9 : Int).toNat), .str (cutS (Str.ofString (toString z)) none (some 40))] := .cons (.int _) (.cons (.int _) (.cons (.int _) (.cons (.int _) (.cons (.str _) .nil))))
      refine ⟨_, rfl, a, l, k + 1, 5, rfl, by decide, by decide, by omega, W1.go gO, gO.tb t1, fun iz Hz z0 z1 Wz gz tz => ?_⟩
      obtain ⟨vv, dd, ez, mz, hzz⟩ := at_dv DZ z0 z1
      exact ⟨o, _, iz, vv, rfl, rfl, SqL.of (gz.lst upd_same (up W1 ho)), ez, q vv dd Hz (hzz.go gz) (near_nums hl (by omega) (asc_int z) mz) (Wz.up (by omega)) ((g1.trans gO.of0).trans gz) tz⟩
    · refine if_false_of (decide_eq_false c1) ?_
      have w0 := W1
      have c0 := Go.refl (T := T) (M := []) (H := H1)
      refine ⟨by show 14 ≤ sizeLine; decide, fun o1 ho1 => ?_⟩
      have go1 := Go.new (T := T) (M := []) (o := .lst (([("" : Str), "number", "Number", "fun", "kind", "a", "A", "a1", "A1", "1A", "A_", "A b", "Abcdefghij", "abcdefghij"]).map V.str)) ho1
      have no1 := up w0 ho1
      have w1 := w0.go go1
      have c1 := c0.trans go1
      refine ⟨_, rfl, _, rfl, by show 0 ≤ sizeLine; omega, fun e1 he1 => ⟨by show 0 ≤ sizeLine; omega, fun e2 he2 => fun e3 he3 => ⟨by show 1 ≤ sizeLine; decide, fun e4 he4 => ⟨by show 0 ≤ sizeLine; omega, fun e5 he5 => ⟨by show 2 ≤ sizeLine; decide, fun e6 he6 => ⟨by show 15 ≤ sizeLine; decide, fun o2 ho2 => ?_⟩⟩⟩⟩⟩⟩
      have ge1 := Go.new (T := T) (M := []) (o := .tup []) he1
      have ne1 := up w1 he1
      have w2 := w1.go ge1
      have c2 := c1.trans ge1
      have ge2 := Go.new (T := T) (M := []) (o := .lst []) he2
      have ne2 := up w2 he2
      have w3 := w2.go ge2
      have c3 := c2.trans ge2
      have ge3 := Go.new (T := T) (M := []) (o := .dK []) he3
      have ne3 := up w3 he3
      have w4 := w3.go ge3
      have c4 := c3.trans ge3
      have ge4 := Go.new (T := T) (M := []) (o := .tup [.str "A"]) he4
      have ne4 := up w4 he4
      have w5 := w4.go ge4
      have c5 := c4.trans ge4
      have ge5 := Go.new (T := T) (M := []) (o := .tup []) he5
      have ne5 := up w5 he5
      have w6 := w5.go ge5
      have c6 := c5.trans ge5
      have ge6 := Go.new (T := T) (M := []) (o := .tup [.str "A", .ref e5]) he6
      have ne6 := up w6 he6
      have w7 := w6.go ge6
      have c7 := c6.trans ge6
      have go2 := Go.new (T := T) (M := []) (o := .lst [.str "Abcdefghijk", .str "abcdefghijk", .str "A\n", .int 0, .int 1, .int (-1), .int 2, .bl true, .bl false, .non, .ref e1, .ref e2, .ref e3, .ref e4, .ref e6]) ho2
      have no2 := up w7 ho2
      have w8 := w7.go go2
      have c8 := c7.trans go2
      have po1 := (((((((ge1.trans ge2).trans ge3).trans ge4).trans ge5).trans ge6).trans go2)).lst upd_same (nn _)
      have pe1 := ((((((ge2.trans ge3).trans ge4).trans ge5).trans ge6).trans go2)).tup upd_same (nn _)
      have pe2 := (((((ge3.trans ge4).trans ge5).trans ge6).trans go2)).lst upd_same (nn _)
      have pe3 := ((((ge4.trans ge5).trans ge6).trans go2)).gr _ _ (upd_same (a := e3) (o := .dK [])) (nn _) (fun _ z => by cases z)
      have pe4 := (((ge5.trans ge6).trans go2)).tup upd_same (nn _)
      have pe5 := ((ge6.trans go2)).tup upd_same (nn _)
      have pe6 := (go2).tup upd_same (nn _)
      refine ⟨o1, o2, (([("" : Str), "number", "Number", "fun", "kind", "a", "A", "a1", "A1", "1A", "A_", "A b", "Abcdefghij", "abcdefghij"]).map V.str), [V.str "Abcdefghijk", .str "abcdefghijk", .str "A\n", .int 0, .int 1, .int (-1), .int 2, .bl true, .bl false, .non, .ref e1, .ref e2, .ref e3, .ref e4, .ref e6], rfl, rfl, po1, upd_same, by show 29 ≤ sizeLine; decide, fun o3 ho3 => ?_⟩
      have go3 := Go.new (T := T) (M := []) (o := .lst ((([("" : Str), "number", "Number", "fun", "kind", "a", "A", "a1", "A1", "1A", "A_", "A b", "Abcdefghij", "abcdefghij"]).map V.str) ++ [V.str "Abcdefghijk", .str "abcdefghijk", .str "A\n", .int 0, .int 1, .int (-1), .int 2, .bl true, .bl false, .non, .ref e1, .ref e2, .ref e3, .ref e4, .ref e6])) ho3
      have no3 := up w8 ho3
      have w9 := w8.go go3
      have c9 := c8.trans go3
      refine ⟨_, rfl, _, rfl, by show 1 ≤ sizeLine; decide, fun f1 hf1 => ⟨_, rfl, by show 1 ≤ sizeLine; decide, fun f2 hf2 => ⟨_, rfl, _, rfl, by show 2 ≤ sizeLine; decide, fun f3 hf3 => ⟨by show 2 ≤ sizeLine; decide, fun f4 hf4 => ⟨by show 2 ≤ sizeLine; decide, fun f5 hf5 => ⟨_, _, rfl, rfl, ⟨by decide, by decide, by decide⟩, by show 2 ≤ sizeLine; decide, fun f6 hf6 => ⟨by show 0 ≤ sizeLine; omega, fun f7 hf7 => ⟨by show 2 ≤ sizeLine; decide, fun f8 hf8 => ⟨by show 7 ≤ sizeLine; decide, fun o4 ho4 => ?_⟩⟩⟩⟩⟩⟩⟩⟩⟩
      have gf1 := Go.new (T := T) (M := []) (o := .tup [v]) hf1
      have nf1 := up w9 hf1
      have w10 := w9.go gf1
      have c10 := c9.trans gf1
      have gf2 := Go.new (T := T) (M := []) (o := .lst [v]) hf2
      have nf2 := up w10 hf2
      have w11 := w10.go gf2
      have c11 := c10.trans gf2
      have gf3 := Go.new (T := T) (M := []) (o := .tup [v, v]) hf3
      have nf3 := up w11 hf3
      have w12 := w11.go gf3
      have c12 := c11.trans gf3
      have gf4 := Go.new (T := T) (M := []) (o := .tup [.int 1, .int 1]) hf4
      have nf4 := up w12 hf4
      have w13 := w12.go gf4
      have c13 := c12.trans gf4
      have gf5 := Go.new (T := T) (M := []) (o := .tup [.str "num", .ref f4]) hf5
      have nf5 := up w13 hf5
      have w14 := w13.go gf5
      have c14 := c13.trans gf5
      have gf6 := Go.new (T := T) (M := []) (o := .tup [.int 0, .int 1]) hf6
      have nf6 := up w14 hf6
      have w15 := w14.go gf6
      have c15 := c14.trans gf6
      have gf7 := Go.new (T := T) (M := []) (o := .tup []) hf7
      have nf7 := up w15 hf7
      have w16 := w15.go gf7
      have c16 := c15.trans gf7
      have gf8 := Go.new (T := T) (M := []) (o := .tup [.str "Fun", .ref f7]) hf8
      have nf8 := up w16 hf8
      have w17 := w16.go gf8
      have c17 := c16.trans gf8
      have go4 := Go.new (T := T) (M := []) (o := .lst [V.ref f1, .ref f2, .ref f3, .ref f5, .int (10 ^ 30), .ref f6, .ref f8]) ho4
      have no4 := up w17 ho4
      have w18 := w17.go go4
      have c18 := c17.trans go4
      have po3 := (((((((((gf1.trans gf2).trans gf3).trans gf4).trans gf5).trans gf6).trans gf7).trans gf8).trans go4)).lst upd_same (nn _)
      have pf1 := ((((((((gf2.trans gf3).trans gf4).trans gf5).trans gf6).trans gf7).trans gf8).trans go4)).tup upd_same (nn _)
      have pf2 := (((((((gf3.trans gf4).trans gf5).trans gf6).trans gf7).trans gf8).trans go4)).lst upd_same (nn _)
      have pf3 := ((((((gf4.trans gf5).trans gf6).trans gf7).trans gf8).trans go4)).tup upd_same (nn _)
      have pf4 := (((((gf5.trans gf6).trans gf7).trans gf8).trans go4)).tup upd_same (nn _)
      have pf5 := ((((gf6.trans gf7).trans gf8).trans go4)).tup upd_same (nn _)
      have pf6 := (((gf7.trans gf8).trans go4)).tup upd_same (nn _)
      have pf7 := ((gf8.trans go4)).tup upd_same (nn _)
      have pf8 := (go4).tup upd_same (nn _)
      refine ⟨o3, o4, ((([("" : Str), "number", "Number", "fun", "kind", "a", "A", "a1", "A1", "1A", "A_", "A b", "Abcdefghij", "abcdefghij"]).map V.str) ++ [V.str "Abcdefghijk", .str "abcdefghijk", .str "A\n", .int 0, .int 1, .int (-1), .int 2, .bl true, .bl false, .non, .ref e1, .ref e2, .ref e3, .ref e4, .ref e6]), [V.ref f1, .ref f2, .ref f3, .ref f5, .int (10 ^ 30), .ref f6, .ref f8], rfl, rfl, po3, upd_same, by show 36 ≤ sizeLine; decide, fun o5 ho5 => ?_⟩
      have go5 := Go.new (T := T) (M := []) (o := .lst (((([("" : Str), "number", "Number", "fun", "kind", "a", "A", "a1", "A1", "1A", "A_", "A b", "Abcdefghij", "abcdefghij"]).map V.str) ++ [V.str "Abcdefghijk", .str "abcdefghijk", .str "A\n", .int 0, .int 1, .int (-1), .int 2, .bl true, .bl false, .non, .ref e1, .ref e2, .ref e3, .ref e4, .ref e6]) ++ [V.ref f1, .ref f2, .ref f3, .ref f5, .int (10 ^ 30), .ref f6, .ref f8])) ho5
      have no5 := up w18 ho5
      have w19 := w18.go go5
      have c19 := c18.trans go5
      have re1 := (((((((((((go3.trans gf1).trans gf2).trans gf3).trans gf4).trans gf5).trans gf6).trans gf7).trans gf8).trans go4).trans go5)).tup pe1 (nn _)
      have re4 := (((((((((((go3.trans gf1).trans gf2).trans gf3).trans gf4).trans gf5).trans gf6).trans gf7).trans gf8).trans go4).trans go5)).tup pe4 (nn _)
      have re5 := (((((((((((go3.trans gf1).trans gf2).trans gf3).trans gf4).trans gf5).trans gf6).trans gf7).trans gf8).trans go4).trans go5)).tup pe5 (nn _)
      have re6 := (((((((((((go3.trans gf1).trans gf2).trans gf3).trans gf4).trans gf5).trans gf6).trans gf7).trans gf8).trans go4).trans go5)).tup pe6 (nn _)
      have re2 := (((((((((((go3.trans gf1).trans gf2).trans gf3).trans gf4).trans gf5).trans gf6).trans gf7).trans gf8).trans go4).trans go5)).lst pe2 (nn _)
      have re3 := (((((((((((go3.trans gf1).trans gf2).trans gf3).trans gf4).trans gf5).trans gf6).trans gf7).trans gf8).trans go4).trans go5)).gr _ _ pe3 (nn _) (fun _ z => by cases z)
      have rf1 := go5.tup pf1 (nn _)
      have rf3 := go5.tup pf3 (nn _)
      have rf4 := go5.tup pf4 (nn _)
      have rf5 := go5.tup pf5 (nn _)
      have rf6 := go5.tup pf6 (nn _)
      have rf7 := go5.tup pf7 (nn _)
      have rf2 := go5.lst pf2 (nn _)
      have rf8 := go5.tup pf8 (nn _)
      have vz := hv.go ((g1).trans c19.of0)
      have dz : DvAll [a, l] _ _ (oddD _) := DvAll.append (DvAll.append (DvAll.strs _) (.cons (.str _) (.cons (.str _) (.cons (.str _) (.cons (.int _) (.cons (.int _) (.cons (.int _) (.cons (.int _) (.cons (.bl _) (.cons (.bl _) (.cons .non (.cons (.tup re1 ne1 .nil) (.cons (.lst re2 ne2 .nil) (.cons (.dct re3 ne3) (.cons (.tup re4 ne4 (.cons (.str _) .nil)) (.cons (.tup re6 ne6 (.cons (.str _) (.cons (.tup re5 ne5 .nil) .nil))) .nil))))))))))))))))
        (.cons (.tup rf1 nf1 (.cons vz .nil)) (.cons (.lst rf2 nf2 (.cons vz .nil)) (.cons (.tup rf3 nf3 (.cons vz (.cons vz .nil))) (.cons (.tup rf5 nf5 (.cons (.str _) (.cons (.tup rf4 nf4 (.cons (.int _) (.cons (.int _) .nil))) .nil))) (.cons (.int _) (.cons (.tup rf6 nf6 (.cons (.int _) (.cons (.int _) .nil))) (.cons (.tup rf8 nf8 (.cons (.str _) (.cons (.tup rf7 nf7 .nil) .nil))) .nil)))))))
      refine ⟨_, rfl, _, rfl, _, rfl, o5, _, rfl, .inl (SqL.of upd_same), a, l, (k + 1), _, rfl, (show (0 : Int) < 36 by decide), (show (36 : Int) < 1073741824 by decide), by omega, w19, c19.tb ((g1).tb ht), fun iz Hz z0 z1 Wz gz tz => ?_⟩
      obtain ⟨vv, dd, ez, mz, hz⟩ := at_dv dz z0 z1
      exact ⟨o5, _, iz, vv, rfl, rfl, SqL.of (gz.lst upd_same no5), ez, q vv dd Hz (hz.go gz) (oddD_near hn mz) (Wz.up (by omega)) (((g1).trans c19.of0).trans gz) tz⟩
  | bool z =>
    refine ⟨_, rfl, iteF (iteF ?_)⟩
    refine ⟨_, rfl, _, _, _, rfl, hv, _, rfl, iteF (iteF ?_)⟩
    refine ⟨_, rfl, _, _, _, rfl, hv, _, rfl, iteF (iteF ?_)⟩
    refine ⟨_, rfl, _, _, _, rfl, hv, _, rfl, iteT ?_⟩
    refine ⟨_, rfl, a, l, k, 2, rfl, by decide, by decide, by omega, W, ht, fun i1 H1 j0 j1 W1 g1 t1 => ⟨_, _, rfl, rfl, _, rfl, ?_⟩⟩
    by_cases c1 : (0 : Int) < i1
    · refine if_true_of (decide_eq_true c1) ?_
      cases hv
      refine ⟨_, rfl, (if z = true then 1 else 0), 1, (.inr ⟨z, rfl, rfl⟩), rfl, trivial, _, rfl, (if z = true then 1 else 0), 1, (.inr ⟨z, rfl, rfl⟩), rfl, trivial, _, rfl, (if z = true then 1 else 0), (.inr ⟨z, rfl, rfl⟩), _, rfl, _, _, rfl, rfl, ⟨by decide, by decide, by decide⟩, (if z = true then 1 else 0), _, (.inr ⟨z, rfl, rfl⟩), rfl, .inr ⟨by decide, by decide⟩, _, rfl, ?_⟩
      skip
      refine .inr ⟨z, rfl, _, rfl, _, rfl, by cases z <;> decide, by show 5 ≤ sizeLine; decide, fun o ho => ?_⟩
      have gO := Go.new (T := T) (M := []) (o := .lst [.int ((if z = true then 1 else 0) + 1), .int ((if z = true then 1 else 0) - 1), .int (-(if z = true then 1 else 0)), .int ((if z = true then 1 else 0) * (10 : Int) ^ (9 : Int).toNat), .str (cutS (if z = true then "True" else "False") none (some 40))]) ho
      have DZ : DvAll [a, l] (upd H1 o (.lst [.int ((if z = true then 1 else 0) + 1), .int ((if z = true then 1 else 0) - 1), .int (-(if z = true then 1 else 0)), .int ((if z = true then 1 else 0) * (10 : Int) ^ (9 : Int).toNat), .str (cutS (if z = true then "True" else "False") none (some 40))])) _ [PyData.int ((if z = true then 1 else 0) + 1), .int ((if z = true then 1 else 0) - 1), .int (-(if z = true then 1 else 0)), .int ((if z = true then 1 else 0) * (10 : Int) ^ (9 : Int).toNat), .str (cutS (if z = true then "True" else "False") none (some 40))] := .cons (.int _) (.cons (.int _) (.cons (.int _) (.cons (.int _) (.cons (.str _) .nil))))
      refine ⟨_, rfl, a, l, k + 1, 5, rfl, by decide, by decide, by omega, W1.go gO, gO.tb t1, fun iz Hz z0 z1 Wz gz tz => ?_⟩
      obtain ⟨vv, dd, ez, mz, hzz⟩ := at_dv DZ z0 z1
      exact ⟨o, _, iz, vv, rfl, rfl, SqL.of (gz.lst upd_same (up W1 ho)), ez, q vv dd Hz (hzz.go gz) (near_nums hl (by cases z <;> simp) (by cases z <;> decide +kernel) mz) (Wz.up (by omega)) ((g1.trans gO.of0).trans gz) tz⟩
    · refine if_false_of (decide_eq_false c1) ?_
      have w0 := W1
      have c0 := Go.refl (T := T) (M := []) (H := H1)
      refine ⟨by show 14 ≤ sizeLine; decide, fun o1 ho1 => ?_⟩
      have go1 := Go.new (T := T) (M := []) (o := .lst (([("" : Str), "number", "Number", "fun", "kind", "a", "A", "a1", "A1", "1A", "A_", "A b", "Abcdefghij", "abcdefghij"]).map V.str)) ho1
      have no1 := up w0 ho1
      have w1 := w0.go go1
      have c1 := c0.trans go1
      refine ⟨_, rfl, _, rfl, by show 0 ≤ sizeLine; omega, fun e1 he1 => ⟨by show 0 ≤ sizeLine; omega, fun e2 he2 => fun e3 he3 => ⟨by show 1 ≤ sizeLine; decide, fun e4 he4 => ⟨by show 0 ≤ sizeLine; omega, fun e5 he5 => ⟨by show 2 ≤ sizeLine; decide, fun e6 he6 => ⟨by show 15 ≤ sizeLine; decide, fun o2 ho2 => ?_⟩⟩⟩⟩⟩⟩
      have ge1 := Go.new (T := T) (M := []) (o := .tup []) he1
      have ne1 := up w1 he1
      have w2 := w1.go ge1
      have c2 := c1.trans ge1
      have ge2 := Go.new (T := T) (M := []) (o := .lst []) he2
      have ne2 := up w2 he2
      have w3 := w2.go ge2
      have c3 := c2.trans ge2
      have ge3 := Go.new (T := T) (M := []) (o := .dK []) he3
      have ne3 := up w3 he3
      have w4 := w3.go ge3
      have c4 := c3.trans ge3
      have ge4 := Go.new (T := T) (M := []) (o := .tup [.str "A"]) he4
      have ne4 := up w4 he4
      have w5 := w4.go ge4
      have c5 := c4.trans ge4
      have ge5 := Go.new (T := T) (M := []) (o := .tup []) he5
      have ne5 := up w5 he5
      have w6 := w5.go ge5
      have c6 := c5.trans ge5
      have ge6 := Go.new (T := T) (M := []) (o := .tup [.str "A", .ref e5]) he6
      have ne6 := up w6 he6
      have w7 := w6.go ge6
      have c7 := c6.trans ge6
      have go2 := Go.new (T := T) (M := []) (o := .lst [.str "Abcdefghijk", .str "abcdefghijk", .str "A\n", .int 0, .int 1, .int (-1), .int 2, .bl true, .bl false, .non, .ref e1, .ref e2, .ref e3, .ref e4, .ref e6]) ho2
      have no2 := up w7 ho2
      have w8 := w7.go go2
      have c8 := c7.trans go2
      have po1 := (((((((ge1.trans ge2).trans ge3).trans ge4).trans ge5).trans ge6).trans go2)).lst upd_same (nn _)
      have pe1 := ((((((ge2.trans ge3).trans ge4).trans ge5).trans ge6).trans go2)).tup upd_same (nn _)
      have pe2 := (((((ge3.trans ge4).trans ge5).trans ge6).trans go2)).lst upd_same (nn _)
      have pe3 := ((((ge4.trans ge5).trans ge6).trans go2)).gr _ _ (upd_same (a := e3) (o := .dK [])) (nn _) (fun _ z => by cases z)
      have pe4 := (((ge5.trans ge6).trans go2)).tup upd_same (nn _)
      have pe5 := ((ge6.trans go2)).tup upd_same (nn _)
      have pe6 := (go2).tup upd_same (nn _)
      refine ⟨o1, o2, (([("" : Str), "number", "Number", "fun", "kind", "a", "A", "a1", "A1", "1A", "A_", "A b", "Abcdefghij", "abcdefghij"]).map V.str), [V.str "Abcdefghijk", .str "abcdefghijk", .str "A\n", .int 0, .int 1, .int (-1), .int 2, .bl true, .bl false, .non, .ref e1, .ref e2, .ref e3, .ref e4, .ref e6], rfl, rfl, po1, upd_same, by show 29 ≤ sizeLine; decide, fun o3 ho3 => ?_⟩
      have go3 := Go.new (T := T) (M := []) (o := .lst ((([("" : Str), "number", "Number", "fun", "kind", "a", "A", "a1", "A1", "1A", "A_", "A b", "Abcdefghij", "abcdefghij"]).map V.str) ++ [V.str "Abcdefghijk", .str "abcdefghijk", .str "A\n", .int 0, .int 1, .int (-1), .int 2, .bl true, .bl false, .non, .ref e1, .ref e2, .ref e3, .ref e4, .ref e6])) ho3
      have no3 := up w8 ho3
      have w9 := w8.go go3
      have c9 := c8.trans go3
      refine ⟨_, rfl, _, rfl, by show 1 ≤ sizeLine; decide, fun f1 hf1 => ⟨_, rfl, by show 1 ≤ sizeLine; decide, fun f2 hf2 => ⟨_, rfl, _, rfl, by show 2 ≤ sizeLine; decide, fun f3 hf3 => ⟨by show 2 ≤ sizeLine; decide, fun f4 hf4 => ⟨by show 2 ≤ sizeLine; decide, fun f5 hf5 => ⟨_, _, rfl, rfl, ⟨by decide, by decide, by decide⟩, by show 2 ≤ sizeLine; decide, fun f6 hf6 => ⟨by show 0 ≤ sizeLine; omega, fun f7 hf7 => ⟨by show 2 ≤ sizeLine; decide, fun f8 hf8 => ⟨by show 7 ≤ sizeLine; decide, fun o4 ho4 => ?_⟩⟩⟩⟩⟩⟩⟩⟩⟩
      have gf1 := Go.new (T := T) (M := []) (o := .tup [v]) hf1
      have nf1 := up w9 hf1
      have w10 := w9.go gf1
      have c10 := c9.trans gf1
      have gf2 := Go.new (T := T) (M := []) (o := .lst [v]) hf2
      have nf2 := up w10 hf2
      have w11 := w10.go gf2
      have c11 := c10.trans gf2
      have gf3 := Go.new (T := T) (M := []) (o := .tup [v, v]) hf3
      have nf3 := up w11 hf3
      have w12 := w11.go gf3
      have c12 := c11.trans gf3
      have gf4 := Go.new (T := T) (M := []) (o := .tup [.int 1, .int 1]) hf4
      have nf4 := up w12 hf4
      have w13 := w12.go gf4
      have c13 := c12.trans gf4
      have gf5 := Go.new (T := T) (M := []) (o := .tup [.str "num", .ref f4]) hf5
      have nf5 := up w13 hf5
      have w14 := w13.go gf5
      have c14 := c13.trans gf5
      have gf6 := Go.new (T := T) (M := []) (o := .tup [.int 0, .int 1]) hf6
      have nf6 := up w14 hf6
      have w15 := w14.go gf6
      have c15 := c14.trans gf6
      have gf7 := Go.new (T := T) (M := []) (o := .tup []) hf7
      have nf7 := up w15 hf7
      have w16 := w15.go gf7
      have c16 := c15.trans gf7
      have gf8 := Go.new (T := T) (M := []) (o := .tup [.str "Fun", .ref f7]) hf8
      have nf8 := up w16 hf8
      have w17 := w16.go gf8
      have c17 := c16.trans gf8
      have go4 := Go.new (T := T) (M := []) (o := .lst [V.ref f1, .ref f2, .ref f3, .ref f5, .int (10 ^ 30), .ref f6, .ref f8]) ho4
      have no4 := up w17 ho4
      have w18 := w17.go go4
      have c18 := c17.trans go4
      have po3 := (((((((((gf1.trans gf2).trans gf3).trans gf4).trans gf5).trans gf6).trans gf7).trans gf8).trans go4)).lst upd_same (nn _)
      have pf1 := ((((((((gf2.trans gf3).trans gf4).trans gf5).trans gf6).trans gf7).trans gf8).trans go4)).tup upd_same (nn _)
      have pf2 := (((((((gf3.trans gf4).trans gf5).trans gf6).trans gf7).trans gf8).trans go4)).lst upd_same (nn _)
      have pf3 := ((((((gf4.trans gf5).trans gf6).trans gf7).trans gf8).trans go4)).tup upd_same (nn _)
      have pf4 := (((((gf5.trans gf6).trans gf7).trans gf8).trans go4)).tup upd_same (nn _)
      have pf5 := ((((gf6.trans gf7).trans gf8).trans go4)).tup upd_same (nn _)
      have pf6 := (((gf7.trans gf8).trans go4)).tup upd_same (nn _)
      have pf7 := ((gf8.trans go4)).tup upd_same (nn _)
      have pf8 := (go4).tup upd_same (nn _)
      refine ⟨o3, o4, ((([("" : Str), "number", "Number", "fun", "kind", "a", "A", "a1", "A1", "1A", "A_", "A b", "Abcdefghij", "abcdefghij"]).map V.str) ++ [V.str "Abcdefghijk", .str "abcdefghijk", .str "A\n", .int 0, .int 1, .int (-1), .int 2, .bl true, .bl false, .non, .ref e1, .ref e2, .ref e3, .ref e4, .ref e6]), [V.ref f1, .ref f2, .ref f3, .ref f5, .int (10 ^ 30), .ref f6, .ref f8], rfl, rfl, po3, upd_same, by show 36 ≤ sizeLine; decide, fun o5 ho5 => ?_⟩
      have go5 := Go.new (T := T) (M := []) (o := .lst (((([("" : Str), "number", "Number", "fun", "kind", "a", "A", "a1", "A1", "1A", "A_", "A b", "Abcdefghij", "abcdefghij"]).map V.str) ++ [V.str "Abcdefghijk", .str "abcdefghijk", .str "A\n", .int 0, .int 1, .int (-1), .int 2, .bl true, .bl false, .non, .ref e1, .ref e2, .ref e3, .ref e4, .ref e6]) ++ [V.ref f1, .ref f2, .ref f3, .ref f5, .int (10 ^ 30), .ref f6, .ref f8])) ho5
      have no5 := up w18 ho5
      have w19 := w18.go go5
      have c19 := c18.trans go5
      have re1 := (((((((((((go3.trans gf1).trans gf2).trans gf3).trans gf4).trans gf5).trans gf6).trans gf7).trans gf8).trans go4).trans go5)).tup pe1 (nn _)
      have re4 := (((((((((((go3.trans gf1).trans gf2).trans gf3).trans gf4).trans gf5).trans gf6).trans gf7).trans gf8).trans go4).trans go5)).tup pe4 (nn _)
      have re5 := (((((((((((go3.trans gf1).trans gf2).trans gf3).trans gf4).trans gf5).trans gf6).trans gf7).trans gf8).trans go4).trans go5)).tup pe5 (nn _)
      have re6 := (((((((((((go3.trans gf1).trans gf2).trans gf3).trans gf4).trans gf5).trans gf6).trans gf7).trans gf8).trans go4).trans go5)).tup pe6 (nn _)
      have re2 := (((((((((((go3.trans gf1).trans gf2).trans gf3).trans gf4).trans gf5).trans gf6).trans gf7).trans gf8).trans go4).trans go5)).lst pe2 (nn _)
      have re3 := (((((((((((go3.trans gf1).trans gf2).trans gf3).trans gf4).trans gf5).trans gf6).trans gf7).trans gf8).trans go4).trans go5)).gr _ _ pe3 (nn _) (fun _ z => by cases z)
      have rf1 := go5.tup pf1 (nn _)
      have rf3 := go5.tup pf3 (nn _)
      have rf4 := go5.tup pf4 (nn _)
      have rf5 := go5.tup pf5 (nn _)
      have rf6 := go5.tup pf6 (nn _)
      have rf7 := go5.tup pf7 (nn _)
      have rf2 := go5.lst pf2 (nn _)
      have rf8 := go5.tup pf8 (nn _)
      have vz := hv.go ((g1).trans c19.of0)
      have dz : DvAll [a, l] _ _ (oddD _) := DvAll.append (DvAll.append (DvAll.strs _) (.cons (.str _) (.cons (.str _) (.cons (.str _) (.cons (.int _) (.cons (.int _) (.cons (.int _) (.cons (.int _) (.cons (.bl _) (.cons (.bl _) (.cons .non (.cons (.tup re1 ne1 .nil) (.cons (.lst re2 ne2 .nil) (.cons (.dct re3 ne3) (.cons (.tup re4 ne4 (.cons (.str _) .nil)) (.cons (.tup re6 ne6 (.cons (.str _) (.cons (.tup re5 ne5 .nil) .nil))) .nil))))))))))))))))
        (.cons (.tup rf1 nf1 (.cons vz .nil)) (.cons (.lst rf2 nf2 (.cons vz .nil)) (.cons (.tup rf3 nf3 (.cons vz (.cons vz .nil))) (.cons (.tup rf5 nf5 (.cons (.str _) (.cons (.tup rf4 nf4 (.cons (.int _) (.cons (.int _) .nil))) .nil))) (.cons (.int _) (.cons (.tup rf6 nf6 (.cons (.int _) (.cons (.int _) .nil))) (.cons (.tup rf8 nf8 (.cons (.str _) (.cons (.tup rf7 nf7 .nil) .nil))) .nil)))))))
      refine ⟨_, rfl, _, rfl, _, rfl, o5, _, rfl, .inl (SqL.of upd_same), a, l, (k + 1), _, rfl, (show (0 : Int) < 36 by decide), (show (36 : Int) < 1073741824 by decide), by omega, w19, c19.tb ((g1).tb ht), fun iz Hz z0 z1 Wz gz tz => ?_⟩
      obtain ⟨vv, dd, ez, mz, hz⟩ := at_dv dz z0 z1
      exact ⟨o5, _, iz, vv, rfl, rfl, SqL.of (gz.lst upd_same no5), ez, q vv dd Hz (hz.go gz) (oddD_near hn mz) (Wz.up (by omega)) (((g1).trans c19.of0).trans gz) tz⟩
  | str x =>
    have hax : asc x = true := by simpa only [nice] using hn
    have lx : 12 * x.length + 4 ≤ 1000000 := by simpa only [wt] using hw
    have sx : x.length ≤ sizeLine := by rw [sizeLine_eq]; omega
    refine ⟨_, rfl, iteF (iteF ?_)⟩
    refine ⟨_, rfl, _, _, _, rfl, hv, _, rfl, iteF (iteF ?_)⟩
    refine ⟨_, rfl, _, _, _, rfl, hv, _, rfl, iteT ?_⟩
    refine ⟨_, rfl, a, l, k, 3, rfl, by decide, by decide, by omega, W, ht, fun i1 H1 j0 j1 W1 g1 t1 => ⟨_, _, rfl, rfl, _, rfl, ?_⟩⟩
    by_cases c1 : (0 : Int) < i1
    · refine if_true_of (decide_eq_true c1) ?_
      cases hv
      refine ⟨_, rfl, _, rfl, x, rfl, sx, _, _, rfl, rfl, a, l, k + 1, _, rfl, by omega, by omega, by omega, W1, t1, fun i2 H2 j20 j21 W2 g2 t2 => ?_⟩
      obtain ⟨S, eS⟩ : ∃ z : Str, z = " !\"#$&'()*+,-./0123456789:;<=>?@ABCDEFGHIJKLMNOPQRSTUVWXYZ[\\]^_`abcdefghijklmnopqrstuvwxyz{|}~\n" := ⟨_, rfl⟩
      have aS : asc S = true ∧ 1 ≤ S.length ∧ S.length ≤ 200 := by rw [eS]; decide +kernel
      rw [← eS]
      refine ⟨_, rfl, _, rfl, _, rfl, S, rfl, by rw [sizeLine_eq]; omega, a, l, k + 1 + 1, _, rfl, by omega, by omega, by omega, W2, t2, fun i3 H3 j30 j31 W3 g3 t3 => ?_⟩
      obtain ⟨c0, ec0, mc0⟩ := at_ok (xs := S.cps.toList) j30 (by rw [← SL.len_list]; exact j31)
      refine ⟨S, i3, c0, rfl, rfl, by rw [sizeLine_eq]; omega, ec0, _, _, rfl, ?_⟩
      have ag : asc (⟨#[c0]⟩ : Str) = true := asc_one aS.1 mc0
      have lg : ((⟨#[c0]⟩ : Str)).length = 1 := rfl
      generalize (⟨#[c0]⟩ : Str) = sg at ag lg ⊢
      have q1 := len_cut x none (some i2)
      have q2 := len_cut x (some i2) none
      have q3 := len_cut x (some (i2 + 1)) none
      have w1 : (cutS x none (some i2) ++ sg).length ≤ x.length + 1 := by rw [strLen_append]; omega
      have w2 : ((cutS x none (some i2) ++ sg) ++ cutS x (some i2) none).length ≤ 2 * x.length + 1 := by rw [strLen_append]; omega
      have w3 : ((cutS x none (some i2) ++ sg) ++ cutS x (some (i2 + 1)) none).length ≤ 2 * x.length + 1 := by rw [strLen_append]; omega
      have w4 : (x ++ sg).length ≤ x.length + 1 := by rw [strLen_append]; omega
      have lo := lo_len hax
      have hi := up_len hax
      have b1 : (cutS x none (some i2)).length + sg.length ≤ sizeLine := by rw [sizeLine_eq]; omega
      have b2 : (cutS x none (some i2) ++ sg).length + (cutS x (some i2) none).length ≤ sizeLine := by rw [sizeLine_eq]; omega
      have b3 : (cutS x none (some i2) ++ sg).length + (cutS x (some (i2 + 1)) none).length ≤ sizeLine := by rw [sizeLine_eq]; omega
      have b4 : x.length + sg.length ≤ sizeLine := by rw [sizeLine_eq]; omega
      have b5 : x.length ≤ 5592405 := by omega
      refine ⟨_, rfl, _, rfl, _, rfl, x, rfl, sx, _, rfl, _, _, rfl, rfl, b1, _, rfl, _, rfl, _, rfl, x, rfl, sx, _, _, rfl, rfl, b2, ?_⟩
      refine ⟨_, rfl, _, rfl, _, rfl, x, rfl, sx, _, rfl, _, _, rfl, rfl, b1, _, rfl, _, rfl, _, _, rfl, rfl, _, rfl, x, rfl, sx, _, _, rfl, rfl, b3, ?_⟩
      refine ⟨_, rfl, _, rfl, _, _, rfl, rfl, b4, _, rfl, ⟨_, rfl⟩, x, rfl, rfl, b5, by show 4 ≤ sizeLine; decide, fun o1 ho1 => ?_⟩
      refine ⟨_, rfl, _, rfl, ⟨_, rfl⟩, x, rfl, rfl, b5, _, rfl, _, rfl, x, rfl, sx, _, rfl, _, rfl, _, rfl, x, rfl, sx, _, rfl, _, rfl, x, rfl, sx, by show 4 ≤ sizeLine; decide, fun o2 ho2 => ?_⟩
      have r1 := len_cut x (some 1) none
      have r2 := len_cut x none (some (-1))
      have r3 := len_cut x none (some 1)
      have near : ∀ z ∈ ([(cutS x none (some i2) ++ sg) ++ cutS x (some i2) none, (cutS x none (some i2) ++ sg) ++ cutS x (some (i2 + 1)) none, x ++ sg, Txt.lower x] ++ [Txt.upper x, cutS x (some 1) none, cutS x none (some (-1)), cutS x none (some 1)] : List Str), asc z = true ∧ 12 * z.length ≤ 3 * wt (.str x) + 1996 := fun z hz => by
        have ew : wt (.str x) = 12 * x.length + 4 := by simp only [wt]
        rw [ew]
        simp only [List.mem_append, List.mem_cons, List.not_mem_nil, or_false] at hz
        rcases hz with (rfl | rfl | rfl | rfl) | (rfl | rfl | rfl | rfl)
        · exact ⟨asc_add (asc_add (asc_cut hax _ _) ag) (asc_cut hax _ _), by omega⟩
        · exact ⟨asc_add (asc_add (asc_cut hax _ _) ag) (asc_cut hax _ _), by omega⟩
        · exact ⟨asc_add hax ag, by omega⟩
        · exact ⟨lo.2, by omega⟩
        · exact ⟨hi.2, by omega⟩
        · exact ⟨asc_cut hax _ _, by omega⟩
        · exact ⟨asc_cut hax _ _, by omega⟩
        · exact ⟨asc_cut hax _ _, by omega⟩
      have g01 := Go.new (T := T) (M := []) (o := .lst (([(cutS x none (some i2) ++ sg) ++ cutS x (some i2) none, (cutS x none (some i2) ++ sg) ++ cutS x (some (i2 + 1)) none, x ++ sg, Txt.lower x] : List Str).map V.str)) ho1
      have g02 := Go.new (T := T) (M := []) (o := .lst (([Txt.upper x, cutS x (some 1) none, cutS x none (some (-1)), cutS x none (some 1)] : List Str).map V.str)) ho2
      refine ⟨o1, o2, ([(cutS x none (some i2) ++ sg) ++ cutS x (some i2) none, (cutS x none (some i2) ++ sg) ++ cutS x (some (i2 + 1)) none, x ++ sg, Txt.lower x] : List Str).map V.str, ([Txt.upper x, cutS x (some 1) none, cutS x none (some (-1)), cutS x none (some 1)] : List Str).map V.str, rfl, rfl, g02.lst upd_same (nn _), upd_same, by show 8 ≤ sizeLine; decide, fun o3 ho3 => ?_⟩
      have g03 := Go.new (T := T) (M := []) (o := .lst (([(cutS x none (some i2) ++ sg) ++ cutS x (some i2) none, (cutS x none (some i2) ++ sg) ++ cutS x (some (i2 + 1)) none, x ++ sg, Txt.lower x] : List Str).map V.str ++ ([Txt.upper x, cutS x (some 1) none, cutS x none (some (-1)), cutS x none (some 1)] : List Str).map V.str)) ho3
      have gg := (g01.trans g02).trans g03
      have w30 := W3.go (g01.trans g02)
      refine ⟨_, rfl, a, l, k + 1 + 1 + 1, 8, rfl, by decide, by decide, by omega, W3.go gg, gg.tb t3, fun iz Hz z0 z1 Wz gz tz => ?_⟩
      obtain ⟨vv, ez, mz⟩ := at_ok (xs := ([(cutS x none (some i2) ++ sg) ++ cutS x (some i2) none, (cutS x none (some i2) ++ sg) ++ cutS x (some (i2 + 1)) none, x ++ sg, Txt.lower x] : List Str).map V.str ++ ([Txt.upper x, cutS x (some 1) none, cutS x none (some (-1)), cutS x none (some 1)] : List Str).map V.str) z0 (by exact z1)
      rw [← List.map_append] at mz
      obtain ⟨z, hz, rfl⟩ := List.mem_map.mp mz
      have nz := near z hz
      exact ⟨o3, _, iz, .str z, rfl, rfl, SqL.of (gz.lst upd_same (up w30 ho3)), ez, q (.str z) (.str z) Hz (.str z) (near_txt nz.1 nz.2) (Wz.up (by omega)) ((((g1.trans g2).trans g3).trans gg.of0).trans gz) tz⟩
    · refine if_false_of (decide_eq_false c1) ?_
      refine ⟨_, rfl, _, _, _, rfl, hv.go g1, _, rfl, iteF (iteF ?_)⟩
      have w0 := W1
      have c0 := Go.refl (T := T) (M := []) (H := H1)
      refine ⟨by show 14 ≤ sizeLine; decide, fun o1 ho1 => ?_⟩
      have go1 := Go.new (T := T) (M := []) (o := .lst (([("" : Str), "number", "Number", "fun", "kind", "a", "A", "a1", "A1", "1A", "A_", "A b", "Abcdefghij", "abcdefghij"]).map V.str)) ho1
      have no1 := up w0 ho1
      have w1 := w0.go go1
      have c1 := c0.trans go1
      refine ⟨_, rfl, _, rfl, by show 0 ≤ sizeLine; omega, fun e1 he1 => ⟨by show 0 ≤ sizeLine; omega, fun e2 he2 => fun e3 he3 => ⟨by show 1 ≤ sizeLine; decide, fun e4 he4 => ⟨by show 0 ≤ sizeLine; omega, fun e5 he5 => ⟨by show 2 ≤ sizeLine; decide, fun e6 he6 => ⟨by show 15 ≤ sizeLine; decide, fun o2 ho2 => ?_⟩⟩⟩⟩⟩⟩
      have ge1 := Go.new (T := T) (M := []) (o := .tup []) he1
      have ne1 := up w1 he1
      have w2 := w1.go ge1
      have c2 := c1.trans ge1
      have ge2 := Go.new (T := T) (M := []) (o := .lst []) he2
      have ne2 := up w2 he2
      have w3 := w2.go ge2
      have c3 := c2.trans ge2
      have ge3 := Go.new (T := T) (M := []) (o := .dK []) he3
      have ne3 := up w3 he3
      have w4 := w3.go ge3
      have c4 := c3.trans ge3
      have ge4 := Go.new (T := T) (M := []) (o := .tup [.str "A"]) he4
      have ne4 := up w4 he4
      have w5 := w4.go ge4
      have c5 := c4.trans ge4
      have ge5 := Go.new (T := T) (M := []) (o := .tup []) he5
      have ne5 := up w5 he5
      have w6 := w5.go ge5
      have c6 := c5.trans ge5
      have ge6 := Go.new (T := T) (M := []) (o := .tup [.str "A", .ref e5]) he6
      have ne6 := up w6 he6
      have w7 := w6.go ge6
      have c7 := c6.trans ge6
      have go2 := Go.new (T := T) (M := []) (o := .lst [.str "Abcdefghijk", .str "abcdefghijk", .str "A\n", .int 0, .int 1, .int (-1), .int 2, .bl true, .bl false, .non, .ref e1, .ref e2, .ref e3, .ref e4, .ref e6]) ho2
      have no2 := up w7 ho2
      have w8 := w7.go go2
      have c8 := c7.trans go2
      have po1 := (((((((ge1.trans ge2).trans ge3).trans ge4).trans ge5).trans ge6).trans go2)).lst upd_same (nn _)
      have pe1 := ((((((ge2.trans ge3).trans ge4).trans ge5).trans ge6).trans go2)).tup upd_same (nn _)
      have pe2 := (((((ge3.trans ge4).trans ge5).trans ge6).trans go2)).lst upd_same (nn _)
      have pe3 := ((((ge4.trans ge5).trans ge6).trans go2)).gr _ _ (upd_same (a := e3) (o := .dK [])) (nn _) (fun _ z => by cases z)
      have pe4 := (((ge5.trans ge6).trans go2)).tup upd_same (nn _)
      have pe5 := ((ge6.trans go2)).tup upd_same (nn _)
      have pe6 := (go2).tup upd_same (nn _)
      refine ⟨o1, o2, (([("" : Str), "number", "Number", "fun", "kind", "a", "A", "a1", "A1", "1A", "A_", "A b", "Abcdefghij", "abcdefghij"]).map V.str), [V.str "Abcdefghijk", .str "abcdefghijk", .str "A\n", .int 0, .int 1, .int (-1), .int 2, .bl true, .bl false, .non, .ref e1, .ref e2, .ref e3, .ref e4, .ref e6], rfl, rfl, po1, upd_same, by show 29 ≤ sizeLine; decide, fun o3 ho3 => ?_⟩
      have go3 := Go.new (T := T) (M := []) (o := .lst ((([("" : Str), "number", "Number", "fun", "kind", "a", "A", "a1", "A1", "1A", "A_", "A b", "Abcdefghij", "abcdefghij"]).map V.str) ++ [V.str "Abcdefghijk", .str "abcdefghijk", .str "A\n", .int 0, .int 1, .int (-1), .int 2, .bl true, .bl false, .non, .ref e1, .ref e2, .ref e3, .ref e4, .ref e6])) ho3
      have no3 := up w8 ho3
      have w9 := w8.go go3
      have c9 := c8.trans go3
      refine ⟨_, rfl, _, rfl, by show 1 ≤ sizeLine; decide, fun f1 hf1 => ⟨_, rfl, by show 1 ≤ sizeLine; decide, fun f2 hf2 => ⟨_, rfl, _, rfl, by show 2 ≤ sizeLine; decide, fun f3 hf3 => ⟨by show 2 ≤ sizeLine; decide, fun f4 hf4 => ⟨by show 2 ≤ sizeLine; decide, fun f5 hf5 => ⟨_, _, rfl, rfl, ⟨by decide, by decide, by decide⟩, by show 2 ≤ sizeLine; decide, fun f6 hf6 => ⟨by show 0 ≤ sizeLine; omega, fun f7 hf7 => ⟨by show 2 ≤ sizeLine; decide, fun f8 hf8 => ⟨by show 7 ≤ sizeLine; decide, fun o4 ho4 => ?_⟩⟩⟩⟩⟩⟩⟩⟩⟩
      have gf1 := Go.new (T := T) (M := []) (o := .tup [v]) hf1
      have nf1 := up w9 hf1
      have w10 := w9.go gf1
      have c10 := c9.trans gf1
      have gf2 := Go.new (T := T) (M := []) (o := .lst [v]) hf2
      have nf2 := up w10 hf2
      have w11 := w10.go gf2
      have c11 := c10.trans gf2
      have gf3 := Go.new (T := T) (M := []) (o := .tup [v, v]) hf3
      have nf3 := up w11 hf3
      have w12 := w11.go gf3
      have c12 := c11.trans gf3
      have gf4 := Go.new (T := T) (M := []) (o := .tup [.int 1, .int 1]) hf4
      have nf4 := up w12 hf4
      have w13 := w12.go gf4
      have c13 := c12.trans gf4
      have gf5 := Go.new (T := T) (M := []) (o := .tup [.str "num", .ref f4]) hf5
      have nf5 := up w13 hf5
      have w14 := w13.go gf5
      have c14 := c13.trans gf5
      have gf6 := Go.new (T := T) (M := []) (o := .tup [.int 0, .int 1]) hf6
      have nf6 := up w14 hf6
      have w15 := w14.go gf6
      have c15 := c14.trans gf6
      have gf7 := Go.new (T := T) (M := []) (o := .tup []) hf7
      have nf7 := up w15 hf7
      have w16 := w15.go gf7
      have c16 := c15.trans gf7
      have gf8 := Go.new (T := T) (M := []) (o := .tup [.str "Fun", .ref f7]) hf8
      have nf8 := up w16 hf8
      have w17 := w16.go gf8
      have c17 := c16.trans gf8
      have go4 := Go.new (T := T) (M := []) (o := .lst [V.ref f1, .ref f2, .ref f3, .ref f5, .int (10 ^ 30), .ref f6, .ref f8]) ho4
      have no4 := up w17 ho4
      have w18 := w17.go go4
      have c18 := c17.trans go4
      have po3 := (((((((((gf1.trans gf2).trans gf3).trans gf4).trans gf5).trans gf6).trans gf7).trans gf8).trans go4)).lst upd_same (nn _)
      have pf1 := ((((((((gf2.trans gf3).trans gf4).trans gf5).trans gf6).trans gf7).trans gf8).trans go4)).tup upd_same (nn _)
      have pf2 := (((((((gf3.trans gf4).trans gf5).trans gf6).trans gf7).trans gf8).trans go4)).lst upd_same (nn _)
      have pf3 := ((((((gf4.trans gf5).trans gf6).trans gf7).trans gf8).trans go4)).tup upd_same (nn _)
      have pf4 := (((((gf5.trans gf6).trans gf7).trans gf8).trans go4)).tup upd_same (nn _)
      have pf5 := ((((gf6.trans gf7).trans gf8).trans go4)).tup upd_same (nn _)
      have pf6 := (((gf7.trans gf8).trans go4)).tup upd_same (nn _)
      have pf7 := ((gf8.trans go4)).tup upd_same (nn _)
      have pf8 := (go4).tup upd_same (nn _)
      refine ⟨o3, o4, ((([("" : Str), "number", "Number", "fun", "kind", "a", "A", "a1", "A1", "1A", "A_", "A b", "Abcdefghij", "abcdefghij"]).map V.str) ++ [V.str "Abcdefghijk", .str "abcdefghijk", .str "A\n", .int 0, .int 1, .int (-1), .int 2, .bl true, .bl false, .non, .ref e1, .ref e2, .ref e3, .ref e4, .ref e6]), [V.ref f1, .ref f2, .ref f3, .ref f5, .int (10 ^ 30), .ref f6, .ref f8], rfl, rfl, po3, upd_same, by show 36 ≤ sizeLine; decide, fun o5 ho5 => ?_⟩
      have go5 := Go.new (T := T) (M := []) (o := .lst (((([("" : Str), "number", "Number", "fun", "kind", "a", "A", "a1", "A1", "1A", "A_", "A b", "Abcdefghij", "abcdefghij"]).map V.str) ++ [V.str "Abcdefghijk", .str "abcdefghijk", .str "A\n", .int 0, .int 1, .int (-1), .int 2, .bl true, .bl false, .non, .ref e1, .ref e2, .ref e3, .ref e4, .ref e6]) ++ [V.ref f1, .ref f2, .ref f3, .ref f5, .int (10 ^ 30), .ref f6, .ref f8])) ho5
      have no5 := up w18 ho5
      have w19 := w18.go go5
      have c19 := c18.trans go5
      have re1 := (((((((((((go3.trans gf1).trans gf2).trans gf3).trans gf4).trans gf5).trans gf6).trans gf7).trans gf8).trans go4).trans go5)).tup pe1 (nn _)
      have re4 := (((((((((((go3.trans gf1).trans gf2).trans gf3).trans gf4).trans gf5).trans gf6).trans gf7).trans gf8).trans go4).trans go5)).tup pe4 (nn _)
      have re5 := (((((((((((go3.trans gf1).trans gf2).trans gf3).trans gf4).trans gf5).trans gf6).trans gf7).trans gf8).trans go4).trans go5)).tup pe5 (nn _)
      have re6 := (((((((((((go3.trans gf1).trans gf2).trans gf3).trans gf4).trans gf5).trans gf6).trans gf7).trans gf8).trans go4).trans go5)).tup pe6 (nn _)
      have re2 := (((((((((((go3.trans gf1).trans gf2).trans gf3).trans gf4).trans gf5).trans gf6).trans gf7).trans gf8).trans go4).trans go5)).lst pe2 (nn _)
      have re3 := (((((((((((go3.trans gf1).trans gf2).trans gf3).trans gf4).trans gf5).trans gf6).trans gf7).trans gf8).trans go4).trans go5)).gr _ _ pe3 (nn _) (fun _ z => by cases z)
      have rf1 := go5.tup pf1 (nn _)
      have rf3 := go5.tup pf3 (nn _)
      have rf4 := go5.tup pf4 (nn _)
      have rf5 := go5.tup pf5 (nn _)
      have rf6 := go5.tup pf6 (nn _)
      have rf7 := go5.tup pf7 (nn _)
      have rf2 := go5.lst pf2 (nn _)
      have rf8 := go5.tup pf8 (nn _)
      have vz := hv.go ((g1).trans c19.of0)
      have dz : DvAll [a, l] _ _ (oddD _) := DvAll.append (DvAll.append (DvAll.strs _) (.cons (.str _) (.cons (.str _) (.cons (.str _) (.cons (.int _) (.cons (.int _) (.cons (.int _) (.cons (.int _) (.cons (.bl _) (.cons (.bl _) (.cons .non (.cons (.tup re1 ne1 .nil) (.cons (.lst re2 ne2 .nil) (.cons (.dct re3 ne3) (.cons (.tup re4 ne4 (.cons (.str _) .nil)) (.cons (.tup re6 ne6 (.cons (.str _) (.cons (.tup re5 ne5 .nil) .nil))) .nil))))))))))))))))
        (.cons (.tup rf1 nf1 (.cons vz .nil)) (.cons (.lst rf2 nf2 (.cons vz .nil)) (.cons (.tup rf3 nf3 (.cons vz (.cons vz .nil))) (.cons (.tup rf5 nf5 (.cons (.str _) (.cons (.tup rf4 nf4 (.cons (.int _) (.cons (.int _) .nil))) .nil))) (.cons (.int _) (.cons (.tup rf6 nf6 (.cons (.int _) (.cons (.int _) .nil))) (.cons (.tup rf8 nf8 (.cons (.str _) (.cons (.tup rf7 nf7 .nil) .nil))) .nil)))))))
      refine ⟨_, rfl, _, rfl, _, rfl, o5, _, rfl, .inl (SqL.of upd_same), a, l, (k + 1), _, rfl, (show (0 : Int) < 36 by decide), (show (36 : Int) < 1073741824 by decide), by omega, w19, c19.tb ((g1).tb ht), fun iz Hz z0 z1 Wz gz tz => ?_⟩
      obtain ⟨vv, dd, ez, mz, hz⟩ := at_dv dz z0 z1
      exact ⟨o5, _, iz, vv, rfl, rfl, SqL.of (gz.lst upd_same no5), ez, q vv dd Hz (hz.go gz) (oddD_near hn mz) (Wz.up (by omega)) (((g1).trans c19.of0).trans gz) tz⟩
  | tuple ds =>
    obtain ⟨p, xs, ev, ep, np, rr⟩ : ∃ p xs, v = .ref p ∧ H p = some (.tup xs) ∧ p ∉ [a, l] ∧ DvAll [a, l] H xs ds := by
      cases hv with
      | tup e m r => exact ⟨_, _, rfl, e, m, r⟩
    have hx : xs.length = ds.length := rr.length
    have hwt : wtAll ds + 4 ≤ 1000000 := by rw [wt_tupl] at hw; exact hw
    have hlen := wtAll_len ds
    refine ⟨_, rfl, iteT ?_⟩
    refine ⟨_, rfl, by show 0 ≤ sizeLine; omega, fun e0 he0 => ?_⟩
    have g0 := Go.new (T := T) (M := []) (o := .tup []) he0
    refine ⟨p, e0, xs, ev, rfl, .inr ⟨SqT.of (g0.tup ep (nn _)), SqT.of upd_same⟩, _, rfl, ?_⟩
    cases exs : xs.isEmpty with
    | true =>
      refine iteF (iteF ?_)
      refine ⟨_, rfl, _, _, _, rfl, hv.go g0.of0, ?_⟩
      refine ⟨_, rfl, iteT ?_⟩
      refine ⟨_, rfl, a, l, k, 3, rfl, by decide, by decide, by omega, (W.go g0), ((g0.of0 : Go T [a, l] H _)).tb ht, fun i2 H2 j20 j21 W2 g2 t2 => ⟨_, _, rfl, rfl, _, rfl, ?_⟩⟩
      have G2 := ((g0.of0 : Go T [a, l] H _)).trans g2
      by_cases c2 : (0 : Int) < i2
      · refine if_true_of (decide_eq_true c2) ?_
        subst ev
        have e2 := G2.tup ep np
        have rr2 := rr.go G2
        refine ⟨_, rfl, _, rfl, _, xs, rfl, .inr (SqT.of e2), _, _, rfl, rfl, a, l, k + 1, _, rfl, by omega, by omega, by omega, W2, t2, fun at' H3 j30 j31 W3 g3 t3 => ?_⟩
        have G3 := G2.trans g3
        have e3 := G3.tup ep np
        have fr3 : ∀ {H' : Hp}, Go T [] H3 H' → ∀ r, H' r = none → r ∉ [a, l] := fun g r h => up (W3.go g) h
        have w0 := Go.refl (T := T) (M := []) (H := H3)
        have cl := fun lo hi => cutV_len xs lo hi
        refine ⟨_, rfl, _, rfl, _, rfl, sl_ok (T := T) (M := [a, l]) e3 np (fr3 w0) fun s1 K1' f1 n1 h1 => ?_⟩
        have w1 := w0.trans h1
        refine ⟨_, rfl, _, rfl, _, _, rfl, rfl, _, rfl, ?_⟩
        try unfold tNoPart
        refine sl_ok (T := T) (M := [a, l]) (w1.tup e3 (nn _)) np (fr3 w1) fun s2 K2' f2 n2 h2 => ?_
        have w2 := w1.trans h2
        refine cat_ok (T := T) (M := [a, l]) (h2.tup f1 (nn _)) f2 n1 n2 (by have := cl none (some at'); have := cl (some (at' + 1)) none; omega) (fr3 w2) fun s3 K3' f3 n3 h3 => ?_
        have w3 := w2.trans h3
        refine ⟨_, rfl, _, rfl, _, rfl, sl_ok (T := T) (M := [a, l]) (w3.tup e3 (nn _)) np (fr3 w3) fun s4 K4' f4 n4 h4 => ?_⟩
        have w4 := w3.trans h4
        refine ⟨_, rfl, _, rfl, _, rfl, _, rfl, _, _, rfl, rfl, _, rfl, sl_ok (T := T) (M := [a, l]) (w4.tup e3 (nn _)) np (fr3 w4) fun s5 K5' f5 n5 h5 => ?_⟩
        have w5 := w4.trans h5
        refine cat_ok (T := T) (M := [a, l]) (h5.tup f4 (nn _)) f5 n4 n5 (by have := cl none (some at'); have := cl (some at') (some (at' + 1)); omega) (fr3 w5) fun s6 K6' f6 n6 h6 => ?_
        have w6 := w5.trans h6
        refine ⟨_, rfl, _, rfl, _, rfl, ?_⟩
        try unfold tNoPart
        refine sl_ok (T := T) (M := [a, l]) (w6.tup e3 (nn _)) np (fr3 w6) fun s7 K7' f7 n7 h7 => ?_
        have w7 := w6.trans h7
        refine cat_ok (T := T) (M := [a, l]) (h7.tup f6 (nn _)) f7 n6 n7 (by have := cl none (some at'); have := cl (some at') (some (at' + 1)); have := cl (some at') none; rw [List.length_append]; omega) (fr3 w7) fun s8 K8' f8 n8 h8 => ?_
        have w8 := w7.trans h8
        refine ⟨_, rfl, _, rfl, _, rfl, ?_⟩
        try unfold tNoPart
        refine sl_ok (T := T) (M := [a, l]) (w8.tup e3 (nn _)) np (fr3 w8) fun s9 K9' f9 n9 h9 => ?_
        have w9 := w8.trans h9
        refine ⟨_, rfl, _, rfl, _, rfl, sl_ok (T := T) (M := [a, l]) (w9.tup e3 (nn _)) np (fr3 w9) fun s10 K10' f10 n10 h10 => ?_⟩
        have w10 := w9.trans h10
        refine cat_ok (T := T) (M := [a, l]) (h10.tup f9 (nn _)) f10 n9 n10 (by have := cl none (some at'); have := cl (some at') none; omega) (fr3 w10) fun s11 K11' f11 n11 h11 => ?_
        have w11 := w10.trans h11
        refine ⟨by show 3 ≤ sizeLine; decide, fun o1 ho1 => ?_⟩
        have h12 := Go.new (T := T) (M := []) (o := .lst [V.ref s3, .ref s8, .ref s11]) ho1
        have w12 := w11.trans h12
        refine ⟨_, rfl, _, rfl, p, xs, rfl, .inr (SqT.of (w12.tup e3 (nn _))), fun l1 hl1 => ?_⟩
        have h13 := Go.new (T := T) (M := []) (o := .lst xs) hl1
        have w13 := w12.trans h13
        have nl1 := fr3 w12 l1 hl1
        refine ⟨_, rfl, ?_⟩
        try unfold tC
        refine times_ok (T := T) (M := [a, l]) (j := 2) (w13.tup e3 (nn _)) np (by decide) (by decide) (by omega) (fr3 w13) fun s14 K14' f14 n14 h14 => ?_
        have w14 := w13.trans h14
        refine ⟨_, rfl, ?_⟩
        try unfold tC
        refine times_ok (T := T) (M := [a, l]) (j := 3) (w14.tup e3 (nn _)) np (by decide) (by decide) (by omega) (fr3 w14) fun s15 K15' f15 n15 h15 => ?_
        have w15 := w14.trans h15
        refine ⟨by show 3 ≤ sizeLine; decide, fun o2 ho2 => ?_⟩
        have h16 := Go.new (T := T) (M := []) (o := .lst [V.ref l1, .ref s14, .ref s15]) ho2
        have w16 := w15.trans h16
        have t13 := ((h13.trans h14).trans h15).trans h16
        refine ⟨o1, o2, [V.ref s3, .ref s8, .ref s11], [V.ref l1, .ref s14, .ref s15], rfl, rfl, t13.lst upd_same (nn _), upd_same, by show 6 ≤ sizeLine; decide, fun o3 ho3 => ?_⟩
        have h17 := Go.new (T := T) (M := []) (o := .lst ([V.ref s3, .ref s8, .ref s11] ++ [V.ref l1, .ref s14, .ref s15])) ho3
        have w17 := w16.trans h17
        have no3 := fr3 w16 o3 ho3
        have u16 := h16.trans h17
        have u15 := h15.trans u16
        have u14 := h14.trans u15
        have u13 := h13.trans u14
        have u12 := h12.trans u13
        have u9 := ((h9.trans h10).trans h11).trans u12
        have u4 := ((((h4.trans h5).trans h6).trans h7).trans h8).trans u9
        have hu : nice n (.tuple ds) = true := hn
        have dxs := rr2.go (g3.trans w17.of0)
        have dz : DvAll [a, l] _ [V.ref s3, .ref s8, .ref s11, .ref l1, .ref s14, .ref s15] [PyData.tuple (cutD ds none (some at') ++ cutD ds (some (at' + 1)) none), .tuple ((cutD ds none (some at') ++ cutD ds (some at') (some (at' + 1))) ++ cutD ds (some at') none), .tuple (cutD ds (some at') none ++ cutD ds none (some at')), .list ds, .tuple (List.replicate (2 : Int).toNat ds).flatten, .tuple (List.replicate (3 : Int).toNat ds).flatten] :=
          .cons (.tup (u4.tup f3 (nn _)) n3 (DvAll.append (dxs.cutD _ _) (dxs.cutD _ _)))
          (.cons (.tup (u9.tup f8 (nn _)) n8 (DvAll.append (DvAll.append (dxs.cutD _ _) (dxs.cutD _ _)) (dxs.cutD _ _)))
          (.cons (.tup (u12.tup f11 (nn _)) n11 (DvAll.append (dxs.cutD _ _) (dxs.cutD _ _)))
          (.cons (.lst (u14.lst upd_same (nn _)) nl1 dxs)
          (.cons (.tup (u15.tup f14 (nn _)) n14 (dxs.rep _))
          (.cons (.tup (u16.tup f15 (nn _)) n15 (dxs.rep _)) .nil)))))
        have near : ∀ z ∈ [PyData.tuple (cutD ds none (some at') ++ cutD ds (some (at' + 1)) none), .tuple ((cutD ds none (some at') ++ cutD ds (some at') (some (at' + 1))) ++ cutD ds (some at') none), .tuple (cutD ds (some at') none ++ cutD ds none (some at')), .list ds, .tuple (List.replicate (2 : Int).toNat ds).flatten, .tuple (List.replicate (3 : Int).toNat ds).flatten], nearOk n (.tuple ds) z := fun z hz => tup_ways hn hz
        refine ⟨_, rfl, a, l, k + 1 + 1, 6, rfl, by decide, by decide, by omega, W3.go w17, w17.tb t3, fun iz Hz z0 z1 Wz gz tz => ?_⟩
        obtain ⟨vv, dd, ez, mz, hz⟩ := at_dv dz z0 (by exact z1)
        exact ⟨o3, _, iz, vv, rfl, rfl, SqL.of (gz.lst upd_same no3), ez, q vv dd Hz (hz.go gz) (near dd mz) (Wz.up (by omega)) ((G3.trans w17.of0).trans gz) tz⟩
      · refine if_false_of (decide_eq_false c2) ?_
        refine ⟨_, rfl, _, _, _, rfl, hv.go G2, _, rfl, iteF (iteF ?_)⟩
        refine ⟨_, rfl, _, _, _, rfl, hv.go G2, _, rfl, iteF (iteF ?_)⟩
        have w0 := W2
        have c0 := Go.refl (T := T) (M := []) (H := H2)
        refine ⟨by show 14 ≤ sizeLine; decide, fun o1 ho1 => ?_⟩
        have go1 := Go.new (T := T) (M := []) (o := .lst (([("" : Str), "number", "Number", "fun", "kind", "a", "A", "a1", "A1", "1A", "A_", "A b", "Abcdefghij", "abcdefghij"]).map V.str)) ho1
        have no1 := up w0 ho1
        have w1 := w0.go go1
        have c1 := c0.trans go1
        refine ⟨_, rfl, _, rfl, by show 0 ≤ sizeLine; omega, fun e1 he1 => ⟨by show 0 ≤ sizeLine; omega, fun e2 he2 => fun e3 he3 => ⟨by show 1 ≤ sizeLine; decide, fun e4 he4 => ⟨by show 0 ≤ sizeLine; omega, fun e5 he5 => ⟨by show 2 ≤ sizeLine; decide, fun e6 he6 => ⟨by show 15 ≤ sizeLine; decide, fun o2 ho2 => ?_⟩⟩⟩⟩⟩⟩
        have ge1 := Go.new (T := T) (M := []) (o := .tup []) he1
        have ne1 := up w1 he1
        have w2 := w1.go ge1
        have c2 := c1.trans ge1
        have ge2 := Go.new (T := T) (M := []) (o := .lst []) he2
        have ne2 := up w2 he2
        have w3 := w2.go ge2
        have c3 := c2.trans ge2
        have ge3 := Go.new (T := T) (M := []) (o := .dK []) he3
        have ne3 := up w3 he3
        have w4 := w3.go ge3
        have c4 := c3.trans ge3
        have ge4 := Go.new (T := T) (M := []) (o := .tup [.str "A"]) he4
        have ne4 := up w4 he4
        have w5 := w4.go ge4
        have c5 := c4.trans ge4
        have ge5 := Go.new (T := T) (M := []) (o := .tup []) he5
        have ne5 := up w5 he5
        have w6 := w5.go ge5
        have c6 := c5.trans ge5
        have ge6 := Go.new (T := T) (M := []) (o := .tup [.str "A", .ref e5]) he6
        have ne6 := up w6 he6
        have w7 := w6.go ge6
        have c7 := c6.trans ge6
        have go2 := Go.new (T := T) (M := []) (o := .lst [.str "Abcdefghijk", .str "abcdefghijk", .str "A\n", .int 0, .int 1, .int (-1), .int 2, .bl true, .bl false, .non, .ref e1, .ref e2, .ref e3, .ref e4, .ref e6]) ho2
        have no2 := up w7 ho2
        have w8 := w7.go go2
        have c8 := c7.trans go2
        have po1 := (((((((ge1.trans ge2).trans ge3).trans ge4).trans ge5).trans ge6).trans go2)).lst upd_same (nn _)
        have pe1 := ((((((ge2.trans ge3).trans ge4).trans ge5).trans ge6).trans go2)).tup upd_same (nn _)
        have pe2 := (((((ge3.trans ge4).trans ge5).trans ge6).trans go2)).lst upd_same (nn _)
        have pe3 := ((((ge4.trans ge5).trans ge6).trans go2)).gr _ _ (upd_same (a := e3) (o := .dK [])) (nn _) (fun _ z => by cases z)
        have pe4 := (((ge5.trans ge6).trans go2)).tup upd_same (nn _)
        have pe5 := ((ge6.trans go2)).tup upd_same (nn _)
        have pe6 := (go2).tup upd_same (nn _)
        refine ⟨o1, o2, (([("" : Str), "number", "Number", "fun", "kind", "a", "A", "a1", "A1", "1A", "A_", "A b", "Abcdefghij", "abcdefghij"]).map V.str), [V.str "Abcdefghijk", .str "abcdefghijk", .str "A\n", .int 0, .int 1, .int (-1), .int 2, .bl true, .bl false, .non, .ref e1, .ref e2, .ref e3, .ref e4, .ref e6], rfl, rfl, po1, upd_same, by show 29 ≤ sizeLine; decide, fun o3 ho3 => ?_⟩
        have go3 := Go.new (T := T) (M := []) (o := .lst ((([("" : Str), "number", "Number", "fun", "kind", "a", "A", "a1", "A1", "1A", "A_", "A b", "Abcdefghij", "abcdefghij"]).map V.str) ++ [V.str "Abcdefghijk", .str "abcdefghijk", .str "A\n", .int 0, .int 1, .int (-1), .int 2, .bl true, .bl false, .non, .ref e1, .ref e2, .ref e3, .ref e4, .ref e6])) ho3
        have no3 := up w8 ho3
        have w9 := w8.go go3
        have c9 := c8.trans go3
        refine ⟨_, rfl, _, rfl, by show 1 ≤ sizeLine; decide, fun f1 hf1 => ⟨_, rfl, by show 1 ≤ sizeLine; decide, fun f2 hf2 => ⟨_, rfl, _, rfl, by show 2 ≤ sizeLine; decide, fun f3 hf3 => ⟨by show 2 ≤ sizeLine; decide, fun f4 hf4 => ⟨by show 2 ≤ sizeLine; decide, fun f5 hf5 => ⟨_, _, rfl, rfl, ⟨by decide, by decide, by decide⟩, by show 2 ≤ sizeLine; decide, fun f6 hf6 => ⟨by show 0 ≤ sizeLine; omega, fun f7 hf7 => ⟨by show 2 ≤ sizeLine; decide, fun f8 hf8 => ⟨by show 7 ≤ sizeLine; decide, fun o4 ho4 => ?_⟩⟩⟩⟩⟩⟩⟩⟩⟩
        have gf1 := Go.new (T := T) (M := []) (o := .tup [v]) hf1
        have nf1 := up w9 hf1
        have w10 := w9.go gf1
        have c10 := c9.trans gf1
        have gf2 := Go.new (T := T) (M := []) (o := .lst [v]) hf2
        have nf2 := up w10 hf2
        have w11 := w10.go gf2
        have c11 := c10.trans gf2
        have gf3 := Go.new (T := T) (M := []) (o := .tup [v, v]) hf3
        have nf3 := up w11 hf3
        have w12 := w11.go gf3
        have c12 := c11.trans gf3
        have gf4 := Go.new (T := T) (M := []) (o := .tup [.int 1, .int 1]) hf4
        have nf4 := up w12 hf4
        have w13 := w12.go gf4
        have c13 := c12.trans gf4
        have gf5 := Go.new (T := T) (M := []) (o := .tup [.str "num", .ref f4]) hf5
        have nf5 := up w13 hf5
        have w14 := w13.go gf5
        have c14 := c13.trans gf5
        have gf6 := Go.new (T := T) (M := []) (o := .tup [.int 0, .int 1]) hf6
        have nf6 := up w14 hf6
        have w15 := w14.go gf6
        have c15 := c14.trans gf6
        have gf7 := Go.new (T := T) (M := []) (o := .tup []) hf7
        have nf7 := up w15 hf7
        have w16 := w15.go gf7
        have c16 := c15.trans gf7
        have gf8 := Go.new (T := T) (M := []) (o := .tup [.str "Fun", .ref f7]) hf8
        have nf8 := up w16 hf8
        have w17 := w16.go gf8
        have c17 := c16.trans gf8
        have go4 := Go.new (T := T) (M := []) (o := .lst [V.ref f1, .ref f2, .ref f3, .ref f5, .int (10 ^ 30), .ref f6, .ref f8]) ho4
        have no4 := up w17 ho4
        have w18 := w17.go go4
        have c18 := c17.trans go4
        have po3 := (((((((((gf1.trans gf2).trans gf3).trans gf4).trans gf5).trans gf6).trans gf7).trans gf8).trans go4)).lst upd_same (nn _)
        have pf1 := ((((((((gf2.trans gf3).trans gf4).trans gf5).trans gf6).trans gf7).trans gf8).trans go4)).tup upd_same (nn _)
        have pf2 := (((((((gf3.trans gf4).trans gf5).trans gf6).trans gf7).trans gf8).trans go4)).lst upd_same (nn _)
        have pf3 := ((((((gf4.trans gf5).trans gf6).trans gf7).trans gf8).trans go4)).tup upd_same (nn _)
        have pf4 := (((((gf5.trans gf6).trans gf7).trans gf8).trans go4)).tup upd_same (nn _)
        have pf5 := ((((gf6.trans gf7).trans gf8).trans go4)).tup upd_same (nn _)
        have pf6 := (((gf7.trans gf8).trans go4)).tup upd_same (nn _)
        have pf7 := ((gf8.trans go4)).tup upd_same (nn _)
        have pf8 := (go4).tup upd_same (nn _)
        refine ⟨o3, o4, ((([("" : Str), "number", "Number", "fun", "kind", "a", "A", "a1", "A1", "1A", "A_", "A b", "Abcdefghij", "abcdefghij"]).map V.str) ++ [V.str "Abcdefghijk", .str "abcdefghijk", .str "A\n", .int 0, .int 1, .int (-1), .int 2, .bl true, .bl false, .non, .ref e1, .ref e2, .ref e3, .ref e4, .ref e6]), [V.ref f1, .ref f2, .ref f3, .ref f5, .int (10 ^ 30), .ref f6, .ref f8], rfl, rfl, po3, upd_same, by show 36 ≤ sizeLine; decide, fun o5 ho5 => ?_⟩
        have go5 := Go.new (T := T) (M := []) (o := .lst (((([("" : Str), "number", "Number", "fun", "kind", "a", "A", "a1", "A1", "1A", "A_", "A b", "Abcdefghij", "abcdefghij"]).map V.str) ++ [V.str "Abcdefghijk", .str "abcdefghijk", .str "A\n", .int 0, .int 1, .int (-1), .int 2, .bl true, .bl false, .non, .ref e1, .ref e2, .ref e3, .ref e4, .ref e6]) ++ [V.ref f1, .ref f2, .ref f3, .ref f5, .int (10 ^ 30), .ref f6, .ref f8])) ho5
        have no5 := up w18 ho5
        have w19 := w18.go go5
        have c19 := c18.trans go5
        have re1 := (((((((((((go3.trans gf1).trans gf2).trans gf3).trans gf4).trans gf5).trans gf6).trans gf7).trans gf8).trans go4).trans go5)).tup pe1 (nn _)
        have re4 := (((((((((((go3.trans gf1).trans gf2).trans gf3).trans gf4).trans gf5).trans gf6).trans gf7).trans gf8).trans go4).trans go5)).tup pe4 (nn _)
        have re5 := (((((((((((go3.trans gf1).trans gf2).trans gf3).trans gf4).trans gf5).trans gf6).trans gf7).trans gf8).trans go4).trans go5)).tup pe5 (nn _)
        have re6 := (((((((((((go3.trans gf1).trans gf2).trans gf3).trans gf4).trans gf5).trans gf6).trans gf7).trans gf8).trans go4).trans go5)).tup pe6 (nn _)
        have re2 := (((((((((((go3.trans gf1).trans gf2).trans gf3).trans gf4).trans gf5).trans gf6).trans gf7).trans gf8).trans go4).trans go5)).lst pe2 (nn _)
        have re3 := (((((((((((go3.trans gf1).trans gf2).trans gf3).trans gf4).trans gf5).trans gf6).trans gf7).trans gf8).trans go4).trans go5)).gr _ _ pe3 (nn _) (fun _ z => by cases z)
        have rf1 := go5.tup pf1 (nn _)
        have rf3 := go5.tup pf3 (nn _)
        have rf4 := go5.tup pf4 (nn _)
        have rf5 := go5.tup pf5 (nn _)
        have rf6 := go5.tup pf6 (nn _)
        have rf7 := go5.tup pf7 (nn _)
        have rf2 := go5.lst pf2 (nn _)
        have rf8 := go5.tup pf8 (nn _)
        have vz := hv.go ((G2).trans c19.of0)
        have dz : DvAll [a, l] _ _ (oddD _) := DvAll.append (DvAll.append (DvAll.strs _) (.cons (.str _) (.cons (.str _) (.cons (.str _) (.cons (.int _) (.cons (.int _) (.cons (.int _) (.cons (.int _) (.cons (.bl _) (.cons (.bl _) (.cons .non (.cons (.tup re1 ne1 .nil) (.cons (.lst re2 ne2 .nil) (.cons (.dct re3 ne3) (.cons (.tup re4 ne4 (.cons (.str _) .nil)) (.cons (.tup re6 ne6 (.cons (.str _) (.cons (.tup re5 ne5 .nil) .nil))) .nil))))))))))))))))
          (.cons (.tup rf1 nf1 (.cons vz .nil)) (.cons (.lst rf2 nf2 (.cons vz .nil)) (.cons (.tup rf3 nf3 (.cons vz (.cons vz .nil))) (.cons (.tup rf5 nf5 (.cons (.str _) (.cons (.tup rf4 nf4 (.cons (.int _) (.cons (.int _) .nil))) .nil))) (.cons (.int _) (.cons (.tup rf6 nf6 (.cons (.int _) (.cons (.int _) .nil))) (.cons (.tup rf8 nf8 (.cons (.str _) (.cons (.tup rf7 nf7 .nil) .nil))) .nil)))))))
        refine ⟨_, rfl, _, rfl, _, rfl, o5, _, rfl, .inl (SqL.of upd_same), a, l, (k + 1), _, rfl, (show (0 : Int) < 36 by decide), (show (36 : Int) < 1073741824 by decide), by omega, w19, c19.tb ((G2).tb ht), fun iz Hz z0 z1 Wz gz tz => ?_⟩
        obtain ⟨vv, dd, ez, mz, hz⟩ := at_dv dz z0 z1
        exact ⟨o5, _, iz, vv, rfl, rfl, SqL.of (gz.lst upd_same no5), ez, q vv dd Hz (hz.go gz) (oddD_near hn mz) (Wz.up (by omega)) (((G2).trans c19.of0).trans gz) tz⟩
    | false =>
      refine iteT ?_
      refine ⟨_, rfl, a, l, k, 6, rfl, by decide, by decide, by omega, W.go g0, g0.tb ht, fun i1 H1 j0 j1 W1 g1 t1 => ⟨_, _, rfl, rfl, _, rfl, ?_⟩⟩
      by_cases c1 : (0 : Int) < i1
      · refine if_true_of (decide_eq_true c1) ?_
        subst ev
        have lpos : 0 < xs.length := by
          cases xs with
          | nil => cases exs
          | cons _ _ => exact Nat.succ_pos _
        have G1 := g0.of0.trans g1
        have e1 := G1.tup ep np
        refine ⟨_, rfl, _, rfl, _, xs, rfl, .inr (SqT.of e1), a, l, k + 1, _, rfl, by omega, by omega, by omega, W1, t1, fun at' H2 j20 j21 W2 g2 t2 => ?_⟩
        have G2 := G1.trans g2
        have e2 := G2.tup ep np
        obtain ⟨ai, rfl⟩ : ∃ j : Nat, at' = (j : Int) := ⟨at'.toNat, by omega⟩
        have hai : ai < xs.length := by omega
        have ex := List.getElem?_eq_getElem hai
        obtain ⟨d', ed, hv'⟩ := rr.get ex
        have md := List.mem_of_getElem? ed
        have wd := wt_mem md
        obtain ⟨D, eD⟩ : ∃ D, PyData.depthAll ds = D := ⟨_, rfl⟩
        have hD := depthAll_le.mp (Nat.le_of_eq eD) d' md
        have eD1 : (PyData.tuple ds).depth = D + 1 := by rw [← eD]; simp only [PyData.depth]
        have rr2 := rr.go G2
        refine ⟨_, rfl, _, rfl, _, rfl, sl_ok (T := T) (M := [a, l]) e2 np (fun r h => up W2 h) fun r1 H3 f1 n1 g3 => ?_⟩
        have e3 := g3.tup e2 (nn _)
        refine ⟨_, rfl, _, rfl, _, rfl, p, xs, ai, xs[ai], rfl, rfl, SqT.of e3, atI_nat ex, ?_⟩
        refine ⟨dep - 1, by omega, a, l, k + 1 + 1, xs[ai], d', n, rfl, by omega, W2.go g3, hv'.go (G2.trans g3.of0), nice_tup.mp hn d' md, hl, by omega, by omega, g3.tb t2, fun v4 d4 H4 hv4 nr4 W4 g4 t4 => ?_⟩
        have e4 := g4.tup e3 np
        have f1' := g4.tup f1 n1
        refine ⟨by show 1 ≤ sizeLine; decide, fun r2 hr2 => ?_⟩
        have g5 := Go.new (T := T) (M := []) (o := .tup [v4]) hr2
        have n2 := up W4 hr2
        refine cat_ok (T := T) (M := [a, l]) (g5.tup f1' (nn _)) upd_same n1 n2 (by have := cutV_len xs none (some (ai : Int)); simp only [List.length_cons, List.length_nil]; omega) (fun r h => up (W4.go g5) h) fun r3 H5 f3 n3 g6 => ?_
        have g56 := g5.trans g6
        have e5 := g56.tup e4 (nn _)
        refine ⟨_, rfl, _, rfl, _, _, rfl, rfl, _, rfl, ?_⟩
        try unfold tNoPart
        refine sl_ok (T := T) (M := [a, l]) e5 np (fun r h => up (W4.go g56) h) fun r4 H6 f4 n4 g7 => ?_
        have f3' := g7.tup f3 (nn _)
        refine cat_ok (T := T) (M := [a, l]) f3' f4 n3 n4 (by have := cutV_len xs none (some (ai : Int)); have := cutV_len xs (some ((ai : Int) + 1)) none; simp only [List.length_append, List.length_cons, List.length_nil]; omega) (fun r h => up ((W4.go g56).go g7) h) fun r5 H7 f5 n5 g8 => ?_
        have gAll := (g56.trans g7).trans g8
        have hds : DvAll [a, l] H7 ((cutV xs none (some (ai : Int)) ++ [v4]) ++ cutV xs (some ((ai : Int) + 1)) none) ((cutD ds none (some (ai : Int)) ++ [d4]) ++ cutD ds (some (((ai + 1 : Nat) : Int))) none) :=
          DvAll.append (DvAll.append ((((rr2.cutD none (some (ai : Int))).go g3.of0).go g4).go gAll.of0) (.cons (hv4.go gAll.of0) .nil)) ((((rr2.cutD (some ((ai + 1 : Nat) : Int)) none).go g3.of0).go g4).go gAll.of0)
        rw [cutD_lo (by omega), cutD_hi (by omega)] at hds
        exact q _ _ _ (.tup f5 n5 hds) (near_in hn ed nr4) ((W4.go gAll).up (by omega)) (((G2.trans g3.of0).trans g4).trans gAll.of0) (gAll.tb t4)
      · refine if_false_of (decide_eq_false c1) ?_
        refine ⟨_, rfl, _, _, _, rfl, hv.go (g0.of0.trans g1), ?_⟩
        refine ⟨_, rfl, iteT ?_⟩
        refine ⟨_, rfl, a, l, (k + 1), 3, rfl, by decide, by decide, by omega, W1, ((g0.of0.trans g1)).tb ht, fun i2 H2 j20 j21 W2 g2 t2 => ⟨_, _, rfl, rfl, _, rfl, ?_⟩⟩
        have G2 := ((g0.of0.trans g1)).trans g2
        by_cases c2 : (0 : Int) < i2
        · refine if_true_of (decide_eq_true c2) ?_
          subst ev
          have e2 := G2.tup ep np
          have rr2 := rr.go G2
          refine ⟨_, rfl, _, rfl, _, xs, rfl, .inr (SqT.of e2), _, _, rfl, rfl, a, l, (k + 1) + 1, _, rfl, by omega, by omega, by omega, W2, t2, fun at' H3 j30 j31 W3 g3 t3 => ?_⟩
          have G3 := G2.trans g3
          have e3 := G3.tup ep np
          have fr3 : ∀ {H' : Hp}, Go T [] H3 H' → ∀ r, H' r = none → r ∉ [a, l] := fun g r h => up (W3.go g) h
          have w0 := Go.refl (T := T) (M := []) (H := H3)
          have cl := fun lo hi => cutV_len xs lo hi
          refine ⟨_, rfl, _, rfl, _, rfl, sl_ok (T := T) (M := [a, l]) e3 np (fr3 w0) fun s1 K1' f1 n1 h1 => ?_⟩
          have w1 := w0.trans h1
          refine ⟨_, rfl, _, rfl, _, _, rfl, rfl, _, rfl, ?_⟩
          try unfold tNoPart
          refine sl_ok (T := T) (M := [a, l]) (w1.tup e3 (nn _)) np (fr3 w1) fun s2 K2' f2 n2 h2 => ?_
          have w2 := w1.trans h2
          refine cat_ok (T := T) (M := [a, l]) (h2.tup f1 (nn _)) f2 n1 n2 (by have := cl none (some at'); have := cl (some (at' + 1)) none; omega) (fr3 w2) fun s3 K3' f3 n3 h3 => ?_
          have w3 := w2.trans h3
          refine ⟨_, rfl, _, rfl, _, rfl, sl_ok (T := T) (M := [a, l]) (w3.tup e3 (nn _)) np (fr3 w3) fun s4 K4' f4 n4 h4 => ?_⟩
          have w4 := w3.trans h4
          refine ⟨_, rfl, _, rfl, _, rfl, _, rfl, _, _, rfl, rfl, _, rfl, sl_ok (T := T) (M := [a, l]) (w4.tup e3 (nn _)) np (fr3 w4) fun s5 K5' f5 n5 h5 => ?_⟩
          have w5 := w4.trans h5
          refine cat_ok (T := T) (M := [a, l]) (h5.tup f4 (nn _)) f5 n4 n5 (by have := cl none (some at'); have := cl (some at') (some (at' + 1)); omega) (fr3 w5) fun s6 K6' f6 n6 h6 => ?_
          have w6 := w5.trans h6
          refine ⟨_, rfl, _, rfl, _, rfl, ?_⟩
          try unfold tNoPart
          refine sl_ok (T := T) (M := [a, l]) (w6.tup e3 (nn _)) np (fr3 w6) fun s7 K7' f7 n7 h7 => ?_
          have w7 := w6.trans h7
          refine cat_ok (T := T) (M := [a, l]) (h7.tup f6 (nn _)) f7 n6 n7 (by have := cl none (some at'); have := cl (some at') (some (at' + 1)); have := cl (some at') none; rw [List.length_append]; omega) (fr3 w7) fun s8 K8' f8 n8 h8 => ?_
          have w8 := w7.trans h8
          refine ⟨_, rfl, _, rfl, _, rfl, ?_⟩
          try unfold tNoPart
          refine sl_ok (T := T) (M := [a, l]) (w8.tup e3 (nn _)) np (fr3 w8) fun s9 K9' f9 n9 h9 => ?_
          have w9 := w8.trans h9
          refine ⟨_, rfl, _, rfl, _, rfl, sl_ok (T := T) (M := [a, l]) (w9.tup e3 (nn _)) np (fr3 w9) fun s10 K10' f10 n10 h10 => ?_⟩
          have w10 := w9.trans h10
          refine cat_ok (T := T) (M := [a, l]) (h10.tup f9 (nn _)) f10 n9 n10 (by have := cl none (some at'); have := cl (some at') none; omega) (fr3 w10) fun s11 K11' f11 n11 h11 => ?_
          have w11 := w10.trans h11
          refine ⟨by show 3 ≤ sizeLine; decide, fun o1 ho1 => ?_⟩
          have h12 := Go.new (T := T) (M := []) (o := .lst [V.ref s3, .ref s8, .ref s11]) ho1
          have w12 := w11.trans h12
          refine ⟨_, rfl, _, rfl, p, xs, rfl, .inr (SqT.of (w12.tup e3 (nn _))), fun l1 hl1 => ?_⟩
          have h13 := Go.new (T := T) (M := []) (o := .lst xs) hl1
          have w13 := w12.trans h13
          have nl1 := fr3 w12 l1 hl1
          refine ⟨_, rfl, ?_⟩
          try unfold tC
          refine times_ok (T := T) (M := [a, l]) (j := 2) (w13.tup e3 (nn _)) np (by decide) (by decide) (by omega) (fr3 w13) fun s14 K14' f14 n14 h14 => ?_
          have w14 := w13.trans h14
          refine ⟨_, rfl, ?_⟩
          try unfold tC
          refine times_ok (T := T) (M := [a, l]) (j := 3) (w14.tup e3 (nn _)) np (by decide) (by decide) (by omega) (fr3 w14) fun s15 K15' f15 n15 h15 => ?_
          have w15 := w14.trans h15
          refine ⟨by show 3 ≤ sizeLine; decide, fun o2 ho2 => ?_⟩
          have h16 := Go.new (T := T) (M := []) (o := .lst [V.ref l1, .ref s14, .ref s15]) ho2
          have w16 := w15.trans h16
          have t13 := ((h13.trans h14).trans h15).trans h16
          refine ⟨o1, o2, [V.ref s3, .ref s8, .ref s11], [V.ref l1, .ref s14, .ref s15], rfl, rfl, t13.lst upd_same (nn _), upd_same, by show 6 ≤ sizeLine; decide, fun o3 ho3 => ?_⟩
          have h17 := Go.new (T := T) (M := []) (o := .lst ([V.ref s3, .ref s8, .ref s11] ++ [V.ref l1, .ref s14, .ref s15])) ho3
          have w17 := w16.trans h17
          have no3 := fr3 w16 o3 ho3
          have u16 := h16.trans h17
          have u15 := h15.trans u16
          have u14 := h14.trans u15
          have u13 := h13.trans u14
          have u12 := h12.trans u13
          have u9 := ((h9.trans h10).trans h11).trans u12
          have u4 := ((((h4.trans h5).trans h6).trans h7).trans h8).trans u9
          have hu : nice n (.tuple ds) = true := hn
          have dxs := rr2.go (g3.trans w17.of0)
          have dz : DvAll [a, l] _ [V.ref s3, .ref s8, .ref s11, .ref l1, .ref s14, .ref s15] [PyData.tuple (cutD ds none (some at') ++ cutD ds (some (at' + 1)) none), .tuple ((cutD ds none (some at') ++ cutD ds (some at') (some (at' + 1))) ++ cutD ds (some at') none), .tuple (cutD ds (some at') none ++ cutD ds none (some at')), .list ds, .tuple (List.replicate (2 : Int).toNat ds).flatten, .tuple (List.replicate (3 : Int).toNat ds).flatten] :=
            .cons (.tup (u4.tup f3 (nn _)) n3 (DvAll.append (dxs.cutD _ _) (dxs.cutD _ _)))
            (.cons (.tup (u9.tup f8 (nn _)) n8 (DvAll.append (DvAll.append (dxs.cutD _ _) (dxs.cutD _ _)) (dxs.cutD _ _)))
            (.cons (.tup (u12.tup f11 (nn _)) n11 (DvAll.append (dxs.cutD _ _) (dxs.cutD _ _)))
            (.cons (.lst (u14.lst upd_same (nn _)) nl1 dxs)
            (.cons (.tup (u15.tup f14 (nn _)) n14 (dxs.rep _))
            (.cons (.tup (u16.tup f15 (nn _)) n15 (dxs.rep _)) .nil)))))
          have near : ∀ z ∈ [PyData.tuple (cutD ds none (some at') ++ cutD ds (some (at' + 1)) none), .tuple ((cutD ds none (some at') ++ cutD ds (some at') (some (at' + 1))) ++ cutD ds (some at') none), .tuple (cutD ds (some at') none ++ cutD ds none (some at')), .list ds, .tuple (List.replicate (2 : Int).toNat ds).flatten, .tuple (List.replicate (3 : Int).toNat ds).flatten], nearOk n (.tuple ds) z := fun z hz => tup_ways hn hz
          refine ⟨_, rfl, a, l, (k + 1) + 1 + 1, 6, rfl, by decide, by decide, by omega, W3.go w17, w17.tb t3, fun iz Hz z0 z1 Wz gz tz => ?_⟩
          obtain ⟨vv, dd, ez, mz, hz⟩ := at_dv dz z0 (by exact z1)
          exact ⟨o3, _, iz, vv, rfl, rfl, SqL.of (gz.lst upd_same no3), ez, q vv dd Hz (hz.go gz) (near dd mz) (Wz.up (by omega)) ((G3.trans w17.of0).trans gz) tz⟩
        · refine if_false_of (decide_eq_false c2) ?_
          refine ⟨_, rfl, _, _, _, rfl, hv.go G2, _, rfl, iteF (iteF ?_)⟩
          refine ⟨_, rfl, _, _, _, rfl, hv.go G2, _, rfl, iteF (iteF ?_)⟩
          have w0 := W2
          have c0 := Go.refl (T := T) (M := []) (H := H2)
          refine ⟨by show 14 ≤ sizeLine; decide, fun o1 ho1 => ?_⟩
          have go1 := Go.new (T := T) (M := []) (o := .lst (([("" : Str), "number", "Number", "fun", "kind", "a", "A", "a1", "A1", "1A", "A_", "A b", "Abcdefghij", "abcdefghij"]).map V.str)) ho1
          have no1 := up w0 ho1
          have w1 := w0.go go1
          have c1 := c0.trans go1
          refine ⟨_, rfl, _, rfl, by show 0 ≤ sizeLine; omega, fun e1 he1 => ⟨by show 0 ≤ sizeLine; omega, fun e2 he2 => fun e3 he3 => ⟨by show 1 ≤ sizeLine; decide, fun e4 he4 => ⟨by show 0 ≤ sizeLine; omega, fun e5 he5 => ⟨by show 2 ≤ sizeLine; decide, fun e6 he6 => ⟨by show 15 ≤ sizeLine; decide, fun o2 ho2 => ?_⟩⟩⟩⟩⟩⟩
          have ge1 := Go.new (T := T) (M := []) (o := .tup []) he1
          have ne1 := up w1 he1
          have w2 := w1.go ge1
          have c2 := c1.trans ge1
          have ge2 := Go.new (T := T) (M := []) (o := .lst []) he2
          have ne2 := up w2 he2
          have w3 := w2.go ge2
          have c3 := c2.trans ge2
          have ge3 := Go.new (T := T) (M := []) (o := .dK []) he3
          have ne3 := up w3 he3
          have w4 := w3.go ge3
          have c4 := c3.trans ge3
          have ge4 := Go.new (T := T) (M := []) (o := .tup [.str "A"]) he4
          have ne4 := up w4 he4
          have w5 := w4.go ge4
          have c5 := c4.trans ge4
          have ge5 := Go.new (T := T) (M := []) (o := .tup []) he5
          have ne5 := up w5 he5
          have w6 := w5.go ge5
          have c6 := c5.trans ge5
          have ge6 := Go.new (T := T) (M := []) (o := .tup [.str "A", .ref e5]) he6
          have ne6 := up w6 he6
          have w7 := w6.go ge6
          have c7 := c6.trans ge6
          have go2 := Go.new (T := T) (M := []) (o := .lst [.str "Abcdefghijk", .str "abcdefghijk", .str "A\n", .int 0, .int 1, .int (-1), .int 2, .bl true, .bl false, .non, .ref e1, .ref e2, .ref e3, .ref e4, .ref e6]) ho2
          have no2 := up w7 ho2
          have w8 := w7.go go2
          have c8 := c7.trans go2
          have po1 := (((((((ge1.trans ge2).trans ge3).trans ge4).trans ge5).trans ge6).trans go2)).lst upd_same (nn _)
          have pe1 := ((((((ge2.trans ge3).trans ge4).trans ge5).trans ge6).trans go2)).tup upd_same (nn _)
          have pe2 := (((((ge3.trans ge4).trans ge5).trans ge6).trans go2)).lst upd_same (nn _)
          have pe3 := ((((ge4.trans ge5).trans ge6).trans go2)).gr _ _ (upd_same (a := e3) (o := .dK [])) (nn _) (fun _ z => by cases z)
          have pe4 := (((ge5.trans ge6).trans go2)).tup upd_same (nn _)
          have pe5 := ((ge6.trans go2)).tup upd_same (nn _)
          have pe6 := (go2).tup upd_same (nn _)
          refine ⟨o1, o2, (([("" : Str), "number", "Number", "fun", "kind", "a", "A", "a1", "A1", "1A", "A_", "A b", "Abcdefghij", "abcdefghij"]).map V.str), [V.str "Abcdefghijk", .str "abcdefghijk", .str "A\n", .int 0, .int 1, .int (-1), .int 2, .bl true, .bl false, .non, .ref e1, .ref e2, .ref e3, .ref e4, .ref e6], rfl, rfl, po1, upd_same, by show 29 ≤ sizeLine; decide, fun o3 ho3 => ?_⟩
          have go3 := Go.new (T := T) (M := []) (o := .lst ((([("" : Str), "number", "Number", "fun", "kind", "a", "A", "a1", "A1", "1A", "A_", "A b", "Abcdefghij", "abcdefghij"]).map V.str) ++ [V.str "Abcdefghijk", .str "abcdefghijk", .str "A\n", .int 0, .int 1, .int (-1), .int 2, .bl true, .bl false, .non, .ref e1, .ref e2, .ref e3, .ref e4, .ref e6])) ho3
          have no3 := up w8 ho3
          have w9 := w8.go go3
          have c9 := c8.trans go3
          refine ⟨_, rfl, _, rfl, by show 1 ≤ sizeLine; decide, fun f1 hf1 => ⟨_, rfl, by show 1 ≤ sizeLine; decide, fun f2 hf2 => ⟨_, rfl, _, rfl, by show 2 ≤ sizeLine; decide, fun f3 hf3 => ⟨by show 2 ≤ sizeLine; decide, fun f4 hf4 => ⟨by show 2 ≤ sizeLine; decide, fun f5 hf5 => ⟨_, _, rfl, rfl, ⟨by decide, by decide, by decide⟩, by show 2 ≤ sizeLine; decide, fun f6 hf6 => ⟨by show 0 ≤ sizeLine; omega, fun f7 hf7 => ⟨by show 2 ≤ sizeLine; decide, fun f8 hf8 => ⟨by show 7 ≤ sizeLine; decide, fun o4 ho4 => ?_⟩⟩⟩⟩⟩⟩⟩⟩⟩
          have gf1 := Go.new (T := T) (M := []) (o := .tup [v]) hf1
          have nf1 := up w9 hf1
          have w10 := w9.go gf1
          have c10 := c9.trans gf1
          have gf2 := Go.new (T := T) (M := []) (o := .lst [v]) hf2
          have nf2 := up w10 hf2
          have w11 := w10.go gf2
          have c11 := c10.trans gf2
          have gf3 := Go.new (T := T) (M := []) (o := .tup [v, v]) hf3
          have nf3 := up w11 hf3
          have w12 := w11.go gf3
          have c12 := c11.trans gf3
          have gf4 := Go.new (T := T) (M := []) (o := .tup [.int 1, .int 1]) hf4
          have nf4 := up w12 hf4
          have w13 := w12.go gf4
          have c13 := c12.trans gf4
          have gf5 := Go.new (T := T) (M := []) (o := .tup [.str "num", .ref f4]) hf5
          have nf5 := up w13 hf5
          have w14 := w13.go gf5
          have c14 := c13.trans gf5
          have gf6 := Go.new (T := T) (M := []) (o := .tup [.int 0, .int 1]) hf6
          have nf6 := up w14 hf6
          have w15 := w14.go gf6
          have c15 := c14.trans gf6
          have gf7 := Go.new (T := T) (M := []) (o := .tup []) hf7
          have nf7 := up w15 hf7
          have w16 := w15.go gf7
          have c16 := c15.trans gf7
          have gf8 := Go.new (T := T) (M := []) (o := .tup [.str "Fun", .ref f7]) hf8
          have nf8 := up w16 hf8
          have w17 := w16.go gf8
          have c17 := c16.trans gf8
          have go4 := Go.new (T := T) (M := []) (o := .lst [V.ref f1, .ref f2, .ref f3, .ref f5, .int (10 ^ 30), .ref f6, .ref f8]) ho4
          have no4 := up w17 ho4
          have w18 := w17.go go4
          have c18 := c17.trans go4
          have po3 := (((((((((gf1.trans gf2).trans gf3).trans gf4).trans gf5).trans gf6).trans gf7).trans gf8).trans go4)).lst upd_same (nn _)
          have pf1 := ((((((((gf2.trans gf3).trans gf4).trans gf5).trans gf6).trans gf7).trans gf8).trans go4)).tup upd_same (nn _)
          have pf2 := (((((((gf3.trans gf4).trans gf5).trans gf6).trans gf7).trans gf8).trans go4)).lst upd_same (nn _)
          have pf3 := ((((((gf4.trans gf5).trans gf6).trans gf7).trans gf8).trans go4)).tup upd_same (nn _)
          have pf4 := (((((gf5.trans gf6).trans gf7).trans gf8).trans go4)).tup upd_same (nn _)
          have pf5 := ((((gf6.trans gf7).trans gf8).trans go4)).tup upd_same (nn _)
          have pf6 := (((gf7.trans gf8).trans go4)).tup upd_same (nn _)
          have pf7 := ((gf8.trans go4)).tup upd_same (nn _)
          have pf8 := (go4).tup upd_same (nn _)
          refine ⟨o3, o4, ((([("" : Str), "number", "Number", "fun", "kind", "a", "A", "a1", "A1", "1A", "A_", "A b", "Abcdefghij", "abcdefghij"]).map V.str) ++ [V.str "Abcdefghijk", .str "abcdefghijk", .str "A\n", .int 0, .int 1, .int (-1), .int 2, .bl true, .bl false, .non, .ref e1, .ref e2, .ref e3, .ref e4, .ref e6]), [V.ref f1, .ref f2, .ref f3, .ref f5, .int (10 ^ 30), .ref f6, .ref f8], rfl, rfl, po3, upd_same, by show 36 ≤ sizeLine; decide, fun o5 ho5 => ?_⟩
          have go5 := Go.new (T := T) (M := []) (o := .lst (((([("" : Str), "number", "Number", "fun", "kind", "a", "A", "a1", "A1", "1A", "A_", "A b", "Abcdefghij", "abcdefghij"]).map V.str) ++ [V.str "Abcdefghijk", .str "abcdefghijk", .str "A\n", .int 0, .int 1, .int (-1), .int 2, .bl true, .bl false, .non, .ref e1, .ref e2, .ref e3, .ref e4, .ref e6]) ++ [V.ref f1, .ref f2, .ref f3, .ref f5, .int (10 ^ 30), .ref f6, .ref f8])) ho5
          have no5 := up w18 ho5
          have w19 := w18.go go5
          have c19 := c18.trans go5
          have re1 := (((((((((((go3.trans gf1).trans gf2).trans gf3).trans gf4).trans gf5).trans gf6).trans gf7).trans gf8).trans go4).trans go5)).tup pe1 (nn _)
          have re4 := (((((((((((go3.trans gf1).trans gf2).trans gf3).trans gf4).trans gf5).trans gf6).trans gf7).trans gf8).trans go4).trans go5)).tup pe4 (nn _)
          have re5 := (((((((((((go3.trans gf1).trans gf2).trans gf3).trans gf4).trans gf5).trans gf6).trans gf7).trans gf8).trans go4).trans go5)).tup pe5 (nn _)
          have re6 := (((((((((((go3.trans gf1).trans gf2).trans gf3).trans gf4).trans gf5).trans gf6).trans gf7).trans gf8).trans go4).trans go5)).tup pe6 (nn _)
          have re2 := (((((((((((go3.trans gf1).trans gf2).trans gf3).trans gf4).trans gf5).trans gf6).trans gf7).trans gf8).trans go4).trans go5)).lst pe2 (nn _)
          have re3 := (((((((((((go3.trans gf1).trans gf2).trans gf3).trans gf4).trans gf5).trans gf6).trans gf7).trans gf8).trans go4).trans go5)).gr _ _ pe3 (nn _) (fun _ z => by cases z)
          have rf1 := go5.tup pf1 (nn _)
          have rf3 := go5.tup pf3 (nn _)
          have rf4 := go5.tup pf4 (nn _)
          have rf5 := go5.tup pf5 (nn _)
          have rf6 := go5.tup pf6 (nn _)
          have rf7 := go5.tup pf7 (nn _)
          have rf2 := go5.lst pf2 (nn _)
          have rf8 := go5.tup pf8 (nn _)
          have vz := hv.go ((G2).trans c19.of0)
          have dz : DvAll [a, l] _ _ (oddD _) := DvAll.append (DvAll.append (DvAll.strs _) (.cons (.str _) (.cons (.str _) (.cons (.str _) (.cons (.int _) (.cons (.int _) (.cons (.int _) (.cons (.int _) (.cons (.bl _) (.cons (.bl _) (.cons .non (.cons (.tup re1 ne1 .nil) (.cons (.lst re2 ne2 .nil) (.cons (.dct re3 ne3) (.cons (.tup re4 ne4 (.cons (.str _) .nil)) (.cons (.tup re6 ne6 (.cons (.str _) (.cons (.tup re5 ne5 .nil) .nil))) .nil))))))))))))))))
            (.cons (.tup rf1 nf1 (.cons vz .nil)) (.cons (.lst rf2 nf2 (.cons vz .nil)) (.cons (.tup rf3 nf3 (.cons vz (.cons vz .nil))) (.cons (.tup rf5 nf5 (.cons (.str _) (.cons (.tup rf4 nf4 (.cons (.int _) (.cons (.int _) .nil))) .nil))) (.cons (.int _) (.cons (.tup rf6 nf6 (.cons (.int _) (.cons (.int _) .nil))) (.cons (.tup rf8 nf8 (.cons (.str _) (.cons (.tup rf7 nf7 .nil) .nil))) .nil)))))))
          refine ⟨_, rfl, _, rfl, _, rfl, o5, _, rfl, .inl (SqL.of upd_same), a, l, ((k + 1) + 1), _, rfl, (show (0 : Int) < 36 by decide), (show (36 : Int) < 1073741824 by decide), by omega, w19, c19.tb ((G2).tb ht), fun iz Hz z0 z1 Wz gz tz => ?_⟩
          obtain ⟨vv, dd, ez, mz, hz⟩ := at_dv dz z0 z1
          exact ⟨o5, _, iz, vv, rfl, rfl, SqL.of (gz.lst upd_same no5), ez, q vv dd Hz (hz.go gz) (oddD_near hn mz) (Wz.up (by omega)) (((G2).trans c19.of0).trans gz) tz⟩
end
end K1
set_option Elab.async false
set_option linter.all false
set_option maxRecDepth 100000
set_option maxHeartbeats 8000000
namespace K1
open PySem PySem.Spec PyProof.Rows L2 GxR NdefX GA SL
abbrev s_law : Stmt := top 62
theorem sc_law : FnScope ["script", "well", "values", "turn", "family", "wide", "k", "bent", "value"] ["script"] (defScope s_law) := ⟨rfl, rfl, rfl, by decide +kernel, rfl, by decide +kernel, by decide +kernel⟩
theorem ok_law_bent {P : Program} {w : World} {K : PySem.W.Frag} {mg : Str → Option Value} {base : Heap} {f : Addr} {fd : FuncData} {T : List Addr} (F : Fun K "_law_bent" "_law_bent" s_law_bent f fd) (hm : mg "_law_bent" = some (.ref f)) (hb : Binds K fd ["well", "value"] []) (B : Bl mg)
    (Fd : Fnn P w K mg base CX0 1 "_law_draw" ["well", "many"] (sp_draw T)) (dep : Nat) : FnOk P w K mg base CX0 (dep + 3) f fd ["well", "value"] (sp_bent T dep) := by
  induction dep using Nat.strongRecOn with
  | ind dep ih =>
    refine ok_law_bent_step dep F B Fd ⟨f, fd, ⟨?_, ?_⟩, hm, F.kp, hb⟩
    · rintro vs H Q E ⟨j, hj, h⟩
      exact (ih j hj).len vs H Q E h
    · rintro A outer s H args us vs Q E hr env hbt hv ⟨j, hj, h⟩
      exact (ih j hj).run A outer s H args us vs Q E (hr.mono (by omega)) env hbt hv h
def sp_law (K : PySem.W.Frag) (T : List Addr) : Sp := fun vs H Q _ => ∃ (b : Addr) (ns : List Int), vs = [.ref b] ∧ SqL K H b (ns.map V.int) ∧ ns.length ≤ 63 ∧ Tabs T H ∧ ∀ H', Q (.bl true) H'
def NB : Nat := 1000000001000000000000000000000000000000
/-- what _law_value_right takes -/
def good (d : PyData) : Prop := nice NB d = true ∧ wt d ≤ 4000000 ∧ d.depth ≤ 100
def fixed8 : List PyData := [.none, .int 0, .str "A", .tuple [], .list [], .tuple [.tuple [.str "A", .tuple []]], .tuple [.tuple [.tuple [.str "A", .tuple [.tuple [.str "B", .tuple []]]]]], .tuple [.tuple [.str "A", .tuple [.tuple [.str "B", .tuple []]]]]]
theorem fixed8_ok : fixed8.all (fun d => nice 0 d && decide (wt d ≤ 2000) && decide (d.depth ≤ 9)) = true := by decide +kernel
theorem fixed8_good {d : PyData} (h : d ∈ fixed8) : good d := by
  have := List.all_eq_true.mp fixed8_ok d h
  simp only [Bool.and_eq_true, decide_eq_true_eq] at this
  exact ⟨nice_mono (Nat.zero_le _) this.1.1, by omega, by omega⟩
theorem drawn_good {d : PyData} (h : drawnOk d) : good d := by
  obtain ⟨_, _, _, h1, h2, h3⟩ := h
  exact ⟨nice_mono (Nat.zero_le _) h2, by omega, by omega⟩
theorem drawn_tup {d : PyData} (h : drawnOk d) : ∃ x r, d = .tuple (x :: r) ∧ wtAll (x :: r) ≤ 80000 ∧ (∀ y ∈ x :: r, nice NB y = true) ∧ ∀ y ∈ x :: r, y.depth ≤ 6 := by
  obtain ⟨x, r, rfl, h1, h2, h3⟩ := h
  refine ⟨x, r, rfl, by rw [wt_tupl] at h1; omega, fun y hy => nice_mono (Nat.zero_le _) (nice_tup.mp h2 y hy), fun y hy => ?_⟩
  have : (PyData.tuple (x :: r)).depth ≤ 6 + 1 := by omega
  exact depth_tup.mp this y hy
/-- the parts of a family: itself as a list, its first entry, it and its first once more, its first and another -/
theorem parts_good {x x' : PyData} {r r' : List PyData} (h1 : drawnOk (.tuple (x :: r))) (h2 : drawnOk (.tuple (x' :: r'))) {d : PyData} (m : d ∈ [PyData.tuple (x :: r), .tuple (x' :: r'), .list (x :: r), x, .tuple ((x :: r) ++ cutD (x :: r) none (some 1)), .tuple (cutD (x :: r) none (some 1) ++ (x' :: r'))]) : good d := by
  obtain ⟨_, _, e, w1, n1, d1⟩ := drawn_tup h1
  cases e
  obtain ⟨_, _, e, w2, n2, d2⟩ := drawn_tup h2
  cases e
  have c := cutD_wt (x :: r) none (some 1)
  have mx : x ∈ x :: r := List.mem_cons_self
  have wx := wt_mem mx
  have tp : ∀ {ys : List PyData}, (∀ y ∈ ys, nice NB y = true ∧ y.depth ≤ 6) → wtAll ys ≤ 170000 → good (.tuple ys) := fun {ys} h w => ⟨nice_tup.mpr fun y hy => (h y hy).1, by rw [wt_tupl]; omega, by
    have := depth_tup.mpr fun y hy => (h y hy).2
    omega⟩
  simp only [List.mem_cons, List.not_mem_nil, or_false] at m
  rcases m with rfl | rfl | rfl | rfl | rfl | rfl
  · exact drawn_good h1
  · exact drawn_good h2
  · refine ⟨nice_lst.mpr n1, by rw [wt_lst]; omega, ?_⟩
    have := depth_lst.mpr d1
    omega
  · exact ⟨n1 _ mx, by omega, by have := d1 _ mx; omega⟩
  · refine tp (fun y hy => ?_) (by rw [wtAll_append]; omega)
    rcases List.mem_append.mp hy with z | z
    · exact ⟨n1 y z, d1 y z⟩
    · exact ⟨n1 y (cutD_mem z), d1 y (cutD_mem z)⟩
  · refine tp (fun y hy => ?_) (by rw [wtAll_append]; omega)
    rcases List.mem_append.mp hy with z | z
    · exact ⟨n1 y (cutD_mem z), d1 y (cutD_mem z)⟩
    · exact ⟨n2 y z, d2 y z⟩
/-- the list of values so far -/
def VInv (T : List Addr) (a l : Addr) (m : Nat) (k : Int) (z : V) (H : Hp) : Prop := ∃ (p : Addr) (vs : List V) (ds : List PyData), z = .ref p ∧ H p = some (.lst vs) ∧ p ∉ [a, l] ∧ DvAll [a, l] H vs ds ∧ (∀ d ∈ ds, good d) ∧ vs.length ≤ m ∧ WellAt a l H k ∧ Tabs T H
theorem VInv.go {T : List Addr} {a l : Addr} {m : Nat} {k k' : Int} {z : V} {H H' : Hp} (h : VInv T a l m k z H) (g : Go T [a, l] H H') (w : WellAt a l H' k') : VInv T a l m k' z H' := by
  obtain ⟨p, vs, ds, e, h1, h2, h3, h4, h5, _, h7⟩ := h
  exact ⟨p, vs, ds, e, g.lst h1 h2, h2, h3.go g, h4, h5, w, g.tb h7⟩
theorem VInv.up {T : List Addr} {a l : Addr} {m m' : Nat} {k k' : Int} {z : V} {H : Hp} (h : VInv T a l m k z H) (hm : m ≤ m') (hk : k ≤ k') : VInv T a l m' k' z H := by
  obtain ⟨p, vs, ds, e, h1, h2, h3, h4, h5, h6, h7⟩ := h
  exact ⟨p, vs, ds, e, h1, h2, h3, h4, by omega, h6.up hk, h7⟩
/-- values + [..] -/
theorem VInv.cat {T : List Addr} {a l : Addr} {m j : Nat} {k : Int} {z : V} {H : Hp} {o : Addr} {us : List V} {es : List PyData} {Q : VK} (h : VInv T a l m k z H) (ho : H o = some (.lst us)) (hu : DvAll [a, l] H us es) (he : ∀ d ∈ es, good d) (hl : us.length ≤ j) (hm : m + j ≤ 1000)
    (q : ∀ r H', VInv T a l (m + j) k (.ref r) H' → Go T [] H H' → Q (.ref r) H') : rCat z (.ref o) H Q := by
  obtain ⟨p, vs, ds, rfl, h1, h2, h3, h4, h5, h6, h7⟩ := h
  refine ⟨p, o, vs, us, rfl, rfl, h1, ho, by rw [sizeLine_eq]; omega, fun r hr => ?_⟩
  have g := Go.new (T := T) (M := []) (o := .lst (vs ++ us)) hr
  refine q r _ ⟨r, _, _, rfl, upd_same, nin (h6.ne hr), (h3.append hu).go (g.of0 : Go T [a, l] H _), fun d hd => ?_, by rw [List.length_append]; omega, h6.go g, g.tb h7⟩ g
  exact (List.mem_append.mp hd).elim (h4 d) (he d)
theorem at126 {i : Nat} (h : i < 3) : ∃ m : Int, atI [V.int 1, V.int 2, V.int 6] (0 + (i : Int)) = some (.int m) ∧ 1 ≤ m ∧ m ≤ 6 := by
  have : i = 0 ∨ i = 1 ∨ i = 2 := by omega
  rcases this with rfl | rfl | rfl
  · exact ⟨1, rfl, by decide, by decide⟩
  · exact ⟨2, rfl, by decide, by decide⟩
  · exact ⟨6, rfl, by decide, by decide⟩
theorem atTwo {x y : V} {j : Nat} : ∃ z, atI [x, y] ((0 + (j : Int)) % 2) = some z ∧ (z = x ∨ z = y) := by
  have : (0 + (j : Int)) % 2 = 0 ∨ (0 + (j : Int)) % 2 = 1 := by omega
  rcases this with e | e
  · rw [e]
    exact ⟨x, rfl, .inl rfl⟩
  · rw [e]
    exact ⟨y, rfl, .inr rfl⟩

section
variable {P : Program} {w : World} {K : PySem.W.Frag} {mg : Str → Option Value} {base : Heap} {f c CK CN CT CR : Addr} {fd : FuncData} {T : List Addr}
theorem ok_law (F : FunT K "law" "law" s_law f fd c) (B : Bl mg) (Fw : Fnn P w K mg base CX0 1 "_law_well" ["script"] (sp_well K T)) (Fk : Fnn P w K mg base CX0 3 "_law_kinds" ["well", "most"] (sp_kindsL T)) (Fd : Fnn P w K mg base CX0 3 "_law_wide" ["well"] (sp_wide T)) (Fb : Fnn P w K mg base CX0 15 "_law_bent" ["well", "value"] (sp_bent T 12)) (Fv : Fng P w K mg base 16 "_law_value_right" ["value"] (sp_value T)) : FnG P w K mg base 17 f fd ["script"] (sp_law K T) := by
  have nd := sc_law.nd
  refine F.okG sc_law (fun vs H Q h => ?_) (fun A outer s H vs Q hG hr h => ?_)
  · obtain ⟨_, _, rfl, _⟩ := h
    rfl
  obtain ⟨b, ns, rfl, hS, hlen, ht, q⟩ := h
  refine ⟨_, PSs.nox (pss_cons (ps_set (i := 1) nd rfl (Or.inl rfl) (pe_fn Fw hr (by decide) pass0 (pa_cons (pv 0) pa_nil)))
    (pss_cons (ps_set (i := 2) nd rfl (Or.inl rfl) (pe_lst (pa_cons pe_non (pa_cons pe_int (pa_cons pe_str (pa_cons (pe_tup pa_nil) (pa_cons (pe_lst pa_nil) (pa_cons (pe_tup (pa_cons (pe_tup (pa_cons pe_str (pa_cons (pe_tup pa_nil) pa_nil))) pa_nil)) (pa_cons (pe_tup (pa_cons (pe_tup (pa_cons (pe_tup (pa_cons pe_str (pa_cons (pe_tup (pa_cons (pe_tup (pa_cons pe_str (pa_cons (pe_tup pa_nil) pa_nil))) pa_nil)) pa_nil))) pa_nil)) pa_nil)) (pa_cons (pe_tup (pa_cons (pe_tup (pa_cons pe_str (pa_cons (pe_tup (pa_cons (pe_tup (pa_cons pe_str (pa_cons (pe_tup pa_nil) pa_nil))) pa_nil)) pa_nil))) pa_nil)) pa_nil))))))))))
    (pss_cons (ps_for PassesOwn.never rfl (pi_range1 rfl B.range (pa_cons pe_int pa_nil)) (pg_name (i := 3) nd rfl (Or.inl rfl))
    (pss_cons (ps_set (i := 4) nd rfl (Or.inl rfl) (pe_fn Fk hr (by decide) pass0 (pa_cons (pv 1) (pa_cons (pe_ix ix_list (pe_lst (pa_cons pe_int (pa_cons pe_int (pa_cons pe_int pa_nil)))) (pv 3) (fun _ _ => rfl)) pa_nil))))
    (pss_cons (ps_set (i := 5) nd rfl (Or.inl rfl) (pe_fn Fd hr (by decide) pass0 (pa_cons (pv 1) pa_nil)))
    (pss_cons (ps_set (i := 2) nd rfl (Or.inl rfl) (pe_op op_cat (pv 2) (pe_lst (pa_cons (pv 4) (pa_cons (pv 5) (pa_cons (pe_toList B (pv 4)) (pa_cons (pe_ix ix_tup (pv 4) pe_int (fun _ _ => rfl)) (pa_cons (pe_op op_catA (pv 4) (pe_slice sl_tupA (pv 4) po_none (po_some pe_int))) (pa_cons (pe_op op_catA (pe_slice sl_tupA (pv 4) po_none (po_some pe_int)) (pv 5)) pa_nil)))))))))
    (pss_one (ps_for PassesOwn.never rfl (pi_range1 rfl B.range (pa_cons pe_int pa_nil)) (pg_name (i := 6) nd rfl (Or.inl rfl))
    (pss_cons (ps_set (i := 7) nd rfl (Or.inl rfl) (pe_fn Fb hr (by decide) pass0 (pa_cons (pv 1) (pa_cons (pe_ix ix_list (pe_lst (pa_cons (pv 4) (pa_cons (pv 5) pa_nil))) (pe_op op_mod (pv 6) pe_int) (fun _ _ => rfl)) pa_nil))))
    (pss_one (ps_set (i := 2) nd rfl (Or.inl rfl) (pe_op op_cat (pv 2) (pe_lst (pa_cons (pv 7) (pa_cons (pe_fn Fb hr (by decide) pass0 (pa_cons (pv 1) (pa_cons (pv 7) pa_nil))) pa_nil)))))))))))))
    (pss_one (ps_ret (pe_allL rfl B (pe_lc (own := [("value", 8)]) (g := gName 8) (tt := tYes)  rfl nd (pi_list (pv 2)) (blkOk_by (own := [("value", 8)]) (N := ["script", "well", "values", "turn", "family", "wide", "k", "bent", "value"]) (sc := defScope s_law) (by decide +kernel))
        (fun _ _ _ _ _ => (pg_name (i := 8) nd rfl (Or.inl rfl))) (fun _ _ _ _ _ => pts_nil) (fun _ _ _ _ _ => (pe_fnG Fv hG hr (by decide) (pa_cons (pv 8) pa_nil)))))))))), ?_⟩
  have nn : ∀ b : Addr, b ∉ ([] : List Addr) := fun b => List.not_mem_nil
  refine ⟨_, rfl, b, ns, rfl, hS, by omega, ht, fun a l H1 ha hl W1 g1 t1 => ?_⟩
  have up : ∀ {p : Addr} {H' : Hp} {k' : Int}, WellAt a l H' k' → H' p = none → p ∉ [a, l] := fun w h => nin (w.ne h)
  refine ⟨by show 0 ≤ sizeLine; omega, fun e1 he1 => ⟨by show 0 ≤ sizeLine; omega, fun e2 he2 => ⟨by show 0 ≤ sizeLine; omega, fun e3 he3 => ⟨by show 2 ≤ sizeLine; decide, fun e4 he4 => ⟨by show 1 ≤ sizeLine; decide, fun e5 he5 => ⟨by show 0 ≤ sizeLine; omega, fun e6 he6 => ⟨by show 2 ≤ sizeLine; decide, fun e7 he7 => ⟨by show 1 ≤ sizeLine; decide, fun e8 he8 => ⟨by show 2 ≤ sizeLine; decide, fun e9 he9 => ⟨by show 1 ≤ sizeLine; decide, fun e10 he10 => ⟨by show 1 ≤ sizeLine; decide, fun e11 he11 => ⟨by show 0 ≤ sizeLine; omega, fun e12 he12 => ⟨by show 2 ≤ sizeLine; decide, fun e13 he13 => ⟨by show 1 ≤ sizeLine; decide, fun e14 he14 => ⟨by show 2 ≤ sizeLine; decide, fun e15 he15 => ⟨by show 1 ≤ sizeLine; decide, fun e16 he16 => ⟨by show 8 ≤ sizeLine; decide, fun o1 ho1 => ?_⟩⟩⟩⟩⟩⟩⟩⟩⟩⟩⟩⟩⟩⟩⟩⟩⟩
  have ge1 := Go.new (T := T) (M := []) (o := .tup []) he1
  have ne1 := up W1 he1
  have we1 := W1.go ge1
  have ge2 := Go.new (T := T) (M := []) (o := .lst []) he2
  have ne2 := up we1 he2
  have we2 := we1.go ge2
  have ge3 := Go.new (T := T) (M := []) (o := .tup []) he3
  have ne3 := up we2 he3
  have we3 := we2.go ge3
  have ge4 := Go.new (T := T) (M := []) (o := .tup [.str "A", .ref e3]) he4
  have ne4 := up we3 he4
  have we4 := we3.go ge4
  have ge5 := Go.new (T := T) (M := []) (o := .tup [.ref e4]) he5
  have ne5 := up we4 he5
  have we5 := we4.go ge5
  have ge6 := Go.new (T := T) (M := []) (o := .tup []) he6
  have ne6 := up we5 he6
  have we6 := we5.go ge6
  have ge7 := Go.new (T := T) (M := []) (o := .tup [.str "B", .ref e6]) he7
  have ne7 := up we6 he7
  have we7 := we6.go ge7
  have ge8 := Go.new (T := T) (M := []) (o := .tup [.ref e7]) he8
  have ne8 := up we7 he8
  have we8 := we7.go ge8
  have ge9 := Go.new (T := T) (M := []) (o := .tup [.str "A", .ref e8]) he9
  have ne9 := up we8 he9
  have we9 := we8.go ge9
  have ge10 := Go.new (T := T) (M := []) (o := .tup [.ref e9]) he10
  have ne10 := up we9 he10
  have we10 := we9.go ge10
  have ge11 := Go.new (T := T) (M := []) (o := .tup [.ref e10]) he11
  have ne11 := up we10 he11
  have we11 := we10.go ge11
  have ge12 := Go.new (T := T) (M := []) (o := .tup []) he12
  have ne12 := up we11 he12
  have we12 := we11.go ge12
  have ge13 := Go.new (T := T) (M := []) (o := .tup [.str "B", .ref e12]) he13
  have ne13 := up we12 he13
  have we13 := we12.go ge13
  have ge14 := Go.new (T := T) (M := []) (o := .tup [.ref e13]) he14
  have ne14 := up we13 he14
  have we14 := we13.go ge14
  have ge15 := Go.new (T := T) (M := []) (o := .tup [.str "A", .ref e14]) he15
  have ne15 := up we14 he15
  have we15 := we14.go ge15
  have ge16 := Go.new (T := T) (M := []) (o := .tup [.ref e15]) he16
  have ne16 := up we15 he16
  have we16 := we15.go ge16
  have go1 := Go.new (T := T) (M := []) (o := .lst [V.non, .int 0, .str "A", .ref e1, .ref e2, .ref e5, .ref e11, .ref e16]) ho1
  have no1 := up we16 ho1
  have wo1 := we16.go go1
  have se16 := go1
  have se15 := ge16.trans se16
  have se14 := ge15.trans se15
  have se13 := ge14.trans se14
  have se12 := ge13.trans se13
  have se11 := ge12.trans se12
  have se10 := ge11.trans se11
  have se9 := ge10.trans se10
  have se8 := ge9.trans se9
  have se7 := ge8.trans se8
  have se6 := ge7.trans se7
  have se5 := ge6.trans se6
  have se4 := ge5.trans se5
  have se3 := ge4.trans se4
  have se2 := ge3.trans se3
  have se1 := ge2.trans se2
  have pe1 := se1.tup upd_same (nn _)
  have pe2 := se2.lst upd_same (nn _)
  have pe3 := se3.tup upd_same (nn _)
  have pe4 := se4.tup upd_same (nn _)
  have pe5 := se5.tup upd_same (nn _)
  have pe6 := se6.tup upd_same (nn _)
  have pe7 := se7.tup upd_same (nn _)
  have pe8 := se8.tup upd_same (nn _)
  have pe9 := se9.tup upd_same (nn _)
  have pe10 := se10.tup upd_same (nn _)
  have pe11 := se11.tup upd_same (nn _)
  have pe12 := se12.tup upd_same (nn _)
  have pe13 := se13.tup upd_same (nn _)
  have pe14 := se14.tup upd_same (nn _)
  have pe15 := se15.tup upd_same (nn _)
  have pe16 := se16.tup upd_same (nn _)
  have gF := ge1.trans se1
  have dF : DvAll [a, l] _ _ fixed8 := (.cons .non (.cons (.int _) (.cons (.str _) (.cons (.tup pe1 ne1 .nil) (.cons (.lst pe2 ne2 .nil) (.cons (.tup pe5 ne5 (.cons (.tup pe4 ne4 (.cons (.str _) (.cons (.tup pe3 ne3 .nil) .nil))) .nil)) (.cons (.tup pe11 ne11 (.cons (.tup pe10 ne10 (.cons (.tup pe9 ne9 (.cons (.str _) (.cons (.tup pe8 ne8 (.cons (.tup pe7 ne7 (.cons (.str _) (.cons (.tup pe6 ne6 .nil) .nil))) .nil)) .nil))) .nil)) .nil)) (.cons (.tup pe16 ne16 (.cons (.tup pe15 ne15 (.cons (.str _) (.cons (.tup pe14 ne14 (.cons (.tup pe13 ne13 (.cons (.str _) (.cons (.tup pe12 ne12 .nil) .nil))) .nil)) .nil))) .nil)) .nil))))))))
  have vF : VInv T a l 8 0 (.ref o1) _ := ⟨o1, _, _, rfl, upd_same, no1, dF, fun d hd => fixed8_good hd, by show 8 ≤ 8; decide, wo1, gF.tb t1⟩
  refine ⟨3, rfl, by decide, by decide, ?_⟩
  refine for_it (walk_range (lo := 0) (n := (3 : Int).toNat)) (fun i σ H' => ∃ (z : V) (p3 p4 p5 p6 p7 : Option V), σ = [some (.ref b), some (.ref a), some z, p3, p4, p5, p6, p7, none] ∧ VInv T a l (8 + 22 * i) (40000 * i) z H')
    ⟨_, none, none, none, none, none, rfl, vF.up (by omega) (by omega)⟩ (fun _ _ _ _ _ => trivial) (fun i x σ H5 H6 hi h y => ?_) (fun σ H5 h => ?_)
  · obtain ⟨z, p3, p4, p5, p6, p7, rfl, vI⟩ := h
    obtain ⟨rfl, rfl⟩ := y
    have hi : i < 3 := hi
    obtain ⟨m, em, m1, m6⟩ := at126 hi
    obtain ⟨_, _, _, _, _, _, _, _, _, W5, t5⟩ := id vI
    refine ⟨_, rfl, by show 3 ≤ sizeLine; decide, fun q1 hq1 => ?_⟩
    have gq := Go.new (T := T) (M := []) (o := .lst [.int 1, .int 2, .int 6]) hq1
    refine ⟨_, rfl, q1, _, _, _, rfl, rfl, SqL.of upd_same, em, a, l, 40000 * i, m, rfl, m1, m6, by omega, W5.go gq, gq.tb t5, fun v4 d4 H7 hv4 ok4 W7 g7 t7 => ?_⟩
    have v7 := vI.go (gq.of0.trans g7) W7
    refine ⟨_, rfl, a, l, 40000 * i + 10000, rfl, by omega, W7, t7, fun v5 d5 H8 hv5 ok5 W8 g8 t8 => ?_⟩
    have v8 := v7.go g8 W8
    have hv4' := hv4.go g8
    obtain ⟨x4, r4, rfl, _⟩ := id ok4
    obtain ⟨x5, r5, rfl, _⟩ := id ok5
    obtain ⟨f4, xs4, rfl, e4, n4, dd4⟩ : ∃ p xs, v4 = .ref p ∧ H8 p = some (.tup xs) ∧ p ∉ [a, l] ∧ DvAll [a, l] H8 xs (x4 :: r4) := by
      cases hv4' with
      | tup e n r => exact ⟨_, _, rfl, e, n, r⟩
    obtain ⟨f5, xs5, rfl, e5, n5, dd5⟩ : ∃ p xs, v5 = .ref p ∧ H8 p = some (.tup xs) ∧ p ∉ [a, l] ∧ DvAll [a, l] H8 xs (x5 :: r5) := by
      cases hv5 with
      | tup e n r => exact ⟨_, _, rfl, e, n, r⟩
    have fr8 : ∀ {H' : Hp}, Go T [] H8 H' → ∀ r, H' r = none → r ∉ [a, l] := fun g r h => up (W8.go g) h
    have l4 : xs4.length ≤ 40000 := by
      obtain ⟨_, _, e, w, _⟩ := drawn_tup ok4
      cases e
      have := wtAll_len (x4 :: r4)
      have := dd4.length
      omega
    have l5 : xs5.length ≤ 40000 := by
      obtain ⟨_, _, e, w, _⟩ := drawn_tup ok5
      cases e
      have := wtAll_len (x5 :: r5)
      have := dd5.length
      omega
    obtain ⟨y4, s4, rfl, hy4⟩ : ∃ y s, xs4 = y :: s ∧ Dv [a, l] H8 y x4 := by
      cases dd4 with
      | cons h _ => exact ⟨_, _, rfl, h⟩
    refine ⟨_, rfl, _, rfl, _, rfl, _, rfl, f4, y4 :: s4, rfl, .inr (SqT.of e4), fun l1 hl1 => ?_⟩
    have h1 := Go.new (T := T) (M := []) (o := .lst (y4 :: s4)) hl1
    have nl1 := up W8 hl1
    refine ⟨_, rfl, f4, _, 0, y4, rfl, rfl, SqT.of (h1.tup e4 (nn _)), atI_nat (j := 0) rfl, ?_⟩
    have w1 := h1
    refine ⟨_, rfl, _, rfl, _, rfl, sl_ok (T := T) (M := [a, l]) (w1.tup e4 (nn _)) n4 (fr8 w1) fun s1 K1' j1 m1' h2 => ?_⟩
    have w2 := w1.trans h2
    refine cat_ok (T := T) (M := [a, l]) (w2.tup e4 (nn _)) j1 n4 m1' (by have := cutV_len (y4 :: s4) none (some 1); omega) (fr8 w2) fun s2 K2' j2 m2' h3 => ?_
    have w3 := w2.trans h3
    refine ⟨_, rfl, _, rfl, sl_ok (T := T) (M := [a, l]) (w3.tup e4 (nn _)) n4 (fr8 w3) fun s3 K3' j3 m3' h4 => ?_⟩
    have w4 := w3.trans h4
    refine ⟨_, rfl, cat_ok (T := T) (M := [a, l]) j3 (w4.tup e5 (nn _)) m3' n5 (by have := cutV_len (y4 :: s4) none (some 1); omega) (fr8 w4) fun s5 K5' j5 m5' h5 => ?_⟩
    have w5 := w4.trans h5
    refine ⟨by show 6 ≤ sizeLine; decide, fun o2 ho2 => ?_⟩
    have h6 := Go.new (T := T) (M := []) (o := .lst [V.ref f4, .ref f5, .ref l1, y4, .ref s2, .ref s5]) ho2
    have w6 := w5.trans h6
    have u5 := h5.trans h6
    have u3 := (h4.trans u5)
    have u1 := ((h2.trans h3).trans u3)
    have dv4 := hv4'.go w6.of0
    have dv5 : Dv [a, l] H8 (.ref f5) (.tuple (x5 :: r5)) := .tup e5 n5 dd5
    have dv5 := dv5.go w6.of0
    have dx4 : DvAll [a, l] H8 (y4 :: s4) (x4 :: r4) := dd4
    have dx4 := dx4.go w6.of0
    have dx5 := dd5.go w6.of0
    have dZ : DvAll [a, l] _ [V.ref f4, .ref f5, .ref l1, y4, .ref s2, .ref s5] [PyData.tuple (x4 :: r4), .tuple (x5 :: r5), .list (x4 :: r4), x4, .tuple ((x4 :: r4) ++ cutD (x4 :: r4) none (some 1)), .tuple (cutD (x4 :: r4) none (some 1) ++ (x5 :: r5))] :=
      .cons dv4 (.cons dv5 (.cons (.lst (u1.lst upd_same (nn _)) nl1 dx4) (.cons (hy4.go w6.of0) (.cons (.tup (u3.tup j2 (nn _)) m2' (DvAll.append dx4 (dx4.cutD _ _))) (.cons (.tup (h6.tup j5 (nn _)) m5' (DvAll.append (dx4.cutD _ _) dx5)) .nil)))))
    refine VInv.cat (T := T) (j := 6) (v8.go w6.of0 (W8.go w6)) upd_same dZ (fun d hd => parts_good ok4 ok5 hd) (by show 6 ≤ 6; decide) (by omega) fun r6 H9 v9 g9 => ?_
    refine ⟨8, rfl, by decide, by decide, ?_⟩
    refine for_it (walk_range (lo := 0) (n := (8 : Int).toNat)) (fun j σ H' => ∃ (z : V) (p6 p7 : Option V), σ = [some (.ref b), some (.ref a), some z, some (.int (0 + (i : Int))), some (.ref f4), some (.ref f5), p6, p7, none] ∧ VInv T a l (8 + 22 * i + 6 + 2 * j) (40000 * i + 20000 + 300 * j) z H' ∧ Dv [a, l] H' (.ref f4) (.tuple (x4 :: r4)) ∧ Dv [a, l] H' (.ref f5) (.tuple (x5 :: r5)))
      ⟨_, _, _, rfl, v9.up (by omega) (by omega), dv4.go g9.of0, dv5.go g9.of0⟩ (fun _ _ _ _ _ => trivial) (fun j x σ H10 H11 hj h y => ?_) (fun σ H10 h => ?_)
    · obtain ⟨z, p6, p7, rfl, vJ, dw4, dw5⟩ := h
      obtain ⟨rfl, rfl⟩ := y
      have hj : j < 8 := hj
      obtain ⟨vx, ex, hvx⟩ := atTwo (x := V.ref f4) (y := V.ref f5) (j := j)
      obtain ⟨dx, hdx, okx⟩ : ∃ dx, Dv [a, l] H11 vx dx ∧ drawnOk dx := by
        rcases hvx with rfl | rfl
        · exact ⟨_, dw4, ok4⟩
        · exact ⟨_, dw5, ok5⟩
      obtain ⟨_, _, _, wx, nx, px⟩ := okx
      obtain ⟨_, _, _, _, _, _, _, _, _, W10, t10⟩ := id vJ
      refine ⟨_, rfl, _, rfl, _, rfl, by show 2 ≤ sizeLine; decide, fun q2 hq2 => ?_⟩
      have gq2 := Go.new (T := T) (M := []) (o := .lst [V.ref f4, .ref f5]) hq2
      refine ⟨_, rfl, _, _, rfl, rfl, (show (0 : Int) < 2 by decide), q2, _, _, _, rfl, rfl, SqL.of upd_same, ex, a, l, 40000 * i + 20000 + 300 * j, vx, dx, 0, rfl, by omega, W10.go gq2, hdx.go gq2.of0, nx, by decide, by omega, by omega, gq2.tb t10, fun v7 d7 H12 hv7 nr7 W12 g12 t12 => ?_⟩
      obtain ⟨nn7, ww7, pp7⟩ := nr7
      refine ⟨_, rfl, _, rfl, _, rfl, _, rfl, a, l, 40000 * i + 20000 + 300 * j + 130, v7, d7, 0 * 1000000000 + 1000000000000000000000000000000, rfl, by omega, W12.up (by omega), hv7, nn7, by decide +kernel, by omega, by omega, t12, fun v8' d8 H13 hv8 nr8 W13 g13 t13 => ?_⟩
      obtain ⟨nn8, ww8, pp8⟩ := nr8
      refine ⟨by show 2 ≤ sizeLine; decide, fun o5 ho5 => ?_⟩
      have g14 := Go.new (T := T) (M := []) (o := .lst [v7, v8']) ho5
      have gA : Go T [a, l] H11 _ := ((gq2.of0.trans g12).trans g13).trans g14.of0
      refine VInv.cat (T := T) (j := 2) (vJ.go gA (W13.go g14)) upd_same (.cons ((hv7.go g13).go g14.of0) (.cons (hv8.go g14.of0) .nil)) (fun d hd => ?_) (by show 2 ≤ 2; decide) (by omega) fun r7 H15 v15 g15 => ?_
      · simp only [List.mem_cons, List.not_mem_nil, or_false] at hd
        rcases hd with rfl | rfl
        · exact ⟨nice_mono (by decide +kernel) nn7, by omega, by omega⟩
        · exact ⟨nice_mono (by decide +kernel) nn8, by omega, by omega⟩
      · exact ⟨_, _, _, rfl, v15.up (by omega) (by omega), (dw4.go gA).go g15.of0, (dw5.go gA).go g15.of0⟩
    · obtain ⟨z, p6, p7, rfl, vJ, _, _⟩ := h
      exact ⟨_, _, _, _, _, _, rfl, vJ.up (by show 8 + 22 * i + 6 + 2 * 8 ≤ _; omega) (by show (40000 * (i : Int) + 20000 + 300 * ((8 : Nat) : Int)) ≤ _; omega)⟩
  · obtain ⟨z, p3, p4, p5, p6, p7, rfl, vI⟩ := h
    obtain ⟨p, vs, ds, rfl, ep, np, dv, hg, lv, W, t⟩ := vI
    refine ⟨_, rfl, p, rfl, ⟨_, SqL.of ep⟩, fun D hD => ?_⟩
    refine lc_map (T := T) (fun _ => .bl true) (walk_list (xs := vs)) (fun H6 g6 => SqL.of (g6.lst ep (nn _))) t Go.refl hD (by rw [sizeLine_eq]; have : (3 : Int).toNat = 3 := rfl; omega) (fun i x H6 H7 R hi g6 t6 y hR => ?_) (fun H6 g6 t6 ed => ?_)
    · obtain ⟨rfl, ex⟩ := y
      obtain ⟨d, ed, hv⟩ := dv.get ex
      have gd := hg d (List.mem_of_getElem? ed)
      exact ⟨rfl, _, rfl, x, d, NB, rfl, (hv.go (g6.of0 : Go T [a, l] H5 _)).less (by simp), gd.1, by decide +kernel, gd.2.1, gd.2.2, t6, fun H8 g8 t8 => hR H8 g8⟩
    have em : (List.range vs.length).map (fun _ : Nat => V.bl true) = (List.replicate vs.length true).map V.bl := by
      rw [List.map_replicate, List.map_const', List.length_range]
    rw [em] at ed
    refine ⟨D, List.replicate vs.length true, rfl, SqL.of ed, ?_⟩
    have ea : (List.replicate vs.length true).all id = true := by simp
    rw [ea]
    exact q _
end
end K1
set_option Elab.async false
set_option linter.all false
set_option maxRecDepth 100000
set_option maxHeartbeats 2000000
namespace SL
open PySem PySem.Spec PyProof.Rows L2 GxR NdefX GA
/-- the top's name x is the def st -/
def IsDef (K : PySem.W.Frag) (x : Str) (st : Stmt) : Prop := ∃ (f : Addr) (fd : FuncData), PySem.W.nsIn K mainGlobals x = some (some (.ref f)) ∧ Fun K x x st f fd
/-- .. its code object at c -/
def IsDefC (K : PySem.W.Frag) (x : Str) (st : Stmt) : Prop := ∃ (f c : Addr) (fd : FuncData), PySem.W.nsIn K mainGlobals x = some (some (.ref f)) ∧ FunT K x x st f fd c
/-- .. and its table, not of the written part -/
def IsDefT (K : PySem.W.Frag) (x : Str) (st : Stmt) : Prop := ∃ (f c Q : Addr) (fd : FuncData), PySem.W.nsIn K mainGlobals x = some (some (.ref f)) ∧ FunT K x x st f fd c ∧ PySem.W.tabIn K x = some (c, Q) ∧ K.lookup Q = none
section
variable {K : PySem.W.Frag} {x : Str} {st : Stmt} {f c Q : Addr} {oc kV dc pm cdv ct : Value} {od an : Option Addr} {sl : Array (Option Value)}
theorem isDef (a : PySem.W.nsIn K mainGlobals x = some (some (.ref f))) (l : K.lookup f = some ⟨oc, od, .func (PySem.W.fnOf x x (defArgs st) (defBody st) (defScope st) .none kV dc pm an cdv ct), sl⟩) (h : PySem.W.codeIn K cdv x = true) (k : PySem.W.keepIn K (.ref f) = true) : IsDef K x st :=
  ⟨f, _, a, fun_mk l h k⟩
theorem isDefC (a : PySem.W.nsIn K mainGlobals x = some (some (.ref f))) (l : K.lookup f = some ⟨oc, od, .func (PySem.W.fnOf x x (defArgs st) (defBody st) (defScope st) .none kV dc pm an (.ref c) ct), sl⟩) (h : PySem.W.codeIn K (.ref c) x = true) (k : PySem.W.keepIn K (.ref f) = true) : IsDefC K x st :=
  ⟨f, c, _, a, ⟨oc, od, kV, dc, pm, an, ct, sl, rfl, l, h⟩, k⟩
theorem isDefT {cc : Value} {cd : Option Addr} {vs : Array Value} {csl : Array (Option Value)} (a : PySem.W.nsIn K mainGlobals x = some (some (.ref f))) (l : K.lookup f = some ⟨oc, od, .func (PySem.W.fnOf x x (defArgs st) (defBody st) (defScope st) .none kV dc pm an (.ref c) ct), sl⟩) (h : PySem.W.codeIn K (.ref c) x = true) (k : PySem.W.keepIn K (.ref f) = true)
    (m : K.lookup c = some ⟨cc, cd, .fields vs, csl⟩) (v : (vs[11]? : Option Value) = some (.ref Q)) (n : K.lookup Q = none) : IsDefT K x st := by
  refine ⟨f, c, Q, _, a, ⟨⟨oc, od, kV, dc, pm, an, ct, sl, rfl, l, h⟩, k⟩, ?_, n⟩
  unfold PySem.W.tabIn
  rw [a]
  simp only [l, PySem.W.fnOf, m, v]
theorem Fun.kwb {fd : FuncData} {ps : List Str} (F : Fun K x x st f fd)
    (h : ∀ (kV doc pm : Value) (an : Option Addr) (cdv ct : Value) (us : List Value), us.length = ps.length → bindArgs (PySem.W.fnOf x x (defArgs st) (defBody st) (defScope st) .none kV doc pm an cdv ct) ⟨[], ps.zip us⟩ = pure (ps.zip us)) (s : Shared) (us : List Value) (_ : K.In s.heap) (hl : us.length = ps.length) : BindsTo s fd ⟨[], ps.zip us⟩ (ps.zip us) := by
  obtain ⟨oc, od, kV, doc, pm, an, cdv, ct, osl, rfl, _, _⟩ := F.ex
  exact .of_eq (h kV doc pm an cdv ct us hl)
/-- whether an error of the class at S is taken by «except C» -/
theorem exmOf {S C : Addr} {b : Bool} (h1 : PySem.W.subIn K (.ref C) (.type "BaseException") = some true) (h2 : PySem.W.isClsIn K C = true) (h3 : PySem.W.typeIn K (.ref C) = some (.type "type")) (h4 : PySem.W.subIn K (.ref S) (.ref C) = some b) : PySem.W.exmOne K (.ref S) (.ref C) = some b := by
  have z : (PySem.W.clsIn K C).isSome = true := h2
  unfold PySem.W.exmOne PySem.W.kitCls
  simp [h1, h3, h4, z]
theorem hasInt {x : Str} {i : Int} {t : Tok} (h : PySem.W.nsIn K mainGlobals x = some (some (.int i t))) : ∃ t, PySem.W.nsIn K mainGlobals x = some (some (.int i t)) := ⟨t, h⟩

end
end SL
namespace K1
open PySem PySem.Spec PyProof.Rows L2 GxR NdefX GA SL
theorem isKept {K : PySem.W.Frag} {x : Str} {xs : List V} {a : Addr} {od : Option Addr} {its : Array Value} {n : Nat} {sl : Array (Option Value)} (h : PySem.W.nsIn K mainGlobals x = some (some (.ref a))) (l : K.lookup a = some ⟨.type "tuple", od, .seq its n, sl⟩) (z : its.size ≤ sizeLine) (v : Vals xs its.toList) :
    ∃ a, PySem.W.nsIn K mainGlobals x = some (some (.ref a)) ∧ Kt K a xs := ⟨a, h, _, its, n, l, rfl, rfl, z, v⟩
/-- what the top has written, as far as the proof asks it -/
structure Top0 (K : PySem.W.Frag) (CK CN CR CT : Addr) : Prop where
  blt : ∀ x ∈ (["isinstance", "len", "all", "any", "set", "range", "tuple", "list", "int", "str", "bool", "repr"] : List Str), PySem.W.nsIn K mainGlobals x = some none
  longest : ∃ t, PySem.W.nsIn K mainGlobals "LONGEST_NAME" = some (some (.int 10 t))
  kept : ∃ a, PySem.W.nsIn K mainGlobals "WORDS_KEPT" = some (some (.ref a)) ∧ Kt K a [.str "fun", .str "kind", .str "number"]
  kinds : ∃ t, PySem.W.nsIn K mainGlobals "MOST_KINDS" = some (some (.int 6 t))
  makers : ∃ t, PySem.W.nsIn K mainGlobals "MOST_MAKERS" = some (some (.int 6 t))
  fields : ∃ t, PySem.W.nsIn K mainGlobals "MOST_FIELDS" = some (some (.int 4 t))
  rows : ∃ t, PySem.W.nsIn K mainGlobals "MOST_ROWS" = some (some (.int 96 t))
  words : ∃ t, PySem.W.nsIn K mainGlobals "MOST_WORDS" = some (some (.int 400 t))
  gT : PySem.W.nsIn K mainGlobals "TreeError" = some (some (.ref CT))
  gK : PySem.W.nsIn K mainGlobals "BadKinds" = some (some (.ref CK))
  gN : PySem.W.nsIn K mainGlobals "BadKind" = some (some (.ref CN))
  gR : PySem.W.nsIn K mainGlobals "BadRows" = some (some (.ref CR))
  xK : PySem.W.excIn K CK [.type "ValueError", .type "Exception", .type "BaseException", .type "object"] "ValueError.__new__" = true
  kK : PySem.W.keepIn K (.ref CK) = true
  bK : PySem.W.subIn K (.ref CK) (.type "BaseException") = some true
  tK : PySem.W.typeIn K (.ref CK) = some (.type "type")
  xN : PySem.W.excIn K CN [.type "ValueError", .type "Exception", .type "BaseException", .type "object"] "ValueError.__new__" = true
  kN : PySem.W.keepIn K (.ref CN) = true
  bN : PySem.W.subIn K (.ref CN) (.type "BaseException") = some true
  tN : PySem.W.typeIn K (.ref CN) = some (.type "type")
  xR : PySem.W.excIn K CR [.type "ValueError", .type "Exception", .type "BaseException", .type "object"] "ValueError.__new__" = true
  kR : PySem.W.keepIn K (.ref CR) = true
  bR : PySem.W.subIn K (.ref CR) (.type "BaseException") = some true
  tR : PySem.W.typeIn K (.ref CR) = some (.type "type")
  iK : PySem.W.isClsIn K CK = true
  iT : PySem.W.isClsIn K CT = true
  tT : PySem.W.typeIn K (.ref CT) = some (.type "type")
  bT : PySem.W.subIn K (.ref CT) (.type "BaseException") = some true
  kk : PySem.W.subIn K (.ref CK) (.ref CK) = some true
  nk : PySem.W.subIn K (.ref CN) (.ref CK) = some false
  rk : PySem.W.subIn K (.ref CR) (.ref CK) = some false
  nt : PySem.W.subIn K (.ref CN) (.ref CT) = some true
  rt : PySem.W.subIn K (.ref CR) (.ref CT) = some true
  d_tp : IsDef K "is_tuple" s_is_tuple
  d_rn : IsDef K "is_run" s_is_run
  d_nm : IsDef K "is_name" s_is_name
  d_hi : IsDef K "is_high" s_is_high
  d_un : IsDef K "_are_unlike" s_are_unlike
  d_ma : IsDefT K "_is_maker_alone" s_is_maker_alone
  d_ka : IsDefT K "_is_kind_alone" s_is_kind_alone
  d_ks : IsDefT K "is_kinds" s_is_kinds
  d_dk : IsDef K "demand_kinds" s_demand_kinds
  d_dn : IsDef K "demand_kind" s_demand_kind
  d_it : IsDef K "is_tree" s_is_tree
  d_dt : IsDef K "demand_tree" s_demand_tree
  d_ah : IsDef K "ahead" s_ahead
  d_ir : IsDef K "is_rows" s_is_rows
  d_dr : IsDef K "demand_rows" s_demand_rows
  d_sz : IsDef K "sizes" s_sizes
  d_wo : IsDef K "words_of" s_words_of
  d_ro : IsDef K "rows_of" s_rows_of
  d_ld : IsDef K "_law_door" s_law_door
  d_li : IsDef K "_law_is" s_law_is
  d_ln : IsDef K "_law_is_name" s_law_is_name
  d_lk : IsDef K "_law_is_kinds" s_law_is_kinds
  d_lv : IsDefC K "_law_value_right" s_law_value_right
  d_lw : IsDef K "_law_well" s_law_well
  d_lr : IsDef K "_law_draw" s_law_draw
  d_la : IsDef K "_law_name" s_law_name
  d_lf : IsDef K "_law_kinds" s_law_kinds
  d_lx : IsDef K "_law_wide" s_law_wide
  d_lb : IsDef K "_law_bent" s_law_bent
  d_lo : IsDefC K "law" s_law
theorem all_mk {P : Program} {w : World} {K : PySem.W.Frag} {h : Heap} {mg : Str → Option Value} {fa CK CN CR CT : Addr} (X : K.In h) (G : h.Ns mainGlobals mg) (hfa : mg "law" = some (.ref fa)) (Z : Top0 K CK CN CR CT)
    (tb : ∀ x ∈ (["_is_maker_alone", "_is_kind_alone", "is_kinds"] : List Str), ∀ c Q : Addr, PySem.W.tabIn K x = some (c, Q) → PySem.W.CodeHd h c Q ∧ h.get? Q = some tblO) :
    ∃ (fd : FuncData) (cs : List (Addr × Addr)) (sp : Sp), (∀ p ∈ cs, h.get? p.2 = some tblO ∧ K.lookup p.2 = none ∧ PySem.W.CodeHd h p.1 p.2) ∧ (∀ (t : Shared) (v : Value), BindsTo t fd ⟨[v], []⟩ [("script", v)]) ∧
      (∀ (H : Hp) (a : Addr) (ns : List Int), ns.length ≤ 63 → (∀ p ∈ cs, H p.2 = some (.tbl #[])) → SqL K H a (ns.map V.int) → sp [.ref a] H (fun v _ => v = .bl true) E0) ∧
      ∀ base : Heap, K.In base → base.Ns mainGlobals mg → (∃ o, base.get? sysModules = some o) → (∀ p ∈ cs, GxR.TabB base mg p.1 p.2) → FnG P w K mg base 17 fa fd ["script"] sp := by
  obtain ⟨f_tp, g_tp, a_tp, F_tp⟩ := Z.d_tp
  obtain ⟨f_rn, g_rn, a_rn, F_rn⟩ := Z.d_rn
  obtain ⟨f_nm, g_nm, a_nm, F_nm⟩ := Z.d_nm
  obtain ⟨f_hi, g_hi, a_hi, F_hi⟩ := Z.d_hi
  obtain ⟨f_un, g_un, a_un, F_un⟩ := Z.d_un
  obtain ⟨f_ma, c_ma, q_ma, g_ma, a_ma, F_ma, i_ma, n_ma⟩ := Z.d_ma
  have h_ma := tb "_is_maker_alone" (by simp) _ _ i_ma
  obtain ⟨f_ka, c_ka, q_ka, g_ka, a_ka, F_ka, i_ka, n_ka⟩ := Z.d_ka
  have h_ka := tb "_is_kind_alone" (by simp) _ _ i_ka
  obtain ⟨f_ks, c_ks, q_ks, g_ks, a_ks, F_ks, i_ks, n_ks⟩ := Z.d_ks
  have h_ks := tb "is_kinds" (by simp) _ _ i_ks
  obtain ⟨f_dk, g_dk, a_dk, F_dk⟩ := Z.d_dk
  obtain ⟨f_dn, g_dn, a_dn, F_dn⟩ := Z.d_dn
  obtain ⟨f_it, g_it, a_it, F_it⟩ := Z.d_it
  obtain ⟨f_dt, g_dt, a_dt, F_dt⟩ := Z.d_dt
  obtain ⟨f_ah, g_ah, a_ah, F_ah⟩ := Z.d_ah
  obtain ⟨f_ir, g_ir, a_ir, F_ir⟩ := Z.d_ir
  obtain ⟨f_dr, g_dr, a_dr, F_dr⟩ := Z.d_dr
  obtain ⟨f_sz, g_sz, a_sz, F_sz⟩ := Z.d_sz
  obtain ⟨f_wo, g_wo, a_wo, F_wo⟩ := Z.d_wo
  obtain ⟨f_ro, g_ro, a_ro, F_ro⟩ := Z.d_ro
  obtain ⟨f_ld, g_ld, a_ld, F_ld⟩ := Z.d_ld
  obtain ⟨f_li, g_li, a_li, F_li⟩ := Z.d_li
  obtain ⟨f_ln, g_ln, a_ln, F_ln⟩ := Z.d_ln
  obtain ⟨f_lk, g_lk, a_lk, F_lk⟩ := Z.d_lk
  obtain ⟨f_lv, c_lv, g_lv, a_lv, F_lv⟩ := Z.d_lv
  obtain ⟨f_lw, g_lw, a_lw, F_lw⟩ := Z.d_lw
  obtain ⟨f_lr, g_lr, a_lr, F_lr⟩ := Z.d_lr
  obtain ⟨f_la, g_la, a_la, F_la⟩ := Z.d_la
  obtain ⟨f_lf, g_lf, a_lf, F_lf⟩ := Z.d_lf
  obtain ⟨f_lx, g_lx, a_lx, F_lx⟩ := Z.d_lx
  obtain ⟨f_lb, g_lb, a_lb, F_lb⟩ := Z.d_lb
  obtain ⟨f_lo, c_lo, g_lo, a_lo, F_lo⟩ := Z.d_lo
  have e := hfa.symm.trans (PySem.W.mg_of X G a_lo)
  cases e
  have no : ∀ x ∈ (["isinstance", "len", "all", "any", "set", "range", "tuple", "list", "int", "str", "bool", "repr"] : List Str), mg x = none := fun x hx => PySem.W.mg_none_of X G (Z.blt x hx)
  have B : Bl mg := ⟨no "isinstance" (by simp), no "len" (by simp), no "all" (by simp), no "any" (by simp), no "set" (by simp), no "range" (by simp), no "tuple" (by simp), no "list" (by simp), no "int" (by simp), no "str" (by simp), no "bool" (by simp), no "repr" (by simp)⟩
  have int1 : ∀ {x : Str} {i : Int}, (∃ t, PySem.W.nsIn K mainGlobals x = some (some (.int i t))) → ∃ t, mg x = some (.int i t) := fun ⟨t, ht⟩ => ⟨t, PySem.W.mg_of X G ht⟩
  have C : Cn K mg := ⟨int1 Z.longest, let ⟨a, h1, h2⟩ := Z.kept; ⟨a, PySem.W.mg_of X G h1, h2⟩, int1 Z.kinds, int1 Z.makers, int1 Z.fields, int1 Z.rows, int1 Z.words⟩
  have XK : Xc K mg "BadKinds" CK := ⟨PySem.W.mg_of X G Z.gK, Z.xK, Z.kK, Z.bK, Z.tK⟩
  have XN : Xc K mg "BadKind" CN := ⟨PySem.W.mg_of X G Z.gN, Z.xN, Z.kN, Z.bN, Z.tN⟩
  have XR : Xc K mg "BadRows" CR := ⟨PySem.W.mg_of X G Z.gR, Z.xR, Z.kR, Z.bR, Z.tR⟩
  have M : Xm K mg CK CN CR CT := ⟨PySem.W.mg_of X G Z.gT, exmOf Z.bK Z.iK Z.tK Z.kk, exmOf Z.bK Z.iK Z.tK Z.nk, exmOf Z.bK Z.iK Z.tK Z.rk, exmOf Z.bT Z.iT Z.tT Z.nt, exmOf Z.bT Z.iT Z.tT Z.rt⟩
  have b_tp : Binds K g_tp ["thing", "least", "most"] [] := (F_tp).binds fun _ _ _ _ _ _ us hl => match us, hl with | [_, _, _], _ => rfl
  have b_rn : Binds K g_rn ["text"] [] := (F_rn).binds fun _ _ _ _ _ _ us hl => match us, hl with | [_], _ => rfl
  have b_nm : Binds K g_nm ["thing"] [] := (F_nm).binds fun _ _ _ _ _ _ us hl => match us, hl with | [_], _ => rfl
  have b_hi : Binds K g_hi ["thing"] [] := (F_hi).binds fun _ _ _ _ _ _ us hl => match us, hl with | [_], _ => rfl
  have b_un : Binds K g_un ["names"] [] := (F_un).binds fun _ _ _ _ _ _ us hl => match us, hl with | [_], _ => rfl
  have b_ma : Binds K g_ma ["thing"] [] := (F_ma.fn).binds fun _ _ _ _ _ _ us hl => match us, hl with | [_], _ => rfl
  have b_ka : Binds K g_ka ["thing"] [] := (F_ka.fn).binds fun _ _ _ _ _ _ us hl => match us, hl with | [_], _ => rfl
  have b_ks : Binds K g_ks ["thing"] [] := (F_ks.fn).binds fun _ _ _ _ _ _ us hl => match us, hl with | [_], _ => rfl
  have b_dk : Binds K g_dk ["kinds"] [] := (F_dk).binds fun _ _ _ _ _ _ us hl => match us, hl with | [_], _ => rfl
  have b_dn : Binds K g_dn ["kinds", "kind"] [] := (F_dn).binds fun _ _ _ _ _ _ us hl => match us, hl with | [_, _], _ => rfl
  have b_it : Binds K g_it ["kinds", "kind", "thing"] [] := (F_it).binds fun _ _ _ _ _ _ us hl => match us, hl with | [_, _, _], _ => rfl
  have b_dt : Binds K g_dt ["kinds", "kind", "words"] [] := (F_dt).binds fun _ _ _ _ _ _ us hl => match us, hl with | [_, _, _], _ => rfl
  have b_ah : Binds K g_ah ["kinds", "kind", "one", "other"] [] := (F_ah).binds fun _ _ _ _ _ _ us hl => match us, hl with | [_, _, _, _], _ => rfl
  have b_ir : Binds K g_ir ["kinds", "thing"] [] := (F_ir).binds fun _ _ _ _ _ _ us hl => match us, hl with | [_, _], _ => rfl
  have b_dr : Binds K g_dr ["kinds", "rows"] [] := (F_dr).binds fun _ _ _ _ _ _ us hl => match us, hl with | [_, _], _ => rfl
  have b_sz : Binds K g_sz ["kinds", "rows"] [] := (F_sz).binds fun _ _ _ _ _ _ us hl => match us, hl with | [_, _], _ => rfl
  have b_wo : Binds K g_wo ["kinds", "rows"] [] := (F_wo).binds fun _ _ _ _ _ _ us hl => match us, hl with | [_, _], _ => rfl
  have b_ro : Binds K g_ro ["kinds", "kind", "words"] [] := (F_ro).binds fun _ _ _ _ _ _ us hl => match us, hl with | [_, _, _], _ => rfl
  have b_ld : Binds K g_ld ["door", "value"] [] := (F_ld).binds fun _ _ _ _ _ _ us hl => match us, hl with | [_, _], _ => rfl
  have b_li : Binds K g_li ["found", "due"] [] := (F_li).binds fun _ _ _ _ _ _ us hl => match us, hl with | [_, _], _ => rfl
  have b_ln : Binds K g_ln ["value", "high"] [] := (F_ln).binds fun _ _ _ _ _ _ us hl => match us, hl with | [_, _], _ => rfl
  have b_lk : Binds K g_lk ["value"] [] := (F_lk).binds fun _ _ _ _ _ _ us hl => match us, hl with | [_], _ => rfl
  have b_lv : Binds K g_lv ["value"] [] := (F_lv.fn).binds fun _ _ _ _ _ _ us hl => match us, hl with | [_], _ => rfl
  have b_lw : Binds K g_lw ["script"] [] := (F_lw).binds fun _ _ _ _ _ _ us hl => match us, hl with | [_], _ => rfl
  have b_lr : Binds K g_lr ["well", "many"] [] := (F_lr).binds fun _ _ _ _ _ _ us hl => match us, hl with | [_, _], _ => rfl
  have b_la : Binds K g_la ["well", "taken", "high"] [] := (F_la).binds fun _ _ _ _ _ _ us hl => match us, hl with | [_, _, _], _ => rfl
  have b_lf : Binds K g_lf ["well", "most"] [] := (F_lf).binds fun _ _ _ _ _ _ us hl => match us, hl with | [_, _], _ => rfl
  have b_lx : Binds K g_lx ["well"] [] := (F_lx).binds fun _ _ _ _ _ _ us hl => match us, hl with | [_], _ => rfl
  have b_lb : Binds K g_lb ["well", "value"] [] := (F_lb).binds fun _ _ _ _ _ _ us hl => match us, hl with | [_, _], _ => rfl
  have b_lo : Binds K g_lo ["script"] [] := (F_lo.fn).binds fun _ _ _ _ _ _ us hl => match us, hl with | [_], _ => rfl
  refine ⟨g_lo, [(c_ma, q_ma), (c_ka, q_ka), (c_ks, q_ks)], sp_law K [q_ma, q_ka, q_ks], fun p hp => ?_, fun t v => ?_, fun H a ns hl ht hS => ?_, fun base _ _ hS0 TB => ?_⟩
  · simp only [List.mem_cons, List.not_mem_nil, or_false] at hp
    rcases hp with rfl | rfl | rfl
    · exact ⟨h_ma.2, n_ma, h_ma.1⟩
    · exact ⟨h_ka.2, n_ka, h_ka.1⟩
    · exact ⟨h_ks.2, n_ks, h_ks.1⟩
  · obtain ⟨_, _, _, _, _, _, _, _, rfl, _, _⟩ := F_lo.ex
    exact .of_eq rfl
  · refine ⟨a, ns, rfl, hS, hl, fun Q hQ => ?_, fun _ => rfl⟩
    have e : H Q = some (.tbl #[]) := by
      simp only [List.mem_cons, List.not_mem_nil, or_false] at hQ
      rcases hQ with rfl | rfl | rfl
      · exact ht (c_ma, _) (by simp)
      · exact ht (c_ka, _) (by simp)
      · exact ht (c_ks, _) (by simp)
    exact ⟨#[], e, True.intro⟩
  have tma : GxR.TabB base mg c_ma q_ma := TB (c_ma, q_ma) (by simp)
  have tka : GxR.TabB base mg c_ka q_ka := TB (c_ka, q_ka) (by simp)
  have tks : GxR.TabB base mg c_ks q_ks := TB (c_ks, q_ks) (by simp)
  have N_tp : Fnn P w K mg base CX0 1 "is_tuple" ["thing", "least", "most"] sp_is_tuple := ⟨f_tp, g_tp, ok_is_tuple F_tp B, PySem.W.mg_of X G a_tp, F_tp.kp, b_tp⟩
  have N_rn : Fnn P w K mg base CX0 1 "is_run" ["text"] sp_is_run := ⟨f_rn, g_rn, ok_is_run F_rn, PySem.W.mg_of X G a_rn, F_rn.kp, b_rn⟩
  have N_nm : Fnn P w K mg base CX0 2 "is_name" ["thing"] sp_is_name := ⟨f_nm, g_nm, ok_is_name F_nm B C N_rn, PySem.W.mg_of X G a_nm, F_nm.kp, b_nm⟩
  have N_hi : Fnn P w K mg base CX0 3 "is_high" ["thing"] sp_is_high := ⟨f_hi, g_hi, ok_is_high F_hi N_nm, PySem.W.mg_of X G a_hi, F_hi.kp, b_hi⟩
  have N_un : Fnn P w K mg base CX0 1 "_are_unlike" ["names"] (sp_are_unlike K) := ⟨f_un, g_un, ok_are_unlike F_un B, PySem.W.mg_of X G a_un, F_un.kp, b_un⟩
  have N_ma : Fnn P w K mg base CX0 5 "_is_maker_alone" ["thing"] (sp_look [q_ma, q_ka, q_ks] makerB) := ⟨f_ma, g_ma, ok_maker_alone F_ma B C tma (by simp) N_tp N_hi, PySem.W.mg_of X G a_ma, F_ma.kp, b_ma⟩
  have N_ka : Fnn P w K mg base CX0 7 "_is_kind_alone" ["thing"] (sp_look [q_ma, q_ka, q_ks] kindB) := ⟨f_ka, g_ka, ok_kind_alone F_ka B C tka (by simp) N_tp N_hi N_ma, PySem.W.mg_of X G a_ka, F_ka.kp, b_ka⟩
  have N_ks : Fnn P w K mg base CX0 9 "is_kinds" ["thing"] (sp_look [q_ma, q_ka, q_ks] kindsB) := ⟨f_ks, g_ks, ok_is_kinds F_ks B C tks (by simp) N_tp N_un N_ka, PySem.W.mg_of X G a_ks, F_ks.kp, b_ks⟩
  have N_dk : Fnn P w K mg base (L2.CX P w) 10 "demand_kinds" ["kinds"] (sp_kinds [q_ma, q_ka, q_ks] CK) := ⟨f_dk, g_dk, ok_demand_kinds F_dk XK N_ks, PySem.W.mg_of X G a_dk, F_dk.kp, b_dk⟩
  have N_dn : Fnn P w K mg base (L2.CX P w) 11 "demand_kind" ["kinds", "kind"] (sp_kind [q_ma, q_ka, q_ks] CK CN 0) := ⟨f_dn, g_dn, ok_demand_kind F_dn B XN N_dk, PySem.W.mg_of X G a_dn, F_dn.kp, b_dn⟩
  have N_it : Fnn P w K mg base (L2.CX P w) 12 "is_tree" ["kinds", "kind", "thing"] (sp_kind [q_ma, q_ka, q_ks] CK CN 1) := ⟨f_it, g_it, ok_is_tree F_it N_dn, PySem.W.mg_of X G a_it, F_it.kp, b_it⟩
  have N_dt : Fnn P w K mg base (L2.CX P w) 13 "demand_tree" ["kinds", "kind", "words"] (sp_kind [q_ma, q_ka, q_ks] CK CN 1) := ⟨f_dt, g_dt, ok_demand_tree F_dt N_it, PySem.W.mg_of X G a_dt, F_dt.kp, b_dt⟩
  have N_ah : Fnn P w K mg base (L2.CX P w) 14 "ahead" ["kinds", "kind", "one", "other"] (sp_kind [q_ma, q_ka, q_ks] CK CN 2) := ⟨f_ah, g_ah, ok_ahead F_ah N_dt, PySem.W.mg_of X G a_ah, F_ah.kp, b_ah⟩
  have N_ir : Fnn P w K mg base (L2.CX P w) 11 "is_rows" ["kinds", "thing"] (sp_rows [q_ma, q_ka, q_ks] CK fun Q _ H' => Q (.bl false) H') := ⟨f_ir, g_ir, ok_is_rows F_ir C N_tp N_dk, PySem.W.mg_of X G a_ir, F_ir.kp, b_ir⟩
  have N_dr : Fnn P w K mg base (L2.CX P w) 12 "demand_rows" ["kinds", "rows"] (sp_rows [q_ma, q_ka, q_ks] CK fun _ E H' => E (.ref CR) none H') := ⟨f_dr, g_dr, ok_demand_rows F_dr XR N_ir, PySem.W.mg_of X G a_dr, F_dr.kp, b_dr⟩
  have N_sz : Fnn P w K mg base (L2.CX P w) 13 "sizes" ["kinds", "rows"] (sp_rows [q_ma, q_ka, q_ks] CK fun _ E H' => E (.ref CR) none H') := ⟨f_sz, g_sz, ok_sizes F_sz N_dr, PySem.W.mg_of X G a_sz, F_sz.kp, b_sz⟩
  have N_wo : Fnn P w K mg base (L2.CX P w) 13 "words_of" ["kinds", "rows"] (sp_rows [q_ma, q_ka, q_ks] CK fun _ E H' => E (.ref CR) none H') := ⟨f_wo, g_wo, ok_words_of F_wo N_dr, PySem.W.mg_of X G a_wo, F_wo.kp, b_wo⟩
  have N_ro : Fnn P w K mg base (L2.CX P w) 14 "rows_of" ["kinds", "kind", "words"] (sp_kind [q_ma, q_ka, q_ks] CK CN 1) := ⟨f_ro, g_ro, ok_rows_of F_ro N_dt, PySem.W.mg_of X G a_ro, F_ro.kp, b_ro⟩
  have W_ks : Fnw P w K mg base CX0 9 "is_kinds" ["thing"] (sp_look [q_ma, q_ka, q_ks] kindsB) := ⟨f_ks, g_ks, ok_is_kinds F_ks B C tks (by simp) N_tp N_un N_ka, PySem.W.mg_of X G a_ks, F_ks.kp, Fun.kwb (F_ks.fn) fun _ _ _ _ _ _ us hl => match us, hl with | [_], _ => rfl⟩
  have W_it : Fnw P w K mg base (L2.CX P w) 12 "is_tree" ["kinds", "kind", "thing"] (sp_kind [q_ma, q_ka, q_ks] CK CN 1) := ⟨f_it, g_it, ok_is_tree F_it N_dn, PySem.W.mg_of X G a_it, F_it.kp, Fun.kwb (F_it) fun _ _ _ _ _ _ us hl => match us, hl with | [_, _, _], _ => rfl⟩
  have W_wo : Fnw P w K mg base (L2.CX P w) 13 "words_of" ["kinds", "rows"] (sp_rows [q_ma, q_ka, q_ks] CK fun _ E H' => E (.ref CR) none H') := ⟨f_wo, g_wo, ok_words_of F_wo N_dr, PySem.W.mg_of X G a_wo, F_wo.kp, Fun.kwb (F_wo) fun _ _ _ _ _ _ us hl => match us, hl with | [_, _], _ => rfl⟩
  have N_ld : Fnn P w K mg base CX0 15 "_law_door" ["door", "value"] (sp_door [q_ma, q_ka, q_ks]) := ⟨f_ld, g_ld, ok_law_door F_ld XK M W_it N_ir N_sz W_wo N_ah N_ro, PySem.W.mg_of X G a_ld, F_ld.kp, b_ld⟩
  have N_li : Fnn P w K mg base CX0 1 "_law_is" ["found", "due"] sp_law_is := ⟨f_li, g_li, ok_law_is F_li B, PySem.W.mg_of X G a_li, F_li.kp, b_li⟩
  have N_ln : Fnn P w K mg base CX0 1 "_law_is_name" ["value", "high"] (sp_law_is_name [q_ma, q_ka, q_ks]) := ⟨f_ln, g_ln, ok_law_is_name F_ln B, PySem.W.mg_of X G a_ln, F_ln.kp, b_ln⟩
  have N_lk : Fnn P w K mg base CX0 2 "_law_is_kinds" ["value"] (sp_look [q_ma, q_ka, q_ks] kindsB) := ⟨f_lk, g_lk, ok_law_is_kinds F_lk B N_ln, PySem.W.mg_of X G a_lk, F_lk.kp, b_lk⟩
  have V_lv : Fng P w K mg base 16 "_law_value_right" ["value"] (sp_value [q_ma, q_ka, q_ks]) := ⟨f_lv, g_lv, ok_law_value_right F_lv B hS0 N_lk N_ks W_ks N_li N_ld, PySem.W.mg_of X G a_lv, F_lv.kp, b_lv⟩
  have N_lw : Fnn P w K mg base CX0 1 "_law_well" ["script"] (sp_well K [q_ma, q_ka, q_ks]) := ⟨f_lw, g_lw, ok_law_well F_lw B, PySem.W.mg_of X G a_lw, F_lw.kp, b_lw⟩
  have N_lr : Fnn P w K mg base CX0 1 "_law_draw" ["well", "many"] (sp_draw [q_ma, q_ka, q_ks]) := ⟨f_lr, g_lr, ok_law_draw F_lr B, PySem.W.mg_of X G a_lr, F_lr.kp, b_lr⟩
  have N_la : Fnn P w K mg base CX0 2 "_law_name" ["well", "taken", "high"] (sp_name [q_ma, q_ka, q_ks]) := ⟨f_la, g_la, ok_law_name F_la B N_lr, PySem.W.mg_of X G a_la, F_la.kp, b_la⟩
  have N_lf : Fnn P w K mg base CX0 3 "_law_kinds" ["well", "most"] (sp_kindsL [q_ma, q_ka, q_ks]) := ⟨f_lf, g_lf, ok_law_kinds F_lf B N_lr N_la, PySem.W.mg_of X G a_lf, F_lf.kp, b_lf⟩
  have N_lx : Fnn P w K mg base CX0 3 "_law_wide" ["well"] (sp_wide [q_ma, q_ka, q_ks]) := ⟨f_lx, g_lx, ok_law_wide F_lx B N_lr N_la, PySem.W.mg_of X G a_lx, F_lx.kp, b_lx⟩
  have N_lb : Fnn P w K mg base CX0 15 "_law_bent" ["well", "value"] (sp_bent [q_ma, q_ka, q_ks] 12) := ⟨f_lb, g_lb, ok_law_bent F_lb (PySem.W.mg_of X G a_lb) b_lb B N_lr 12, PySem.W.mg_of X G a_lb, F_lb.kp, b_lb⟩
  exact ok_law F_lo B N_lw N_lf N_lx N_lb V_lv
end K1
set_option Elab.async false
open PySem PySem.W PyProof.Rows
set_option maxRecDepth 100000 in
set_option maxHeartbeats 0 in
theorem PySem.Challenge.cw_sameontrees_k01_kinds_judged_holds : PySem.Challenge.rw_sameontrees_k01_kinds_judged.Holds := by
  w_on; o_law; k_head; (case hw => w_witness2)
  k_fill
  refine SL.walkG (l := PySem.Challenge.rw_sameontrees_k01_kinds_judged) (n := 63) (k := 17) (x := "script") rfl (by decide) rfl (by first | rfl | decide +kernel | kernel_rfl) ⟨rfl, by decide, by decide⟩ (fun w h Y => km_in_of Y) ?F
  case F =>
    intro w mg fa h KX G hmg tb
    refine' K1.all_mk KX G hmg ?Z (fun x hx c Q hc => ?tab)
    case tab =>
      simp only [List.mem_cons, List.not_mem_nil, or_false] at hx
      rcases hx with rfl | rfl | rfl
      · exact tb _ _ _ _ rfl hc
      · exact tb _ _ _ _ rfl hc
      · exact tb _ _ _ _ rfl hc
    case Z =>
      refine' ⟨?blt, SL.hasInt ?longest, K1.isKept ?kepta ?keptl ?kepts ?keptv, SL.hasInt ?kinds, SL.hasInt ?makers, SL.hasInt ?fields, SL.hasInt ?rows, SL.hasInt ?words, ?gT, ?gK, ?gN, ?gR,
        ?xK, ?kK, ?bK, ?tK, ?xN, ?kN, ?bN, ?tN, ?xR, ?kR, ?bR, ?tR, ?iK, ?iT, ?tT, ?bT, ?kk, ?nk, ?rk, ?nt, ?rt, ?d_tp, ?d_rn, ?d_nm, ?d_hi, ?d_un, ?d_ma, ?d_ka, ?d_ks, ?d_dk, ?d_dn, ?d_it, ?d_dt, ?d_ah, ?d_ir, ?d_dr, ?d_sz, ?d_wo, ?d_ro, ?d_ld, ?d_li, ?d_ln, ?d_lk, ?d_lv, ?d_lw, ?d_lr, ?d_la, ?d_lf, ?d_lx, ?d_lb, ?d_lo⟩
      (case gT => k_is); (case gK => k_is); (case gN => k_is); (case gR => k_is)
      (case blt => intro x hx; simp only [List.mem_cons, List.not_mem_nil, or_false] at hx; (rcases hx with rfl | rfl | rfl | rfl | rfl | rfl | rfl | rfl | rfl | rfl | rfl | rfl <;> k_is))
      (case longest => k_is)
      (case kepta => k_is)
      (case keptl => k_is)
      (case kepts => first | (show _ ≤ sizeLine; decide) | decide +kernel)
      (case keptv => first | exact .cons ⟨_, rfl⟩ (.cons ⟨_, rfl⟩ (.cons ⟨_, rfl⟩ .nil)))
      (case kinds => k_is)
      (case makers => k_is)
      (case fields => k_is)
      (case rows => k_is)
      (case words => k_is)
      (case xK => first | k_exc)
      (case kK => k_is)
      (case bK => k_is)
      (case tK => k_is)
      (case xN => first | k_exc)
      (case kN => k_is)
      (case bN => k_is)
      (case tN => k_is)
      (case xR => first | k_exc)
      (case kR => k_is)
      (case bR => k_is)
      (case tR => k_is)
      (case iK => k_is)
      (case iT => k_is)
      (case tT => k_is)
      (case bT => k_is)
      (case kk => first | rfl | k_is)
      (case nk => first | rfl | k_is)
      (case rk => first | rfl | k_is)
      (case nt => first | rfl | k_is)
      (case rt => first | rfl | k_is)
      case d_tp =>
        refine' SL.isDef ?a ?l ?h ?k
        (case a => k_is)
        (case l => k_is)
        (case h => k_is)
        (case k => k_is)
      case d_rn =>
        refine' SL.isDef ?a ?l ?h ?k
        (case a => k_is)
        (case l => k_is)
        (case h => k_is)
        (case k => k_is)
      case d_nm =>
        refine' SL.isDef ?a ?l ?h ?k
        (case a => k_is)
        (case l => k_is)
        (case h => k_is)
        (case k => k_is)
      case d_hi =>
        refine' SL.isDef ?a ?l ?h ?k
        (case a => k_is)
        (case l => k_is)
        (case h => k_is)
        (case k => k_is)
      case d_un =>
        refine' SL.isDef ?a ?l ?h ?k
        (case a => k_is)
        (case l => k_is)
        (case h => k_is)
        (case k => k_is)
      case d_ma =>
        refine' SL.isDefT ?a ?l ?h ?k ?m ?v ?n
        (case a => k_is)
        (case l => k_is)
        (case h => k_is)
        (case k => k_is)
        (case m => k_is)
        (case v => first | rfl)
        (case n => first | kernel_rfl)
      case d_ka =>
        refine' SL.isDefT ?a ?l ?h ?k ?m ?v ?n
        (case a => k_is)
        (case l => k_is)
        (case h => k_is)
        (case k => k_is)
        (case m => k_is)
        (case v => first | rfl)
        (case n => first | kernel_rfl)
      case d_ks =>
        refine' SL.isDefT ?a ?l ?h ?k ?m ?v ?n
        (case a => k_is)
        (case l => k_is)
        (case h => k_is)
        (case k => k_is)
        (case m => k_is)
        (case v => first | rfl)
        (case n => first | kernel_rfl)
      case d_dk =>
        refine' SL.isDef ?a ?l ?h ?k
        (case a => k_is)
        (case l => k_is)
        (case h => k_is)
        (case k => k_is)
      case d_dn =>
        refine' SL.isDef ?a ?l ?h ?k
        (case a => k_is)
        (case l => k_is)
        (case h => k_is)
        (case k => k_is)
      case d_it =>
        refine' SL.isDef ?a ?l ?h ?k
        (case a => k_is)
        (case l => k_is)
        (case h => k_is)
        (case k => k_is)
      case d_dt =>
        refine' SL.isDef ?a ?l ?h ?k
        (case a => k_is)
        (case l => k_is)
        (case h => k_is)
        (case k => k_is)
      case d_ah =>
        refine' SL.isDef ?a ?l ?h ?k
        (case a => k_is)
        (case l => k_is)
        (case h => k_is)
        (case k => k_is)
      case d_ir =>
        refine' SL.isDef ?a ?l ?h ?k
        (case a => k_is)
        (case l => k_is)
        (case h => k_is)
        (case k => k_is)
      case d_dr =>
        refine' SL.isDef ?a ?l ?h ?k
        (case a => k_is)
        (case l => k_is)
        (case h => k_is)
        (case k => k_is)
      case d_sz =>
        refine' SL.isDef ?a ?l ?h ?k
        (case a => k_is)
        (case l => k_is)
        (case h => k_is)
        (case k => k_is)
      case d_wo =>
        refine' SL.isDef ?a ?l ?h ?k
        (case a => k_is)
        (case l => k_is)
        (case h => k_is)
        (case k => k_is)
      case d_ro =>
        refine' SL.isDef ?a ?l ?h ?k
        (case a => k_is)
        (case l => k_is)
        (case h => k_is)
        (case k => k_is)
      case d_ld =>
        refine' SL.isDef ?a ?l ?h ?k
        (case a => k_is)
        (case l => k_is)
        (case h => k_is)
        (case k => k_is)
      case d_li =>
        refine' SL.isDef ?a ?l ?h ?k
        (case a => k_is)
        (case l => k_is)
        (case h => k_is)
        (case k => k_is)
      case d_ln =>
        refine' SL.isDef ?a ?l ?h ?k
        (case a => k_is)
        (case l => k_is)
        (case h => k_is)
        (case k => k_is)
      case d_lk =>
        refine' SL.isDef ?a ?l ?h ?k
        (case a => k_is)
        (case l => k_is)
        (case h => k_is)
        (case k => k_is)
      case d_lv =>
        refine' SL.isDefC ?a ?l ?h ?k
        (case a => k_is)
        (case l => k_is)
        (case h => k_is)
        (case k => k_is)
      case d_lw =>
        refine' SL.isDef ?a ?l ?h ?k
        (case a => k_is)
        (case l => k_is)
        (case h => k_is)
        (case k => k_is)
      case d_lr =>
        refine' SL.isDef ?a ?l ?h ?k
        (case a => k_is)
        (case l => k_is)
        (case h => k_is)
        (case k => k_is)
      case d_la =>
        refine' SL.isDef ?a ?l ?h ?k
        (case a => k_is)
        (case l => k_is)
        (case h => k_is)
        (case k => k_is)
      case d_lf =>
        refine' SL.isDef ?a ?l ?h ?k
        (case a => k_is)
        (case l => k_is)
        (case h => k_is)
        (case k => k_is)
      case d_lx =>
        refine' SL.isDef ?a ?l ?h ?k
        (case a => k_is)
        (case l => k_is)
        (case h => k_is)
        (case k => k_is)
      case d_lb =>
        refine' SL.isDef ?a ?l ?h ?k
        (case a => k_is)
        (case l => k_is)
        (case h => k_is)
        (case k => k_is)
      case d_lo =>
        refine' SL.isDefC ?a ?l ?h ?k
        (case a => k_is)
        (case l => k_is)
        (case h => k_is)
        (case k => k_is)
