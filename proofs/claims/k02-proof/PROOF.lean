import PyProof.Rows.All
import Wide.All
import OpenK.AllK
import Wide.FinOn
import HandS.ForExc
import HandS.ForMost
import HandS.AnyAll
import HandS.Nested
import HandS.GenOver
import HandS.IsInst
import HandS.TupAny
import HandS.TupMul
import HandS.Strs
import HandS.Sort
import HandS.StrMore
import HandS.Lambda
import HandS.Walk
import HandS.ExcOwn
import HandS.TryMany
import HandS.Iter
import HandS.Steps
import PyProof.ReprRoads
import PyProof.ReprLen
import PyProof.StrLawsRepr
import PyProof.NeKinds
import PyProof.Rows.StrFin3
import PyProof.Rows.StrClose
import PyProof.Rows.StrGather
import HandS.Text
import PyProof.Rows.IntBool
import PyProof.Rows.RuleB_bool
import PyProof.CallStr
import PyProof.PureInt
import PyProof.FactsAll.bool_2
import HandS.HeadWalk
import KE.KNestM
import KE.GoesMore
import PyProof.EnumMake
import HandS.DictComp
import HandS.More
import HandS.Dict
import PyProof.AutoSeq1
import HandS.Zip
import KE.DataCmp
import KE.DatumOrd
import HandS.Style
import HandS.Flow
import HandS.Conv
import HandS.Rev
import HandS.Wide
import HandS.TupLen
import KE.SortKeyHeap
import KE.KDictSum
import HandS.Keys
import HandS.List
import PyProof.Rows.ReprOcc
import PyProof.Rows.RegStrFacts
import HandS.Codes
import PySem.Challenge.RW_sameontrees_k02_trees_judged
set_option Elab.async false
set_option linter.all false
set_option maxRecDepth 100000
set_option maxHeartbeats 2000000
/-! own rules, 1: a generator expression that all or any consumes, whatever its element does -/
namespace GA
open PySem PySem.Spec PyProof.Rows L2 GxR NdefX

/-- the frame of a generator expression as a context; fp: the walked iterator's records; s, H: where its frame was made -/
@[reducible] def gcx (X : Cx) (N : List Str) (scope : Scope) (cl : List (Str × Addr)) (code : Value) (C : Addr) (A : Around) (fp : List Addr) (s : Shared) (H : Hp) (pn : List (Addr × Obj)) : Cx :=
  { X with A := A, N := N, s_0 := s, H_0 := H, env := genEnv scope cl C code builtinsNs X.env, outer := X.stack, stack := genEnv scope cl C code builtinsNs X.env :: X.stack,
           ex := fp, calm := true, fn := fun _ => false, pn := pn, xe := fun _ _ => False }

/-- a generator expression's scope: the captured names first, then its own -/
structure GSc (N fr : List Str) (sc : Scope) : Prop where
  kind : sc.kind = .function
  co : sc.isCoroutine = false
  nd : N.Nodup
  pre : N.take fr.length = fr
  dot : sc.names.lookup (".0" : Str) = some NameKind.local
  nocell : ∀ y ∈ sc.names, y.2 ≠ .cell
  free : ∀ y ∈ sc.names, y.2 = .free → y.1 ∈ fr
  frk : ∀ x ∈ fr, sc.names.lookup x = some .free
  frm : ∀ y ∈ fr, (y, NameKind.free) ∈ sc.names
def gscB (N fr : List Str) (sc : Scope) : Bool :=
  decide (sc.kind = .function) && !sc.isCoroutine && decide N.Nodup && decide (N.take fr.length = fr) && decide (sc.names.lookup (".0" : Str) = some NameKind.local) && sc.names.all (fun y => !decide (y.2 = .cell)) &&
    sc.names.all (fun y => !decide (y.2 = .free) || decide (y.1 ∈ fr)) && fr.all (fun x => decide (sc.names.lookup x = some .free)) && fr.all fun y => decide ((y, NameKind.free) ∈ sc.names)
theorem gsc_by {N fr : List Str} {sc : Scope} (h : gscB N fr sc = true) : GSc N fr sc := by
  unfold gscB at h
  simp only [Bool.and_eq_true, Bool.not_eq_true', decide_eq_true_eq, List.all_eq_true, Bool.or_eq_true, decide_eq_false_iff_not] at h
  obtain ⟨⟨⟨⟨⟨⟨⟨⟨h1, h2⟩, h3⟩, h4⟩, h5⟩, h6⟩, h7⟩, h8⟩, h9⟩ := h
  exact ⟨h1, h2, h3, h4, h5, h6, fun y hy e => (h7 y hy).elim (fun z => absurd e z) id, h8, h9⟩

section
variable {X : Cx} {pins : List (Addr × Obj)} {σ : L2.St} {H H' : Hp} {s s' : Shared}

theorem not_stk (I : Inv X pins σ H s) {b : Addr} (h1 : b ≠ X.env.locals) (h2 : b ∉ X.fs) : b ∉ frs X.stack := fun z =>
  (List.mem_cons.mp (I.stkSub b z)).elim h1 h2

theorem inv_gcx {N fr : List Str} {scope : Scope} {cl : List (Str × Addr)} {js : List Nat} {code : Value} {C : Addr} {A : Around} {fp : List Addr} {pn : List (Addr × Obj)} {m : Str → Option Value}
    (I : Inv X pins σ H s) (S : GSc N fr scope) (cp : Caps X cl fr js) (hA : A.handled = none) (hfr : A.frames = some (genEnv scope cl C code builtinsNs X.env :: X.stack))
    (hfp : ∀ b ∈ fp, FpOk X pins H b) (hfl : ∀ b ∈ fp, b < s.heap.objs.size) (hC : s.heap.objs.size ≤ C) (hns : s'.heap.Ns C m) (hos : s'.os = s.os) (hb : AllBare s'.gens) (un : Un (frs X.stack) fp H H' s.heap s'.heap)
    (hok : HOk X.prog X.w H' s'.heap) (hfC : H' C = none)
    (hpn : ∀ p ∈ pn, s'.heap.get? p.1 = some p.2 ∧ H' p.1 = none ∧ p.1 ≠ C ∧ p.1 ∉ frs X.stack ∧ ∀ v, p.2.data ≠ .cell v) :
    Inv (gcx X N scope cl code C A fp s H pn) [] (startF N [] (js.map (slotAt σ))) H' s' := by
  have CA := cells_of I cp
  have ltc : ∀ y c, cl.lookup y = some c → c < s.heap.objs.size := fun y c e => by
    obtain ⟨_, v, o, ho, _⟩ := CA.all y c e
    exact Heap.lt_size ho
  have cfp : ∀ y c, cl.lookup y = some c → c ∉ fp := fun y c e z => (hfp c z).2.2.2.2.1 y c (cp.sub y c e) rfl
  have cellK : ∀ y c, cl.lookup y = some c → ∀ v, s.heap.IsCell c v → s'.heap.IsCell c v := fun y c e v ⟨o, ho, hd⟩ => by
    obtain ⟨sl, q⟩ := un.any ho (CA.all y c e).1 (cfp y c e)
    exact ⟨_, q, hd⟩
  have hgk : ∀ y, (gcx X N scope cl code C A fp s H pn).env.kindOf y = scope.names.lookup y := fun y => rfl
  refine ⟨⟨I.ok.mod, S.kind, I.ok.glob, rfl, hC, CA.inj, fun y hy => ?_, fun y c z _ => ?_, fun _ => hA, hfr, .inr ⟨rfl, rfl⟩, fun b hb => ⟨fun z => ?_, fun y c e z => ?_⟩, I.bs, Nat.le_trans I.ok.bsz I.sz, fun b o e hb => ?_, fun b hb => ?_, I.stack, I.stkFree⟩,
    hos, hb, un, ⟨m, hns, fun i y v e1 e2 e3 => ?_⟩, fun y c e => ?_, hfC, fun y c e => ?_, fun p hp => ?_, hok, ?_⟩
  · rw [hgk] at hy
    rcases hy with hy | hy
    · exact absurd rfl (S.nocell _ (PySem.mem_of_lookup hy))
    · obtain ⟨i, hi⟩ := List.mem_iff_getElem?.mp (S.free _ (PySem.mem_of_lookup hy) rfl)
      obtain ⟨c, hc, _⟩ := CA.has i y hi
      exact ⟨c, hc⟩
  · exact absurd z Bool.false_ne_true
  · have h1 := hfl b hb
    have z' : b = C := z
    rw [z'] at h1
    exact absurd (Nat.lt_of_lt_of_le h1 hC) (Nat.lt_irrefl _)
  · have h2 := ltc y c e
    exact cfp y c e (by rw [show c = b from z]; exact hb)
  · have h1 := (I.ok.bs b o e).1
    rcases (hfp b hb).2.2.2.1 with h2 | h2
    · exact I.ok.noex b o e h2
    · exact absurd (Nat.lt_of_lt_of_le (Heap.lt_size h1) h2) (Nat.lt_irrefl _)
  · exact not_stk I (hfp b hb).2.1 (hfp b hb).2.2.1
  · have e1 : N[i]? = some y := e1
    have clen := CA.len
    rw [List.length_map] at clen
    unfold startF at e2
    rw [List.map_nil, List.nil_append] at e2
    by_cases h2 : i < fr.length
    · have hq : fr[i]? = some y := by
        rw [← S.pre, List.getElem?_take_of_lt h2]
        exact e1
      rw [List.getElem?_append_left (by rw [List.length_map]; omega)] at e2
      obtain ⟨c, hc, hv⟩ := CA.has i y hq
      obtain ⟨u, ru, hu⟩ := hv v e2
      exact ⟨u, ru, .inr ⟨.inr (S.frk y (List.mem_of_getElem? hq)), c, hc, cellK y c hc _ hu⟩⟩
    · rw [List.getElem?_append_right (by rw [List.length_map]; omega), List.getElem?_replicate] at e2
      split at e2 <;> cases e2
  · obtain ⟨v, z⟩ := (CA.all y c e).2
    exact ⟨v, cellK y c e v z⟩
  · obtain ⟨n, v, o, ho, _⟩ := CA.all y c e
    exact un.free c o ho n (cfp y c e)
  · rw [List.append_nil] at hp
    exact hpn p hp
  · have clen := CA.len
    have hpl := congrArg List.length S.pre
    simp only [List.length_take] at hpl
    unfold startF
    show _ = N.length
    simp only [List.length_append, List.length_map, List.length_replicate, List.length_nil, List.map_nil]
    rw [List.length_map] at clen
    omega
end
end GA
set_option Elab.async false
set_option linter.all false
set_option maxRecDepth 100000
set_option maxHeartbeats 2000000
namespace GA
open PySem PySem.Spec PyProof.Rows L2 GxR NdefX

section
variable {A : Around} {elt tg iter : Expr} {scope : Scope} {gpos : Pos} {it acc : Value} {cenv : Env} {ifs : List Expr}
abbrev gexp (elt tg iter : Expr) (scope : Scope) (gpos : Pos) : Expr := .GeneratorExp elt [⟨tg, iter, [], 0⟩] scope gpos
abbrev gloop (elt tg iter : Expr) (scope : Scope) (gpos : Pos) (it : Value) (cenv : Env) : Code := .compLoop (gexp elt tg iter scope gpos) 0 it .none cenv
abbrev gstart (elt tg iter : Expr) (scope : Scope) (gpos : Pos) (it : Value) (cenv : Env) : Code := .compStart (gexp elt tg iter scope gpos) 0 it .none cenv
theorem overL_hd : (A.over (gloop elt tg iter scope gpos it cenv) []).handled = A.handled := rfl
theorem overL_fr {l : List Env} (h : A.frames = some l) : (A.over (gloop elt tg iter scope gpos it cenv) []).frames = some (cenv :: l) := by
  show pushEnvs [cenv] (pushEnvs [] A.frames) = _
  rw [h] <;> rfl
theorem overL_dp : (A.over (gloop elt tg iter scope gpos it cenv) []).depth = A.depth + 1 := by
  show A.depth + 0 + 1 = _
  omega
theorem overL_un : (A.over (gloop elt tg iter scope gpos it cenv) []).units = A.units + 3 := by
  show A.units + 0 + 3 = _
  omega
theorem roomL {k : Nat} (r : Room (k + 1) A) : Room k ((A.in1.in1).over (gloop elt tg iter scope gpos it cenv) []) :=
  ⟨r.hd, by have := r.dp; rw [overL_dp]; show A.depth + 1 + 3 * k + 5 < _; omega, by have := r.un; rw [overL_un]; show A.units + 1 + 1 + 3 + 16 * k + 200 < _; omega⟩
end

/-- the turns of a generator expression, in its own frame: W an invariant over turn, measure, slots and heap; Qe: behind its end; K: what is known of what is handed out -/
def GTurn (J : It) (g : TG) (te : TE) (W : Nat → Nat → L2.St → Hp → Prop) (Qe : Hp → Prop) (K : Nat → Nat → L2.St → V → Hp → Prop) : Prop :=
  ∀ i m σ H, W i m σ H → (J.stop i H ∧ Qe H) ∨ (J.go i H ∧ 0 < m ∧ ∀ x H', J.yld i H x H' → g x σ H' fun σ2 H2 => te σ2 H2 fun r H3 => K i m σ2 r H3)

section
variable {X : Cx} {N : List Str} {elt tg iter : Expr} {scope : Scope} {gpos : Pos} {cl : List (Str × Addr)} {code : Value} {C it ga : Addr} {go : Obj} {fp : List Addr} {s2 : Shared} {H2 : Hp} {J : It} {g : TG} {te : TE}
  {W : Nat → Nat → L2.St → Hp → Prop} {Qe : Hp → Prop} {K : Nat → Nat → L2.St → V → Hp → Prop} {tn : Nat → Heap → Prop}
abbrev cenvOf (X : Cx) (scope : Scope) (cl : List (Str × Addr)) (code : Value) (C : Addr) : Env := genEnv scope cl C code builtinsNs X.env
/-- the running frame's context -/
abbrev gX (X : Cx) (N : List Str) (elt tg iter : Expr) (scope : Scope) (gpos : Pos) (cl : List (Str × Addr)) (code : Value) (C it : Addr) (fp : List Addr) (s2 : Shared) (H2 : Hp) (pn : List (Addr × Obj)) : Cx :=
  gcx X N scope cl code C ((X.A.in1.in1).over (gloop elt tg iter scope gpos (.ref it) (cenvOf X scope cl code C)) []) fp s2 H2 pn
def gEnd (Xg : Cx) (fp : List Addr) (Qe : Hp → Prop) : Nat → Shared → Shared → Prop := fun _ _ s => ∃ σ H, Inv Xg [] σ H s ∧ (∀ b ∈ fp, H b = none) ∧ Qe H
def gYld (Xg : Cx) (fp : List Addr) (tn : Nat → Heap → Prop) (W : Nat → Nat → L2.St → Hp → Prop) (K : Nat → Nat → L2.St → V → Hp → Prop) : Protocol := fun _ _ v s kap =>
  ∃ i m σ H r, RelV r v ∧ Inv Xg [] σ H s ∧ tn (i + 1) s.heap ∧ (∀ b ∈ fp, H b = none) ∧ K i m σ r H ∧
    ∀ m' s'', m' < m → W (i + 1) m' σ H → s''.heap = s.heap → s''.os = s.os → AllBare s''.gens → kap (.send .none) s''

theorem fpOk_g {pins : List (Addr × Obj)} {σ : L2.St} {H : Hp} {s : Shared} {pn : List (Addr × Obj)} (I : Inv (gX X N elt tg iter scope gpos cl code C it fp s2 H2 pn) pins σ H s) (hn : ∀ b ∈ fp, H b = none) (hp : ∀ b ∈ fp, ∀ p ∈ pn ++ pins, p.1 ≠ b) :
    ∀ b ∈ fp, FpOk (gX X N elt tg iter scope gpos cl code C it fp s2 H2 pn) pins H b := fun b hb =>
  ⟨hn b hb, (I.ok.exf b hb).1, I.ok.exfs b hb, .inl hb, (I.ok.exf b hb).2, hp b hb⟩

theorem inv_awake {pins : List (Addr × Obj)} {σ : L2.St} {H : Hp} {s s' : Shared} (I : Inv X pins σ H s) (h1 : s'.heap = s.heap) (h2 : s'.os = s.os) (h3 : AllBare s'.gens) : Inv X pins σ H s' := by
  refine Inv.call' (ch := []) I h2 ?_ ?_ h3 (fun b z => absurd z (by simp))
  · rw [h1]; exact Un.refl
  · rw [h1]; exact I.hok

theorem seg_gloop (hg : PG (gX X N elt tg iter scope gpos cl code C it fp s2 H2 [(ga, go)]) tg g) (he : PE (gX X N elt tg iter scope gpos cl code C it fp s2 H2 [(ga, go)]) elt te)
    (T : Turn X.prog X.w X.K tg J fp it tn) (hfp : ga ∉ fp) (hco : scope.isCoroutine = false) (turn : GTurn J g te W Qe K) :
    ∀ (n m i : Nat) (s₀ s : Shared) (σ : L2.St) (H : Hp), m ≤ n → W i m σ H → Inv (gX X N elt tg iter scope gpos cl code C it fp s2 H2 [(ga, go)]) [] σ H s → tn i s.heap → (∀ b ∈ fp, H b = none) →
      Seg (model X.prog X.w) X.A.in1.in1 (fun n s₀ r s₁ => r = .ok .next ∧ gEnd (gX X N elt tg iter scope gpos cl code C it fp s2 H2 [(ga, go)]) fp Qe n s₀ s₁) (gYld (gX X N elt tg iter scope gpos cl code C it fp s2 H2 [(ga, go)]) fp tn W K) n s₀
        (gloop elt tg iter scope gpos (.ref it) (cenvOf X scope cl code C)) ((model X.prog X.w).den (gloop elt tg iter scope gpos (.ref it) (cenvOf X scope cl code C))) [] s := by
  intro n
  have pne : ∀ pins : List (Addr × Obj), (∀ p ∈ pins, p.1 ∈ fp → False) → ∀ b ∈ fp, ∀ p ∈ [(ga, go)] ++ pins, p.1 ≠ b := fun pins hp b hb p h e => by
    rcases List.mem_append.mp h with h | h
    · rw [List.mem_singleton.mp h] at e
      exact hfp (by rw [show ga = b from e]; exact hb)
    · exact hp p h (by rw [e]; exact hb)
  induction n with
  | zero =>
    intro m i s₀ s σ H hm hw I hst hn
    show Seg _ _ _ _ _ s₀ _ ((compTurn (gexp elt tg iter scope gpos) 0 (.ref it) .none (cenvOf X scope cl code C)).onRaise (leaving (cenvOf X scope cl code C))) [] s
    rw [compTurn_gen, Sem.onRaise_eq_wrap]
    refine seg_bind_wrap (wpAny_standAt ?_)
    rcases turn i m σ H hw with ⟨st, q⟩ | ⟨_, hm0, _⟩
    · refine seg_bind_wrap (wpAny_mono (T.done (gX X N elt tg iter scope gpos cl code C it fp s2 H2 [(ga, go)]) rfl rfl rfl rfl i [] s σ H (fun _ _ => False) I (fpOk_g I hn (pne [] fun _ h => by simp at h)) hst st) (fun r s' ⟨hr, I'⟩ => ?_) fun _ _ e => e.elim)
      subst hr
      exact seg_end (.ok .next) ⟨rfl, σ, H, I', hn, q⟩
    · omega
  | succ n ih =>
    intro m i s₀ s σ H hm hw I hst hn
    show Seg _ _ _ _ _ s₀ _ ((compTurn (gexp elt tg iter scope gpos) 0 (.ref it) .none (cenvOf X scope cl code C)).onRaise (leaving (cenvOf X scope cl code C))) [] s
    rw [compTurn_gen, Sem.onRaise_eq_wrap]
    refine seg_bind_wrap (wpAny_standAt ?_)
    have ok0 := fpOk_g I hn (pne [] fun _ h => by simp at h)
    rcases turn i m σ H hw with ⟨st, q⟩ | ⟨hgo, hm0, hstep⟩
    · refine seg_bind_wrap (wpAny_mono (T.done (gX X N elt tg iter scope gpos cl code C it fp s2 H2 [(ga, go)]) rfl rfl rfl rfl i [] s σ H (fun _ _ => False) I ok0 hst st) (fun r s' ⟨hr, I'⟩ => ?_) fun _ _ e => e.elim)
      subst hr
      exact seg_end (.ok .next) ⟨rfl, σ, H, I', hn, q⟩
    · refine seg_bind_wrap (wpAny_mono (T.item (gX X N elt tg iter scope gpos cl code C it fp s2 H2 [(ga, go)]) rfl rfl rfl rfl i [] s σ H (fun _ _ => False) I ok0 hst hgo) (fun r s3 ⟨u, hr, h3⟩ => ?_) fun _ _ e => e.elim)
      subst hr
      refine seg_bind_wrap (wpAny_mono h3 (fun _ s4 ⟨x, H4, I4, r4, y4, st4, n4⟩ => ?_) fun _ _ e => e.elim)
      have I4' := I4.pinned (fpOk_g I4 n4 (pne [] fun _ h => by simp at h)) (T.obj _ _ st4)
      refine seg_bind_wrap (wpAny_mono (hg.run _ s4 σ H4 x u _ I4' r4 (hstep x H4 y4)) (fun _ s5 ⟨σ5, H5, I5, q5⟩ => ?_) fun _ _ e => e.elim)
      simp only [List.forIn_nil]
      refine seg_bind_wrap (wpAny_pure ?_)
      simp only [if_true]
      have hy : ∀ v, yieldOut (cenvOf X scope cl code C) v = yieldValue v := fun v => by
        unfold yieldOut
        rw [show (cenvOf X scope cl code C).scope.isCoroutine = false from hco] <;> rfl
      simp only [hy]
      rw [Sem.bind_eq_wrap', Sem.bind_eq_wrap', Sem.wrap_wrap, Sem.wrap_wrap]
      refine seg_wrap (wpAny_mono (he.run _ s5 σ5 H5 _ I5 q5) (fun v s6 ⟨r, H6, I6, r6, q6⟩ => ?_) fun _ _ e => e.elim)
      have keepP : ∀ b ∈ fp, (∀ o, s4.heap.get? b = some o → s6.heap.get? b = some o) ∧ H6 b = none := fun b hb => by
        obtain ⟨o, e, d⟩ := T.obj _ _ st4 b hb
        have z := I6.pin (b, o) (List.mem_append_right _ (List.mem_append_right _ (mem_pinsAt hb e)))
        exact ⟨fun o' e' => by rw [e] at e'; cases e'; exact z.1, z.2.1⟩
      have st6 := T.keep _ _ s6.heap st4 fun b hb o e => (keepP b hb).1 o e
      have J6 : Inv (gX X N elt tg iter scope gpos cl code C it fp s2 H2 [(ga, go)]) [] σ5 H6 s6 := I6.unpinned (pins := [])
      refine seg_at (seg_yield rfl rfl rfl ⟨i, m, σ5, H6, r, r6, J6, st6, fun b hb => (keepP b hb).2, q6, fun m' s'' hlt hw' e1 e2 e3 => ?_⟩)
      refine seg_again rfl (ih m' (i + 1) s'' s'' σ5 H6 (by omega) hw' (inv_awake J6 e1 e2 e3) (by rw [e1]; exact st6) fun b hb => (keepP b hb).2)
end
end GA
set_option Elab.async false
set_option linter.all false
set_option maxRecDepth 100000
set_option maxHeartbeats 2000000
namespace GA
open PySem PySem.Spec PyProof.Rows L2 GxR NdefX
open GenW

theorem allBare_set {s : Shared} {g : Nat} {x : GenState} (h : AllBare s.gens) (hx : x.bare = true) : AllBare (s.setGen g x).gens := fun y hy => by
  have hy : y ∈ s.gens.setIfInBounds g x := hy
  rcases Array.mem_or_eq_of_mem_setIfInBounds hy with z | z
  · exact h y z
  · rw [z]; exact hx
theorem setGen_at {s : Shared} {g : Nat} {x : GenState} (h : g + 1 ≤ (s.setGen g x).gens.size) : (s.setGen g x).gens[g]? = some x := by
  rw [setGen_size] at h
  have hlt : g < s.gens.size := h
  simp [Shared.setGen, hlt]

section
variable {X : Cx} {N : List Str} {elt tg iter : Expr} {scope : Scope} {gpos : Pos} {cl : List (Str × Addr)} {code : Value} {C it ga : Addr} {go : Obj} {fp : List Addr} {s2 : Shared} {H2 : Hp} {J : It} {g : TG} {te : TE}
  {W : Nat → Nat → L2.St → Hp → Prop} {Qe : Hp → Prop} {K : Nat → Nat → L2.St → V → Hp → Prop} {tn : Nat → Heap → Prop}

theorem seg_gstart (hg : PG (gX X N elt tg iter scope gpos cl code C it fp s2 H2 [(ga, go)]) tg g) (he : PE (gX X N elt tg iter scope gpos cl code C it fp s2 H2 [(ga, go)]) elt te)
    (T : Turn X.prog X.w X.K tg J fp it tn) (hfp : ga ∉ fp) (hco : scope.isCoroutine = false) (turn : GTurn J g te W Qe K) (n m : Nat) (s₀ s : Shared) (σ : L2.St) (H : Hp) (hm : m ≤ n) (hw : W 0 m σ H)
    (I : Inv (gX X N elt tg iter scope gpos cl code C it fp s2 H2 [(ga, go)]) [] σ H s) (hst : tn 0 s.heap) (hn : ∀ b ∈ fp, H b = none) :
    Seg (model X.prog X.w) X.A.in1.in1 (fun n s₀ r s₁ => r = .ok .next ∧ gEnd (gX X N elt tg iter scope gpos cl code C it fp s2 H2 [(ga, go)]) fp Qe n s₀ s₁) (gYld (gX X N elt tg iter scope gpos cl code C it fp s2 H2 [(ga, go)]) fp tn W K) n s₀
      (gstart elt tg iter scope gpos (.ref it) (cenvOf X scope cl code C)) ((model X.prog X.w).den (gstart elt tg iter scope gpos (.ref it) (cenvOf X scope cl code C))) [] s := by
  have loop := seg_gloop hg he T hfp hco turn n m 0 s₀ s σ H hm hw I hst hn
  show Seg _ _ _ _ _ s₀ _ ((compStart (gexp elt tg iter scope gpos) 0 (.ref it) .none (cenvOf X scope cl code C)).onRaise (leaving (cenvOf X scope cl code C))) [] s
  unfold compStart
  rw [Sem.onRaise_eq_wrap]
  show Seg _ _ _ _ _ s₀ _ ((ask >>= _).wrap _ _ _ _) [] s
  refine seg_bind_wrap (wpAny_askSetting ?_)
  split
  · exact seg_again rfl loop
  · refine seg_bind_wrap (wpAny_rule ?_)
    show Seg _ _ _ _ _ s₀ _ ((standAt iter.pos >>= _).wrap _ _ _ _) [] s
    exact seg_bind_wrap (wpAny_standAt (seg_bind_wrap (T.self _ 0 s _ _ hst (seg_again rfl loop))))

/-- a generator that stands ready, in the state s: it will go on from the turn i -/
def GSt (X Xg : Cx) (fp : List Addr) (tn : Nat → Heap → Prop) (W : Nat → Nat → L2.St → Hp → Prop) (Qe : Hp → Prop) (K : Nat → Nat → L2.St → V → Hp → Prop) (gn n : Nat) (H : Hp) (s : Shared) : Prop :=
  ∃ σ gs, Inv Xg [] σ H s ∧ (∀ b ∈ fp, H b = none) ∧ s.gens[gn]? = some gs ∧ ∀ s'', s''.heap = s.heap → s''.os = s.os → AllBare s''.gens →
    gs.Goes (model X.prog X.w) X.A.in1.in1 (fun n s₀ r s₁ => r = .ok .next ∧ gEnd Xg fp Qe n s₀ s₁) (gYld Xg fp tn W K) n (.send .none) s''

/-- what all and any ask of an item: stop: the truth at which they end -/
def KB (stop : Bool) (W : Nat → Nat → L2.St → Hp → Prop) (Qb : Bool → Hp → Prop) : Nat → Nat → L2.St → V → Hp → Prop := fun i m σ r H =>
  ∃ b, r = .bl b ∧ if b = stop then Qb stop H else ∃ m', m' < m ∧ W (i + 1) m' σ H

theorem g_next {stop : Bool} {gn : Nat} {Qb : Bool → Hp → Prop} {Q : Option Value → Shared → Prop} {E : Value → Shared → Prop} {n : Nat} {H : Hp} {s : Shared} {k : Nat} {pn : List (Addr × Obj)}
    (hr : Room k X.A) (hgo : ∀ s : Shared, s.heap.get? ga = some go → s.heap.IsGen ga gn) (hpn : pn = [(ga, go)])
    (st : GSt X (gX X N elt tg iter scope gpos cl code C it fp s2 H2 pn) fp tn W (Qb (!stop)) (KB stop W Qb) gn n H s)
    (hend : ∀ σ H' s', Inv (gX X N elt tg iter scope gpos cl code C it fp s2 H2 pn) [] σ H' s' → (∀ b ∈ fp, H' b = none) → Qb (!stop) H' → Q none s')
    (hstop : ∀ σ H' s', Inv (gX X N elt tg iter scope gpos cl code C it fp s2 H2 pn) [] σ H' s' → (∀ b ∈ fp, H' b = none) → Qb stop H' → Q (some (.bool stop)) s')
    (hgoon : ∀ m H' s', n = m + 1 → GSt X (gX X N elt tg iter scope gpos cl code C it fp s2 H2 pn) fp tn W (Qb (!stop)) (KB stop W Qb) gn m H' s' → Q (some (.bool (!stop))) s') :
    wpAny (model X.prog X.w) X.A.in1 (pyNext (.ref ga)) Q E s := by
  subst hpn
  obtain ⟨σ, gs, I, hn, hgs, goes⟩ := st
  have hlt : gn + 1 ≤ s.gens.size := by
    rcases Nat.lt_or_ge gn s.gens.size with h | h
    · exact h
    · rw [Array.getElem?_eq_none h] at hgs; cases hgs
  have hpin := (I.pin (ga, go) (List.mem_append_left _ (List.mem_singleton.mpr rfl))).1
  refine wpAny_gsz (n := gn + 1) hlt ?_
  refine wpAny_pyNext_genexpQ (Y := gYld (gX X N elt tg iter scope gpos cl code C it fp s2 H2 [(ga, go)]) fp tn W (KB stop W Qb)) (P := gEnd (gX X N elt tg iter scope gpos cl code C it fp s2 H2 [(ga, go)]) fp (Qb (!stop))) (n := n) hr.hd I.nolimit hr.depth (hgo s hpin) hgs (goes _ rfl rfl (allBare_set I.bare rfl)) (fun v s₁ gs' hb hv => ?_) (fun s₁ hp h' hk => ?_)
  · obtain ⟨i, m, σ', H', r, rv, J', st', n', ⟨b, eb, kb⟩, kap⟩ := hv
    subst eb
    obtain rfl : v = Value.bool b := rv
    have J2 : Inv (gX X N elt tg iter scope gpos cl code C it fp s2 H2 [(ga, go)]) [] σ' H' (s₁.setGen gn gs') := inv_awake J' rfl rfl (allBare_set J'.bare hb)
    intro hsz
    by_cases e : b = stop
    · subst e
      rw [if_pos rfl] at kb
      exact hstop σ' H' _ J2 n' kb
    · rw [if_neg e] at kb
      have eb : b = !stop := by cases b <;> cases stop <;> simp_all
      subst eb
      obtain ⟨m', hm', w'⟩ := kb
      cases n with
      | zero => exact (kap m' s₁ hm' w' rfl rfl J'.bare).elim
      | succ n0 =>
        exact hgoon n0 H' _ rfl ⟨σ', gs', J2, n', setGen_at hsz, fun s'' e1 e2 e3 => kap m' s'' hm' w' e1 e2 e3⟩
  · obtain ⟨σ', H', J', n', q⟩ := hp
    intro _
    have J2 : Inv (gX X N elt tg iter scope gpos cl code C it fp s2 H2 [(ga, go)]) [] σ' H' (s₁.setGen gn .finished) := inv_awake J' rfl rfl (allBare_set J'.bare rfl)
    exact hend σ' H' _ (J2.kept (t' := s₁.toks) hk) n' q

theorem all_loop {gn : Nat} {Qb : Bool → Hp → Prop} {k : Nat} {pn : List (Addr × Obj)} {R : Result → Shared → Prop}
    (hr : Room k X.A) (hgo : ∀ s : Shared, s.heap.get? ga = some go → s.heap.IsGen ga gn) (hpn : pn = [(ga, go)])
    (hR : ∀ b σ H' s', Inv (gX X N elt tg iter scope gpos cl code C it fp s2 H2 pn) [] σ H' s' → (∀ b ∈ fp, H' b = none) → Qb b H' → R (.ok (.ret (.bool b))) s') :
    ∀ (n : Nat) (H : Hp) (s : Shared), GSt X (gX X N elt tg iter scope gpos cl code C it fp s2 H2 pn) fp tn W (Qb true) (KB false W Qb) gn n H s → codeAny (model X.prog X.w) X.A (.builtin "all.loop" ⟨[.ref ga], []⟩) R s := by
  intro n
  induction n with
  | zero =>
    intro H s st
    refine codeAny_builtin F.entry_all_loop ?_
    rw [Around.under_plainId F.plain_all_loop _]
    show wpAny _ X.A.in1 (pyNext (.ref ga) >>= _) _ _ s
    refine wpAny_bind (g_next (stop := false) hr hgo hpn st (fun σ H' s' J n' q => ?_) (fun σ H' s' J n' q => ?_) (fun m H' s' e => by omega))
    · exact wpAny_bind (wpAny_rule (wpAny_pure (hR true σ H' s' J n' q)))
    · refine wpAny_bind (wpAny_holding (wpAny_truthy_bool ?_))
      refine wpAny_bind (wpAny_letGo ?_)
      simp only [Bool.false_eq_true, if_false]
      exact wpAny_bind (wpAny_rule (wpAny_pure (hR false σ H' s' J n' q)))
  | succ n ih =>
    intro H s st
    refine codeAny_builtin F.entry_all_loop ?_
    rw [Around.under_plainId F.plain_all_loop _]
    show wpAny _ X.A.in1 (pyNext (.ref ga) >>= _) _ _ s
    refine wpAny_bind (g_next (stop := false) hr hgo hpn st (fun σ H' s' J n' q => ?_) (fun σ H' s' J n' q => ?_) (fun m H' s' e st' => ?_))
    · exact wpAny_bind (wpAny_rule (wpAny_pure (hR true σ H' s' J n' q)))
    · refine wpAny_bind (wpAny_holding (wpAny_truthy_bool ?_))
      refine wpAny_bind (wpAny_letGo ?_)
      simp only [Bool.false_eq_true, if_false]
      exact wpAny_bind (wpAny_rule (wpAny_pure (hR false σ H' s' J n' q)))
    · have e' : m = n := by omega
      subst e'
      refine wpAny_bind (wpAny_holding (wpAny_truthy_bool ?_))
      refine wpAny_bind (wpAny_letGo ?_)
      simp only [Bool.not_false, if_true]
      exact wpAny_pure ⟨plainId_quiet F.plain_all_loop _, ih H' s' st'⟩

theorem any_loop {gn : Nat} {Qb : Bool → Hp → Prop} {k : Nat} {pn : List (Addr × Obj)} {R : Result → Shared → Prop}
    (hr : Room k X.A) (hgo : ∀ s : Shared, s.heap.get? ga = some go → s.heap.IsGen ga gn) (hpn : pn = [(ga, go)])
    (hR : ∀ b σ H' s', Inv (gX X N elt tg iter scope gpos cl code C it fp s2 H2 pn) [] σ H' s' → (∀ b ∈ fp, H' b = none) → Qb b H' → R (.ok (.ret (.bool b))) s') :
    ∀ (n : Nat) (H : Hp) (s : Shared), GSt X (gX X N elt tg iter scope gpos cl code C it fp s2 H2 pn) fp tn W (Qb false) (KB true W Qb) gn n H s → codeAny (model X.prog X.w) X.A (.builtin "any.loop" ⟨[.ref ga], []⟩) R s := by
  intro n
  induction n with
  | zero =>
    intro H s st
    refine codeAny_builtin F.entry_any_loop ?_
    rw [Around.under_plainId F.plain_any_loop _]
    show wpAny _ X.A.in1 (pyNext (.ref ga) >>= _) _ _ s
    refine wpAny_bind (g_next (stop := true) hr hgo hpn st (fun σ H' s' J n' q => ?_) (fun σ H' s' J n' q => ?_) (fun m H' s' e => by omega))
    · exact wpAny_bind (wpAny_rule (wpAny_pure (hR false σ H' s' J n' q)))
    · refine wpAny_bind (wpAny_holding (wpAny_truthy_bool ?_))
      refine wpAny_bind (wpAny_letGo ?_)
      simp only [if_true]
      exact wpAny_bind (wpAny_rule (wpAny_pure (hR true σ H' s' J n' q)))
  | succ n ih =>
    intro H s st
    refine codeAny_builtin F.entry_any_loop ?_
    rw [Around.under_plainId F.plain_any_loop _]
    show wpAny _ X.A.in1 (pyNext (.ref ga) >>= _) _ _ s
    refine wpAny_bind (g_next (stop := true) hr hgo hpn st (fun σ H' s' J n' q => ?_) (fun σ H' s' J n' q => ?_) (fun m H' s' e st' => ?_))
    · exact wpAny_bind (wpAny_rule (wpAny_pure (hR false σ H' s' J n' q)))
    · refine wpAny_bind (wpAny_holding (wpAny_truthy_bool ?_))
      refine wpAny_bind (wpAny_letGo ?_)
      simp only [if_true]
      exact wpAny_bind (wpAny_rule (wpAny_pure (hR true σ H' s' J n' q)))
    · have e' : m = n := by omega
      subst e'
      refine wpAny_bind (wpAny_holding (wpAny_truthy_bool ?_))
      refine wpAny_bind (wpAny_letGo ?_)
      simp only [Bool.not_true, Bool.false_eq_true, if_false]
      exact wpAny_pure ⟨plainId_quiet F.plain_any_loop _, ih H' s' st'⟩
end
end GA
set_option Elab.async false
set_option linter.all false
set_option maxRecDepth 100000
set_option maxHeartbeats 2000000
namespace GA
open PySem PySem.Spec PyProof.Rows L2 GxR NdefX
open GenW

/-- the reading of all(elt for tg in iter), any(..): stop: the truth that ends it -/
def tGen (P : Addr) (wi : TI) (g : TG) (te : TE) (N : List Str) (js : List Nat) (stop : Bool) : TE := fun σ H Q =>
  wi σ H fun J H1 => TabG H1 P ∧ ∀ H2, Tabbed P H1 H2 → ∃ W, (∃ m, W 0 m (startF N [] (js.map (slotAt σ))) H2) ∧ GTurn J g te W (fun H' => Q (.bl (!stop)) H') (KB stop W fun b H' => Q (.bl b) H')

section
variable {X : Cx} {N fr : List Str} {js : List Nat} {elt tg iter : Expr} {scope : Scope} {gpos : Pos} {g : TG} {te : TE} {wi : TI} {c P : Addr} {k : Nat} {stop : Bool}

theorem gen_made {pins : List (Addr × Obj)} {σ : L2.St} {H : Hp} {s : Shared} {Q : VK} {Q' : Value → Shared → Prop} (hr : Room (k + 1) X.A) (TB : TabB X.base X.mg c P) (hcode : X.env.code = .ref c) (S : GSc N fr scope)
    (hfree : ∀ y ∈ fr, X.env.scope.names.lookup y = some .cell ∨ X.env.scope.names.lookup y = some .free) (hjs : js.map (fun j => X.N[j]?) = fr.map some)
    (hi : PI X tg iter wi) (hg : ∀ code C it fp s2 H2 pn, PG (gX X N elt tg iter scope gpos (cloFrom X.env.cells scope.names []) code C it fp s2 H2 pn) tg g)
    (he : ∀ code C it fp s2 H2 pn, Room k (gX X N elt tg iter scope gpos (cloFrom X.env.cells scope.names []) code C it fp s2 H2 pn).A → PE (gX X N elt tg iter scope gpos (cloFrom X.env.cells scope.names []) code C it fp s2 H2 pn) elt te)
    (hs : ∀ v, genFold iter X.env v = pure v) (I : Inv X pins σ H s) (h : tGen P wi g te N js stop σ H Q)
    (hQ : ∀ (code : Value) (C it ga : Addr) (go : Obj) (gn n : Nat) (fp : List Addr) (tn : Nat → Heap → Prop) (s2 s5 : Shared) (H2 H5 : Hp) (W : Nat → Nat → L2.St → Hp → Prop),
      (∀ s : Shared, s.heap.get? ga = some go → s.heap.IsGen ga gn) → s5.heap.get? ga = some go →
      GSt X (gX X N elt tg iter scope gpos (cloFrom X.env.cells scope.names []) code C it fp s2 H2 [(ga, go)]) fp tn W (fun H' => Q (.bl (!stop)) H') (KB stop W fun b H' => Q (.bl b) H') gn n H5 s5 →
      (∀ σ' H' s', Inv (gX X N elt tg iter scope gpos (cloFrom X.env.cells scope.names []) code C it fp s2 H2 [(ga, go)]) [] σ' H' s' → Inv X pins σ H' s') → Q' (.ref ga) s5) :
    wpAny (model X.prog X.w) X.A (eval (gexp elt tg iter scope gpos) X.env) Q' X.xe s := by
  have hcl : ∀ y ∈ scope.names, y.2 = .free → ∃ c, X.env.cells.lookup y.1 = some c := fun y hy e => (hfree y.1 (S.free y hy e)).elim (fun z => I.ok.has _ (.inl z)) fun z => I.ok.has _ (.inr z)
  refine wpAny_GeneratorExp_make S.co (closure_ok hcl) S.nocell S.dot S.kind hr.depth ?_ hs
  refine thn (hi.run pins s σ H _ I h) fun xv s1 h1 => thn h1 fun itv s2 h2 => ?_
  obtain ⟨it, fp, tn, J, H2, rfl, I2, T, st2, f2, ⟨ps, hP, ht⟩, q2⟩ := h2
  have hPs : s2.heap.get? P = some { cls := .none, data := .fields ps } := I2.hok P _ hP
  have cd : PySem.W.CodeHd s2.heap c P := TB.code.keeps I2.bk
  have fpo : ∀ b ∈ fp, ∃ o, s2.heap.get? b = some o ∧ ∀ v, o.data ≠ .cell v := T.obj 0 _ st2
  have fpP : ∀ b ∈ fp, b ≠ P := fun b hb z => by
    have := (f2 b hb).1
    rw [z, hP] at this
    cases this
  refine ⟨I2.nolimit, ?_⟩
  have cont : ∀ (cv : Value) (h3 : Heap) (tk : Nat) (ps' : Array Value), Heap.ExtBut P s2.heap h3 → s2.heap.objs.size ≤ h3.objs.size → h3.get? P = some { cls := .none, data := .fields ps' } → (∃ more, ps' = ps ++ more) → TriplesOk ps'.toList →
      wpAny (model X.prog X.w) X.A (builtinsFor X.env.globals X.env.builtins) (fun bi s₄ =>
        ∀ h', (h'.Ns s₄.heap.objs.size fun y => if y = (".0" : Str) then some (Value.ref it) else none) → Heap.SameBut s₄.heap.objs.size (s₄.heap.push { cls := .type "frame", data := .dict #[] }) h' →
          Q' (.ref h'.objs.size) { s₄ with
            gens := s₄.gens.push (.fresh (gstart elt tg iter scope gpos (.ref it) (genEnv scope (cloFrom X.env.cells scope.names []) s₄.heap.objs.size cv bi X.env))),
            toks := s₄.toks + 1 + 1 + 1,
            heap := h'.push { cls := .type "generator", data := .fields #[.int s₄.gens.size 0, .str "<genexpr>" (s₄.toks + 1), .str (X.env.qual ++ "<genexpr>") (s₄.toks + 1 + 1)] } }) X.xe { s2 with heap := h3, toks := tk } := by
    intro cv h3 tk ps' hx hsz hP3 hmore ht3
    obtain ⟨bm, ob, e1, e2, e3, e4, e5, e6, e7, e8⟩ := TB.bm
    have keep3 : ∀ b u, b ≠ P → s2.heap.get? b = some u → h3.get? b = some u := fun b u hb e => hx b u hb e
    refine wpAny_builtinsFor (m := X.mg) (by rw [I2.ok.glob]; exact (I2.mod.glob.keeps I2.bk).extBut hx TB.gP) e1 e2 (keep3 _ _ e4 (I2.bk _ _ e5)) e6 e7 e8 ?_
    intro h' hns hsb
    obtain ⟨more, em⟩ := hmore
    have hC : s2.heap.objs.size ≤ h3.objs.size := hsz
    have sz' : h'.objs.size = h3.objs.size + 1 := by rw [hsb.1, Heap.size_push]
    have keep' : ∀ b u, h3.get? b = some u → h'.get? b = some u := fun b u e => hsb.extBut b u (Nat.ne_of_lt (Heap.lt_size e)) (Heap.get?_push_of_some _ e)
    generalize hgo : ({ cls := .type "generator", data := .fields #[.int ({ s2 with heap := h3, toks := tk } : Shared).gens.size 0, .str "<genexpr>" (({ s2 with heap := h3, toks := tk } : Shared).toks + 1), .str (X.env.qual ++ "<genexpr>") (({ s2 with heap := h3, toks := tk } : Shared).toks + 1 + 1)] } : Obj) = go
    have gens : ∀ s : Shared, s.heap.get? h'.objs.size = some go → s.heap.IsGen h'.objs.size s2.gens.size := fun s e => by
      rw [← hgo] at e
      exact ⟨_, _, _, e, rfl, rfl, rfl⟩
    have hgat : (h'.push go).get? h'.objs.size = some go := Heap.get?_push_size _ (by rw [← hgo]; rfl)
    have keep5 : ∀ b u, b ≠ P → s2.heap.get? b = some u → (h'.push go).get? b = some u := fun b u hb e => Heap.get?_push_of_some _ (keep' b u (keep3 b u hb e))
    have hP5 : (h'.push go).get? P = some { cls := .none, data := .fields ps' } := Heap.get?_push_of_some _ (keep' _ _ hP3)
    have hPlt : P < s2.heap.objs.size := Heap.lt_size hPs
    -- the caller's invariant at the end of the making
    have J : Inv X pins σ (upd H2 P (.tbl (ps ++ more))) { s2 with heap := h'.push go, gens := s2.gens.push (.fresh (gstart elt tg iter scope gpos (.ref it) (cenvOf X scope (cloFrom X.env.cells scope.names []) cv h3.objs.size))), drawn := s2.drawn, toks := tk + 1 + 1 + 1 } :=
      inv_tab (more := more) I2 hP (fun b u hb e => keep5 b u hb e) (by rw [← em]; exact hP5) (I2.bare.push rfl)
    have tb5 : Tabbed P H2 (upd H2 P (.tbl (ps ++ more))) := ⟨⟨ps ++ more, upd_same, by rw [← em]; exact ht3⟩, fun b hb => upd_ne hb⟩
    obtain ⟨W, ⟨m, w0⟩, turn⟩ := q2 _ tb5
    have fpn : ∀ b ∈ fp, upd H2 P (.tbl (ps ++ more)) b = none := fun b hb => by rw [upd_ne (fpP b hb)]; exact (f2 b hb).1
    have fpl : ∀ b ∈ fp, b < s2.heap.objs.size := fun b hb => by
      obtain ⟨o, e, _⟩ := fpo b hb
      exact Heap.lt_size e
    have un5 : Un (frs X.stack) fp H2 (upd H2 P (.tbl (ps ++ more))) s2.heap (h'.push go) := by
      have nP : ∀ b u, H2 b = some u → (∀ q, u ≠ .tbl q) → b ≠ P := fun b u e q z => by
        rw [z, hP] at e
        exact q ps (Option.some.inj e).symm
      have nN : ∀ b, H2 b = none → b ≠ P := fun b e z => by
        rw [z, hP] at e
        cases e
      refine ⟨fun b o e n _ _ => keep5 b o (nN b n) e, fun b o e n _ _ => ⟨o.slots, keep5 b o (nN b n) e⟩, fun b o e n _ => by rw [upd_ne (nN b n)]; exact n, fun b o e _ => ?_, fun b xs e => by rw [upd_ne (nP b _ e (fun q z => by cases z))]; exact e,
        fun b o u e => by rw [upd_ne (nP b _ e (fun q z => by cases z))]; exact e, fun b qs e => ?_⟩
      · by_cases hb : b = P
        · rw [hb]; exact ⟨_, hP5⟩
        · exact ⟨o, keep5 b o hb e⟩
      · by_cases hb : b = P
        · rw [hb, hP] at e
          cases e
          rw [hb, upd_same]
          exact ⟨more, rfl⟩
        · rw [upd_ne hb, e]
          exact ⟨#[], by simp⟩
    have hCn : ∀ b : Addr, s2.heap.objs.size ≤ b → b ≠ P := fun b hb z => by
      rw [z] at hb
      exact Nat.lt_irrefl _ (Nat.lt_of_lt_of_le hPlt hb)
    have hC5 : upd H2 P (.tbl (ps ++ more)) h3.objs.size = none := by rw [upd_ne (hCn _ hC)]; exact I2.hok.fresh hC
    have hga : s2.heap.objs.size ≤ h'.objs.size := by rw [sz']; exact Nat.le_succ_of_le hC
    have cp : Caps X (cloFrom X.env.cells scope.names []) fr js := Caps.made I2.ok (fun y hy e => hfree y.1 (S.free y hy e)) S.frm hjs
    have IG : Inv (gX X N elt tg iter scope gpos (cloFrom X.env.cells scope.names []) cv h3.objs.size it fp s2 H2 [(h'.objs.size, go)]) [] (startF N [] (js.map (slotAt σ))) (upd H2 P (.tbl (ps ++ more)))
        { s2 with heap := h'.push go, gens := s2.gens.push (.fresh (gstart elt tg iter scope gpos (.ref it) (cenvOf X scope (cloFrom X.env.cells scope.names []) cv h3.objs.size))), drawn := s2.drawn, toks := tk + 1 + 1 + 1 } := by
      refine inv_gcx (m := fun y => if y = (".0" : Str) then some (Value.ref it) else none) I2 S cp hr.hd (overL_fr I2.ok.frames) f2 fpl hC (hns.push _) rfl J.bare un5 J.hok hC5 fun p hp => ?_
      rw [List.mem_singleton.mp hp]
      refine ⟨hgat, ?_, ?_, fun z => ?_, fun v z => ?_⟩
      · rw [upd_ne (hCn _ hga)]; exact I2.hok.fresh hga
      · intro z
        have z' : h'.objs.size = h3.objs.size := z
        omega
      · have z' : h'.objs.size ∈ frs X.stack := z
        exact not_stk I2 (Nat.ne_of_gt (Nat.lt_of_lt_of_le I2.lt hga)) (I2.nofs hga) z'
      · have z' : go.data = .cell v := z
        rw [← hgo] at z'
        cases z'
    have gaf : h'.objs.size ∉ fp := fun z => Nat.lt_irrefl _ (Nat.lt_of_lt_of_le (fpl _ z) hga)
    have st5 : tn 0 (h'.push go) := T.keep 0 _ _ st2 fun b hb o e => keep5 b o (fpP b hb) e
    refine hQ cv h3.objs.size it h'.objs.size go s2.gens.size m fp tn s2 _ H2 _ W gens hgat ⟨_, _, IG, fpn, Array.getElem?_push_size .., fun s'' x1 x2 x3 => ⟨rfl, ?_⟩⟩ fun σ' H' s' Ig => ?_
    · have r5 : Room k (gX X N elt tg iter scope gpos (cloFrom X.env.cells scope.names []) cv h3.objs.size it fp s2 H2 [(h'.objs.size, go)]).A := roomL hr
      exact seg_gstart (hg _ _ _ _ _ _ _) (he _ _ _ _ _ _ _ r5) T gaf S.co turn m m s'' s'' _ _ (Nat.le_refl _) w0 (inv_awake IG x1 x2 x3) (by rw [x1]; exact st5) fpn
    · refine Inv.call' (ch := fp) I2 Ig.os Ig.base Ig.hok Ig.bare fun b hb => ?_
      obtain ⟨g1, g2, g3, g4, g5, g6⟩ := f2 b hb
      exact ⟨g4, g2, g5, g6⟩
  cases hf : codeAmong gpos ps.toList with
  | none =>
    refine wpAny_genexprCodeX hcode (cd.code hPs ht) (cd.tab hPs) hf fun c' h' tk hx hge hlt hco' _ htab' _ => ?_
    obtain ⟨o1, vs, f1, tf, fl, tg, inF, tx, tt, op, _, _, _, _, _, _, _, _, _, htr, _⟩ := hco'
    exact cont _ h' tk _ hx (Nat.le_trans hge (Nat.le_of_lt hlt)) htab'.2 ⟨_, rfl⟩ htr
  | some cv =>
    refine wpAny_genexprCode_hit hcode (cd.code hPs ht) hf ?_
    exact cont cv s2.heap s2.toks ps (Heap.ExtBut.refl _ _) (Nat.le_refl _) hPs ⟨#[], by simp⟩ ht

/-- all(elt for tg in iter) -/
theorem pe_all {p pos : Pos} (hr : Room (k + 1) X.A) (hgl : Gl X "all") (hm : X.mg "all" = none) (TB : TabB X.base X.mg c P) (hcode : X.env.code = .ref c) (S : GSc N fr scope)
    (hfree : ∀ y ∈ fr, X.env.scope.names.lookup y = some .cell ∨ X.env.scope.names.lookup y = some .free) (hjs : js.map (fun j => X.N[j]?) = fr.map some)
    (hi : PI X tg iter wi) (hg : ∀ code C it fp s2 H2 pn, PG (gX X N elt tg iter scope gpos (cloFrom X.env.cells scope.names []) code C it fp s2 H2 pn) tg g)
    (he : ∀ code C it fp s2 H2 pn, Room k (gX X N elt tg iter scope gpos (cloFrom X.env.cells scope.names []) code C it fp s2 H2 pn).A → PE (gX X N elt tg iter scope gpos (cloFrom X.env.cells scope.names []) code C it fp s2 H2 pn) elt te)
    (hs : ∀ v, genFold iter X.env v = pure v := by intro _; rfl) (hse : starEach [gexp elt tg iter scope gpos] X.env = (false, eval (gexp elt tg iter scope gpos) X.env) :: starEach [] X.env := by rfl) :
    PE X (.Call (.Name "all" p) [gexp elt tg iter scope gpos] [] pos) (tGen P wi g te N js false) := by
  refine ⟨fun pins s σ H Q I h => ?_⟩
  refine wpAny_Call_Name_kw (ld_blt I hgl hm (by decide +kernel : bootBuiltins "all" = some (.builtin "all")) ?_)
  refine PyProof.Rows.callWith_builtin1 ?_ hse (by rfl)
  rw [hse]
  show wpAny _ _ (spliced ((false, eval (gexp elt tg iter scope gpos) X.env) :: backTo pos (starEach [] X.env))) _ _ s
  refine Calls.spliced_cons (gen_made (stop := false) hr TB hcode S hfree hjs hi hg he hs I h fun code C it ga go gn n fp tn s2 s5 H2 H5 W hgo hga st lv => ?_)
  refine Calls.spliced_nil ?_
  refine call_function_tree F.kind_all F.plain_all F.entry_all (F.args_all1 _) ?_
  unfold Builtin.«all»
  refine wpAny_bind (m := oneArg "all" _) (wpAny_pure ?_)
  refine wpAny_bind (wpAny_pyIter_gen (hgo s5 hga) ?_)
  refine wpAny_pure ⟨plainId_quiet F.plain_all_loop _, ?_⟩
  exact all_loop (Qb := fun b H' => Q (.bl b) H') hr hgo rfl (fun b σ' H' s' Ig _ q => ⟨.bl b, H', lv σ' H' s' Ig, rfl, q⟩) n H5 s5 st

/-- any(elt for tg in iter) -/
theorem pe_any {p pos : Pos} (hr : Room (k + 1) X.A) (hgl : Gl X "any") (hm : X.mg "any" = none) (TB : TabB X.base X.mg c P) (hcode : X.env.code = .ref c) (S : GSc N fr scope)
    (hfree : ∀ y ∈ fr, X.env.scope.names.lookup y = some .cell ∨ X.env.scope.names.lookup y = some .free) (hjs : js.map (fun j => X.N[j]?) = fr.map some)
    (hi : PI X tg iter wi) (hg : ∀ code C it fp s2 H2 pn, PG (gX X N elt tg iter scope gpos (cloFrom X.env.cells scope.names []) code C it fp s2 H2 pn) tg g)
    (he : ∀ code C it fp s2 H2 pn, Room k (gX X N elt tg iter scope gpos (cloFrom X.env.cells scope.names []) code C it fp s2 H2 pn).A → PE (gX X N elt tg iter scope gpos (cloFrom X.env.cells scope.names []) code C it fp s2 H2 pn) elt te)
    (hs : ∀ v, genFold iter X.env v = pure v := by intro _; rfl) (hse : starEach [gexp elt tg iter scope gpos] X.env = (false, eval (gexp elt tg iter scope gpos) X.env) :: starEach [] X.env := by rfl) :
    PE X (.Call (.Name "any" p) [gexp elt tg iter scope gpos] [] pos) (tGen P wi g te N js true) := by
  refine ⟨fun pins s σ H Q I h => ?_⟩
  refine wpAny_Call_Name_kw (ld_blt I hgl hm boot_any ?_)
  refine PyProof.Rows.callWith_builtin1 ?_ hse (by rfl)
  rw [hse]
  show wpAny _ _ (spliced ((false, eval (gexp elt tg iter scope gpos) X.env) :: backTo pos (starEach [] X.env))) _ _ s
  refine Calls.spliced_cons (gen_made (stop := true) hr TB hcode S hfree hjs hi hg he hs I h fun code C it ga go gn n fp tn s2 s5 H2 H5 W hgo hga st lv => ?_)
  refine Calls.spliced_nil ?_
  refine call_function_tree F.kind_any F.plain_any F.entry_any (F.args_any1 _) ?_
  unfold Builtin.«any»
  refine wpAny_bind (m := oneArg "any" _) (wpAny_pure ?_)
  refine wpAny_bind (wpAny_pyIter_gen (hgo s5 hga) ?_)
  refine wpAny_pure ⟨plainId_quiet F.plain_any_loop _, ?_⟩
  exact any_loop (Qb := fun b H' => Q (.bl b) H') hr hgo rfl (fun b σ' H' s' Ig _ q => ⟨.bl b, H', lv σ' H' s' Ig, rfl, q⟩) n H5 s5 st
end
end GA
set_option Elab.async false
set_option linter.all false
set_option maxRecDepth 100000
set_option maxHeartbeats 2000000
/-! own words, 2: heaps that go on, data at any depth with empty dicts, isinstance of data -/
namespace SL
open PySem PySem.Spec PyProof.Rows L2 GxR NdefX GA

/-- the code tables that the law's defs have -/
def Tabs (T : List Addr) (H : Hp) : Prop := ∀ P ∈ T, TabG H P
/-- the code tables of the defs that make lambdas, with the lambdas' names -/
class LamT where
  l : List (Addr × Str)
  un : ∀ p ∈ l, ∀ p' ∈ l, p.1 = p'.1 → p.2 = p'.2
variable [LamT]
/-- .. stand apart from T, and what they tell is right -/
def Lams (T : List Addr) (H : Hp) : Prop := ∀ p ∈ LamT.l, p.1 ∉ T ∧ LamX.TabS H p.1 p.2
/-- from H on: what was tracked stands but at M; the tables grow -/
structure Go (T M : List Addr) (H H' : Hp) : Prop where
  gr : ∀ b o, H b = some o → b ∉ M → (∀ ps, o ≠ .tbl ps) → H' b = some o
  al : ∀ b, H' b = none → H b = none
  tb : Tabs T H → Tabs T H'
  lm : Lams T H → Lams T H'
section
variable {T M M' : List Addr} {H H1 H2 : Hp} {p : Addr} {o : HO}
theorem Go.refl : Go T M H H := ⟨fun _ _ e _ _ => e, fun _ e => e, fun t => t, fun t => t⟩
theorem Go.trans (a : Go T M H H1) (b : Go T M H1 H2) : Go T M H H2 := ⟨fun c o e n t => b.gr c o (a.gr c o e n t) n t, fun c e => a.al c (b.al c e), fun t => b.tb (a.tb t), fun t => b.lm (a.lm t)⟩
theorem Go.more (a : Go T M H H1) (h : ∀ b ∈ M, b ∈ M') : Go T M' H H1 := ⟨fun c o e n t => a.gr c o e (fun z => n (h c z)) t, a.al, a.tb, a.lm⟩
theorem Go.of0 (a : Go T [] H H1) : Go T M H H1 := a.more fun _ h => by simp at h
theorem Tabs.new (t : Tabs T H) (h : H p = none) : Tabs T (upd H p o) := fun P hP => by
  obtain ⟨ps, e, r⟩ := t P hP
  exact ⟨ps, by rw [upd_ne (ne_of_none e h)]; exact e, r⟩
theorem Lams.new (t : Lams T H) (h : H p = none) : Lams T (upd H p o) := fun q hq => ⟨(t q hq).1, (t q hq).2.ext fun b u e => by rw [upd_ne (ne_of_none e h)]; exact e⟩
theorem Lams.set {u : HO} (t : Lams T H) (h : H p = some u) (hu : ∀ ps, u ≠ .tbl ps) (hx : ∀ f, u ≠ .ext f) : Lams T (upd H p o) := fun q hq => by
  obtain ⟨n, ps, e1, e2, e3⟩ := t q hq
  refine ⟨n, ps, by rw [upd_ne (ne_of e1 h (fun z => hu ps z.symm))]; exact e1, e2, fun pos cv hc => ?_⟩
  obtain ⟨c, r1, r2⟩ := e3 pos cv hc
  exact ⟨c, r1, by rw [upd_ne (ne_of r2 h (fun z => hx _ z.symm))]; exact r2⟩
theorem Go.new (h : H p = none) : Go T M H (upd H p o) := ⟨fun b u e _ _ => by rw [upd_ne (ne_of_none e h)]; exact e, fun b e => upd_none e, fun t => t.new h, fun t => t.new h⟩
theorem Go.set {u : HO} (h : H p = some u) (hu : ∀ ps, u ≠ .tbl ps) (hm : p ∈ M) (hx : ∀ f, u ≠ .ext f := by intro f z; cases z) : Go T M H (upd H p o) :=
  ⟨fun b v e n _ => by rw [upd_ne (fun z => n (by rw [z]; exact hm))]; exact e, fun b e => upd_none e, fun t P hP => by
    obtain ⟨ps, e, r⟩ := t P hP
    exact ⟨ps, by rw [upd_ne (ne_of e h (fun z => hu ps z.symm))]; exact e, r⟩, fun t => t.set h hu hx⟩
theorem Go.tbd {P : Addr} (hP : P ∈ T) (t : TabG H P) (x : Tabbed P H H1) : Go T M H H1 := by
  obtain ⟨ps, e, r⟩ := t
  refine ⟨fun b o hb _ hn => ?_, fun b hb => ?_, fun z Q hQ => ?_, fun z q hq => ?_⟩
  · by_cases h : b = P
    · rw [h, e] at hb
      exact absurd (Option.some.inj hb).symm (hn ps)
    · rw [x.2 b h]; exact hb
  · by_cases h : b = P
    · obtain ⟨ps', e', _⟩ := x.1
      rw [h, e'] at hb
      cases hb
    · rw [← x.2 b h]; exact hb
  · by_cases h : Q = P
    · rw [h]; exact x.1
    · obtain ⟨qs, e1, e2⟩ := z Q hQ
      exact ⟨qs, by rw [x.2 Q h]; exact e1, e2⟩
  · obtain ⟨n, qs, e1, e2, e3⟩ := z q hq
    refine ⟨n, qs, by rw [x.2 q.1 (fun y => n (by rw [y]; exact hP))]; exact e1, e2, fun pos cv hc => ?_⟩
    obtain ⟨c, r1, r2⟩ := e3 pos cv hc
    exact ⟨c, r1, by rw [x.2 c (fun y => by rw [y, e] at r2; exact LamX.codeO_ne ps (Option.some.inj r2).symm)]; exact r2⟩
theorem Go.over {u : HO} (g : Go T M H H1) (n : H p = none) (e : H1 p = some u) (hu : ∀ ps, u ≠ .tbl ps) (hx : ∀ f, u ≠ .ext f := by intro f z; cases z) : Go T M H (upd H1 p o) :=
  ⟨fun b v h m t => by rw [upd_ne (ne_of_none h n)]; exact g.gr b v h m t, fun b h => g.al b (upd_none h), fun t => (Go.set (M := [p]) e hu (by simp) hx).tb (g.tb t), fun t => (g.lm t).set e hu hx⟩
theorem Go.lst {xs : List V} {a : Addr} (g : Go T M H H1) (h : H a = some (.lst xs)) (n : a ∉ M) : H1 a = some (.lst xs) := g.gr a _ h n fun _ z => by cases z
theorem Go.tup {xs : List V} {a : Addr} (g : Go T M H H1) (h : H a = some (.tup xs)) (n : a ∉ M) : H1 a = some (.tup xs) := g.gr a _ h n fun _ z => by cases z
theorem Go.sqT {K : PySem.W.Frag} {xs : List V} {a : Addr} (g : Go T [] H H1) (h : SqT K H a xs) : SqT K H1 a xs := by
  rcases h with (h | ⟨o, h⟩) | h
  · exact .inl (.inl (g.gr a _ h (by simp) fun _ z => by cases z))
  · exact .inl (.inr ⟨o, g.gr a _ h (by simp) fun _ z => by cases z⟩)
  · exact .inr h
theorem Go.sqL {K : PySem.W.Frag} {xs : List V} {a : Addr} (g : Go T [] H H1) (h : SqL K H a xs) : SqL K H1 a xs := by
  rcases h with (h | ⟨o, h⟩) | h
  · exact .inl (.inl (g.gr a _ h (by simp) fun _ z => by cases z))
  · exact .inl (.inr ⟨o, g.gr a _ h (by simp) fun _ z => by cases z⟩)
  · exact .inr h
end

mutual
/-- the value v bears the data d; none of it stands at M -/
inductive Dv (M : List Addr) (H : Hp) : V → PyData → Prop
  | non : Dv M H .non .none
  | bl (b : Bool) : Dv M H (.bl b) (.bool b)
  | int (i : Int) : Dv M H (.int i) (.int i)
  | str (x : Str) : Dv M H (.str x) (.str x)
  | lst {a : Addr} {xs : List V} {ds : List PyData} : H a = some (.lst xs) → a ∉ M → DvAll M H xs ds → Dv M H (.ref a) (.list ds)
  | tup {a : Addr} {xs : List V} {ds : List PyData} : H a = some (.tup xs) → a ∉ M → DvAll M H xs ds → Dv M H (.ref a) (.tuple ds)
  | dct {a : Addr} : H a = some (.dK []) → a ∉ M → Dv M H (.ref a) (.dict [])
inductive DvAll (M : List Addr) (H : Hp) : List V → List PyData → Prop
  | nil : DvAll M H [] []
  | cons {v : V} {vs : List V} {d : PyData} {ds : List PyData} : Dv M H v d → DvAll M H vs ds → DvAll M H (v :: vs) (d :: ds)
end
section
variable {T M M' : List Addr} {H H1 H2 : Hp} {p : Addr} {o : HO}
mutual
theorem Dv.map (g : ∀ b o, H b = some o → b ∉ M → (∀ ps, o ≠ .tbl ps) → H1 b = some o ∧ b ∉ M') : ∀ {v : V} {d : PyData}, Dv M H v d → Dv M' H1 v d
  | _, _, .non => .non
  | _, _, .bl b => .bl b
  | _, _, .int i => .int i
  | _, _, .str x => .str x
  | _, _, .lst e n r => .lst (g _ _ e n fun _ z => by cases z).1 (g _ _ e n fun _ z => by cases z).2 (DvAll.map g r)
  | _, _, .tup e n r => .tup (g _ _ e n fun _ z => by cases z).1 (g _ _ e n fun _ z => by cases z).2 (DvAll.map g r)
  | _, _, .dct e n => .dct (g _ _ e n fun _ z => by cases z).1 (g _ _ e n fun _ z => by cases z).2
theorem DvAll.map (g : ∀ b o, H b = some o → b ∉ M → (∀ ps, o ≠ .tbl ps) → H1 b = some o ∧ b ∉ M') : ∀ {vs : List V} {ds : List PyData}, DvAll M H vs ds → DvAll M' H1 vs ds
  | _, _, .nil => .nil
  | _, _, .cons h t => .cons (Dv.map g h) (DvAll.map g t)
end
theorem Dv.go {v : V} {d : PyData} (h : Dv M H v d) (g : Go T M H H1) : Dv M H1 v d := h.map fun b o e n t => ⟨g.gr b o e n t, n⟩
theorem DvAll.go {v : List V} {d : List PyData} (h : DvAll M H v d) (g : Go T M H H1) : DvAll M H1 v d := h.map fun b o e n t => ⟨g.gr b o e n t, n⟩
theorem Dv.less {v : V} {d : PyData} (h : Dv M H v d) (s : ∀ b ∈ M', b ∈ M) : Dv M' H v d := h.map fun b o e n _ => ⟨e, fun z => n (s b z)⟩
theorem DvAll.less {v : List V} {d : List PyData} (h : DvAll M H v d) (s : ∀ b ∈ M', b ∈ M) : DvAll M' H v d := h.map fun b o e n _ => ⟨e, fun z => n (s b z)⟩
/-- a new object is kept apart from now on -/
theorem Dv.hide {v : V} {d : PyData} (h : Dv M H v d) (hp : H p = none) : Dv (p :: M) H v d := h.map fun b o e n _ => ⟨e, fun z => (List.mem_cons.mp z).elim (fun y => by rw [y, hp] at e; cases e) n⟩
theorem DvAll.hide {v : List V} {d : List PyData} (h : DvAll M H v d) (hp : H p = none) : DvAll (p :: M) H v d := h.map fun b o e n _ => ⟨e, fun z => (List.mem_cons.mp z).elim (fun y => by rw [y, hp] at e; cases e) n⟩

theorem DvAll.length : ∀ {xs : List V} {ds : List PyData}, DvAll M H xs ds → xs.length = ds.length
  | _, _, .nil => rfl
  | _, _, .cons _ t => by rw [List.length_cons, List.length_cons, DvAll.length t]
theorem DvAll.append : ∀ {xs ys : List V} {ds es : List PyData}, DvAll M H xs ds → DvAll M H ys es → DvAll M H (xs ++ ys) (ds ++ es)
  | _, _, _, _, .nil, s => s
  | _, _, _, _, .cons r t, s => .cons r (DvAll.append t s)
theorem DvAll.take : ∀ {xs : List V} {ds : List PyData} (n : Nat), DvAll M H xs ds → DvAll M H (xs.take n) (ds.take n)
  | _, _, 0, _ => .nil
  | _, _, _ + 1, .nil => .nil
  | _, _, n + 1, .cons r t => .cons r (DvAll.take n t)
theorem DvAll.drop : ∀ {xs : List V} {ds : List PyData} (n : Nat), DvAll M H xs ds → DvAll M H (xs.drop n) (ds.drop n)
  | _, _, 0, r => r
  | _, _, _ + 1, .nil => .nil
  | _, _, n + 1, .cons _ t => DvAll.drop n t
theorem DvAll.get : ∀ {xs : List V} {ds : List PyData} {i : Nat} {x : V}, DvAll M H xs ds → xs[i]? = some x → ∃ d, ds[i]? = some d ∧ Dv M H x d
  | _, _, _, _, .nil, e => by simp at e
  | _, _, 0, _, .cons r _, e => by simp at e; subst e; exact ⟨_, rfl, r⟩
  | _, _, i + 1, x, .cons _ t, e => by
    obtain ⟨u, h1, h2⟩ := DvAll.get (i := i) (x := x) t (by simpa using e)
    exact ⟨u, by simpa using h1, h2⟩
theorem DvAll.getD : ∀ {xs : List V} {ds : List PyData} {i : Nat} {d : PyData}, DvAll M H xs ds → ds[i]? = some d → ∃ x, xs[i]? = some x ∧ Dv M H x d
  | _, _, _, _, .nil, e => by simp at e
  | _, _, 0, _, .cons r _, e => by simp at e; subst e; exact ⟨_, rfl, r⟩
  | _, _, i + 1, x, .cons _ t, e => by
    obtain ⟨u, h1, h2⟩ := DvAll.getD (i := i) (d := x) t (by simpa using e)
    exact ⟨u, by simpa using h1, h2⟩
theorem DvAll.strs : ∀ (xs : List Str), DvAll M H (xs.map V.str) (xs.map PyData.str)
  | [] => .nil
  | x :: r => .cons (.str x) (DvAll.strs r)
theorem DvAll.of_strs : ∀ {vs : List V} {xs : List Str}, DvAll M H vs (xs.map PyData.str) → vs = xs.map V.str
  | [], [], _ => rfl
  | _ :: _, _ :: _, .cons h t => by
    cases h
    rw [DvAll.of_strs t] <;> rfl
theorem DvAll.ints : ∀ (xs : List Int), DvAll M H (xs.map V.int) (xs.map PyData.int)
  | [] => .nil
  | x :: r => .cons (.int x) (DvAll.ints r)
/-- the slices' bounds -/
theorem DvAll.cut {xs : List V} {ds : List PyData} (h : DvAll M H xs ds) (lo hi : Option Int) : DvAll M H (cutV xs lo hi) ((ds.drop (HT.sIx ds.length 0 lo)).take (HT.sIx ds.length ds.length hi - HT.sIx ds.length 0 lo)) := by
  unfold cutV
  rw [h.length]
  exact (h.drop _).take _
end

/-! ### isinstance -/
def tyN : PyData → String
  | .none => "NoneType"
  | .bool _ => "bool"
  | .int _ => "int"
  | .str _ => "str"
  | .list _ => "list"
  | .tuple _ => "tuple"
  | .dict _ => "dict"
section
variable {K : PySem.W.Frag} {M : List Addr} {H : Hp} {v : V} {d : PyData} {Q : VK}
theorem Dv.ty (h : Dv M H v d) : TyX K H v (.type (tyN d)) := by
  cases h with
  | non => exact .base .non
  | bl b => exact .base (.bl b)
  | int i => exact .base (.int i)
  | str x => exact .base (.str x)
  | lst e _ _ => exact .base (.lst e)
  | tup e _ _ => exact .base (.tup e)
  | dct e _ => exact .base (.dK e)
def isTuple : PyData → Bool
  | .tuple _ => true
  | _ => false
def isStr : PyData → Bool
  | .str _ => true
  | _ => false
def isInt : PyData → Bool
  | .int _ => true
  | .bool _ => true
  | _ => false
def isBool : PyData → Bool
  | .bool _ => true
  | _ => false
theorem isi_of {T : String} {b : Bool} (h : Dv M H v d) (k : kitB (tyN d) T = some b) (q : Q (.bl b) H) : rIsi K [v, .ty T] H Q := ⟨v, .ty T, _, .type T, b, rfl, .ty T, h.ty, kit_ty k, q⟩
theorem isi_tuple (h : Dv M H v d) (q : Q (.bl (isTuple d)) H) : rIsi K [v, .ty "tuple"] H Q := by
  refine isi_of h ?_ q
  cases d <;> first
    | exact (by decide +kernel : kitB "NoneType" "tuple" = some false)
    | exact (by decide +kernel : kitB "bool" "tuple" = some false)
    | exact (by decide +kernel : kitB "int" "tuple" = some false)
    | exact (by decide +kernel : kitB "str" "tuple" = some false)
    | exact (by decide +kernel : kitB "list" "tuple" = some false)
    | exact (by decide +kernel : kitB "tuple" "tuple" = some true)
    | exact (by decide +kernel : kitB "dict" "tuple" = some false)
theorem isi_str (h : Dv M H v d) (q : Q (.bl (isStr d)) H) : rIsi K [v, .ty "str"] H Q := by
  refine isi_of h ?_ q
  cases d <;> first
    | exact (by decide +kernel : kitB "NoneType" "str" = some false)
    | exact (by decide +kernel : kitB "bool" "str" = some false)
    | exact (by decide +kernel : kitB "int" "str" = some false)
    | exact (by decide +kernel : kitB "str" "str" = some true)
    | exact (by decide +kernel : kitB "list" "str" = some false)
    | exact (by decide +kernel : kitB "tuple" "str" = some false)
    | exact (by decide +kernel : kitB "dict" "str" = some false)
theorem isi_int (h : Dv M H v d) (q : Q (.bl (isInt d)) H) : rIsi K [v, .ty "int"] H Q := by
  refine isi_of h ?_ q
  cases d <;> first
    | exact (by decide +kernel : kitB "NoneType" "int" = some false)
    | exact (by decide +kernel : kitB "bool" "int" = some true)
    | exact (by decide +kernel : kitB "int" "int" = some true)
    | exact (by decide +kernel : kitB "str" "int" = some false)
    | exact (by decide +kernel : kitB "list" "int" = some false)
    | exact (by decide +kernel : kitB "tuple" "int" = some false)
    | exact (by decide +kernel : kitB "dict" "int" = some false)
theorem isi_bool (h : Dv M H v d) (q : Q (.bl (isBool d)) H) : rIsi K [v, .ty "bool"] H Q := by
  refine isi_of h ?_ q
  cases d <;> first
    | exact (by decide +kernel : kitB "NoneType" "bool" = some false)
    | exact (by decide +kernel : kitB "bool" "bool" = some true)
    | exact (by decide +kernel : kitB "int" "bool" = some false)
    | exact (by decide +kernel : kitB "str" "bool" = some false)
    | exact (by decide +kernel : kitB "list" "bool" = some false)
    | exact (by decide +kernel : kitB "tuple" "bool" = some false)
    | exact (by decide +kernel : kitB "dict" "bool" = some false)
end
end SL
set_option Elab.async false
set_option linter.all false
set_option maxRecDepth 100000
set_option maxHeartbeats 2000000
/-! own words, 3: a def as its callers know it; the built-ins' names -/
namespace SL
open PySem PySem.Spec PyProof.Rows L2 GxR NdefX GA
variable [SL.LamT]

/-- a def as its callers know it -/
structure Fnn (P : Program) (w : World) (K : PySem.W.Frag) (mg : Str → Option Value) (base : Heap) (CX : CXT) (k : Nat) (x : Str) (ps : List Str) (sp : Sp) : Prop where
  ex : ∃ (f : Addr) (fd : FuncData), FnOk P w K mg base CX k f fd ps sp ∧ mg x = some (.ref f) ∧ PySem.W.keepIn K (.ref f) = true ∧ Binds K fd ps []
/-- .. and by keywords -/
structure Fnk (P : Program) (w : World) (K : PySem.W.Frag) (mg : Str → Option Value) (base : Heap) (CX : CXT) (k : Nat) (x : Str) (ps ks : List Str) (g : List V → List V → List V) (sp : Sp) : Prop where
  ex : ∃ (f : Addr) (fd : FuncData) (gu : List Value → List Value → List Value), FnOk P w K mg base CX k f fd ps sp ∧ mg x = some (.ref f) ∧ PySem.W.keepIn K (.ref f) = true ∧ KBinds K fd ps ks gu g
section
variable {X : Cx} {CX : CXT} {k j : Nat} {x : Str} {ps ks : List Str} {sp : Sp} {e : Expr} {es : List Expr} {t tk : TA} {p pos : Pos} {E : XK}
theorem pe_fn (F : Fnn X.prog X.w X.K X.mg X.base CX k x ps sp) (hr : Room j X.A) (hk : k ≤ j) (hx : Passes CX X E) (ha : PA X (e :: es) t) (hg : Gl X x := by rfl) (hdb : (x == ("__debug__" : Str)) = false := by decide)
    (he : starEach (e :: es) X.env = (false, eval e X.env) :: starEach es X.env := by rfl) (hpl : (backTo pos (starEach es X.env)).any (·.1) = false := by rfl) : PE X (.Call (.Name x p) (e :: es) [] pos) (tCall sp [] E t) := by
  obtain ⟨f, fd, G, m, kp, b⟩ := F.ex
  exact pe_call G (hr.mono hk) hg m kp b .nil hx ha hdb he hpl
theorem pe_fn0 (F : Fnn X.prog X.w X.K X.mg X.base CX k x ps sp) (hr : Room j X.A) (hk : k ≤ j) (hx : Passes CX X E) (hg : Gl X x := by rfl) (hdb : (x == ("__debug__" : Str)) = false := by decide) : PE X (.Call (.Name x p) [] [] pos) (tCall sp [] E tNil) := by
  obtain ⟨f, fd, G, m, kp, b⟩ := F.ex
  exact pe_call0 G (hr.mono hk) hg m kp b .nil hx hdb
end

/-- no module name hides a built-in that is used -/
structure Bl (mg : Str → Option Value) : Prop where
  isinst : mg "isinstance" = none
  len : mg "len" = none
  all : mg "all" = none
  any : mg "any" = none
  set : mg "set" = none
  range : mg "range" = none
  tuple : mg "tuple" = none
  list : mg "list" = none
  int : mg "int" = none
  str : mg "str" = none
  bool : mg "bool" = none
  repr : mg "repr" = none
section
variable {X : Cx} {a : Expr} {ta : TE} {p q pos : Pos}
/-- isinstance(a, T) of data -/
def rIsiD (T : String) (g : PyData → Bool) : List V → Hp → VK → Prop := fun xs H Q => ∃ (x : V) (M : List Addr) (d : PyData), xs = [x, .ty T] ∧ Dv M H x d ∧ Q (.bl (g d)) H
theorem call_isi_tuple : CallR X (.builtin "isinstance") (rIsiD "tuple" isTuple) := fun pins s σ H xs us Q I r ⟨x, M, d, e, h, q⟩ => call_isi pins s σ H xs us Q I r (by rw [e]; exact isi_tuple h q)
theorem call_isi_str : CallR X (.builtin "isinstance") (rIsiD "str" isStr) := fun pins s σ H xs us Q I r ⟨x, M, d, e, h, q⟩ => call_isi pins s σ H xs us Q I r (by rw [e]; exact isi_str h q)
theorem call_isi_int : CallR X (.builtin "isinstance") (rIsiD "int" isInt) := fun pins s σ H xs us Q I r ⟨x, M, d, e, h, q⟩ => call_isi pins s σ H xs us Q I r (by rw [e]; exact isi_int h q)
theorem call_isi_bool : CallR X (.builtin "isinstance") (rIsiD "bool" isBool) := fun pins s σ H xs us Q I r ⟨x, M, d, e, h, q⟩ => call_isi pins s σ H xs us Q I r (by rw [e]; exact isi_bool h q)
theorem pe_isi_tuple (B : Bl X.mg) (ha : PE X a ta) (h1 : Gl X "isinstance" := by rfl) (h2 : Gl X "tuple" := by rfl)
    (he : starEach (a :: [.Name "tuple" q]) X.env = (false, eval a X.env) :: starEach [.Name "tuple" q] X.env := by rfl) : PE X (.Call (.Name "isinstance" p) [a, .Name "tuple" q] [] pos) (tCB (rIsiD "tuple" isTuple) (tCons ta (tCons (tC (.ty "tuple")) tNil))) :=
  pe_callB call_isi_tuple h1 B.isinst (by decide +kernel) (pa_cons ha (pa_cons (pe_bltn (v := .ty "tuple") h2 B.tuple (by decide +kernel) rfl) pa_nil) he) (by decide) (by decide) he
theorem pe_isi_str (B : Bl X.mg) (ha : PE X a ta) (h1 : Gl X "isinstance" := by rfl) (h2 : Gl X "str" := by rfl)
    (he : starEach (a :: [.Name "str" q]) X.env = (false, eval a X.env) :: starEach [.Name "str" q] X.env := by rfl) : PE X (.Call (.Name "isinstance" p) [a, .Name "str" q] [] pos) (tCB (rIsiD "str" isStr) (tCons ta (tCons (tC (.ty "str")) tNil))) :=
  pe_callB call_isi_str h1 B.isinst (by decide +kernel) (pa_cons ha (pa_cons (pe_bltn (v := .ty "str") h2 B.str (by decide +kernel) rfl) pa_nil) he) (by decide) (by decide) he
theorem pe_isi_int (B : Bl X.mg) (ha : PE X a ta) (h1 : Gl X "isinstance" := by rfl) (h2 : Gl X "int" := by rfl)
    (he : starEach (a :: [.Name "int" q]) X.env = (false, eval a X.env) :: starEach [.Name "int" q] X.env := by rfl) : PE X (.Call (.Name "isinstance" p) [a, .Name "int" q] [] pos) (tCB (rIsiD "int" isInt) (tCons ta (tCons (tC (.ty "int")) tNil))) :=
  pe_callB call_isi_int h1 B.isinst (by decide +kernel) (pa_cons ha (pa_cons (pe_bltn (v := .ty "int") h2 B.int (by decide +kernel) rfl) pa_nil) he) (by decide) (by decide) he
theorem pe_isi_bool (B : Bl X.mg) (ha : PE X a ta) (h1 : Gl X "isinstance" := by rfl) (h2 : Gl X "bool" := by rfl)
    (he : starEach (a :: [.Name "bool" q]) X.env = (false, eval a X.env) :: starEach [.Name "bool" q] X.env := by rfl) : PE X (.Call (.Name "isinstance" p) [a, .Name "bool" q] [] pos) (tCB (rIsiD "bool" isBool) (tCons ta (tCons (tC (.ty "bool")) tNil))) :=
  pe_callB call_isi_bool h1 B.isinst (by decide +kernel) (pa_cons ha (pa_cons (pe_bltn (v := .ty "bool") h2 B.bool (by decide +kernel) rfl) pa_nil) he) (by decide) (by decide) he
/-- len of a list or tuple; of a text -/
theorem pe_lenq (B : Bl X.mg) (ha : PE X a ta) (h1 : Gl X "len" := by rfl) (he : starEach (a :: []) X.env = (false, eval a X.env) :: starEach [] X.env := by rfl) : PE X (.Call (.Name "len" p) [a] [] pos) (tCB (fun xs H Q => ∃ p ys, xs = [.ref p] ∧ (SqL X.K H p ys ∨ SqT X.K H p ys) ∧ Q (.int ys.length) H) (tCons ta tNil)) :=
  pe_callB call_len_seq h1 B.len PySem.boot_len (pa_cons ha pa_nil he) (by decide) (by decide) he
theorem pe_lens (B : Bl X.mg) (ha : PE X a ta) (h1 : Gl X "len" := by rfl) (he : starEach (a :: []) X.env = (false, eval a X.env) :: starEach [] X.env := by rfl) : PE X (.Call (.Name "len" p) [a] [] pos) (tCB (fun xs H Q => ∃ z, xs = [.str z] ∧ z.length ≤ sizeLine ∧ Q (.int z.length) H) (tCons ta tNil)) :=
  pe_callB call_len_str h1 B.len PySem.boot_len (pa_cons ha pa_nil he) (by decide) (by decide) he
end
theorem if_true_of {c : Bool} {A B : Prop} (hc : c = true) (h : A) : if c = true then A else B := by
  rw [if_pos hc]
  exact h
theorem if_false_of {c : Bool} {A B : Prop} (hc : c = false) (h : B) : if c = true then A else B := by
  rw [hc, if_neg Bool.false_ne_true]
  exact h
theorem sz {n : Nat} (h : n ≤ 16777216) : n ≤ sizeLine := by rw [sizeLine_eq]; exact h
end SL
set_option Elab.async false
set_option linter.all false
set_option maxRecDepth 100000
set_option maxHeartbeats 4000000
/-! own words, 4: how many unlike texts a list has: len(set(xs)) -/
namespace SL
open PySem PySem.Spec PyProof.Rows L2 GxR NdefX GA
variable [SL.LamT]

def uniq (l : List Str) : List Str := l.foldl (fun acc x => if x ∈ acc then acc else acc ++ [x]) []
theorem uniq_snoc (l : List Str) (x : Str) : uniq (l ++ [x]) = if x ∈ uniq l then uniq l else uniq l ++ [x] := by
  unfold uniq
  rw [List.foldl_append] <;> rfl
theorem mem_uniq {x : Str} : ∀ {l : List Str}, x ∈ uniq l ↔ x ∈ l := by
  have key : ∀ (l : List Str) (acc : List Str), x ∈ l.foldl (fun acc x => if x ∈ acc then acc else acc ++ [x]) acc ↔ x ∈ acc ∨ x ∈ l := by
    intro l
    induction l with
    | nil => intro acc; simp
    | cons y r ih =>
      intro acc
      rw [List.foldl_cons, ih]
      by_cases h : y ∈ acc
      · rw [if_pos h]
        constructor
        · rintro (h1 | h1)
          · exact .inl h1
          · exact .inr (List.mem_cons_of_mem _ h1)
        · rintro (h1 | h1)
          · exact .inl h1
          · rcases List.mem_cons.mp h1 with rfl | h1
            · exact .inl h
            · exact .inr h1
      · rw [if_neg h, List.mem_append, List.mem_singleton, List.mem_cons]
        constructor
        · rintro ((h1 | h1) | h1)
          · exact .inl h1
          · exact .inr (.inl h1)
          · exact .inr (.inr h1)
        · rintro (h1 | h1 | h1)
          · exact .inl (.inl h1)
          · exact .inl (.inr h1)
          · exact .inr h1
  intro l
  have := key l []
  simpa [uniq] using this
theorem uniq_le : ∀ l : List Str, (uniq l).length ≤ l.length := by
  have key : ∀ (l acc : List Str), (l.foldl (fun acc x => if x ∈ acc then acc else acc ++ [x]) acc).length ≤ acc.length + l.length := by
    intro l
    induction l with
    | nil => intro acc; simp
    | cons y r ih =>
      intro acc
      rw [List.foldl_cons]
      refine Nat.le_trans (ih _) ?_
      split
      · simp only [List.length_cons]; omega
      · simp only [List.length_append, List.length_cons, List.length_nil]; omega
  intro l
  simpa [uniq] using key l []
theorem nodup_uniq : ∀ l : List Str, (uniq l).Nodup := by
  have key : ∀ (l acc : List Str), acc.Nodup → (l.foldl (fun acc x => if x ∈ acc then acc else acc ++ [x]) acc).Nodup := by
    intro l
    induction l with
    | nil => intro acc h; exact h
    | cons y r ih =>
      intro acc h
      rw [List.foldl_cons]
      refine ih _ ?_
      split
      · exact h
      · rename_i hn
        refine List.nodup_append.mpr ⟨h, by simp, fun a ha b hb => ?_⟩
        rw [List.mem_singleton.mp hb]
        exact fun e => hn (e ▸ ha)
  intro l
  exact key l [] (by simp)
/-- all are unlike exactly if as many are counted -/
theorem uniq_len {l : List Str} : (uniq l).length = l.length ↔ l.Nodup := by
  have key : ∀ (l acc : List Str), acc.Nodup → ((l.foldl (fun acc x => if x ∈ acc then acc else acc ++ [x]) acc).length = acc.length + l.length ↔ (acc ++ l).Nodup) := by
    intro l
    induction l with
    | nil => intro acc h; simpa using h
    | cons y r ih =>
      intro acc h
      rw [List.foldl_cons]
      by_cases hy : y ∈ acc
      · rw [if_pos hy]
        have z : (r.foldl (fun acc x => if x ∈ acc then acc else acc ++ [x]) acc).length ≤ acc.length + r.length := by
          have key2 : ∀ (l acc : List Str), (l.foldl (fun acc x => if x ∈ acc then acc else acc ++ [x]) acc).length ≤ acc.length + l.length := by
            intro l
            induction l with
            | nil => intro acc; simp
            | cons y r ih =>
              intro acc
              rw [List.foldl_cons]
              refine Nat.le_trans (ih _) ?_
              split
              · simp only [List.length_cons]; omega
              · simp only [List.length_append, List.length_cons, List.length_nil]; omega
          exact key2 r acc
        constructor
        · intro e
          rw [List.length_cons] at e
          omega
        · intro nd
          have := (List.nodup_append.mp nd).2.2 y hy y List.mem_cons_self
          exact absurd rfl this
      · rw [if_neg hy]
        have nd' : (acc ++ [y]).Nodup := List.nodup_append.mpr ⟨h, by simp, fun a ha b hb => by rw [List.mem_singleton.mp hb]; exact fun e => hy (e ▸ ha)⟩
        have := ih (acc ++ [y]) nd'
        rw [List.length_append, List.length_singleton, List.append_assoc, List.singleton_append] at this
        rw [List.length_cons, ← this]
        constructor <;> intro e <;> omega
  have := key l [] (by simp)
  simpa [uniq] using this

section
variable {prog : Program} {w : World} {A : Around} {R : Result → Shared → Prop} {I : Addr} {fp wr : List Addr} {G : Array GenState → Array GenState → Prop} {n : Nat} {P : Nat → Value → Prop} {St : Nat → Shared → Prop}
/-- each text of the walk is put into the set at S -/
theorem loop_strs (W : WalksS prog w A.in1 I fp wr G n P St) (S : Addr) (hSf : S ∉ fp) (xs : List Str) (hsz : xs.length = n) (hn1 : n + 2 < scanBound)
    (hval : ∀ i v, P i v → ∃ t, v = .str (xs.getD i Str.empty) t) :
    ∀ (k i : Nat) (s : Shared), n - i = k → i ≤ n → St i s →
      s.heap.SetOf (PySem.strKind prog w) S (fun q => decide (q ∈ xs.take i)) (uniq (xs.take i)).length →
      (∀ s', Moved (S :: wr) G s s' → s'.heap.SetOf (PySem.strKind prog w) S (fun q => decide (q ∈ xs)) (uniq xs).length → R (.ok (.ret .none)) s') →
      codeAny (model prog w) A (.builtin "set.update.loop" ⟨[.ref S, .ref I], []⟩) R s := by
  have hSw : S ∉ wr := fun h => hSf (W.sub _ h)
  have up : ∀ b ∈ wr, b ∈ S :: wr := fun b hb => List.mem_cons_of_mem _ hb
  have still : ∀ {s s' : Shared} {q : Str → Bool} {m : Nat}, Moved wr G s s' → s.heap.SetOf (PySem.strKind prog w) S q m → s'.heap.SetOf (PySem.strKind prog w) S q m := fun hm ⟨o, es, ep, t, ho, r⟩ => ⟨o, es, ep, t, hm.heap S _ hSw ho, r⟩
  intro k
  induction k with
  | zero =>
    intro i s hk hi hst hS hR
    have hin : i = n := by omega
    subst hin
    rw [List.take_of_length_le (by omega)] at hS
    refine codeAny_builtin PyProof.Rows.F.entry_set_update_loop ?_
    rw [Around.under_plainId PyProof.Rows.F.plain_set_update_loop _]
    show wpAny _ A.in1 (pyNext (.ref I) >>= _) _ _ s
    exact wpAny_bind (W.done s _ _ hst fun s' hm => wpAny_pure (hR s' (hm.mono up) (still hm hS)))
  | succ k ih =>
    intro i s hk hi hst hS hR
    have hlt : i < n := by omega
    have hlx : i < xs.length := by omega
    refine codeAny_builtin PyProof.Rows.F.entry_set_update_loop ?_
    rw [Around.under_plainId PyProof.Rows.F.plain_set_update_loop _]
    show wpAny _ A.in1 (pyNext (.ref I) >>= _) _ _ s
    refine wpAny_bind (W.item i s _ _ hlt hst fun v s' hP hst' hm => ?_)
    obtain ⟨t, rfl⟩ := hval i v hP
    have hS' := still hm hS
    show wpAny _ A.in1 (holding [Value.str (xs.getD i Str.empty) t] (setAdd S (.str (xs.getD i Str.empty) t)) >>= _) _ _ s'
    refine wpAny_bind (wpAny_holding ?_)
    unfold setAdd
    refine wpAny_holding (wpAny_bind ((PySem.strKind prog w).pyHash (k := xs.getD i Str.empty) (strKind_is _ _ _ _) ?_))
    have hcnt : (uniq (xs.take i)).length + 1 < scanBound := by
      have := uniq_le (xs.take i)
      rw [List.length_take] at this
      omega
    refine wpAny_setAddHashed_of (knd := PySem.strKind prog w) (s := { s' with toks := s'.toks + 1 }) (strKind_is _ _ _ _) rfl hS' hcnt fun h' hsb hS2 => ?_
    have et : xs.take (i + 1) = xs.take i ++ [xs.getD i Str.empty] := by
      rw [List.take_add_one, List.getD_eq_getElem?_getD, List.getElem?_eq_getElem hlx] <;> rfl
    have hSi : h'.SetOf (PySem.strKind prog w) S (fun q => decide (q ∈ xs.take (i + 1))) (uniq (xs.take (i + 1))).length := by
      refine SetOf_congr hS2 (fun q => ?_) ?_
      · rw [et]
        simp [List.mem_append]
      · rw [et, uniq_snoc]
        by_cases hm2 : xs.getD i Str.empty ∈ xs.take i
        · rw [if_pos (mem_uniq.mpr hm2), if_pos (decide_eq_true hm2)]
        · rw [if_neg (fun z => hm2 (mem_uniq.mp z)), if_neg (by simpa using hm2), List.length_append, List.length_singleton]
    refine wpAny_pure ⟨plainId_quiet PyProof.Rows.F.plain_set_update_loop _, ih (i + 1) _ (by omega) hlt (W.frame _ s' _ _ hst' (Nat.le_succ _) fun b hb o e => ?_) hSi fun s'' hm'' hS'' => ?_⟩
    · rw [hsb.2 b (fun h : b = S => hSf (by rw [← h]; exact hb))]; exact e
    · refine hR s'' (Moved.trans W.gtrans ((hm.mono up).then_heap (Nat.le_succ _) fun b o hb e => ?_) hm'') hS''
      rw [hsb.2 b (fun h : b = S => hb (by rw [h]; exact List.mem_cons_self))]; exact e
end

section
variable {prog : Program} {w : World} {A : Around} {E : Value → Shared → Prop} {s : Shared}
theorem set_of_strs {l : Addr} {items : Array Value} {xs : List Str} {Q : Value → Shared → Prop}
    (hh : A.handled = none) (hl : s.heap.IsList l items) (hi : PyProof.Rows.StrsAre items.toList xs) (hn1 : xs.length + 2 < scanBound)
    (h : ∀ (h' : Heap) (tk : Nat), h'.SetOf (PySem.strKind prog w) s.heap.objs.size (fun q => decide (q ∈ xs)) (uniq xs).length →
      (∀ b o, b < s.heap.objs.size → s.heap.get? b = some o → h'.get? b = some o) → Q (.ref s.heap.objs.size) { s with heap := h', toks := tk }) :
    wpAny (model prog w) A (call (.type "set") [.ref l]) Q E s := by
  obtain ⟨c, tl, hmro⟩ := PySem.F.called_set.mro
  have hmade := PySem.F.called_set.made
  have hsub := PySem.F.called_set.sub
  refine wpAny_call (codeAny_of_tree ?_)
  show wpAny _ _ (callAny (.type "set") _) _ _ _
  refine wpAny_pure ⟨Code.quiet_builtin _ (by decide +kernel), codeAny_builtin PySem.F.entry_type_call ?_⟩
  rw [Around.under_plain (weight_type_call_type "set" [.ref l] []) rfl]
  have h1 := PySem.F.called_set.notType
  have h2 := PySem.F.called_set.canCreate
  have hct := PySem.F.typeCall_set_1 (.ref l)
  repeat (any_goals (first | assumption | wp_step))
  refine codeAny_mono (code_set_new_1 (.ref l) (E := E) (Q₁ := fun obj s₁ => ∃ led : Bool, obj = .ref s.heap.objs.size ∧ s₁ = { s with heap := s.heap.push { cls := .type "set", dict := none, data := .set #[] 0 (.fresh 0 0 led) } }) fun led => ⟨led, rfl, rfl⟩) fun r s₁ hr => ?_
  cases r with
  | error e => exact hr
  | ok fl =>
    cases fl with
    | ret obj =>
      obtain ⟨led, rfl, rfl⟩ := hr
      generalize hso : ({ cls := .type "set", dict := none, data := .set #[] 0 (.fresh 0 0 led) } : Obj) = so
      have hS : (s.heap.push so).get? s.heap.objs.size = some so := Heap.get?_push_size _ (by rw [← hso] <;> rfl)
      have hT : Shared.TypeIs { s with heap := s.heap.push so } (.ref s.heap.objs.size) "set" := ⟨_, hS, by rw [← hso]⟩
      have hli := PySem.F.called_set.init.lookup
      have hbi := PySem.F.called_set.init.bind (.ref s.heap.objs.size)
      repeat (any_goals (first | assumption | wp_step))
      refine codeAny_mono (codeAny_call_builtin (R := wants (fun r s₂ => r = .none ∧ ∃ h' tk, s₂ = { s with heap := h', toks := tk } ∧
          h'.SetOf (PySem.strKind prog w) s.heap.objs.size (fun q => decide (q ∈ xs)) (uniq xs).length ∧
          (∀ b o, b < s.heap.objs.size → s.heap.get? b = some o → h'.get? b = some o)) E) PySem.F.called_set.init.plain PySem.F.entry_set_init (check_set_init_1 hT ?_)) fun r₂ s₂ hr₂ => ?_
      · obtain ⟨ol, hol, hcl, nl, hdl⟩ := hl
        obtain ⟨ocls, odict, odata, oslots⟩ := ol
        simp only at hcl hdl
        subst hcl; subst hdl
        subst hso
        have hol' : (s.heap.push { cls := .type "set", dict := none, data := .set #[] 0 (.fresh 0 0 led) }).get? l = some { cls := .type "list", dict := odict, data := .seq items nl, slots := oslots } := Heap.get?_push_of_some _ hol
        have hsls := PySem.F.sub_list_set
        have hslf := PySem.F.sub_list_frozenset
        have hne : (Value.type "list" == Value.type "dict") = false := by decide
        have hl1 : (s.heap.push { cls := .type "set", dict := none, data := .set #[] 0 (.fresh 0 0 led) }).IsList l items := ⟨_, hol', rfl, nl, rfl⟩
        unfold Builtin.«set.__init__» noKeywords Builtin.Frozenset.updateFrom
        generalize hPI : pyIter = PI
        wp_walk
        subst hPI
        refine wpAny_pyIter_list hl1 ?_
        refine wpAny_bind (wpAny_runValue ?_)
        have hlS : l < s.heap.objs.size := Heap.lt_size hol
        have hh3 : A.in1.in1.in1.handled = none := by simp [hh]
        have szp : ∀ o : Obj, (s.heap.push o).objs.size = s.heap.objs.size + 1 := fun o => Heap.size_push ..
        have hneI : l ≠ (s.heap.push { cls := .type "set", dict := none, data := .set #[] 0 (.fresh 0 0 led) }).objs.size := by
          rw [szp]; exact Nat.ne_of_lt (Nat.lt_succ_of_lt hlS)
        have hSf : s.heap.objs.size ∉ [(s.heap.push { cls := .type "set", dict := none, data := .set #[] 0 (.fresh 0 0 led) }).objs.size, l] := by
          rw [szp]; simp only [List.mem_cons, List.not_mem_nil, or_false, not_or]
          exact ⟨Nat.ne_of_lt (Nat.lt_succ_self _), Nat.ne_of_gt hlS⟩
        have hsz : xs.length = items.size := by rw [← StrsAre.len_eq hi, Array.length_toList]
        have hval : ∀ (i : Nat) (v : Value), items[i]? = some v → ∃ t, v = .str (xs.getD i Str.empty) t := fun i v hv => SS.strs_at hi i v (by rw [Array.getElem?_toList]; exact hv)
        refine loop_strs ((Walks.list hh3 _ l hneI items).toS) s.heap.objs.size
          hSf xs hsz (by rw [← hsz]; exact hn1) hval (items.size - 0) 0 _ (by omega) (Nat.zero_le _)
          ⟨⟨_, Heap.get?_push_size _ rfl, rfl, rfl⟩, (hl1.push _)⟩ ?hS0 ?hR
        case hS0 =>
          have hget : ((s.heap.push { cls := .type "set", dict := none, data := .set #[] 0 (.fresh 0 0 led) }).push { cls := .type "list_iterator", data := .fields #[.ref l, .int 0 0] }).get? s.heap.objs.size
              = some { cls := .type "set", dict := none, data := .set #[] 0 (.fresh 0 0 led) } := Heap.get?_push_of_some _ hS
          exact PyProof.Rows.SetOf_congr ((PyProof.Rows.setObjOf_fresh (knd := PySem.strKind prog w) led).setOf hget (by unfold scanBound; omega)) (fun _ => by simp) rfl
        case hR =>
          intro s' hm hS'
          obtain ⟨h', g', d', tk', os'⟩ := s'
          have eg : g' = s.gens := hm.gens
          have ed : d' = s.drawn := hm.drawn
          have eo : os' = s.os := hm.os
          subst eg; subst ed; subst eo
          show wpAny _ _ _ _ _ _
          refine wpAny_pure ?_
          show wpAny _ _ (ret Value.none) _ _ _
          refine wpAny_pure ⟨rfl, h', tk', rfl, hS', fun b o hb e => ?_⟩
          have hb1 : b ≠ s.heap.objs.size := Nat.ne_of_lt hb
          have hb2 : b ≠ (s.heap.push { cls := .type "set", dict := none, data := .set #[] 0 (.fresh 0 0 led) }).objs.size := by
            rw [szp]; exact Nat.ne_of_lt (Nat.lt_succ_of_lt hb)
          exact hm.heap b o (by simp only [List.mem_cons, List.not_mem_nil, or_false, not_or]; exact ⟨hb1, hb2⟩) (Heap.get?_push_of_some _ (Heap.get?_push_of_some _ e))
      · cases r₂ with
        | error e => exact hr₂
        | ok fl₂ =>
          cases fl₂ with
          | ret r =>
            obtain ⟨rfl, h', tk, rfl, hS', hk'⟩ := hr₂
            repeat (any_goals (first | assumption | wp_step))
            exact h _ _ hS' hk'
          | _ => exact hr₂.elim
    | _ => exact hr.elim
end

section
variable {X : Cx} {a : Expr} {ta : TE} {p p2 q pos : Pos}
/-- len(set(xs)), xs a list of texts -/
def tLenU (K : PySem.W.Frag) (ta : TE) : TE := fun σ H Q => ta σ H fun x H1 => ∃ (l : Addr) (xs : List Str), x = .ref l ∧ SqL K H1 l (xs.map V.str) ∧ xs.length ≤ 4000 ∧ Q (.int (uniq xs).length) H1
theorem pe_lenU (B : Bl X.mg) (ha : PE X a ta) (hc : X.calm = true := by rfl) (hg : Gl X "len" := by rfl) (hg2 : Gl X "set" := by rfl)
    (na : starEach [a] X.env = (false, eval a X.env) :: starEach [] X.env := by rfl) : PE X (.Call (.Name "len" p) [.Call (.Name "set" p2) [a] [] q] [] pos) (tLenU X.K ta) := by
  refine ⟨fun pins s σ H Q I h => ?_⟩
  refine Call_ (ld_blt I hg B.len boot_len ?_)
  refine PyProof.Rows.callWith_builtin1 (PyProof.Rows.args_cons ?_ rfl) rfl rfl
  refine Call_ (ld_blt I hg2 B.set boot_set ?_)
  refine PyProof.Rows.callWith_type1 (PyProof.Rows.args_cons (thn (ha.run pins s σ H _ I h) fun v s1 ⟨x, H1, I1, r1, l, xs, ex, hq, h1, q1⟩ => PyProof.Rows.args_nil ?_) na) na rfl
  subst ex
  cases r1
  obtain ⟨its, r, pl, hz⟩ := I1.list hq
  refine set_of_strs (I1.ok.hd hc) pl.isList (by simpa using strsAre_of r) (by unfold scanBound; omega) fun h' tk hS hk => ?_
  refine PyProof.Rows.args_nil ?_
  have hle := uniq_le xs
  obtain ⟨o, es, ep, t, ho, hex, hd, _, _, _, hf, hn⟩ := hS
  have I2 : Inv X pins σ H1 { s1 with heap := h', toks := tk } := I1.kept fun b o e => hk b o (Heap.lt_size e) e
  refine call_len_set ho hex hd hf (by rw [hn] <;> omega) ⟨.int (uniq xs).length, H1, I2.tok _, ⟨_, by rw [hn]⟩, q1⟩
end
end SL
set_option Elab.async false
set_option linter.all false
set_option maxRecDepth 100000
set_option maxHeartbeats 2000000
/-! own words, 5: the size of data (no less than its repr's), kinds as data -/
namespace SL
open PySem PySem.Spec PyProof.Rows L2 GxR NdefX GA
variable [SL.LamT]
mutual
/-- no less than the signs of the repr -/
def wt : PyData → Nat
  | .none => 4
  | .bool _ => 5
  | .int i => (Str.ofString (toString i)).length + 4
  | .str x => 12 * x.length + 4
  | .list xs => wtAll xs + 4
  | .tuple xs => wtAll xs + 4
  | .dict kvs => 4 + 16777217 * kvs.length
def wtAll : List PyData → Nat
  | [] => 0
  | x :: xs => wt x + 2 + wtAll xs
end
theorem wtAll_append : ∀ (xs ys : List PyData), wtAll (xs ++ ys) = wtAll xs + wtAll ys
  | [], ys => by simp [wtAll]
  | x :: xs, ys => by
    have := wtAll_append xs ys
    simp only [List.cons_append, wtAll]
    omega
theorem wtAll_len : ∀ (xs : List PyData), 2 * xs.length ≤ wtAll xs
  | [] => by simp [wtAll]
  | x :: xs => by
    have := wtAll_len xs
    simp only [List.length_cons, wtAll]
    omega
theorem wtAll_take (xs : List PyData) (n : Nat) : wtAll (xs.take n) ≤ wtAll xs := by
  have := wtAll_append (xs.take n) (xs.drop n)
  rw [List.take_append_drop] at this
  omega
theorem wtAll_drop (xs : List PyData) (n : Nat) : wtAll (xs.drop n) ≤ wtAll xs := by
  have := wtAll_append (xs.take n) (xs.drop n)
  rw [List.take_append_drop] at this
  omega
theorem wt_get : ∀ {xs : List PyData} {i : Nat} {d : PyData}, xs[i]? = some d → wt d + 2 ≤ wtAll xs
  | [], _, _, h => by simp at h
  | x :: xs, 0, d, h => by
    simp at h
    subst h
    simp only [wtAll]
    omega
  | x :: xs, i + 1, d, h => by
    have := wt_get (xs := xs) (i := i) (d := d) (by simpa using h)
    simp only [wtAll]
    omega
theorem wt_mem {xs : List PyData} {d : PyData} (h : d ∈ xs) : wt d + 2 ≤ wtAll xs := by
  obtain ⟨i, hi⟩ := List.mem_iff_getElem?.mp h
  exact wt_get hi

/-! ### names as the document has them -/
def upC (c : Nat) : Bool := decide (65 ≤ c) && decide (c ≤ 90)
def loC (c : Nat) : Bool := decide (97 ≤ c) && decide (c ≤ 122)
def diC (c : Nat) : Bool := decide (48 ≤ c) && decide (c ≤ 57)
def anC (c : Nat) : Bool := upC c || loC c || diC c
def kept (x : Str) : Bool := decide (x = "fun") || decide (x = "kind") || decide (x = "number")
/-- a name -/
def nameS (x : Str) : Bool := decide (1 ≤ x.length) && decide (x.length ≤ 10) && x.cps.toList.all anC && (match x.cps.toList with | c :: _ => upC c || loC c | [] => false) && !kept x
def highS (x : Str) : Bool := nameS x && (match x.cps.toList with | c :: _ => upC c | [] => false)
def lowS (x : Str) : Bool := nameS x && (match x.cps.toList with | c :: _ => loC c | [] => false)
def highD : PyData → Bool
  | .str x => highS x
  | _ => false
/-! ### kinds -/
def tupB (d : PyData) (l m : Int) : Bool := match d with
  | .tuple xs => decide (l ≤ (xs.length : Int)) && decide ((xs.length : Int) ≤ m)
  | _ => false
def fstD : PyData → PyData
  | .tuple (a :: _) => a
  | _ => .none
def sndD : PyData → PyData
  | .tuple (_ :: b :: _) => b
  | _ => .none
def itemsD : PyData → List PyData
  | .tuple l => l
  | _ => []
def strD : PyData → Str
  | .str x => x
  | _ => Str.empty
def makerB (d : PyData) : Bool := tupB d 2 2 && highD (fstD d) && tupB (sndD d) 0 4 && (itemsD (sndD d)).all isStr
def kindB (d : PyData) : Bool := tupB d 2 2 && highD (fstD d) && tupB (sndD d) 1 6 && (itemsD (sndD d)).all makerB
def titlesD (d : PyData) : List PyData := (itemsD d).map fstD
def makersD (d : PyData) : List PyData := (itemsD d).flatMap fun k => itemsD (sndD k)
def mnamesD (d : PyData) : List PyData := (makersD d).map fstD
def fieldsD (d : PyData) : List PyData := (makersD d).flatMap fun m => itemsD (sndD m)
def unl (l : List PyData) : Bool := decide ((l.map strD).Nodup)
def fieldOk (d : PyData) (f : PyData) : Bool := decide (strD f = "number") || decide (strD f ∈ (titlesD d).map strD)
/-- kinds -/
def kindsB (d : PyData) : Bool := tupB d 1 6 && (itemsD d).all kindB && unl (titlesD d) && unl (mnamesD d) && (fieldsD d).all (fieldOk d)
theorem tup2 {d : PyData} (h : tupB d 2 2 = true) : ∃ x y, d = .tuple [x, y] := by
  cases d with
  | tuple xs =>
    simp only [tupB, Bool.and_eq_true, decide_eq_true_eq] at h
    match xs, h with
    | [x, y], _ => exact ⟨x, y, rfl⟩
    | [], h => simp at h
    | [_], h => simp at h
    | _ :: _ :: _ :: r, h => simp only [List.length_cons] at h; omega
  | _ => simp [tupB] at h
theorem tupOf {d : PyData} {l m : Int} (h : tupB d l m = true) : ∃ xs, d = .tuple xs ∧ l ≤ (xs.length : Int) ∧ (xs.length : Int) ≤ m := by
  cases d with
  | tuple xs =>
    simp only [tupB, Bool.and_eq_true, decide_eq_true_eq] at h
    exact ⟨xs, rfl, h.1, h.2⟩
  | _ => simp [tupB] at h
theorem dv_pair {M : List Addr} {H : Hp} {v : V} {x y : PyData} (h : Dv M H v (.tuple [x, y])) : ∃ a vx vy, v = .ref a ∧ H a = some (.tup [vx, vy]) ∧ a ∉ M ∧ Dv M H vx x ∧ Dv M H vy y := by
  cases h with
  | tup e n r =>
    cases r with
    | cons h1 r =>
      cases r with
      | cons h2 r =>
        cases r
        exact ⟨_, _, _, rfl, e, n, h1, h2⟩
theorem dv_tup {M : List Addr} {H : Hp} {v : V} {xs : List PyData} (h : Dv M H v (.tuple xs)) : ∃ a vs, v = .ref a ∧ H a = some (.tup vs) ∧ a ∉ M ∧ DvAll M H vs xs := by
  cases h with
  | tup e n r => exact ⟨_, _, rfl, e, n, r⟩
theorem wt_pair (x y : PyData) : wt (.tuple [x, y]) = wt x + wt y + 8 := by
  simp only [wt, wtAll]
  omega
theorem wt_tup (xs : List PyData) : wt (.tuple xs) = wtAll xs + 4 := by simp only [wt]
end SL
set_option Elab.async false
set_option linter.all false
set_option maxRecDepth 100000
set_option maxHeartbeats 2000000
/-! own words, 6: signs below 128 -/
namespace SL
open PySem PySem.Spec PyProof.Rows L2 GxR NdefX GA
variable [SL.LamT]
theorem sign_tab : (List.range 128).all (fun c => (Unicode.isAlnum c == anC c) && (Unicode.isAlpha c == (upC c || loC c)) && ((Unicode.isUpper c && !(Unicode.isLower c || Unicode.isTitle c)) == upC c) && ((Unicode.isLower c && !(Unicode.isUpper c || Unicode.isTitle c)) == loC c)) = true := by decide +kernel
theorem sign_at {c : Nat} (h : c < 128) : Unicode.isAlnum c = anC c ∧ Unicode.isAlpha c = (upC c || loC c) ∧ (Unicode.isUpper c && !(Unicode.isLower c || Unicode.isTitle c)) = upC c ∧ (Unicode.isLower c && !(Unicode.isUpper c || Unicode.isTitle c)) = loC c := by
  have := List.all_eq_true.mp sign_tab c (List.mem_range.mpr h)
  simp only [Bool.and_eq_true, beq_iff_eq] at this
  obtain ⟨⟨⟨h1, h2⟩, h3⟩, h4⟩ := this
  exact ⟨h1, h2, h3, h4⟩
theorem anC_lt {c : Nat} (h : anC c = true) : c < 128 := by
  unfold anC upC loC diC at h
  simp only [Bool.or_eq_true, Bool.and_eq_true, decide_eq_true_eq] at h
  omega
theorem run_iff (x : Str) : (Txt.isascii x && Txt.isalnum x) = (decide (1 ≤ x.length) && x.cps.toList.all anC) := by
  unfold Txt.isascii Txt.isalnum
  rw [Bool.eq_iff_iff]
  simp only [Bool.and_eq_true, Array.all_eq_true_iff_forall_mem, decide_eq_true_eq, List.all_eq_true, Array.mem_toList_iff]
  constructor
  · rintro ⟨h1, h2, h3⟩
    exact ⟨by have : x.length > 0 := h2; omega, fun c hc => by rw [← (sign_at (h1 c hc)).1]; exact h3 c hc⟩
  · rintro ⟨h1, h2⟩
    exact ⟨fun c hc => anC_lt (h2 c hc), by show x.length > 0; omega, fun c hc => by rw [(sign_at (anC_lt (h2 c hc))).1]; exact h2 c hc⟩
theorem alpha1 {c : Nat} (h : c < 128) : Txt.isalpha ⟨#[c]⟩ = (upC c || loC c) := by
  unfold Txt.isalpha
  rw [← (sign_at h).2.1]
  simp [Str.length]
theorem upper1 {c : Nat} (h : c < 128) : Txt.isupper ⟨#[c]⟩ = upC c := by
  unfold Txt.isupper
  rw [← (sign_at h).2.2.1]
  simp
theorem lower1 {c : Nat} (h : c < 128) : Txt.islower ⟨#[c]⟩ = loC c := by
  unfold Txt.islower
  rw [← (sign_at h).2.2.2]
  simp
theorem inV_strs (x : Str) : ∀ l : List Str, inV (.str x) (l.map V.str) = decide (x ∈ l)
  | [] => rfl
  | y :: r => by
    have ih := inV_strs x r
    unfold inV at ih ⊢
    rw [List.map_cons, List.any_cons, ih]
    have e : eqV (.str y) (.str x) = decide (x = y) := by
      unfold eqV
      first
        | (by_cases h : x = y
           · subst h; simp
           · simp [h, Ne.symm h])
    rw [e]
    by_cases h : x = y
    · subst h; simp
    · simp [h]
theorem goQ {Q : VK} {H : Hp} {b c : Bool} (q : Q (.bl b) H) (e : b = c) : Q (.bl c) H := by rw [← e]; exact q
theorem cons_of_len {x : Str} (h : 1 ≤ x.length) : ∃ c r, x.cps.toList = c :: r := by
  have e : x.length = x.cps.toList.length := by simp [Str.length]
  cases q : x.cps.toList with
  | nil => rw [e, q] at h; simp at h
  | cons c r => exact ⟨c, r, rfl⟩
end SL
set_option Elab.async false
set_option linter.all false
set_option maxRecDepth 100000
set_option maxHeartbeats 2000000
/-! own words, 7: a def whose code object is known -/
namespace SL
open PySem PySem.Spec PyProof.Rows L2 GxR NdefX GA
variable [SL.LamT]
/-- a def of the top whose code object stands at c -/
structure FunT (K : PySem.W.Frag) (x qual : Str) (st : Stmt) (f : Addr) (fd : FuncData) (c : Addr) : Prop where
  ex : ∃ (oc : Value) (od : Option Addr) (kV doc pm : Value) (an : Option Addr) (ct : Value) (osl : Array (Option Value)),
    fd = PySem.W.fnOf x qual (defArgs st) (defBody st) (defScope st) .none kV doc pm an (.ref c) ct ∧ K.lookup f = some ⟨oc, od, .func fd, osl⟩ ∧ PySem.W.codeIn K (.ref c) qual = true
  kp : PySem.W.keepIn K (.ref f) = true
section
variable {P : Program} {w : World} {K : PySem.W.Frag} {mg : Str → Option Value} {base : Heap} {x qual : Str} {st : Stmt} {f c : Addr} {fd : FuncData} {N ps : List Str} {k : Nat} {sp : Sp}
theorem FunT.fn (F : FunT K x qual st f fd c) : Fun K x qual st f fd := by
  obtain ⟨oc, od, kV, doc, pm, an, ct, osl, e, l, h⟩ := F.ex
  exact ⟨⟨oc, od, kV, doc, pm, an, _, ct, osl, e, l, h⟩, F.kp⟩
theorem FunT.ok (F : FunT K x qual st f fd c) (S : FnScope N ps (defScope st)) (len : ∀ vs H Q E, sp vs H Q E → vs.length = ps.length)
    (hbody : ∀ (A : Around) (outer : List Env) (s : Shared) (H : Hp) (vs : List V) (Q : VK) (E : XK), Room k (A.deeper (envOfC qual (defScope st) s.heap.objs.size f (.ref c))) → sp vs H Q E →
      ∃ t, PSs (cxOf CX0 P w K mg base N qual (defScope st) f (.ref c) A outer s H E).nox (defBody st) t ∧ t { nx := fun _ H' => Q .non H', rt := Q } (start N vs) H) : FnOk P w K mg base CX0 (k + 1) f fd ps sp := by
  obtain ⟨oc, od, kV, doc, pm, an, ct, osl, rfl, lk, hcd⟩ := F.ex
  refine fn_of lk hcd S len fun A outer s H vs Q E hr hsp => ?_
  obtain ⟨t, h, q⟩ := hbody A outer s H vs Q E hr hsp
  exact ⟨t, h.nox, q⟩
theorem FunT.okX (F : FunT K x qual st f fd c) (S : FnScope N ps (defScope st)) (len : ∀ vs H Q E, sp vs H Q E → vs.length = ps.length)
    (hbody : ∀ (A : Around) (outer : List Env) (s : Shared) (H : Hp) (vs : List V) (Q : VK) (E : XK), Room k (A.deeper (envOfC qual (defScope st) s.heap.objs.size f (.ref c))) → sp vs H Q E →
      ∃ t, PSs (cxOf (L2.CX P w) P w K mg base N qual (defScope st) f (.ref c) A outer s H E) (defBody st) t ∧ t { nx := fun _ H' => Q .non H', rt := Q } (start N vs) H) : FnOk P w K mg base (L2.CX P w) (k + 1) f fd ps sp := by
  obtain ⟨oc, od, kV, doc, pm, an, ct, osl, rfl, lk, hcd⟩ := F.ex
  exact fn_of lk hcd S len hbody
end
section
variable {X : Cx} {T M : List Addr} {H : Hp} {K : PySem.W.Frag} {P a : Addr} {xs : List V} {ds : List PyData}
/-- the reading of all(test(x) for x in t), t a tuple of data, x in the slot j: b the truth of each -/
theorem all_tup {te : TE} {σ0 : L2.St} {Q : VK} {b : PyData → Bool} {j : Nat} (hx : H a = some (.tup xs)) (ha : a ∉ M) (hd : DvAll M H xs ds) (ht : Tabs T H) (hP : P ∈ T)
    (hb : ∀ (x : V) (d : PyData) (H' : Hp) (R : VK), d ∈ ds → Dv M H' x d → Go T M H H' → Tabs T H' → (∀ H'' , Go T M H' H'' → Tabs T H'' → R (.bl (b d)) H'') → te (σ0.set j (some x)) H' R)
    (hq : ∀ H', Go T M H H' → Tabs T H' → Q (.bl (ds.all b)) H') :
    TabG H P ∧ ∀ H2, Tabbed P H H2 → ∃ W, (∃ m, W 0 m σ0 H2) ∧ GTurn (Itt K a) (gName j) te W (fun H' => Q (.bl (!false)) H') (KB false W fun b H' => Q (.bl b) H') := by
  refine ⟨ht P hP, fun H2 tb => ?_⟩
  have hl := hd.length
  have g2 : Go T M H H2 := Go.tbd hP (ht P hP) tb
  refine ⟨fun i m σ H' => m = xs.length - i ∧ i ≤ xs.length ∧ Go T M H H' ∧ Tabs T H' ∧ (∀ v, σ.set j v = σ0.set j v) ∧ (ds.take i).all b = true, ⟨xs.length, rfl, Nat.zero_le _, g2, g2.tb ht, fun _ => rfl, by simp⟩, ?_⟩
  rintro i m σ H' ⟨rfl, hi, gg, tt, hs, hall⟩
  have hx' : SqT K H' a xs := SqT.of (gg.tup hx ha)
  by_cases hlt : i < xs.length
  · refine .inr ⟨⟨xs, xs[i], hx', by simp [hlt]⟩, by omega, fun x H'' y => ?_⟩
    obtain ⟨e, y⟩ := y
    subst e
    have ex : xs[i]? = some x := y xs hx'
    obtain ⟨d, ed, hv⟩ := hd.get ex
    show te (σ.set j (some x)) H'' _
    rw [hs]
    refine hb x d H'' _ (List.mem_of_getElem? ed) (hv.go gg) gg tt fun H3 g3 t3 => ?_
    refine ⟨b d, rfl, ?_⟩
    have et : ds.take (i + 1) = ds.take i ++ [d] := by rw [List.take_add_one, ed] <;> rfl
    cases c : b d with
    | true =>
      rw [if_neg (by simp)]
      exact ⟨xs.length - (i + 1), by omega, rfl, hlt, gg.trans g3, t3, fun v => by rw [List.set_set], by rw [et, List.all_append, hall]; simp [c]⟩
    | false =>
      rw [if_pos rfl]
      have : ds.all b = false := by
        rw [List.all_eq_false]
        exact ⟨d, List.mem_of_getElem? ed, by rw [c]; simp⟩
      rw [← this]
      exact hq H3 (gg.trans g3) t3
  · have e : i = xs.length := by omega
    subst e
    rw [hl, List.take_length] at hall
    refine .inl ⟨⟨xs, hx', Nat.le_refl _⟩, ?_⟩
    have := hq H' gg tt
    rw [hall] at this
    exact this
/-- .. over a list of data -/
theorem all_lst {te : TE} {σ0 : L2.St} {Q : VK} {b : PyData → Bool} {j : Nat} (hx : H a = some (.lst xs)) (ha : a ∉ M) (hd : DvAll M H xs ds) (ht : Tabs T H) (hP : P ∈ T)
    (hb : ∀ (x : V) (d : PyData) (H' : Hp) (R : VK), d ∈ ds → Dv M H' x d → Go T M H H' → Tabs T H' → (∀ H'' , Go T M H' H'' → Tabs T H'' → R (.bl (b d)) H'') → te (σ0.set j (some x)) H' R)
    (hq : ∀ H', Go T M H H' → Tabs T H' → Q (.bl (ds.all b)) H') :
    TabG H P ∧ ∀ H2, Tabbed P H H2 → ∃ W, (∃ m, W 0 m σ0 H2) ∧ GTurn (Itl K a) (gName j) te W (fun H' => Q (.bl (!false)) H') (KB false W fun b H' => Q (.bl b) H') := by
  refine ⟨ht P hP, fun H2 tb => ?_⟩
  have hl := hd.length
  have g2 : Go T M H H2 := Go.tbd hP (ht P hP) tb
  refine ⟨fun i m σ H' => m = xs.length - i ∧ i ≤ xs.length ∧ Go T M H H' ∧ Tabs T H' ∧ (∀ v, σ.set j v = σ0.set j v) ∧ (ds.take i).all b = true, ⟨xs.length, rfl, Nat.zero_le _, g2, g2.tb ht, fun _ => rfl, by simp⟩, ?_⟩
  rintro i m σ H' ⟨rfl, hi, gg, tt, hs, hall⟩
  have hx' : SqL K H' a xs := SqL.of (gg.lst hx ha)
  by_cases hlt : i < xs.length
  · refine .inr ⟨⟨xs, xs[i], hx', by simp [hlt]⟩, by omega, fun x H'' y => ?_⟩
    obtain ⟨e, y⟩ := y
    subst e
    have ex : xs[i]? = some x := y xs hx'
    obtain ⟨d, ed, hv⟩ := hd.get ex
    show te (σ.set j (some x)) H'' _
    rw [hs]
    refine hb x d H'' _ (List.mem_of_getElem? ed) (hv.go gg) gg tt fun H3 g3 t3 => ?_
    refine ⟨b d, rfl, ?_⟩
    have et : ds.take (i + 1) = ds.take i ++ [d] := by rw [List.take_add_one, ed] <;> rfl
    cases c : b d with
    | true =>
      rw [if_neg (by simp)]
      exact ⟨xs.length - (i + 1), by omega, rfl, hlt, gg.trans g3, t3, fun v => by rw [List.set_set], by rw [et, List.all_append, hall]; simp [c]⟩
    | false =>
      rw [if_pos rfl]
      have : ds.all b = false := by
        rw [List.all_eq_false]
        exact ⟨d, List.mem_of_getElem? ed, by rw [c]; simp⟩
      rw [← this]
      exact hq H3 (gg.trans g3) t3
  · have e : i = xs.length := by omega
    subst e
    rw [hl, List.take_length] at hall
    refine .inl ⟨⟨xs, hx', Nat.le_refl _⟩, ?_⟩
    have := hq H' gg tt
    rw [hall] at this
    exact this
end
end SL
set_option Elab.async false
set_option linter.all false
set_option maxRecDepth 100000
set_option maxHeartbeats 2000000
/-! own words, 8: comprehensions over data of pairs -/
namespace SL
open PySem PySem.Spec PyProof.Rows L2 GxR NdefX GA
variable [SL.LamT]
section
variable {T M : List Addr} {H0 H1 : Hp} {K : PySem.W.Frag} {J : It} {G : Hp → Prop} {xs : List V} {ds : List PyData} {D : Addr} {Qd : Hp → Prop} {σ : L2.St}
theorem iteYes {A B : Prop} (h : A) : if true = true then A else B := by rw [if_pos rfl]; exact h
theorem dv_two {M : List Addr} {H : Hp} {v : V} {x y : PyData} (h : Dv M H v (.tuple [x, y])) : ∃ a vx vy, v = .ref a ∧ H a = some (.tup [vx, vy]) ∧ a ∉ M ∧ Dv M H vx x ∧ Dv M H vy y := dv_pair h
/-- [x for x, _ in pairs] -/
theorem lc_fst {i j : Nat} {vs : List Nat} (w : Walk J xs.length G (YAt xs)) (hG : ∀ H', Go T M H0 H' → G H') (hd : DvAll M H0 xs ds) (hp : ∀ d ∈ ds, ∃ x y, d = .tuple [x, y]) (g1 : Go T M H0 H1) (hD : H1 D = none) (hn : xs.length ≤ sizeLine)
    (hw : ∀ v1 v2, wipe (((wipe σ vs).set i (some v1)).set j (some v2)) vs = wipe σ vs) (hv : ∀ v1 v2, (((wipe σ vs).set i (some v1)).set j (some v2))[i]? = some (some v1))
    (hq : ∀ H' acc, Go T M H0 H' → H' D = some (.lst acc) → DvAll M H0 acc (ds.map fstD) → Qd H') :
    ∃ W : Nat → Nat → Hp → Prop, (∃ m, W 0 m (upd H1 D (.lst []))) ∧ ∀ i' m H, W i' m H →
      (J.stop i' H ∧ Qd H) ∨ (J.go i' H ∧ ∃ Nx : Hp → Prop, (∀ H', Nx H' → ∃ m', m' < m ∧ W (i' + 1) m' H') ∧ ∀ x H', J.yld i' H x H' → gTup K 2 (gCons (gName i) (gCons (gName j) gNil)) x (wipe σ vs) H' fun σ2 H2 => wipe σ2 vs = wipe σ vs ∧ tYes σ2 H2 fun b H3 =>
        if b = true then tVar i σ2 H3 fun y H4 => ∃ acc, H4 D = some (.lst acc) ∧ acc.length < sizeLine ∧ Nx (upd H4 D (.lst (acc ++ [y]))) else Nx H3) := by
  have hD0 : H0 D = none := g1.al D hD
  refine lc_it w (fun n H' => Go T M H0 H' ∧ ∃ acc, H' D = some (.lst acc) ∧ acc.length = n ∧ DvAll M H0 acc ((ds.take n).map fstD)) ⟨g1.trans (Go.new hD), [], upd_same, rfl, .nil⟩ (fun n H' _ h => hG H' h.1) (fun n x H' H'' hlt h y => ?_) (fun H' h => ?_)
  · obtain ⟨gg, acc, ea, el, da⟩ := h
    obtain ⟨rfl, ex⟩ := y
    obtain ⟨d, ed, hx⟩ := hd.get ex
    obtain ⟨p, q, rfl⟩ := hp d (List.mem_of_getElem? ed)
    obtain ⟨a, vx, vy, rfl, e, na, hx, hy⟩ := dv_pair hx
    refine ⟨a, _, rfl, SqT.of (gg.tup e na), rfl, _, _, rfl, _, _, rfl, rfl, ?_⟩
    refine ⟨hw vx vy, ?_⟩
    unfold tYes
    show if true = true then _ else _
    rw [if_pos rfl]
    refine ⟨vx, hv vx vy, acc, ea, by omega, gg.over hD0 ea (fun _ z => by cases z), acc ++ [vx], upd_same, by rw [List.length_append, el] <;> rfl, ?_⟩
    have : ds.take (n + 1) = ds.take n ++ [.tuple [p, q]] := by rw [List.take_add_one, ed] <;> rfl
    rw [this, List.map_append]
    exact da.append (.cons hx .nil)
  · obtain ⟨gg, acc, ea, el, da⟩ := h
    rw [hd.length, List.take_length] at da
    exact hq H' acc gg ea da
theorem sndD_pair (x y : PyData) : sndD (.tuple [x, y]) = y := rfl
/-- [x for _, own in pairs for x in own] -/
theorem lc2_snd {i j k : Nat} {vs vs1 : List Nat} {c : Nat} (w : Walk J xs.length G (YAt xs)) (hG : ∀ H', Go T M H0 H' → G H') (hd : DvAll M H0 xs ds) (hp : ∀ d ∈ ds, ∃ x l, d = .tuple [x, .tuple l] ∧ l.length ≤ c) (g1 : Go T M H0 H1) (hD : H1 D = none) (hn : xs.length * c ≤ sizeLine)
    (hw : ∀ v1 v2, wipe (((wipe σ vs).set i (some v1)).set j (some v2)) vs = wipe σ vs) (hv : ∀ v1 v2, (((wipe σ vs).set i (some v1)).set j (some v2))[j]? = some (some v2))
    (hw1 : ∀ v1 v2 v3, wipe ((wipe (((wipe σ vs).set i (some v1)).set j (some v2)) vs1).set k (some v3)) vs1 = wipe (((wipe σ vs).set i (some v1)).set j (some v2)) vs1)
    (hv1 : ∀ v1 v2 v3, ((wipe (((wipe σ vs).set i (some v1)).set j (some v2)) vs1).set k (some v3))[k]? = some (some v3))
    (hq : ∀ H' acc, Go T M H0 H' → H' D = some (.lst acc) → DvAll M H0 acc (ds.flatMap fun d => itemsD (sndD d)) → Qd H') :
    ∃ W : Nat → Nat → Hp → Prop, (∃ m, W 0 m (upd H1 D (.lst []))) ∧ ∀ i' m H, W i' m H →
  (J.stop i' H ∧ Qd H) ∨ (J.go i' H ∧ ∃ Nx : Hp → Prop, (∀ H', Nx H' → ∃ m', m' < m ∧ W (i' + 1) m' H') ∧ ∀ x H', J.yld i' H x H' → gTup K 2 (gCons (gName i) (gCons (gName j) gNil)) x (wipe σ vs) H' fun σ2 H2 => wipe σ2 vs = wipe σ vs ∧ tYes σ2 H2 fun b H3 =>
    if b = true then iTup K (tVar j) σ2 H3 fun J1 H4 => ∃ W1 : Nat → Nat → Hp → Prop, (∃ m, W1 0 m H4) ∧ ∀ j' k' H, W1 j' k' H →
      (J1.stop j' H ∧ Nx H) ∨ (J1.go j' H ∧ ∃ Nx1 : Hp → Prop, (∀ H', Nx1 H' → ∃ k'', k'' < k' ∧ W1 (j' + 1) k'' H') ∧ ∀ x H', J1.yld j' H x H' → gName k x (wipe σ2 vs1) H' fun σ3 H5 => wipe σ3 vs1 = wipe σ2 vs1 ∧ tYes σ3 H5 fun b H6 =>
        if b = true then tVar k σ3 H6 fun y H7 => ∃ acc, H7 D = some (.lst acc) ∧ acc.length < sizeLine ∧ Nx1 (upd H7 D (.lst (acc ++ [y]))) else Nx1 H6)
    else Nx H3) := by
  have hD0 : H0 D = none := g1.al D hD
  have hl0 := hd.length
  refine ⟨fun n m H' => m = xs.length - n ∧ n ≤ xs.length ∧ Go T M H0 H' ∧ ∃ acc, H' D = some (.lst acc) ∧ acc.length ≤ n * c ∧ DvAll M H0 acc ((ds.take n).flatMap fun d => itemsD (sndD d)), ⟨xs.length, rfl, Nat.zero_le _, g1.trans (Go.new hD), [], upd_same, by simp, .nil⟩, ?_⟩
  rintro n m H' ⟨rfl, hi, gg, acc, ea, el, da⟩
  by_cases hlt : n < xs.length
  · refine .inr ⟨w.goes n H' hlt (hG H' gg), fun H2 => Go T M H0 H2 ∧ ∃ acc, H2 D = some (.lst acc) ∧ acc.length ≤ (n + 1) * c ∧ DvAll M H0 acc ((ds.take (n + 1)).flatMap fun d => itemsD (sndD d)), fun H2 h2 => ⟨xs.length - (n + 1), by omega, rfl, hlt, h2⟩, fun x H2 y => ?_⟩
    obtain ⟨rfl, ex⟩ := w.yields n H' x H2 hlt (hG H' gg) y
    obtain ⟨d, ed, hx⟩ := hd.get ex
    obtain ⟨p, l, rfl, hc⟩ := hp d (List.mem_of_getElem? ed)
    obtain ⟨a, vx, vy, rfl, e, na, hx, hy⟩ := dv_pair hx
    obtain ⟨b, ws, rfl, eb, nb, hws⟩ := dv_tup hy
    have hl1 := hws.length
    have et : ds.take (n + 1) = ds.take n ++ [.tuple [p, .tuple l]] := by rw [List.take_add_one, ed] <;> rfl
    have em : (n + 1) * c = n * c + c := Nat.succ_mul n c
    have ec : (n + 1) * c ≤ xs.length * c := Nat.mul_le_mul_right c hlt
    refine ⟨a, _, rfl, SqT.of (gg.tup e na), rfl, _, _, rfl, _, _, rfl, rfl, ?_⟩
    refine ⟨hw _ _, ?_⟩
    unfold tYes
    show if true = true then _ else _
    rw [if_pos rfl]
    refine ⟨_, hv _ _, b, rfl, ⟨_, SqT.of (gg.tup eb nb)⟩, ?_⟩
    refine ⟨fun r m' H3 => m' = ws.length - r ∧ r ≤ ws.length ∧ Go T M H0 H3 ∧ ∃ acc, H3 D = some (.lst acc) ∧ acc.length ≤ n * c + r ∧ DvAll M H0 acc (((ds.take n).flatMap fun d => itemsD (sndD d)) ++ l.take r), ⟨ws.length, rfl, Nat.zero_le _, gg, acc, ea, by omega, by rw [List.take_zero, List.append_nil]; exact da⟩, ?_⟩
    rintro r m' H3 ⟨rfl, hr, g3, acc3, ea3, el3, da3⟩
    have sq : SqT K H3 b ws := SqT.of (g3.tup eb nb)
    by_cases hlt2 : r < ws.length
    · refine .inr ⟨⟨ws, ws[r], sq, by simp [hlt2]⟩, fun H4 => Go T M H0 H4 ∧ ∃ acc, H4 D = some (.lst acc) ∧ acc.length ≤ n * c + (r + 1) ∧ DvAll M H0 acc (((ds.take n).flatMap fun d => itemsD (sndD d)) ++ l.take (r + 1)), fun H4 h4 => ⟨ws.length - (r + 1), by omega, rfl, hlt2, h4⟩, fun x' H4 y' => ?_⟩
      obtain ⟨rfl, y'⟩ := y'
      have ex' := y' ws sq
      obtain ⟨d', ed', hx'⟩ := hws.get ex'
      refine ⟨hw1 _ _ x', ?_⟩
      show if true = true then _ else _
      rw [if_pos rfl]
      refine ⟨x', hv1 _ _ x', acc3, ea3, by omega, g3.over hD0 ea3 (fun _ z => by cases z), acc3 ++ [x'], upd_same, by rw [List.length_append, List.length_singleton]; omega, ?_⟩
      have et' : l.take (r + 1) = l.take r ++ [d'] := by rw [List.take_add_one, ed'] <;> rfl
      rw [et', ← List.append_assoc]
      exact da3.append (.cons hx' .nil)
    · have e : r = ws.length := by omega
      subst e
      refine .inl ⟨⟨ws, sq, Nat.le_refl _⟩, g3, acc3, ea3, by omega, ?_⟩
      rw [hl1, List.take_length] at da3
      have ef : ([PyData.tuple [p, .tuple l]] : List PyData).flatMap (fun d => itemsD (sndD d)) = l := List.append_nil l
      rw [et, List.flatMap_append, ef]
      exact da3
  · have e : n = xs.length := by omega
    subst e
    rw [hl0, List.take_length] at da
    exact .inl ⟨w.stops H' (hG H' gg), hq H' acc gg ea da⟩
/-- all(test(x) for x in source), x in the slot j; b the truth of each -/
theorem all_it {te : TE} {σ0 : L2.St} {S : Hp → Prop} {Z : Bool → Hp → Prop} {b : PyData → Bool} {j : Nat} {P : Addr} {H : Hp} (w : Walk J xs.length G (YAt xs)) (hG : ∀ H', Go T M H H' → G H') (hd : DvAll M H xs ds) (ht : Tabs T H) (hP : P ∈ T)
    (hb : ∀ (x : V) (d : PyData) (H' : Hp) (R : VK), d ∈ ds → Dv M H' x d → Go T M H H' → Tabs T H' → (∀ H'' , Go T M H' H'' → Tabs T H'' → R (.bl (b d)) H'') → te (σ0.set j (some x)) H' R)
    (hS : ∀ H', Go T M H H' → Tabs T H' → ds.all b = true → S H') (hZ : ∀ H', Go T M H H' → Tabs T H' → ds.all b = false → Z false H') :
    TabG H P ∧ ∀ H2, Tabbed P H H2 → ∃ W, (∃ m, W 0 m σ0 H2) ∧ GTurn J (gName j) te W S (KB false W Z) := by
  refine ⟨ht P hP, fun H2 tb => ?_⟩
  have hl := hd.length
  have g2 : Go T M H H2 := Go.tbd hP (ht P hP) tb
  refine ⟨fun i m σ H' => m = xs.length - i ∧ i ≤ xs.length ∧ Go T M H H' ∧ Tabs T H' ∧ (∀ v, σ.set j v = σ0.set j v) ∧ (ds.take i).all b = true, ⟨xs.length, rfl, Nat.zero_le _, g2, g2.tb ht, fun _ => rfl, by simp⟩, ?_⟩
  rintro i m σ H' ⟨rfl, hi, gg, tt, hs, hall⟩
  by_cases hlt : i < xs.length
  · refine .inr ⟨w.goes i H' hlt (hG H' gg), by omega, fun x H'' y => ?_⟩
    obtain ⟨rfl, ex⟩ := w.yields i H' x H'' hlt (hG H' gg) y
    obtain ⟨d, ed, hv⟩ := hd.get ex
    show te (σ.set j (some x)) H'' _
    rw [hs]
    refine hb x d H'' _ (List.mem_of_getElem? ed) (hv.go gg) gg tt fun H3 g3 t3 => ?_
    refine ⟨b d, rfl, ?_⟩
    have et : ds.take (i + 1) = ds.take i ++ [d] := by rw [List.take_add_one, ed] <;> rfl
    cases c : b d with
    | true =>
      rw [if_neg (by simp)]
      exact ⟨xs.length - (i + 1), by omega, rfl, hlt, gg.trans g3, t3, fun v => by rw [List.set_set], by rw [et, List.all_append, hall]; simp [c]⟩
    | false =>
      rw [if_pos rfl]
      refine hZ H3 (gg.trans g3) t3 ?_
      rw [List.all_eq_false]
      exact ⟨d, List.mem_of_getElem? ed, by rw [c]; simp⟩
  · have e : i = xs.length := by omega
    subst e
    rw [hl, List.take_length] at hall
    exact .inl ⟨w.stops H' (hG H' gg), hS H' gg tt hall⟩
end
end SL
set_option Elab.async false
set_option linter.all false
set_option maxRecDepth 100000
set_option maxHeartbeats 4000000
namespace K2
open PySem PySem.Spec PyProof.Rows L2 GxR NdefX GA SL
variable [SL.LamT]
def top (i : Nat) : Stmt := PySem.Challenge.pw_sameontrees_k02_trees_judged.main.body.getD i (.Pass ⟨0, 0, 0, 0⟩)
abbrev s_is_tuple : Stmt := top 4
abbrev s_is_name : Stmt := top 5
abbrev s_is_high : Stmt := top 6
abbrev s_is_run : Stmt := top 7
/-- a tuple of texts of the written part -/
def Kt (K : PySem.W.Frag) (a : Addr) (xs : List V) : Prop := ∃ (o : Obj) (its : Array Value) (n : Nat), K.lookup a = some o ∧ o.cls = .type "tuple" ∧ o.data = .seq its n ∧ its.size ≤ sizeLine ∧ Vals xs its.toList
/-- the module's constants -/
structure Cn (K : PySem.W.Frag) (mg : Str → Option Value) : Prop where
  longest : ∃ t, mg "LONGEST_NAME" = some (.int 10 t)
  kept : ∃ a, mg "WORDS_KEPT" = some (.ref a) ∧ Kt K a [.str "fun", .str "kind", .str "number"]
  kinds : ∃ t, mg "MOST_KINDS" = some (.int 6 t)
  makers : ∃ t, mg "MOST_MAKERS" = some (.int 6 t)
  fields : ∃ t, mg "MOST_FIELDS" = some (.int 4 t)
  words : ∃ t, mg "MOST_WORDS" = some (.int 400 t)
  rows : ∃ t, mg "MOST_ROWS" = some (.int 96 t)

def sp_is_tuple : Sp := fun vs H Q _ => ∃ (M : List Addr) (v : V) (d : PyData) (l m : Int), vs = [v, .int l, .int m] ∧ Dv M H v d ∧ Q (.bl (tupB d l m)) H
theorem sc_is_tuple : FnScope ["thing", "least", "most"] ["thing", "least", "most"] (defScope s_is_tuple) := ⟨rfl, rfl, rfl, by decide +kernel, rfl, by decide +kernel, by decide +kernel⟩
def sp_is_run : Sp := fun vs H Q _ => ∃ x : Str, vs = [.str x] ∧ Q (.bl (decide (1 ≤ x.length) && x.cps.toList.all anC)) H
theorem sc_is_run : FnScope ["text"] ["text"] (defScope s_is_run) := ⟨rfl, rfl, rfl, by decide +kernel, rfl, by decide +kernel, by decide +kernel⟩
def nameD : PyData → Bool
  | .str x => nameS x
  | _ => false
def sp_is_name : Sp := fun vs H Q _ => ∃ (M : List Addr) (v : V) (d : PyData), vs = [v] ∧ Dv M H v d ∧ wt d ≤ 4000000 ∧ Q (.bl (nameD d)) H
theorem sc_is_name : FnScope ["thing"] ["thing"] (defScope s_is_name) := ⟨rfl, rfl, rfl, by decide +kernel, rfl, by decide +kernel, by decide +kernel⟩
def sp_is_high : Sp := fun vs H Q _ => ∃ (M : List Addr) (v : V) (d : PyData), vs = [v] ∧ Dv M H v d ∧ wt d ≤ 4000000 ∧ Q (.bl (highD d)) H
theorem sc_is_high : FnScope ["thing"] ["thing"] (defScope s_is_high) := ⟨rfl, rfl, rfl, by decide +kernel, rfl, by decide +kernel, by decide +kernel⟩
section
variable {P : Program} {w : World} {K : PySem.W.Frag} {mg : Str → Option Value} {base : Heap} {f : Addr} {fd : FuncData}
theorem ok_is_tuple (F : Fun K "is_tuple" "is_tuple" s_is_tuple f fd) (B : Bl mg) : FnOk P w K mg base CX0 1 f fd ["thing", "least", "most"] sp_is_tuple := by
  refine F.ok sc_is_tuple (fun vs H Q E h => ?_) (fun cdv A outer s H vs Q E hr h => ?_)
  · obtain ⟨_, _, _, _, _, rfl, _⟩ := h
    rfl
  obtain ⟨M, v, d, l, m, rfl, hv, q⟩ := h
  refine ⟨_, pss_one (ps_ret (pe_and (pe_isi_tuple B (pv 0)) (pe_one (pe_chain op_le op_le (pv 1) (pe_lenq B (pv 0)) (pv 2))))), ?_⟩
  refine ⟨_, rfl, _, _, _, rfl, hv, ?_⟩
  cases hv with
  | @tup a xs ds e n r =>
    refine ⟨_, rfl, iteT ?_⟩
    refine ⟨_, rfl, _, rfl, _, _, rfl, .inr (SqT.of e), _, _, rfl, rfl, _, rfl, ?_⟩
    have hl := r.length
    unfold tupB at q
    simp only [← hl] at q
    by_cases c : l ≤ (xs.length : Int)
    · rw [decide_eq_true c, Bool.true_and] at q
      refine if_true_of (decide_eq_true c) ?_
      exact ⟨_, rfl, _, _, rfl, rfl, q⟩
    · rw [decide_eq_false c, Bool.false_and] at q
      exact if_false_of (decide_eq_false c) q
  | _ => exact ⟨_, rfl, iteF q⟩
theorem ok_is_run (F : Fun K "is_run" "is_run" s_is_run f fd) : FnOk P w K mg base CX0 1 f fd ["text"] sp_is_run := by
  refine F.ok sc_is_run (fun vs H Q E h => ?_) (fun cdv A outer s H vs Q E hr h => ?_)
  · obtain ⟨_, rfl, _⟩ := h
    rfl
  obtain ⟨x, rfl, q⟩ := h
  refine ⟨_, pss_one (ps_ret (pe_and (pe_bm0 PySem.F.plainAttrs_str PySem.F.slot_str_isascii PySem.F.type_str_isascii mt_isascii (pv 0)) (pe_one (pe_bm0 PySem.F.plainAttrs_str PySem.F.slot_str_isalnum PySem.F.type_str_isalnum mt_isalnum (pv 0))))), ?_⟩
  rw [← run_iff] at q
  refine ⟨_, rfl, rfl, x, rfl, rfl, trivial, _, rfl, ?_⟩
  cases e : Txt.isascii x with
  | true =>
    rw [e, Bool.true_and] at q
    refine iteT ?_
    exact ⟨_, rfl, rfl, x, rfl, rfl, trivial, q⟩
  | false =>
    rw [e, Bool.false_and] at q
    exact iteF q
theorem ok_is_name (F : Fun K "is_name" "is_name" s_is_name f fd) (B : Bl mg) (C : Cn K mg) (Fr : Fnn P w K mg base CX0 1 "is_run" ["text"] sp_is_run) : FnOk P w K mg base CX0 2 f fd ["thing"] sp_is_name := by
  obtain ⟨tl, mL⟩ := C.longest
  obtain ⟨ak, mK, hK⟩ := C.kept
  refine F.ok sc_is_name (fun vs H Q E h => ?_) (fun cdv A outer s H vs Q E hr h => ?_)
  · obtain ⟨_, _, _, rfl, _⟩ := h
    rfl
  obtain ⟨M, v, d, rfl, hv, hw, q⟩ := h
  refine ⟨_, pss_cons (ps_if (PW.pt (pw_or (pt_not (pt_val (pe_isi_str B (pv 0)))) (pw_or1 (pt_cmpR op_gt (pe_lens B (pv 0)) (pe_glob (v := .int 10) rfl mL ⟨_, rfl⟩) (nomark _))))) (pss_one (ps_ret pe_bl)) pss_nil)
    (pss_one (ps_ret (pe_and (pe_fn Fr hr (by decide) pass0 (pa_cons (pv 0) pa_nil)) (pe_and (pe_bm0 PySem.F.plainAttrs_str PySem.F.slot_str_isalpha PySem.F.type_str_isalpha mt_isalpha (pe_ix ix_str (pv 0) pe_int (fun _ _ => rfl)))
      (pe_one (pe_cmpR op_notIn_seq (pv 0) (pe_glob (v := .ref ak) rfl mK rfl) rfl)))))), ?_⟩
  refine ⟨_, rfl, _, _, _, rfl, hv, _, rfl, ?_⟩
  cases hv with
  | str x =>
    refine iteF ?_
    have hs : x.length ≤ sizeLine := sz (by unfold wt at hw; omega)
    refine ⟨_, rfl, x, rfl, hs, _, _, rfl, rfl, _, rfl, ?_⟩
    have q : Q (.bl (nameS x)) H := q
    unfold nameS at q
    by_cases c : (10 : Int) < (x.length : Int)
    · refine if_true_of (decide_eq_true c) ?_
      have c' : ¬ x.length ≤ 10 := by omega
      rw [decide_eq_false c'] at q
      exact goQ (c := false) q (by simp)
    · refine if_false_of (decide_eq_false c) ?_
      have c' : x.length ≤ 10 := by omega
      rw [decide_eq_true c'] at q
      refine ⟨_, rfl, x, rfl, _, rfl, ?_⟩
      by_cases c1 : 1 ≤ x.length
      · rw [decide_eq_true c1] at q ⊢
        obtain ⟨c0, r0, e0⟩ := cons_of_len c1
        rw [e0] at q ⊢
        by_cases c2 : (c0 :: r0).all anC = true
        · rw [c2] at q ⊢
          have hc0 : anC c0 = true := List.all_eq_true.mp c2 c0 List.mem_cons_self
          refine iteT ?_
          refine ⟨_, rfl, x, 0, c0, rfl, rfl, hs, (by rw [e0]; exact atI_nat (j := 0) rfl), rfl, _, rfl, rfl, trivial, _, rfl, ?_⟩
          rw [alpha1 (anC_lt hc0)]
          simp only [Bool.true_and] at q
          by_cases c3 : (upC c0 || loC c0) = true
          · rw [c3] at q ⊢
            refine iteT ?_
            refine ⟨_, rfl, ak, ([("fun" : Str), "kind", "number"]).map V.str, rfl, .inr (.inr hK), rfl, flat_strs _, ?_⟩
            rw [inV_strs]
            have e : decide (x ∈ [("fun" : Str), "kind", "number"]) = kept x := by
              unfold kept
              simp only [List.mem_cons, List.not_mem_nil, or_false, Bool.decide_or, Bool.or_assoc]
            rw [e]
            simpa using q
          · rw [Bool.eq_false_iff.mpr c3] at q ⊢
            exact iteF (by simpa using q)
        · rw [Bool.eq_false_iff.mpr c2] at q ⊢
          exact iteF (by simpa using q)
      · rw [decide_eq_false c1] at q ⊢
        exact iteF (by simpa using q)
  | _ => exact iteT q
theorem ok_is_high (F : Fun K "is_high" "is_high" s_is_high f fd) (Fn : Fnn P w K mg base CX0 2 "is_name" ["thing"] sp_is_name) : FnOk P w K mg base CX0 3 f fd ["thing"] sp_is_high := by
  refine F.ok sc_is_high (fun vs H Q E h => ?_) (fun cdv A outer s H vs Q E hr h => ?_)
  · obtain ⟨_, _, _, rfl, _⟩ := h
    rfl
  obtain ⟨M, v, d, rfl, hv, hw, q⟩ := h
  refine ⟨_, pss_one (ps_ret (pe_and (pe_fn Fn hr (by decide) pass0 (pa_cons (pv 0) pa_nil)) (pe_one (pe_bm0 PySem.F.plainAttrs_str PySem.F.slot_str_isupper PySem.F.type_str_isupper mt_isupper (pe_ix ix_str (pv 0) pe_int (fun _ _ => rfl)))))), ?_⟩
  refine ⟨_, rfl, M, v, d, rfl, hv, hw, _, rfl, ?_⟩
  cases hv with
  | str x =>
    have hs : x.length ≤ sizeLine := sz (by unfold wt at hw; omega)
    show if nameS x = true then _ else _
    have q' : Q (.bl (highS x)) H := q
    unfold highS at q'
    cases c : nameS x with
    | true =>
      refine iteT ?_
      have c1 : 1 ≤ x.length ∧ x.cps.toList.all anC = true := by
        unfold nameS at c
        simp only [Bool.and_eq_true, decide_eq_true_eq] at c
        exact ⟨c.1.1.1.1, c.1.1.2⟩
      obtain ⟨c0, r0, e0⟩ := cons_of_len c1.1
      have hc0 : anC c0 = true := List.all_eq_true.mp c1.2 c0 (by rw [e0]; exact List.mem_cons_self)
      refine ⟨_, rfl, x, 0, c0, rfl, rfl, hs, (by rw [e0]; exact atI_nat (j := 0) rfl), rfl, _, rfl, rfl, trivial, ?_⟩
      rw [upper1 (anC_lt hc0)]
      rw [c, e0] at q'
      simpa using q'
    | false =>
      refine iteF ?_
      rw [c] at q'
      simpa using q'
  | _ => exact iteF q
end
end K2
set_option Elab.async false
set_option linter.all false
set_option maxRecDepth 100000
set_option maxHeartbeats 4000000
namespace K2
open PySem PySem.Spec PyProof.Rows L2 GxR NdefX GA SL
variable [SL.LamT]
abbrev s_are_unlike : Stmt := top 34
abbrev s_is_maker_alone : Stmt := top 33
abbrev s_is_kind_alone : Stmt := top 32
def sp_are_unlike (K : PySem.W.Frag) : Sp := fun vs H Q _ => ∃ (a : Addr) (xs : List Str), vs = [.ref a] ∧ SqL K H a (xs.map V.str) ∧ xs.length ≤ 4000 ∧ Q (.bl (decide xs.Nodup)) H
theorem sc_are_unlike : FnScope ["names"] ["names"] (defScope s_are_unlike) := ⟨rfl, rfl, rfl, by decide +kernel, rfl, by decide +kernel, by decide +kernel⟩
/-- what looks at a part of kinds promises: b of the part's data -/
def sp_look (T : List Addr) (b : PyData → Bool) : Sp := fun vs H Q _ => ∃ (M : List Addr) (v : V) (d : PyData), vs = [v] ∧ Dv M H v d ∧ wt d ≤ 4000000 ∧ Tabs T H ∧ ∀ H', Go T M H H' → Tabs T H' → Q (.bl (b d)) H'
theorem sc_maker_alone : FnScope ["thing", "name", "fields"] ["thing"] (defScope s_is_maker_alone) := ⟨rfl, rfl, rfl, by decide +kernel, rfl, by decide +kernel, by decide +kernel⟩
section
variable {P : Program} {w : World} {K : PySem.W.Frag} {mg : Str → Option Value} {base : Heap} {f c Pt : Addr} {fd : FuncData} {T : List Addr}
theorem ok_are_unlike (F : Fun K "_are_unlike" "_are_unlike" s_are_unlike f fd) (B : Bl mg) : FnOk P w K mg base CX0 1 f fd ["names"] (sp_are_unlike K) := by
  refine F.ok sc_are_unlike (fun vs H Q E h => ?_) (fun cdv A outer s H vs Q E hr h => ?_)
  · obtain ⟨_, _, rfl, _⟩ := h
    rfl
  obtain ⟨a, xs, rfl, hx, hl, q⟩ := h
  refine ⟨_, pss_one (ps_ret (pe_cmpR op_eq (pe_lenU B (pv 0)) (pe_lenq B (pv 0)) (nomark _))), ?_⟩
  refine ⟨_, rfl, a, xs, rfl, hx, hl, _, rfl, a, _, rfl, .inl hx, rfl, ?_⟩
  refine goQ q ?_
  rw [List.length_map]
  have e := uniq_len (l := xs)
  rw [decide_eq_decide, ← e]
  constructor
  · intro h
    rw [h]
  · intro h
    have h' := V.int.inj h
    omega
theorem ok_maker_alone (F : FunT K "_is_maker_alone" "_is_maker_alone" s_is_maker_alone f fd c) (B : Bl mg) (C : Cn K mg) (TB : TabB base mg c Pt) (hP : Pt ∈ T) (Ft : Fnn P w K mg base CX0 1 "is_tuple" ["thing", "least", "most"] sp_is_tuple)
    (Fh : Fnn P w K mg base CX0 3 "is_high" ["thing"] sp_is_high) : FnOk P w K mg base CX0 5 f fd ["thing"] (sp_look T makerB) := by
  obtain ⟨tf, mF⟩ := C.fields
  refine F.ok sc_maker_alone (fun vs H Q E h => ?_) (fun A outer s H vs Q E hr h => ?_)
  · obtain ⟨_, _, _, rfl, _⟩ := h
    rfl
  obtain ⟨M, v, d, rfl, hv, hw, ht, q⟩ := h
  have nd := sc_maker_alone.nd
  refine ⟨_, pss_cons (ps_if (pt_not (pt_val (pe_fn Ft hr (by decide) pass0 (pa_cons (pv 0) (pa_cons pe_int (pa_cons pe_int pa_nil)))))) (pss_one (ps_ret pe_bl)) pss_nil)
    (pss_cons (ps_asg (pv 0) (pg_tup rfl (pgs_cons (pg_name (i := 1) nd rfl (.inl rfl)) (pgs_cons (pg_name (i := 2) nd rfl (.inl rfl)) pgs_nil))))
    (pss_one (ps_ret (pe_and (pe_fn Fh hr (by decide) pass0 (pa_cons (pv 1) pa_nil)) (pe_and (pe_fn Ft hr (by decide) pass0 (pa_cons (pv 2) (pa_cons pe_int (pa_cons (pe_glob (v := .int 4) rfl mF ⟨_, rfl⟩) pa_nil))))
      (pe_one (pe_all (N := ["field"]) (fr := []) (js := []) hr rfl B.all TB rfl (gsc_by (by decide +kernel)) (by simp) rfl (pi_tup (pv 2)) (fun _ _ _ _ _ _ _ => pg_name (i := 0) (show (["field"] : List Str).Nodup by decide +kernel) rfl (.inl rfl))
        (fun _ _ _ _ _ _ _ hr' => pe_isi_str B (pv 0))))))))), ?_⟩
  refine ⟨_, rfl, M, v, d, 2, 2, rfl, hv, _, rfl, ?_⟩
  by_cases c1 : tupB d 2 2 = true
  · obtain ⟨x, y, rfl⟩ := tup2 c1
    obtain ⟨a, vx, vy, rfl, e, na, hx, hy⟩ := dv_pair hv
    rw [wt_pair] at hw
    refine if_false_of (by rw [c1] <;> rfl) ?_
    refine ⟨_, rfl, a, _, rfl, SqT.of e, rfl, _, _, rfl, _, _, rfl, rfl, ?_⟩
    refine ⟨_, rfl, M, vx, x, rfl, hx, by omega, _, rfl, ?_⟩
    have qq : makerB (.tuple [x, y]) = (highD x && (tupB y 0 4 && (itemsD y).all isStr)) := by
      unfold makerB
      rw [c1]
      show (true && highD x && tupB y 0 4 && (itemsD y).all isStr) = _
      rw [Bool.true_and, Bool.and_assoc]
    rw [qq] at q
    cases c2 : highD x with
    | false =>
      refine iteF ?_
      rw [c2] at q
      exact q H Go.refl ht
    | true =>
      refine iteT ?_
      rw [c2, Bool.true_and] at q
      refine ⟨_, rfl, M, vy, y, 0, 4, rfl, hy, _, rfl, ?_⟩
      cases c3 : tupB y 0 4 with
      | false =>
        refine iteF ?_
        rw [c3] at q
        exact q H Go.refl ht
      | true =>
        refine iteT ?_
        rw [c3, Bool.true_and] at q
        obtain ⟨fs, rfl, l0, l4⟩ := tupOf c3
        obtain ⟨b, ws, rfl, eb, nb, hws⟩ := dv_tup hy
        refine ⟨_, rfl, b, rfl, ⟨_, SqT.of eb⟩, all_tup (b := isStr) eb nb hws ht hP (fun x' d' H' R _ hv' g' t' hR => ?_) q⟩
        exact ⟨_, rfl, _, _, _, rfl, hv', hR H' Go.refl t'⟩
  · refine if_true_of (by rw [Bool.eq_false_iff.mpr c1] <;> rfl) ?_
    have := q H Go.refl ht
    have e : makerB d = false := by unfold makerB; rw [Bool.eq_false_iff.mpr c1] <;> rfl
    rw [e] at this
    exact this
end
end K2
set_option Elab.async false
set_option linter.all false
set_option maxRecDepth 100000
set_option maxHeartbeats 4000000
namespace K2
open PySem PySem.Spec PyProof.Rows L2 GxR NdefX GA SL
variable [SL.LamT]
abbrev s_is_kinds : Stmt := top 20
theorem sc_kind_alone : FnScope ["thing", "name", "makers"] ["thing"] (defScope s_is_kind_alone) := ⟨rfl, rfl, rfl, by decide +kernel, rfl, by decide +kernel, by decide +kernel⟩
/-! ### the data of kinds -/
theorem maker_of {m : PyData} (h : makerB m = true) : ∃ (x : Str) (fs : List Str), m = .tuple [.str x, .tuple (fs.map .str)] ∧ highS x = true ∧ fs.length ≤ 4 := by
  unfold makerB at h
  simp only [Bool.and_eq_true] at h
  obtain ⟨⟨⟨h1, h2⟩, h3⟩, h4⟩ := h
  obtain ⟨a, b, rfl⟩ := tup2 h1
  have h2 : highD a = true := h2
  obtain ⟨x, rfl⟩ : ∃ x, a = .str x := by
    cases a with
    | str x => exact ⟨x, rfl⟩
    | _ => simp [highD] at h2
  obtain ⟨fs, e, l0, l4⟩ := tupOf h3
  have e : b = .tuple fs := e
  subst e
  have h4 : fs.all isStr = true := h4
  have key : ∀ l : List PyData, l.all isStr = true → ∃ ys : List Str, l = ys.map .str := by
    intro l
    induction l with
    | nil => intro _; exact ⟨[], rfl⟩
    | cons d r ih =>
      intro h
      rw [List.all_cons, Bool.and_eq_true] at h
      obtain ⟨ys, e⟩ := ih h.2
      cases d with
      | str y => exact ⟨y :: ys, by rw [e] <;> rfl⟩
      | _ => simp [isStr] at h
  obtain ⟨ys, rfl⟩ := key fs h4
  exact ⟨x, ys, rfl, h2, by rw [List.length_map] at l4; omega⟩
theorem kind_of {k : PyData} (h : kindB k = true) : ∃ (x : Str) (ms : List PyData), k = .tuple [.str x, .tuple ms] ∧ highS x = true ∧ 1 ≤ ms.length ∧ ms.length ≤ 6 ∧ ms.all makerB = true := by
  unfold kindB at h
  simp only [Bool.and_eq_true] at h
  obtain ⟨⟨⟨h1, h2⟩, h3⟩, h4⟩ := h
  obtain ⟨a, b, rfl⟩ := tup2 h1
  have h2 : highD a = true := h2
  obtain ⟨x, rfl⟩ : ∃ x, a = .str x := by
    cases a with
    | str x => exact ⟨x, rfl⟩
    | _ => simp [highD] at h2
  obtain ⟨fs, e, l0, l4⟩ := tupOf h3
  have e : b = .tuple fs := e
  subst e
  exact ⟨x, fs, rfl, h2, by omega, by omega, h4⟩
/-- the kinds' names, all makers -/
def kNames (ks : List PyData) : List Str := ks.map fun k => strD (fstD k)
def kMakers (ks : List PyData) : List PyData := ks.flatMap fun k => itemsD (sndD k)
def mFields (ms : List PyData) : List Str := ms.flatMap fun m => (itemsD (sndD m)).map strD
theorem take_snoc {α : Type} {l : List α} {i : Nat} {x : α} (h : l[i]? = some x) : l.take (i + 1) = l.take i ++ [x] := by rw [List.take_add_one, h] <;> rfl
theorem len_makers : ∀ ks : List PyData, (∀ k ∈ ks, kindB k = true) → (kMakers ks).length ≤ 6 * ks.length
  | [], _ => by simp [kMakers]
  | k :: r, h => by
    obtain ⟨x, ms, rfl, _, _, l6, _⟩ := kind_of (h k List.mem_cons_self)
    have ih := len_makers r fun k hk => h k (List.mem_cons_of_mem _ hk)
    have e : kMakers (.tuple [.str x, .tuple ms] :: r) = ms ++ kMakers r := by
      unfold kMakers
      rw [List.flatMap_cons] <;> rfl
    rw [e, List.length_append, List.length_cons]
    omega
theorem all_makers : ∀ ks : List PyData, (∀ k ∈ ks, kindB k = true) → ∀ m ∈ kMakers ks, makerB m = true := fun ks h m hm => by
  unfold kMakers at hm
  obtain ⟨k, hk, hm⟩ := List.mem_flatMap.mp hm
  obtain ⟨x, ms, rfl, _, _, _, ha⟩ := kind_of (h k hk)
  exact List.all_eq_true.mp ha m hm
theorem len_fields : ∀ ms : List PyData, (∀ m ∈ ms, makerB m = true) → (mFields ms).length ≤ 4 * ms.length
  | [], _ => by simp [mFields]
  | m :: r, h => by
    obtain ⟨x, fs, rfl, _, l4⟩ := maker_of (h m List.mem_cons_self)
    have ih := len_fields r fun k hk => h k (List.mem_cons_of_mem _ hk)
    have e : mFields (.tuple [.str x, .tuple (fs.map .str)] :: r) = ((fs.map PyData.str).map strD) ++ mFields r := by
      unfold mFields
      rw [List.flatMap_cons] <;> rfl
    rw [e, List.length_append, List.length_map, List.length_map, List.length_cons]
    omega
theorem strs_back (fs : List Str) : (fs.map PyData.str).map strD = fs := by
  rw [List.map_map]
  exact List.map_id'' (fun _ => rfl) fs
section
variable {P : Program} {w : World} {K : PySem.W.Frag} {mg : Str → Option Value} {base : Heap} {f c Pt : Addr} {fd : FuncData} {T : List Addr}
theorem ok_kind_alone (F : FunT K "_is_kind_alone" "_is_kind_alone" s_is_kind_alone f fd c) (B : Bl mg) (C : Cn K mg) (TB : TabB base mg c Pt) (hP : Pt ∈ T) (Ft : Fnn P w K mg base CX0 1 "is_tuple" ["thing", "least", "most"] sp_is_tuple)
    (Fh : Fnn P w K mg base CX0 3 "is_high" ["thing"] sp_is_high) (Fm : Fnn P w K mg base CX0 5 "_is_maker_alone" ["thing"] (sp_look T makerB)) : FnOk P w K mg base CX0 7 f fd ["thing"] (sp_look T kindB) := by
  obtain ⟨tf, mF⟩ := C.makers
  refine F.ok sc_kind_alone (fun vs H Q E h => ?_) (fun A outer s H vs Q E hr h => ?_)
  · obtain ⟨_, _, _, rfl, _⟩ := h
    rfl
  obtain ⟨M, v, d, rfl, hv, hw, ht, q⟩ := h
  have nd := sc_kind_alone.nd
  refine ⟨_, pss_cons (ps_if (pt_not (pt_val (pe_fn Ft hr (by decide) pass0 (pa_cons (pv 0) (pa_cons pe_int (pa_cons pe_int pa_nil)))))) (pss_one (ps_ret pe_bl)) pss_nil)
    (pss_cons (ps_asg (pv 0) (pg_tup rfl (pgs_cons (pg_name (i := 1) nd rfl (.inl rfl)) (pgs_cons (pg_name (i := 2) nd rfl (.inl rfl)) pgs_nil))))
    (pss_one (ps_ret (pe_and (pe_fn Fh hr (by decide) pass0 (pa_cons (pv 1) pa_nil)) (pe_and (pe_fn Ft hr (by decide) pass0 (pa_cons (pv 2) (pa_cons pe_int (pa_cons (pe_glob (v := .int 6) rfl mF ⟨_, rfl⟩) pa_nil))))
      (pe_one (pe_all (k := 5) (N := ["maker"]) (fr := []) (js := []) hr rfl B.all TB rfl (gsc_by (by decide +kernel)) (by simp) rfl (pi_tup (pv 2)) (fun _ _ _ _ _ _ _ => pg_name (i := 0) (show (["maker"] : List Str).Nodup by decide +kernel) rfl (.inl rfl))
        (fun _ _ _ _ _ _ _ hr' => pe_fn Fm hr' (by decide) pass0 (pa_cons (pv 0) pa_nil))))))))), ?_⟩
  refine ⟨_, rfl, M, v, d, 2, 2, rfl, hv, _, rfl, ?_⟩
  by_cases c1 : tupB d 2 2 = true
  · obtain ⟨x, y, rfl⟩ := tup2 c1
    obtain ⟨a, vx, vy, rfl, e, na, hx, hy⟩ := dv_pair hv
    rw [wt_pair] at hw
    refine if_false_of (by rw [c1] <;> rfl) ?_
    refine ⟨_, rfl, a, _, rfl, SqT.of e, rfl, _, _, rfl, _, _, rfl, rfl, ?_⟩
    refine ⟨_, rfl, M, vx, x, rfl, hx, by omega, _, rfl, ?_⟩
    have qq : kindB (.tuple [x, y]) = (highD x && (tupB y 1 6 && (itemsD y).all makerB)) := by
      unfold kindB
      rw [c1]
      show (true && highD x && tupB y 1 6 && (itemsD y).all makerB) = _
      rw [Bool.true_and, Bool.and_assoc]
    rw [qq] at q
    cases c2 : highD x with
    | false =>
      refine iteF ?_
      rw [c2] at q
      exact q H Go.refl ht
    | true =>
      refine iteT ?_
      rw [c2, Bool.true_and] at q
      refine ⟨_, rfl, M, vy, y, 1, 6, rfl, hy, _, rfl, ?_⟩
      cases c3 : tupB y 1 6 with
      | false =>
        refine iteF ?_
        rw [c3] at q
        exact q H Go.refl ht
      | true =>
        refine iteT ?_
        rw [c3, Bool.true_and] at q
        obtain ⟨fs, rfl, l0, l4⟩ := tupOf c3
        obtain ⟨b, ws, rfl, eb, nb, hws⟩ := dv_tup hy
        rw [wt_tup] at hw
        refine ⟨_, rfl, b, rfl, ⟨_, SqT.of eb⟩, all_tup (b := makerB) eb nb hws ht hP (fun x' d' H' R hd' hv' g' t' hR => ?_) q⟩
        have := wt_mem hd'
        exact ⟨_, rfl, M, x', d', rfl, hv', by omega, t', hR⟩
  · refine if_true_of (by rw [Bool.eq_false_iff.mpr c1] <;> rfl) ?_
    have := q H Go.refl ht
    have e : kindB d = false := by unfold kindB; rw [Bool.eq_false_iff.mpr c1] <;> rfl
    rw [e] at this
    exact this
theorem sc_is_kinds : FnScope ["thing", "names", "makers", "fields", "name", "_", "own", "maker", "field"] ["thing"] (defScope s_is_kinds) := ⟨rfl, rfl, rfl, by decide +kernel, rfl, by decide +kernel, by decide +kernel⟩
end
end K2
set_option Elab.async false
set_option linter.all false
set_option maxRecDepth 100000
set_option maxHeartbeats 8000000
namespace K2
open PySem PySem.Spec PyProof.Rows L2 GxR NdefX GA SL
variable [SL.LamT]
theorem strs_of : ∀ {l : List PyData}, (∀ d ∈ l, isStr d = true) → l = (l.map strD).map .str
  | [], _ => rfl
  | d :: r, h => by
    have ih := strs_of fun x hx => h x (List.mem_cons_of_mem _ hx)
    have h1 := h d List.mem_cons_self
    cases d with
    | str y =>
      show PyData.str y :: r = PyData.str y :: ((r.map strD).map .str)
      rw [← ih]
    | _ => simp [isStr] at h1
theorem titles_str {ks : List PyData} (hk : ∀ k ∈ ks, kindB k = true) : ∀ d ∈ ks.map fstD, isStr d = true := fun d hd => by
  obtain ⟨k, hkm, rfl⟩ := List.mem_map.mp hd
  obtain ⟨x, ms, rfl, _⟩ := kind_of (hk k hkm)
  rfl
theorem mnames_str {ms : List PyData} (hm : ∀ m ∈ ms, makerB m = true) : ∀ d ∈ ms.map fstD, isStr d = true := fun d hd => by
  obtain ⟨m, hmm, rfl⟩ := List.mem_map.mp hd
  obtain ⟨x, ms, rfl, _⟩ := maker_of (hm m hmm)
  rfl
theorem fields_str {ms : List PyData} (hm : ∀ m ∈ ms, makerB m = true) : ∀ d ∈ ms.flatMap (fun m => itemsD (sndD m)), isStr d = true := fun d hd => by
  obtain ⟨m, hmm, hd⟩ := List.mem_flatMap.mp hd
  obtain ⟨x, fs, rfl, _⟩ := maker_of (hm m hmm)
  obtain ⟨y, _, rfl⟩ := List.mem_map.mp (show d ∈ fs.map PyData.str from hd)
  rfl
theorem flen : ∀ {ms : List PyData}, (∀ m ∈ ms, makerB m = true) → (ms.flatMap (fun m => itemsD (sndD m))).length ≤ 4 * ms.length
  | [], _ => by simp
  | m :: r, h => by
    obtain ⟨x, fs, rfl, _, l4⟩ := maker_of (h m List.mem_cons_self)
    have ih := flen fun k hk => h k (List.mem_cons_of_mem _ hk)
    rw [List.flatMap_cons, List.length_append, List.length_cons]
    have : (itemsD (sndD (.tuple [.str x, .tuple (fs.map .str)]))).length = fs.length := List.length_map ..
    omega
section
variable {P : Program} {w : World} {K : PySem.W.Frag} {mg : Str → Option Value} {base : Heap} {f c Pt : Addr} {fd : FuncData} {T : List Addr}
theorem ok_is_kinds (F : FunT K "is_kinds" "is_kinds" s_is_kinds f fd c) (B : Bl mg) (C : Cn K mg) (TB : TabB base mg c Pt) (hP : Pt ∈ T) (Ft : Fnn P w K mg base CX0 1 "is_tuple" ["thing", "least", "most"] sp_is_tuple)
    (Fu : Fnn P w K mg base CX0 1 "_are_unlike" ["names"] (sp_are_unlike K)) (Fm : Fnn P w K mg base CX0 7 "_is_kind_alone" ["thing"] (sp_look T kindB)) : FnOk P w K mg base CX0 9 f fd ["thing"] (sp_look T kindsB) := by
  obtain ⟨tf, mF⟩ := C.kinds
  refine F.ok sc_is_kinds (fun vs H Q E h => ?_) (fun A outer s H vs Q E hr h => ?_)
  · obtain ⟨_, _, _, rfl, _⟩ := h
    rfl
  obtain ⟨M, v, d, rfl, hv, hw, ht, q⟩ := h
  replace hv : Dv [] H v d := hv.less fun _ z => by simp at z
  replace q : ∀ H', Go T [] H H' → Tabs T H' → Q (.bl (kindsB d)) H' := fun H' g t => q H' g.of0 t
  have nd := sc_is_kinds.nd
  refine ⟨_, pss_cons (ps_if (PW.pt (pw_or (pt_not (pt_val (pe_fn Ft hr (by decide) pass0 (pa_cons (pv 0) (pa_cons pe_int (pa_cons (pe_glob (v := .int 6) rfl mF ⟨_, rfl⟩) pa_nil))))))
      (pw_or1 (pt_not (pt_val (pe_all (k := 7) (N := ["kind"]) (fr := []) (js := []) hr rfl B.all TB rfl (gsc_by (by decide +kernel)) (by simp) rfl (pi_tup (pv 0)) (fun _ _ _ _ _ _ _ => pg_name (i := 0) (show (["kind"] : List Str).Nodup by decide +kernel) rfl (.inl rfl))
        (fun _ _ _ _ _ _ _ hr' => pe_fn Fm hr' (by decide) pass0 (pa_cons (pv 0) pa_nil)))))))) (pss_one (ps_ret pe_bl)) pss_nil)
    (pss_cons (ps_set (i := 1) nd rfl (Or.inr rfl) (pe_lc (own := [("name", 4), ("_", 5)]) (g := gTup K 2 (gCons (gName 4) (gCons (gName 5) gNil))) (tt := tYes) rfl nd (pi_tup (pv 0)) (blkOk_by (own := [("name", 4), ("_", 5)]) (N := ["thing", "names", "makers", "fields", "name", "_", "own", "maker", "field"]) (sc := defScope s_is_kinds) (by decide +kernel))
        (fun _ _ _ _ _ => pg_tup rfl (pgs_cons (pg_name (i := 4) nd rfl (Or.inl rfl)) (pgs_cons (pg_name (i := 5) nd rfl (Or.inl rfl)) pgs_nil))) (fun _ _ _ _ _ => pts_nil) (fun _ _ _ _ _ => pv 4)))
    (pss_cons (ps_setLc2 (i := 2) (own := [("_", 5), ("own", 6), ("maker", 7)]) (vs1 := [7]) (g := gTup K 2 (gCons (gName 5) (gCons (gName 6) gNil))) (g1 := gName 7) (tt := tYes) (tt1 := tYes) (wi1 := iTup K (tVar 6)) rfl nd rfl rfl (sw_true rfl rfl rfl (by decide +kernel)) (pi_tup (pv 0))
        (blkOk_by (own := [("_", 5), ("own", 6), ("maker", 7)]) (N := ["thing", "names", "makers", "fields", "name", "_", "own", "maker", "field"]) (sc := defScope s_is_kinds) (by decide +kernel)) (by decide)
        (fun _ _ _ _ _ => pg_tup rfl (pgs_cons (pg_name (i := 5) nd rfl (Or.inl rfl)) (pgs_cons (pg_name (i := 6) nd rfl (Or.inl rfl)) pgs_nil))) (fun _ _ _ _ _ => pts_nil) (fun _ _ _ _ _ => pi_tup (pv 6)) (fun _ _ _ _ _ => pg_name (i := 7) nd rfl (Or.inl rfl)) (fun _ _ _ _ _ => pts_nil) (fun _ _ _ _ _ => pv 7))
    (pss_cons (ps_setLc2 (i := 3) (own := [("_", 5), ("own", 6), ("field", 8)]) (vs1 := [8]) (g := gTup K 2 (gCons (gName 5) (gCons (gName 6) gNil))) (g1 := gName 8) (tt := tYes) (tt1 := tYes) (wi1 := iTup K (tVar 6)) rfl nd rfl rfl (sw_true rfl rfl rfl (by decide +kernel)) (pi_list (pv 2))
        (blkOk_by (own := [("_", 5), ("own", 6), ("field", 8)]) (N := ["thing", "names", "makers", "fields", "name", "_", "own", "maker", "field"]) (sc := defScope s_is_kinds) (by decide +kernel)) (by decide)
        (fun _ _ _ _ _ => pg_tup rfl (pgs_cons (pg_name (i := 5) nd rfl (Or.inl rfl)) (pgs_cons (pg_name (i := 6) nd rfl (Or.inl rfl)) pgs_nil))) (fun _ _ _ _ _ => pts_nil) (fun _ _ _ _ _ => pi_tup (pv 6)) (fun _ _ _ _ _ => pg_name (i := 8) nd rfl (Or.inl rfl)) (fun _ _ _ _ _ => pts_nil) (fun _ _ _ _ _ => pv 8))
    (pss_one (ps_ret (pe_and (pe_fn Fu hr (by decide) pass0 (pa_cons (pv 1) pa_nil)) (pe_and (pe_fn Fu hr (by decide) pass0 (pa_cons (pe_lc (own := [("name", 4), ("_", 5)]) (g := gTup K 2 (gCons (gName 4) (gCons (gName 5) gNil))) (tt := tYes) rfl nd (pi_list (pv 2)) (blkOk_by (own := [("name", 4), ("_", 5)]) (N := ["thing", "names", "makers", "fields", "name", "_", "own", "maker", "field"]) (sc := defScope s_is_kinds) (by decide +kernel))
        (fun _ _ _ _ _ => pg_tup rfl (pgs_cons (pg_name (i := 4) nd rfl (Or.inl rfl)) (pgs_cons (pg_name (i := 5) nd rfl (Or.inl rfl)) pgs_nil))) (fun _ _ _ _ _ => pts_nil) (fun _ _ _ _ _ => pv 4)) pa_nil))
      (pe_one (pe_all (k := 7) (te := tOrV (tOp rEq (tVar 1) (tC (.str "number"))) (tOp (rIn K false) (tVar 1) (tVar 0))) (N := ["names", "field"]) (fr := ["names"]) (js := [1]) hr rfl B.all TB rfl (gsc_by (by decide +kernel)) (fun y hy => by rw [List.mem_singleton.mp hy]; exact .inl rfl) rfl (pi_list (pv 3)) (fun _ _ _ _ _ _ _ => pg_name (i := 1) (show (["names", "field"] : List Str).Nodup by decide +kernel) rfl (.inl rfl))
        (fun _ _ _ _ _ _ _ hr' => pe_or (pe_cmpR op_eq (pv 1) pe_str (nomark _)) (pe_one (pe_cmpR op_in_seq (pv 1) (pv 0) rfl)))))))))))), ?_⟩
  refine ⟨_, rfl, [], v, d, 1, 6, rfl, hv, _, rfl, ?_⟩
  by_cases c1 : tupB d 1 6 = true
  · obtain ⟨ks, rfl, l1, l6⟩ := tupOf c1
    obtain ⟨a, xs, rfl, e, na, hxs⟩ := dv_tup hv
    have hl := hxs.length
    rw [wt_tup] at hw
    rw [c1]
    refine iteF ?_
    refine ⟨_, rfl, a, rfl, ⟨_, SqT.of e⟩, all_it (b := kindB) walk_tup (fun H' g => SqT.of (g.tup e na)) hxs ht hP (fun x' d' H' R hd' hv' g' t' hR => ?_) (fun H1 g1 t1 c2 => ?_) (fun H1 g1 t1 c2 => ?_)⟩
    · have := wt_mem hd'
      exact ⟨_, rfl, [], x', d', rfl, hv', by omega, t', hR⟩
    · refine ⟨_, rfl, ?_⟩
      refine iteF ?_
      have hk : ∀ k ∈ ks, kindB k = true := fun k hk => List.all_eq_true.mp c2 k hk
      have h0 : DvAll [] H1 xs ks := hxs.go g1
      have e1 : H1 a = some (.tup xs) := g1.tup e na
      have nn : ∀ b : Addr, b ∉ ([] : List Addr) := fun b => List.not_mem_nil
      refine ⟨_, rfl, a, rfl, ⟨_, SqT.of e1⟩, fun D hD => ?_⟩
      refine lc_fst (M := []) (T := T) (H0 := H1) (xs := xs) (ds := ks) walk_tup (fun H' g => SqT.of (g.tup e1 (nn _))) h0 ?_ Go.refl hD (sz (by omega)) (fun _ _ => rfl) (fun _ _ => rfl) (fun H2 acc g2 e2 d2 => ?_)
      · intro k hkm
        obtain ⟨x, ms, rfl, _⟩ := kind_of (hk k hkm)
        exact ⟨_, _, rfl⟩
      refine ⟨_, rfl, a, rfl, ⟨_, SqT.of (g2.tup e1 (nn _))⟩, fun D2 hD2 => ?_⟩
      refine lc2_snd (M := []) (T := T) (H0 := H2) (xs := xs) (ds := ks) (c := 6) walk_tup (fun H' g => SqT.of ((g2.trans g).tup e1 (nn _))) (h0.go g2) ?_ Go.refl hD2 (sz (by omega)) (fun _ _ => rfl) (fun _ _ => rfl) (fun _ _ _ => rfl) (fun _ _ _ => rfl) (fun H3 ac3 g3 e3 d3 => ?_)
      · intro k hkm
        obtain ⟨x, ms, rfl, _, _, l, _⟩ := kind_of (hk k hkm)
        exact ⟨_, _, rfl, l⟩
      have hm := all_makers ks hk
      have lm := len_makers ks hk
      have lac := d3.length
      have lac : ac3.length = (kMakers ks).length := lac
      refine ⟨_, rfl, D2, rfl, ⟨_, SqL.of e3⟩, fun D3 hD3 => ?_⟩
      refine lc2_snd (M := []) (T := T) (H0 := H3) (xs := ac3) (ds := kMakers ks) (c := 4) walk_list (fun H' g => SqL.of (g.lst e3 (nn _))) (d3.go g3) ?_ Go.refl hD3 (sz (by omega)) (fun _ _ => rfl) (fun _ _ => rfl) (fun _ _ _ => rfl) (fun _ _ _ => rfl) (fun H4 ac4 g4 e4 d4 => ?_)
      · intro m hmm
        obtain ⟨x, fs, rfl, _, l⟩ := maker_of (hm m hmm)
        exact ⟨_, _, rfl, by rw [List.length_map]; exact l⟩
      have g14 := (g2.trans g3).trans g4
      have eD := (g3.trans g4).lst e2 (nn _)
      have E1 := strs_of (titles_str hk)
      have d2' := d2
      rw [E1] at d2'
      have d2' := d2'.of_strs
      have lk : ((ks.map fstD).map strD).length = ks.length := by rw [List.length_map, List.length_map]
      refine ⟨_, rfl, D, (ks.map fstD).map strD, rfl, SqL.of (by rw [← d2']; exact eD), by omega, _, rfl, ?_⟩
      have qq : kindsB (.tuple ks) = (unl (ks.map fstD) && (unl ((kMakers ks).map fstD) && ((kMakers ks).flatMap fun m => itemsD (sndD m)).all (fieldOk (.tuple ks)))) := by
        unfold kindsB
        rw [c1]
        show (true && ks.all kindB && unl (ks.map fstD) && unl ((kMakers ks).map fstD) && ((kMakers ks).flatMap fun m => itemsD (sndD m)).all (fieldOk (.tuple ks))) = _
        rw [c2, Bool.true_and, Bool.true_and, Bool.and_assoc]
      rw [qq] at q
      show if unl (ks.map fstD) = true then _ else _
      cases c3 : unl (ks.map fstD) with
      | false =>
        refine iteF ?_
        rw [c3] at q
        exact q H4 (g1.trans g14) (g14.tb t1)
      | true =>
        refine iteT ?_
        rw [c3, Bool.true_and] at q
        have e3' : H4 D2 = some (.lst ac3) := g4.lst e3 (nn _)
        refine ⟨_, rfl, D2, rfl, ⟨_, SqL.of e3'⟩, fun D5 hD5 => ?_⟩
        refine lc_fst (M := []) (T := T) (H0 := H4) (xs := ac3) (ds := kMakers ks) walk_list (fun H' g => SqL.of (g.lst e3' (nn _))) ((d3.go g3).go g4) ?_ Go.refl hD5 (sz (by omega)) (fun _ _ => rfl) (fun _ _ => rfl) (fun H5 ac5 g5 e5 d5 => ?_)
        · intro m hmm
          obtain ⟨x, fs, rfl, _, l⟩ := maker_of (hm m hmm)
          exact ⟨_, _, rfl⟩
        have E2 := strs_of (mnames_str hm)
        have d5' := d5
        rw [E2] at d5'
        have d5' := d5'.of_strs
        have lk5 : (((kMakers ks).map fstD).map strD).length = (kMakers ks).length := by rw [List.length_map, List.length_map]
        refine ⟨D5, ((kMakers ks).map fstD).map strD, rfl, SqL.of (by rw [← d5']; exact e5), by omega, _, rfl, ?_⟩
        show if unl ((kMakers ks).map fstD) = true then _ else _
        have g15 := g14.trans g5
        cases c4 : unl ((kMakers ks).map fstD) with
        | false =>
          refine iteF ?_
          rw [c4] at q
          exact q H5 (g1.trans g15) (g15.tb t1)
        | true =>
          refine iteT ?_
          rw [c4, Bool.true_and] at q
          have e4' : H5 D3 = some (.lst ac4) := g5.lst e4 (nn _)
          refine ⟨_, rfl, D3, rfl, ⟨_, SqL.of e4'⟩, all_it (b := fieldOk (.tuple ks)) (T := T) (M := []) walk_list (fun H' g => SqL.of (g.lst e4' (nn _))) ((d4.go g4).go g5) (g15.tb t1) hP (fun x' d' H' R hd' hv' g' t' hR => ?_) (fun H6 g6 t6 c5 => ?_) (fun H6 g6 t6 c5 => ?_)⟩
          · have hs := fields_str hm d' hd'
            cases d' with
            | str y =>
              cases hv'
              refine ⟨_, rfl, rfl, _, rfl, ?_⟩
              have en : fieldOk (.tuple ks) (.str y) = (decide (V.str y = V.str "number") || inV (.str y) (((ks.map fstD).map strD).map V.str)) := by
                rw [inV_strs]
                show (decide (y = "number") || decide (y ∈ (ks.map fstD).map strD)) = _
                congr 1
                rw [decide_eq_decide]
                exact ⟨fun h => by rw [h], fun h => V.str.inj h⟩
              rw [en] at hR
              cases c5 : decide (V.str y = V.str "number") with
              | true =>
                refine iteT ?_
                rw [c5, Bool.true_or] at hR
                exact hR H' Go.refl t'
              | false =>
                refine iteF ?_
                rw [c5, Bool.false_or] at hR
                refine ⟨_, rfl, _, rfl, D, ((ks.map fstD).map strD).map V.str, rfl, .inl (SqL.of (by rw [← d2']; exact (g5.trans g').lst eD (nn _))), rfl, ?_, ?_⟩
                · rw [List.all_map]
                  exact List.all_eq_true.mpr fun _ _ => rfl
                · exact hR H' Go.refl t'
            | _ => simp [isStr] at hs
          · show Q (.bl true) H6
            have := q H6 (g1.trans (g15.trans g6)) t6
            have c5' : ((kMakers ks).flatMap fun m => itemsD (sndD m)).all (fieldOk (.tuple ks)) = true := c5
            rw [c5'] at this
            exact this
          · have := q H6 (g1.trans (g15.trans g6)) t6
            have c5' : ((kMakers ks).flatMap fun m => itemsD (sndD m)).all (fieldOk (.tuple ks)) = false := c5
            rw [c5'] at this
            exact this
    · refine ⟨_, rfl, ?_⟩
      refine iteT ?_
      have := q H1 g1 t1
      have e : kindsB (.tuple ks) = false := by
        unfold kindsB
        rw [c1]
        show (true && ks.all kindB && unl (ks.map fstD) && unl ((kMakers ks).map fstD) && ((kMakers ks).flatMap fun m => itemsD (sndD m)).all (fieldOk (.tuple ks))) = _
        rw [c2] <;> rfl
      rw [e] at this
      exact this
  · have c1' : tupB d 1 6 = false := Bool.eq_false_iff.mpr c1
    rw [c1']
    refine iteT ?_
    have := q H Go.refl ht
    have e : kindsB d = false := by unfold kindsB; rw [c1'] <;> rfl
    rw [e] at this
    exact this
end
end K2
set_option Elab.async false
set_option linter.all false
set_option maxRecDepth 100000
set_option maxHeartbeats 2000000
/-! own words, 9: calls with keywords alone; calls whose exception the slots' wish takes -/
namespace SL
open PySem PySem.Spec PyProof.Rows L2 GxR NdefX GA
variable [SL.LamT]
/-- a def as it is called by all its keywords, in its parameters' order -/
structure Fnw (P : Program) (w : World) (K : PySem.W.Frag) (mg : Str → Option Value) (base : Heap) (CX : CXT) (k : Nat) (x : Str) (ps : List Str) (sp : Sp) : Prop where
  ex : ∃ (f : Addr) (fd : FuncData), FnOk P w K mg base CX k f fd ps sp ∧ mg x = some (.ref f) ∧ PySem.W.keepIn K (.ref f) = true ∧ ∀ (s : Shared) (ws : List Value), K.In s.heap → ws.length = ps.length → BindsTo s fd ⟨[], ps.zip ws⟩ (ps.zip ws)
section
variable {X : Cx} {CX : CXT} {k j : Nat} {x : Str} {ps : List Str} {sp : Sp} {e : Expr} {es : List Expr} {kws : List Keyword} {t tk : TA} {p pos : Pos} {E : L2.St → XK} {f : Addr} {fd : FuncData}
theorem run_fw {pins : List (Addr × Obj)} {σ : L2.St} {H : Hp} {s : Shared} {Q : VK} {us : List Value} {vs : List V} (F : FnOk X.prog X.w X.K X.mg X.base CX k f fd ps sp) (hr : Room k X.A)
    (hb : ∀ (s : Shared) (ws : List Value), X.K.In s.heap → ws.length = ps.length → BindsTo s fd ⟨[], ps.zip ws⟩ (ps.zip ws)) (hx : PassesAt CX X σ (E σ))
    (I : Inv X pins σ H s) (r : Vals vs us) (h : sp vs H Q (E σ)) : wpAny (model X.prog X.w) X.A (call (.ref f) [] (ps.zip us)) (EP X pins σ Q) X.xe s := by
  have hl : us.length = ps.length := by rw [← r.length]; exact F.len _ _ _ _ h
  refine wpAny_call (codeAny_mono (F.run X.A X.stack s H ⟨[], ps.zip us⟩ us vs Q (E σ) hr I.env0 (hb s us I.kIn hl) r h) fun r s' hq => ?_)
  cases r with
  | error e => exact hx pins H s e s' I hq
  | ok fl =>
    cases fl with
    | ret u => exact I.after hq
    | next => exact False.elim hq
    | brk => exact False.elim hq
    | cont => exact False.elim hq
/-- f(k = v, ..) -/
theorem pe_kw (F : Fnw X.prog X.w X.K X.mg X.base CX k x ps sp) (hr : Room j X.A) (hk : k ≤ j) (hx : ∀ σ, PassesAt CX X σ (E σ)) (hkw : PK X kws tk) (hg : Gl X x := by rfl)
    (hall : (backToKw pos (keywordEach kws X.env)).all (·.1.isSome) = true := by rfl) (hks : (backToKw pos (keywordEach kws X.env)).filterMap (·.1) = ps := by rfl) (hdb : (x == ("__debug__" : Str)) = false := by decide)
    (hpl : ((backTo pos (starEach [] X.env)).any (·.1) || (backToKw pos (keywordEach kws X.env)).any (·.1.isNone)) = false := by rfl) :
    PE X (.Call (.Name x p) [] kws pos) (tCallS sp E tk) := by
  obtain ⟨f, fd, G, m, kp, b⟩ := F.ex
  refine ⟨fun pins s σ H Q I h => ?_⟩
  refine wpAny_Call_Name_kw (ld_glob I hg m ?_ hdb)
  refine PySem.W.callWith_KW0 (h₀ := X.base) I.ok.mod.kin kp hall ?_ hpl
  refine thn (hkw.run pos pins s σ H _ I h) fun ws s2 ⟨zs, H2, I2, rz, q2⟩ => ⟨I2.kIn, ?_⟩
  rw [hks]
  exact run_fw G (hr.mono hk) b (hx σ) I2 rz q2
/-- f(e, ..), an exception of which is the slots' own wish -/
theorem pe_fnS (F : Fnn X.prog X.w X.K X.mg X.base CX k x ps sp) (hr : Room j X.A) (hk : k ≤ j) (hx : ∀ σ, PassesAt CX X σ (E σ)) (ha : PA X (e :: es) t) (hg : Gl X x := by rfl) (hdb : (x == ("__debug__" : Str)) = false := by decide)
    (he : starEach (e :: es) X.env = (false, eval e X.env) :: starEach es X.env := by rfl) (hpl : (backTo pos (starEach es X.env)).any (·.1) = false := by rfl) : PE X (.Call (.Name x p) (e :: es) [] pos) (tCallS sp E t) := by
  obtain ⟨f, fd, G, m, kp, b⟩ := F.ex
  exact pe_callS G (hr.mono hk) hg m kp b hx ha hdb he hpl
theorem pass0S {X : Cx} (σ : L2.St) : PassesAt CX0 X σ E0 := fun pins H s e s' I c => pass0 pins σ H s e s' I c
end
end SL
set_option Elab.async false
set_option linter.all false
set_option maxRecDepth 100000
set_option maxHeartbeats 2000000
/-! own words, 10: not in range(..); range(..) as a value; int(..); all(list); the reading of a list of truths -/
namespace SL
open PySem PySem.Spec PyProof.Rows L2 GxR NdefX GA
variable [SL.LamT]
section
variable {X : Cx} {a b : Expr} {ta tb : TE} {p pos : Pos}
def rNotRng : R2 := fun x y H Q => ∃ i r lo hi, x = V.int i ∧ y = V.ref r ∧ H r = some (.rng lo hi) ∧ Q (.bl (!decide (lo ≤ i ∧ i < hi))) H
theorem op_outside : OpR X (compareOp .NotIn) rNotRng := by
  intro pins s σ H x y v u Q I rx ry h
  obtain ⟨i, r, lo, hi, rfl, rfl, hr, q⟩ := h
  obtain ⟨k, rfl⟩ := rx
  obtain rfl : u = Value.ref r := ry
  obtain ⟨t1, t2, t3, ho⟩ := I.hok r _ hr
  show wpAny _ _ (do return Value.bool (!(← contains (Value.ref r) (Value.int i k)))) _ _ s
  refine wpAny_bind (wpAny_contains_slot (T := "range") ⟨_, ho, rfl⟩ F.slot_range_contains (call_meets F.slot_range_contains ⟨_, ho, rfl⟩ F.entry_range_contains (F.args_range_contains_2 _ _) (q_contains r lo hi i t1 t2 t3 k) ⟨ho, ?_⟩))
  refine wpAny_truthy_bool (wpAny_pure ⟨.bl _, H, I, rfl, ?_⟩)
  rw [place1]
  exact q
def rRng : List V → Hp → VK → Prop := fun vs H Q => ∃ i j, vs = [V.int i, V.int j] ∧ ∀ p, H p = none → Q (.ref p) (upd H p (.rng i j))
theorem pe_rng (B : Bl X.mg) (ha : PE X a ta) (hb : PE X b tb) (h1 : Gl X "range" := by rfl) (he : starEach (a :: [b]) X.env = (false, eval a X.env) :: starEach [b] X.env := by rfl)
    (he2 : starEach (b :: []) X.env = (false, eval b X.env) :: starEach [] X.env := by rfl) (hpl : (backTo pos (starEach [b] X.env)).any (·.1) = false := by rfl) : PE X (.Call (.Name "range" p) [a, b] [] pos) (tCB rRng (tCons ta (tCons tb tNil))) :=
  pe_callTy cr_range2 h1 B.range (by decide +kernel) (pa_cons ha (pa_cons hb pa_nil he2) he) (by decide) (by decide) he hpl
def rInt : List V → Hp → VK → Prop := fun xs H Q => (∃ i, xs = [.int i] ∧ Q (.int i) H) ∨ ∃ k, xs = [.bl k] ∧ Q (.int (if k then 1 else 0)) H
theorem pe_toInt (B : Bl X.mg) (ha : PE X a ta) (h1 : Gl X "int" := by rfl) (he : starEach (a :: []) X.env = (false, eval a X.env) :: starEach [] X.env := by rfl) : PE X (.Call (.Name "int" p) [a] [] pos) (tCB rInt (tCons ta tNil)) :=
  pe_callTy call_int1 h1 B.int (by decide +kernel) (pa_cons ha pa_nil he) (by decide) (by decide) he
def rLst (K : PySem.W.Frag) : List V → Hp → VK → Prop := fun xs H Q => ∃ p ys, xs = [.ref p] ∧ (SqL K H p ys ∨ SqT K H p ys) ∧ ∀ l, H l = none → Q (.ref l) (upd H l (.lst ys))
theorem pe_toList (B : Bl X.mg) (ha : PE X a ta) (h1 : Gl X "list" := by rfl) (he : starEach (a :: []) X.env = (false, eval a X.env) :: starEach [] X.env := by rfl) : PE X (.Call (.Name "list" p) [a] [] pos) (tCB (rLst X.K) (tCons ta tNil)) :=
  pe_callTy call_list_of h1 B.list (by decide +kernel) (pa_cons ha pa_nil he) (by decide) (by decide) he
theorem pe_allL (hc : X.calm = true) (B : Bl X.mg) (ha : PE X a ta) (h1 : Gl X "all" := by rfl) (he : starEach (a :: []) X.env = (false, eval a X.env) :: starEach [] X.env := by rfl) : PE X (.Call (.Name "all" p) [a] [] pos) (tCB (rAll X.K) (tCons ta tNil)) :=
  pe_callB (cr_all hc) h1 B.all (by decide +kernel) (pa_cons ha pa_nil he) (by decide) (by decide) he
end
section
variable {T : List Addr} {H0 H1 : Hp} {J : It} {n : Nat} {G : Hp → Prop} {Y : Nat → Hp → V → Hp → Prop} {D : Addr} {Qd : Hp → Prop} {σ : L2.St} {g : TG} {te : TE} {vs : List Nat}
/-- [te for g in J]: f i the i-th value; what is made meanwhile stays -/
theorem lc_map (f : Nat → V) (w : Walk J n G Y) (hG : ∀ H', Go T [] H0 H' → G H') (ht : Tabs T H0) (g1 : Go T [] H0 H1) (hD : H1 D = none) (hn : n ≤ sizeLine)
    (hs : ∀ i x H' H'' (R : VK), i < n → Go T [] H0 H' → Tabs T H' → Y i H' x H'' → (∀ H3, Go T [] H' H3 → R (f i) H3) → g x (wipe σ vs) H'' fun σ2 H2 => wipe σ2 vs = wipe σ vs ∧ te σ2 H2 R)
    (hq : ∀ H', Go T [] H0 H' → Tabs T H' → H' D = some (.lst ((List.range n).map f)) → Qd H') :
    ∃ W : Nat → Nat → Hp → Prop, (∃ m, W 0 m (upd H1 D (.lst []))) ∧ ∀ i' m H, W i' m H →
      (J.stop i' H ∧ Qd H) ∨ (J.go i' H ∧ ∃ Nx : Hp → Prop, (∀ H', Nx H' → ∃ m', m' < m ∧ W (i' + 1) m' H') ∧ ∀ x H', J.yld i' H x H' → g x (wipe σ vs) H' fun σ2 H2 => wipe σ2 vs = wipe σ vs ∧ tYes σ2 H2 fun b H3 =>
        if b = true then te σ2 H3 fun y H4 => ∃ acc, H4 D = some (.lst acc) ∧ acc.length < sizeLine ∧ Nx (upd H4 D (.lst (acc ++ [y]))) else Nx H3) := by
  have hD0 : H0 D = none := g1.al D hD
  refine lc_it w (fun i H' => Go T [] H0 H' ∧ H' D = some (.lst ((List.range i).map f))) ⟨g1.trans (Go.new hD), upd_same⟩ (fun i H' _ h => hG H' h.1) (fun i x H' H'' hlt h y => ?_) (fun H' h => hq H' h.1 (h.1.tb ht) h.2)
  obtain ⟨gg, e⟩ := h
  refine hs i x H' H'' _ hlt gg (gg.tb ht) y fun H3 g3 => ?_
  have e3 := g3.lst e List.not_mem_nil
  refine ⟨_, e3, by rw [List.length_map, List.length_range]; omega, (gg.trans g3).over hD0 e3 (fun _ z => by cases z), ?_⟩
  rw [upd_same, List.range_succ, List.map_append] <;> rfl
end
theorem map_range_get {α β : Type} {xs : List α} {f : Nat → β} {g : α → β} (h : ∀ i x, xs[i]? = some x → f i = g x) : (List.range xs.length).map f = xs.map g := by
  apply List.ext_getElem?
  intro i
  rw [List.getElem?_map, List.getElem?_map]
  by_cases hi : i < xs.length
  · rw [List.getElem?_range hi, List.getElem?_eq_getElem hi]
    exact congrArg some (h i _ (List.getElem?_eq_getElem hi))
  · rw [List.getElem?_eq_none (by simpa using hi), List.getElem?_eq_none (by simpa using hi)] <;> rfl
end SL
set_option Elab.async false
set_option linter.all false
set_option maxRecDepth 100000
set_option maxHeartbeats 2000000
/-! own words, 11: how great data is; its repr; defs that are called with no guard about -/
namespace SL
open PySem PySem.Spec PyProof.Rows L2 GxR NdefX GA
variable [SL.LamT]
def asc (x : Str) : Bool := x.cps.toList.all fun c => decide (c < 128)
mutual
/-- ints no greater than n, ascii texts, empty dicts -/
def nice (n : Nat) : PyData → Bool
  | .none => true
  | .bool _ => true
  | .int i => decide (i.natAbs ≤ n)
  | .str x => asc x
  | .list xs => niceAll n xs
  | .tuple xs => niceAll n xs
  | .dict kvs => kvs.isEmpty
def niceAll (n : Nat) : List PyData → Bool
  | [] => true
  | x :: xs => nice n x && niceAll n xs
end
theorem shown_repr (x : Str) (h : asc x = true) : (reprText x).length ≤ 10 * x.length + 2 := StrLaws.reprText_len x fun c hc => by
  have := List.all_eq_true.mp h c hc
  have := of_decide_eq_true this
  omega
mutual
theorem shown_le {n : Nat} : ∀ {d : PyData}, nice n d = true → d.shown.length ≤ wt d
  | .none, _ => by simp only [PyData.shown, wt]; decide
  | .bool b, _ => by cases b <;> simp only [PyData.shown, wt] <;> decide
  | .int i, _ => by
    simp only [PyData.shown, wt]
    exact Nat.le_add_right _ _
  | .str x, h => by
    have := shown_repr x (by simpa only [nice] using h)
    simp only [PyData.shown, wt]
    omega
  | .list xs, h => by
    have h1 := shownAll_le (xs := xs) (by simpa only [nice] using h)
    have h2 := listText_len_le (PyData.shownAll xs)
    simp only [PyData.shown, wt]
    omega
  | .tuple xs, h => by
    have h1 := shownAll_le (xs := xs) (by simpa only [nice] using h)
    have h2 := tupleText_len_le (PyData.shownAll xs)
    simp only [PyData.shown, wt]
    omega
  | .dict [], _ => by
    simp only [PyData.shown, PyData.shownKv, wt]
    decide +kernel
  | .dict (_ :: _), h => by simp [nice] at h
theorem shownAll_le {n : Nat} : ∀ {xs : List PyData}, niceAll n xs = true → ((PyData.shownAll xs).map (·.length)).sum + 2 * (PyData.shownAll xs).length ≤ wtAll xs
  | [], _ => by simp [PyData.shownAll, wtAll]
  | x :: xs, h => by
    simp only [niceAll, Bool.and_eq_true] at h
    have h1 := shown_le h.1
    have h2 := shownAll_le h.2
    simp only [PyData.shownAll, wtAll, List.map_cons, List.sum_cons, List.length_cons]
    omega
end
mutual
theorem showable_of {n : Nat} (hn : n.log2 < 1920) : ∀ {d : PyData}, nice n d = true → d.showable = true
  | .none, _ => by simp only [PyData.showable]
  | .bool b, _ => by simp only [PyData.showable]
  | .int i, h => by
    simp only [nice, decide_eq_true_eq] at h
    simp only [PyData.showable, decide_eq_true_eq]
    by_cases z : i.natAbs = 0
    · rw [z]; decide
    · have a1 := (Nat.le_log2 z).mp (Nat.le_refl i.natAbs.log2)
      have hz : n ≠ 0 := by omega
      have : i.natAbs.log2 ≤ n.log2 := (Nat.le_log2 hz).mpr (Nat.le_trans a1 h)
      omega
  | .str x, _ => by simp only [PyData.showable]
  | .list xs, h => by
    simp only [PyData.showable]
    exact showableAll_of hn (by simpa only [nice] using h)
  | .tuple xs, h => by
    simp only [PyData.showable]
    exact showableAll_of hn (by simpa only [nice] using h)
  | .dict [], _ => by simp only [PyData.showable, PyData.showableKv]
  | .dict (_ :: _), h => by simp [nice] at h
theorem showableAll_of {n : Nat} (hn : n.log2 < 1920) : ∀ {xs : List PyData}, niceAll n xs = true → PyData.showableAll xs = true
  | [], _ => by simp only [PyData.showableAll]
  | x :: xs, h => by
    simp only [niceAll, Bool.and_eq_true] at h
    simp only [PyData.showableAll, Bool.and_eq_true]
    exact ⟨showable_of hn h.1, showableAll_of hn h.2⟩
end
section
variable {P : Program} {w : World} {H : Hp} {h : Heap} {M : List Addr}
mutual
/-- what bears data is read as that data -/
theorem Dv.reads (ok : HOk P w H h) : ∀ {v : V} {d : PyData} {u : Value}, Dv M H v d → RelV v u → ∃ as, Reads h u d as ∧ ∀ b ∈ as, H b ≠ none
  | _, _, _, .non, r => ⟨[], by cases r; exact .none, by simp⟩
  | _, _, _, .bl b, r => ⟨[], by cases r; exact .bool b, by simp⟩
  | _, _, _, .int i, r => by
    obtain ⟨t, rfl⟩ := r
    exact ⟨[], .int i t, by simp⟩
  | _, _, _, .str x, r => by
    obtain ⟨t, rfl⟩ := r
    exact ⟨[], .str x t, by simp⟩
  | _, _, _, .lst (a := a) e n q, r => by
    cases r
    obtain ⟨z, its, k, rv, g⟩ := ok a _ e
    obtain ⟨as, r1, r2⟩ := DvAll.reads ok q rv
    refine ⟨a :: as, .list g rfl rfl (by simpa using r1), fun b hb => ?_⟩
    rcases List.mem_cons.mp hb with rfl | hb
    · rw [e]; simp
    · exact r2 b hb
  | _, _, _, .tup (a := a) e n q, r => by
    cases r
    obtain ⟨z, its, rv, t⟩ := ok a _ e
    obtain ⟨as, r1, r2⟩ := DvAll.reads ok q rv
    obtain ⟨o, g, c, k, dd⟩ := t
    exact ⟨as, .tuple g c dd (by simpa using r1), r2⟩
  | _, _, _, .dct (a := a) e n, r => by
    cases r
    obtain ⟨z, s, vs, kv, o, es, ep, g, x, dd, k1, k2, k3⟩ := ok a _ e
    cases kv
    have e0 : es.toList = [] := by
      generalize es.toList = l at k2
      cases k2
      rfl
    refine ⟨a :: [] ++ [], .dict g x.1 dd (by rw [e0]; exact .nil) (by rw [e0]; exact .nil), fun b hb => ?_⟩
    have : b = a := by simpa using hb
    rw [this, e]
    simp
theorem DvAll.reads (ok : HOk P w H h) : ∀ {vs : List V} {ds : List PyData} {us : List Value}, DvAll M H vs ds → Vals vs us → ∃ as, ReadsAll h us ds as ∧ ∀ b ∈ as, H b ≠ none
  | _, _, _, .nil, .nil => ⟨[], .nil, by simp⟩
  | _, _, _, .cons x y, .cons r s => by
    obtain ⟨as, r1, r2⟩ := Dv.reads ok x r
    obtain ⟨bs, s1, s2⟩ := DvAll.reads ok y s
    exact ⟨as ++ bs, .cons r1 s1, fun b hb => (List.mem_append.mp hb).elim (r2 b) (s2 b)⟩
end
end
end SL
namespace SL
open PySem PySem.Spec PyProof.Rows L2 GxR NdefX GA
variable [SL.LamT]
/-- a def that is to be called where no collection is being shown -/
structure FnG (P : Program) (w : World) (K : PySem.W.Frag) (mg : Str → Option Value) (base : Heap) (k : Nat) (f : Addr) (fd : FuncData) (ps : List Str) (sp : Sp) : Prop where
  len : ∀ vs H Q, sp vs H Q E0 → vs.length = ps.length
  run : ∀ (A : Around) (outer : List Env) (s : Shared) (H : Hp) (args : Args) (us : List Value) (vs : List V) (Q : VK), A.guards = some [] → Room k A → Env0 P w K mg base A outer s H → BindsTo s fd args (ps.zip us) → Vals vs us → sp vs H Q E0 →
    codeAny (model P w) A (.call (.ref f) args) (CR CX0 outer P w H s Q E0) s
/-- as its callers know it -/
structure Fng (P : Program) (w : World) (K : PySem.W.Frag) (mg : Str → Option Value) (base : Heap) (k : Nat) (x : Str) (ps : List Str) (sp : Sp) : Prop where
  ex : ∃ (f : Addr) (fd : FuncData), FnG P w K mg base k f fd ps sp ∧ mg x = some (.ref f) ∧ PySem.W.keepIn K (.ref f) = true ∧ Binds K fd ps []
section
variable {P : Program} {w : World} {K : PySem.W.Frag} {mg : Str → Option Value} {base : Heap} {k : Nat} {f c : Addr} {N ps : List Str} {sp : Sp} {x qual : Str} {st : Stmt} {fd : FuncData}
theorem FunT.okG (F : FunT K x qual st f fd c) (S : FnScope N ps (defScope st)) (len : ∀ vs H Q, sp vs H Q E0 → vs.length = ps.length)
    (hbody : ∀ (A : Around) (outer : List Env) (s : Shared) (H : Hp) (vs : List V) (Q : VK), A.guards = some [] → Room k (A.deeper (envOfC qual (defScope st) s.heap.objs.size f (.ref c))) → sp vs H Q E0 →
      ∃ t, PSs (cxOf CX0 P w K mg base N qual (defScope st) f (.ref c) A outer s H E0) (defBody st) t ∧ t { nx := fun _ H' => Q .non H', rt := Q } (start N vs) H) : FnG P w K mg base (k + 1) f fd ps sp := by
  obtain ⟨oc, od, kV, doc, pm, an, ct, osl, rfl, lk, hcd⟩ := F.ex
  refine ⟨len, fun A outer s H args us vs Q hg room env0 bind rel want => ?_⟩
  have inK : K.In s.heap := env0.mod.kin.keeps fun b o e => (env0.bs b o e).1
  have noLim : s.heap.NoLimit := env0.mod.nolimit.keeps fun b o e => (env0.bs b o e).1
  have kinds : ∀ y ∈ ps.zip us, (defScope st).names.lookup y.1 = some .local ∨ ((defScope st).names.lookup y.1 = some .cell ∧ ((cellsFrom (s.heap.objs.size + 1) (defScope st).names []).lookup y.1).isSome = true) := by
    rintro ⟨n, v⟩ hy
    have := S.par n (List.of_mem_zip hy).1
    exact this.imp id fun q => ⟨q, PySem.W.cellsFrom_some _ _ _ (.inl q)⟩
  refine codeAny_call_function room.depth (inK _ _ lk) rfl S.co S.gen rfl (PySem.W.codeRec_of inK hcd) (bind _ _ _ _ ?_)
  refine wpAny_newFunctionEnv_cells S.kind kinds ?_
  rintro env rfl s1 made
  refine ⟨noLim.keeps made.toInCall.keep, codeAny_func ?_⟩
  obtain ⟨t, ht, hq⟩ := hbody A outer s H vs Q hg (room.deeper _) want
  have I := inv_start (CX := CX0) (E := E0) S room.hd env0 (len _ _ _ want) rel made
  refine wpAny_mono (ht.run [] s1 (start N vs) H _ I hq) ?_ fun _ _ z => z
  have done : ∀ {σ' : L2.St} {H' : Hp} {s' : Shared} {v : V} {u : Value}, Inv (cxOf CX0 P w K mg base N qual (defScope st) f (.ref c) A outer s H E0) [] σ' H' s' → RelV v u → Q v H' → CE outer P w H s Q u s' :=
    fun {_ H' _ v _} J rv q => ⟨v, H', J.os, J.bare, J.base, J.hok, rv, q⟩
  rintro (_ | _ | _ | u) s' hs
  all_goals first
    | (obtain ⟨v, σ', H', J, rv, q⟩ := hs; exact done J rv q)
    | (obtain ⟨σ', H', J, q⟩ := hs; exact done (v := V.non) (u := Value.none) J rfl q)
    | (obtain ⟨_, _, _, q⟩ := hs; exact q.elim)
end
section
variable {X : Cx} {k j : Nat} {x : Str} {ps : List Str} {sp : Sp} {e : Expr} {es : List Expr} {t : TA} {p pos : Pos}
theorem pe_fnG (F : Fng X.prog X.w X.K X.mg X.base k x ps sp) (hG : X.A.guards = some []) (hr : Room j X.A) (hk : k ≤ j) (ha : PA X (e :: es) t) (hg : Gl X x := by rfl) (hdb : (x == ("__debug__" : Str)) = false := by decide)
    (he : starEach (e :: es) X.env = (false, eval e X.env) :: starEach es X.env := by rfl) (hpl : (backTo pos (starEach es X.env)).any (·.1) = false := by rfl) : PE X (.Call (.Name x p) (e :: es) [] pos) (tCall sp [] E0 t) := by
  obtain ⟨f, fd, G, m, kp, b⟩ := F.ex
  refine ⟨fun pins s σ H Q I h => ?_⟩
  refine wpAny_Call_Name_kw (ld_glob I hg m ?_ hdb)
  refine PySem.W.callWith_K (h₀ := X.base) I.ok.mod.kin kp (thn (ha.run pos pins s σ H _ I h) fun us s1 ⟨vs, H1, I1, r, q⟩ => ⟨I1.kIn, ?_⟩) he hpl
  have q : sp vs H1 Q E0 := by
    have q' : sp (vs ++ []) H1 Q E0 := q
    rw [List.append_nil] at q'
    exact q'
  have hl : us.length = ps.length := by rw [← r.length]; exact G.len _ _ _ q
  have bb := b s1 us I1.kIn (by rw [List.append_nil]; exact hl)
  rw [List.append_nil] at bb
  refine wpAny_call (codeAny_mono (G.run X.A X.stack s1 H1 ⟨us, []⟩ us vs Q hG (hr.mono hk) I1.env0 bb r q) ?_)
  rintro (err | fl) s' hq
  · exact hq.elim
  · rcases fl with _ | _ | _ | u
    all_goals first
      | exact I1.after hq
      | exact hq.elim
end
end SL
set_option Elab.async false
set_option linter.all false
set_option maxRecDepth 100000
set_option maxHeartbeats 2000000
/-! own words, 12: repr of data -/
namespace SL
open PySem PySem.Spec PyProof.Rows L2 GxR NdefX GA
variable [SL.LamT]
/-- repr(v), v bearing data -/
def rRepr : List V → Hp → VK → Prop := fun xs H Q => ∃ (v : V) (M : List Addr) (d : PyData) (n : Nat), xs = [v] ∧ Dv M H v d ∧ nice n d = true ∧ n.log2 < 1920 ∧ wt d ≤ 4000000 ∧ d.depth ≤ 100 ∧ Q (.str d.shown) H
section
variable {X : Cx} {k : Nat} {a : Expr} {ta : TE} {p pos : Pos}
theorem cr_repr (hG : X.A.guards = some []) (hr : Room k X.A) (hm : ∃ o, X.base.get? sysModules = some o) : CallR X (.builtin "repr") rRepr := by
  intro pins s σ H xs us Q I r h
  obtain ⟨v, M, d, n, rfl, hv, hn, hl, hw, hd, q⟩ := h
  obtain ⟨u, rfl, ru⟩ := vals1 r
  have hln := shown_le hn
  have hz : d.shown.length ≤ sizeLine := by rw [sizeLine_eq]; omega
  have hs := showable_of hl hn
  obtain ⟨o, ho⟩ := hm
  have hfree : H sysModules = none := (I.bs _ _ ho).2
  obtain ⟨as, rd, tr⟩ := hv.reads I.hok ru
  have hno : sysModules ∉ as := fun m => tr _ m hfree
  have fin : ∀ h' u' tk, (∀ b o, s.heap.get? b = some o → h'.get? b = some o) → EP X pins σ Q (.str d.shown u') { s with heap := h', toks := tk } := fun h' u' tk hk => ⟨.str d.shown, H, I.kept (t' := tk) hk, ⟨_, rfl⟩, q⟩
  cases rd with
  | none => exact PySem.P.repr_of_none (fin s.heap _ _ fun _ _ e => e)
  | bool b =>
    refine PySem.P.repr_of_bool ?_
    have := fin s.heap s.toks (s.toks + 1) fun _ _ e => e
    simpa only [PyData.shown] using this
  | int i t =>
    refine PySem.P.repr_of_int (by simpa only [PyData.showable, decide_eq_true_eq] using hs) ?_
    have := fin s.heap s.toks (s.toks + 1) fun _ _ e => e
    simpa only [PyData.shown] using this
  | str x t =>
    refine PySem.P.repr_of_str ?_ (by simpa only [PyData.shown] using hz)
    have := fin s.heap s.toks (s.toks + 1) fun _ _ e => e
    simpa only [PyData.shown] using this
  | list h1 h2 h3 h4 => exact repr_of_reads' (.list h1 h2 h3 h4) hs (fun _ => hno) hG (by have := hr.un; omega) (fun _ _ e => e) (fun h' u tk hk => fin h' u tk hk) hz
  | tuple h1 h2 h3 h4 => exact repr_of_reads' (.tuple h1 h2 h3 h4) hs (fun _ => hno) hG (by have := hr.un; omega) (fun _ _ e => e) (fun h' u tk hk => fin h' u tk hk) hz
  | dict h1 h2 h3 h4 h5 => exact repr_of_reads' (.dict h1 h2 h3 h4 h5) hs (fun _ => hno) hG (by have := hr.un; omega) (fun _ _ e => e) (fun h' u tk hk => fin h' u tk hk) hz
theorem pe_repr (B : Bl X.mg) (hG : X.A.guards = some []) (hr : Room k X.A) (hm : ∃ o, X.base.get? sysModules = some o) (ha : PE X a ta) (h1 : Gl X "repr" := by rfl) (he : starEach (a :: []) X.env = (false, eval a X.env) :: starEach [] X.env := by rfl) :
    PE X (.Call (.Name "repr" p) [a] [] pos) (tCB rRepr (tCons ta tNil)) := pe_callB (cr_repr hG hr hm) h1 B.repr (by decide +kernel) (pa_cons ha pa_nil he) (by decide) (by decide) he
end
end SL
set_option Elab.async false
set_option linter.all false
set_option maxRecDepth 100000
set_option maxHeartbeats 2000000
/-! own words, 13: xs != [], t != (), t * k -/
namespace SL
open PySem PySem.Spec PyProof.Rows L2 GxR NdefX GA
variable [SL.LamT]
section
variable {X : Cx}
/-- xs != ys, ys empty -/
def rNeNil (K : PySem.W.Frag) : R2 := fun x y H Q => ∃ a b xs, x = .ref a ∧ y = .ref b ∧ ((SqL K H a xs ∧ SqL K H b []) ∨ (SqT K H a xs ∧ SqT K H b [])) ∧ Q (.bl (!xs.isEmpty)) H
theorem op_neNil (hu : X.A.units < cLine) : OpR X (compareOp .NotEq) (rNeNil X.K) := by
  intro pins s σ H x y v u Q I rx ry h
  obtain ⟨a, b, xs, rfl, rfl, h, q⟩ := h
  cases rx
  cases ry
  show wpAny _ _ (richCompare .NotEq (.ref a) (.ref b)) _ _ _
  have fin : EP X pins σ Q (.bool (!xs.isEmpty)) s := ⟨.bl _, H, I, rfl, q⟩
  rcases h with ⟨h1, h2⟩ | ⟨h1, h2⟩
  · obtain ⟨its, r, p, _⟩ := I.list h1
    obtain ⟨its2, r2, p2, _⟩ := I.list h2
    cases r2
    obtain ⟨o, n, g, c, _, dd⟩ := p
    obtain ⟨o2, n2, g2, c2, _, dd2⟩ := p2
    have l1 : s.heap.IsList a its.toArray := ⟨o, g, c, n, dd⟩
    have l2 : s.heap.IsList b ([] : List Value).toArray := ⟨o2, g2, c2, n2, dd2⟩
    cases r with
    | nil => exact PySem.SeqAt.RcNeAt.lists l1 l2 rfl hu (e := fun _ => true) (fun j hj _ => absurd hj (Nat.not_lt_zero _)) _ _ _ _ fin
    | cons _ _ => exact PySem.SeqAt.RcNeAt.lists_lengths l1 l2 rfl hu _ _ _ _ fin
  · obtain ⟨its, r, ⟨o, g, c, n, dd⟩, _⟩ := I.tuple h1
    obtain ⟨its2, r2, ⟨o2, g2, c2, n2, dd2⟩, _⟩ := I.tuple h2
    cases r2
    have l1 : s.heap.IsTuple a its.toArray := ⟨o, g, c, n, dd⟩
    have l2 : s.heap.IsTuple b ([] : List Value).toArray := ⟨o2, g2, c2, n2, dd2⟩
    refine PySem.SeqAt.RcNeAt.tuples l1 l2 hu (e := fun _ => true) (fun j _ hj => absurd hj (Nat.not_lt_zero _)) _ _ _ _ ?_
    cases r with
    | nil => exact fin
    | cons _ _ => simpa using fin
/-- t * k, k being 2 or 3; the empty tuple is itself -/
def rTimes (K : PySem.W.Frag) : R2 := fun x y H Q => ∃ l k xs, x = .ref l ∧ y = .int k ∧ SqT K H l xs ∧ 2 ≤ k ∧ k ≤ 3 ∧ xs.length ≤ 2000000 ∧ (xs = [] → Q (.ref l) H) ∧ (xs ≠ [] → ∀ p, H p = none → Q (.ref p) (upd H p (.tup (List.replicate k.toNat xs).flatten)))
theorem mul_nil (l : Addr) (n : Nat) (dd : Option Addr) (sl : Array (Option Value)) (x : Int) (u : Tok) (c0 : (decide (x < -(2 ^ 63)) || decide (x ≥ 2 ^ 63)) = false) :
    Meets (Builtin.«tuple.__mul__» ⟨[.ref l, .int x u], []⟩) (fun _ R s => s.heap.get? l = some { cls := .type "tuple", dict := dd, data := .seq #[] n, slots := sl } ∧ R (.ok (.ret (.ref l))) s) :=
  .of_wp fun prog w A R s h => by
    obtain ⟨hp, g, d, tk, os⟩ := s
    obtain ⟨hl, h⟩ := h
    have f1 := AutoSeq1.idx_int
    wp_walk using wpAny_loadPart' hl
    repeat (first
      | (refine wpAny_ite_false (decide_eq_false (by rw [c0]; exact Bool.false_ne_true)) ?_; wp_walk using wpAny_loadPart' hl))
    exact ⟨_, rfl, h⟩
theorem op_times : OpR X (binaryOp .Mult) (rTimes X.K) := by
  intro pins s σ H x y v u Q I rx ry h
  obtain ⟨l, k, xs, rfl, rfl, hT, k2, k3, hz, q0, q1⟩ := h
  cases rx
  obtain ⟨t, rfl⟩ := ry
  obtain ⟨its, r, ⟨⟨cls, dd, data, sl⟩, ho, hc, n, hd⟩, _⟩ := I.tuple hT
  simp only at hc hd
  subst hc hd
  have hle : its.length = xs.length := r.length.symm
  have c0 : (decide (k < -(2 ^ 63)) || decide (k ≥ 2 ^ 63)) = false := by
    rw [decide_eq_false (by omega), decide_eq_false (by omega)] <;> rfl
  refine wpAny_binaryOp_repeat_ref (T := "tuple") (U := "int") (by decide) ⟨_, ho, rfl⟩ (fun s' => typeIs_int s' k t) noFill_tuple_mul F.fills_int_mul F.slot_int_rmul repeat_tuple F.slot_int_index.lookup
    (call_meets F.slot_int_rmul (typeIs_int s k t) F.entry_int_rmul (F.args_int_rmul_2 _ _) (int_rmul_tuple k t l its.toArray n dd sl) ⟨ho, rfl, ⟨_, ho, rfl⟩, ?_⟩)
  by_cases hne : xs = []
  · subst hne
    cases r
    exact call_meets F.slot_tuple_mul ⟨_, ho, rfl⟩ F.entry_tuple_mul (F.args_tuple_mul_2 _ _) (mul_nil l n dd sl k t c0) ⟨ho, .ref l, H, I, rfl, q0 rfl⟩
  · have hi : its.toArray.isEmpty = false := by
      cases r with
      | nil => exact absurd rfl hne
      | cons _ _ => rfl
    have hsz0 : its.toArray.size = xs.length := by rw [List.size_toArray, hle]
    have hm : ((its.toArray.size : Nat) : Int) * k ≤ 6000000 := by
      rw [hsz0]
      have a1 : ((xs.length : Nat) : Int) * k ≤ 2000000 * k := Int.mul_le_mul_of_nonneg_right (by omega) (by omega)
      omega
    have lim : k.toNat * xs.length ≤ 3 * 2000000 := Nat.mul_le_mul (by omega) hz
    have flen : (List.replicate k.toNat its).flatten.length ≤ sizeLine := by
      rw [PyProof.Rows.lm_len_rep_flat, hle, sizeLine_eq]
      omega
    have c1 : (its.toArray.isEmpty || k == 1) = false := by
      rw [hi, Bool.false_or]
      exact beq_eq_false_iff_ne.mpr (by omega)
    have c2 : (decide (k ≤ 0) || its.toArray.isEmpty) = false := by
      rw [hi, Bool.or_false]
      exact decide_eq_false (by omega)
    have c4 : Builtin.Tuple.tupleTooMany (((its.toArray.size : Nat) : Int) * k) = false := by
      unfold Builtin.Tuple.tupleTooMany
      rw [sizeLine_eq]
      exact decide_eq_false (by omega)
    refine call_meets F.slot_tuple_mul ⟨_, ho, rfl⟩ F.entry_tuple_mul (F.args_tuple_mul_2 _ _) (tuple_mulW l its.toArray n dd sl k t c0 c1 c2 (by omega) c4 (by rw [size_rep, List.size_toArray]; exact flen)) ⟨ho, ?_⟩
    rw [size_rep]
    refine ⟨.ref s.heap.objs.size, _, I.laid (t' := s.toks) (o := .tup (List.replicate k.toNat xs).flatten) (fun b ob q => Heap.get?_push_of_some _ q) (Nat.le_refl _) ?_, rfl, q1 hne _ (I.hok.fresh (Nat.le_refl _))⟩
    exact ⟨by rw [PyProof.Rows.lm_len_rep_flat, sizeLine_eq]; omega, _, r.rep k.toNat, IsTup.new _ _⟩
end
end SL
set_option Elab.async false
set_option linter.all false
set_option maxRecDepth 100000
set_option maxHeartbeats 2000000
/-! own words, 14: ascii texts -/
namespace SL
open PySem PySem.Spec PyProof.Rows L2 GxR NdefX GA
variable [SL.LamT]
theorem asc_mem {x : Str} (h : asc x = true) : ∀ c ∈ x.cps.toList, c < 128 := fun c hc => of_decide_eq_true (List.all_eq_true.mp h c hc)
theorem asc_of {x : Str} (h : ∀ c ∈ x.cps.toList, c < 128) : asc x = true := List.all_eq_true.mpr fun c hc => decide_eq_true (h c hc)
theorem cps_add (x y : Str) : (x ++ y).cps.toList = x.cps.toList ++ y.cps.toList := by
  show (x.cps ++ y.cps).toList = _
  simp
theorem asc_add {x y : Str} (h : asc x = true) (k : asc y = true) : asc (x ++ y) = true := asc_of fun c hc => by
  rw [cps_add] at hc
  exact (List.mem_append.mp hc).elim (asc_mem h c) (asc_mem k c)
theorem asc_one {x : Str} {c : Nat} (h : asc x = true) (hc : c ∈ x.cps.toList) : asc ⟨#[c]⟩ = true := asc_of fun d hd => by
  have : d = c := by simpa using hd
  rw [this]
  exact asc_mem h c hc
theorem cutS_list (z : Str) (lo hi : Option Int) : (cutS z lo hi).cps.toList = (z.cps.toList.drop (HT.sIx z.length 0 lo)).take (HT.sIx z.length z.length hi - HT.sIx z.length 0 lo) := by
  unfold cutS
  simp
theorem len_list (z : Str) : z.length = z.cps.toList.length := by simp [Str.length]
theorem asc_cut {z : Str} (h : asc z = true) (lo hi : Option Int) : asc (cutS z lo hi) = true := asc_of fun c hc => by
  rw [cutS_list] at hc
  exact asc_mem h c (List.mem_of_mem_drop (List.mem_of_mem_take hc))
theorem len_cut (z : Str) (lo hi : Option Int) : (cutS z lo hi).length ≤ z.length := by
  rw [len_list, cutS_list, List.length_take, List.length_drop, ← len_list]
  omega
/-- z[1:10] has nine signs at most -/
theorem len_cut9 (z : Str) : (cutS z (some 1) (some 10)).length ≤ 9 := by
  have a := HT.sIx_nat z.length 0 1
  have b := HT.sIx_nat z.length z.length 10
  have a : HT.sIx z.length 0 (some 1) = min 1 z.length := a
  have b : HT.sIx z.length z.length (some 10) = min 10 z.length := b
  rw [len_list, cutS_list, List.length_take, List.length_drop, a, b, ← len_list]
  omega
theorem up_len {x : Str} (h : asc x = true) : (Txt.upper x).length = x.length ∧ asc (Txt.upper x) = true := by
  rw [PyProof.Rows.upper_ascii (asc_mem h)]
  refine ⟨by simp [Str.length], asc_of fun c hc => ?_⟩
  have hc : c ∈ (x.cps.map up1).toList := hc
  rw [Array.toList_map] at hc
  obtain ⟨d, hd, rfl⟩ := List.mem_map.mp hc
  have := asc_mem h d hd
  unfold up1
  split <;> omega
theorem lo_len {x : Str} (h : asc x = true) : (Txt.lower x).length = x.length ∧ asc (Txt.lower x) = true := by
  rw [PyProof.Rows.lower_ascii (asc_mem h)]
  refine ⟨by simp [Str.length], asc_of fun c hc => ?_⟩
  have hc : c ∈ (x.cps.map lo1).toList := hc
  rw [Array.toList_map] at hc
  obtain ⟨d, hd, rfl⟩ := List.mem_map.mp hc
  have := asc_mem h d hd
  unfold lo1
  split <;> omega
theorem join_nil (ys : List Str) : Txt.join (⟨#[]⟩ : Str) ys = Str.join ⟨#[]⟩ ys := eq_of_beq (join_closes rfl)
/-- texts of one sign each, joined -/
theorem join_ones : ∀ {ys : List Str}, (∀ y ∈ ys, y.length ≤ 1 ∧ asc y = true) → (Str.join ⟨#[]⟩ ys).length ≤ ys.length ∧ asc (Str.join ⟨#[]⟩ ys) = true
  | [], _ => ⟨Nat.le_refl _, rfl⟩
  | y :: r, h => by
    have ih := join_ones fun z hz => h z (List.mem_cons_of_mem _ hz)
    have hy := h y List.mem_cons_self
    rw [show Str.join ⟨#[]⟩ (y :: r) = y ++ Str.join ⟨#[]⟩ r from join_nil_cons y r]
    refine ⟨?_, asc_add hy.2 ih.2⟩
    rw [strLen_append, List.length_cons]
    omega
theorem str_400 : (List.range 400).all (fun k : Nat => asc (Str.ofString (toString (k : Int))) && decide ((Str.ofString (toString (k : Int))).length ≤ 3)) = true := by decide +kernel
theorem str_100 : ((List.range 100).map fun k : Nat => Str.ofString (toString (k : Int))).Nodup := by decide +kernel
end SL
set_option Elab.async false
set_option linter.all false
set_option maxRecDepth 100000
set_option maxHeartbeats 2000000
/-! own words, 15: a, b, c = x, y, z with three local names -/
namespace SL
open PySem PySem.Spec PyProof.Rows L2 GxR NdefX GA
variable [SL.LamT]
def tPar3 (i j k : Nat) (ta : TA) : TS := fun D σ H => ta σ H fun vs H1 => ∃ u v w, vs = [u, v, w] ∧ D.nx (((σ.set k (some w)).set j (some v)).set i (some u)) H1
theorem ps_par3 {X : Cx} {i j k : Nat} {x y z : Str} {a b c : Expr} {ta : TA} {px py pz pt pos : Pos} {kt k2 pt2} (hc : X.calm = true) (hN : X.N.Nodup) (hi : X.N[i]? = some x) (hj : X.N[j]? = some y) (hk : X.N[k]? = some z)
    (hx : X.env.scope.names.lookup x = some .local) (hy : X.env.scope.names.lookup y = some .local) (hz : X.env.scope.names.lookup z = some .local) (ha : PA X [a, b, c] ta)
    (hw : swappedStores [.Tuple [.Name x px, .Name y py, .Name z pz] kt pt] (.Tuple [a, b, c] k2 pt2) X.env = pure (some [x, y, z]))
    (hs : swapsWithSole [.Tuple [.Name x px, .Name y py, .Name z pz] kt pt] (.Tuple [a, b, c] k2 pt2) pos.line X.env = pure false := by rfl) :
    PS X (.Assign [.Tuple [.Name x px, .Name y py, .Name z pz] kt pt] (.Tuple [a, b, c] k2 pt2) pos) (tPar3 i j k ta) := by
  refine ⟨fun pins s σ H D I h => ?_⟩
  rw [exec_Assign_arm]
  refine wpAny_bind (wpAny_standAt ?_)
  rw [hs]
  refine wpAny_bind (wpAny_pure ?_)
  rw [if_neg (by decide)]
  refine wpAny_bind (Tuple_ (thn (ha.run _ pins s σ H _ I h) fun us s1 hh => ?_))
  obtain ⟨vs, H1, I1, r1, u, v, w, rfl, q1⟩ := hh
  obtain ⟨u1, u2, u3, rfl, ru, rv, rw'⟩ : ∃ u1 u2 u3, us = [u1, u2, u3] ∧ RelV u u1 ∧ RelV v u2 ∧ RelV w u3 := by
    rcases r1 with _ | ⟨p, _ | ⟨p2, _ | ⟨p3, r⟩⟩⟩
    cases r
    exact ⟨_, _, _, rfl, p, p2, p3⟩
  refine wpAny_newObj_type ?_ (by show 3 ≤ sizeLine; decide)
  have I2 : Inv X pins σ H1 { s1 with heap := s1.heap.push { cls := .type "tuple", data := .seq [u1, u2, u3].toArray } } := I1.kept (t' := s1.toks) fun b o e => Heap.get?_push_of_some _ e
  rw [hw]
  refine wpAny_bind (wpAny_pure ?_)
  show wpAny (model X.prog X.w) X.A (do rule "assign.swapped-stores"; let items ← unpackItems (.ref s1.heap.objs.size) 3 none; assignInOrder [fun v => bindName X.env z v, fun v => bindName X.env y v, fun v => bindName X.env x v] items.reverse; pure Flow.next) _ _ _
  refine wpAny_bind (wpAny_rule (wpAny_bind (unpackItems_tuple (items := #[u1, u2, u3]) (I.ok.hd hc) (IsTup.new s1.heap _) fun h' hx' => ?_)))
  have I3 := I2.kept (h' := h') (t' := s1.toks) fun b o e => hx' b o (Nat.ne_of_lt (Heap.lt_size e)) e
  show wpAny _ _ (assignInOrder [fun v => bindName X.env z v, fun v => bindName X.env y v, fun v => bindName X.env x v] [u3, u2, u1] >>= fun _ => pure Flow.next) _ _ _
  refine wpAny_bind (assignInOrder_cons (wpAny_bindName (store_ok I3 hN hk (.inl hz) rw' (fun s2 I4 => ?_) (.inr hz))))
  refine assignInOrder_cons (wpAny_bindName (store_ok I4 hN hj (.inl hy) rv (fun s3 I5 => ?_) (.inr hy)))
  refine assignInOrder_cons (wpAny_bindName (store_ok I5 hN hi (.inl hx) ru (fun s4 I6 => assignInOrder_nil (wpAny_pure ?_)) (.inr hx)))
  exact ⟨_, _, I6, q1⟩
end SL
set_option Elab.async false
set_option linter.all false
set_option maxRecDepth 100000
set_option maxHeartbeats 2000000
/-! own words, 16: +, -, * with a whole number or a truth on the left; str of these -/
namespace SL
open PySem PySem.Spec PyProof.Rows L2 GxR NdefX GA
variable [SL.LamT]
/-- a whole number or a truth, and as a number -/
def numV (x : V) (i : Int) : Prop := x = .int i ∨ ∃ b, x = .bl b ∧ i = if b = true then 1 else 0
section
variable {X : Cx}
def rNumI (C : Int → Int → Prop) (g : Int → Int → Int) : R2 := fun x y H Q => ∃ i j, numV x i ∧ y = .int j ∧ C i j ∧ Q (.int (g i j)) H
theorem op_addB : OpR X (binaryOp .Add) (rNumI (fun _ _ => True) (· + ·)) := by
  intro pins s σ H x y v u Q I rx ry h
  obtain ⟨i, j, hx, rfl, _, q⟩ := h
  obtain ⟨t, rfl⟩ := ry
  have fin : EP X pins σ Q (.int (i + j) s.toks) { s with toks := s.toks + 1 } := ⟨.int (i + j), H, I.tok _, ⟨_, rfl⟩, q⟩
  rcases hx with rfl | ⟨b, rfl, rfl⟩
  · obtain ⟨t', rfl⟩ := rx
    exact add_int fin
  · cases rx
    exact IntBool.add_bool_int fin
theorem op_subB : OpR X (binaryOp .Sub) (rNumI (fun _ _ => True) (· - ·)) := by
  intro pins s σ H x y v u Q I rx ry h
  obtain ⟨i, j, hx, rfl, _, q⟩ := h
  obtain ⟨t, rfl⟩ := ry
  have fin : EP X pins σ Q (.int (i - j) s.toks) { s with toks := s.toks + 1 } := ⟨.int (i - j), H, I.tok _, ⟨_, rfl⟩, q⟩
  rcases hx with rfl | ⟨b, rfl, rfl⟩
  · obtain ⟨t', rfl⟩ := rx
    exact sub_int fin
  · cases rx
    exact IntBool.sub_bool_int fin
theorem op_mulB : OpR X (binaryOp .Mult) (rNumI CMul (· * ·)) := by
  intro pins s σ H x y v u Q I rx ry h
  obtain ⟨i, j, hx, rfl, hc, q⟩ := h
  obtain ⟨t, rfl⟩ := ry
  have fin : EP X pins σ Q (.int (i * j) s.toks) { s with toks := s.toks + 1 } := ⟨.int (i * j), H, I.tok _, ⟨_, rfl⟩, q⟩
  rcases hx with rfl | ⟨b, rfl, rfl⟩
  · obtain ⟨t', rfl⟩ := rx
    exact mul_int fin hc.ok
  · cases rx
    exact IntBool.mul_bool_int fin
theorem neg_bool {prog : Program} {w : World} {A : Around} {E : Value → Shared → Prop} {s : Shared} {b : Bool} {Q : Value → Shared → Prop} (h : Q (.int (-(if b = true then 1 else 0)) s.toks) { s with toks := s.toks + 1 }) : wpAny (model prog w) A (unaryOp .USub (.bool b)) Q E s := by
  refine unaryOp_gives (op := .USub) (PySem.typeIs_bool s b) rfl F.slot_bool_neg F.entry_int_neg (F.args_int_neg_1 _) (m := Made.int (-(if b = true then 1 else 0))) (by cases b <;> exact .of_eq rfl) h
def rNegB : V → Hp → VK → Prop := fun x H Q => ∃ i, numV x i ∧ Q (.int (-i)) H
theorem un_negB {X : Cx} : UnR X (unaryOp .USub) rNegB := by
  intro pins s σ H x v Q I rx h
  obtain ⟨i, hx, q⟩ := h
  have fin : EP X pins σ Q (.int (-i) s.toks) { s with toks := s.toks + 1 } := ⟨.int (-i), H, I.tok _, ⟨_, rfl⟩, q⟩
  rcases hx with rfl | ⟨b, rfl, rfl⟩
  · obtain ⟨t', rfl⟩ := rx
    exact neg_int fin
  · cases rx
    exact neg_bool fin
/-- str(x) of a whole number or a truth: some ascii text -/
def rStrN : List V → Hp → VK → Prop := fun xs H Q => (∃ i, xs = [.int i] ∧ i.natAbs.log2 < 1920 ∧ Q (.str (toString i)) H) ∨ ∃ b, xs = [.bl b] ∧ Q (.str (if b = true then "True" else "False")) H
theorem cr_strN : CallR X (.type "str") rStrN := by
  intro pins s σ H xs us Q I r h
  rcases h with ⟨i, rfl, hz, q⟩ | ⟨b, rfl, q⟩
  · exact call_str_int pins s σ H _ us Q I r ⟨i, rfl, hz, q⟩
  · obtain ⟨u, rfl, ru⟩ := vals1 r
    cases ru
    exact PySem.P.str_of_bool ⟨.str _, H, I.tok _, ⟨_, rfl⟩, q⟩
end
end SL
set_option Elab.async false
set_option linter.all false
set_option maxRecDepth 100000
set_option maxHeartbeats 2000000
/-! own words, 17: parts of data lists: ints, depth, slices -/
namespace SL
open PySem PySem.Spec PyProof.Rows L2 GxR NdefX GA
variable [SL.LamT]
theorem niceAll_iff {n : Nat} : ∀ {xs : List PyData}, niceAll n xs = true ↔ ∀ d ∈ xs, nice n d = true
  | [] => by simp [niceAll]
  | x :: xs => by
    simp only [niceAll, Bool.and_eq_true, List.mem_cons, forall_eq_or_imp]
    exact and_congr Iff.rfl niceAll_iff
theorem depthAll_le {D : Nat} : ∀ {xs : List PyData}, PyData.depthAll xs ≤ D ↔ ∀ d ∈ xs, d.depth ≤ D
  | [] => by simp [PyData.depthAll]
  | x :: xs => by
    have ih := depthAll_le (D := D) (xs := xs)
    simp only [PyData.depthAll, List.mem_cons, forall_eq_or_imp]
    rw [← ih]
    omega
theorem nice_tup {n : Nat} {xs : List PyData} : nice n (.tuple xs) = true ↔ ∀ d ∈ xs, nice n d = true := by
  simp only [nice]
  exact niceAll_iff
theorem nice_lst {n : Nat} {xs : List PyData} : nice n (.list xs) = true ↔ ∀ d ∈ xs, nice n d = true := by
  simp only [nice]
  exact niceAll_iff
theorem depth_tup {D : Nat} {xs : List PyData} : (PyData.tuple xs).depth ≤ D + 1 ↔ ∀ d ∈ xs, d.depth ≤ D := by
  rw [← depthAll_le]
  simp only [PyData.depth]
  omega
theorem depth_lst {D : Nat} {xs : List PyData} : (PyData.list xs).depth ≤ D + 1 ↔ ∀ d ∈ xs, d.depth ≤ D := by
  rw [← depthAll_le]
  simp only [PyData.depth]
  omega
theorem wt_tupl (xs : List PyData) : wt (.tuple xs) = wtAll xs + 4 := by simp only [wt]
theorem wt_lst (xs : List PyData) : wt (.list xs) = wtAll xs + 4 := by simp only [wt]
/-- the slice of data -/
def cutD (ds : List PyData) (lo hi : Option Int) : List PyData := (ds.drop (HT.sIx ds.length 0 lo)).take (HT.sIx ds.length ds.length hi - HT.sIx ds.length 0 lo)
theorem cutD_mem {ds : List PyData} {lo hi : Option Int} {d : PyData} (h : d ∈ cutD ds lo hi) : d ∈ ds := List.mem_of_mem_drop (List.mem_of_mem_take h)
theorem cutD_wt (ds : List PyData) (lo hi : Option Int) : wtAll (cutD ds lo hi) ≤ wtAll ds := Nat.le_trans (wtAll_take _ _) (wtAll_drop _ _)
theorem cutD_len (ds : List PyData) (lo hi : Option Int) : (cutD ds lo hi).length ≤ ds.length := by
  unfold cutD
  rw [List.length_take, List.length_drop]
  omega
theorem DvAll.cutD {M : List Addr} {H : Hp} {xs : List V} {ds : List PyData} (h : DvAll M H xs ds) (lo hi : Option Int) : DvAll M H (cutV xs lo hi) (cutD ds lo hi) := h.cut lo hi
theorem rep_mem {n : Nat} {ds : List PyData} {d : PyData} (h : d ∈ (List.replicate n ds).flatten) : d ∈ ds := by
  obtain ⟨l, hl, hd⟩ := List.mem_flatten.mp h
  rw [(List.mem_replicate.mp hl).2] at hd
  exact hd
theorem DvAll.rep {M : List Addr} {H : Hp} {xs : List V} {ds : List PyData} (h : DvAll M H xs ds) : ∀ n : Nat, DvAll M H (List.replicate n xs).flatten (List.replicate n ds).flatten
  | 0 => .nil
  | n + 1 => by
    rw [List.replicate_succ, List.flatten_cons, List.replicate_succ, List.flatten_cons]
    exact h.append (DvAll.rep h n)
theorem rep_wt (ds : List PyData) : ∀ n : Nat, wtAll (List.replicate n ds).flatten = n * wtAll ds
  | 0 => by simp [wtAll]
  | n + 1 => by
    rw [List.replicate_succ, List.flatten_cons, wtAll_append, rep_wt ds n, Nat.succ_mul]
    omega
theorem cutD_lo {ds : List PyData} {i : Nat} (h : i ≤ ds.length) : cutD ds none (some (i : Int)) = ds.take i := by
  unfold cutD
  rw [HT.sIx_none, HT.sIx_nat, List.drop_zero, Nat.sub_zero, Nat.min_eq_left h]
theorem cutD_hi {ds : List PyData} {i : Nat} (h : i ≤ ds.length) : cutD ds (some (i : Int)) none = ds.drop i := by
  unfold cutD
  rw [HT.sIx_none, HT.sIx_nat, Nat.min_eq_left h]
  exact List.take_of_length_le (by rw [List.length_drop]; omega)
theorem wt_around {ds : List PyData} {i : Nat} {d : PyData} (h : ds[i]? = some d) : wtAll (ds.take i) + (wt d + 2 + wtAll (ds.drop (i + 1))) = wtAll ds := by
  have hi : i < ds.length := (List.getElem?_eq_some_iff.mp h).1
  have e : ds.drop i = d :: ds.drop (i + 1) := by
    rw [List.drop_eq_getElem_cons hi]
    congr 1
    exact (List.getElem?_eq_some_iff.mp h).2
  have w := wtAll_append (ds.take i) (ds.drop i)
  rw [List.take_append_drop, e] at w
  simp only [wtAll] at w
  omega
end SL
set_option Elab.async false
set_option linter.all false
set_option maxRecDepth 100000
set_option maxHeartbeats 2000000
/-! own words, 18: the law's def called where no guard is about, beside tables of code objects -/
namespace SL
open PySem PySem.Spec PyProof.Rows L2 GxR NdefX GA
variable [SL.LamT]
abbrev scrO (us : List Value) : Obj := { cls := .type "list", data := .seq us.toArray }
abbrev tblO : Obj := { cls := .none, data := .fields #[] }
/-- where the law is called: the written part, the names, code objects cs with their empty tables, the script -/
structure Stand (K : PySem.W.Frag) (mg mb : Str → Option Value) (cs : List (Addr × Addr)) (s : Shared) (a : Addr) (us : List Value) (ns : List Int) : Prop where
  kin : K.In s.heap
  glo : s.heap.Ns mainGlobals mg
  blt : s.heap.Ns builtinsNs mb
  boot : ∀ y : Str, y ≠ "__name__" → mb y = bootBuiltins y
  lim : s.heap.NoLimit
  gens : s.gens = #[]
  tab : ∀ p ∈ cs, s.heap.get? p.2 = some tblO
  tabK : ∀ p ∈ cs, K.lookup p.2 = none
  code : ∀ p ∈ cs, PySem.W.CodeHd s.heap p.1 p.2
  bm : ∃ (m : Addr) (ob : Obj), mg "__builtins__" = some (.ref m) ∧ m ≠ builtinsNs ∧ s.heap.get? m = some ob ∧ ob.cls = .type "module" ∧ ob.dict = some builtinsNs ∧ ob.data = .plain
  scr : s.heap.get? a = some (scrO us)
  mods : ∃ m, s.heap.Ns sysModules m
  nums : IntsAre us ns
  short : ns.length ≤ sizeLine
/-- what is tracked there: the tables; the script, unless the top has written it -/
def trk0 (K : PySem.W.Frag) (cs : List (Addr × Addr)) (a : Addr) (us : List Value) (ns : List Int) : Hp := fun b =>
  if b ∈ cs.map (·.2) then some (.tbl #[]) else if b = a ∧ (K.lookup a).isNone = true then some (.frz (scrO us) (.lst (ns.map V.int))) else none
section
variable {P : Program} {w : World} {K : PySem.W.Frag} {mg mb : Str → Option Value} {cs : List (Addr × Addr)} {s : Shared} {a b : Addr} {us : List Value} {ns : List Int} {o : Obj} {u : HO}
theorem trk0_tab {p : Addr × Addr} (h : p ∈ cs) : trk0 K cs a us ns p.2 = some (.tbl #[]) := if_pos (List.mem_map_of_mem h)
theorem Stand.cases (S : Stand K mg mb cs s a us ns) (h : trk0 K cs a us ns b = some u) :
    (u = .tbl #[] ∧ s.heap.get? b = some tblO ∧ ∃ p ∈ cs, p.2 = b) ∨ (u = .frz (scrO us) (.lst (ns.map V.int)) ∧ b = a ∧ K.lookup a = none) := by
  unfold trk0 at h
  split at h
  · rename_i m
    obtain ⟨p, hp, e⟩ := List.mem_map.mp m
    cases h
    exact .inl ⟨rfl, by rw [← e]; exact S.tab p hp, p, hp, e⟩
  · split at h
    · rename_i m
      cases h
      exact .inr ⟨rfl, m.1, by simpa using m.2⟩
    · cases h
/-- what is neither a list nor a table is not tracked -/
theorem Stand.off (S : Stand K mg mb cs s a us ns) (e : s.heap.get? b = some o) (n1 : ∀ vs n, o.data ≠ .seq vs n) (n2 : o.data ≠ .fields #[]) : trk0 K cs a us ns b = none := by
  cases q : trk0 K cs a us ns b with
  | none => rfl
  | some u =>
    rcases S.cases q with ⟨_, e2, _⟩ | ⟨_, rfl, _⟩
    · rw [e] at e2
      cases e2
      exact absurd rfl n2
    · rw [S.scr] at e
      cases e
      exact absurd rfl (n1 _ _)
theorem Stand.base (S : Stand K mg mb cs s a us ns) (e : s.heap.get? b = some o) (n1 : ∀ vs n, o.data ≠ .seq vs n) (n2 : o.data ≠ .fields #[]) : (hidT s.heap (trk0 K cs a us ns)).get? b = some o := hidT_get e (S.off e n1 n2)
theorem Stand.named (S : Stand K mg mb cs s a us ns) {g : Addr} {m : Str → Option Value} (h : s.heap.Ns g m) : (hidT s.heap (trk0 K cs a us ns)).Ns g m := by
  obtain ⟨o, es, ep, e, d, r⟩ := h
  exact ⟨o, es, ep, S.base e (by rw [d]; intro _ _ z; cases z) (by rw [d]; intro z; cases z), d, r⟩
theorem Stand.kinB (S : Stand K mg mb cs s a us ns) : K.In (hidT s.heap (trk0 K cs a us ns)) := fun b o e => by
  refine hidT_get (S.kin b o e) ?_
  cases q : trk0 K cs a us ns b with
  | none => rfl
  | some u =>
    rcases S.cases q with ⟨_, _, p, hp, rfl⟩ | ⟨_, rfl, k⟩
    · rw [S.tabK p hp] at e
      cases e
    · rw [k] at e
      cases e
theorem Stand.mod (S : Stand K mg mb cs s a us ns) : L2.Mod K mg (hidT s.heap (trk0 K cs a us ns)) := by
  obtain ⟨mc, l1, l2⟩ := S.lim
  exact ⟨S.kinB, S.named S.glo, ⟨mb, S.named S.blt, S.boot⟩, mc, S.named l1, l2⟩
theorem Stand.tabB (S : Stand K mg mb cs s a us ns) {p : Addr × Addr} (hp : p ∈ cs) : GxR.TabB (hidT s.heap (trk0 K cs a us ns)) mg p.1 p.2 := by
  have ht := S.tab p hp
  refine ⟨?_, ?_, ?_⟩
  · obtain ⟨o, vs, file, tf, flags, tg, inF, text, tt, e, r1, r2, r3, r⟩ := S.code p hp
    refine ⟨o, vs, file, tf, flags, tg, inF, text, tt, S.base e (by rw [r2]; intro _ _ z; cases z) ?_, r1, r2, r3, r⟩
    rw [r2]
    intro z
    cases z
    simp at r3
  · obtain ⟨m, ob, b1, b2, b3, b4, b5, b6⟩ := S.bm
    refine ⟨m, ob, b1, b2, ?_, ?_, S.base b3 (by rw [b6]; intro _ _ z; cases z) (by rw [b6]; intro z; cases z), b4, b5, b6⟩
    · rintro rfl
      obtain ⟨o, es, ep, e, d, _⟩ := S.glo
      rw [b3] at e
      cases e
      rw [b6] at d
      cases d
    · rintro rfl
      rw [ht] at b3
      cases b3
      cases b6
  · intro z
    obtain ⟨o, es, ep, e, d, _⟩ := S.glo
    rw [z, ht] at e
    cases e
    cases d
theorem Stand.hok (S : Stand K mg mb cs s a us ns) : HOk P w (trk0 K cs a us ns) s.heap := fun b u h => by
  rcases S.cases h with ⟨rfl, e, _⟩ | ⟨rfl, rfl, _⟩
  · exact e
  · exact ⟨S.scr, by rw [List.length_map]; exact S.short, us, _, vals_ints S.nums, S.scr⟩
theorem Stand.sq (S : Stand K mg mb cs s a us ns) : SqL K (trk0 K cs a us ns) a (ns.map V.int) := by
  have na : a ∉ cs.map (·.2) := fun m => by
    obtain ⟨p, hp, e⟩ := List.mem_map.mp m
    have t := S.tab p hp
    rw [e, S.scr] at t
    cases t
  cases k : K.lookup a with
  | none => exact .inl (.inr ⟨scrO us, (if_neg na).trans (if_pos ⟨rfl, by rw [k] <;> rfl⟩)⟩)
  | some o =>
    have e := S.kin a o k
    rw [S.scr] at e
    cases e
    exact .inr ⟨_, us.toArray, _, k, rfl, rfl, rfl, by rw [List.size_toArray, S.nums.length]; exact S.short, by simpa using vals_ints S.nums⟩
theorem Stand.env (S : Stand K mg mb cs s a us ns) : Env0 P w K mg (hidT s.heap (trk0 K cs a us ns)) callerA [] s (trk0 K cs a us ns) where
  frames := rfl
  mod := S.mod
  bs := fun _ _ e => of_hidT e
  bsz := Nat.le_of_eq (hidT_size _ _)
  funs := trivial
  frf := fun _ h => absurd h List.not_mem_nil
  hok := S.hok
  bare := .of_eq S.gens
/-- what stood before stands behind the call, the tables grown -/
theorem Stand.old (S : Stand K mg mb cs s a us ns) {s' : Shared} {H' : Hp} (un : Un [] [] (trk0 K cs a us ns) H' s.heap s'.heap) (ok : HOk P w H' s'.heap) : OldK s.heap s'.heap := by
  have grown : ∀ p ∈ cs, ∃ more : Array Value, s'.heap.get? p.2 = some { cls := .none, data := .fields more } := fun p hp => by
    obtain ⟨more, e⟩ := un.tbls p.2 #[] (trk0_tab hp)
    exact ⟨_, ok _ _ e⟩
  have each : ∀ b o, s.heap.get? b = some o → s'.heap.get? b = some o ∨ ∃ p ∈ cs, p.2 = b := fun b o e => by
    cases q : trk0 K cs a us ns b with
    | none => exact .inl (un.keep b o e q List.not_mem_nil List.not_mem_nil)
    | some u =>
      rcases S.cases q with ⟨_, _, h⟩ | ⟨rfl, rfl, _⟩
      · exact .inr h
      · refine .inl ?_
        have k := (ok _ _ (un.frzs _ _ _ q)).1
        rw [S.scr] at e
        cases e
        exact k
  refine ⟨fun b o e => ?_, fun b o e => ?_⟩
  · rcases each b o e with h | ⟨p, hp, rfl⟩
    · exact .inl h
    · obtain ⟨more, hm⟩ := grown p hp
      rw [S.tab p hp] at e
      cases e
      exact .inr (.inl ⟨((S.code p hp).tab (S.tab p hp)).isCodeTable, rfl, #[], more, rfl, by rw [Array.empty_append]; exact hm⟩)
  · rcases each b o e with h | ⟨p, hp, rfl⟩
    · exact ⟨o, h⟩
    · obtain ⟨more, hm⟩ := grown p hp
      exact ⟨_, hm⟩
/-- the call gives True -/
theorem Stand.run (S : Stand K mg mb cs s a us ns) {k : Nat} {fa : Addr} {fd : FuncData} {x : Str} {sp : Sp} (hr : Room k callerA) (F : ∀ base : Heap, K.In base → base.Ns mainGlobals mg → (∃ o, base.get? sysModules = some o) → (∀ p ∈ cs, GxR.TabB base mg p.1 p.2) → FnG P w K mg base k fa fd [x] sp)
    (hb : ∀ (t : Shared) (v : Value), BindsTo t fd ⟨[v], []⟩ [(x, v)]) (hsp : ∀ H : Hp, (∀ p ∈ cs, H p.2 = some (.tbl #[])) → SqL K H a (ns.map V.int) → sp [.ref a] H (fun v _ => v = .bl true) E0) :
    codeAny (model P w) callerA (.call (.ref fa) ⟨[.ref a], []⟩) (fun r s' => r = .ok (.ret (.bool true)) ∧ OldK s.heap s'.heap ∧ s'.os = s.os ∧ AllBare s'.gens) s := by
  obtain ⟨m, hm⟩ := S.mods
  obtain ⟨ob, _, _, eb, _⟩ := S.named hm
  have G := F _ S.kinB (S.named S.glo) ⟨ob, eb⟩ fun p hp => S.tabB hp
  have go := G.run callerA [] s (trk0 K cs a us ns) ⟨[.ref a], []⟩ [.ref a] [.ref a] _ rfl hr S.env (hb s (.ref a)) (.cons rfl .nil) (hsp _ (fun _ hp => trk0_tab hp) S.sq)
  refine codeAny_mono go ?_
  rintro (err | fl) s' h
  · exact False.elim h
  · rcases fl with _ | _ | _ | v
    · exact False.elim h
    · exact False.elim h
    · exact False.elim h
    · obtain ⟨y, H', os, bare, un, ok, rel, rfl⟩ := h
      cases rel
      exact ⟨rfl, S.old un ok, os, bare⟩
end
/-- the law's row, once its def is shown to give True -/
theorem walkG {l : PySem.W.OpenLaw} {n k : Nat} {q : Program} {loose : List Str} {XP : (Str → Option Value) → Heap → Prop} {YP : World → Heap → Prop} {d : DefRec} {K : Params → PySem.W.Frag} {x : Str}
    (hn : l.most = some n) (hn2 : n ≤ sizeLine) (hdf : d.params.defaults = []) (hq : importsNone q = true) (hr : Room k callerA) (hY : ∀ (w : World) (h : Heap), YP w h → (K w.params).In h)
    (F : ∀ (w : World) (mg : Str → Option Value) (fa : Addr) (h : Heap), (K w.params).In h → h.Ns mainGlobals mg → mg d.name = some (.ref fa) →
      (∀ (e : DefRec) (y : Str) (c Q : Addr), (recsOf q).find? (fun r => r.name == y) = some e → PySem.W.tabIn (K w.params) y = some (c, Q) → PySem.W.CodeHd h c Q ∧ h.get? Q = some tblO) →
      ∃ (fd : FuncData) (cs : List (Addr × Addr)) (sp : Sp), (∀ p ∈ cs, h.get? p.2 = some tblO ∧ (K w.params).lookup p.2 = none ∧ PySem.W.CodeHd h p.1 p.2) ∧ (∀ (t : Shared) (v : Value), BindsTo t fd ⟨[v], []⟩ [(x, v)]) ∧
        (∀ (H : Hp) (a : Addr) (ns : List Int), ns.length ≤ n → (∀ p ∈ cs, H p.2 = some (.tbl #[])) → SqL (K w.params) H a (ns.map V.int) → sp [.ref a] H (fun v _ => v = .bl true) E0) ∧
        ∀ base : Heap, (K w.params).In base → base.Ns mainGlobals mg → (∃ o, base.get? sysModules = some o) → (∀ p ∈ cs, GxR.TabB base mg p.1 p.2) → FnG l.prog w (K w.params) mg base k fa fd [x] sp) :
    PySem.W.WalkO q loose XP YP l.row.toRowW d [] (fun f vs => PySem.call f vs) := by
  refine Att.attach_callB hn hdf fun w s₀ s₁ mg mb fa o pm cd doc a us ns G Y _ _ _ hmg hobj hints hlen _ hg => ?_
  have KX := hY w _ Y
  obtain ⟨fd, cs, sp, ht, hb, hsp, hF⟩ := F w mg fa _ KX G.T.g hmg fun e y c Q h1 h2 => PySem.W.tab_of G.T KX h1 h2
  obtain ⟨mm, hmm, _⟩ := (G.T.seer hq).mods
  have S : Stand (K w.params) mg mb cs s₁ a us ns := ⟨KX, G.T.g, G.T.b, G.T.builtins, G.T.nolimit, hg, fun p hp => (ht p hp).1, fun p hp => (ht p hp).2.1, fun p hp => (ht p hp).2.2, G.T.bmain, hobj, ⟨mm, hmm⟩, hints, Nat.le_trans hlen hn2⟩
  exact S.run hr hF hb fun H h1 h2 => hsp H a ns hlen h1 h2
end SL
set_option Elab.async false
set_option linter.all false
set_option maxRecDepth 100000
set_option maxHeartbeats 2000000
/-! own words, 19: enumerate of a tuple -/
namespace SL
open PySem PySem.Spec PyProof.Rows L2 GxR NdefX GA
variable [SL.LamT]
open AutoSeq1 (wpAny_loadPart')
/-- the pairs of places and items of the tuple at a -/
def ItN (K : PySem.W.Frag) (a : Addr) : It where
  go := fun i H => ∃ xs x, SqT K H a xs ∧ xs[i]? = some x
  yld := fun i H v G => ∃ p x, v = .ref p ∧ H p = none ∧ G = upd H p (.tup [.int (i : Nat), x]) ∧ ∀ xs, SqT K H a xs → xs[i]? = some x
  stop := fun i H => ∃ xs, SqT K H a xs ∧ xs.length ≤ i
theorem enumT_new (a : Addr) (us : Array Value) (n : Nat) (dd : Option Addr) (ss : Array (Option Value)) :
    Meets (Builtin.«enumerate.__new__» ⟨[.type "enumerate", .ref a], []⟩) (fun _ G t => t.heap.get? a = some { cls := .type "tuple", dict := dd, data := .seq us n, slots := ss } ∧
      G (.ok (.ret (.ref (t.heap.push { cls := .type "tuple_iterator", data := .fields #[.ref a, .int 0 0] }).objs.size)))
        { t with heap := (t.heap.push { cls := .type "tuple_iterator", data := .fields #[.ref a, .int 0 0] }).push { cls := .type "enumerate", data := .fields #[.none, .bool false, .ref t.heap.objs.size, rawInt 0, .none, .none] } }) :=
  .of_wp fun pr wd ar G t z => by
    obtain ⟨hh, gg, dr, to, oo⟩ := t
    obtain ⟨ha, z⟩ := z
    have h1 := sub_enumerate
    have h2 : Heap.IsTuple (Shared.heap ⟨hh, gg, dr, to, oo⟩) a us := ⟨_, ha, rfl, n, rfl⟩
    wp_walk using wpAny_loadPart' ha
    refine wpAny_stack_any fun _ => wpAny_pure ?_
    split
    · rename_i c _ _ _ _ _
      by_cases e : (c == Value.type "enumerate") = true
      all_goals first
        | simp only [e]
        | skip
      all_goals
        wp_walk using wpAny_loadPart' ha, wpAny_pyIter_tuple h2
        exact ⟨_, rfl, z⟩
    · wp_walk using wpAny_loadPart' ha, wpAny_pyIter_tuple h2
      exact ⟨_, rfl, z⟩
section
variable {prog : Program} {w : World} {A : Around} {E : Value → Shared → Prop} {s : Shared}
theorem call_enumT {a : Addr} {us : Array Value} {Q : Value → Shared → Prop} (h : s.heap.IsTuple a us)
    (q : ∀ h', IsEnum h' (s.heap.objs.size + 1) s.heap.objs.size 0 .none → h'.IsTupleIter s.heap.objs.size a 0 → (∀ b o, s.heap.get? b = some o → h'.get? b = some o) → Q (.ref (s.heap.objs.size + 1)) { s with heap := h' }) :
    wpAny (model prog w) A (call (.type "enumerate") [.ref a]) Q E s := by
  obtain ⟨⟨c, dd, dt, ss⟩, g, e1, n, e2⟩ := h
  simp only at e1 e2
  subst e1 e2
  refine callType_new F.called_enumerate (by decide) (F.typeCall_enumerate_1 _) (F.newCall_enumerate_1 _) (fun z => F.args_object_init_2 z _) F.entry_enumerate_new (enumT_new a us n dd ss) ⟨g, ?_⟩
  obtain ⟨h1, eh⟩ : ∃ h1, h1 = s.heap.push { cls := .type "tuple_iterator", data := .fields #[.ref a, .int 0 0] } := ⟨_, rfl⟩
  have z1 : h1.objs.size = s.heap.objs.size + 1 := by rw [eh]; exact Heap.size_push ..
  have g1 : h1.get? s.heap.objs.size = some { cls := .type "tuple_iterator", data := .fields #[.ref a, .int 0 0] } := by rw [eh]; exact Heap.get?_push_size _ rfl
  have k1 : ∀ b o, s.heap.get? b = some o → h1.get? b = some o := fun b o x => by rw [eh]; exact Heap.get?_push_of_some _ x
  rw [← eh]
  show _ ∧ _
  rw [z1]
  have en := Heap.get?_push_size h1 (o := { cls := .type "enumerate", data := .fields #[.none, .bool false, .ref s.heap.objs.size, rawInt 0, .none, .none] }) rfl
  rw [z1] at en
  exact ⟨⟨_, en, rfl⟩, q _ en ⟨_, Heap.get?_push_of_some _ g1, rfl, rfl⟩ fun b o x => Heap.get?_push_of_some _ (k1 b o x)⟩
end
theorem turnN {P : Program} {w : World} {K : PySem.W.Frag} {elts : List Expr} {kk : Nat} {tpos : Pos} (a e it : Addr) :
    Turn P w K (.Tuple elts kk tpos) (ItN K a) [e, it] e (fun i h => (∃ old, IsEnum h e it ((i : Nat) : Int) old) ∧ h.IsTupleIter it a i ∧ e ≠ it) where
  mem := List.mem_cons_self
  obj := fun i h st b hb => by
    obtain ⟨⟨_, he⟩, ⟨o, ho, _, hd⟩, _⟩ := st
    rcases List.mem_cons.mp hb with rfl | hb
    · exact ⟨_, he, fun v z => nomatch z⟩
    · rw [List.mem_singleton.mp hb]
      exact ⟨o, ho, fun v z => by rw [hd] at z; cases z⟩
  keep := fun i h h' st k => by
    obtain ⟨⟨old, he⟩, hi, hne⟩ := st
    exact ⟨⟨old, k e List.mem_cons_self _ he⟩, hi.at fun o z => k it (by simp) o z, hne⟩
  item := by
    intro X hP hw hK hc i pins s σ H E I hf st hg
    subst hP hw hK
    obtain ⟨⟨old, he⟩, hit, hne⟩ := st
    obtain ⟨xs, x, hq, hx⟩ := hg
    obtain ⟨its, rv, pt, _⟩ := I.tuple hq
    obtain ⟨u, hu, ru⟩ := rv.get hx
    have tup : s.heap.IsTuple a its.toArray := by
      obtain ⟨o, g, c, n, d⟩ := pt
      exact ⟨o, g, c, n, d⟩
    have ai : a ≠ it := by
      rintro rfl
      obtain ⟨o, g, c, _⟩ := tup
      obtain ⟨o', g', c', _⟩ := hit
      rw [g] at g'
      cases g'
      rw [c] at c'
      exact absurd c' (by decide)
    have ae : e ∉ [it, a] := fun z => by
      rcases List.mem_cons.mp z with z | z
      · exact hne z
      · obtain ⟨o, g, c, _⟩ := tup
        rw [← List.mem_singleton.mp z, he] at g
        cases g
        have c' : Value.type "enumerate" = .type "tuple" := c
        exact absurd c' (by decide)
    have lte : e < s.heap.objs.size := Heap.lt_size he
    have lti : it < s.heap.objs.size := by
      obtain ⟨_, z, _⟩ := hit
      exact Heap.lt_size z
    have hi : i < its.toArray.size := by
      rw [List.size_toArray]
      exact (List.getElem?_eq_some_iff.mp hu).1
    refine wpAny_pyNext_enum_itemD (Draws.tuple (show X.A.in1.handled = none from I.ok.hd hc) it a ai its.toArray) he ⟨hit, tup⟩ hi hne ae fun v h' tk hv ho ⟨hit', _⟩ hT _ hk => ?_
    have ev : v = u := by
      have hv' : its[i]? = some v := by simpa using hv
      rw [hu] at hv'
      exact (Option.some.inj hv').symm
    subst ev
    refine ⟨_, rfl, wpAny_letOwnedTupleGo_enum (s := { s with heap := h', toks := tk + 1 }) ho fun h2 he2 sb => ?_⟩
    have onT : h2.get? s.heap.objs.size = some { cls := .type "tuple", data := .seq #[.int i tk, v] } := (sb.2 _ (Nat.ne_of_gt lte)).trans hT
    obtain ⟨G, eG⟩ : ∃ G, G = upd H s.heap.objs.size (.tup [.int (i : Nat), x]) := ⟨_, rfl⟩
    have fit : ObjOk X.prog X.w G h2 s.heap.objs.size (.tup [.int (i : Nat), x]) := ⟨by show 2 ≤ sizeLine; decide, [.int i tk, v], .cons ⟨_, rfl⟩ (.cons ru .nil), _, onT, rfl, _, rfl⟩
    have J : Inv X pins σ G { s with heap := h2, toks := tk + 1 } := by
      rw [eG] at fit ⊢
      refine I.turnedNew (ch := [e, it]) (fun b ob hb z => ?_) hf (Nat.le_refl _) fit
      have b1 : b ≠ e := fun y => hb (by simp [y])
      have b2 : b ≠ it := fun y => hb (by simp [y])
      exact (sb.2 b b1).trans (hk b ob b1 b2 z)
    refine ⟨.ref s.heap.objs.size, G, J, rfl, ⟨_, x, rfl, I.hok.fresh (Nat.le_refl _), eG, fun ys hy => by rw [I.tuple_inj hy hq]; exact hx⟩, ⟨⟨v, ?_⟩, hit'.at fun o z => (sb.2 it hne.symm).trans z, hne⟩, fun b hb => ?_⟩
    · have : ((i + 1 : Nat) : Int) = (i : Int) + 1 := by omega
      rw [this]
      exact he2
    · have lt : b < s.heap.objs.size := by
        rcases List.mem_cons.mp hb with rfl | hb
        · exact lte
        · rw [List.mem_singleton.mp hb]
          exact lti
      rw [eG, upd_ne (Nat.ne_of_lt lt)]
      exact (hf b hb).1
  done := by
    intro X hP hw hK hc i pins s σ H E I hf st hg
    subst hP hw hK
    obtain ⟨⟨old, he⟩, hit, hne⟩ := st
    obtain ⟨xs, hq, hx⟩ := hg
    obtain ⟨its, rv, pt, _⟩ := I.tuple hq
    have tup : s.heap.IsTuple a its.toArray := by
      obtain ⟨o, g, c, n, d⟩ := pt
      exact ⟨o, g, c, n, d⟩
    obtain ⟨f0, f1, _, f3, f4, f5⟩ := hf it (by simp)
    have none_ : its.toArray[i]? = none := by
      have hl := rv.length
      simp
      omega
    have D : Draws X.prog X.w X.A.in1 it [it, a] i (fun _ _ => True) (fun j h => j = i ∧ h.IsTupleIter it a i ∧ h.IsTuple a its.toArray) :=
      { live := fun _ _ z => let ⟨o, ho, _⟩ := z.2.1; ⟨o, ho⟩
        frame := fun _ _ _ z k => ⟨z.1, z.2.1.at fun o y => k it (by simp) o y, z.2.2.at fun o y => k a (by simp) o y⟩
        item := fun j s Q E lt z _ => absurd z.1 (Nat.ne_of_lt lt)
        done := fun s Q E z hE => wpAny_nextOf_tuple_end (show X.A.in1.handled = none from I.ok.hd hc) z.2.1 z.2.2 none_ hE }
    exact wpAny_pyNext_enum_endD D he ⟨rfl, hit, tup⟩ fun h' eb => ⟨rfl, I.turned (t' := s.toks) (fun b o hb z => eb b o hb z) f0 f1 f3 f4 f5⟩
  self := fun A i s Q E st h => by
    obtain ⟨⟨_, he⟩, _⟩ := st
    exact wpAny_pyIter_enum he h
def iEnumT (K : PySem.W.Frag) (ta : TA) : TI := fun σ H R => ta σ H fun vs G => ∃ a xs, vs = [.ref a] ∧ SqT K G a xs ∧ R (ItN K a) G
theorem pi_enumT {X : Cx} {e : Expr} {ta : TA} {p pos tpos : Pos} {elts : List Expr} {kk : Nat} (hm : X.mg "enumerate" = none) (ha : PA X [e] ta) (hg : Gl X "enumerate" := by rfl) (hs : starEach [e] X.env = [(false, eval e X.env)] := by rfl) :
    PI X (.Tuple elts kk tpos) (.Call (.Name "enumerate" p) [e] [] pos) (iEnumT X.K ta) := by
  constructor
  intro pins s σ H R I h
  refine Call_ (ld_blt I hg hm boot_enumerate (PyProof.Rows.callWith_type1 (thn (ha.run pos pins s σ H _ I h) fun us s1 z => ?_) hs rfl))
  obtain ⟨vs, H1, J, r1, a, xs, rfl, hq, q⟩ := z
  obtain ⟨u, rfl, ru⟩ := vals1 r1
  cases ru
  obtain ⟨its, _, ⟨o, g, c, n, d⟩, _⟩ := J.tuple hq
  refine call_enumT ⟨o, g, c, n, d⟩ fun h' he hit hk => wpAny_pyIter_enum he ?_
  have I2 : Inv X pins σ H1 { s1 with heap := h' } := J.kept (t' := s1.toks) hk
  refine ⟨s1.heap.objs.size + 1, [s1.heap.objs.size + 1, s1.heap.objs.size], _, _, H1, rfl, I2, turnN a (s1.heap.objs.size + 1) s1.heap.objs.size, ⟨⟨.none, he⟩, hit, Nat.succ_ne_self _⟩, fun b hb => ?_, q⟩
  have le : s1.heap.objs.size ≤ b := by
    rcases List.mem_cons.mp hb with rfl | hb
    · exact Nat.le_succ _
    · rw [List.mem_singleton.mp hb]
      exact Nat.le_refl _
  exact J.fpOk le (J.hok.fresh le)
/-- its walk -/
theorem walkN {K : PySem.W.Frag} {a : Addr} {xs : List V} : Walk (ItN K a) xs.length (fun H => SqT K H a xs) (fun i H v G => ∃ p x, v = .ref p ∧ H p = none ∧ G = upd H p (.tup [.int (i : Nat), x]) ∧ xs[i]? = some x) :=
  ⟨fun i _ hi q => ⟨xs, xs[i], q, by simp [hi]⟩, fun _ q => ⟨xs, q, Nat.le_refl _⟩, fun _ _ _ _ _ q ⟨p, x, e1, e2, e3, e4⟩ => ⟨p, x, e1, e2, e3, e4 xs q⟩⟩
end SL
set_option Elab.async false
set_option linter.all false
set_option maxRecDepth 100000
set_option maxHeartbeats 4000000
/-! own words, 20: a dict comprehension of two clauses without tests -/
namespace SL
open PySem PySem.Spec PyProof.Rows L2 GxR NdefX GA
variable [SL.LamT]
abbrev two (kx vx t0 i0 t1 i1 : Expr) (sc : Scope) (pos : Pos) : Expr := .DictComp kx vx [⟨t0, i0, [], 0⟩, ⟨t1, i1, [], 0⟩] sc pos
section
variable {P : Program} {w : World} {A : Around} {R : Result → Shared → Prop} {s : Shared} {kx vx t0 i0 t1 i1 : Expr} {sc : Scope} {pos : Pos} {it : Value} {D : Addr} {env : Env}
abbrev Nv {α : Type} (P : Program) (w : World) (A : Around) (t : Sem α) (Q : α → Shared → Prop) (s : Shared) : Prop := wpAny (model P w) A t Q (fun _ _ => False) s
/-- the first clause's loop -/
theorem two_out (hs : ∀ x, foldedSetIterable i1 env x = pure x) (I : Nat → Shared → Prop)
    (turn : ∀ n s, I n s → Nv P w A (pyNext it) (fun r s1 => match r with
      | none => R (.ok .next) s1
      | some v => Nv P w A (letOwnedTupleGo t0 it v) (fun _ s2 => Nv P w A (assign t0 env v) (fun _ s3 => Nv P w A (eval i1 env) (fun x s4 => Nv P w A (pyIter x) (fun j s5 =>
          codeAny (model P w) A (.compStart (two kx vx t0 i0 t1 i1 sc pos) 1 j (.ref D) env) (fun r s' => match r with
            | .ok _ => ∃ m, m < n ∧ I m s'
            | .error _ => False) s5) s4) s3) s2) s1) s) (n : Nat) (h : I n s) : codeAny (model P w) A (.compLoop (two kx vx t0 i0 t1 i1 sc pos) 0 it (.ref D) env) R s := by
  refine codeAny_loop rfl I (fun n s hI => ?_) n h
  show wpAny _ A ((compTurn (two kx vx t0 i0 t1 i1 sc pos) 0 it (.ref D) env).onRaise (fun x => do noteFrame x env; theTreesLotGoes x)) _ _ s
  refine wpAny_noted ?_
  have e : compTurn (two kx vx t0 i0 t1 i1 sc pos) 0 it (.ref D) env = (do
      standAt i0.pos
      let r ← pyNext it
      match r with
      | none => pure (.done .next)
      | some v => do
        letOwnedTupleGo t0 it v
        assign t0 env v
        let ok ← forIn ([] : List Expr) true fun c r => if r = true then do let ok ← isTrue c env (eval c env); pure (ForInStep.yield ok) else pure (ForInStep.yield r)
        if ok = true then do
          let x ← eval i1 env
          standAt i1.pos
          let x ← foldedSetIterable i1 env x
          let _ ← runOwn (.compStart (two kx vx t0 i0 t1 i1 sc pos) 1 (← holding [x] (pyIter x)) (.ref D) env) env
          again (.compLoop (two kx vx t0 i0 t1 i1 sc pos) 0 it (.ref D) env)
        else again (.compLoop (two kx vx t0 i0 t1 i1 sc pos) 0 it (.ref D) env)) := by rfl
  rw [e]
  refine wpAny_bind (wpAny_standAt (wpAny_bind (thnF (turn n s hI) fun r s1 h1 => ?_)))
  cases r with
  | none => exact wpAny_pure h1
  | some v =>
    refine wpAny_bind (thnF h1 fun _ s2 h2 => wpAny_bind (thnF h2 fun _ s3 h3 => wpAny_bind (wpAny_tests_nil ?_)))
    rw [if_pos rfl]
    refine wpAny_bind (thnF h3 fun x s4 h4 => wpAny_bind (wpAny_standAt (wpAny_bind (wpAny_of_eq (hs x) (wpAny_bind (wpAny_holding (thnF h4 fun j s5 h5 => ?_)))))))
    refine wpAny_bind (wpAny_runOwn ?_)
    rw [Around.mark_none]
    refine codeAny_mono h5 fun r s' hr => ?_
    cases r with
    | ok f => exact wpAny_pure ⟨rfl, hr⟩
    | error e => exact hr.elim
/-- the second clause's loop -/
theorem two_in (I : Nat → Shared → Prop)
    (turn : ∀ n s, I n s → Nv P w A (pyNext it) (fun r s1 => match r with
      | none => R (.ok .next) s1
      | some v => Nv P w A (letOwnedTupleGo t1 it v) (fun _ s2 => Nv P w A (assign t1 env v) (fun _ s3 => Nv P w A (eval kx env) (fun u s4 => Nv P w A (eval vx env) (fun z s5 => Nv P w A (dictSet D u z) (fun _ s6 => ∃ m, m < n ∧ I m s6) s5) s4) s3) s2) s1) s)
    (n : Nat) (h : I n s) : codeAny (model P w) A (.compLoop (two kx vx t0 i0 t1 i1 sc pos) 1 it (.ref D) env) R s := by
  refine codeAny_loop rfl I (fun n s hI => ?_) n h
  show wpAny _ A ((compTurn (two kx vx t0 i0 t1 i1 sc pos) 1 it (.ref D) env).onRaise (fun x => do noteFrame x env; theTreesLotGoes x)) _ _ s
  refine wpAny_noted ?_
  have e : compTurn (two kx vx t0 i0 t1 i1 sc pos) 1 it (.ref D) env = (do
      standAt i1.pos
      let r ← pyNext it
      match r with
      | none => pure (.done .next)
      | some v => do
        letOwnedTupleGo t1 it v
        assign t1 env v
        let ok ← forIn ([] : List Expr) true fun c r => if r = true then do let ok ← isTrue c env (eval c env); pure (ForInStep.yield ok) else pure (ForInStep.yield r)
        if ok = true then do
          (do
            let u ← eval kx env
            let z ← holding [u] (eval vx env)
            standAt { kx.pos with endLine := vx.pos.endLine, endCol := vx.pos.endCol }
            holding [u, z] (dictSet D u z))
          again (.compLoop (two kx vx t0 i0 t1 i1 sc pos) 1 it (.ref D) env)
        else again (.compLoop (two kx vx t0 i0 t1 i1 sc pos) 1 it (.ref D) env)) := by rfl
  rw [e]
  refine wpAny_bind (wpAny_standAt (wpAny_bind (thnF (turn n s hI) fun r s1 h1 => ?_)))
  cases r with
  | none => exact wpAny_pure h1
  | some v =>
    refine wpAny_bind (thnF h1 fun _ s2 h2 => wpAny_bind (thnF h2 fun _ s3 h3 => wpAny_bind (wpAny_tests_nil ?_)))
    rw [if_pos rfl]
    refine wpAny_bind (wpAny_bind (thnF h3 fun u s4 h4 => wpAny_bind (wpAny_holding (thnF h4 fun z s5 h5 => wpAny_bind (wpAny_standAt (wpAny_holding (thnF h5 fun _ s6 h6 => wpAny_pure ⟨rfl, h6⟩)))))))
theorem two_start (h0 : codeAny (model P w) A (.compLoop (two kx vx t0 i0 t1 i1 sc pos) 1 it (.ref D) env) R s)
    (h : Nv P w A (pyIter it) (fun j s' => codeAny (model P w) A (.compLoop (two kx vx t0 i0 t1 i1 sc pos) 1 j (.ref D) env) R s') s) :
    codeAny (model P w) A (.compStart (two kx vx t0 i0 t1 i1 sc pos) 1 it (.ref D) env) R s := by
  refine codeAny_of_tree ?_
  show wpAny _ _ ((compStart (two kx vx t0 i0 t1 i1 sc pos) 1 it (.ref D) env).onRaise (fun x => do noteFrame x env; standAt theWindowsPlace)) _ _ s
  refine wpAny_notedAt ?_
  unfold compStart
  show wpAny _ _ (ask >>= _) _ _ s
  refine wpAny_bind (wpAny_askSetting (wpAny_ite ?_))
  split
  · first
      | exact wpAny_pure ⟨rfl, h0⟩
      | exact wpAny_bind (wpAny_pure (wpAny_pure ⟨rfl, h0⟩))
  · refine wpAny_bind (wpAny_rule ?_)
    first
      | exact wpAny_bind (wpAny_standAt (wpAny_bind (thnF h fun _ _ z => wpAny_pure ⟨rfl, z⟩)))
      | (show wpAny _ _ (standAt i1.pos >>= _) _ _ s; exact wpAny_bind (wpAny_standAt (wpAny_bind (thnF h fun _ _ z => wpAny_pure ⟨rfl, z⟩))))
end
section
/-- where a block's loop is: its iterator stands at its i-th turn, what is tracked is as W has it -/
def Sit (Y : Cx) (pins : List (Addr × Obj)) (σ : L2.St) (tn : Nat → Heap → Prop) (fp : List Addr) (W : Nat → Nat → Hp → Prop) (n : Nat) (s : Shared) : Prop := ∃ i H, Inv Y pins σ H s ∧ tn i s.heap ∧ (∀ b ∈ fp, H b = none) ∧ W i n H
/-- one turn of it, up to the store; Bd: what the store has to end in -/
theorem sit_turn {Y : Cx} {pins : List (Addr × Obj)} {σ : L2.St} {tg : Expr} {J : It} {fp : List Addr} {it : Addr} {tn : Nat → Heap → Prop} {g : TG} {W : Nat → Nat → Hp → Prop} {QQ : Hp → Prop} {Bd : (Hp → Prop) → L2.St → Hp → Prop} {vs : List Nat}
    (hc : Y.calm = true) (hx : Y.xe = fun _ _ => False) (T : Turn Y.prog Y.w Y.K tg J fp it tn) (pg : PG Y tg g) (stat : ∀ {σ' : L2.St} {H' : Hp} {s' : Shared}, Inv Y pins σ' H' s' → (∀ b ∈ fp, H' b = none) → ∀ b ∈ fp, FpOk Y pins H' b)
    (turn : ∀ i m H, W i m H → (J.stop i H ∧ QQ H) ∨ (J.go i H ∧ ∃ Nx : Hp → Prop, (∀ H', Nx H' → ∃ m', m' < m ∧ W (i + 1) m' H') ∧ ∀ x H', J.yld i H x H' → g x σ H' fun σ2 H2 => wipe σ2 vs = σ ∧ Bd Nx σ2 H2)) {n : Nat} {s : Shared} (h : Sit Y pins σ tn fp W n s) :
    Nv Y.prog Y.w Y.A (pyNext (.ref it)) (fun r s1 => match r with
      | none => ∃ H, Inv Y pins σ H s1 ∧ QQ H
      | some v => Nv Y.prog Y.w Y.A (letOwnedTupleGo tg (.ref it) v) (fun _ s2 => Nv Y.prog Y.w Y.A (assign tg Y.env v) (fun _ s3 => ∃ (Nx : Hp → Prop) (σ3 : L2.St) (H3 : Hp) (ps : List (Addr × Obj)), Inv Y (pins ++ ps) σ3 H3 s3 ∧ wipe σ3 vs = σ ∧ Bd Nx σ3 H3 ∧
          ∀ (σ' : L2.St) (H' : Hp) (s' : Shared), Inv Y (pins ++ ps) σ' H' s' → σ.length = σ'.length → (∀ (j : Nat) v, σ[j]? = some (some v) → σ'[j]? = some (some v)) → Nx H' → ∃ m, m < n ∧ Sit Y pins σ tn fp W m s') s2) s1) s := by
  obtain ⟨i, H, I, st, hn, hw⟩ := h
  rcases turn i n H hw with ⟨stop, q⟩ | ⟨go, Nx, hNx, step⟩
  · refine thnF (T.done Y rfl rfl rfl hc i pins s σ H (fun _ _ => False) I (stat I hn) st stop) fun r s1 ⟨e, I1⟩ => ?_
    subst e
    exact ⟨H, I1, q⟩
  · refine thnF (T.item Y rfl rfl rfl hc i pins s σ H (fun _ _ => False) I (stat I hn) st go) fun r s1 ⟨u, e, h1⟩ => ?_
    subst e
    refine thnF h1 fun _ s2 ⟨x, H2, I2, rx, y, st2, n2⟩ => ?_
    have run := pg.run _ s2 σ H2 x u _ (I2.pinned (stat I2 n2) (T.obj _ _ st2)) rx (step x H2 y)
    rw [hx] at run
    refine thnF run fun _ s3 ⟨σ3, H3, I3, hw3, b3⟩ => ⟨Nx, σ3, H3, pinsAt fp s2.heap, I3, hw3, b3, fun σ' H' s' I' hl hk nx => ?_⟩
    obtain ⟨m', lt, w'⟩ := hNx H' nx
    have held : ∀ b ∈ fp, ∀ o, s2.heap.get? b = some o → s'.heap.get? b = some o ∧ H' b = none := fun b hb o e => by
      have z := I'.pin (b, o) (List.mem_append_right _ (List.mem_append_right _ (mem_pinsAt hb e)))
      exact ⟨z.1, z.2.1⟩
    refine ⟨m', lt, i + 1, H', I'.unpinned.weak hl hk, T.keep _ _ _ st2 fun b hb o e => (held b hb o e).1, fun b hb => ?_, w'⟩
    obtain ⟨o, e, _⟩ := T.obj _ _ st2 b hb
    exact (held b hb o e).2
end
section
variable {X : Cx}
/-- {k: v for t0 in i0 for t1 in i1}: D is the new dict; vs: the block's names, vs1: those of the second target -/
def tDc2 (wi : TI) (g : TG) (wi1 : TI) (g1 : TG) (tk tv : TE) (vs vs1 : List Nat) : TE := fun σ H Q => wi σ H fun J H1 => ∀ D, H1 D = none → ∃ W : Nat → Nat → Hp → Prop, (∃ m, W 0 m (upd H1 D (.dK []))) ∧ ∀ i m H, W i m H →
  (J.stop i H ∧ Q (.ref D) H) ∨ (J.go i H ∧ ∃ Nx : Hp → Prop, (∀ H', Nx H' → ∃ m', m' < m ∧ W (i + 1) m' H') ∧ ∀ x H', J.yld i H x H' → g x (wipe σ vs) H' fun σ2 H2 => wipe σ2 vs = wipe σ vs ∧
    wi1 σ2 H2 fun J1 H3 => ∃ W1 : Nat → Nat → Hp → Prop, (∃ m1, W1 0 m1 H3) ∧ ∀ j k H, W1 j k H →
      (J1.stop j H ∧ Nx H) ∨ (J1.go j H ∧ ∃ Nx1 : Hp → Prop, (∀ H', Nx1 H' → ∃ k', k' < k ∧ W1 (j + 1) k' H') ∧ ∀ y H', J1.yld j H y H' → g1 y (wipe σ2 vs1) H' fun σ4 H4 => wipe σ4 vs1 = wipe σ2 vs1 ∧
        tk σ4 H4 fun u H5 => tv σ4 H5 fun z H6 => ∃ kvs key, u = kV key ∧ H6 D = some (.dK kvs) ∧ kvs.length < sizeLine ∧ Nx1 (upd H6 D (.dK (putK kvs key z)))))
theorem pe_dc2 {kx vx t0 i0 t1 i1 : Expr} {scope : Scope} {own : List (Str × Nat)} {vs1 : List Nat} {pos : Pos} {wi wi1 : TI} {g g1 : TG} {tk tv : TE} (hc : X.calm = true) (hN : X.N.Nodup) (hi : PI X t0 i0 wi) (ok : BlkOk X.N X.env.scope scope own) (hv : ∀ i ∈ vs1, i ∈ own.map (·.2))
    (hg : ∀ s H C cl fp, PG (X.blk s H scope (compEnvC scope cl C X.env) fp) t0 g) (hi1 : ∀ s H C cl fp, PI (X.blk s H scope (compEnvC scope cl C X.env) fp) t1 i1 wi1) (hg1 : ∀ s H C cl fp, PG (X.blk s H scope (compEnvC scope cl C X.env) fp) t1 g1)
    (hk : ∀ s H C cl fp, PE (X.blk s H scope (compEnvC scope cl C X.env) fp) kx tk) (he : ∀ s H C cl fp, PE (X.blk s H scope (compEnvC scope cl C X.env) fp) vx tv)
    (hs : ∀ x, foldedSetIterable i0 X.env x = pure x := by intro _; rfl) (hs1 : ∀ env x, foldedSetIterable i1 env x = pure x := by intro _ _; rfl) : PE X (.DictComp kx vx [⟨t0, i0, [], 0⟩, ⟨t1, i1, [], 0⟩] scope pos) (tDc2 wi g wi1 g1 tk tv (own.map (·.2)) vs1) := by
  constructor
  intro pins s σ H Q I h
  rw [arm_eval_DictComp]
  have hfree : ∀ y ∈ scope.names, y.2 = .free → ∃ c, X.env.cells.lookup y.1 = some c := fun y hy e => (ok.free y hy e).elim (fun k => I.ok.has _ (.inl k)) fun k => I.ok.has _ (.inr k)
  refine wpAny_comprehension_free rfl hs (closure_ok hfree) ok.kind (fun y hy e => by rw [ok.uniq y hy, e]) (thn (hi.run pins s σ H _ I h) fun xv s1 hx => thn hx fun itv s2 h2 => ?_)
  obtain ⟨it, fp, tn, J, H2, rfl, I2, T, st2, f2, q⟩ := h2
  refine wpAny_newObj_type (newEnv_comp ?_)
  obtain ⟨D, hD⟩ : ∃ D, D = s2.heap.objs.size := ⟨_, rfl⟩
  have hDn : H2 D = none := I2.hok.fresh (Nat.le_of_eq hD.symm)
  obtain ⟨W, ⟨m0, w0⟩, turn⟩ := q D hDn
  rw [← hD]
  obtain ⟨H3, hH3⟩ : ∃ H3, H3 = upd H2 D (.dK []) := ⟨_, rfl⟩
  obtain ⟨s3, hs3⟩ : ∃ s3 : Shared, s3 = { s2 with heap := s2.heap.push { cls := .type "dict", data := .dict #[] } } := ⟨_, rfl⟩
  have h3 : s3.heap = s2.heap.push { cls := .type "dict", data := .dict #[] } := by rw [hs3]
  have I3 : Inv X pins σ H3 s3 := by
    rw [hs3, hH3]
    refine I2.laid (t' := s2.toks) (fun b o e => Heap.get?_push_of_some _ e) (Nat.le_of_eq hD.symm) ?_
    rw [hD]
    exact dk_empty s2.heap I2.big
  have f3 : ∀ b ∈ fp, FpOk X pins H3 b ∧ b < s3.heap.objs.size := fun b hb => by
    obtain ⟨o, e, _⟩ := T.obj _ _ st2 b hb
    have lt := Heap.lt_size e
    refine ⟨⟨?_, (f2 b hb).2⟩, by rw [h3, Heap.size_push]; exact Nat.lt_succ_of_lt lt⟩
    rw [hH3, upd_ne (by rw [hD]; exact Nat.ne_of_lt lt)]
    exact (f2 b hb).1
  have st3 : tn 0 s3.heap := T.keep _ _ _ st2 fun b _ o e => by rw [h3]; exact Heap.get?_push_of_some _ e
  have I4 := block_start I3 ok hN f3
  rw [← hs3]
  rw [← hH3] at w0
  obtain ⟨ce, hce⟩ : ∃ ce, ce = compEnvC scope (cellsFrom (s3.heap.objs.size + 1) scope.names (cloFrom X.env.cells scope.names [])) s3.heap.objs.size X.env := ⟨_, rfl⟩
  have pg : PG (X.blk s3 H3 scope ce fp) t0 g := by rw [hce]; exact hg ..
  have pi1 : PI (X.blk s3 H3 scope ce fp) t1 i1 wi1 := by rw [hce]; exact hi1 ..
  have pg1 : PG (X.blk s3 H3 scope ce fp) t1 g1 := by rw [hce]; exact hg1 ..
  have pk : PE (X.blk s3 H3 scope ce fp) kx tk := by rw [hce]; exact hk ..
  have pv : PE (X.blk s3 H3 scope ce fp) vx tv := by rw [hce]; exact he ..
  have cL : ce.locals = s3.heap.objs.size := by rw [hce]; rfl
  rw [← hce] at I4
  show codeAny _ _ (.compStart (two kx vx t0 i0 t1 i1 scope pos) 0 (.ref it) (.ref D) (compEnvC scope (cellsFrom (s3.heap.objs.size + 1) scope.names (cloFrom X.env.cells scope.names [])) s3.heap.objs.size X.env)) _ _
  rw [← hce]
  obtain ⟨s4, hs4⟩ : ∃ s4 : Shared, s4 = { s3 with heap := pushCells (s3.heap.push { cls := .type "dict", data := .dict #[] }) scope.names } := ⟨_, rfl⟩
  rw [← hs4] at I4
  show codeAny _ _ _ _ { s3 with heap := pushCells (s3.heap.push { cls := .type "dict", data := .dict #[] }) scope.names }
  rw [← hs4]
  have st4 : tn 0 s4.heap := T.keep _ _ _ st3 fun b _ o e => by rw [hs4]; exact pushCells_keeps _ _ _ _ (Heap.get?_push_of_some _ e)
  have stat : ∀ {σ' : L2.St} {H' : Hp} {s' : Shared}, Inv (X.blk s3 H3 scope ce fp) [] σ' H' s' → (∀ b ∈ fp, H' b = none) → ∀ b ∈ fp, FpOk (X.blk s3 H3 scope ce fp) [] H' b := fun {σ' H' s'} J' hn b hb => by
    have z := J'.ok.exf b hb
    exact ⟨hn b hb, z.1, J'.ok.exfs b hb, .inl hb, fun x c e => z.2 x c e, fun p hp => by cases hp⟩
  have loop : codeAny (model X.prog X.w) X.A (.compLoop (two kx vx t0 i0 t1 i1 scope pos) 0 (.ref it) (.ref D) ce) (compPost (model X.prog X.w) X.A X.xe none (EP X pins σ Q) (.ref D) s3.heap.objs.size) s4 := by
    refine two_out (hs1 ce) (Sit (X.blk s3 H3 scope ce fp) [] (wipe σ (own.map (·.2))) tn fp W) (fun n s5 S5 => ?_) m0 ⟨0, H3, I4, st4, fun b hb => (f3 b hb).1.1, w0⟩
    refine thnF (sit_turn (Y := X.blk s3 H3 scope ce fp) (vs := own.map (·.2)) hc rfl T pg stat turn S5) fun r s6 h6 => ?_
    cases r with
    | none =>
      obtain ⟨H6, I6, qq⟩ := h6
      have I7 : Inv X pins σ H6 s6 := I3.call' (ch := fp) I6.os I6.base I6.hok I6.bare fun b hb => by
        obtain ⟨⟨_, g1, g2, g3, g4, g5⟩, _⟩ := f3 b hb
        exact ⟨g3, g1, g4, g5⟩
      have nC : H6 s3.heap.objs.size = none := by
        rw [← cL]
        exact I6.free
      obtain ⟨m, hn, _⟩ := I6.loc
      have hn : s6.heap.Ns ce.locals m := hn
      rw [cL] at hn
      obtain ⟨g0, g1, g2, g3, g4, g5⟩ := I3.fpOk (H' := H6) (Nat.le_refl _) nC
      exact ⟨m, hn, fun h'' sb => ⟨.ref D, H6, I7.turned (t' := s6.toks) (fun b o hb e => (sb.2 b hb).trans e) g0 g1 g3 g4 g5, rfl, qq⟩⟩
    | some v =>
      refine thnF h6 fun _ s7 h7 => thnF h7 fun _ s8 ⟨Nx, σ8, H8, ps, I8, hw8, b8, fin⟩ => ?_
      refine thnF (pi1.run _ s8 σ8 H8 _ I8 b8) fun x s9 hx9 => thnF hx9 fun j s10 ⟨it1, fp1, tn1, J1, H10, e1, I10, T1, st10, f10, W1, ⟨m1, w1⟩, turn1⟩ => ?_
      subst e1
      have l8 : (wipe σ (own.map (·.2))).length = σ8.length := by rw [← hw8, wipe_length]
      have loop1 : codeAny (model X.prog X.w) X.A (.compLoop (two kx vx t0 i0 t1 i1 scope pos) 1 (.ref it1) (.ref D) ce) (fun r s' => match r with
          | .ok _ => ∃ m, m < n ∧ Sit (X.blk s3 H3 scope ce fp) [] (wipe σ (own.map (·.2))) tn fp W m s'
          | .error _ => False) s10 := by
        refine two_in (Sit (X.blk s3 H3 scope ce fp) ([] ++ ps) (wipe σ8 vs1) tn1 fp1 W1) (fun k s11 S11 => ?_) m1 ⟨0, H10, I10.weak (wipe_length _ _) (fun _ _ e => (wipe_some e).1), st10, fun b hb => (f10 b hb).1, w1⟩
        refine thnF (sit_turn (Y := X.blk s3 H3 scope ce fp) (vs := vs1) hc rfl T1 pg1 (fun {_ _ _} _ hn b hb => ⟨hn b hb, (f10 b hb).2⟩) turn1 S11) fun r s12 h12 => ?_
        cases r with
        | none =>
          obtain ⟨H12, I12, nx⟩ := h12
          refine fin _ H12 s12 I12 (l8.trans (wipe_length σ8 vs1).symm) (fun j v e => ?_) nx
          rw [← hw8] at e
          obtain ⟨e2, e3⟩ := wipe_some e
          rw [wipe_out fun z => e3 (hv j z)]
          exact e2
        | some v1 =>
          refine thnF h12 fun _ s13 h13 => thnF h13 fun _ s14 ⟨Nx1, σ14, H14, ps1, I14, hw14, b14, fin1⟩ => ?_
          refine thnF (pk.run _ s14 σ14 H14 _ I14 b14) fun u s15 ⟨yk, H15, I15, r15, b15⟩ => thnF (pv.run _ s15 σ14 H15 _ I15 b15) fun z s16 ⟨yv, H16, I16, r16, kvs, key, ek, hD16, hz16, nx⟩ => ?_
          subst ek
          refine d_dictSet (X := X.blk s3 H3 scope ce fp) I16 hD16 hz16 r15 r16 fun s17 I17 => fin1 _ _ s17 I17 (by rw [← hw14, wipe_length]) (fun j v e => ?_) nx
          rw [← hw14] at e
          exact (wipe_some e).1
      exact two_start loop1 (T1.self X.A 0 _ _ _ st10 loop1)
  exact codeAny_compStart_dict loop (T.self X.A 0 _ _ _ st4 loop)
end
end SL
set_option Elab.async false
set_option linter.all false
set_option maxRecDepth 100000
set_option maxHeartbeats 8000000
namespace SL
open PySem PySem.Spec PyProof.Rows L2 GxR NdefX GA
variable [SL.LamT]
/-- the rows of makers: the kind's name, the place, the maker -/
def mkN (m : PyData) : Str := strD (fstD m)
def kMk (d : PyData) : List PyData := itemsD (sndD d)
abbrev MRow := Str × Nat × PyData
def tag (kd : Str) (ms : List PyData) : List MRow := ms.zipIdx.map fun mp => (kd, mp.2, mp.1)
def rowsM (ks : List PyData) : List MRow := ks.flatMap fun k => tag (strD (fstD k)) (kMk k)
def namesM (rs : List MRow) : List Str := rs.map fun r => mkN r.2.2
theorem tag_snoc {kd : Str} {ms : List PyData} {j : Nat} {m : PyData} (h : ms[j]? = some m) : tag kd (ms.take (j + 1)) = tag kd (ms.take j) ++ [(kd, j, m)] := by
  have hj : j < ms.length := (List.getElem?_eq_some_iff.mp h).1
  unfold tag
  rw [List.take_add_one, h, Option.toList_some, List.zipIdx_append, List.map_append, List.length_take, Nat.zero_add, Nat.min_eq_left (Nat.le_of_lt hj)]
  rfl
theorem names_tag (kd : Str) (ms : List PyData) : namesM (tag kd ms) = ms.map mkN := by
  unfold namesM tag
  rw [List.map_map]
  have : ((fun r : MRow => mkN r.2.2) ∘ fun mp : PyData × Nat => (kd, mp.2, mp.1)) = mkN ∘ Prod.fst := rfl
  rw [this, ← List.map_map, List.zipIdx_map_fst]
theorem names_append (a b : List MRow) : namesM (a ++ b) = namesM a ++ namesM b := List.map_append
theorem rows_snoc {ks : List PyData} {i : Nat} {k : PyData} (h : ks[i]? = some k) : rowsM (ks.take (i + 1)) = rowsM (ks.take i) ++ tag (strD (fstD k)) (kMk k) := by
  unfold rowsM
  rw [List.take_add_one, h, Option.toList_some, List.flatMap_append]
  simp
theorem names_rows (ks : List PyData) : namesM (rowsM ks) = (ks.flatMap kMk).map mkN := by
  induction ks with
  | nil => rfl
  | cons k r ih =>
    show namesM (tag _ (kMk k) ++ rowsM r) = _
    rw [names_append, names_tag, ih, List.flatMap_cons, List.map_append]
/-- the names that stand ahead of a maker are unlike its own -/
theorem name_new {ks : List PyData} (hn : (namesM (rowsM ks)).Nodup) {i j : Nat} {k m : PyData} (hk : ks[i]? = some k) (hm : (kMk k)[j]? = some m) : mkN m ∉ namesM (rowsM (ks.take i) ++ tag (strD (fstD k)) ((kMk k).take j)) := by
  have e1 : rowsM ks = rowsM (ks.take (i + 1)) ++ rowsM (ks.drop (i + 1)) := by
    unfold rowsM
    rw [← List.flatMap_append, List.take_append_drop]
  have e2 : tag (strD (fstD k)) (kMk k) = tag (strD (fstD k)) ((kMk k).take (j + 1)) ++ (((kMk k).drop (j + 1)).zipIdx (j + 1)).map fun mp => (strD (fstD k), mp.2, mp.1) := by
    have lj : ((kMk k).take (j + 1)).length = j + 1 := by
      have hj := (List.getElem?_eq_some_iff.mp hm).1
      rw [List.length_take]
      omega
    have e : (kMk k).zipIdx = ((kMk k).take (j + 1)).zipIdx ++ ((kMk k).drop (j + 1)).zipIdx (j + 1) := by
      have := List.zipIdx_append (xs := (kMk k).take (j + 1)) (ys := (kMk k).drop (j + 1)) (k := 0)
      rw [List.take_append_drop, Nat.zero_add, lj] at this
      exact this
    unfold tag
    rw [e, List.map_append]
  rw [e1, rows_snoc hk, e2, tag_snoc hm] at hn
  intro z
  rw [List.append_assoc, List.append_assoc, List.append_assoc, names_append, names_append] at hn
  rw [names_append] at z
  have h1 := List.nodup_append.mp hn
  rcases List.mem_append.mp z with z | z
  · refine h1.2.2 _ z (mkN m) ?_ rfl
    exact List.mem_append_right _ (by show mkN m ∈ namesM ([(_, j, m)] ++ _); rw [names_append]; exact List.mem_append_left _ List.mem_cons_self)
  · refine (List.nodup_append.mp h1.2.1).2.2 _ z (mkN m) ?_ rfl
    show mkN m ∈ namesM ([(_, j, m)] ++ _)
    rw [names_append]
    exact List.mem_append_left _ List.mem_cons_self
/-- the dict's entries, one a row of makers -/
inductive Ents (M : List Addr) (H : Hp) : List (Key × V) → List MRow → Prop
  | nil : Ents M H [] []
  | cons {t : Addr} {fv : V} {kd : Str} {p : Nat} {m : PyData} {kvs : List (Key × V)} {rs : List MRow} : H t = some (.tup [.str kd, .int (p : Int), fv]) → t ∉ M → Dv M H fv (sndD m) → Ents M H kvs rs → Ents M H ((.inr (mkN m), .ref t) :: kvs) ((kd, p, m) :: rs)
section
variable {T M : List Addr} {H H' : Hp} {kvs kvs' : List (Key × V)} {rs rs' : List MRow}
theorem Ents.go (h : Ents M H kvs rs) (g : Go T M H H') : Ents M H' kvs rs := by
  induction h with
  | nil => exact .nil
  | cons e n d _ ih => exact .cons (g.tup e n) n (d.go g) ih
theorem Ents.less {M' : List Addr} (h : Ents M H kvs rs) (k : ∀ b ∈ M', b ∈ M) : Ents M' H kvs rs := by
  induction h with
  | nil => exact .nil
  | cons e n d _ ih => exact .cons e (fun z => n (k _ z)) (d.less k) ih
theorem Ents.append (h : Ents M H kvs rs) (k : Ents M H kvs' rs') : Ents M H (kvs ++ kvs') (rs ++ rs') := by
  induction h with
  | nil => exact k
  | cons e n d _ ih => exact .cons e n d ih
theorem Ents.length (h : Ents M H kvs rs) : kvs.length = rs.length := by
  induction h with
  | nil => rfl
  | cons _ _ _ _ ih => rw [List.length_cons, List.length_cons, ih]
theorem Ents.none (h : Ents M H kvs rs) {x : Str} (hx : x ∉ namesM rs) : valV kvs (.inr x) = none := by
  induction h with
  | nil => rfl
  | @cons t fv kd p m kvs rs e n d _ ih =>
    have h1 : mkN m ≠ x := fun z => hx (by rw [← z]; exact List.mem_cons_self)
    rw [valV_neg (fun z => h1 (Sum.inr.inj z))]
    exact ih fun z => hx (List.mem_cons_of_mem _ z)
theorem Ents.some (h : Ents M H kvs rs) {x : Str} (hx : x ∈ namesM rs) : ∃ kd p m t fv, (kd, p, m) ∈ rs ∧ mkN m = x ∧ valV kvs (.inr x) = some (.ref t) ∧ H t = some (.tup [.str kd, .int ((p : Nat) : Int), fv]) ∧ t ∉ M ∧ Dv M H fv (sndD m) := by
  induction h with
  | nil => cases hx
  | @cons t fv kd p m kvs rs e n d _ ih =>
    by_cases c : mkN m = x
    · exact ⟨kd, p, m, t, fv, List.mem_cons_self, c, by rw [valV_pos (by rw [c])], e, n, d⟩
    · have hx' : x ∈ namesM rs := by
        rcases List.mem_cons.mp (show x ∈ mkN m :: namesM rs from hx) with z | z
        · exact absurd z.symm c
        · exact z
      obtain ⟨kd', p', m', t', fv', h1, h2, h3, h4⟩ := ih hx'
      exact ⟨kd', p', m', t', fv', List.mem_cons_of_mem _ h1, h2, by rw [valV_neg (fun z => c (Sum.inr.inj z))]; exact h3, h4⟩
/-- the dict at D tells the makers of ks -/
def MkD (H : Hp) (D : Addr) (ks : List PyData) : Prop := ∃ kvs, H D = some (.dK kvs) ∧ Ents [] H kvs (rowsM ks)
theorem MkD.go {D : Addr} {ks : List PyData} (h : MkD H D ks) (g : Go T [] H H') : MkD H' D ks := by
  obtain ⟨kvs, e, en⟩ := h
  exact ⟨kvs, g.gr _ _ e List.not_mem_nil (fun _ z => by cases z), en.go g⟩
theorem MkD.get {D : Addr} {ks : List PyData} (h : MkD H D ks) {x : Str} (hx : x ∈ namesM (rowsM ks)) : ∃ kd p m t fv, (kd, p, m) ∈ rowsM ks ∧ mkN m = x ∧ DGet H D (.str x) (some (.ref t)) ∧ H t = some (.tup [.str kd, .int ((p : Nat) : Int), fv]) ∧ Dv [] H fv (sndD m) := by
  obtain ⟨kvs, e, en⟩ := h
  obtain ⟨kd, p, m, t, fv, h1, h2, h3, h4, _, h5⟩ := en.some hx
  refine ⟨kd, p, m, t, fv, h1, h2, ?_, h4, h5⟩
  have := DGet.k (k := (Sum.inr x : Key)) e
  rw [h3] at this
  exact this
theorem MkD.no {D : Addr} {ks : List PyData} (h : MkD H D ks) {x : Str} (hx : x ∉ namesM (rowsM ks)) : DGet H D (.str x) none := by
  obtain ⟨kvs, e, en⟩ := h
  have := DGet.k (k := (Sum.inr x : Key)) e
  rw [en.none hx] at this
  exact this
end
/-- names unlike: a name tells its row -/
theorem row_one {rs : List MRow} (h : (namesM rs).Nodup) {r r' : MRow} (h1 : r ∈ rs) (h2 : r' ∈ rs) (e : mkN r.2.2 = mkN r'.2.2) : r = r' := by
  induction rs with
  | nil => cases h1
  | cons a l ih =>
    obtain ⟨n1, n2⟩ := List.nodup_cons.mp (show (mkN a.2.2 :: namesM l).Nodup from h)
    have mem : ∀ {r : MRow}, r ∈ l → mkN r.2.2 ∈ namesM l := fun m => List.mem_map.mpr ⟨_, m, rfl⟩
    rcases List.mem_cons.mp h1 with z1 | z1
    · rcases List.mem_cons.mp h2 with z2 | z2
      · rw [z1, z2]
      · exact absurd (by rw [← z1, e]; exact mem z2) n1
    · rcases List.mem_cons.mp h2 with z2 | z2
      · exact absurd (by rw [← z2, ← e]; exact mem z1) n1
      · exact ih n2 z1 z2
theorem kinds_names {ks : List PyData} (h : kindsB (.tuple ks) = true) : (namesM (rowsM ks)).Nodup ∧ (∀ k ∈ ks, kindB k = true) ∧ ks.length ≤ 6 := by
  simp only [kindsB, Bool.and_eq_true] at h
  obtain ⟨⟨⟨⟨h1, h2⟩, _⟩, h4⟩, _⟩ := h
  refine ⟨?_, fun k hk => List.all_eq_true.mp h2 k hk, ?_⟩
  · rw [names_rows]
    unfold unl mnamesD at h4
    rw [List.map_map] at h4
    exact of_decide_eq_true h4
  · simp only [tupB, Bool.and_eq_true, decide_eq_true_eq] at h1
    omega
theorem kind_parts {k : PyData} (h : kindB k = true) : ∃ (x : Str) (ms : List PyData), k = .tuple [.str x, .tuple ms] ∧ 1 ≤ ms.length ∧ ms.length ≤ 6 ∧ ∀ m ∈ ms, makerB m = true := by
  simp only [kindB, Bool.and_eq_true] at h
  obtain ⟨⟨⟨h1, h2⟩, h3⟩, h4⟩ := h
  obtain ⟨x, y, rfl⟩ := tup2 h1
  obtain ⟨ms, e, l1, l2⟩ := tupOf h3
  have e : y = .tuple ms := e
  subst e
  cases x with
  | str x => exact ⟨x, ms, rfl, by omega, by omega, fun m hm => List.all_eq_true.mp h4 m hm⟩
  | _ => simp [fstD, highD] at h2
theorem maker_parts {m : PyData} (h : makerB m = true) : ∃ (x : Str) (fs : List PyData), m = .tuple [.str x, .tuple fs] ∧ fs.length ≤ 4 ∧ ∀ f ∈ fs, ∃ z, f = .str z := by
  simp only [makerB, Bool.and_eq_true] at h
  obtain ⟨⟨⟨h1, h2⟩, h3⟩, h4⟩ := h
  obtain ⟨x, y, rfl⟩ := tup2 h1
  obtain ⟨fs, e, l1, l2⟩ := tupOf h3
  have e : y = .tuple fs := e
  subst e
  cases x with
  | str x =>
    refine ⟨x, fs, rfl, by omega, fun f hf => ?_⟩
    have := List.all_eq_true.mp h4 f hf
    cases f with
    | str z => exact ⟨z, rfl⟩
    | _ => simp [isStr] at this
  | _ => simp [fstD, highD] at h2
theorem tag_len (kd : Str) (ms : List PyData) : (tag kd ms).length = ms.length := by
  unfold tag
  rw [List.length_map, List.length_zipIdx]
theorem rows_len : ∀ {ks : List PyData}, (∀ k ∈ ks, kindB k = true) → (rowsM ks).length ≤ 6 * ks.length
  | [], _ => Nat.zero_le _
  | k :: r, h => by
    have ih := rows_len fun x hx => h x (List.mem_cons_of_mem _ hx)
    obtain ⟨x, ms, rfl, _, h6, _⟩ := kind_parts (h k List.mem_cons_self)
    show (tag _ (kMk (.tuple [.str x, .tuple ms])) ++ rowsM r).length ≤ _
    rw [List.length_append, tag_len, List.length_cons]
    have : (kMk (.tuple [.str x, .tuple ms])).length = ms.length := rfl
    omega
end SL
namespace K2
open PySem PySem.Spec PyProof.Rows L2 GxR NdefX GA SL
variable [SL.LamT]
abbrev s_demand_kinds : Stmt := top 24
abbrev s_makers_of : Stmt := top 27
abbrev s_kind_of : Stmt := top 28
abbrev s_fields_of : Stmt := top 29
theorem sc_demand_kinds : FnScope ["kinds"] ["kinds"] (defScope s_demand_kinds) := ⟨rfl, rfl, rfl, by decide +kernel, rfl, by decide +kernel, by decide +kernel⟩
theorem sc_makers_of : FnScope ["kinds", "kind", "makers", "place", "maker", "fields"] ["kinds"] (defScope s_makers_of) := ⟨rfl, rfl, rfl, by decide +kernel, rfl, by decide +kernel, by decide +kernel⟩
theorem sc_kind_of : FnScope ["makers", "maker"] ["makers", "maker"] (defScope s_kind_of) := ⟨rfl, rfl, rfl, by decide +kernel, rfl, by decide +kernel, by decide +kernel⟩
theorem sc_fields_of : FnScope ["makers", "maker"] ["makers", "maker"] (defScope s_fields_of) := ⟨rfl, rfl, rfl, by decide +kernel, rfl, by decide +kernel, by decide +kernel⟩
/-- an own error class of the module -/
structure Xc (K : PySem.W.Frag) (mg : Str → Option Value) (x : Str) (C : Addr) : Prop where
  g : mg x = some (.ref C)
  x : PySem.W.excIn K C [.type "ValueError", .type "Exception", .type "BaseException", .type "object"] "ValueError.__new__" = true
  k : PySem.W.keepIn K (.ref C) = true
  b : PySem.W.subIn K (.ref C) (.type "BaseException") = some true
  t : PySem.W.typeIn K (.ref C) = some (.type "type")
theorem ps_raiseX {X : Cx} {W : WX} {C : Addr} {x m : Str} {j : Nat} {p p2 pos pos2 : Pos} (hc : X.calm = true) (T : Xc X.K X.mg x C) (tk : Takes X W) (hg : Gl X x := by rfl) (hdb : (x == ("__debug__" : Str)) = false := by decide) :
    PS X (.Raise (some (.Call (.Name x p) [.Constant (.str m) j p2] [] pos)) none pos2) (fun _ σ H => W (.ref C) none σ H) := ps_raise hc tk (pmk_own PySem.F.excBase_ValueError T.x T.g T.k (raises_own T.b T.t) hg hdb)
def sp_demand_kinds (T : List Addr) : Sp := fun vs H Q _ => ∃ (v : V) (d : PyData), vs = [v] ∧ Dv [] H v d ∧ kindsB d = true ∧ wt d ≤ 4000000 ∧ Tabs T H ∧ ∀ H', Go T [] H H' → Tabs T H' → Q .non H'
def sp_makers_of (T : List Addr) : Sp := fun vs H Q _ => ∃ (v : V) (ks : List PyData), vs = [v] ∧ Dv [] H v (.tuple ks) ∧ kindsB (.tuple ks) = true ∧ Tabs T H ∧ ∀ D H', H D = none → MkD H' D ks → Go T [] H H' → Tabs T H' → Q (.ref D) H'
def sp_kind_of : Sp := fun vs H Q _ => ∃ (D : Addr) (x : Str) (ks : List PyData), vs = [.ref D, .str x] ∧ MkD H D ks ∧ x ∈ namesM (rowsM ks) ∧ ∀ kd p m, (kd, p, m) ∈ rowsM ks → mkN m = x → Q (.str kd) H
def sp_fields_of : Sp := fun vs H Q _ => ∃ (D : Addr) (x : Str) (ks : List PyData), vs = [.ref D, .str x] ∧ MkD H D ks ∧ x ∈ namesM (rowsM ks) ∧ ∀ kd p m fv, (kd, p, m) ∈ rowsM ks → mkN m = x → Dv [] H fv (sndD m) → Q fv H
section
variable {P : Program} {w : World} {K : PySem.W.Frag} {mg : Str → Option Value} {base : Heap} {f c CK CR : Addr} {fd : FuncData} {T : List Addr}
theorem ok_demand_kinds (F : Fun K "demand_kinds" "demand_kinds" s_demand_kinds f fd) (XK' : Xc K mg "BadKinds" CK) (Fk : Fnn P w K mg base CX0 9 "is_kinds" ["thing"] (sp_look T kindsB)) : FnOk P w K mg base CX0 10 f fd ["kinds"] (sp_demand_kinds T) := by
  refine F.ok sc_demand_kinds (fun vs H Q E h => ?_) (fun cdv A outer s H vs Q E hr h => ?_)
  · obtain ⟨_, _, rfl, _⟩ := h
    rfl
  obtain ⟨v, d, rfl, hv, hk, hw, ht, q⟩ := h
  refine ⟨_, pss_one (ps_if (pt_not (pt_val (pe_fn Fk hr (by decide) pass0 (pa_cons (pv 0) pa_nil)))) (pss_one (ps_raiseX rfl XK' LamX.takes0)) pss_nil), ?_⟩
  refine ⟨_, rfl, [], v, d, rfl, hv, hw, ht, fun H' g' t' => ⟨_, rfl, ?_⟩⟩
  rw [hk]
  exact iteF (q H' g' t')
theorem ok_kind_of (F : Fun K "kind_of" "kind_of" s_kind_of f fd) : FnOk P w K mg base CX0 1 f fd ["makers", "maker"] sp_kind_of := by
  refine F.ok sc_kind_of (fun vs H Q E h => ?_) (fun cdv A outer s H vs Q E hr h => ?_)
  · obtain ⟨_, _, _, rfl, _⟩ := h
    rfl
  obtain ⟨D, x, ks, rfl, hD, hx, q⟩ := h
  have hu : (A.deeper (envOfC "kind_of" (defScope s_kind_of) s.heap.objs.size f cdv)).units + 1 < cLine := by
    have := hr.un
    omega
  refine ⟨_, pss_one (ps_ret (pe_ix ix_tup (pe_dget hu (pv 0) (pv 1) (fun _ _ => rfl)) pe_int (fun _ _ => rfl))), ?_⟩
  obtain ⟨kd, p, m, t, fv, h1, h2, h3, h4, h5⟩ := hD.get hx
  exact ⟨_, rfl, _, rfl, D, _, rfl, h3, t, _, 0, _, rfl, rfl, SqT.of h4, atI_nat (j := 0) rfl, q kd p m h1 h2⟩
theorem ok_fields_of (F : Fun K "fields_of" "fields_of" s_fields_of f fd) : FnOk P w K mg base CX0 1 f fd ["makers", "maker"] sp_fields_of := by
  refine F.ok sc_fields_of (fun vs H Q E h => ?_) (fun cdv A outer s H vs Q E hr h => ?_)
  · obtain ⟨_, _, _, rfl, _⟩ := h
    rfl
  obtain ⟨D, x, ks, rfl, hD, hx, q⟩ := h
  have hu : (A.deeper (envOfC "fields_of" (defScope s_fields_of) s.heap.objs.size f cdv)).units + 1 < cLine := by
    have := hr.un
    omega
  refine ⟨_, pss_one (ps_ret (pe_ix ix_tup (pe_dget hu (pv 0) (pv 1) (fun _ _ => rfl)) pe_int (fun _ _ => rfl))), ?_⟩
  obtain ⟨kd, p, m, t, fv, h1, h2, h3, h4, h5⟩ := hD.get hx
  exact ⟨_, rfl, _, rfl, D, _, rfl, h3, t, _, 2, _, rfl, rfl, SqT.of h4, atI_nat (j := 2) rfl, q kd p m fv h1 h2 h5⟩
theorem ok_makers_of (F : Fun K "makers_of" "makers_of" s_makers_of f fd) (he : mg "enumerate" = none) : FnOk P w K mg base CX0 1 f fd ["kinds"] (sp_makers_of T) := by
  have nd := sc_makers_of.nd
  refine F.ok sc_makers_of (fun vs H Q E h => ?_) (fun cdv A outer s H vs Q E hr h => ?_)
  · obtain ⟨_, _, rfl, _⟩ := h
    rfl
  obtain ⟨v, ks, rfl, hv, hk, ht, q⟩ := h
  refine ⟨_, pss_one (ps_ret (pe_dc2 (g := gTup K 2 (gCons (gName 1) (gCons (gName 2) gNil))) (wi1 := iEnumT K (tCons (tVar 2) tNil)) (g1 := gTup K 2 (gCons (gName 3) (gCons (gTup K 2 (gCons (gName 4) (gCons (gName 5) gNil))) gNil))) (own := [("kind", 1), ("makers", 2), ("place", 3), ("maker", 4), ("fields", 5)]) (vs1 := [3, 4, 5]) rfl nd (pi_tup (pv 0)) (blkOk_by (own := [("kind", 1), ("makers", 2), ("place", 3), ("maker", 4), ("fields", 5)]) (N := ["kinds", "kind", "makers", "place", "maker", "fields"]) (sc := defScope s_makers_of) (by decide +kernel)) (by decide) (fun _ _ _ _ _ => pg_tup rfl (pgs_cons (pg_name (i := 1) nd rfl (Or.inl rfl)) (pgs_cons (pg_name (i := 2) nd rfl (Or.inl rfl)) pgs_nil))) (fun _ _ _ _ _ => pi_enumT he (pa_cons (pv 2) pa_nil)) (fun _ _ _ _ _ => pg_tup rfl (pgs_cons (pg_name (i := 3) nd rfl (Or.inl rfl)) (pgs_cons (pg_tup rfl (pgs_cons (pg_name (i := 4) nd rfl (Or.inl rfl)) (pgs_cons (pg_name (i := 5) nd rfl (Or.inl rfl)) pgs_nil))) pgs_nil))) (fun _ _ _ _ _ => pv 4) (fun _ _ _ _ _ => pe_tup (pa_cons (pv 1) (pa_cons (pv 3) (pa_cons (pv 5) pa_nil)))))), ?_⟩
  obtain ⟨nu, hkb, hk6⟩ := kinds_names hk
  obtain ⟨a, xs, rfl, ea, _, dv⟩ := dv_tup hv
  refine ⟨_, rfl, a, rfl, ⟨_, SqT.of ea⟩, fun D hD => ?_⟩
  have lx := dv.length
  have dvD := dv.hide hD
  refine ⟨fun i m H' => m = xs.length - i ∧ i ≤ xs.length ∧ Go T [] H H' ∧ ∃ kvs, H' D = some (.dK kvs) ∧ Ents [D] H' kvs (rowsM (ks.take i)), ⟨xs.length, rfl, Nat.zero_le _, Go.new hD, [], upd_same, .nil⟩, ?_⟩
  rintro i m H' ⟨rfl, hi, gg, kvs, eD, en⟩
  have sq : SqT K H' a xs := SqT.of (gg.tup ea List.not_mem_nil)
  by_cases hlt : i < xs.length
  · refine .inr ⟨⟨xs, xs[i], sq, by simp [hlt]⟩, fun H2 => Go T [] H H2 ∧ ∃ kvs, H2 D = some (.dK kvs) ∧ Ents [D] H2 kvs (rowsM (ks.take (i + 1))), fun H2 ⟨h1, h2⟩ => ⟨xs.length - (i + 1), by omega, rfl, hlt, h1, h2⟩, fun x H2 y => ?_⟩
    obtain ⟨rfl, y⟩ := y
    obtain ⟨k, ek, hx⟩ := dvD.get (y xs sq)
    have hkk := hkb k (List.mem_of_getElem? ek)
    obtain ⟨kn, ms, rfl, m1, m6, hmm⟩ := kind_parts hkk
    obtain ⟨p, vx, vy, rfl, ep, np, hvx, hvy⟩ := dv_pair hx
    cases hvx
    obtain ⟨b, ys, rfl, eb, nb, dy⟩ := dv_tup hvy
    have ly := dy.length
    refine ⟨p, _, rfl, SqT.of (gg.tup ep List.not_mem_nil), rfl, _, _, rfl, _, _, rfl, rfl, rfl, _, rfl, b, ys, rfl, SqT.of (gg.tup eb List.not_mem_nil), ?_⟩
    refine ⟨fun j m H3 => m = ys.length - j ∧ j ≤ ys.length ∧ Go T [] H H3 ∧ ∃ kvs, H3 D = some (.dK kvs) ∧ Ents [D] H3 kvs (rowsM (ks.take i) ++ tag kn (ms.take j)), ⟨ys.length, rfl, Nat.zero_le _, gg, kvs, eD, by simpa [tag] using en⟩, ?_⟩
    rintro j m H3 ⟨rfl, hj, g3, kv3, eD3, en3⟩
    have sq3 : SqT K H3 b ys := SqT.of (g3.tup eb List.not_mem_nil)
    by_cases hjt : j < ys.length
    · refine .inr ⟨⟨ys, ys[j], sq3, by simp [hjt]⟩, fun H4 => Go T [] H H4 ∧ ∃ kvs, H4 D = some (.dK kvs) ∧ Ents [D] H4 kvs (rowsM (ks.take i) ++ tag kn (ms.take (j + 1))), fun H4 ⟨h1, h2⟩ => ⟨ys.length - (j + 1), by omega, rfl, hjt, h1, h2⟩, fun z H4 z' => ?_⟩
      obtain ⟨t1, zx, rfl, ht1, rfl, z'⟩ := z'
      obtain ⟨md, em, hz⟩ := dy.get (z' ys sq3)
      have hmd := hmm md (List.mem_of_getElem? em)
      obtain ⟨mn, fs, rfl, f4, hfs⟩ := maker_parts hmd
      obtain ⟨q1, wx, wy, rfl, eq1, nq1, hwx, hwy⟩ := dv_pair hz
      cases hwx
      have u1 := Go.new (T := T) (M := [D]) (o := .tup [.int (j : Nat), .ref q1]) ht1
      have u1' := Go.new (T := T) (M := []) (o := .tup [.int (j : Nat), .ref q1]) ht1
      have eq3 := u1'.tup (g3.tup eq1 List.not_mem_nil) List.not_mem_nil
      refine ⟨t1, _, rfl, SqT.of upd_same, rfl, _, _, rfl, _, _, rfl, q1, _, rfl, SqT.of eq3, rfl, _, _, rfl, _, _, rfl, rfl, rfl, rfl, _, rfl, _, rfl, _, rfl, _, rfl, by show 3 ≤ sizeLine; decide, fun t2 ht2 => ?_⟩
      have u2 := Go.new (T := T) (M := [D]) (o := .tup [.str kn, .int (j : Nat), wy]) ht2
      have u2' := Go.new (T := T) (M := []) (o := .tup [.str kn, .int (j : Nat), wy]) ht2
      have tD : D ≠ t2 := ne_of_none (u1'.gr _ _ eD3 List.not_mem_nil fun _ z => by cases z) ht2
      have eD4 := u2'.gr _ _ (u1'.gr _ _ eD3 List.not_mem_nil fun _ z => by cases z) List.not_mem_nil fun _ z => by cases z
      have hmj : (kMk (.tuple [.str kn, .tuple ms]))[j]? = some (.tuple [.str mn, .tuple fs]) := em
      have fresh := name_new nu ek hmj
      have none_ : valV kv3 (.inr mn) = none := en3.none fresh
      have le := en3.length
      refine ⟨kv3, .inr mn, rfl, eD4, ?_, ((g3.trans u1').trans u2').over hD eD4 (fun _ z => by cases z), kv3 ++ [(.inr mn, .ref t2)], ?_, ?_⟩
      · have l1 : (rowsM (ks.take i) ++ tag kn (ms.take j)).length ≤ 36 := by
          have a1 := rows_len (ks := ks.take i) fun k hk' => hkb k (List.mem_of_mem_take hk')
          rw [List.length_append, tag_len, List.length_take]
          rw [List.length_take] at a1
          omega
        rw [le, sizeLine_eq]
        omega
      · rw [upd_same, putK_new _ none_]
      · rw [tag_snoc em, ← List.append_assoc]
        have gS := Go.set (T := T) (M := [D]) (o := .dK (putK kv3 (.inr mn) (.ref t2))) eD4 (fun _ z => by cases z) List.mem_cons_self
        refine Ents.append (((en3.go u1).go u2).go gS) (.cons (fv := wy) (m := .tuple [.str mn, .tuple fs]) ?_ (by simpa using tD.symm) ?_ .nil)
        · rw [upd_ne tD.symm]
          exact upd_same
        · exact ((((hwy.go (g3.of0 : Go T [D] H H3)).go u1).go u2)).go gS
    · have e : j = ys.length := by omega
      subst e
      refine .inl ⟨⟨ys, sq3, Nat.le_refl _⟩, g3, kv3, eD3, ?_⟩
      rw [ly, List.take_length] at en3
      rw [rows_snoc ek]
      exact en3
  · have e : i = xs.length := by omega
    subst e
    rw [lx, List.take_length] at en
    exact .inl ⟨⟨xs, sq, Nat.le_refl _⟩, q D H' hD ⟨kvs, eD, en.less (by simp)⟩ gg (gg.tb ht)⟩
end
end K2
set_option Elab.async false
set_option linter.all false
set_option maxRecDepth 100000
set_option maxHeartbeats 4000000
/-! own words, 21: xs.extend(t), t a tuple; walks of zip over tuples -/
namespace SL
open PySem PySem.Spec PyProof.Rows L2 GxR NdefX GA RZ
variable [SL.LamT]
set_option maxRecDepth 8000 in
theorem ext_tup (l b : Addr) (us vs : Array Value) (n n2 : Nat) (dd : Option Addr) (ss : Array (Option Value)) (c0 : ¬(!us.isEmpty && Builtin.List.listTooLong (us.size + vs.size)) = true) (c1 : us.size ≤ sizeLine) (c2 : us.size + vs.size ≤ sizeLine + 1) :
    Meets (Builtin.«list.extend» ⟨[.ref l, .ref b], []⟩) (fun _ G t => t.heap.get? l = some { cls := .type "list", dict := none, data := .seq us n, slots := #[] } ∧ t.heap.get? b = some { cls := .type "tuple", dict := dd, data := .seq vs n2, slots := ss } ∧
      G (.ok (.ret Value.none)) { t with heap := t.heap.update l (Obj.mapSeq fun x => x ++ vs), toks := t.toks }) :=
  .of_wp fun pr wd ar G t z => by
    obtain ⟨hh, gg, dr, to, oo⟩ := t
    obtain ⟨hl, hb, z⟩ := z
    have z1 := AutoSeq1.idx_int
    have z2 := AutoSeq1.sub_tuple_tuple
    have z3 := AutoSeq1.sub_list_list
    have z4 := AutoSeq1.sub_tuple_list
    have z5 := AutoSeq1.sub_list_tuple
    have zz : (us ++ vs).size ≤ sizeLine + 1 := by rw [Array.size_append]; exact c2
    wp_walk using (wpAny_updateSeq hl rfl (hz := c1) (_hz' := zz)), AutoSeq1.wpAny_loadPart' hl, AutoSeq1.wpAny_loadPart' hb
    exact ⟨_, rfl, z⟩
def rExtT (K : PySem.W.Frag) : V → List V → Hp → VK → Prop := fun x vs H Q => ∃ l b xs zs, x = .ref l ∧ vs = [.ref b] ∧ H l = some (.lst xs) ∧ SqT K H b zs ∧ xs.length + zs.length ≤ sizeLine ∧ Q .non (upd H l (.lst (xs ++ zs)))
theorem mt_extT {X : Cx} : MtM X "list.extend" (rExtT X.K) := by
  intro pins s σ H x vs v us Q I rx rv h
  obtain ⟨l, b, xs, zs, rfl, rfl, hl, hb, hz, q⟩ := h
  cases rx
  obtain ⟨u, rfl, ru⟩ := rv.one
  cases ru
  obtain ⟨_, its, n, r, el, e⟩ := I.lstM hl
  obtain ⟨its2, r2, ⟨⟨cls, dd, data, ss⟩, e2, hc, n2, hd⟩, _⟩ := I.tuple hb
  simp only at hc hd
  subst hc hd
  have l2 := r2.length
  have sz : its.toArray.size + its2.toArray.size ≤ sizeLine := by
    rw [List.size_toArray, List.size_toArray]
    omega
  have long : ¬(!its.toArray.isEmpty && Builtin.List.listTooLong (its.toArray.size + its2.toArray.size)) = true := by
    rw [notLongL sz, Bool.and_false]
    exact Bool.false_ne_true
  refine call_meets F.slot_list_extend ⟨_, e, rfl⟩ F.entry_list_extend (F.args_list_extend_2 _ _) (ext_tup l b its.toArray its2.toArray n n2 dd ss long (by rw [List.size_toArray]; omega) (by omega)) ⟨e, e2, ?_⟩
  refine ⟨.non, _, I.lset (its' := its ++ its2) hl e (by simp) (r.append r2) ?_, rfl, q⟩
  rw [List.length_append]
  omega
/-- the walk of zip over two tuples of one length -/
theorem walkZ {K : PySem.W.Frag} {a b : Addr} {xs ys : List V} (hl : xs.length = ys.length) : Walk (ItzT K a b) xs.length (fun H => SqT K H a xs ∧ SqT K H b ys) (fun i H v G => ∃ p x y, v = .ref p ∧ H p = none ∧ G = upd H p (.tup [x, y]) ∧ xs[i]? = some x ∧ ys[i]? = some y) := by
  refine ⟨fun i H hi q => ?_, fun H q => ⟨xs, ys, q.1, q.2, .inl (Nat.le_refl _)⟩, fun i H v G hi q z => ?_⟩
  · exact ⟨xs, ys, xs[i], ys[i]'(by omega), q.1, q.2, by simp [hi], by simp [show i < ys.length by omega]⟩
  · obtain ⟨p, x, y, e1, e2, e3, e4, e5⟩ := z
    exact ⟨p, x, y, e1, e2, e3, e4 xs q.1, e5 ys q.2⟩
end SL
set_option Elab.async false
set_option linter.all false
set_option maxRecDepth 100000
set_option maxHeartbeats 2000000
/-! own words, 22: x is True, x no truth -/
namespace SL
open PySem PySem.Spec PyProof.Rows L2 GxR NdefX GA RZ
variable [SL.LamT]
def rIsTr : R2 := fun x y H Q => ∃ b, y = .bl b ∧ (∀ c, x ≠ .bl c) ∧ Q (.bl false) H
theorem op_isTr {X : Cx} : OpR X (compareOp .Is) rIsTr := by
  intro pins s σ H x y v u Q I rx ry h
  obtain ⟨b, rfl, hx, q⟩ := h
  have fin : ∀ e : Bool, e = false → wpAny (model X.prog X.w) X.A (pure (Value.bool e) : Sem Value) (EP X pins σ Q) X.xe s := fun e he => by
    subst he
    exact wpAny_pure ⟨.bl false, H, I, rfl, q⟩
  cases ry
  cases x with
  | bl c => exact absurd rfl (hx c)
  | non => cases rx; exact fin (Value.none == Value.bool b) rfl
  | int i => obtain ⟨t, rfl⟩ := rx; exact fin (Value.int i t == Value.bool b) rfl
  | str i => obtain ⟨t, rfl⟩ := rx; exact fin (Value.str i t == Value.bool b) rfl
  | byt i => obtain ⟨t, rfl⟩ := rx; exact fin (Value.bytes i t == Value.bool b) rfl
  | flt i => obtain ⟨t, rfl⟩ := rx; exact fin (Value.float i t == Value.bool b) rfl
  | ref a => cases rx; exact fin (Value.ref a == Value.bool b) rfl
  | ty n => cases rx; exact fin (Value.type n == Value.bool b) rfl
end SL
set_option Elab.async false
set_option linter.all false
set_option maxRecDepth 100000
set_option maxHeartbeats 2000000
/-! own words, 23: tuple + tuple -/
namespace SL
open PySem PySem.Spec PyProof.Rows L2 GxR NdefX GA RZ
variable [SL.LamT]
theorem catT_ok {K : PySem.W.Frag} {T M : List Addr} {H : Hp} {p q : Addr} {xs ys : List V} {Q : VK} (hp : H p = some (.tup xs)) (hq : H q = some (.tup ys)) (np : p ∉ M) (nq : q ∉ M) (hl : xs.length + ys.length ≤ 16777216) (fresh : ∀ r, H r = none → r ∉ M)
    (k : ∀ r H', H' r = some (.tup (xs ++ ys)) → r ∉ M → Go T [] H H' → Q (.ref r) H') : rCatA K (.ref p) (.ref q) H Q := by
  refine ⟨p, q, xs, ys, rfl, rfl, SqT.of hp, SqT.of hq, sz hl, fun e => ?_, fun _ e => ?_, fun _ _ r hr => k r _ upd_same (fresh r hr) (Go.new hr)⟩
  · subst e
    exact k q H hq nq Go.refl
  · subst e
    exact k p H (by rw [List.append_nil]; exact hp) np Go.refl
end SL
set_option Elab.async false
set_option linter.all false
set_option maxRecDepth 100000
set_option maxHeartbeats 2000000
/-! own words, 24: isinstance(x, list) -/
namespace SL
open PySem PySem.Spec PyProof.Rows L2 GxR NdefX GA RZ
variable [SL.LamT]
def isList : PyData → Bool
  | .list _ => true
  | _ => false
theorem isi_list {M : List Addr} {H : Hp} {K : PySem.W.Frag} {v : V} {d : PyData} {Q : VK} (h : Dv M H v d) (q : Q (.bl (isList d)) H) : rIsi K [v, .ty "list"] H Q := by
  refine isi_of h ?_ q
  cases d <;> first
    | exact (by decide +kernel : kitB "NoneType" "list" = some false)
    | exact (by decide +kernel : kitB "bool" "list" = some false)
    | exact (by decide +kernel : kitB "int" "list" = some false)
    | exact (by decide +kernel : kitB "str" "list" = some false)
    | exact (by decide +kernel : kitB "list" "list" = some true)
    | exact (by decide +kernel : kitB "tuple" "list" = some false)
    | exact (by decide +kernel : kitB "dict" "list" = some false)
section
variable {X : Cx} {a : Expr} {ta : TE} {p q pos : Pos}
theorem call_isi_list : CallR X (.builtin "isinstance") (rIsiD "list" isList) := fun pins s σ H xs us Q I r ⟨x, M, d, e, h, q⟩ => call_isi pins s σ H xs us Q I r (by rw [e]; exact isi_list h q)
theorem pe_isi_list (B : Bl X.mg) (ha : PE X a ta) (h1 : Gl X "isinstance" := by rfl) (h2 : Gl X "list" := by rfl)
    (he : starEach (a :: [.Name "list" q]) X.env = (false, eval a X.env) :: starEach [.Name "list" q] X.env := by rfl) : PE X (.Call (.Name "isinstance" p) [a, .Name "list" q] [] pos) (tCB (rIsiD "list" isList) (tCons ta (tCons (tC (.ty "list")) tNil))) :=
  pe_callB call_isi_list h1 B.isinst (by decide +kernel) (pa_cons ha (pa_cons (pe_bltn (v := .ty "list") h2 B.list (by decide +kernel) rfl) pa_nil) he) (by decide) (by decide) he
end
end SL
set_option Elab.async false
set_option linter.all false
set_option maxRecDepth 100000
set_option maxHeartbeats 2000000
/-! own words, 25: xs == []; what stays but lists -/
namespace SL
open PySem PySem.Spec PyProof.Rows L2 GxR NdefX GA RZ
variable [SL.LamT]
section
variable {X : Cx}
def rEqNil (K : PySem.W.Frag) : R2 := fun x y H Q => ∃ a b xs, x = .ref a ∧ y = .ref b ∧ SqL K H a xs ∧ SqL K H b [] ∧ Q (.bl xs.isEmpty) H
theorem op_eqNil (hu : X.A.units < cLine) : OpR X (compareOp .Eq) (rEqNil X.K) := by
  intro pins s σ H x y v u Q I rx ry h
  obtain ⟨a, b, xs, rfl, rfl, h1, h2, q⟩ := h
  cases rx
  cases ry
  show wpAny _ _ (richCompare .Eq (.ref a) (.ref b)) _ _ _
  have fin : EP X pins σ Q (.bool xs.isEmpty) s := ⟨.bl _, H, I, rfl, q⟩
  obtain ⟨its, r, p, _⟩ := I.list h1
  obtain ⟨its2, r2, p2, _⟩ := I.list h2
  cases r2
  obtain ⟨o, n, g, c, _, dd⟩ := p
  obtain ⟨o2, n2, g2, c2, _, dd2⟩ := p2
  have l1 : s.heap.IsList a its.toArray := ⟨o, g, c, n, dd⟩
  have l2 : s.heap.IsList b ([] : List Value).toArray := ⟨o2, g2, c2, n2, dd2⟩
  cases r with
  | nil => exact PySem.SeqAt.RcAt.lists l1 l2 rfl hu (e := fun _ => true) (fun j hj _ => absurd hj (Nat.not_lt_zero _)) _ _ _ _ fin
  | cons _ _ => exact PySem.SeqAt.RcAt.lists_lengths l1 l2 rfl hu _ _ _ _ fin
end
/-- all stays but lists and tables -/
def ST (H H' : Hp) : Prop := ∀ p o, H p = some o → (∀ xs, o ≠ .lst xs) → (∀ ps, o ≠ .tbl ps) → H' p = some o
theorem ST.refl {H : Hp} : ST H H := fun _ _ e _ _ => e
theorem ST.trans {H H1 H2 : Hp} (a : ST H H1) (b : ST H1 H2) : ST H H2 := fun p o e l t => b p o (a p o e l t) l t
theorem ST.go {T M : List Addr} {H H' : Hp} (g : Go T M H H') (hM : ∀ b ∈ M, ∃ ys, H b = some (.lst ys)) : ST H H' := fun p o e l t => g.gr p o e (fun z => by obtain ⟨ys, ey⟩ := hM p z; rw [e] at ey; exact l ys (Option.some.inj ey)) t
theorem ST.go0 {T : List Addr} {H H' : Hp} (g : Go T [] H H') : ST H H' := ST.go g fun _ z => absurd z List.not_mem_nil
theorem ST.set {H : Hp} {p : Addr} {ys : List V} {o' : HO} (e : H p = some (.lst ys)) : ST H (upd H p o') := fun q o e' l _ => by
  by_cases c : q = p
  · subst c
    rw [e] at e'
    exact absurd (Option.some.inj e').symm (l ys)
  · rw [upd_ne c]
    exact e'
theorem ST.tup {H H' : Hp} (s : ST H H') {p : Addr} {xs : List V} (e : H p = some (.tup xs)) : H' p = some (.tup xs) := s p _ e (fun _ z => by cases z) (fun _ z => by cases z)
theorem ST.dk {H H' : Hp} (s : ST H H') {p : Addr} {kvs : List (Key × V)} (e : H p = some (.dK kvs)) : H' p = some (.dK kvs) := s p _ e (fun _ z => by cases z) (fun _ z => by cases z)
end SL
set_option Elab.async false
set_option linter.all false
set_option maxRecDepth 100000
set_option maxHeartbeats 2000000
/-! own words, 29: the order of alike data; of pairs (int, list of ints) -/
namespace SL
open PySem PySem.Spec PyProof.Rows L2 GxR NdefX GA RZ
variable [SL.LamT]
def rLtD (K : PySem.W.Frag) : R2 := fun x y H Q => ∃ d e, Dp K H x d ∧ Dp K H y e ∧ PySem.W.alike d e = true ∧ d ≠ .none ∧ d.depth ≤ 60 ∧ Q (.bl (PySem.W.dataLt d e)) H
theorem op_ltD {X : Cx} (hu : X.A.units + 64 < cLine) : OpR X (compareOp .Lt) (rLtD X.K) := by
  intro pins s σ H x y v u Q I rx ry h
  obtain ⟨d, e, hd, he, ha, hn, hD, q⟩ := h
  obtain ⟨as, r1⟩ := Dp.reads I d x v hd rx
  obtain ⟨bs, r2⟩ := Dp.reads I e y u he ry
  exact PySem.W.lt_data r1 r2 ha hn (by omega) ⟨.bl _, H, I, rfl, q⟩
theorem eqv_int (a b : Int) : PyData.eqv (.int a) (.int b) = (a == b) := by
  simp [PyData.eqv]
theorem alike_ints : ∀ ns ms : List Int, PySem.W.alikeAll (ns.map .int) (ms.map .int) = true
  | [], _ => by simp [PySem.W.alikeAll]
  | _ :: _, [] => by simp [PySem.W.alikeAll]
  | n :: ns, m :: ms => by
    have := alike_ints ns ms
    simp only [List.map_cons, PySem.W.alikeAll, PySem.W.alike, this, Bool.and_self]
theorem lex_ints : ∀ ns ms : List Int, PyProof.Rows.lexLt itemOrd (PySem.W.keyToksAll (ns.map .int)) (PySem.W.keyToksAll (ms.map .int)) = HT.lexLt ns ms
  | [], [] => PySem.W.dataLt_list [] [] ▸ PySem.W.dataLt_self _
  | [], m :: ms => by
    rw [HT.lexLt_nil_cons]
    rw [List.map_cons, PySem.W.toks_all_cons]
    rfl
  | n :: ns, [] => by
    rw [HT.lexLt_cons_nil]
    rw [List.map_cons, PySem.W.toks_all_cons]
    rfl
  | n :: ns, m :: ms => by
    rw [HT.lexLt_cons, List.map_cons, List.map_cons]
    have ha : PySem.W.alike (.int n) (.int m) = true := by simp only [PySem.W.alike]
    by_cases c : n = m
    · rw [PySem.W.dataLt_all_yes ha (by rw [eqv_int, c]; simp), if_pos c, lex_ints ns ms]
    · rw [PySem.W.dataLt_all_no ha (by rw [eqv_int]; simpa using c), if_neg c, PySem.W.dataLt_int]
/-- a pair of a size and ranks -/
def pairD (n : Int) (ns : List Int) : PyData := .tuple [.int n, .list (ns.map .int)]
theorem pair_alike (n m : Int) (ns ms : List Int) : PySem.W.alike (pairD n ns) (pairD m ms) = true := by
  simp only [pairD, PySem.W.alike, PySem.W.alikeAll, alike_ints, Bool.and_self]
def ltPair (n : Int) (ns : List Int) (m : Int) (ms : List Int) : Bool := if n = m then HT.lexLt ns ms else decide (n < m)
theorem pair_lt (n m : Int) (ns ms : List Int) : PySem.W.dataLt (pairD n ns) (pairD m ms) = ltPair n ns m ms := by
  unfold ltPair pairD
  rw [PySem.W.dataLt_tuple]
  have ha : PySem.W.alike (.int n) (.int m) = true := by simp only [PySem.W.alike]
  by_cases c : n = m
  · rw [PySem.W.dataLt_all_yes ha (by rw [eqv_int, c]; simp), if_pos c]
    have hb : PySem.W.alike (.list (ns.map .int)) (.list (ms.map .int)) = true := by simp only [PySem.W.alike, alike_ints]
    cases e : PyData.eqv (.list (ns.map .int)) (.list (ms.map .int)) with
    | true =>
      rw [PySem.W.dataLt_all_yes hb e]
      have h1 : PyProof.Rows.lexLt itemOrd (PySem.W.keyToksAll []) (PySem.W.keyToksAll []) = false := PySem.W.dataLt_list [] [] ▸ PySem.W.dataLt_self _
      rw [h1]
      have h2 := (PySem.W.toks_eqv _ _ hb).1 e
      have h3 : PySem.W.dataLt (.list (ns.map .int)) (.list (ms.map .int)) = false := by
        unfold PySem.W.dataLt
        rw [h2]
        exact PySem.W.dataLt_self (.list (ms.map .int))
      rw [PySem.W.dataLt_list, lex_ints] at h3
      exact h3.symm
    | false =>
      rw [PySem.W.dataLt_all_no hb e, PySem.W.dataLt_list, lex_ints]
  · rw [PySem.W.dataLt_all_no ha (by rw [eqv_int]; simpa using c), if_neg c, PySem.W.dataLt_int]
theorem pair_depth (n : Int) (ns : List Int) : (pairD n ns).depth ≤ 2 := by
  have h : ∀ ns : List Int, PyData.depthAll (ns.map .int) = 0 := fun ns => by
    induction ns with
    | nil => simp [PyData.depthAll]
    | cons x r ih => simp only [List.map_cons, PyData.depthAll, PyData.depth, ih]; rfl
  simp only [pairD, PyData.depth, PyData.depthAll, h]
  decide
end SL
set_option Elab.async false
set_option linter.all false
set_option maxRecDepth 100000
set_option maxHeartbeats 4000000
namespace K2
open PySem PySem.Spec PyProof.Rows L2 GxR NdefX GA SL RZ
variable [SL.LamT]
/-! ### the words of trees -/
def titleOf (k : PyData) : Str := strD (fstD k)
def flds (m : PyData) : List Str := (itemsD (sndD m)).map strD
def rowK (ks : List PyData) (x : Str) : Option MRow := (rowsM ks).find? (fun r => decide (SL.mkN r.2.2 = x))
def flK (ks : List PyData) (mn : Str) : List Str := match rowK ks mn with
  | none => []
  | some r => flds r.2.2
def kdK (ks : List PyData) (mn : Str) : Str := match rowK ks mn with
  | none => ""
  | some r => r.1
def plK (ks : List PyData) (mn : Str) : Nat := match rowK ks mn with
  | none => 0
  | some r => r.2.1
theorem rowK_eq {ks : List PyData} (hk : (namesM (rowsM ks)).Nodup) {kd : Str} {p : Nat} {m : PyData} (h : (kd, p, m) ∈ rowsM ks) : rowK ks (SL.mkN m) = some (kd, p, m) := by
  unfold rowK
  cases c : (rowsM ks).find? (fun r => decide (SL.mkN r.2.2 = SL.mkN m)) with
  | none => exact absurd (List.find?_eq_none.mp c _ h) (by simp)
  | some r =>
    have h1 := List.mem_of_find?_eq_some c
    have h2 := List.find?_some c
    obtain ⟨k2, p2, m2⟩ := r
    have := row_one hk h h1 (of_decide_eq_true h2 : SL.mkN m2 = SL.mkN m).symm
    rw [this]
section
variable {ks : List PyData}
theorem flK_eq (hk : (namesM (rowsM ks)).Nodup) {kd : Str} {p : Nat} {m : PyData} (h : (kd, p, m) ∈ rowsM ks) : flK ks (SL.mkN m) = flds m := by
  unfold flK
  rw [rowK_eq hk h]
theorem kdK_eq (hk : (namesM (rowsM ks)).Nodup) {kd : Str} {p : Nat} {m : PyData} (h : (kd, p, m) ∈ rowsM ks) : kdK ks (SL.mkN m) = kd := by
  unfold kdK
  rw [rowK_eq hk h]
theorem plK_eq (hk : (namesM (rowsM ks)).Nodup) {kd : Str} {p : Nat} {m : PyData} (h : (kd, p, m) ∈ rowsM ks) : plK ks (SL.mkN m) = p := by
  unfold plK
  rw [rowK_eq hk h]
theorem name_row {x : Str} (h : x ∈ namesM (rowsM ks)) : ∃ kd p m, (kd, p, m) ∈ rowsM ks ∧ SL.mkN m = x := by
  obtain ⟨⟨kd, p, m⟩, h1, h2⟩ := List.mem_map.mp h
  exact ⟨kd, p, m, h1, h2⟩
theorem rows_maker (hk : kindsB (.tuple ks) = true) {kd : Str} {p : Nat} {m : PyData} (h : (kd, p, m) ∈ rowsM ks) : makerB m = true := by
  obtain ⟨_, hkb, _⟩ := kinds_names hk
  obtain ⟨k, hk', hm⟩ := List.mem_flatMap.mp h
  obtain ⟨x, ms, rfl, _, _, hms⟩ := kind_parts (hkb k hk')
  obtain ⟨mp, h1, h2⟩ := List.mem_map.mp hm
  have : mp.1 ∈ ms := List.fst_mem_of_mem_zipIdx h1
  cases h2
  exact hms _ this
theorem rows_flds (hk : kindsB (.tuple ks) = true) {kd : Str} {p : Nat} {m : PyData} (h : (kd, p, m) ∈ rowsM ks) : (flds m).length ≤ 4 := by
  obtain ⟨x, fs, rfl, l4, hf4⟩ := maker_parts (rows_maker hk h)
  show ((itemsD (sndD (.tuple [.str x, .tuple fs]))).map strD).length ≤ 4
  rw [List.length_map]
  exact l4
theorem flK_len (hk : kindsB (.tuple ks) = true) (x : Str) : (flK ks x).length ≤ 4 := by
  unfold flK
  cases c : rowK ks x with
  | none => exact Nat.zero_le _
  | some r =>
    obtain ⟨kd, p, m⟩ := r
    exact rows_flds hk (List.mem_of_find?_eq_some c)
theorem kinds_more (h : kindsB (.tuple ks) = true) : (ks.map titleOf).Nodup ∧ 1 ≤ ks.length ∧ ∀ kd p m, (kd, p, m) ∈ rowsM ks → kd ∈ ks.map titleOf ∧ ∀ f ∈ flds m, f = "number" ∨ f ∈ ks.map titleOf := by
  simp only [kindsB, Bool.and_eq_true] at h
  obtain ⟨⟨⟨⟨h1, h2⟩, h3⟩, h4⟩, h5⟩ := h
  have et : (titlesD (.tuple ks)).map strD = ks.map titleOf := by
    unfold titlesD
    rw [List.map_map]
    rfl
  refine ⟨?_, ?_, fun kd p m hm => ?_⟩
  · unfold unl at h3
    rw [et] at h3
    exact of_decide_eq_true h3
  · simp only [tupB, Bool.and_eq_true, decide_eq_true_eq] at h1
    omega
  · obtain ⟨k, hk, hm⟩ := List.mem_flatMap.mp hm
    obtain ⟨mp, h6, h7⟩ := List.mem_map.mp hm
    have h8 : mp.1 ∈ kMk k := List.fst_mem_of_mem_zipIdx h6
    cases h7
    refine ⟨List.mem_map.mpr ⟨k, hk, rfl⟩, fun f hf => ?_⟩
    obtain ⟨g, hg, rfl⟩ := List.mem_map.mp hf
    have h9 : g ∈ fieldsD (.tuple ks) := List.mem_flatMap.mpr ⟨mp.1, List.mem_flatMap.mpr ⟨k, hk, h8⟩, hg⟩
    have := List.all_eq_true.mp h5 g h9
    unfold fieldOk at this
    rw [et, Bool.or_eq_true, decide_eq_true_eq, decide_eq_true_eq] at this
    exact this
/-- a kind and a place tell the maker -/
theorem rows_at (hk : kindsB (.tuple ks) = true) {kd : Str} {p : Nat} {m m' : PyData} (h1 : (kd, p, m) ∈ rowsM ks) (h2 : (kd, p, m') ∈ rowsM ks) : m = m' := by
  have nd := (kinds_more hk).1
  obtain ⟨k, hk1, hm1⟩ := List.mem_flatMap.mp h1
  obtain ⟨k', hk2, hm2⟩ := List.mem_flatMap.mp h2
  obtain ⟨mp, a1, a2⟩ := List.mem_map.mp hm1
  obtain ⟨mp', b1, b2⟩ := List.mem_map.mp hm2
  have e1 : titleOf k = kd := congrArg (fun r : MRow => r.1) a2
  have e2 : titleOf k' = kd := congrArg (fun r : MRow => r.1) b2
  have ek : k = k' := by
    obtain ⟨i, hi, rfl⟩ := List.mem_iff_getElem.mp hk1
    obtain ⟨j, hj, rfl⟩ := List.mem_iff_getElem.mp hk2
    have : i = j := by
      refine (List.getElem_inj (xs := ks.map titleOf) (h₀ := by rw [List.length_map]; exact hi) (h₁ := by rw [List.length_map]; exact hj) nd).mp ?_
      rw [List.getElem_map, List.getElem_map, e1, e2]
    subst this
    rfl
  subst ek
  have q1 : mp.2 = p := congrArg (fun r : MRow => r.2.1) a2
  have q2 : mp'.2 = p := congrArg (fun r : MRow => r.2.1) b2
  have r1 : mp.1 = m := congrArg (fun r : MRow => r.2.2) a2
  have r2 : mp'.1 = m' := congrArg (fun r : MRow => r.2.2) b2
  obtain ⟨x, i⟩ := mp
  obtain ⟨x', i'⟩ := mp'
  have g1 := List.mk_mem_zipIdx_iff_getElem?.mp a1
  have g2 := List.mk_mem_zipIdx_iff_getElem?.mp b1
  simp only at q1 q2 r1 r2
  subst q1 q2 r1 r2
  rw [g1] at g2
  exact Option.some.inj g2
end
def kD : Key → PyData
  | .inl z => .int z
  | .inr x => .str x
/-- may the word stand where the field is awaited -/
def okW (ks : List PyData) (f : Str) : Key → Bool
  | .inl _ => decide (f = "number")
  | .inr x => decide (f ≠ "number") && decide (x ∈ namesM (rowsM ks)) && decide (kdK ks x = f)
def nxt (ks : List PyData) : Key → List Str
  | .inl _ => []
  | .inr x => flK ks x
def run (ks : List PyData) : List Str → List Key → Option (List Str)
  | s, [] => some s
  | [], _ :: _ => none
  | f :: s, w :: ws => if okW ks f w = true then run ks (nxt ks w ++ s) ws else none
def isT (ks : List PyData) (f : Str) (ws : List Key) : Prop := run ks [f] ws = some []
section
variable {ks : List PyData}
theorem run_nil (s : List Str) : run ks s [] = some s := by
  unfold run
  cases s <;> rfl
theorem run_end {ws : List Key} {t : List Str} (h : run ks [] ws = some t) : ws = [] ∧ t = [] := by
  cases ws with
  | nil => rw [run_nil] at h; exact ⟨rfl, (Option.some.inj h).symm⟩
  | cons w r => unfold run at h; cases h
theorem run_cons {s t : List Str} {w : Key} {ws : List Key} (h : run ks s (w :: ws) = some t) : ∃ f r, s = f :: r ∧ okW ks f w = true ∧ run ks (nxt ks w ++ r) ws = some t := by
  cases s with
  | nil => unfold run at h; cases h
  | cons f r =>
    unfold run at h
    by_cases c : okW ks f w = true
    · rw [if_pos c] at h
      exact ⟨f, r, rfl, c, h⟩
    · rw [if_neg c] at h
      cases h
theorem run_of {f : Str} {s t : List Str} {w : Key} {ws : List Key} (c : okW ks f w = true) (h : run ks (nxt ks w ++ s) ws = some t) : run ks (f :: s) (w :: ws) = some t := by
  show (if okW ks f w = true then run ks (nxt ks w ++ s) ws else none) = _
  rw [if_pos c]
  exact h
theorem run_app {a b : List Key} {s t u : List Str} (h1 : run ks s a = some t) (h2 : run ks t b = some u) : run ks s (a ++ b) = some u := by
  induction a generalizing s with
  | nil => rw [run_nil] at h1; cases h1; exact h2
  | cons w a ih =>
    obtain ⟨f, r, rfl, c, h⟩ := run_cons h1
    exact run_of c (ih h)
theorem run_parts {a b : List Key} {s u : List Str} (h : run ks s (a ++ b) = some u) : ∃ t, run ks s a = some t ∧ run ks t b = some u := by
  induction a generalizing s with
  | nil => exact ⟨s, run_nil s, h⟩
  | cons w a ih =>
    obtain ⟨f, r, rfl, c, h⟩ := run_cons (show run ks s (w :: (a ++ b)) = some u from h)
    obtain ⟨t, h1, h2⟩ := ih h
    exact ⟨t, run_of c h1, h2⟩
theorem run_frame {a : List Key} {s t : List Str} (r : List Str) (h : run ks s a = some t) : run ks (s ++ r) a = some (t ++ r) := by
  induction a generalizing s with
  | nil => rw [run_nil] at h; cases h; exact run_nil _
  | cons w a ih =>
    obtain ⟨f, q, rfl, c, h⟩ := run_cons h
    have := ih h
    rw [List.append_assoc] at this
    exact run_of c this
theorem run_split {ws : List Key} {s r : List Str} (h : run ks (s ++ r) ws = some []) : ∃ a b, ws = a ++ b ∧ run ks s a = some [] ∧ run ks r b = some [] := by
  induction ws generalizing s with
  | nil =>
    rw [run_nil] at h
    obtain ⟨e1, e2⟩ := List.append_eq_nil_iff.mp (Option.some.inj h)
    subst e1 e2
    exact ⟨[], [], rfl, run_nil _, run_nil _⟩
  | cons w ws ih =>
    cases s with
    | nil => exact ⟨[], w :: ws, rfl, run_nil _, h⟩
    | cons f s =>
      obtain ⟨f', q, e, c, h⟩ := run_cons h
      cases e
      rw [show nxt ks w ++ List.append s r = (nxt ks w ++ s) ++ r from (List.append_assoc ..).symm] at h
      obtain ⟨a, b, rfl, h1, h2⟩ := ih h
      exact ⟨w :: a, b, rfl, run_of c h1, h2⟩
theorem run_len (hk : kindsB (.tuple ks) = true) {ws : List Key} {s t : List Str} (h : run ks s ws = some t) : t.length ≤ s.length + 4 * ws.length := by
  induction ws generalizing s with
  | nil => rw [run_nil] at h; cases h; omega
  | cons w ws ih =>
    obtain ⟨f, q, rfl, c, h⟩ := run_cons h
    have := ih h
    have l4 : (nxt ks w).length ≤ 4 := by
      cases w with
      | inl z => exact Nat.zero_le _
      | inr x => exact flK_len hk x
    rw [List.length_append] at this
    rw [List.length_cons, List.length_cons]
    omega
/-! ### the order -/
def rkW (ks : List PyData) : Key → Int
  | .inl z => if 0 < z then 2 * z - 1 else -2 * z
  | .inr x => (plK ks x : Int)
def ltW (ks : List PyData) : Key → Key → Bool
  | .inl z, .inl y => decide (z.natAbs < y.natAbs) || (decide (z.natAbs = y.natAbs) && decide (-z < -y))
  | .inr x, .inr y => decide (plK ks x < plK ks y)
  | _, _ => false
def isM : Key → Bool
  | .inl _ => false
  | .inr _ => true
def sizeW (ws : List Key) : Nat := (ws.filter isM).length
def fd (ks : List PyData) : List Key → List Key → Bool
  | u :: a, v :: b => if u = v then fd ks a b else ltW ks u v
  | _, _ => false
def isA (ks : List PyData) (a b : List Key) : Bool := if sizeW a = sizeW b then fd ks a b else decide (sizeW a < sizeW b)
def keyLt (ks : List PyData) (a b : List Key) : Bool := ltPair (sizeW a) (a.map (rkW ks)) (sizeW b) (b.map (rkW ks))
theorem ok_names (hk : kindsB (.tuple ks) = true) {f x : Str} (h : okW ks f (.inr x) = true) : f ≠ "number" ∧ ∃ p m, (f, p, m) ∈ rowsM ks ∧ SL.mkN m = x ∧ plK ks x = p ∧ flK ks x = flds m ∧ kdK ks x = f := by
  obtain ⟨nu, _, _⟩ := kinds_names hk
  simp only [okW, Bool.and_eq_true, decide_eq_true_eq] at h
  obtain ⟨⟨h1, h2⟩, h3⟩ := h
  obtain ⟨kd, p, m, h4, rfl⟩ := name_row h2
  have := kdK_eq nu h4
  rw [this] at h3
  subst h3
  exact ⟨h1, p, m, h4, rfl, plK_eq nu h4, flK_eq nu h4, this⟩
/-- what may stand at one place is alike and has ranks of its own -/
theorem rk_ok (hk : kindsB (.tuple ks) = true) {f : Str} {u v : Key} (hu : okW ks f u = true) (hv : okW ks f v = true) (ne : u ≠ v) : ltW ks u v = decide (rkW ks u < rkW ks v) ∧ rkW ks u ≠ rkW ks v ∧ isM u = isM v := by
  cases u with
  | inl z =>
    cases v with
    | inl y =>
      have ne : z ≠ y := fun e => ne (by rw [e])
      refine ⟨?_, ?_, rfl⟩
      · have key : (z.natAbs < y.natAbs ∨ (z.natAbs = y.natAbs ∧ -z < -y)) ↔ rkW ks (.inl z) < rkW ks (.inl y) := by
          unfold rkW
          dsimp only
          split <;> split <;> omega
        show (decide (z.natAbs < y.natAbs) || (decide (z.natAbs = y.natAbs) && decide (-z < -y))) = _
        rw [← Bool.decide_and, ← Bool.decide_or]
        exact decide_eq_decide.mpr key
      · unfold rkW
        dsimp only
        split <;> split <;> omega
    | inr y =>
      obtain ⟨h1, _⟩ := ok_names hk hv
      exact absurd (of_decide_eq_true hu) h1
  | inr x =>
    cases v with
    | inl y =>
      obtain ⟨h1, _⟩ := ok_names hk hu
      exact absurd (of_decide_eq_true hv) h1
    | inr y =>
      obtain ⟨_, p, m, h2, h3, h4, _, _⟩ := ok_names hk hu
      obtain ⟨_, p', m', h2', h3', h4', _, _⟩ := ok_names hk hv
      have np : p ≠ p' := fun e => ne (by
        subst e
        have := rows_at hk h2 h2'
        subst this
        rw [← h3, ← h3'])
      refine ⟨?_, ?_, rfl⟩
      · show decide (plK ks x < plK ks y) = decide ((plK ks x : Int) < (plK ks y : Int))
        exact decide_eq_decide.mpr Int.ofNat_lt.symm
      · show (plK ks x : Int) ≠ (plK ks y : Int)
        rw [h4, h4']
        omega
theorem fd_self (a : List Key) : fd ks a a = false := by
  induction a with
  | nil => rfl
  | cons u a ih =>
    show (if u = u then fd ks a a else ltW ks u u) = false
    rw [if_pos rfl]
    exact ih
theorem fd_pre (p a b : List Key) : fd ks (p ++ a) (p ++ b) = fd ks a b := by
  induction p with
  | nil => rfl
  | cons u p ih =>
    show (if u = u then fd ks (p ++ a) (p ++ b) else ltW ks u u) = _
    rw [if_pos rfl]
    exact ih
theorem lexS (l : List Int) : HT.lexLt l l = false := by
  induction l with
  | nil => rfl
  | cons x l ih => rw [HT.lexLt_cons, if_pos rfl, ih]
theorem lexT : ∀ {a b c : List Int}, HT.lexLt a b = true → HT.lexLt b c = true → HT.lexLt a c = true
  | [], [], _, h, _ => by rw [lexS] at h; cases h
  | [], y :: b, [], _, h => by rw [HT.lexLt_cons_nil] at h; cases h
  | [], y :: b, z :: c, _, _ => HT.lexLt_nil_cons _ _
  | x :: a, [], _, h, _ => by rw [HT.lexLt_cons_nil] at h; cases h
  | x :: a, y :: b, [], _, h => by rw [HT.lexLt_cons_nil] at h; cases h
  | x :: a, y :: b, z :: c, h1, h2 => by
    rw [HT.lexLt_cons] at h1 h2 ⊢
    by_cases e1 : x = y
    · rw [if_pos e1] at h1
      subst e1
      by_cases e2 : x = z
      · rw [if_pos e2] at h2 ⊢
        exact lexT h1 h2
      · rw [if_neg e2] at h2 ⊢
        exact h2
    · rw [if_neg e1] at h1
      have h1 := of_decide_eq_true h1
      by_cases e2 : y = z
      · subst e2
        rw [if_neg e1]
        exact decide_eq_true h1
      · rw [if_neg e2] at h2
        have h2 := of_decide_eq_true h2
        rw [if_neg (by omega)]
        exact decide_eq_true (by omega)
theorem keyT {a b c : List Key} (h1 : keyLt ks a b = true) (h2 : keyLt ks b c = true) : keyLt ks a c = true := by
  unfold keyLt ltPair at *
  by_cases e1 : (sizeW a : Int) = sizeW b
  · rw [if_pos e1] at h1
    by_cases e2 : (sizeW b : Int) = sizeW c
    · rw [if_pos e2] at h2
      rw [if_pos (e1.trans e2)]
      exact lexT h1 h2
    · rw [if_neg e2] at h2
      rw [if_neg (by omega), e1]
      exact h2
  · rw [if_neg e1] at h1
    have h1 := of_decide_eq_true h1
    by_cases e2 : (sizeW b : Int) = sizeW c
    · rw [if_neg (by omega)]
      exact decide_eq_true (by omega)
    · rw [if_neg e2] at h2
      have h2 := of_decide_eq_true h2
      rw [if_neg (by omega)]
      exact decide_eq_true (by omega)
/-- where two trees' words first differ -/
theorem diff_at (hk : kindsB (.tuple ks) = true) {a b : List Key} {s : List Str} (ha : run ks s a = some []) (hb : run ks s b = some []) (ne : a ≠ b) :
    ∃ p u v a' b' f, a = p ++ u :: a' ∧ b = p ++ v :: b' ∧ u ≠ v ∧ okW ks f u = true ∧ okW ks f v = true := by
  induction a generalizing s b with
  | nil =>
    rw [run_nil] at ha
    cases ha
    exact absurd (run_end hb).1.symm ne
  | cons u a ih =>
    obtain ⟨f, r, rfl, c1, h1⟩ := run_cons ha
    cases b with
    | nil => rw [run_nil] at hb; cases hb
    | cons v b =>
      obtain ⟨f', r', e, c2, h2⟩ := run_cons hb
      cases e
      by_cases e : u = v
      · subst e
        obtain ⟨p, u', v', a', b', f', q1, q2, q3⟩ := ih h1 h2 fun z => ne (by rw [z])
        exact ⟨u :: p, u', v', a', b', f', by rw [q1]; rfl, by rw [q2]; rfl, q3⟩
      · exact ⟨[], u, v, a, b, f, rfl, rfl, e, c1, c2⟩
theorem fd_ne {u v : Key} (a b : List Key) (h : u ≠ v) : fd ks (u :: a) (v :: b) = ltW ks u v := by
  show (if u = v then _ else _) = _
  rw [if_neg h]
theorem lex_pre (p : List Int) (a b : List Int) : HT.lexLt (p ++ a) (p ++ b) = HT.lexLt a b := by
  induction p with
  | nil => rfl
  | cons u p ih =>
    rw [List.cons_append, List.cons_append, HT.lexLt_cons, if_pos rfl]
    exact ih
theorem cmp_ne (hk : kindsB (.tuple ks) = true) {a b : List Key} {s : List Str} (ha : run ks s a = some []) (hb : run ks s b = some []) (ne : a ≠ b) :
    HT.lexLt (a.map (rkW ks)) (b.map (rkW ks)) = fd ks a b ∧ fd ks b a = !fd ks a b ∧ ∀ p q, fd ks (a ++ p) (b ++ q) = fd ks a b := by
  obtain ⟨p, u, v, a', b', f, rfl, rfl, nuv, ou, ov⟩ := diff_at hk ha hb ne
  obtain ⟨h1, h2, _⟩ := rk_ok hk ou ov nuv
  obtain ⟨h3, _, _⟩ := rk_ok hk ov ou nuv.symm
  refine ⟨?_, ?_, fun x y => ?_⟩
  · rw [List.map_append, List.map_append, lex_pre, List.map_cons, List.map_cons, HT.lexLt_cons, if_neg h2, fd_pre, fd_ne _ _ nuv, h1]
  · rw [fd_pre, fd_pre, fd_ne _ _ nuv, fd_ne _ _ nuv.symm, h1, h3]
    by_cases c : rkW ks u < rkW ks v
    · rw [decide_eq_true c, decide_eq_false (by omega)] <;> rfl
    · rw [decide_eq_false c, decide_eq_true (by omega)] <;> rfl
  · rw [List.append_assoc, List.append_assoc, fd_pre, fd_pre, List.cons_append, List.cons_append, fd_ne _ _ nuv, fd_ne _ _ nuv]
/-- the program's order is the law's -/
theorem key_is (hk : kindsB (.tuple ks) = true) {a b : List Key} {s : List Str} (ha : run ks s a = some []) (hb : run ks s b = some []) : keyLt ks a b = isA ks a b := by
  unfold keyLt ltPair isA
  by_cases e : sizeW a = sizeW b
  · rw [if_pos (by rw [e]), if_pos e]
    by_cases c : a = b
    · subst c
      rw [lexS, fd_self]
    · exact (cmp_ne hk ha hb c).1
  · rw [if_neg (by omega), if_neg e]
    exact decide_eq_decide.mpr Int.ofNat_lt
theorem isA_self (a : List Key) : isA ks a a = false := by
  unfold isA
  rw [if_pos rfl, fd_self]
theorem isA_ne (hk : kindsB (.tuple ks) = true) {a b : List Key} {s : List Str} (ha : run ks s a = some []) (hb : run ks s b = some []) (ne : a ≠ b) : isA ks b a = !isA ks a b := by
  unfold isA
  by_cases e : sizeW a = sizeW b
  · rw [if_pos e.symm, if_pos e]
    exact (cmp_ne hk ha hb ne).2.1
  · rw [if_neg (fun z => e z.symm), if_neg e]
    by_cases c : sizeW a < sizeW b
    · rw [decide_eq_true c, decide_eq_false (by omega)] <;> rfl
    · rw [decide_eq_false c, decide_eq_true (by omega)] <;> rfl
theorem isA_trans (hk : kindsB (.tuple ks) = true) {a b c : List Key} {s : List Str} (ha : run ks s a = some []) (hb : run ks s b = some []) (hc : run ks s c = some []) (h1 : isA ks a b = true) (h2 : isA ks b c = true) : isA ks a c = true := by
  rw [← key_is hk ha hb] at h1
  rw [← key_is hk hb hc] at h2
  rw [← key_is hk ha hc]
  exact keyT h1 h2
theorem size_app (a b : List Key) : sizeW (a ++ b) = sizeW a + sizeW b := by
  unfold sizeW
  rw [List.filter_append, List.length_append]
/-- a part exchanged -/
theorem isA_part (hk : kindsB (.tuple ks) = true) {a b : List Key} {s : List Str} (ha : run ks s a = some []) (hb : run ks s b = some []) (p q : List Key) : isA ks ((p ++ a) ++ q) ((p ++ b) ++ q) = isA ks a b := by
  unfold isA
  rw [size_app, size_app, size_app, size_app]
  by_cases e : sizeW a = sizeW b
  · rw [if_pos (by omega), if_pos e, List.append_assoc, List.append_assoc, fd_pre]
    by_cases c : a = b
    · subst c
      rw [fd_self, fd_self]
    · exact (cmp_ne hk ha hb c).2.2 q q
  · rw [if_neg (by omega), if_neg e]
    exact decide_eq_decide.mpr (by omega)
/-- one tree's words within another's: the tree of the word at a place -/
theorem part_at {ws : List Key} {s : List Str} {at_ : Nat} {w : Key} (h : run ks s ws = some []) (e : ws[at_]? = some w) :
    ∃ f r part post, ws = (ws.take at_ ++ part) ++ post ∧ run ks s (ws.take at_) = some (f :: r) ∧ run ks [f] part = some [] ∧ run ks r post = some [] ∧ okW ks f w = true ∧ ∃ rest, part = w :: rest := by
  have ed : ws.drop at_ = w :: ws.drop (at_ + 1) := (List.drop_eq_getElem?_toList_append ..).trans (by rw [e]; rfl)
  have h0 := h
  rw [← List.take_append_drop at_ ws] at h0
  obtain ⟨t, h1, h2⟩ := run_parts h0
  rw [ed] at h2
  obtain ⟨f, r, rfl, c, _⟩ := run_cons h2
  obtain ⟨part, post, e2, h3, h4⟩ := run_split (s := [f]) (r := r) h2
  refine ⟨f, r, part, post, ?_, h1, h3, h4, c, ?_⟩
  · rw [List.append_assoc, ← e2, ← ed, List.take_append_drop]
  · cases part with
    | nil => rw [run_nil] at h3; cases h3
    | cons x p =>
      have e3 : w :: ws.drop (at_ + 1) = x :: (p ++ post) := e2
      exact ⟨p, by rw [(List.cons.inj e3).1]⟩
theorem part_whole {pre tree post : List Key} {s r : List Str} {f : Str} (h1 : run ks s pre = some (f :: r)) (h2 : run ks [f] tree = some []) (h3 : run ks r post = some []) : run ks s ((pre ++ tree) ++ post) = some [] :=
  run_app (run_app h1 (run_frame r h2)) h3
end
end K2
set_option Elab.async false
set_option linter.all false
set_option maxRecDepth 100000
set_option maxHeartbeats 4000000
/-! the parts of a tree -/
namespace K2
open PySem PySem.Spec PyProof.Rows L2 GxR NdefX GA SL RZ
variable [SL.LamT]
/-- what stands at a field: an integer, or a part's words -/
abbrev Ent := Int ⊕ List Key
def wE : Ent → List Key
  | .inl z => [.inl z]
  | .inr t => t
def joinE : List Ent → List Key
  | [] => []
  | e :: es => wE e ++ joinE es
/-- what is met, read from the last word on; the first one last met -/
def metR (ks : List PyData) : List Key → List Ent
  | [] => []
  | .inl z :: ws => .inl z :: metR ks ws
  | .inr x :: ws => .inr (.inr x :: joinE ((metR ks ws).take (flK ks x).length)) :: (metR ks ws).drop (flK ks x).length
/-- the tree of the maker x ahead of the words ws -/
def tOf (ks : List PyData) (x : Str) (ws : List Key) : List Key := .inr x :: joinE ((metR ks ws).take (flK ks x).length)
instance decMem (t : List Key) (P : List (List Key)) : Decidable (t ∈ P) := decidable_of_iff (P.any (fun u => decide (u = t)) = true) (by simp)
def addK (P : List (List Key)) (t : List Key) : List (List Key) := if t ∈ P then P else P ++ [t]
def keysR (ks : List PyData) : List Key → List (List Key)
  | [] => []
  | .inl _ :: ws => keysR ks ws
  | .inr x :: ws => addK (keysR ks ws) (tOf ks x ws)
def kids (ks : List PyData) : List Key → List Ent
  | .inr _ :: r => metR ks r
  | _ => []
section
variable {ks : List PyData}
def entOk (ks : List PyData) (f : Str) : Ent → Prop
  | .inl _ => f = "number"
  | .inr t => f ≠ "number" ∧ run ks [f] t = some [] ∧ ∃ x r, t = .inr x :: r
def EOk (ks : List PyData) : List Str → List Ent → Prop
  | [], [] => True
  | f :: fs, e :: es => entOk ks f e ∧ EOk ks fs es
  | _, _ => False
theorem EOk.len : ∀ {fs : List Str} {es : List Ent}, EOk ks fs es → es.length = fs.length
  | [], [], _ => rfl
  | _ :: _, _ :: _, h => by rw [List.length_cons, List.length_cons, EOk.len h.2]
  | [], _ :: _, h => h.elim
  | _ :: _, [], h => h.elim
theorem EOk.cut : ∀ {a b : List Str} {es : List Ent}, EOk ks (a ++ b) es → EOk ks a (es.take a.length) ∧ EOk ks b (es.drop a.length)
  | [], b, es, h => ⟨by simp [EOk], by simpa using h⟩
  | f :: a, b, e :: es, h => ⟨⟨h.1, (EOk.cut (a := a) h.2).1⟩, (EOk.cut (a := a) h.2).2⟩
  | _ :: _, _, [], h => h.elim
theorem ent_run {f : Str} {e : Ent} (h : entOk ks f e) : run ks [f] (wE e) = some [] := by
  cases e with
  | inl z =>
    have h : f = "number" := h
    exact run_of (by subst h; rfl) (run_nil _)
  | inr t => exact h.2.1
theorem eok_run : ∀ {fs : List Str} {es : List Ent}, EOk ks fs es → run ks fs (joinE es) = some []
  | [], [], _ => run_nil _
  | f :: fs, e :: es, h => run_app (run_frame fs (ent_run h.1)) (eok_run h.2)
  | [], _ :: _, h => h.elim
  | _ :: _, [], h => h.elim
theorem join_app : ∀ (a b : List Ent), joinE (a ++ b) = joinE a ++ joinE b
  | [], b => rfl
  | e :: a, b => by
    show wE e ++ joinE (a ++ b) = (wE e ++ joinE a) ++ joinE b
    rw [join_app a b, List.append_assoc]
theorem join_cut (n : Nat) (es : List Ent) : joinE (es.take n) ++ joinE (es.drop n) = joinE es := by
  rw [← join_app, List.take_append_drop]
theorem met_run : ∀ {ws : List Key} {s : List Str}, run ks s ws = some [] → EOk ks s (metR ks ws) ∧ joinE (metR ks ws) = ws
  | [], s, h => by
    rw [run_nil] at h
    cases h
    exact ⟨trivial, rfl⟩
  | .inl z :: ws, s, h => by
    obtain ⟨f, r, rfl, c, h⟩ := run_cons h
    obtain ⟨i1, i2⟩ := met_run (ws := ws) (s := r) h
    have c : decide (f = "number") = true := c
    exact ⟨⟨(of_decide_eq_true c : f = "number"), i1⟩, by show [Sum.inl z] ++ joinE (metR ks ws) = _; rw [i2]; rfl⟩
  | .inr x :: ws, s, h => by
    obtain ⟨f, r, rfl, c, h⟩ := run_cons h
    obtain ⟨i1, i2⟩ := met_run (ws := ws) h
    obtain ⟨j1, j2⟩ := EOk.cut (a := nxt ks (.inr x)) i1
    have c' := c
    simp only [okW, Bool.and_eq_true, decide_eq_true_eq] at c'
    refine ⟨⟨⟨c'.1.1, run_of c ?_, x, _, rfl⟩, j2⟩, ?_⟩
    · rw [List.append_nil]
      exact eok_run j1
    · show (Sum.inr x :: joinE ((metR ks ws).take (flK ks x).length)) ++ joinE ((metR ks ws).drop (flK ks x).length) = _
      rw [List.cons_append, join_cut, i2]
theorem met_app : ∀ {r : List Key} {s : List Str} (rest : List Key), run ks s r = some [] → metR ks (r ++ rest) = metR ks r ++ metR ks rest
  | [], s, rest, _ => rfl
  | .inl z :: ws, s, rest, h => by
    obtain ⟨f, q, rfl, c, h⟩ := run_cons h
    show Sum.inl z :: metR ks (ws ++ rest) = Sum.inl z :: metR ks ws ++ metR ks rest
    rw [met_app rest h]
    rfl
  | .inr x :: ws, s, rest, h => by
    obtain ⟨f, q, rfl, c, h⟩ := run_cons h
    have ih := met_app rest h
    have hl := (met_run h).1.len
    rw [List.length_append] at hl
    have hl : (metR ks ws).length = (flK ks x).length + q.length := hl
    show Sum.inr (.inr x :: joinE ((metR ks (ws ++ rest)).take (flK ks x).length)) :: (metR ks (ws ++ rest)).drop (flK ks x).length = (Sum.inr (.inr x :: joinE ((metR ks ws).take (flK ks x).length)) :: (metR ks ws).drop (flK ks x).length) ++ metR ks rest
    rw [ih, List.take_append_of_le_length (by omega), List.drop_append_of_le_length (by omega)]
    rfl
theorem met_one {f : Str} {e : Ent} (h : entOk ks f e) : metR ks (wE e) = [e] := by
  cases e with
  | inl z => rfl
  | inr t =>
    obtain ⟨h1, h2, x, r, rfl⟩ := h
    obtain ⟨f', q, e, c, h⟩ := run_cons h2
    cases e
    have hr := met_run h
    have hl : (metR ks r).length = (flK ks x).length := by
      have := hr.1.len
      rw [List.length_append] at this
      exact this
    show [Sum.inr (.inr x :: joinE ((metR ks r).take (flK ks x).length))] ++ (metR ks r).drop (flK ks x).length = _
    rw [List.take_of_length_le (by omega), List.drop_of_length_le (by omega), hr.2]
    rfl
theorem met_join : ∀ {fs : List Str} {es : List Ent}, EOk ks fs es → metR ks (joinE es) = es
  | [], [], _ => rfl
  | f :: fs, e :: es, h => by
    show metR ks (wE e ++ joinE es) = _
    rw [met_app _ (ent_run h.1), met_one h.1, met_join h.2]
    rfl
  | [], _ :: _, h => h.elim
  | _ :: _, [], h => h.elim
/-- the tree of a maker ahead of words that fit -/
theorem tOf_ok {f : Str} {r : List Str} {x : Str} {ws : List Key} (h : run ks (f :: r) (.inr x :: ws) = some []) :
    f ≠ "number" ∧ run ks [f] (tOf ks x ws) = some [] ∧ kids ks (tOf ks x ws) = (metR ks ws).take (flK ks x).length ∧ EOk ks (flK ks x) (kids ks (tOf ks x ws)) ∧ (flK ks x).length ≤ (metR ks ws).length ∧ ∃ post, .inr x :: ws = tOf ks x ws ++ post ∧ run ks r post = some [] := by
  have hm := met_run h
  obtain ⟨f', q, e, c, h'⟩ := run_cons h
  cases e
  have hr := met_run h'
  obtain ⟨j1, j2⟩ := EOk.cut (a := nxt ks (.inr x)) hr.1
  have hl := hr.1.len
  rw [List.length_append] at hl
  have ek : kids ks (tOf ks x ws) = (metR ks ws).take (flK ks x).length := met_join j1
  refine ⟨hm.1.1.1, hm.1.1.2.1, ek, by rw [ek]; exact j1, by rw [hl]; exact Nat.le_add_right _ _, joinE ((metR ks ws).drop (flK ks x).length), ?_, eok_run j2⟩
  show _ = .inr x :: joinE _ ++ joinE _
  rw [List.cons_append, join_cut, hr.2]
theorem kids_ok {f x : Str} {r : List Key} (h : run ks [f] (.inr x :: r) = some []) : EOk ks (flK ks x) (kids ks (.inr x :: r)) ∧ joinE (kids ks (.inr x :: r)) = r := by
  obtain ⟨f', q, e, c, h⟩ := run_cons h
  cases e
  rw [List.append_nil] at h
  exact met_run h
/-! ### the list of the parts -/
theorem addK_mem {P : List (List Key)} {t u : List Key} : u ∈ addK P t ↔ u ∈ P ∨ u = t := by
  unfold addK
  by_cases h : t ∈ P
  · rw [if_pos h]
    exact ⟨.inl, fun z => z.elim id fun e => e ▸ h⟩
  · rw [if_neg h, List.mem_append, List.mem_singleton]
theorem addK_nd {P : List (List Key)} {t : List Key} (h : P.Nodup) : (addK P t).Nodup := by
  unfold addK
  by_cases c : t ∈ P
  · rw [if_pos c]; exact h
  · rw [if_neg c]
    exact List.nodup_append.mpr ⟨h, by simp, fun a ha b hb => by rw [List.mem_singleton.mp hb]; exact fun z => c (z ▸ ha)⟩
theorem keysR_nd : ∀ ws : List Key, (keysR ks ws).Nodup
  | [] => .nil
  | .inl _ :: ws => keysR_nd ws
  | .inr _ :: ws => addK_nd (keysR_nd ws)
theorem keysR_mem : ∀ {ws : List Key} {t : List Key}, t ∈ keysR ks ws ↔ ∃ i x, ws[i]? = some (.inr x) ∧ t = tOf ks x (ws.drop (i + 1))
  | [], t => by simp [keysR]
  | .inl z :: ws, t => by
    show t ∈ keysR ks ws ↔ _
    rw [keysR_mem]
    constructor
    · rintro ⟨i, x, e, h⟩
      exact ⟨i + 1, x, e, h⟩
    · rintro ⟨i, x, e, h⟩
      cases i with
      | zero => simp at e
      | succ i => exact ⟨i, x, e, h⟩
  | .inr y :: ws, t => by
    show t ∈ addK (keysR ks ws) (tOf ks y ws) ↔ _
    rw [addK_mem, keysR_mem]
    constructor
    · rintro (⟨i, x, e, h⟩ | h)
      · exact ⟨i + 1, x, e, h⟩
      · exact ⟨0, y, rfl, h⟩
    · rintro ⟨i, x, e, h⟩
      cases i with
      | zero =>
        have e : some (Sum.inr y : Key) = some (Sum.inr x) := e
        cases e
        exact .inr h
      | succ i => exact .inl ⟨i, x, e, h⟩
theorem keysR_len : ∀ ws : List Key, (keysR ks ws).length ≤ ws.length
  | [] => Nat.le_refl _
  | .inl _ :: ws => Nat.le_succ_of_le (keysR_len ws)
  | .inr x :: ws => by
    show (addK (keysR ks ws) (tOf ks x ws)).length ≤ ws.length + 1
    have := keysR_len ws
    unfold addK
    split
    · omega
    · rw [List.length_append, List.length_singleton]; omega
theorem met_keys : ∀ {ws : List Key} {u : List Key}, .inr u ∈ metR ks ws → u ∈ keysR ks ws
  | [], _, h => by simp [metR] at h
  | .inl z :: ws, u, h => met_keys (ws := ws) ((List.mem_cons.mp h).elim (fun z => by cases z) id)
  | .inr x :: ws, u, h => by
    show u ∈ addK _ _
    rw [addK_mem]
    rcases List.mem_cons.mp h with h | h
    · cases h
      exact .inr rfl
    · exact .inl (met_keys (List.mem_of_mem_drop h))
/-- a part, as it stands in the words of a tree -/
structure IsPart (ks : List PyData) (ws t : List Key) : Prop where
  ex : ∃ (f x : Str) (r pre post : List Key), f ≠ "number" ∧ run ks [f] t = some [] ∧ t = .inr x :: r ∧ ws = (pre ++ t) ++ post
theorem part_of {ws t : List Key} {s : List Str} (h : run ks s ws = some []) (ht : t ∈ keysR ks ws) : IsPart ks ws t ∧ ∀ u, .inr u ∈ kids ks t → u ∈ keysR ks ws := by
  obtain ⟨i, x, e, rfl⟩ := keysR_mem.mp ht
  have ed : ws.drop i = .inr x :: ws.drop (i + 1) := (List.drop_eq_getElem?_toList_append ..).trans (by rw [e]; rfl)
  have h0 := h
  rw [← List.take_append_drop i ws] at h0
  obtain ⟨s', h1, h2⟩ := run_parts h0
  rw [ed] at h2
  obtain ⟨f, r, rfl, _, _⟩ := run_cons h2
  obtain ⟨k1, k2, k3, k4, k5, post, k6, k7⟩ := tOf_ok h2
  refine ⟨⟨f, x, _, ws.take i, post, k1, k2, rfl, by rw [List.append_assoc, ← k6, ← ed, List.take_append_drop]⟩, fun u hu => ?_⟩
  rw [k3] at hu
  have hu := met_keys (List.mem_of_mem_take hu)
  obtain ⟨j, y, e2, rfl⟩ := keysR_mem.mp hu
  rw [List.getElem?_drop] at e2
  refine keysR_mem.mpr ⟨_, y, e2, ?_⟩
  rw [List.drop_drop]
  congr 2
end
end K2
set_option Elab.async false
set_option linter.all false
set_option maxRecDepth 100000
set_option maxHeartbeats 2000000
/-! own words, 27: t[::-1] -/
namespace HT
open PySem PyProof.Rows
section
variable {prog : Program} {w : World} {A : Around} {E : Value → Shared → Prop} {s : Shared}
theorem adjust_rev (n : Nat) : Builtin.Slice.sliceAdjust none none (-1) (n : Int) = ((n : Int) - 1, -1) := by
  have h1 : ((-1 : Int) < 0) := by omega
  unfold Builtin.Slice.sliceAdjust
  simp only [h1, if_true]
theorem places_rev (n : Nat) : Builtin.Slice.slicePlaces ((n : Int) - 1) (-1) (-1) = n := by
  unfold Builtin.Slice.slicePlaces
  have h1 : ¬ ((-1 : Int) > 0) := by omega
  have h2 : (-(-1 : Int)) = 1 := by decide
  simp only [h1, if_false, h2, Int.ediv_one]
  split <;> omega
theorem pick_rev (xs : Array Value) : ((List.range xs.size).filterMap fun (m : Nat) => xs[(((xs.size : Int) - 1) + (m : Int) * (-1)).toNat]?) = xs.toList.reverse := by
  have h : ∀ k, k ≤ xs.size → ((List.range k).filterMap fun (m : Nat) => xs[(((xs.size : Int) - 1) + (m : Int) * (-1)).toNat]?) = xs.toList.reverse.take k := by
    intro k
    induction k with
    | zero => intro _; simp
    | succ k ih =>
      intro hk
      have e : (((xs.size : Int) - 1) + (k : Int) * (-1)).toNat = xs.size - 1 - k := by omega
      have l : xs.size - 1 - k < xs.size := by omega
      have lk : k < xs.toList.reverse.length := by rw [List.length_reverse, Array.length_toList]; omega
      rw [List.range_succ, List.filterMap_append, ih (by omega), List.take_add_one, List.getElem?_eq_getElem lk]
      congr 1
      simp only [List.filterMap_cons, List.filterMap_nil, e, Array.getElem?_eq_getElem l, Option.toList_some, List.getElem_reverse, Array.length_toList, Array.getElem_toList]
  have := h xs.size (Nat.le_refl _)
  rw [this, List.take_of_length_le (by rw [List.length_reverse, Array.length_toList]; exact Nat.le_refl _)]
theorem sliceApplied_rev {sl : Addr} {vl vu vs : Value} {n : Nat} {Q : Int × Int × Nat → Shared → Prop} (hs : s.heap.IsSliceOf sl vl vu vs) (pl : IsPart vl none) (pu : IsPart vu none) (ps : IsPart vs (some (-1)))
    (h : Q ((n : Int) - 1, -1, n) s) : wpAny (model prog w) A (Builtin.Slice.sliceApplied (.ref sl) (pure (n : Int))) Q E s := by
  obtain ⟨os, hos, hcs, hds⟩ := id hs
  unfold Builtin.Slice.sliceApplied Builtin.Slice.sliceFields
  refine wpAny_bind (wpAny_bind (wpAny_field hos hds (x := vl) rfl (wpAny_bind (wpAny_field hos hds (x := vu) rfl (wpAny_bind (wpAny_field hos hds (x := vs) rfl (wpAny_pure ?_)))))))
  refine wpAny_bind (slicePart_ ps ?_)
  show wpAny _ _ (if ((-1 : Int) == 0) = true then _ else _) _ _ s
  rw [if_neg (by decide)]
  refine wpAny_bind (slicePart_ pl (wpAny_bind (slicePart_ pu (wpAny_bind (wpAny_pure ?_)))))
  show wpAny _ _ (match Builtin.Slice.sliceAdjust none none (-1) (n : Int) with | (lo, hi) => pure (lo, (-1 : Int), Builtin.Slice.slicePlaces lo hi (-1))) _ _ s
  rw [adjust_rev]
  show wpAny _ _ (pure (((n : Int) - 1), (-1 : Int), Builtin.Slice.slicePlaces ((n : Int) - 1) (-1) (-1))) _ _ s
  rw [places_rev]
  exact wpAny_pure h
theorem getItem_tuple_rev {t sl : Addr} {items : Array Value} {vl vu vs : Value} {Q : Value → Shared → Prop} (ht : IsTup s.heap t items) (hs : s.heap.IsSliceOf sl vl vu vs) (pl : IsPart vl none) (pu : IsPart vu none) (ps : IsPart vs (some (-1)))
    (h : Q (.ref s.heap.objs.size) { s with heap := s.heap.push { cls := .type "tuple", data := .seq items.toList.reverse.toArray } })
    (hsz : items.size ≤ sizeLine) : wpAny (model prog w) A (getItem (.ref t) (.ref sl)) Q E s := by
  have htake : sizeOk (.seq items.toList.reverse.toArray) := by
    show items.toList.reverse.toArray.size ≤ sizeLine
    rw [List.size_toArray, List.length_reverse, Array.length_toList]
    exact hsz
  obtain ⟨os, hos, hcs, hds⟩ := id hs
  have hTs : s.TypeIs (.ref sl) "slice" := ⟨os, hos, hcs⟩
  unfold getItem
  try with_reducible refine wpAny_holding ?_
  first | refine wpAny_bind (wpAny_pure ?_) | skip
  refine wpAny_bind (wpAny_sequenceKey ht.typeIs (by decide) ?_)
  refine wpAny_bind (wpAny_callSpecial?_slot (name := Str.ofString "__getitem__") ht.typeIs PyProof.Rows.slot_tuple_getitem
    (wpAny_call_entry PyProof.Rows.slot_tuple_getitem ht.typeIs entry_tuple_getitem ?_ (args_tuple_getitem _ _)))
  show wpAny _ _ (Builtin.Tuple.tupleItemsOf (.ref t) >>= _) _ _ s
  refine wpAny_bind (tupleItemsOf_ ht ?_)
  refine wpAny_bind (wpAny_typeOf hTs ?_)
  rw [if_pos (by decide)]
  refine wpAny_bind (sliceApplied_rev hs pl pu ps ?_)
  have hno : ¬ ((((items.size : Int) - 1) == 0 && (-1 : Int) == 1 && items.size == items.size) = true) := by simp
  show wpAny _ _ (if (((items.size : Int) - 1) == 0 && (-1 : Int) == 1 && items.size == items.size) = true then _ else _) _ _ s
  rw [if_neg hno, pick_rev]
  first
    | exact wpAny_bind (m := Builtin.Tuple.tupleExact _) (wpAny_newObj_type (wpAny_pure ⟨_, rfl, wpAny_pure h⟩) htake)
    | exact wpAny_bind (m := Builtin.Tuple.tupleExact _) (wpAny_newObj_type (wpAny_bind (wpAny_pure (wpAny_pure ⟨_, rfl, wpAny_pure h⟩))) htake)
    | exact wpAny_bind (wpAny_bind (m := Builtin.Tuple.tupleExact _) (wpAny_newObj_type (wpAny_pure (wpAny_pure ⟨_, rfl, wpAny_pure h⟩)) htake))
    | exact wpAny_bind (wpAny_bind (m := Builtin.Tuple.tupleExact _) (wpAny_newObj_type (wpAny_pure ⟨_, rfl, wpAny_pure h⟩) htake))
end
end HT
namespace SL
open PySem PySem.Spec PyProof.Rows L2 GxR NdefX GA RZ
variable [SL.LamT]
def tRevT (K : PySem.W.Frag) (te : TE) : TE := fun σ H Q => te σ H fun x H1 => ∃ a xs, x = .ref a ∧ SqT K H1 a xs ∧ ∀ p, H1 p = none → Q (.ref p) (upd H1 p (.tup xs.reverse))
theorem pe_revT {X : Cx} {e : Expr} {te : TE} {k : Nat} {p1 p2 p3 pos : Pos} (he : PE X e te) : PE X (.Subscript e (.Slice none none (some (.UnaryOp .USub (.Constant (.int 1) k p1) p2)) p3) pos) (tRevT X.K te) := by
  refine ⟨fun pins s σ H Q I h => ?_⟩
  refine Subscript_ (thn (he.run pins s σ H _ I h) fun v s1 ⟨x, H1, I1, r1, q1⟩ => ?_)
  obtain ⟨a, xs, ex, hx, q⟩ := q1
  subst ex
  cases r1
  have hst : PO X (some (.UnaryOp .USub (.Constant (.int 1) k p1) p2)) (tPart (tUn (rU fun i => .int (-i)) (tC (.int 1)))) := po_some (pe_un un_neg pe_int)
  refine wpAny_Slice (thn (po_none.run pins s1 σ H1 (fun o H2 => o = none ∧ H2 = H1) I1 ⟨rfl, rfl⟩) fun vl s2 ⟨l, H2, I2, pl, el, e2⟩ => ?_)
  subst el e2
  refine thn (po_none.run pins s2 σ H2 (fun o H3 => o = none ∧ H3 = H2) I2 ⟨rfl, rfl⟩) fun vu s3 ⟨u, H3, I3, pu, eu, e3⟩ => ?_
  subst eu e3
  refine thn (hst.run pins s3 σ H3 (fun o H4 => o = some (-1) ∧ H4 = H3) I3 ⟨1, rfl, -1, rfl, rfl, rfl⟩) fun vs s4 ⟨o, H4, I4, ps, eo, e4⟩ => ?_
  subst eo e4
  have I5 : Inv X pins σ H4 { s4 with heap := s4.heap.push { cls := .type "slice", data := .fields #[vl, vu, vs] } } := I4.kept (t' := s4.toks) fun b ob q => Heap.get?_push_of_some _ q
  obtain ⟨its, r, ht, hz⟩ := I5.tuple hx
  have hlen := r.length
  show wpAny (model X.prog X.w) X.A (subscriptTail e (.Slice none none (some (.UnaryOp .USub (.Constant (.int 1) k p1) p2)) p3) (.ref a) (.ref s4.heap.objs.size)) (EP X pins σ Q) X.xe { s4 with heap := s4.heap.push { cls := .type "slice", data := .fields #[vl, vu, vs] } }
  refine tail_any (ops := [.ref a, .ref s4.heap.objs.size]) ht.typeIs (PyProof.Rows.slot_tuple_getitem.lookup) ?_ (by with_unfolding_all rfl)
  refine HT.getItem_tuple_rev ht (Heap.IsSliceOf.new _ vl vu vs) pl pu ps ?_ (by rw [List.size_toArray]; omega)
  refine ⟨.ref _, _, I5.laid (t' := s4.toks) (o := .tup xs.reverse) (fun b ob q => Heap.get?_push_of_some _ q) (Nat.le_refl _) ?_, rfl, q _ (I5.hok.fresh (Nat.le_refl _))⟩
  exact ⟨by rw [List.length_reverse]; exact hz, _, by simpa using r.reverse, IsTup.new _ _⟩
end SL
set_option Elab.async false
set_option linter.all false
set_option maxRecDepth 100000
set_option maxHeartbeats 8000000
namespace SL
open PySem PySem.Spec PyProof.Rows L2 GxR NdefX GA RZ
variable [SL.LamT]
/-- a def of which no exception is wished -/
theorem FnOk.to0 {P : Program} {w : World} {K : PySem.W.Frag} {mg : Str → Option Value} {base : Heap} {k : Nat} {f : Addr} {fd : FuncData} {ps : List Str} {sp : Sp} (F : FnOk P w K mg base (L2.CX P w) k f fd ps sp) : FnOk P w K mg base CX0 k f fd ps (fun vs H Q _ => sp vs H Q E0) :=
  ⟨fun vs H Q E h => F.len _ _ _ _ h, fun A outer s H args us vs Q E hr e b v h => codeAny_mono (F.run A outer s H args us vs Q E0 hr e b v h) fun r s' hq => by
    cases r with
    | ok fl => cases fl <;> exact hq
    | error e =>
      obtain ⟨_, _, _, _, _, _, _, _, _, _, _, _, z⟩ := hq
      exact False.elim z⟩
section
variable {P : Program} {w : World} {K : PySem.W.Frag} {mg : Str → Option Value} {base : Heap} {CX : CXT} {k : Nat} {f : Addr} {fd : FuncData} {ps : List Str} {sp sp' : Sp} {x : Str}
theorem FnOk.wk (F : FnOk P w K mg base CX k f fd ps sp) (h : ∀ vs H Q E, sp' vs H Q E → sp vs H Q E) : FnOk P w K mg base CX k f fd ps sp' :=
  ⟨fun vs H Q E g => F.len _ _ _ _ (h _ _ _ _ g), fun A outer s H args us vs Q E hr e b v g => F.run A outer s H args us vs Q E hr e b v (h _ _ _ _ g)⟩
theorem FnOk.or (F : FnOk P w K mg base CX k f fd ps sp) (G : FnOk P w K mg base CX k f fd ps sp') : FnOk P w K mg base CX k f fd ps (fun vs H Q E => sp vs H Q E ∨ sp' vs H Q E) :=
  ⟨fun vs H Q E g => g.elim (F.len _ _ _ _) (G.len _ _ _ _), fun A outer s H args us vs Q E hr e b v g => g.elim (F.run A outer s H args us vs Q E hr e b v) (G.run A outer s H args us vs Q E hr e b v)⟩
end
end SL
namespace K2
open PySem PySem.Spec PyProof.Rows L2 GxR NdefX GA SL RZ
variable [SL.LamT]
abbrev s_is_integer : Stmt := top 3
abbrev s_is_word : Stmt := top 35
abbrev s_demand_kind : Stmt := top 25
abbrev s_is_tree : Stmt := top 21
abbrev s_demand_tree : Stmt := top 26
theorem sc_is_integer : FnScope ["thing"] ["thing"] (defScope s_is_integer) := ⟨rfl, rfl, rfl, by decide +kernel, rfl, by decide +kernel, by decide +kernel⟩
theorem sc_is_word : FnScope ["makers", "field", "word"] ["makers", "field", "word"] (defScope s_is_word) := ⟨rfl, rfl, rfl, by decide +kernel, rfl, by decide +kernel, by decide +kernel⟩
theorem sc_demand_kind : FnScope ["kinds", "kind", "name", "_"] ["kinds", "kind"] (defScope s_demand_kind) := ⟨rfl, rfl, rfl, by decide +kernel, rfl, by decide +kernel, by decide +kernel⟩
theorem sc_is_tree : FnScope ["kinds", "kind", "thing", "makers", "awaited", "word"] ["kinds", "kind", "thing"] (defScope s_is_tree) := ⟨rfl, rfl, rfl, by decide +kernel, rfl, by decide +kernel, by decide +kernel⟩
theorem sc_demand_tree : FnScope ["kinds", "kind", "words"] ["kinds", "kind", "words"] (defScope s_demand_tree) := ⟨rfl, rfl, rfl, by decide +kernel, rfl, by decide +kernel, by decide +kernel⟩
/-! ### words as values -/
theorem of_words {M : List Addr} {H : Hp} : ∀ {vs : List V} {ws : List Key}, DvAll M H vs (ws.map kD) → vs = ws.map kV
  | [], [], _ => rfl
  | _ :: _, w :: ws, h => by
    cases h with
    | cons h t =>
      rw [of_words t]
      cases w <;> cases h <;> rfl
theorem words_dv {M : List Addr} {H : Hp} : ∀ ws : List Key, DvAll M H (ws.map kV) (ws.map kD)
  | [] => .nil
  | .inl z :: ws => .cons (.int z) (words_dv ws)
  | .inr x :: ws => .cons (.str x) (words_dv ws)
theorem str_list {fs : List PyData} (h : ∀ f ∈ fs, ∃ z, f = .str z) : fs = (fs.map strD).map .str := by
  induction fs with
  | nil => rfl
  | cons f fs ih =>
    obtain ⟨z, rfl⟩ := h f List.mem_cons_self
    rw [List.map_cons, List.map_cons, ← ih fun g hg => h g (List.mem_cons_of_mem _ hg)]
    rfl
theorem flds_dv {M : List Addr} {H : Hp} {fv : V} {m : PyData} (hm : makerB m = true) (h : Dv M H fv (sndD m)) : ∃ a, fv = .ref a ∧ H a = some (.tup ((flds m).map V.str)) ∧ a ∉ M ∧ (flds m).length ≤ 4 := by
  obtain ⟨x, fs, rfl, l, hf⟩ := maker_parts hm
  obtain ⟨a, vs, rfl, e, n, d⟩ := dv_tup h
  rw [str_list hf] at d
  rw [d.of_strs] at e
  exact ⟨a, rfl, e, n, by show (fs.map strD).length ≤ 4; rw [List.length_map]; exact l⟩
def intB (e : PyData) : Bool := isInt e && !isBool e
def sp_is_integer : Sp := fun vs H Q _ => ∃ (M : List Addr) (v : V) (e : PyData), vs = [v] ∧ Dv M H v e ∧ Q (.bl (intB e)) H
/-- whether a word of any data may stand first at a field -/
def okD (ks : List PyData) (f : Str) : PyData → Bool
  | .int z => okW ks f (.inl z)
  | .str x => okW ks f (.inr x)
  | _ => false
theorem okD_k {ks : List PyData} {f : Str} (w : Key) : okD ks f (kD w) = okW ks f w := by cases w <;> rfl
theorem kv_dv {M : List Addr} {H : Hp} : ∀ w : Key, Dv M H (kV w) (kD w)
  | .inl z => .int z
  | .inr x => .str x
def sp_is_word : Sp := fun vs H Q _ => ∃ (D : Addr) (ks : List PyData) (f : Str) (v : V) (M : List Addr) (d : PyData), vs = [.ref D, .str f, v] ∧ Dv M H v d ∧ kindsB (.tuple ks) = true ∧ MkD H D ks ∧ Q (.bl (okD ks f d)) H
/-- kinds of a name -/
structure AskK (T : List Addr) (H : Hp) (kv : V) (ks : List PyData) (f : Str) : Prop where
  k : Dv [] H kv (.tuple ks)
  b : kindsB (.tuple ks) = true
  w : wt (.tuple ks) ≤ 4000000
  t : Tabs T H
  f : f ∈ ks.map titleOf
theorem AskK.go {T : List Addr} {H H' : Hp} {kv : V} {ks : List PyData} {f : Str} (h : AskK T H kv ks f) (g : Go T [] H H') : AskK T H' kv ks f := ⟨h.k.go g, h.b, h.w, g.tb h.t, h.f⟩
/-- a tree's words -/
structure TreeV (H : Hp) (tv : V) (ks : List PyData) (f : Str) (ws : List Key) : Prop where
  v : Dv [] H tv (.tuple (ws.map kD))
  t : isT ks f ws
  l : ws.length ≤ 400
theorem TreeV.go {T : List Addr} {H H' : Hp} {tv : V} {ks : List PyData} {f : Str} {ws : List Key} (h : TreeV H tv ks f ws) (g : Go T [] H H') : TreeV H' tv ks f ws := ⟨h.v.go g, h.t, h.l⟩
/-! any data as kinds, as a kind's name, as words -/
def titleB (ks : List PyData) : PyData → Bool
  | .str x => decide (x ∈ ks.map titleOf)
  | _ => false
/-- what asks for kinds and a kind's name: the error due -/
def kBad (CK CN : Addr) (kd fe : PyData) : Option Addr := if kindsB kd = true then (if titleB (itemsD kd) fe = true then none else some CN) else some CK
def nxtD (ks : List PyData) : PyData → List Str
  | .str x => flK ks x
  | _ => []
def runB (ks : List PyData) : List Str → List PyData → Bool
  | s, [] => s.isEmpty
  | [], _ :: _ => false
  | f :: s, d :: ds => okD ks f d && runB ks (nxtD ks d ++ s) ds
def treeB (ks : List PyData) (f : Str) (d : PyData) : Bool := match d with
  | .tuple ds => decide (ds.length ≤ 400) && runB ks [f] ds
  | _ => false
theorem nxtD_k {ks : List PyData} (w : Key) : nxtD ks (kD w) = nxt ks w := by cases w <;> rfl
theorem okD_key {ks : List PyData} {f : Str} {d : PyData} (h : okD ks f d = true) : ∃ w, d = kD w ∧ okW ks f w = true := by
  cases d with
  | int z => exact ⟨.inl z, rfl, h⟩
  | str x => exact ⟨.inr x, rfl, h⟩
  | _ => cases h
theorem runB_nil {ks : List PyData} (s : List Str) : runB ks s [] = s.isEmpty := by cases s <;> rfl
theorem runB_run {ks : List PyData} : ∀ {ds : List PyData} {s : List Str}, runB ks s ds = true → ∃ ws : List Key, ds = ws.map kD ∧ run ks s ws = some []
  | [], s, h => by
    rw [runB_nil] at h
    refine ⟨[], rfl, ?_⟩
    rw [run_nil, List.isEmpty_iff.mp h]
  | d :: ds, [], h => by cases h
  | d :: ds, f :: s, h => by
    have h' : (okD ks f d && runB ks (nxtD ks d ++ s) ds) = true := h
    rw [Bool.and_eq_true] at h'
    obtain ⟨w, rfl, hw⟩ := okD_key h'.1
    rw [nxtD_k] at h'
    obtain ⟨ws, rfl, hr⟩ := runB_run h'.2
    exact ⟨w :: ws, rfl, run_of hw hr⟩
theorem run_runB {ks : List PyData} : ∀ {ws : List Key} {s : List Str}, run ks s ws = some [] → runB ks s (ws.map kD) = true
  | [], s, h => by
    rw [run_nil] at h
    cases h
    rfl
  | w :: ws, s, h => by
    obtain ⟨f, r, rfl, c, h2⟩ := run_cons h
    show (okD ks f (kD w) && runB ks (nxtD ks (kD w) ++ r) (ws.map kD)) = true
    rw [okD_k, c, nxtD_k, run_runB h2] <;> rfl
theorem treeB_of {ks : List PyData} {f : Str} {ws : List Key} (h : isT ks f ws) (hl : ws.length ≤ 400) : treeB ks f (.tuple (ws.map kD)) = true := by
  show (decide ((ws.map kD).length ≤ 400) && _) = true
  rw [List.length_map, decide_eq_true hl, run_runB h] <;> rfl
theorem treeB_ws {ks : List PyData} {f : Str} {d : PyData} (h : treeB ks f d = true) : ∃ ws : List Key, d = .tuple (ws.map kD) ∧ isT ks f ws ∧ ws.length ≤ 400 := by
  cases d with
  | tuple ds =>
    have h' : (decide (ds.length ≤ 400) && runB ks [f] ds) = true := h
    rw [Bool.and_eq_true, decide_eq_true_eq] at h'
    obtain ⟨ws, rfl, hr⟩ := runB_run h'.2
    rw [List.length_map] at h'
    exact ⟨ws, rfl, hr, h'.1⟩
  | _ => cases h
theorem treeB_no {ks : List PyData} {f : Str} {d : PyData} (h : tupB d 1 400 = false) : treeB ks f d = false := by
  cases d with
  | tuple ds =>
    have h' : (decide ((1 : Int) ≤ (ds.length : Int)) && decide ((ds.length : Int) ≤ 400)) = false := h
    show (decide (ds.length ≤ 400) && runB ks [f] ds) = false
    cases ds with
    | nil => rfl
    | cons x r =>
      rw [decide_eq_true (by simp; omega), Bool.true_and, decide_eq_false_iff_not] at h'
      rw [decide_eq_false (by omega)] <;> rfl
  | _ => rfl
theorem kBad_none {CK CN : Addr} {kd fe : PyData} (h : kBad CK CN kd fe = none) : ∃ ks f, kd = .tuple ks ∧ fe = .str f ∧ kindsB (.tuple ks) = true ∧ f ∈ ks.map titleOf := by
  unfold kBad at h
  by_cases c : kindsB kd = true
  · rw [if_pos c] at h
    by_cases c2 : titleB (itemsD kd) fe = true
    · obtain ⟨ks, rfl⟩ : ∃ ks, kd = .tuple ks := by
        cases kd with
        | tuple ks => exact ⟨ks, rfl⟩
        | _ => simp [kindsB, tupB] at c
      cases fe with
      | str f => exact ⟨ks, f, rfl, rfl, c, of_decide_eq_true c2⟩
      | _ => cases c2
    · rw [if_neg c2] at h
      cases h
  · rw [if_neg c] at h
    cases h
theorem kBad_ok {CK CN : Addr} {ks : List PyData} {f : Str} (h : kindsB (.tuple ks) = true) (hf : f ∈ ks.map titleOf) : kBad CK CN (.tuple ks) (.str f) = none := by
  unfold kBad
  rw [if_pos h, if_pos (show titleB (itemsD (.tuple ks)) (.str f) = true from decide_eq_true hf)]
structure AskX (T : List Addr) (H : Hp) (kv fv : V) (kd fe : PyData) : Prop where
  k : Dv [] H kv kd
  f : Dv [] H fv fe
  w : wt kd ≤ 4000000
  t : Tabs T H
theorem AskX.go {T : List Addr} {H H' : Hp} {kv fv : V} {kd fe : PyData} (h : AskX T H kv fv kd fe) (g : Go T [] H H') : AskX T H' kv fv kd fe := ⟨h.k.go g, h.f.go g, h.w, g.tb h.t⟩
theorem AskK.x {T : List Addr} {H : Hp} {kv : V} {ks : List PyData} {f : Str} (h : AskK T H kv ks f) : AskX T H kv (.str f) (.tuple ks) (.str f) := ⟨h.k, .str f, h.w, h.t⟩
def sp_demand_kindsX (T : List Addr) (CK : Addr) : Sp := fun vs H Q E => ∃ (v : V) (d : PyData), vs = [v] ∧ Dv [] H v d ∧ wt d ≤ 4000000 ∧ Tabs T H ∧ (kindsB d = false → ∀ H', Go T [] H H' → Tabs T H' → E (.ref CK) none H') ∧ (kindsB d = true → ∀ H', Go T [] H H' → Tabs T H' → Q .non H')
def sp_demand_kindX (T : List Addr) (CK CN : Addr) : Sp := fun vs H Q E => ∃ (kv fv : V) (kd fe : PyData), vs = [kv, fv] ∧ AskX T H kv fv kd fe ∧ (∀ C, kBad CK CN kd fe = some C → ∀ H', Go T [] H H' → Tabs T H' → E (.ref C) none H') ∧ (kBad CK CN kd fe = none → ∀ H', Go T [] H H' → Tabs T H' → Q .non H')
def sp_is_treeX (T : List Addr) (CK CN : Addr) : Sp := fun vs H Q E => ∃ (kv fv tv : V) (kd fe d : PyData), vs = [kv, fv, tv] ∧ AskX T H kv fv kd fe ∧ Dv [] H tv d ∧ (∀ C, kBad CK CN kd fe = some C → ∀ H', Go T [] H H' → Tabs T H' → E (.ref C) none H') ∧
  (∀ ks f, kd = .tuple ks → fe = .str f → kindsB (.tuple ks) = true → f ∈ ks.map titleOf → ∀ H', Go T [] H H' → Tabs T H' → Q (.bl (treeB ks f d)) H')
def sp_is_treeG (T : List Addr) : Sp := fun vs H Q _ => ∃ (kv tv : V) (ks : List PyData) (f : Str) (d : PyData), vs = [kv, .str f, tv] ∧ AskK T H kv ks f ∧ Dv [] H tv d ∧ ∀ H', Go T [] H H' → Tabs T H' → Q (.bl (treeB ks f d)) H'
def sp_demand_treeX (T : List Addr) (CB : Addr) : Sp := fun vs H Q E => ∃ (kv tv : V) (ks : List PyData) (f : Str) (d : PyData), vs = [kv, .str f, tv] ∧ AskK T H kv ks f ∧ Dv [] H tv d ∧ (treeB ks f d = false → ∀ H', Go T [] H H' → Tabs T H' → E (.ref CB) none H') ∧ (treeB ks f d = true → ∀ H', Go T [] H H' → Tabs T H' → Q .non H')
def sp_demand_tree (T : List Addr) : Sp := fun vs H Q _ => ∃ (kv tv : V) (ks : List PyData) (f : Str) (ws : List Key), vs = [kv, .str f, tv] ∧ AskK T H kv ks f ∧ TreeV H tv ks f ws ∧ ∀ H', Go T [] H H' → Tabs T H' → Q .non H'
theorem treeG_of {T : List Addr} {CK CN : Addr} {vs : List V} {H : Hp} {Q : VK} {E : XK} (h : sp_is_treeG T vs H Q E) : sp_is_treeX T CK CN vs H Q E0 := by
  obtain ⟨kv, tv, ks, f, d, rfl, hA, hv, q⟩ := h
  refine ⟨kv, _, tv, _, _, d, rfl, hA.x, hv, fun C hC => ?_, fun ks' f' e1 e2 _ _ H' g t => ?_⟩
  · rw [kBad_ok hA.b hA.f] at hC
    cases hC
  · cases e1
    cases e2
    exact q H' g t
theorem demand_of {T : List Addr} {CB : Addr} {vs : List V} {H : Hp} {Q : VK} {E : XK} (h : sp_demand_tree T vs H Q E) : sp_demand_treeX T CB vs H Q E0 := by
  obtain ⟨kv, tv, ks, f, ws, rfl, hA, hT, q⟩ := h
  have hb := treeB_of hT.t hT.l
  exact ⟨kv, tv, ks, f, _, rfl, hA, hT.v, fun c => absurd (hb.symm.trans c) (by decide), fun _ => q⟩
section
variable {P : Program} {w : World} {K : PySem.W.Frag} {mg : Str → Option Value} {base : Heap} {f c Pt CK CR CN CB : Addr} {fd : FuncData} {T : List Addr}
theorem ok_is_integer (F : Fun K "is_integer" "is_integer" s_is_integer f fd) (B : Bl mg) : FnOk P w K mg base CX0 1 f fd ["thing"] sp_is_integer := by
  refine F.ok sc_is_integer (fun vs H Q E h => ?_) (fun cdv A outer s H vs Q E hr h => ?_)
  · obtain ⟨_, _, _, rfl, _⟩ := h
    rfl
  obtain ⟨M, v, e, rfl, hv, q⟩ := h
  refine ⟨_, pss_one (ps_ret (pe_and (pe_isi_int B (pv 0)) (pe_one (pe_not (pe_isi_bool B (pv 0)))))), ?_⟩
  refine ⟨_, rfl, _, _, _, rfl, hv, _, rfl, ?_⟩
  unfold intB at q
  cases c1 : isInt e with
  | true =>
    rw [c1, Bool.true_and] at q
    exact iteT ⟨_, rfl, _, _, _, rfl, hv, _, rfl, q⟩
  | false =>
    rw [c1, Bool.false_and] at q
    exact iteF q
theorem ok_is_word (F : Fun K "_is_word" "_is_word" s_is_word f fd) (B : Bl mg) (Fi : Fnn P w K mg base CX0 1 "is_integer" ["thing"] sp_is_integer) (Fk : Fnn P w K mg base CX0 1 "kind_of" ["makers", "maker"] sp_kind_of) : FnOk P w K mg base CX0 2 f fd ["makers", "field", "word"] sp_is_word := by
  refine F.ok sc_is_word (fun vs H Q E h => ?_) (fun cdv A outer s H vs Q E hr h => ?_)
  · obtain ⟨_, _, _, _, _, _, rfl, _⟩ := h
    rfl
  obtain ⟨D, ks, f', v, M, d, rfl, hv, hk, hD, q⟩ := h
  have hu : (A.deeper (envOfC "_is_word" (defScope s_is_word) s.heap.objs.size f cdv)).units + 1 < cLine := by
    have := hr.un
    omega
  refine ⟨_, pss_cons (ps_if (pt_cmpR op_eq (pv 1) pe_str (nomark _)) (pss_one (ps_ret (pe_fn Fi hr (by decide) pass0 (pa_cons (pv 2) pa_nil)))) pss_nil)
    (pss_one (ps_ret (pe_and (pe_isi_str B (pv 2)) (pe_and (pe_cmp (pc_din hu (pv 2) (pv 0))) (pe_one (pe_cmpR op_eq (pe_fn Fk hr (by decide) pass0 (pa_cons (pv 0) (pa_cons (pv 2) pa_nil))) (pv 1) (nomark _))))))), ?_⟩
  refine ⟨_, rfl, rfl, _, rfl, ?_⟩
  by_cases c1 : f' = "number"
  · refine if_true_of (decide_eq_true (by rw [c1])) ?_
    refine ⟨_, rfl, M, _, _, rfl, hv, ?_⟩
    refine goQ q ?_
    cases d with
    | int z => show decide (f' = "number") = true; exact decide_eq_true c1
    | str x => show (decide (f' ≠ "number") && _ && _) = false; rw [decide_eq_false (fun z => z c1)]; rfl
    | _ => rfl
  · refine if_false_of (decide_eq_false fun e => c1 (V.str.inj e)) ?_
    refine ⟨_, rfl, _, M, d, rfl, hv, _, rfl, ?_⟩
    cases d with
    | str x =>
      cases hv
      refine iteT ?_
      have e0 : okD ks f' (.str x) = (decide (x ∈ namesM (rowsM ks)) && decide (kdK ks x = f')) := by
        show (decide (f' ≠ "number") && _ && _) = _
        rw [decide_eq_true c1, Bool.true_and]
      rw [e0] at q
      by_cases hx : x ∈ namesM (rowsM ks)
      · rw [decide_eq_true hx, Bool.true_and] at q
        obtain ⟨kd, p, m, t, fv, h1, h2, h3, _⟩ := hD.get hx
        refine ⟨_, rfl, _, rfl, D, _, rfl, h3, _, rfl, iteT ?_⟩
        refine ⟨_, rfl, _, rfl, D, x, ks, rfl, hD, hx, fun kd2 p2 m2 g1 g2 => ?_⟩
        refine ⟨_, rfl, rfl, goQ q ?_⟩
        have e1 : kdK ks x = kd2 := by rw [← g2]; exact kdK_eq (kinds_names hk).1 g1
        rw [e1]
        exact decide_eq_decide.mpr ⟨fun h => by rw [h], fun h => V.str.inj h⟩
      · rw [decide_eq_false hx, Bool.false_and] at q
        exact ⟨_, rfl, _, rfl, D, _, rfl, hD.no hx, _, rfl, iteF q⟩
    | int z => exact iteF (goQ q (by show decide (f' = "number") = false; exact decide_eq_false c1))
    | _ => exact iteF q
theorem ok_demand_kindsX (F : Fun K "demand_kinds" "demand_kinds" s_demand_kinds f fd) (XK' : Xc K mg "BadKinds" CK) (Fk : Fnn P w K mg base CX0 9 "is_kinds" ["thing"] (sp_look T kindsB)) : FnOk P w K mg base (L2.CX P w) 10 f fd ["kinds"] (sp_demand_kindsX T CK) := by
  refine F.okX sc_demand_kinds (fun vs H Q E h => ?_) (fun cdv A outer s H vs Q E hr h => ?_)
  · obtain ⟨_, _, rfl, _⟩ := h
    rfl
  obtain ⟨v, d, rfl, hv, hw, ht, qE, q⟩ := h
  refine ⟨_, pss_one (ps_if (pt_not (pt_val (pe_fn Fk hr (by decide) pass0 (pa_cons (pv 0) pa_nil)))) (pss_one (ps_raiseX rfl XK' (takes_of rfl rfl rfl rfl))) pss_nil), ?_⟩
  refine ⟨_, rfl, [], v, d, rfl, hv, hw, ht, fun H' g' t' => ⟨_, rfl, ?_⟩⟩
  cases c : kindsB d with
  | true => exact iteF (q c H' g' t')
  | false => exact iteT (qE c H' g' t')
theorem ok_demand_kindX (F : Fun K "demand_kind" "demand_kind" s_demand_kind f fd) (B : Bl mg) (XK' : Xc K mg "BadKind" CN) (Fk : Fnn P w K mg base (L2.CX P w) 10 "demand_kinds" ["kinds"] (sp_demand_kindsX T CK)) : FnOk P w K mg base (L2.CX P w) 11 f fd ["kinds", "kind"] (sp_demand_kindX T CK CN) := by
  have nd := sc_demand_kind.nd
  refine F.okX sc_demand_kind (fun vs H Q E h => ?_) (fun cdv A outer s H vs Q E hr h => ?_)
  · obtain ⟨_, _, _, _, rfl, _⟩ := h
    rfl
  obtain ⟨kv, fv, kd, fe, rfl, hA, qE, q⟩ := h
  refine ⟨_, pss_cons (ps_expr (pe_fn Fk hr (by decide) (passes_call (takes_of rfl rfl rfl rfl) (fun _ _ _ _ h => h)) (pa_cons (pv 0) pa_nil)))
    (pss_one (ps_if (PW.pt (pw_or (pt_not (pt_val (pe_isi_str B (pv 1)))) (pw_or1 (pt_cmpR op_notIn_seq (pv 1) (pe_lc (own := [("name", 2), ("_", 3)]) (g := gTup K 2 (gCons (gName 2) (gCons (gName 3) gNil))) (tt := tYes) rfl nd (pi_tup (pv 0)) (blkOk_by (own := [("name", 2), ("_", 3)]) (N := ["kinds", "kind", "name", "_"]) (sc := defScope s_demand_kind) (by decide +kernel))
        (fun _ _ _ _ _ => pg_tup rfl (pgs_cons (pg_name (i := 2) nd rfl (Or.inl rfl)) (pgs_cons (pg_name (i := 3) nd rfl (Or.inl rfl)) pgs_nil))) (fun _ _ _ _ _ => pts_nil) (fun _ _ _ _ _ => pv 2)) rfl)))) (pss_one (ps_raiseX rfl XK' (takes_of rfl rfl rfl rfl))) pss_nil)), ?_⟩
  have nn : ∀ b : Addr, b ∉ ([] : List Addr) := fun b => List.not_mem_nil
  refine ⟨_, rfl, kv, kd, rfl, hA.k, hA.w, hA.t, fun cb H1 g1 t1 => ?_, fun cb H1 g1 t1 => ?_⟩
  · exact qE CK (by unfold kBad; rw [if_neg (by rw [cb]; simp)]) H1 g1 t1
  have hA1 := hA.go g1
  obtain ⟨ks, rfl⟩ : ∃ ks, kd = .tuple ks := by
    cases kd with
    | tuple ks => exact ⟨ks, rfl⟩
    | _ => simp [kindsB, tupB] at cb
  refine ⟨_, rfl, _, _, _, rfl, hA1.f, _, rfl, ?_⟩
  obtain ⟨nu, hkb, hk6⟩ := kinds_names cb
  have qq : ∀ b, titleB ks fe = b → ∀ H', Go T [] H H' → Tabs T H' → if b = true then Q .non H' else E (.ref CN) none H' := fun b hb H' g' t' => by
    cases b with
    | true => exact (if_pos rfl).mpr (q (by unfold kBad; rw [if_pos cb, if_pos (show titleB (itemsD (.tuple ks)) fe = true from hb)]) H' g' t')
    | false => exact (if_neg Bool.false_ne_true).mpr (qE CN (by unfold kBad; rw [if_pos cb, if_neg (by rw [show titleB (itemsD (.tuple ks)) fe = false from hb]; simp)]) H' g' t')
  cases fe with
  | str f' =>
    have hf := hA1.f
    cases hf
    refine iteF ?_
    obtain ⟨a, xs, rfl, ea, _, dx⟩ := dv_tup hA1.k
    have lx := dx.length
    refine ⟨_, rfl, _, rfl, a, rfl, ⟨_, SqT.of ea⟩, fun D hD => ?_⟩
    refine lc_fst (M := []) (T := T) (H0 := H1) (xs := xs) (ds := ks) walk_tup (fun H' g => SqT.of (g.tup ea (nn _))) dx ?_ Go.refl hD (sz (by omega)) (fun _ _ => rfl) (fun _ _ => rfl) (fun H2 acc g2 e2 d2 => ?_)
    · intro k hkm
      obtain ⟨x, ms, rfl, _⟩ := kind_of (hkb k hkm)
      exact ⟨_, _, rfl⟩
    have E1 := strs_of (titles_str hkb)
    rw [E1] at d2
    have d2' := d2.of_strs
    have et : (ks.map fstD).map strD = ks.map titleOf := by
      rw [List.map_map]
      rfl
    rw [et] at d2'
    rw [d2'] at e2
    refine ⟨D, _, rfl, .inl (SqL.of e2), rfl, ?_, _, rfl, ?_⟩
    · rw [List.all_map]
      exact List.all_eq_true.mpr fun _ _ => rfl
    · rw [inV_strs]
      have := qq _ rfl H2 (g1.trans g2) (g2.tb t1)
      by_cases hf : f' ∈ ks.map titleOf
      · rw [show titleB ks (.str f') = true from decide_eq_true hf] at this
        rw [decide_eq_true hf]
        exact iteF ((if_pos rfl).mp this)
      · rw [show titleB ks (.str f') = false from decide_eq_false hf] at this
        rw [decide_eq_false hf]
        exact iteT ((if_neg Bool.false_ne_true).mp this)
  | _ => exact iteT ((if_neg Bool.false_ne_true).mp (qq false rfl H1 g1 t1))
theorem ok_is_treeX (F : Fun K "is_tree" "is_tree" s_is_tree f fd) (B : Bl mg) (hW : ∃ t, mg "MOST_WORDS" = some (.int 400 t)) (Fd : Fnn P w K mg base (L2.CX P w) 11 "demand_kind" ["kinds", "kind"] (sp_demand_kindX T CK CN)) (Ft : Fnn P w K mg base CX0 1 "is_tuple" ["thing", "least", "most"] sp_is_tuple)
    (Fm : Fnn P w K mg base CX0 1 "makers_of" ["kinds"] (sp_makers_of T)) (Fw : Fnn P w K mg base CX0 2 "_is_word" ["makers", "field", "word"] sp_is_word) (Ff : Fnn P w K mg base CX0 1 "fields_of" ["makers", "maker"] sp_fields_of) : FnOk P w K mg base (L2.CX P w) 12 f fd ["kinds", "kind", "thing"] (sp_is_treeX T CK CN) := by
  have nd := sc_is_tree.nd
  obtain ⟨tw, mW⟩ := hW
  refine F.okX sc_is_tree (fun vs H Q E h => ?_) (fun cdv A outer s H vs Q E hr h => ?_)
  · obtain ⟨_, _, _, _, _, _, rfl, _⟩ := h
    rfl
  obtain ⟨kv, fv, tv, kd, fe, d, rfl, hX, hv, qE, q⟩ := h
  refine ⟨_, pss_cons (ps_expr (pe_fn Fd hr (by decide) (passes_call (takes_of rfl rfl rfl rfl) (fun _ _ _ _ h => h)) (pa_cons (pv 0) (pa_cons (pv 1) pa_nil))))
    (PSs.nox (pss_cons (ps_if (pt_not (pt_val (pe_fn Ft hr (by decide) pass0 (pa_cons (pv 2) (pa_cons pe_int (pa_cons (pe_glob (v := .int 400) rfl mW ⟨_, rfl⟩) pa_nil)))))) (pss_one (ps_ret pe_bl)) pss_nil)
    (pss_cons (ps_set (i := 3) nd rfl (.inl rfl) (pe_fn Fm hr (by decide) pass0 (pa_cons (pv 0) pa_nil)))
    (pss_cons (ps_set (i := 4) nd rfl (.inl rfl) (pe_lst (pa_cons (pv 1) pa_nil)))
    (pss_cons (ps_for PassesOwn.never rfl (pi_tup (pv 2)) (pg_name (i := 5) nd rfl (.inl rfl))
      (pss_cons (ps_if (PW.pt (pw_or (pt_not (pt_truth (pv 4) (by intro _; rfl))) (pw_or1 (pt_not (pt_val (pe_fn Fw hr (by decide) pass0 (pa_cons (pv 3) (pa_cons (pe_ix ix_list (pv 4) (pe_un un_neg pe_int) (fun _ _ => rfl)) (pa_cons (pv 5) pa_nil))))))))) (pss_one (ps_ret pe_bl)) pss_nil)
      (pss_one (ps_if (pt_cmpR op_ne (pe_bm0 PySem.F.plainAttrs_list PySem.F.slot_list_pop PySem.F.type_list_pop mt_pop (pv 4)) pe_str (nomark _))
        (pss_one (ps_expr (pe_bm PySem.F.plainAttrs_list PySem.F.slot_list_extend PySem.F.type_list_extend mt_extT (pv 4) (pa_cons (pe_revT (pe_fn Ff hr (by decide) pass0 (pa_cons (pv 3) (pa_cons (pv 5) pa_nil)))) pa_nil)))) pss_nil))))
    (pss_one (ps_ret (pe_notT (pv 4))))))))), ?_⟩
  have nn : ∀ b : Addr, b ∉ ([] : List Addr) := fun b => List.not_mem_nil
  refine ⟨_, rfl, _, rfl, kv, fv, kd, fe, rfl, hX, fun C hC H1 g1 t1 => qE C hC H1 g1 t1, fun hN H1 g1 t1 => ?_⟩
  obtain ⟨ks, f', rfl, rfl, hkb, hft⟩ := kBad_none hN
  have hfv := hX.f
  cases hfv
  have q := q ks f' rfl rfl hkb hft
  have hA : AskK T H kv ks f' := ⟨hX.k, hkb, hX.w, hX.t, hft⟩
  have hA1 := hA.go g1
  refine ⟨_, rfl, [], _, _, 1, 400, rfl, hv.go g1, _, rfl, ?_⟩
  cases hb : tupB d 1 400 with
  | false =>
    refine iteT ?_
    have := q H1 g1 t1
    rw [treeB_no hb] at this
    exact this
  | true =>
  refine iteF ?_
  obtain ⟨ds, rfl, l1, l4⟩ := tupOf hb
  obtain ⟨a, xs, rfl, ea, _, dx⟩ := dv_tup (hv.go g1)
  have lx := dx.length
  refine ⟨_, rfl, _, ks, rfl, hA1.k, hA1.b, t1, fun D H2 hD0 hD g2 t2 => ?_⟩
  refine ⟨_, rfl, by show 1 ≤ sizeLine; decide, fun aw haw => ?_⟩
  have ea2 := g2.tup ea (nn _)
  have dx2 := dx.go g2
  have u0 := Go.new (T := T) (M := []) (o := .lst [V.str f']) haw
  refine ⟨_, rfl, a, rfl, ⟨_, SqT.of (u0.tup ea2 (nn _))⟩, ?_⟩
  have hq : ∀ b, runB ks [f'] ds = b → ∀ H', Go T [] H2 H' → Q (.bl b) H' := fun b hb' H' g' => by
    have := q H' ((g1.trans g2).trans g') ((g2.trans g').tb t1)
    rw [show treeB ks f' (.tuple ds) = b by
      show (decide (ds.length ≤ 400) && _) = b
      rw [decide_eq_true (by omega), hb', Bool.true_and]] at this
    exact this
  refine for_it (n := xs.length) walk_tup (fun i σ H' => ∃ p5 st, σ = [some kv, some (.str f'), some (.ref a), some (.ref D), some (.ref aw), p5] ∧ Go T [] H2 H' ∧ H' aw = some (.lst (st.reverse.map V.str)) ∧ runB ks st (ds.drop i) = runB ks [f'] ds ∧ st.length ≤ 1 + 4 * i)
    ⟨none, [f'], rfl, u0, upd_same, rfl, by simp⟩
    (fun i σ H' _ ⟨_, _, _, g, _⟩ => SqT.of (g.tup ea2 (nn _))) (fun i x σ H3 H4 hi h y => ?_) (fun σ H3 h => ?_)
  · obtain ⟨p5, st, rfl, g3, e3, r3, ls⟩ := h
    obtain ⟨rfl, ex⟩ := y
    obtain ⟨wd, ew, hwd⟩ := (dx2.go g3).get ex
    have ed : ds.drop i = wd :: ds.drop (i + 1) := (List.drop_eq_getElem?_toList_append ..).trans (by rw [ew]; rfl)
    rw [ed] at r3
    cases st with
    | nil =>
      refine ⟨_, rfl, false, .inl ⟨_, SqL.of e3, rfl⟩, iteT ?_⟩
      exact hq false r3.symm _ g3
    | cons ft rs =>
    have el : (ft :: rs).reverse.map V.str = rs.reverse.map V.str ++ [.str ft] := by rw [List.reverse_cons, List.map_append] <;> rfl
    rw [el] at e3
    have hD4 := hD.go g3
    refine ⟨_, rfl, true, .inl ⟨_, SqL.of e3, by simp⟩, iteF ?_⟩
    refine ⟨_, rfl, _, rfl, _, rfl, aw, _, _, _, rfl, rfl, SqL.of e3, atI_last _ _, _, rfl, D, ks, ft, x, [], wd, rfl, hwd, hA.b, hD4, _, rfl, ?_⟩
    have r4 : (okD ks ft wd && runB ks (nxtD ks wd ++ rs) (ds.drop (i + 1))) = runB ks [f'] ds := r3
    cases c3 : okD ks ft wd with
    | false =>
      refine iteT ?_
      rw [c3, Bool.false_and] at r4
      exact hq false r4.symm _ g3
    | true =>
    refine iteF ?_
    rw [c3, Bool.true_and] at r4
    rw [List.length_cons] at ls
    refine ⟨_, rfl, .inl ⟨rfl, _, SqL.of e3⟩, aw, _, .str ft, rfl, rfl, e3, by rw [List.length_append]; simp, ?_⟩
    have e5 : (rs.reverse.map V.str ++ [V.str ft]).dropLast = rs.reverse.map V.str := List.dropLast_concat
    rw [e5]
    have g5 : Go T [] H2 (upd H4 aw (.lst (rs.reverse.map V.str))) := g3.over haw e3 (fun _ z => by cases z)
    have e6 : upd H4 aw (.lst (rs.reverse.map V.str)) aw = some (.lst (rs.reverse.map V.str)) := upd_same
    generalize upd H4 aw (.lst (rs.reverse.map V.str)) = H5 at *
    refine ⟨rfl, _, rfl, ?_⟩
    obtain ⟨wk, rfl, c4⟩ := okD_key c3
    rw [nxtD_k] at r4
    cases wk with
    | inl z =>
      have : ft = "number" := of_decide_eq_true c4
      subst this
      refine iteF ?_
      exact ⟨_, rs, rfl, g5, e6, r4, by omega⟩
    | inr x =>
      cases hwd
      obtain ⟨h1, p, m, h2, h3, h4', h5, h6⟩ := ok_names hA.b c4
      refine if_true_of (by simp [h1]) ?_
      have hxn : x ∈ namesM (rowsM ks) := List.mem_map.mpr ⟨_, h2, h3⟩
      refine ⟨_, rfl, .inl ⟨rfl, _, SqL.of e6⟩, _, rfl, _, rfl, D, x, ks, rfl, hD.go g5, hxn, fun kd2 p2 m2 fv q1 q2 q3 => ?_⟩
      obtain ⟨fl, rfl, ef, _, lf⟩ := flds_dv (rows_maker hA.b q1) q3
      have fe : flK ks x = flds m2 := by rw [← q2]; exact flK_eq (kinds_names hA.b).1 q1
      refine ⟨fl, _, rfl, SqT.of ef, fun r hr' => ?_⟩
      have u6 := Go.new (T := T) (M := []) (o := .tup ((flds m2).map V.str).reverse) hr'
      have e7 := u6.lst e6 (nn _)
      refine ⟨aw, r, _, _, rfl, rfl, e7, SqT.of upd_same, by rw [List.length_reverse, List.length_map, List.length_map, List.length_reverse, sizeLine_eq]; omega, ?_⟩
      refine ⟨_, flK ks x ++ rs, rfl, (g5.trans u6).over haw e7 (fun _ z => by cases z), ?_, r4, by rw [List.length_append, fe]; omega⟩
      rw [upd_same, List.reverse_append, List.map_append, fe, List.map_reverse (l := flds m2)]
  · obtain ⟨p5, st, rfl, g3, e3, r3, ls⟩ := h
    rw [lx, List.drop_length, runB_nil] at r3
    refine ⟨_, rfl, !st.isEmpty, .inl ⟨_, SqL.of e3, by cases st <;> simp⟩, ?_⟩
    rw [Bool.not_not]
    exact hq _ r3.symm H3 g3
theorem ok_demand_treeX (F : Fun K "demand_tree" "demand_tree" s_demand_tree f fd) (XK' : Xc K mg "BadTree" CB) (Fk : Fnn P w K mg base CX0 12 "is_tree" ["kinds", "kind", "thing"] (sp_is_treeG T)) : FnOk P w K mg base (L2.CX P w) 13 f fd ["kinds", "kind", "words"] (sp_demand_treeX T CB) := by
  refine F.okX sc_demand_tree (fun vs H Q E h => ?_) (fun cdv A outer s H vs Q E hr h => ?_)
  · obtain ⟨_, _, _, _, _, rfl, _⟩ := h
    rfl
  obtain ⟨kv, tv, ks, f', d, rfl, hA, hT, qE, q⟩ := h
  refine ⟨_, pss_one (ps_if (pt_not (pt_val (pe_fn Fk hr (by decide) pass0 (pa_cons (pv 0) (pa_cons (pv 1) (pa_cons (pv 2) pa_nil)))))) (pss_one (ps_raiseX rfl XK' (takes_of rfl rfl rfl rfl))) pss_nil), ?_⟩
  refine ⟨_, rfl, _, rfl, _, rfl, kv, tv, ks, f', d, rfl, hA, hT, fun H' g' t' => ⟨_, rfl, ?_⟩⟩
  cases c : treeB ks f' d with
  | true => exact iteF (q c H' g' t')
  | false => exact iteT (qE c H' g' t')
end
end K2
set_option Elab.async false
set_option linter.all false
set_option maxRecDepth 100000
set_option maxHeartbeats 8000000
namespace K2
open PySem PySem.Spec PyProof.Rows L2 GxR NdefX GA SL RZ
variable [SL.LamT]
abbrev s_rank : Stmt := top 31
abbrev s_place : Stmt := top 30
abbrev s_ahead : Stmt := top 22
theorem sc_rank : FnScope ["number"] ["number"] (defScope s_rank) := ⟨rfl, rfl, rfl, by decide +kernel, rfl, by decide +kernel, by decide +kernel⟩
theorem sc_place : FnScope ["makers", "words", "size", "ranks", "word"] ["makers", "words"] (defScope s_place) := ⟨rfl, rfl, rfl, by decide +kernel, rfl, by decide +kernel, by decide +kernel⟩
theorem sc_ahead : FnScope ["kinds", "kind", "one", "other", "makers"] ["kinds", "kind", "one", "other"] (defScope s_ahead) := ⟨rfl, rfl, rfl, by decide +kernel, rfl, by decide +kernel, by decide +kernel⟩
def sp_rank (ks : List PyData) : Sp := fun vs H Q _ => ∃ z : Int, vs = [.int z] ∧ Q (.int (rkW ks (.inl z))) H
def sp_rankG : Sp := fun vs H Q _ => ∃ (ks : List PyData) (z : Int), vs = [.int z] ∧ Q (.int (rkW ks (.inl z))) H
def sp_place (T : List Addr) : Sp := fun vs H Q _ => ∃ (D : Addr) (tv : V) (ks : List PyData) (ws : List Key), vs = [.ref D, tv] ∧ kindsB (.tuple ks) = true ∧ MkD H D ks ∧ Dv [] H tv (.tuple (ws.map kD)) ∧ (∀ x, .inr x ∈ ws → x ∈ namesM (rowsM ks)) ∧ ws.length ≤ 400 ∧ Tabs T H ∧
  ∀ p l H', H' p = some (.tup [.int (sizeW ws), .ref l]) → H' l = some (.lst ((ws.map (rkW ks)).map V.int)) → Go T [] H H' → Tabs T H' → Q (.ref p) H'
/-- of whatever is no tree BadTree, else some truth -/
def sp_aheadX (T : List Addr) (CB : Addr) : Sp := fun vs H Q E => ∃ (kv av bv : V) (ks : List PyData) (f : Str) (da db : PyData), vs = [kv, .str f, av, bv] ∧ AskK T H kv ks f ∧ Dv [] H av da ∧ Dv [] H bv db ∧
  ((treeB ks f da && treeB ks f db) = false → ∀ H', Go T [] H H' → Tabs T H' → E (.ref CB) none H') ∧ ((treeB ks f da && treeB ks f db) = true → ∀ b H', Go T [] H H' → Tabs T H' → Q (.bl b) H')
theorem run_names {ks : List PyData} {ws : List Key} {s t : List Str} (h : run ks s ws = some t) {x : Str} (hx : .inr x ∈ ws) : x ∈ namesM (rowsM ks) := by
  induction ws generalizing s with
  | nil => cases hx
  | cons w ws ih =>
    obtain ⟨f, r, rfl, c, h1⟩ := run_cons h
    rcases List.mem_cons.mp hx with e | e
    · subst e
      simp only [okW, Bool.and_eq_true, decide_eq_true_eq] at c
      exact c.1.2
    · exact ih h1 e
def keepM : Key → Option Key
  | .inl _ => none
  | .inr x => some (.inr x)
theorem size_next {ws : List Key} {i : Nat} {w : Key} (h : ws[i]? = some w) : (ws.take (i + 1)).filter isM = (ws.take i).filter isM ++ (if isM w = true then [w] else []) := by
  rw [List.take_add_one, h, Option.toList_some, List.filter_append]
  congr 1
  cases w <;> rfl
section
variable {P : Program} {w : World} {K : PySem.W.Frag} {mg : Str → Option Value} {base : Heap} {f c Pt CK CR CB : Addr} {fd : FuncData} {T : List Addr}
theorem ok_rank (F : Fun K "_rank" "_rank" s_rank f fd) : FnOk P w K mg base CX0 1 f fd ["number"] sp_rankG := by
  refine F.ok sc_rank (fun vs H Q E h => ?_) (fun cdv A outer s H vs Q E hr h => ?_)
  · obtain ⟨_, _, rfl, _⟩ := h
    rfl
  obtain ⟨ks, z, rfl, q⟩ := h
  refine ⟨_, pss_one (ps_ret (pe_ifExp (pt_cmpR op_gt (pv 0) pe_int (nomark _)) (pe_op op_sub (pe_op op_mul pe_int (pv 0)) pe_int) (pe_op op_mul (pe_un un_neg pe_int) (pv 0)))), ?_⟩
  refine ⟨_, rfl, _, _, rfl, rfl, _, rfl, ?_⟩
  have q' : Q (.int (if 0 < z then 2 * z - 1 else -2 * z)) H := q
  by_cases c1 : 0 < z
  · rw [if_pos c1] at q'
    refine if_true_of (decide_eq_true c1) ?_
    exact ⟨_, rfl, _, _, rfl, rfl, .inl ⟨by decide, by decide⟩, _, _, rfl, rfl, q'⟩
  · rw [if_neg c1] at q'
    refine if_false_of (decide_eq_false c1) ?_
    exact ⟨_, rfl, _, rfl, _, _, rfl, rfl, .inl ⟨by decide, by decide⟩, q'⟩
theorem ok_place (F : Fun K "place_in_sequence" "place_in_sequence" s_place f fd) (B : Bl mg) (Fr : Fnn P w K mg base CX0 1 "_rank" ["number"] sp_rankG) : FnOk P w K mg base CX0 2 f fd ["makers", "words"] (sp_place T) := by
  have nd := sc_place.nd
  refine F.ok sc_place (fun vs H Q E h => ?_) (fun cdv A outer s H vs Q E hr h => ?_)
  · obtain ⟨_, _, _, _, rfl, _⟩ := h
    rfl
  obtain ⟨D, tv, ks, ws, rfl, hk, hD, hv, hn, hl, ht, q⟩ := h
  have hu : (A.deeper (envOfC "place_in_sequence" (defScope s_place) s.heap.objs.size f cdv)).units + 1 < cLine := by
    have := hr.un
    omega
  refine ⟨_, pss_cons (ps_set (i := 2) nd rfl (.inl rfl) (pe_lenq B (pe_lc (own := [("word", 4)]) (g := gName 4) (tt := _) (te := tVar 4) rfl nd (pi_tup (pv 1)) (blkOk_by (own := [("word", 4)]) (N := ["makers", "words", "size", "ranks", "word"]) (sc := defScope s_place) (by decide +kernel))
      (fun _ _ _ _ _ => pg_name (i := 4) nd rfl (.inl rfl)) (fun _ _ _ _ _ => pts_one (pt_val (pe_isi_str B (pv 4)))) (fun _ _ _ _ _ => pv 4))))
    (pss_cons (ps_setLc (i := 3) (own := [("word", 4)]) (g := gName 4) (tt := tYes) (te := tIf (tB (tCB (rIsiD "str" isStr) (tCons (tVar 4) (tCons (tC (.ty "str")) tNil)))) (tOp (rIxT K) (tDGet (tVar 0) (tVar 4)) (tC (.int 1))) (tCall sp_rankG [] E0 (tCons (tVar 4) tNil))) rfl nd rfl rfl (sw_true rfl rfl rfl (by decide +kernel)) (pi_tup (pv 1)) (blkOk_by (own := [("word", 4)]) (N := ["makers", "words", "size", "ranks", "word"]) (sc := defScope s_place) (by decide +kernel))
      (fun _ _ _ _ _ => pg_name (i := 4) nd rfl (.inl rfl)) (fun _ _ _ _ _ => pts_nil) (fun _ _ _ _ _ => pe_ifExp (pt_val (pe_isi_str B (pv 4))) (pe_ix ix_tup (pe_dget (by exact hu) (pv 0) (pv 4) (fun _ _ => rfl)) pe_int (fun _ _ => rfl)) (pe_fn Fr hr (by decide) pass0 (pa_cons (pv 4) pa_nil))))
    (pss_one (ps_ret (pe_tup (pa_cons (pv 2) (pa_cons (pv 3) pa_nil)))))), ?_⟩
  have nn : ∀ b : Addr, b ∉ ([] : List Addr) := fun b => List.not_mem_nil
  obtain ⟨a, xs, rfl, ea, _, dx⟩ := dv_tup hv
  have exs := of_words dx
  subst exs
  refine ⟨_, rfl, a, rfl, ⟨_, SqT.of ea⟩, fun L1 hL1 => ?_⟩
  refine lc_it (n := (ws.map kV).length) walk_tup (fun j H' => Go T [] H H' ∧ H' L1 = some (.lst (((ws.take j).filter isM).map kV))) ⟨Go.new hL1, by rw [List.take_zero]; exact upd_same⟩ (fun j H' _ h => SqT.of (h.1.tup ea (nn _))) (fun j v H5 H6 hj h y => ?_) (fun H5 h => ?_)
  · obtain ⟨g5, ac⟩ := h
    obtain ⟨rfl, ex⟩ := y
    rw [List.getElem?_map] at ex
    obtain ⟨wd, ew, rfl⟩ := Option.map_eq_some_iff.mp ex
    rw [List.length_map] at hj
    have nx := size_next ew
    have la : ((ws.take j).filter isM).length ≤ j := Nat.le_trans (List.length_filter_le _ _) (by rw [List.length_take]; omega)
    cases wd with
    | inl z =>
      refine ⟨rfl, _, rfl, _, [], _, rfl, .int z, _, rfl, iteF ⟨g5, ?_⟩⟩
      rw [nx, if_neg (by simp [isM]), List.append_nil]
      exact ac
    | inr x =>
      refine ⟨rfl, _, rfl, _, [], _, rfl, .str x, _, rfl, iteT ⟨_, rfl, _, ac, by rw [List.length_map, sizeLine_eq]; omega, g5.over hL1 ac (fun _ z => by cases z), ?_⟩⟩
      rw [upd_same, nx, if_pos (show isM (.inr x) = true from rfl), List.map_append]
      rfl
  obtain ⟨g5, ac⟩ := h
  rw [List.length_map, List.take_length] at ac
  refine ⟨L1, _, rfl, .inl (SqL.of ac), ?_⟩
  have ls : (((ws.filter isM).map kV).length : Int) = (sizeW ws : Int) := by rw [List.length_map] <;> rfl
  rw [ls]
  have ea5 := g5.tup ea (nn _)
  have hD5 := hD.go g5
  refine ⟨_, rfl, a, rfl, ⟨_, SqT.of ea5⟩, fun L2 hL2 => ?_⟩
  refine lc_map (T := T) (fun j => V.int (rkW ks (ws.getD j (.inl 0)))) (walk_tup (xs := ws.map kV)) (fun H' g' => SqT.of (g'.tup ea5 (nn _))) (g5.tb ht) Go.refl hL2 (by rw [List.length_map, sizeLine_eq]; omega) (fun j v H6 H7 R hj g6 t6 y hR => ?_) (fun H6 g6 t6 ed6 => ?_)
  · obtain ⟨rfl, ey⟩ := y
    rw [List.getElem?_map] at ey
    obtain ⟨wd, ew, rfl⟩ := Option.map_eq_some_iff.mp ey
    rw [List.getD_eq_getElem?_getD, ew] at hR
    cases wd with
    | inl z =>
      refine ⟨rfl, _, rfl, _, [], _, rfl, .int z, _, rfl, iteF ?_⟩
      exact ⟨_, rfl, ks, z, rfl, hR _ Go.refl⟩
    | inr x =>
      obtain ⟨kd, p, m, t, fv, h1, h2, h3, h4, h5⟩ := (hD5.go g6).get (hn x (List.mem_of_getElem? ew))
      have e1 : plK ks x = p := by rw [← h2]; exact plK_eq (kinds_names hk).1 h1
      have hR' := hR _ Go.refl
      have e2 : rkW ks (.inr x) = (p : Int) := by show ((plK ks x : Nat) : Int) = _; rw [e1]
      refine ⟨rfl, _, rfl, _, [], _, rfl, .str x, _, rfl, iteT ?_⟩
      refine ⟨_, rfl, _, rfl, D, _, rfl, h3, t, _, 1, _, rfl, rfl, SqT.of h4, atI_nat (j := 1) rfl, ?_⟩
      have e3 : (Option.some (Sum.inr x : Key)).getD (.inl 0) = .inr x := rfl
      rw [e3, e2] at hR'
      exact hR'
  · have em : (List.range (ws.map kV).length).map (fun j => V.int (rkW ks (ws.getD j (.inl 0)))) = (ws.map (rkW ks)).map V.int := by
      rw [List.length_map, List.map_map]
      exact map_range_get fun j z h => by rw [List.getD_eq_getElem?_getD, h] <;> rfl
    rw [em] at ed6
    refine ⟨_, rfl, _, rfl, by show 2 ≤ sizeLine; decide, fun p hp => ?_⟩
    have u := Go.new (T := T) (M := []) (o := .tup [.int (sizeW ws), .ref L2]) hp
    exact q p L2 _ upd_same (u.lst ed6 (nn _)) ((g5.trans g6).trans u) (((g5.trans g6).trans u).tb ht)
theorem ints_dp {H : Hp} : ∀ l : List Int, DpAll K H (l.map V.int) (l.map .int)
  | [] => .nil
  | x :: r => .cons (.int x) (ints_dp r)
theorem ok_aheadX (F : Fun K "ahead" "ahead" s_ahead f fd) (Fd : Fnn P w K mg base (L2.CX P w) 13 "demand_tree" ["kinds", "kind", "words"] (sp_demand_treeX T CB)) (Fm : Fnn P w K mg base CX0 1 "makers_of" ["kinds"] (sp_makers_of T))
    (Fp : Fnn P w K mg base CX0 2 "place_in_sequence" ["makers", "words"] (sp_place T)) : FnOk P w K mg base (L2.CX P w) 14 f fd ["kinds", "kind", "one", "other"] (sp_aheadX T CB) := by
  have nd := sc_ahead.nd
  refine F.okX sc_ahead (fun vs H Q E h => ?_) (fun cdv A outer s H vs Q E hr h => ?_)
  · obtain ⟨_, _, _, _, _, _, _, rfl, _⟩ := h
    rfl
  obtain ⟨kv, av, bv, ks, f', da, db, rfl, hA, ha, hb, qE, q⟩ := h
  have hu64 : (A.deeper (envOfC "ahead" (defScope s_ahead) s.heap.objs.size f cdv)).units + 64 < cLine := by
    have := hr.un
    omega
  refine ⟨_, pss_cons (ps_expr (pe_fn Fd hr (by decide) (passes_call (takes_of rfl rfl rfl rfl) (fun _ _ _ _ h => h)) (pa_cons (pv 0) (pa_cons (pv 1) (pa_cons (pv 2) pa_nil)))))
    (pss_cons (ps_expr (pe_fn Fd hr (by decide) (passes_call (takes_of rfl rfl rfl rfl) (fun _ _ _ _ h => h)) (pa_cons (pv 0) (pa_cons (pv 1) (pa_cons (pv 3) pa_nil)))))
    (PSs.nox (pss_cons (ps_set (i := 4) nd rfl (.inl rfl) (pe_fn Fm hr (by decide) pass0 (pa_cons (pv 0) pa_nil)))
    (pss_one (ps_ret (pe_cmpR (op_ltD hu64) (pe_fn Fp hr (by decide) pass0 (pa_cons (pv 4) (pa_cons (pv 2) pa_nil))) (pe_fn Fp hr (by decide) pass0 (pa_cons (pv 4) (pa_cons (pv 3) pa_nil))) (nomark _))))))), ?_⟩
  have nn : ∀ b : Addr, b ∉ ([] : List Addr) := fun b => List.not_mem_nil
  refine ⟨_, rfl, _, rfl, _, rfl, kv, av, ks, f', da, rfl, hA, ha, fun c H1 g1 t1 => qE (by rw [c, Bool.false_and]) H1 g1 t1, fun ca H1 g1 t1 => ?_⟩
  have hA1 := hA.go g1
  refine ⟨_, rfl, _, rfl, _, rfl, kv, bv, ks, f', db, rfl, hA1, hb.go g1, fun c H2 g2 t2 => qE (by rw [c, Bool.and_false]) H2 (g1.trans g2) t2, fun cb H2 g2 t2 => ?_⟩
  have hA2 := hA1.go g2
  have qq := q (by rw [ca, cb] <;> rfl)
  obtain ⟨a, rfl, tA, lA⟩ := treeB_ws ca
  obtain ⟨b, rfl, tB, lB⟩ := treeB_ws cb
  refine ⟨_, rfl, _, ks, rfl, hA2.k, hA2.b, t2, fun D H3 hD0 hD g3 t3 => ?_⟩
  have g13 := (g1.trans g2).trans g3
  refine ⟨_, rfl, _, rfl, D, av, ks, a, rfl, hA.b, hD, ha.go g13, fun x hx => run_names tA hx, lA, t3, fun p1 l1 H4 ep1 el1 g4 t4 => ?_⟩
  refine ⟨_, rfl, _, rfl, D, bv, ks, b, rfl, hA.b, hD.go g4, hb.go (g13.trans g4), fun x hx => run_names tB hx, lB, t4, fun p2 l2 H5 ep2 el2 g5 t5 => ?_⟩
  refine ⟨pairD (sizeW a) (a.map (rkW ks)), pairD (sizeW b) (b.map (rkW ks)), ?_, ?_, pair_alike _ _ _ _, (fun e => by cases e), Nat.le_trans (pair_depth _ _) (by decide), ?_⟩
  · exact .tup (SqT.of (g5.tup ep1 (nn _))) (.cons (.int _) (.cons (.lst (SqL.of (g5.lst el1 (nn _))) (ints_dp _)) .nil))
  · exact .tup (SqT.of ep2) (.cons (.int _) (.cons (.lst (SqL.of el2) (ints_dp _)) .nil))
  · rw [pair_lt]
    exact qq _ H5 ((g13.trans g4).trans g5) t5
end
end K2
set_option Elab.async false
set_option linter.all false
set_option maxRecDepth 100000
set_option maxHeartbeats 8000000
namespace K2
open PySem PySem.Spec PyProof.Rows L2 GxR NdefX GA SL
variable [SL.LamT]
abbrev s_law_well : Stmt := top 41
abbrev s_law_draw : Stmt := top 42
theorem sc_law_well : FnScope ["script", "stir", "cell"] ["script"] (defScope s_law_well) := ⟨rfl, rfl, rfl, by decide +kernel, rfl, by decide +kernel, by decide +kernel⟩
theorem sc_law_draw : FnScope ["well", "many", "top"] ["well", "many"] (defScope s_law_draw) := ⟨rfl, rfl, rfl, by decide +kernel, rfl, by decide +kernel, by decide +kernel⟩
/-- the well at a, its numbers at l; drawn at most k times behind them -/
def WellAt (a l : Addr) (H : Hp) (k : Int) : Prop := ∃ (ns : List Int) (s c : Int), a ≠ l ∧ H a = some (.lst [.ref l, .int s, .int c]) ∧ H l = some (.lst (ns.map V.int)) ∧ 0 ≤ s ∧ s < 2147483647 ∧ 0 ≤ c ∧ c ≤ k
def sp_well (K : PySem.W.Frag) (T : List Addr) : Sp := fun vs H Q _ => ∃ (b : Addr) (ns : List Int), vs = [.ref b] ∧ SqL K H b (ns.map V.int) ∧ ns.length ≤ 1000000 ∧ Tabs T H ∧ ∀ a l H', H a = none → H l = none → WellAt a l H' 0 → Go T [] H H' → Tabs T H' → Q (.ref a) H'
def sp_draw (T : List Addr) : Sp := fun vs H Q _ => ∃ (a l : Addr) (k many : Int), vs = [.ref a, .int many] ∧ 0 < many ∧ many < 1073741824 ∧ k ≤ 1099511627776 ∧ WellAt a l H k ∧ Tabs T H ∧ ∀ i H', 0 ≤ i → i < many → WellAt a l H' (k + 1) → Go T [a, l] H H' → Tabs T H' → Q (.int i) H'
section
variable {P : Program} {w : World} {K : PySem.W.Frag} {mg : Str → Option Value} {base : Heap} {f c CK CN CT CR : Addr} {fd : FuncData} {T : List Addr}
theorem ok_law_well (F : Fun K "_law_well" "_law_well" s_law_well f fd) (B : Bl mg) : FnOk P w K mg base CX0 1 f fd ["script"] (sp_well K T) := by
  have nd := sc_law_well.nd
  refine F.ok sc_law_well (fun vs H Q E h => ?_) (fun cdv A outer s H vs Q E hr h => ?_)
  · obtain ⟨_, _, rfl, _⟩ := h
    rfl
  obtain ⟨b, ns, rfl, hb, hl, ht, q⟩ := h
  have nn : ∀ b : Addr, b ∉ ([] : List Addr) := fun b => List.not_mem_nil
  refine ⟨_, (pss_cons (ps_set (i := 1) nd rfl (Or.inl rfl) pe_int)
    (pss_cons (ps_for PassesOwn.never rfl (pi_list (pv 0)) (pg_name (i := 2) nd rfl (Or.inl rfl))
    (pss_one (ps_set (i := 1) nd rfl (Or.inl rfl) (pe_op op_mod (pe_toInt B (pe_op op_add (pe_op op_add (pe_op op_mul (pv 1) pe_int) (pe_op op_mod (pe_toInt B (pv 2)) pe_int)) pe_int)) pe_int))))
    (pss_one (ps_ret (pe_lst (pa_cons (pe_lc (own := [("cell", 2)]) (g := gName 2) (tt := _)  rfl nd (pi_list (pv 0)) (blkOk_by (own := [("cell", 2)]) (N := ["script", "stir", "cell"]) (sc := defScope s_law_well) (by decide +kernel))
        (fun _ _ _ _ _ => (pg_name (i := 2) nd rfl (Or.inl rfl))) (fun _ _ _ _ _ => pts_one (pt_cmpR op_gt (pv 2) (pe_op op_pow pe_int pe_int) (nomark _))) (fun _ _ _ _ _ => (pe_op op_sub (pe_toInt B (pv 2)) (pe_op op_pow pe_int pe_int)))) (pa_cons (pv 1) (pa_cons pe_int pa_nil)))))))), ?_⟩
  refine ⟨_, rfl, b, rfl, ⟨_, hb⟩, ?_⟩
  refine for_it (n := (ns.map V.int).length) walk_list (fun i σ H' => H' = H ∧ ∃ (s : Int) (p : Option V), σ = [some (.ref b), some (.int s), p] ∧ 0 ≤ s ∧ s < 2147483647) ⟨rfl, 7, none, rfl, by decide, by decide⟩ (fun i σ H' _ h => by rw [h.1]; exact hb) (fun i x σ H' H'' hi h y => ?_) (fun σ H' h => ?_)
  · obtain ⟨rfl, s1, p, rfl, a1, a2⟩ := h
    obtain ⟨rfl, ex⟩ := y
    rw [List.getElem?_map] at ex
    obtain ⟨z, _, rfl⟩ := Option.map_eq_some_iff.mp ex
    refine ⟨_, rfl, _, _, rfl, rfl, .inl ⟨by omega, by omega⟩, _, rfl, .inl ⟨_, rfl, _, _, rfl, rfl, (show (0 : Int) < 2147483629 by decide), _, _, rfl, rfl, _, _, rfl, rfl, .inl ⟨_, rfl, _, _, rfl, rfl, (show (0 : Int) < 2147483647 by decide), ?_⟩⟩⟩
    exact ⟨rfl, _, _, rfl, Int.emod_nonneg _ (by decide), Int.emod_lt_of_pos _ (by decide)⟩
  obtain ⟨rfl, s1, p, rfl, a1, a2⟩ := h
  refine ⟨_, rfl, b, rfl, ⟨_, hb⟩, fun D hD => ?_⟩
  refine lc_it walk_list (fun i H2 => Go T [] H' H2 ∧ ∃ zs : List Int, H2 D = some (.lst (zs.map V.int)) ∧ zs.length ≤ i) ⟨Go.new hD, [], upd_same, Nat.le_refl _⟩ (fun i H2 _ h => h.1.sqL hb) (fun i x H2 H3 hi h y => ?_) (fun H2 h => ?_)
  · obtain ⟨gg, zs, ez, lz⟩ := h
    obtain ⟨rfl, ex⟩ := y
    rw [List.getElem?_map] at ex
    obtain ⟨z, _, rfl⟩ := Option.map_eq_some_iff.mp ex
    rw [List.length_map] at hi
    refine ⟨rfl, _, rfl, _, _, rfl, rfl, ⟨by decide, by decide, by decide⟩, _, _, rfl, rfl, _, rfl, ?_⟩
    show if decide _ = true then _ else _
    split
    · refine ⟨_, rfl, .inl ⟨_, rfl, _, _, rfl, rfl, ⟨by decide, by decide, by decide⟩, _, _, rfl, rfl, ?_⟩⟩
      refine ⟨_, ez, by rw [List.length_map, sizeLine_eq]; omega, gg.over hD ez (fun _ z => by cases z), zs ++ [_], by rw [upd_same, List.map_append] <;> rfl, by rw [List.length_append, List.length_singleton]; omega⟩
    · exact ⟨gg, zs, ez, by omega⟩
  · obtain ⟨gg, zs, ez, lz⟩ := h
    refine ⟨_, rfl, by show 3 ≤ sizeLine; decide, fun p hp => ?_⟩
    have gn := Go.new (T := T) (M := []) (o := .lst [.ref D, .int s1, .int 0]) hp
    exact q p D _ (gg.al _ hp) hD ⟨zs, s1, 0, (ne_of_none ez hp).symm, upd_same, gn.lst ez (nn _), a1, a2, by decide, by decide⟩ (gg.trans gn) ((gg.trans gn).tb ht)
theorem ok_law_draw (F : Fun K "_law_draw" "_law_draw" s_law_draw f fd) (B : Bl mg) : FnOk P w K mg base CX0 1 f fd ["well", "many"] (sp_draw T) := by
  have nd := sc_law_draw.nd
  refine F.ok sc_law_draw (fun vs H Q E h => ?_) (fun cdv A outer s H vs Q E hr h => ?_)
  · obtain ⟨_, _, _, _, rfl, _⟩ := h
    rfl
  obtain ⟨a, l, k, many, rfl, m1, m2, hk, ⟨ns, s0, c0, hal, ea, el, s1, s2, c1, c2⟩, ht, q⟩ := h
  have nn : ∀ b : Addr, b ∉ ([] : List Addr) := fun b => List.not_mem_nil
  have hu : (A.deeper (envOfC "_law_draw" (defScope s_law_draw) s.heap.objs.size f cdv)).units < cLine := by
    have := hr.un
    omega
  refine ⟨_, (pss_cons (ps_if (pt_cmpR (op_neNil hu) (pe_ix ix_list (pv 0) pe_int (fun _ _ => rfl)) (pe_lst pa_nil) (nomark _)) (pss_cons (ps_set (i := 2) nd rfl (Or.inl rfl) (pe_ix ix_list (pe_ix ix_list (pv 0) pe_int (fun _ _ => rfl)) pe_int (fun _ _ => rfl)))
    (pss_cons (ps_if (pt_cmpR op_lt (pv 2) (pv 1) (nomark _)) (pss_one (ps_expr (pe_bm PySem.F.plainAttrs_list PySem.F.slot_list_pop PySem.F.type_list_pop mt_popAt (pe_ix ix_list (pv 0) pe_int (fun _ _ => rfl)) (pa_cons pe_int pa_nil)))) (pss_one (ps_asg (pe_op op_fdivN (pv 2) (pv 1)) (pg_sub (pe_ix ix_list (pv 0) pe_int (fun _ _ => rfl)) pe_int set_list))))
    (pss_one (ps_ret (pe_op op_mod (pe_toInt B (pv 2)) (pv 1)))))) pss_nil)
    (pss_cons (ps_asg (pe_op op_add (pe_ix ix_list (pv 0) pe_int (fun _ _ => rfl)) pe_int) (pg_sub (pv 0) pe_int set_list))
    (pss_cons (ps_asg (pe_op op_mod (pe_toInt B (pe_op op_add (pe_op op_add (pe_op op_mul (pe_ix ix_list (pv 0) pe_int (fun _ _ => rfl)) pe_int) (pe_op op_mul (pe_op op_mul pe_int (pe_ix ix_list (pv 0) pe_int (fun _ _ => rfl))) (pe_ix ix_list (pv 0) pe_int (fun _ _ => rfl)))) pe_int)) pe_int) (pg_sub (pv 0) pe_int set_list))
    (pss_one (ps_ret (pe_op op_mod (pe_op op_fdiv (pe_op op_mod (pe_toInt B (pe_op op_mul (pe_ix ix_list (pv 0) pe_int (fun _ _ => rfl)) (pe_ix ix_list (pv 0) pe_int (fun _ _ => rfl)))) pe_int) pe_int) (pv 1))))))), ?_⟩
  have ma : a ∈ [a, l] := by simp
  have ml : l ∈ [a, l] := by simp
  refine ⟨_, rfl, a, _, 0, _, rfl, rfl, SqL.of ea, rfl, by show 0 ≤ sizeLine; omega, fun e1 he1 => ?_⟩
  have g1 : Go T [a, l] H (upd H e1 (.lst [])) := Go.new he1
  have na : a ≠ e1 := ne_of_none ea he1
  have nl : l ≠ e1 := ne_of_none el he1
  have ea1 : upd H e1 (.lst []) a = some (.lst [.ref l, .int s0, .int c0]) := by rw [upd_ne na]; exact ea
  have el1 : upd H e1 (.lst []) l = some (.lst (ns.map V.int)) := by rw [upd_ne nl]; exact el
  refine ⟨l, e1, ns.map V.int, rfl, rfl, .inl ⟨SqL.of el1, SqL.of upd_same⟩, _, rfl, ?_⟩
  cases ns with
  | nil =>
    refine iteF ?_
    refine ⟨_, rfl, a, _, 2, _, rfl, rfl, SqL.of ea1, rfl, _, _, rfl, rfl, _, rfl, a, _, 2, 2, rfl, rfl, ea1, rfl, ?_⟩
    have ea2 : upd (upd H e1 (.lst [])) a (.lst [.ref l, .int s0, .int (c0 + 1)]) a = some (.lst [.ref l, .int s0, .int (c0 + 1)]) := upd_same
    refine ⟨_, rfl, a, _, 1, _, rfl, rfl, SqL.of ea2, rfl, _, _, rfl, rfl, .inl ⟨by omega, by omega⟩, _, rfl, a, _, 2, _, rfl, rfl, SqL.of ea2, rfl, _, _, rfl, rfl, .inl ⟨by decide, by decide⟩, _, rfl, a, _, 2, _, rfl, rfl, SqL.of ea2, rfl, _, _, rfl, rfl, .inl ⟨by omega, by omega⟩, _, _, rfl, rfl, _, _, rfl, rfl,
      .inl ⟨_, rfl, _, _, rfl, rfl, (show (0 : Int) < 2147483647 by decide), _, rfl, a, _, 1, 1, rfl, rfl, ea2, rfl, ?_⟩⟩
    have b1 := Int.emod_nonneg (s0 * 48271 + 69621 * (c0 + 1) * (c0 + 1) + 40692) (show (2147483647 : Int) ≠ 0 by decide)
    have b2 := Int.emod_lt_of_pos (s0 * 48271 + 69621 * (c0 + 1) * (c0 + 1) + 40692) (show (0 : Int) < 2147483647 by decide)
    refine ⟨_, rfl, a, _, 1, _, rfl, rfl, SqL.of upd_same, rfl, _, rfl, a, _, 1, _, rfl, rfl, SqL.of upd_same, rfl, _, _, rfl, rfl, .inl ⟨by omega, by omega⟩, .inl ⟨_, rfl, _, _, rfl, rfl, (show (0 : Int) < 2147483629 by decide), _, _, rfl, rfl, ⟨by decide, by decide⟩, _, rfl, _, _, rfl, rfl, m1, ?_⟩⟩
    have G := (g1.trans (Go.set (T := T) (M := [a, l]) (o := .lst [.ref l, .int s0, .int (c0 + 1)]) ea1 (fun _ z => by cases z) ma)).trans (Go.set (T := T) (M := [a, l]) (o := .lst ([V.ref l, .int s0, .int (c0 + 1)].set 1 (.int ((s0 * 48271 + 69621 * (c0 + 1) * (c0 + 1) + 40692) % 2147483647)))) ea2 (fun _ z => by cases z) ma)
    refine q _ _ (Int.emod_nonneg _ (by omega)) (Int.emod_lt_of_pos _ m1) ⟨[], _, _, hal, upd_same, ?_, b1, b2, by omega, by omega⟩ G (G.tb ht)
    rw [upd_ne hal.symm, upd_ne hal.symm]
    exact el1
  | cons z r =>
    refine iteT ?_
    refine ⟨_, rfl, a, _, 0, _, rfl, rfl, SqL.of ea1, rfl, l, _, 0, .int z, rfl, rfl, SqL.of el1, atI_nat (j := 0) rfl, ?_⟩
    refine ⟨_, rfl, _, rfl, _, _, rfl, rfl, _, rfl, ?_⟩
    have hix : ixN ((z :: r).map V.int).length 0 = some 0 := by
      unfold ixN
      rw [if_pos (by decide), if_pos (by rw [List.length_map, List.length_cons]; omega)] <;> rfl
    by_cases hc : z < many
    · refine if_true_of (decide_eq_true hc) ?_
      refine ⟨_, rfl, a, _, 0, _, rfl, rfl, SqL.of ea1, rfl, .inl ⟨rfl, _, SqL.of el1⟩, l, _, 0, 0, .int z, rfl, rfl, el1, by decide, by decide, ?_, rfl, ?_⟩
      · exact (ixN_seq hix).1
      refine ⟨_, rfl, .inl ⟨_, rfl, _, rfl, _, _, rfl, rfl, m1, ?_⟩⟩
      have G := g1.trans (Go.set (T := T) (M := [a, l]) (o := .lst (r.map V.int)) el1 (fun _ z => by cases z) ml)
      exact q _ _ (Int.emod_nonneg _ (by omega)) (Int.emod_lt_of_pos _ m1) ⟨r, s0, c0, hal, by rw [upd_ne hal]; exact ea1, upd_same, s1, s2, c1, by omega⟩ G (G.tb ht)
    · refine if_false_of (decide_eq_false hc) ?_
      refine ⟨_, rfl, _, rfl, _, _, rfl, rfl, ⟨by omega, by omega⟩, _, rfl, a, _, 0, _, rfl, rfl, SqL.of ea1, rfl, l, _, 0, 0, rfl, rfl, el1, ?_, ?_⟩
      · exact hix
      refine ⟨_, rfl, .inl ⟨_, rfl, _, rfl, _, _, rfl, rfl, m1, ?_⟩⟩
      have G := g1.trans (Go.set (T := T) (M := [a, l]) (o := .lst ((V.int (z.fdiv many)) :: r.map V.int)) el1 (fun _ z => by cases z) ml)
      exact q _ _ (Int.emod_nonneg _ (by omega)) (Int.emod_lt_of_pos _ m1) ⟨z.fdiv many :: r, s0, c0, hal, by rw [upd_ne hal]; exact ea1, upd_same, s1, s2, c1, by omega⟩ G (G.tb ht)
end
end K2
set_option Elab.async false
set_option linter.all false
set_option maxRecDepth 100000
set_option maxHeartbeats 8000000
namespace SL
open PySem PySem.Spec PyProof.Rows L2 GxR NdefX GA
variable [SL.LamT]
def rStrI : List V → Hp → VK → Prop := fun xs H Q => ∃ i, xs = [.int i] ∧ i.natAbs.log2 < 1920 ∧ Q (.str (toString i)) H
theorem pe_strI {X : Cx} {a : Expr} {ta : TE} {p pos : Pos} (B : Bl X.mg) (ha : PE X a ta) (h1 : Gl X "str" := by rfl) (he : starEach (a :: []) X.env = (false, eval a X.env) :: starEach [] X.env := by rfl) : PE X (.Call (.Name "str" p) [a] [] pos) (tCB rStrI (tCons ta tNil)) :=
  pe_callTy call_str_int h1 B.str (by decide +kernel) (pa_cons ha pa_nil he) (by decide) (by decide) he
def rCatS : R2 := fun x y H Q => ∃ i j, x = .str i ∧ y = .str j ∧ i.length + j.length ≤ sizeLine ∧ Q (.str (i ++ j)) H
/-- letters and digits alone -/
def an (x : Str) : Bool := x.cps.toList.all anC
theorem an_mem {x : Str} (h : an x = true) : ∀ c ∈ x.cps.toList, anC c = true := fun c hc => List.all_eq_true.mp h c hc
theorem an_of {x : Str} (h : ∀ c ∈ x.cps.toList, anC c = true) : an x = true := List.all_eq_true.mpr h
theorem an_asc {x : Str} (h : an x = true) : asc x = true := asc_of fun c hc => anC_lt (an_mem h c hc)
theorem an_add {x y : Str} (h : an x = true) (k : an y = true) : an (x ++ y) = true := an_of fun c hc => by
  rw [cps_add] at hc
  exact (List.mem_append.mp hc).elim (an_mem h c) (an_mem k c)
theorem an_one {x : Str} {c : Nat} (h : an x = true) (hc : c ∈ x.cps.toList) : an ⟨#[c]⟩ = true := an_of fun d hd => by
  have : d = c := by simpa using hd
  rw [this]
  exact an_mem h c hc
theorem an_cut {z : Str} (h : an z = true) (lo hi : Option Int) : an (cutS z lo hi) = true := an_of fun c hc => by
  rw [cutS_list] at hc
  exact an_mem h c (List.mem_of_mem_drop (List.mem_of_mem_take hc))
theorem join_an : ∀ {ys : List Str}, (∀ y ∈ ys, y.length ≤ 1 ∧ an y = true) → (Str.join ⟨#[]⟩ ys).length ≤ ys.length ∧ an (Str.join ⟨#[]⟩ ys) = true
  | [], _ => ⟨Nat.le_refl _, rfl⟩
  | y :: r, h => by
    have ih := join_an fun z hz => h z (List.mem_cons_of_mem _ hz)
    have hy := h y List.mem_cons_self
    rw [show Str.join ⟨#[]⟩ (y :: r) = y ++ Str.join ⟨#[]⟩ r from join_nil_cons y r]
    refine ⟨?_, an_add hy.2 ih.2⟩
    rw [strLen_append, List.length_cons]
    omega
theorem an_400 : (List.range 400).all (fun k : Nat => an (Str.ofString (toString (k : Int)))) = true := by decide +kernel
theorem cases_123 : (List.range 123).all (fun c => !loC c || (decide (Txt.upper ⟨#[c]⟩ = (⟨#[c - 32]⟩ : Str)) && upC (c - 32))) = true := by decide +kernel
theorem cases_91 : (List.range 91).all (fun c => !upC c || (decide (Txt.lower ⟨#[c]⟩ = (⟨#[c + 32]⟩ : Str)) && loC (c + 32))) = true := by decide +kernel
/-- a text of one small letter -/
def low1 (x : Str) : Prop := ∃ c, x = ⟨#[c]⟩ ∧ loC c = true
def high1 (x : Str) : Prop := ∃ c, x = ⟨#[c]⟩ ∧ upC c = true
theorem up_low {x : Str} (h : low1 x) : high1 (Txt.upper x) := by
  obtain ⟨c, rfl, hc⟩ := h
  have lt : c < 123 := by
    simp only [loC, Bool.and_eq_true, decide_eq_true_eq] at hc
    omega
  have := List.all_eq_true.mp cases_123 c (List.mem_range.mpr lt)
  rw [hc] at this
  simp only [Bool.not_true, Bool.false_or, Bool.and_eq_true, decide_eq_true_eq] at this
  exact ⟨c - 32, this.1, this.2⟩
theorem lo_high {c : Nat} (hc : upC c = true) : low1 (Txt.lower ⟨#[c]⟩) := by
  have lt : c < 91 := by
    simp only [upC, Bool.and_eq_true, decide_eq_true_eq] at hc
    omega
  have := List.all_eq_true.mp cases_91 c (List.mem_range.mpr lt)
  rw [hc] at this
  simp only [Bool.not_true, Bool.false_or, Bool.and_eq_true, decide_eq_true_eq] at this
  exact ⟨c + 32, this.1, this.2⟩
theorem low1.len {x : Str} (h : low1 x) : x.length = 1 := by
  obtain ⟨c, rfl, _⟩ := h
  rfl
theorem high1.len {x : Str} (h : high1 x) : x.length = 1 := by
  obtain ⟨c, rfl, _⟩ := h
  rfl
theorem high1.an {x : Str} (h : high1 x) : an x = true := by
  obtain ⟨c, rfl, hc⟩ := h
  refine an_of fun d hd => ?_
  have : d = c := by simpa using hd
  rw [this]
  simp only [anC, hc, Bool.true_or]
theorem low26_lo : (("abcdefghijklmnopqrstuvwxyz" : Str).cps.toList).all loC = true := by decide +kernel
/-- a great letter and up to nine letters and digits behind it are a name -/
theorem high_mk {u bd : Str} (hu : high1 u) (ha : an bd = true) (hl : bd.length ≤ 9) : highS (u ++ bd) = true := by
  have hn := hu.an
  have ln := hu.len
  obtain ⟨c, rfl, hc⟩ := hu
  have e : ((⟨#[c]⟩ : Str) ++ bd).cps.toList = c :: bd.cps.toList := by rw [cps_add] <;> rfl
  have l1 : ((⟨#[c]⟩ : Str) ++ bd).length = 1 + bd.length := by rw [strLen_append, ln]
  have hk : kept ((⟨#[c]⟩ : Str) ++ bd) = false := by
    have first : ∀ {d : Nat} {r : List Nat} {s : Str}, s.cps.toList = d :: r → upC d = false → (⟨#[c]⟩ : Str) ++ bd ≠ s := fun {d r s} hs hd z => by
      rw [← z, e] at hs
      cases hs
      rw [hc] at hd
      cases hd
    simp only [kept, Bool.or_eq_false_iff, decide_eq_false_iff_not]
    exact ⟨⟨first (s := "fun") (d := 102) rfl rfl, first (s := "kind") (d := 107) rfl rfl⟩, first (s := "number") (d := 110) rfl rfl⟩
  have ha2 := an_add hn ha
  unfold highS nameS
  rw [e, l1, hk]
  have hall : (c :: bd.cps.toList).all anC = true := by
    have : ((⟨#[c]⟩ : Str) ++ bd).cps.toList.all anC = true := ha2
    rw [e] at this
    exact this
  simp only [hall, hc, Bool.true_or, Bool.and_true, Bool.not_false]
  rw [decide_eq_true (by omega), decide_eq_true (by omega)] <;> rfl
theorem high_parts {x : Str} (h : highS x = true) : an x = true ∧ 1 ≤ x.length ∧ x.length ≤ 10 ∧ ∃ c r, x.cps.toList = c :: r ∧ upC c = true := by
  simp only [highS, nameS, Bool.and_eq_true, decide_eq_true_eq] at h
  obtain ⟨⟨⟨⟨⟨h1, h2⟩, h3⟩, _⟩, _⟩, h5⟩ := h
  refine ⟨h3, h1, h2, ?_⟩
  cases e : x.cps.toList with
  | nil => rw [e] at h5; cases h5
  | cons c r =>
    rw [e] at h5
    exact ⟨c, r, rfl, h5⟩
end SL
namespace K2
open PySem PySem.Spec PyProof.Rows L2 GxR NdefX GA SL
variable [SL.LamT]
def low26 : Str := "abcdefghijklmnopqrstuvwxyz"
def up26 : Str := "ABCDEFGHIJKLMNOPQRSTUVWXYZ"
def an62 : Str := (low26 ++ up26) ++ "0123456789"
theorem upper26 : Txt.upper low26 = up26 := by
  rw [PyProof.Rows.upper_ascii (by decide +kernel)]
  decide +kernel
abbrev s_law_name : Stmt := top 43
theorem sc_law_name : FnScope ["well", "taken", "high", "low", "signs", "head", "body", "old", "at", "found", "k"] ["well", "taken", "high"] (defScope s_law_name) := ⟨rfl, rfl, rfl, by decide +kernel, rfl, by decide +kernel, by decide +kernel⟩
def nmOk (x : Str) : Prop := highS x = true
theorem nmOk.old {x : Str} (h : nmOk x) : asc x = true ∧ 1 ≤ x.length ∧ x.length ≤ 11 := by
  obtain ⟨h1, h2, h3, _⟩ := high_parts h
  exact ⟨an_asc h1, h2, by omega⟩
def sp_name (T : List Addr) : Sp := fun vs H Q _ => ∃ (a l t : Addr) (k : Int) (xs : List Str), vs = [.ref a, .ref t, .bl true] ∧ k ≤ 549755813888 ∧ WellAt a l H k ∧ t ≠ a ∧ t ≠ l ∧ H t = some (.lst (xs.map V.str)) ∧ (∀ x ∈ xs, nmOk x) ∧ xs.length < 100 ∧ Tabs T H ∧
  ∀ x H', nmOk x → x ∉ xs → WellAt a l H' (k + 30) → Go T [a, l] H H' → Tabs T H' → Q (.str x) H'
theorem at_ok {α : Type} {xs : List α} {i : Int} (h0 : 0 ≤ i) (h1 : i < (xs.length : Int)) : ∃ c, atI xs i = some c ∧ c ∈ xs := by
  obtain ⟨j, rfl⟩ : ∃ j : Nat, i = (j : Int) := ⟨i.toNat, by omega⟩
  have hj : j < xs.length := by omega
  exact ⟨xs[j], atI_nat (List.getElem?_eq_getElem hj), List.getElem_mem hj⟩
theorem at3 {i : Int} (h0 : 0 ≤ i) (h1 : i < 3) : ∃ m : Int, atI [V.int 2, V.int 4, V.int 10] i = some (.int m) ∧ 2 ≤ m ∧ m ≤ 10 := by
  have : i = 0 ∨ i = 1 ∨ i = 2 := by omega
  rcases this with rfl | rfl | rfl
  · exact ⟨2, rfl, by decide, by decide⟩
  · exact ⟨4, rfl, by decide, by decide⟩
  · exact ⟨10, rfl, by decide, by decide⟩
theorem at2 {i : Int} {x y : Str} {p : Str → Prop} (h0 : 0 ≤ i) (h1 : i < 2) (hx : p x) (hy : p y) : ∃ z, atI [V.str x, V.str y] i = some (.str z) ∧ p z := by
  have : i = 0 ∨ i = 1 := by omega
  rcases this with rfl | rfl
  · exact ⟨x, rfl, hx⟩
  · exact ⟨y, rfl, hy⟩
theorem WellAt.up {a l : Addr} {H : Hp} {k j : Int} (h : WellAt a l H k) (hj : k ≤ j) : WellAt a l H j := by
  obtain ⟨ns, s, c, h1, h2, h3, h4, h5, h6, h7⟩ := h
  exact ⟨ns, s, c, h1, h2, h3, h4, h5, h6, by omega⟩
theorem WellAt.go {a l : Addr} {T : List Addr} {H H' : Hp} {k : Int} (h : WellAt a l H k) (g : Go T [] H H') : WellAt a l H' k := by
  obtain ⟨ns, s, c, h1, h2, h3, h4⟩ := h
  exact ⟨ns, s, c, h1, g.lst h2 (by simp), g.lst h3 (by simp), h4⟩
theorem WellAt.ne {a l p : Addr} {H : Hp} {k : Int} (h : WellAt a l H k) (hp : H p = none) : p ≠ a ∧ p ≠ l := by
  obtain ⟨ns, s, c, h1, h2, h3, h4⟩ := h
  exact ⟨(ne_of_none h2 hp).symm, (ne_of_none h3 hp).symm⟩
theorem nin {p a l : Addr} (h : p ≠ a ∧ p ≠ l) : p ∉ [a, l] := by simp [h.1, h.2]
section
variable {P : Program} {w : World} {K : PySem.W.Frag} {mg : Str → Option Value} {base : Heap} {f c CK CN CT CR : Addr} {fd : FuncData} {T : List Addr}
theorem str_ok {i : Nat} (h : i < 400) : asc (Str.ofString (toString (i : Int))) = true ∧ (Str.ofString (toString (i : Int))).length ≤ 3 := by
  have := List.all_eq_true.mp str_400 i (List.mem_range.mpr h)
  simp only [Bool.and_eq_true, decide_eq_true_eq] at this
  exact this
theorem append_inj {x y z : Str} (h : x ++ y = x ++ z) : y = z := by
  have h1 := congrArg (fun s : Str => s.cps.toList) h
  simp only [cps_add] at h1
  have h2 := List.append_cancel_left h1
  cases y
  cases z
  congr 1
  exact Array.toList_inj.mp h2
theorem nd_le : ∀ {l xs : List Str}, l.Nodup → l ⊆ xs → l.length ≤ xs.length
  | [], _, _, _ => Nat.zero_le _
  | a :: l, xs, h, s => by
    obtain ⟨h1, h2⟩ := List.nodup_cons.mp h
    have ha : a ∈ xs := s List.mem_cons_self
    have ih := nd_le (l := l) (xs := xs.erase a) h2 fun b hb => (List.mem_erase_of_ne fun z => h1 (by rw [← z]; exact hb)).mpr (s (List.mem_cons_of_mem _ hb))
    rw [List.length_erase_of_mem ha] at ih
    have := List.length_pos_of_mem ha
    rw [List.length_cons]
    omega
/-- fewer than a hundred names leave one of a hundred -/
theorem pigeon {hd : Str} {xs : List Str} (hx : xs.length < 100) : ∃ i : Nat, i < 100 ∧ hd ++ Str.ofString (toString (i : Int)) ∉ xs := by
  refine Classical.byContradiction fun no => ?_
  have all : ∀ i : Nat, i < 100 → hd ++ Str.ofString (toString (i : Int)) ∈ xs := fun i hi => Classical.byContradiction fun z => no ⟨i, hi, z⟩
  have nd : ((List.range 100).map fun i : Nat => hd ++ Str.ofString (toString (i : Int))).Nodup := by
    have e : ((List.range 100).map fun i : Nat => hd ++ Str.ofString (toString (i : Int))) = (((List.range 100).map fun k : Nat => Str.ofString (toString (k : Int))).map fun y => hd ++ y) := by rw [List.map_map] <;> rfl
    rw [e]
    exact List.Pairwise.map _ (fun a b hab z => hab (append_inj z)) str_100
  have sub : ((List.range 100).map fun i : Nat => hd ++ Str.ofString (toString (i : Int))) ⊆ xs := fun y hy => by
    obtain ⟨i, hi, rfl⟩ := List.mem_map.mp hy
    exact all i (List.mem_range.mp hi)
  have := nd_le nd sub
  rw [List.length_map, List.length_range] at this
  omega
/-- [head + str(k) for k in range(400) if head + str(k) not in taken] -/
theorem lc_pick {H : Hp} {σ : L2.St} {D t : Addr} {hd : Str} {xs : List Str} {Qd : Hp → Prop} (et : H t = some (.lst (xs.map V.str))) (hx : xs.length < 100) (hh : high1 hd) (hD : H D = none)
    (hw : ∀ v, wipe ((wipe σ [10]).set 10 (some v)) [10] = wipe σ [10]) (h5 : ∀ v, ((wipe σ [10]).set 10 (some v))[5]? = some (some (.str hd))) (h10 : ∀ v, ((wipe σ [10]).set 10 (some v))[10]? = some (some v)) (h1 : ∀ v, ((wipe σ [10]).set 10 (some v))[1]? = some (some (.ref t)))
    (hq : ∀ H' y ys, Go T [] H H' → H' D = some (.lst (V.str y :: ys)) → nmOk y → y ∉ xs → Qd H') :
    ∃ W : Nat → Nat → Hp → Prop, (∃ m, W 0 m (upd H D (.lst []))) ∧ ∀ i' m H, W i' m H →
      ((Itr 0 400).stop i' H ∧ Qd H) ∨ ((Itr 0 400).go i' H ∧ ∃ Nx : Hp → Prop, (∀ H', Nx H' → ∃ m', m' < m ∧ W (i' + 1) m' H') ∧ ∀ x H', (Itr 0 400).yld i' H x H' → gName 10 x (wipe σ [10]) H' fun σ2 H2 => wipe σ2 [10] = wipe σ [10] ∧ (tTest (tOp (rIn K true) (tOp rCatS (tVar 5) (tCB rStrI (tCons (tVar 10) tNil))) (tVar 1))) σ2 H2 fun b H3 =>
        if b = true then (tOp rCatS (tVar 5) (tCB rStrI (tCons (tVar 10) tNil))) σ2 H3 fun y H4 => ∃ acc, H4 D = some (.lst acc) ∧ acc.length < sizeLine ∧ Nx (upd H4 D (.lst (acc ++ [y]))) else Nx H3) := by
  have ne : t ≠ D := ne_of_none et hD
  have hl := hh.len
  refine lc_it (walk_range (lo := 0) (n := 400)) (fun i H' => Go T [] H H' ∧ ∃ ys : List Str, H' D = some (.lst (ys.map V.str)) ∧ ys.length ≤ i ∧ (∀ y ∈ ys, nmOk y ∧ y ∉ xs) ∧ (ys = [] → ∀ j, j < i → hd ++ Str.ofString (toString (j : Int)) ∈ xs)) ⟨Go.new hD, [], upd_same, Nat.le_refl _, by simp, fun _ j hj => absurd hj (Nat.not_lt_zero _)⟩ (fun _ _ _ _ => trivial) (fun i x H4 H5 hi h y => ?_) (fun H4 h => ?_)
  · obtain ⟨gg, ys, ey, ly, hy, hn⟩ := h
    obtain ⟨rfl, rfl⟩ := y
    have ez : (0 : Int) + (i : Int) = (i : Int) := Int.zero_add _
    have so := str_ok hi
    have lg : ((0 : Int) + (i : Int)).natAbs.log2 < 1920 := by
      rw [ez, Int.natAbs_natCast]
      have : i.log2 ≤ i := Nat.log2_le_self i
      omega
    refine ⟨hw _, _, h5 _, _, h10 _, _, rfl, lg, hd, _, rfl, rfl, ?_, _, h1 _, t, _, rfl, .inl (SqL.of (gg.lst et List.not_mem_nil)), rfl, flat_strs _, _, rfl, ?_⟩
    · show hd.length + (Str.ofString (toString ((0 : Int) + (i : Int)))).length ≤ sizeLine
      rw [ez, sizeLine_eq]
      omega
    show if (!inV (.str (hd ++ Str.ofString (toString ((0 : Int) + (i : Int))))) (xs.map V.str)) = true then _ else _
    rw [inV_strs, ez]
    by_cases c : hd ++ Str.ofString (toString (i : Int)) ∈ xs
    · rw [decide_eq_true c]
      refine iteF ⟨gg, ys, ey, by omega, hy, fun z j hj => ?_⟩
      by_cases e : j = i
      · rw [e]; exact c
      · exact hn z j (by omega)
    · rw [decide_eq_false c]
      refine iteT ⟨_, h5 _, _, h10 _, _, rfl, lg, hd, _, rfl, rfl, ?_, ys.map V.str, ey, by rw [List.length_map, sizeLine_eq]; omega, gg.over hD ey (fun _ z => by cases z), ys ++ [hd ++ Str.ofString (toString (i : Int))], ?_, by rw [List.length_append, List.length_singleton]; omega, fun y hy' => ?_, fun z => by simp at z⟩
      · show hd.length + (Str.ofString (toString ((0 : Int) + (i : Int)))).length ≤ sizeLine
        rw [ez, sizeLine_eq]
        omega
      · rw [upd_same, List.map_append, ez] <;> rfl
      · rcases List.mem_append.mp hy' with z | z
        · exact hy y z
        · rw [List.mem_singleton.mp z]
          exact ⟨high_mk hh (List.all_eq_true.mp an_400 i (List.mem_range.mpr hi)) (by omega), c⟩
  · obtain ⟨gg, ys, ey, ly, hy, hn⟩ := h
    cases ys with
    | nil =>
      obtain ⟨i, hi, hni⟩ := pigeon (hd := hd) hx
      exact absurd (hn rfl i (by omega)) hni
    | cons y r => exact hq H4 y (r.map V.str) gg ey (hy y List.mem_cons_self).1 (hy y List.mem_cons_self).2
end
end K2
set_option Elab.async false
set_option linter.all false
set_option maxRecDepth 100000
set_option maxHeartbeats 8000000
namespace SL
open PySem PySem.Spec PyProof.Rows L2 GxR NdefX GA
variable [SL.LamT]
theorem pe_toTup {X : Cx} {a : Expr} {ta : TE} {p pos : Pos} (B : Bl X.mg) (ha : PE X a ta) (h1 : Gl X "tuple" := by rfl) (he : starEach (a :: []) X.env = (false, eval a X.env) :: starEach [] X.env := by rfl) : PE X (.Call (.Name "tuple" p) [a] [] pos) (tThen ta (kTup X.K)) := pe_tupleOf h1 B.tuple ha he
def rLenQ (K : PySem.W.Frag) : List V → Hp → VK → Prop := fun xs H Q => ∃ p ys, xs = [.ref p] ∧ (SqL K H p ys ∨ SqT K H p ys) ∧ Q (.int ys.length) H
/-- what is kept apart may be what is new -/
theorem Go.cut {T M M' : List Addr} {H H' : Hp} (g : Go T M' H H') (h : ∀ b ∈ M', b ∈ M ∨ H b = none) : Go T M H H' := ⟨fun b o e n t => g.gr b o e (fun z => (h b z).elim n fun w => by rw [e] at w; cases w) t, g.al, g.tb, g.lm⟩
end SL
namespace K2
open PySem PySem.Spec PyProof.Rows L2 GxR NdefX GA SL
variable [SL.LamT]
abbrev s_law_kinds : Stmt := top 44
theorem sc_law_kinds : FnScope ["well", "most", "titles", "makers", "found", "k", "title", "some", "maker", "sorts", "fields", "turn", "j", "field"] ["well", "most"] (defScope s_law_kinds) := ⟨rfl, rfl, rfl, by decide +kernel, rfl, by decide +kernel, by decide +kernel⟩
/-- what is drawn as kinds: a tuple that is not empty, not too great -/
def drawnOk (d : PyData) : Prop := ∃ x r, d = .tuple (x :: r) ∧ wt d ≤ 80000 ∧ nice 0 d = true ∧ d.depth ≤ 6
def sp_kindsL (T : List Addr) : Sp := fun vs H Q _ => ∃ (a l : Addr) (k most : Int), vs = [.ref a, .int most] ∧ 1 ≤ most ∧ most ≤ 6 ∧ k ≤ 274877906944 ∧ WellAt a l H k ∧ Tabs T H ∧
  ∀ v d H', Dv [a, l] H' v d → drawnOk d → kindsB d = true → WellAt a l H' (k + 10000) → Go T [a, l] H H' → Tabs T H' → Q v H'
theorem at346 {i : Int} (h0 : 0 ≤ i) (h1 : i < 3) : ∃ m : Int, atI [V.int 3, V.int 4, V.int 6] i = some (.int m) ∧ 3 ≤ m ∧ m ≤ 6 := by
  have : i = 0 ∨ i = 1 ∨ i = 2 := by omega
  rcases this with rfl | rfl | rfl
  · exact ⟨3, rfl, by decide, by decide⟩
  · exact ⟨4, rfl, by decide, by decide⟩
  · exact ⟨6, rfl, by decide, by decide⟩
theorem at012 {i : Int} (h0 : 0 ≤ i) (h1 : i < 6) : ∃ m : Int, atI [V.int 0, V.int 1, V.int 2, V.int 2, V.int 3, V.int 4] i = some (.int m) ∧ 0 ≤ m ∧ m ≤ 4 := by
  have : i = 0 ∨ i = 1 ∨ i = 2 ∨ i = 3 ∨ i = 4 ∨ i = 5 := by omega
  rcases this with rfl | rfl | rfl | rfl | rfl | rfl
  · exact ⟨0, rfl, by decide, by decide⟩
  · exact ⟨1, rfl, by decide, by decide⟩
  · exact ⟨2, rfl, by decide, by decide⟩
  · exact ⟨2, rfl, by decide, by decide⟩
  · exact ⟨3, rfl, by decide, by decide⟩
  · exact ⟨4, rfl, by decide, by decide⟩
/-- a sort of a field -/
def fdOk (x : Str) : Prop := asc x = true ∧ x.length ≤ 11
theorem strs_wt : ∀ {fs : List Str}, (∀ x ∈ fs, fdOk x) → wtAll (fs.map .str) ≤ 138 * fs.length ∧ niceAll 0 (fs.map .str) = true ∧ PyData.depthAll (fs.map .str) = 0
  | [], _ => ⟨by simp [wtAll], rfl, by simp [PyData.depthAll]⟩
  | x :: r, h => by
    have ih := strs_wt fun y hy => h y (List.mem_cons_of_mem _ hy)
    have hx := h x List.mem_cons_self
    refine ⟨?_, ?_, ?_⟩
    · have := hx.2
      rw [List.map_cons, List.length_cons]
      simp only [wtAll, wt]
      omega
    · rw [List.map_cons]
      simp only [niceAll, nice]
      rw [hx.1, ih.2.1] <;> rfl
    · rw [List.map_cons]
      simp only [PyData.depthAll, PyData.depth]
      rw [ih.2.2] <;> rfl
/-- a drawn maker; a drawn kind -/
def mkOk (d : PyData) : Prop := wt d ≤ 702 ∧ nice 0 d = true ∧ d.depth ≤ 2
def kdOk (d : PyData) : Prop := wt d ≤ 9000 ∧ nice 0 d = true ∧ d.depth ≤ 4
theorem WellAt.set {a l p : Addr} {H : Hp} {k : Int} {o : HO} (h : WellAt a l H k) (hp : p ≠ a ∧ p ≠ l) : WellAt a l (upd H p o) k := by
  obtain ⟨ns, s, c, h1, h2, h3, h4⟩ := h
  exact ⟨ns, s, c, h1, by rw [upd_ne hp.1.symm]; exact h2, by rw [upd_ne hp.2.symm]; exact h3, h4⟩
/-- what a maker's, a kind's data is, the titles being ts -/
def mkN (m : PyData) : Str := strD (fstD m)
def kMk (d : PyData) : List PyData := itemsD (sndD d)
def fdIn (ts : List Str) (x : Str) : Prop := fdOk x ∧ (x = "number" ∨ x ∈ ts)
def mkG (ts : List Str) (m : PyData) : Prop := makerB m = true ∧ ∀ f ∈ itemsD (sndD m), strD f = "number" ∨ strD f ∈ ts
def kdG (ts : List Str) (d : PyData) : Prop := kindB d = true ∧ ∀ m ∈ kMk d, ∀ f ∈ itemsD (sndD m), strD f = "number" ∨ strD f ∈ ts
theorem maker_good {ts : List Str} {mk : Str} {fs : List Str} (hm : nmOk mk) (hf : ∀ x ∈ fs, fdIn ts x) (hl : fs.length ≤ 4) : mkG ts (.tuple [.str mk, .tuple (fs.map .str)]) := by
  refine ⟨?_, fun f hf' => ?_⟩
  · have h1 : highS mk = true := hm
    simp only [makerB, fstD, sndD, highD, itemsD, h1, tupB, List.length_map, List.length_cons, List.length_nil, Bool.and_eq_true, decide_eq_true_eq]
    refine ⟨⟨⟨⟨by decide, by decide⟩, trivial⟩, by omega, by omega⟩, ?_⟩
    exact List.all_eq_true.mpr fun z hz => by
      obtain ⟨y, _, rfl⟩ := List.mem_map.mp hz
      rfl
  · obtain ⟨y, hy, rfl⟩ := List.mem_map.mp (show f ∈ fs.map PyData.str from hf')
    exact (hf y hy).2
theorem kind_good {ts : List Str} {t : Str} {ls : List PyData} (ht : nmOk t) (h : ∀ d ∈ ls, mkG ts d) (h1 : 1 ≤ ls.length) (h6 : ls.length ≤ 6) : kdG ts (.tuple [.str t, .tuple ls]) := by
  refine ⟨?_, fun m hm => (h m hm).2⟩
  have hh : highS t = true := ht
  simp only [kindB, fstD, sndD, highD, itemsD, hh, tupB, List.length_cons, List.length_nil, Bool.and_eq_true, decide_eq_true_eq]
  refine ⟨⟨⟨⟨by decide, by decide⟩, trivial⟩, by omega, by omega⟩, List.all_eq_true.mpr fun d hd => (h d hd).1⟩
theorem nodup_snoc {xs : List Str} {x : Str} (h : xs.Nodup) (n : x ∉ xs) : (xs ++ [x]).Nodup := by
  refine List.nodup_append.mpr ⟨h, List.nodup_cons.mpr ⟨List.not_mem_nil, List.nodup_nil⟩, fun a ha b hb e => ?_⟩
  rw [List.mem_singleton.mp hb] at e
  exact n (by rw [← e]; exact ha)
theorem turned_perm {es : List PyData} {i : Int} (h0 : 0 ≤ i) (h1 : i < (es.length : Int)) : (cutD es (some i) none ++ cutD es none (some i)).Perm es := by
  obtain ⟨j, rfl⟩ : ∃ j : Nat, i = (j : Int) := ⟨i.toNat, by omega⟩
  rw [cutD_hi (by omega), cutD_lo (by omega)]
  exact List.perm_append_comm.trans (by rw [List.take_append_drop])
theorem kinds_good {ts ms : List Str} {ds : List PyData} (h1 : 1 ≤ ts.length) (h6 : ts.length ≤ 6) (ht : ts.Nodup) (et : ds.map (fun d => strD (fstD d)) = ts) (hp : ((ds.flatMap kMk).map mkN).Perm ms) (hm : ms.Nodup) (hk : ∀ d ∈ ds, kdG ts d) : kindsB (.tuple ds) = true := by
  have ld : ds.length = ts.length := by rw [← et, List.length_map]
  have titles : (titlesD (.tuple ds)).map strD = ts := by
    unfold titlesD
    rw [List.map_map]
    exact et
  have mks : makersD (.tuple ds) = ds.flatMap kMk := rfl
  simp only [kindsB, Bool.and_eq_true]
  refine ⟨⟨⟨⟨?_, List.all_eq_true.mpr fun d hd => (hk d hd).1⟩, ?_⟩, ?_⟩, List.all_eq_true.mpr fun f hf => ?_⟩
  · simp only [tupB, Bool.and_eq_true, decide_eq_true_eq]
    omega
  · unfold unl
    rw [titles]
    exact decide_eq_true ht
  · unfold unl mnamesD
    rw [mks, List.map_map]
    exact decide_eq_true (hp.nodup_iff.mpr hm)
  · unfold fieldsD at hf
    rw [mks] at hf
    obtain ⟨m, hm', hf⟩ := List.mem_flatMap.mp hf
    obtain ⟨d, hd, hm'⟩ := List.mem_flatMap.mp hm'
    unfold fieldOk
    rw [titles]
    rcases (hk d hd).2 m hm' f hf with z | z
    · rw [decide_eq_true z] <;> rfl
    · rw [decide_eq_true z, Bool.or_true]
section
variable {P : Program} {w : World} {K : PySem.W.Frag} {mg : Str → Option Value} {base : Heap} {f c CK CN CT CR : Addr} {fd : FuncData} {T : List Addr}
theorem maker_ok {mk : Str} {fs : List Str} (hm : nmOk mk) (hf : ∀ x ∈ fs, fdOk x) (hl : fs.length ≤ 4) : mkOk (.tuple [.str mk, .tuple (fs.map .str)]) := by
  obtain ⟨h1, h2, h3⟩ := strs_wt hf
  refine ⟨?_, ?_, ?_⟩
  · rw [wt_pair, wt_tup]
    have := hm.old.2.2
    show 12 * mk.length + 4 + _ + 8 ≤ 702
    omega
  · simp only [nice, niceAll]
    rw [hm.old.1, h2] <;> rfl
  · simp only [PyData.depth, PyData.depthAll]
    rw [h3]
    decide
theorem all_bd {B D : Nat} : ∀ {ls : List PyData}, (∀ d ∈ ls, wt d ≤ B ∧ nice 0 d = true ∧ d.depth ≤ D) → wtAll ls ≤ (B + 2) * ls.length ∧ niceAll 0 ls = true ∧ PyData.depthAll ls ≤ D
  | [], _ => ⟨by simp [wtAll], rfl, by simp [PyData.depthAll]⟩
  | x :: r, h => by
    have ih := all_bd fun y hy => h y (List.mem_cons_of_mem _ hy)
    have hx := h x List.mem_cons_self
    refine ⟨?_, ?_, ?_⟩
    · have e : (B + 2) * (r.length + 1) = (B + 2) * r.length + (B + 2) := Nat.mul_succ _ _
      rw [List.length_cons, e]
      simp only [wtAll]
      have := hx.1
      have := ih.1
      omega
    · simp only [niceAll]
      rw [hx.2.1, ih.2.1] <;> rfl
    · simp only [PyData.depthAll]
      have := hx.2.2
      have := ih.2.2
      omega
theorem kind_ok {t : Str} {ls : List PyData} (ht : nmOk t) (h : ∀ d ∈ ls, mkOk d) (hl : ls.length ≤ 12) : kdOk (.tuple [.str t, .tuple ls]) := by
  obtain ⟨h1, h2, h3⟩ := all_bd h
  refine ⟨?_, ?_, ?_⟩
  · rw [wt_pair, wt_tup]
    have := ht.old.2.2
    show 12 * t.length + 4 + _ + 8 ≤ 9000
    omega
  · simp only [nice, niceAll]
    rw [ht.old.1, h2] <;> rfl
  · simp only [PyData.depth, PyData.depthAll]
    omega
theorem ok_law_kinds (F : Fun K "_law_kinds" "_law_kinds" s_law_kinds f fd) (B : Bl mg) (Fd : Fnn P w K mg base CX0 1 "_law_draw" ["well", "many"] (sp_draw T)) (Fn : Fnn P w K mg base CX0 2 "_law_name" ["well", "taken", "high"] (sp_name T)) : FnOk P w K mg base CX0 3 f fd ["well", "most"] (sp_kindsL T) := by
  have nd := sc_law_kinds.nd
  refine F.ok sc_law_kinds (fun vs H Q E h => ?_) (fun cdv A outer s H vs Q E hr h => ?_)
  · obtain ⟨_, _, _, _, rfl, _⟩ := h
    rfl
  obtain ⟨a, l, k, most, rfl, m1, m2, hk, W, ht, q⟩ := h
  refine ⟨_, (pss_cons (ps_par3 (i := 2) (j := 3) (k := 4) rfl nd rfl rfl rfl rfl rfl rfl (pa_cons (pe_lst pa_nil) (pa_cons (pe_lst pa_nil) (pa_cons (pe_lst pa_nil) pa_nil))) rfl)
    (pss_cons (ps_for PassesOwn.never rfl (pi_range1 rfl B.range (pa_cons (pe_op op_add pe_int (pe_fn Fd hr (by decide) pass0 (pa_cons (pv 0) (pa_cons (pv 1) pa_nil)))) pa_nil)) (pg_name (i := 5) nd rfl (Or.inl rfl))
    (pss_one (ps_expr (pe_bm PySem.F.plainAttrs_list PySem.F.slot_list_append PySem.F.type_list_append mt_append (pv 2) (pa_cons (pe_fn Fn hr (by decide) pass0 (pa_cons (pv 0) (pa_cons (pv 2) (pa_cons pe_bl pa_nil)))) pa_nil)))))
    (pss_cons (ps_for PassesOwn.never rfl (pi_list (pv 2)) (pg_name (i := 6) nd rfl (Or.inl rfl))
    (pss_cons (ps_set (i := 7) nd rfl (Or.inl rfl) (pe_lst pa_nil))
    (pss_cons (ps_for PassesOwn.never rfl (pi_range1 rfl B.range (pa_cons (pe_op op_add pe_int (pe_fn Fd hr (by decide) pass0 (pa_cons (pv 0) (pa_cons (pe_ix ix_list (pe_lst (pa_cons pe_int (pa_cons pe_int (pa_cons pe_int pa_nil)))) (pe_fn Fd hr (by decide) pass0 (pa_cons (pv 0) (pa_cons pe_int pa_nil))) (fun _ _ => rfl)) pa_nil)))) pa_nil)) (pg_name (i := 5) nd rfl (Or.inl rfl))
    (pss_cons (ps_set (i := 8) nd rfl (Or.inl rfl) (pe_fn Fn hr (by decide) pass0 (pa_cons (pv 0) (pa_cons (pv 3) (pa_cons pe_bl pa_nil)))))
    (pss_cons (ps_if (PW.pt (pw_and (pt_cmpR op_notIn_seq (pv 6) (pv 3) rfl) (pw_and1 (pt_cmpR op_eq (pe_fn Fd hr (by decide) pass0 (pa_cons (pv 0) (pa_cons pe_int pa_nil))) pe_int (nomark _))))) (pss_one (ps_set (i := 8) nd rfl (Or.inl rfl) (pv 6))) pss_nil)
    (pss_cons (ps_expr (pe_bm PySem.F.plainAttrs_list PySem.F.slot_list_append PySem.F.type_list_append mt_append (pv 3) (pa_cons (pv 8) pa_nil)))
    (pss_cons (ps_set (i := 9) nd rfl (Or.inr rfl) (pe_op op_cat (pv 2) (pe_lst (pa_cons pe_str pa_nil))))
    (pss_cons (ps_setLc (i := 10) (own := [("j", 12)]) (g := gName 12) (tt := tYes) (te := tOp (rIxL K) (tVar 9) (tCall (sp_draw T) [] E0 (tCons (tVar 0) (tCons (tCB (rLenQ K) (tCons (tVar 9) tNil)) tNil)))) rfl nd rfl rfl (sw_true rfl rfl rfl (by decide +kernel)) (pi_range1 rfl B.range (pa_cons (pe_ix ix_list (pe_lst (pa_cons pe_int (pa_cons pe_int (pa_cons pe_int (pa_cons pe_int (pa_cons pe_int (pa_cons pe_int pa_nil))))))) (pe_fn Fd hr (by decide) pass0 (pa_cons (pv 0) (pa_cons pe_int pa_nil))) (fun _ _ => rfl)) pa_nil)) (blkOk_by (own := [("j", 12)]) (N := ["well", "most", "titles", "makers", "found", "k", "title", "some", "maker", "sorts", "fields", "turn", "j", "field"]) (sc := defScope s_law_kinds) (by decide +kernel)) (fun _ _ _ _ _ => (pg_name (i := 12) nd rfl (Or.inl rfl))) (fun _ _ _ _ _ => pts_nil) (fun _ _ _ _ _ => (pe_ix ix_list (pv 9) (pe_fn Fd hr (by decide) pass0 (pa_cons (pv 0) (pa_cons (pe_lenq B (pv 9)) pa_nil))) (fun _ _ => rfl))))
    (pss_cons (ps_if (PW.pt (pw_and (pt_cmpR op_eq (pv 5) pe_int (nomark _)) (pw_and1 (pt_cmpR op_gt (pe_fn Fd hr (by decide) pass0 (pa_cons (pv 0) (pa_cons pe_int pa_nil))) pe_int (nomark _))))) (pss_one (ps_setLc (i := 10) (own := [("field", 13)]) (g := gName 13) (tt := tTest (tOp rEq (tVar 13) (tC (.str "number")))) rfl nd rfl rfl (sw_true rfl rfl rfl (by decide +kernel)) (pi_list (pv 10)) (blkOk_by (own := [("field", 13)]) (N := ["well", "most", "titles", "makers", "found", "k", "title", "some", "maker", "sorts", "fields", "turn", "j", "field"]) (sc := defScope s_law_kinds) (by decide +kernel)) (fun _ _ _ _ _ => (pg_name (i := 13) nd rfl (Or.inl rfl))) (fun _ _ _ _ _ => pts_one (pt_cmpR op_eq (pv 13) pe_str (nomark _))) (fun _ _ _ _ _ => pv 13))) pss_nil)
    (pss_one (ps_expr (pe_bm PySem.F.plainAttrs_list PySem.F.slot_list_append PySem.F.type_list_append mt_append (pv 7) (pa_cons (pe_tup (pa_cons (pv 8) (pa_cons (pe_toTup B (pv 10)) pa_nil))) pa_nil)))))))))))
    (pss_cons (ps_set (i := 11) nd rfl (Or.inl rfl) (pe_fn Fd hr (by decide) pass0 (pa_cons (pv 0) (pa_cons (pe_lenq B (pv 7)) pa_nil))))
    (pss_one (ps_expr (pe_bm PySem.F.plainAttrs_list PySem.F.slot_list_append PySem.F.type_list_append mt_append (pv 4) (pa_cons (pe_tup (pa_cons (pv 6) (pa_cons (pe_toTup B (pe_op op_cat (pe_slice sl_list (pv 7) (po_some (pv 11)) po_none) (pe_slice sl_list (pv 7) po_none (po_some (pv 11))))) pa_nil))) pa_nil))))))))
    (pss_one (ps_ret (pe_toTup B (pv 4))))))), ?_⟩
  refine ⟨by show 0 ≤ sizeLine; omega, fun tt ht1 => ⟨by show 0 ≤ sizeLine; omega, fun mm hm1 => ⟨by show 0 ≤ sizeLine; omega, fun ff hf1 => ⟨_, _, _, rfl, ?_⟩⟩⟩⟩
  have nn : ∀ b : Addr, b ∉ ([] : List Addr) := fun b => List.not_mem_nil
  have s1 := Go.new (T := T) (M := []) (o := .lst []) ht1
  have s2 := Go.new (T := T) (M := []) (o := .lst []) hm1
  have s3 := Go.new (T := T) (M := []) (o := .lst []) hf1
  have W1 := ((W.go s1).go s2).go s3
  have g0 : Go T [] H (upd (upd (upd H tt (.lst [])) mm (.lst [])) ff (.lst [])) := (s1.trans s2).trans s3
  have ett : upd (upd (upd H tt (.lst [])) mm (.lst [])) ff (.lst []) tt = some (.lst []) := s3.lst (s2.lst upd_same (nn _)) (nn _)
  have emm : upd (upd (upd H tt (.lst [])) mm (.lst [])) ff (.lst []) mm = some (.lst []) := s3.lst upd_same (nn _)
  have eff : upd (upd (upd H tt (.lst [])) mm (.lst [])) ff (.lst []) ff = some (.lst []) := upd_same
  have nt := W.ne ht1
  have nm := (W.go s1).ne hm1
  have nf := ((W.go s1).go s2).ne hf1
  have tm : tt ≠ mm := ne_of_none (upd_same (H := H)) hm1
  have tf : tt ≠ ff := ne_of_none (s2.lst (upd_same (H := H) (a := tt)) (nn _)) hf1
  have mf : mm ≠ ff := ne_of_none (upd_same (a := mm) (o := .lst [])) hf1
  have fresh : ∀ b ∈ [a, l, tt, mm, ff], b ∈ [a, l] ∨ H b = none := fun b hb => by
    simp only [List.mem_cons, List.not_mem_nil, or_false] at hb
    rcases hb with rfl | rfl | rfl | rfl | rfl
    · exact .inl (by simp)
    · exact .inl (by simp)
    · exact .inr ht1
    · exact .inr (upd_none hm1)
    · exact .inr (upd_none (upd_none hf1))
  generalize upd (upd (upd H tt (.lst [])) mm (.lst [])) ff (.lst []) = H1 at *
  refine ⟨_, rfl, _, rfl, a, l, k, most, rfl, by omega, by omega, by omega, W1, g0.tb ht, fun i1 H2 i10 i11 W2 g2 t2 => ⟨_, _, rfl, rfl, _, rfl, by omega, by omega, ?_⟩⟩
  have up2 : ∀ b ∈ [a, l], b ∈ [a, l, tt, mm, ff] := fun b hb => by
    simp only [List.mem_cons, List.not_mem_nil, or_false] at hb ⊢
    rcases hb with rfl | rfl <;> simp
  refine for_it (walk_range (lo := 0) (n := (1 + i1).toNat)) (fun i σ H' => ∃ (ts : List Str) (p : Option V), σ = [some (.ref a), some (.int most), some (.ref tt), some (.ref mm), some (.ref ff), p, none, none, none, none, none, none, none, none] ∧ Go T [a, l, tt, mm, ff] H H' ∧ WellAt a l H' (k + 1 + 30 * i) ∧ H' tt = some (.lst (ts.map V.str)) ∧ ts.length = i ∧ (∀ x ∈ ts, nmOk x) ∧ H' mm = some (.lst []) ∧ H' ff = some (.lst []) ∧ ts.Nodup)
    ⟨[], none, rfl, (g0.of0).trans (g2.more up2), W2.up (by omega), g2.lst ett (nin nt), rfl, by simp, g2.lst emm (nin nm), g2.lst eff (nin nf), List.nodup_nil⟩ (fun _ _ _ _ _ => trivial) (fun i x σ H3 H4 hi h y => ?_) (fun σ H3 h => ?_)
  · obtain ⟨ts, p, rfl, gg, W3, e1, l1, hx, e2, e3, htn⟩ := h
    obtain ⟨rfl, rfl⟩ := y
    refine ⟨_, rfl, .inl ⟨rfl, _, SqL.of e1⟩, _, rfl, _, rfl, a, l, tt, k + 1 + 30 * i, ts, rfl, by omega, W3, nt.1, nt.2, e1, hx, by omega, gg.tb ht, fun x H5 hx5 nx5 W5 g5 t5 => ?_⟩
    have e5 := g5.lst e1 (nin nt)
    refine ⟨tt, _, _, rfl, rfl, e5, by rw [List.length_map, sizeLine_eq]; omega, ts ++ [x], _, rfl, ?_, ?_, by rw [upd_same, List.map_append] <;> rfl, by rw [List.length_append, l1] <;> rfl, ?_, ?_, ?_, nodup_snoc htn nx5⟩
    · exact (gg.trans (g5.more up2)).trans (Go.set e5 (fun _ z => by cases z) (by simp))
    · obtain ⟨ns, s1, c1, w1, w2, w3, w4, w5, w6, w7⟩ := W5
      exact ⟨ns, s1, c1, w1, by rw [upd_ne nt.1.symm]; exact w2, by rw [upd_ne nt.2.symm]; exact w3, w4, w5, w6, by omega⟩
    · intro y hy
      rcases List.mem_append.mp hy with z | z
      · exact hx y z
      · rw [List.mem_singleton.mp z]; exact hx5
    · rw [upd_ne tm.symm]; exact g5.lst e2 (nin nm)
    · rw [upd_ne tf.symm]; exact g5.lst e3 (nin nf)
  obtain ⟨ts, p, rfl, gg, W3, e1, l1, hx, e2, e3, htn⟩ := h
  have lts : ts.length ≤ 6 := by omega
  refine ⟨_, rfl, tt, rfl, ⟨_, SqL.of e1⟩, ?_⟩
  refine for_it (n := (ts.map V.str).length) walk_list (fun i σ H' => ∃ (ms : List Str) (vs : List V) (ds : List PyData) (p5 p6 p7 p8 p9 p10 p11 : Option V), σ = [some (.ref a), some (.int most), some (.ref tt), some (.ref mm), some (.ref ff), p5, p6, p7, p8, p9, p10, p11, none, none] ∧ Go T [a, l, tt, mm, ff] H H' ∧ WellAt a l H' (k + 200 + 800 * i) ∧
      H' tt = some (.lst (ts.map V.str)) ∧ H' mm = some (.lst (ms.map V.str)) ∧ ms.length ≤ 6 * i ∧ (∀ x ∈ ms, nmOk x) ∧ H' ff = some (.lst vs) ∧ DvAll [a, l, tt, mm, ff] H' vs ds ∧ ds.length = i ∧ (∀ d ∈ ds, kdOk d) ∧ ds.map (fun d => strD (fstD d)) = ts.take i ∧ ((ds.flatMap kMk).map mkN).Perm ms ∧ ms.Nodup ∧ ∀ d ∈ ds, kdG ts d)
    ⟨[], [], [], p, none, none, none, none, none, none, rfl, gg, W3.up (by omega), e1, e2, by simp, by simp, e3, .nil, rfl, by simp, by simp, .refl _, List.nodup_nil, by simp⟩ (fun i σ H' _ ⟨_, _, _, _, _, _, _, _, _, _, _, _, _, e, _⟩ => SqL.of e) (fun i x σ H4 H5 hi h y => ?_) (fun σ H4 h => ?_)
  · obtain ⟨ms, vs, ds, p5, p6, p7, p8, p9, p10, p11, rfl, gg, W4, e1, e2, lm, hm, e3, dv, ld, hd, hdt, hdp, hmnd, hdg⟩ := h
    obtain ⟨rfl, ex⟩ := y
    rw [List.getElem?_map] at ex
    obtain ⟨ti, ext, rfl⟩ := Option.map_eq_some_iff.mp ex
    have hti := hx ti (List.mem_of_getElem? ext)
    rw [List.length_map] at hi
    refine ⟨by show 0 ≤ sizeLine; omega, fun ss hss => ?_⟩
    have ns := W4.ne hss
    have st : tt ≠ ss := ne_of_none e1 hss
    have sm : mm ≠ ss := ne_of_none e2 hss
    have sf : ff ≠ ss := ne_of_none e3 hss
    have gs := Go.new (T := T) (M := []) (o := .lst []) hss
    refine ⟨_, rfl, by show 3 ≤ sizeLine; decide, fun q1 hq1 => ?_⟩
    have gq := Go.new (T := T) (M := []) (o := .lst [.int 3, .int 4, .int 6]) hq1
    have gsq := gs.trans gq
    have Wq := W4.go gsq
    refine ⟨_, rfl, a, l, k + 200 + 800 * i, 3, rfl, by decide, by decide, by omega, Wq, gsq.tb (gg.tb ht), fun i2 H6 j20 j21 W6 g6 t6 => ?_⟩
    obtain ⟨m, em, m3, m6⟩ := at346 j20 j21
    refine ⟨q1, _, i2, _, rfl, rfl, SqL.of (g6.lst upd_same (nin ((W4.go gs).ne hq1))), em, a, l, k + 200 + 800 * i + 1, m, rfl, by omega, by omega, by omega, W6, t6, fun i3 H7 j30 j31 W7 g7 t7 => ⟨_, _, rfl, rfl, _, rfl, by omega, by omega, ?_⟩⟩
    have g67 : Go T [a, l] _ H7 := g6.trans g7
    have e1s := g67.lst (gsq.lst e1 (nn _)) (nin nt)
    have e2s := g67.lst (gsq.lst e2 (nn _)) (nin nm)
    have e3s := g67.lst (gsq.lst e3 (nn _)) (nin nf)
    have ess := g67.lst (gq.lst (upd_same (H := H5) (a := ss) (o := .lst [])) (nn _)) (nin ns)
    have up6 : ∀ b ∈ [a, l], b ∈ [ss, a, l, tt, mm, ff] := fun b hb => List.mem_cons_of_mem _ (up2 b hb)
    have gT : Go T [ss, a, l, tt, mm, ff] H5 H7 := gsq.of0.trans (g67.more up6)
    refine for_it (walk_range (lo := 0) (n := (1 + i3).toNat)) (fun j σ H' => ∃ (ms1 : List Str) (ws : List V) (es : List PyData) (p5 p8 p9 p10 : Option V), σ = [some (.ref a), some (.int most), some (.ref tt), some (.ref mm), some (.ref ff), p5, some (.str ti), some (.ref ss), p8, p9, p10, p11, none, none] ∧ Go T [ss, a, l, tt, mm, ff] H5 H' ∧ WellAt a l H' (k + 200 + 800 * i + 2 + 60 * j) ∧
        H' tt = some (.lst (ts.map V.str)) ∧ H' mm = some (.lst (ms1.map V.str)) ∧ ms1.length ≤ 6 * i + j ∧ (∀ x ∈ ms1, nmOk x) ∧ H' ff = some (.lst vs) ∧ H' ss = some (.lst ws) ∧ DvAll [ss, a, l, tt, mm, ff] H' ws es ∧ es.length = j ∧ (∀ d ∈ es, mkOk d) ∧ ms1 = ms ++ es.map mkN ∧ ms1.Nodup ∧ ∀ d ∈ es, mkG ts d)
      ⟨ms, [], [], p5, p8, p9, p10, rfl, gT, W7.up (by omega), e1s, e2s, by omega, hm, e3s, ess, .nil, rfl, by simp, by simp, hmnd, by simp⟩ (fun _ _ _ _ _ => trivial) (fun j x σ H8 H9 hj h y => ?_) (fun σ H8 h => ?_)
    · obtain ⟨ms', ws, es, p5, p8, p9, p10, rfl, G8, W8, f1, f2, lms, hms, f3, f4, dw, les, hes, hme, hmn, heg⟩ := h
      obtain ⟨rfl, rfl⟩ := y
      have hl6 : (6 * i + j) ≤ 42 := by omega
      refine ⟨_, rfl, _, rfl, a, l, mm, k + 200 + 800 * i + 2 + 60 * j, ms', rfl, by omega, W8, nm.1, nm.2, f2, hms, by omega, G8.tb (gg.tb ht), fun xn H10 hxn nxn W10 g10 t10 => ?_⟩
      have G10 := G8.trans (g10.more up6)
      have h1 := g10.lst f1 (nin nt)
      have h2 := g10.lst f2 (nin nm)
      have h3 := g10.lst f3 (nin nf)
      have h4 := g10.lst f4 (nin ns)
      have dw10 := dw.go (g10.more up6)
      refine ⟨_, rfl, _, rfl, mm, ms'.map V.str, rfl, .inl (SqL.of h2), rfl, flat_strs _, _, rfl, ?_⟩
      show if (!inV (.str ti) (ms'.map V.str)) = true then _ else _
      rw [inV_strs]
      by_cases hin : ti ∈ ms'
      · rw [decide_eq_true hin]
        refine iteF (iteF ?_)
        refine ⟨_, rfl, .inl ⟨rfl, _, SqL.of h2⟩, _, rfl, mm, _, _, rfl, rfl, h2, by rw [List.length_map, sizeLine_eq]; omega, ?_⟩
        have Ga := (G10).trans (Go.set (T := T) (M := [ss, a, l, tt, mm, ff]) (o := .lst (ms'.map V.str ++ [V.str xn])) h2 (fun _ z => by cases z) (by simp))
        have Wa := WellAt.set (o := .lst (ms'.map V.str ++ [V.str xn])) W10 nm
        have b1 : upd H10 mm (.lst (ms'.map V.str ++ [V.str xn])) tt = some (.lst (ts.map V.str)) := by rw [upd_ne tm]; exact h1
        have b2 : upd H10 mm (.lst (ms'.map V.str ++ [V.str xn])) mm = some (.lst ((ms' ++ [xn]).map V.str)) := by rw [upd_same, List.map_append] <;> rfl
        have b3 : upd H10 mm (.lst (ms'.map V.str ++ [V.str xn])) ff = some (.lst vs) := by rw [upd_ne mf.symm]; exact h3
        have b4 : upd H10 mm (.lst (ms'.map V.str ++ [V.str xn])) ss = some (.lst ws) := by rw [upd_ne sm.symm]; exact h4
        have dA := (dw10).go (Go.set (T := T) (M := [ss, a, l, tt, mm, ff]) (o := .lst (ms'.map V.str ++ [V.str xn])) h2 (fun _ z => by cases z) (by simp))
        refine ⟨_, rfl, by show 1 ≤ sizeLine; decide, fun r1 hr1 => ?_⟩
        have u1 := Go.new (T := T) (M := []) (o := .lst [.str "number"]) hr1
        refine ⟨tt, r1, _, _, rfl, rfl, u1.lst b1 (nn _), upd_same, by rw [List.length_map, sizeLine_eq]; show ts.length + 1 ≤ _; omega, fun r2 hr2 => ?_⟩
        have u2 := Go.new (T := T) (M := []) (o := .lst (ts.map V.str ++ [V.str "number"])) hr2
        refine ⟨by show 6 ≤ sizeLine; decide, fun r3 hr3 => ?_⟩
        have u3 := Go.new (T := T) (M := []) (o := .lst [.int 0, .int 1, .int 2, .int 2, .int 3, .int 4]) hr3
        have uu := (u1.trans u2).trans u3
        have Wb := Wa.go uu
        have Gb := Ga.trans uu.of0
        refine ⟨_, rfl, a, l, k + 200 + 800 * i + 2 + 60 * j + 31, 6, rfl, by decide, by decide, by omega, Wb.up (by omega), Gb.tb (gg.tb ht), fun i9 H12 j90 j91 W12 g12 t12 => ?_⟩
        obtain ⟨m9, em9, n9, m9'⟩ := at012 j90 j91
        refine ⟨r3, _, i9, _, rfl, rfl, SqL.of (g12.lst upd_same (nin ((Wa.go (u1.trans u2)).ne hr3))), em9, m9, rfl, by omega, by omega, fun D hD => ?_⟩
        have nD := W12.ne hD
        have er2 : H12 r2 = some (.lst (ts.map V.str ++ [V.str "number"])) := g12.lst (u3.lst upd_same (nn _)) (nin ((Wa.go u1).ne hr2))
        have nD2 : r2 ≠ D := ne_of_none er2 hD
        have all9 : ∀ v ∈ (ts.map V.str ++ [V.str "number"]), ∃ z, v = V.str z ∧ fdIn ts z := fun v hv => by
          rcases List.mem_append.mp hv with z | z
          · obtain ⟨y, hy, rfl⟩ := List.mem_map.mp z
            exact ⟨y, rfl, ⟨(hx y hy).old.1, (hx y hy).old.2.2⟩, .inr hy⟩
          · rw [List.mem_singleton.mp z]
            exact ⟨"number", rfl, ⟨by decide +kernel, by decide +kernel⟩, .inl rfl⟩
        have G12 := Gb.trans (g12.more up6)
        have c1 := g12.lst (uu.lst b1 (nn _)) (nin nt)
        have c2 := g12.lst (uu.lst b2 (nn _)) (nin nm)
        have c3 := g12.lst (uu.lst b3 (nn _)) (nin nf)
        have c4 := g12.lst (uu.lst b4 (nn _)) (nin ns)
        have dC := (dA.go uu.of0).go (g12.more up6)
        refine lc_it (walk_range (lo := 0) (n := m9.toNat)) (fun i' H' => Go T [a, l] H12 H' ∧ WellAt a l H' (k + 200 + 800 * i + 2 + 60 * j + 32 + i') ∧ ∃ fs : List Str, H' D = some (.lst (fs.map V.str)) ∧ fs.length = i' ∧ ∀ x ∈ fs, fdIn ts x)
          ⟨Go.new hD, (W12.set nD).up (by omega), [], upd_same, rfl, by simp⟩ (fun _ _ _ _ => trivial) (fun i' x H13 H14 hi' h y => ?_) (fun H13 h => ?_)
        · obtain ⟨v1, v2, fs, v3, v4, v5⟩ := h
          obtain ⟨rfl, rfl⟩ := y
          have er := v1.lst er2 (nin ((Wa.go u1).ne hr2))
          refine ⟨rfl, _, rfl, _, rfl, _, rfl, r2, _, rfl, .inl (SqL.of er), a, l, k + 200 + 800 * i + 2 + 60 * j + 32 + i', _, rfl, by rw [List.length_append, List.length_singleton]; omega, by rw [List.length_append, List.length_map, List.length_singleton]; omega, by omega, v2, v1.tb t12, fun ib Hb jb0 jb1 Wb' gb tb => ?_⟩
          obtain ⟨vo, eo, mo⟩ := at_ok jb0 jb1
          obtain ⟨z, rfl, hz⟩ := all9 _ mo
          have v3' := gb.lst v3 (nin nD)
          refine ⟨r2, _, ib, _, rfl, rfl, SqL.of (gb.lst er (nin ((Wa.go u1).ne hr2))), eo, _, v3', by rw [List.length_map, sizeLine_eq]; omega, (v1.trans gb).over hD v3' (fun _ z => by cases z), (Wb'.set nD).up (by omega), fs ++ [z], by rw [upd_same, List.map_append] <;> rfl, by rw [List.length_append, v4] <;> rfl, fun x hx' => ?_⟩
          rcases List.mem_append.mp hx' with w | w
          · exact v5 x w
          · rw [List.mem_singleton.mp w]; exact hz
        · obtain ⟨v1, v2, fs, v3, v4, v5⟩ := h
          have lf4 : fs.length ≤ 4 := by omega
          have Gc := G12.trans (v1.more up6)
          have d1 := v1.lst c1 (nin nt)
          have d2 := v1.lst c2 (nin nm)
          have d3 := v1.lst c3 (nin nf)
          have d4 := v1.lst c4 (nin ns)
          have dD := dC.go (v1.more up6)
          refine ⟨_, rfl, rfl, _, rfl, ?_⟩
          by_cases hj0 : (0 : Int) + (j : Int) = 0
          · refine if_true_of (decide_eq_true (show V.int (0 + (j : Int)) = V.int 0 by rw [hj0])) ?_
            refine ⟨_, rfl, a, l, k + 200 + 800 * i + 2 + 60 * j + 36, 4, rfl, by decide, by decide, by omega, v2.up (by omega), v1.tb t12, fun ic Hc jc0 jc1 Wc gc tc => ⟨_, _, rfl, rfl, _, rfl, ?_⟩⟩
            have Gd := Gc.trans (gc.more up6)
            have w1 := gc.lst d1 (nin nt)
            have w2 := gc.lst d2 (nin nm)
            have w3 := gc.lst d3 (nin nf)
            have w4 := gc.lst d4 (nin ns)
            have dE := dD.go (gc.more up6)
            have eD := gc.lst v3 (nin nD)
            by_cases hc0 : (0 : Int) < ic
            · refine if_true_of (decide_eq_true hc0) ?_
              refine ⟨_, rfl, D, rfl, ⟨_, SqL.of eD⟩, fun D2 hD2 => ?_⟩
              refine lc_it walk_list (fun i' H' => Go T [] Hc H' ∧ ∃ gs : List Str, H' D2 = some (.lst (gs.map V.str)) ∧ gs.length ≤ i' ∧ ∀ x ∈ gs, fdIn ts x) ⟨Go.new hD2, [], upd_same, Nat.le_refl _, by simp⟩ (fun i' H' _ h => SqL.of (h.1.lst eD (nn _))) (fun i' x H15 H16 hi' h y => ?_) (fun H15 h => ?_)
              · obtain ⟨z1, gs, z2, z3, z4⟩ := h
                obtain ⟨rfl, ex⟩ := y
                rw [List.getElem?_map] at ex
                obtain ⟨xf, exf, rfl⟩ := Option.map_eq_some_iff.mp ex
                rw [List.length_map] at hi'
                refine ⟨rfl, _, rfl, rfl, _, rfl, ?_⟩
                show if decide _ = true then _ else _
                split
                · refine ⟨_, rfl, _, z2, by rw [List.length_map, sizeLine_eq]; omega, z1.over hD2 z2 (fun _ z => by cases z), gs ++ [xf], by rw [upd_same, List.map_append] <;> rfl, by rw [List.length_append, List.length_singleton]; omega, fun x hx' => ?_⟩
                  rcases List.mem_append.mp hx' with w | w
                  · exact z4 x w
                  · rw [List.mem_singleton.mp w]; exact v5 xf (List.mem_of_getElem? exf)
                · exact ⟨z1, gs, z2, by omega, z4⟩
              · obtain ⟨z1, gs, z2, z3, z4⟩ := h
                rw [List.length_map] at z3
                refine ⟨_, rfl, .inl ⟨rfl, _, SqL.of (z1.lst w4 (nn _))⟩, _, rfl, _, rfl, .inl ⟨D2, _, rfl, SqL.of z2, fun t1 ht1 => ⟨by show 2 ≤ sizeLine; decide, fun t2 ht2 => ?_⟩⟩⟩
                have x1 := Go.new (T := T) (M := []) (o := .tup ((gs).map V.str)) ht1
                have x2 := Go.new (T := T) (M := []) (o := .tup [.str xn, .ref t1]) ht2
                have xx := x1.trans x2
                have n6 : ∀ p : Addr, H15 p = none → p ∉ [ss, a, l, tt, mm, ff] := fun p hp => by
                  have w := ((Wc.go z1)).ne hp
                  simp [w.1, w.2, (ne_of_none (z1.lst w1 (nn _)) hp).symm, (ne_of_none (z1.lst w2 (nn _)) hp).symm, (ne_of_none (z1.lst w3 (nn _)) hp).symm, (ne_of_none (z1.lst w4 (nn _)) hp).symm]
                have y4 := xx.lst (z1.lst w4 (nn _)) (nn _)
                have lw := ((dE.go z1.of0)).length
                have Gs := Go.set (T := T) (M := [ss, a, l, tt, mm, ff]) (o := .lst (ws ++ [V.ref t2])) y4 (fun _ z => by cases z) (by simp)
                refine ⟨ss, ws, _, rfl, rfl, y4, by rw [sizeLine_eq]; omega, ms' ++ [xn], ws ++ [.ref t2], es ++ [.tuple [.str xn, .tuple ((gs).map .str)]], _, _, _, _, rfl, (((Gd.trans z1.of0)).trans xx.of0).trans Gs, ((((Wc.go z1)).go xx).set ns).up (by omega), ?_, ?_, by rw [List.length_append, List.length_singleton]; omega, ?_, ?_, upd_same, ?_, by rw [List.length_append, les] <;> rfl, ?_, ?_, nodup_snoc hmn nxn, ?_⟩
                · rw [upd_ne st]; exact xx.lst (z1.lst w1 (nn _)) (nn _)
                · rw [upd_ne sm]; exact xx.lst (z1.lst w2 (nn _)) (nn _)
                · intro y hy
                  rcases List.mem_append.mp hy with z | z
                  · exact hms y z
                  · rw [List.mem_singleton.mp z]; exact hxn
                · rw [upd_ne sf]; exact xx.lst (z1.lst w3 (nn _)) (nn _)
                · refine DvAll.go (T := T) (DvAll.append (((dE.go z1.of0)).go xx.of0) (.cons (.tup upd_same (n6 t2 (x1.al _ ht2)) (.cons (.str _) (.cons (.tup ((x2.tup upd_same (nn _))) (n6 t1 ht1) (DvAll.strs _)) .nil))) .nil)) Gs
                · intro d hd'
                  rcases List.mem_append.mp hd' with z | z
                  · exact hes d z
                  · rw [List.mem_singleton.mp z]; exact maker_ok hxn (fun x hx => (z4 x hx).1) (by omega : gs.length ≤ 4)
                · rw [hme, List.map_append, List.append_assoc] <;> rfl
                · intro d hd'
                  rcases List.mem_append.mp hd' with z | z
                  · exact heg d z
                  · rw [List.mem_singleton.mp z]; exact maker_good hxn z4 (by omega : gs.length ≤ 4)
            · refine if_false_of (decide_eq_false hc0) ?_
              refine ⟨_, rfl, .inl ⟨rfl, _, SqL.of w4⟩, _, rfl, _, rfl, .inl ⟨D, _, rfl, SqL.of eD, fun t1 ht1 => ⟨by show 2 ≤ sizeLine; decide, fun t2 ht2 => ?_⟩⟩⟩
              have x1 := Go.new (T := T) (M := []) (o := .tup ((fs).map V.str)) ht1
              have x2 := Go.new (T := T) (M := []) (o := .tup [.str xn, .ref t1]) ht2
              have xx := x1.trans x2
              have n6 : ∀ p : Addr, Hc p = none → p ∉ [ss, a, l, tt, mm, ff] := fun p hp => by
                have w := (Wc).ne hp
                simp [w.1, w.2, (ne_of_none w1 hp).symm, (ne_of_none w2 hp).symm, (ne_of_none w3 hp).symm, (ne_of_none w4 hp).symm]
              have y4 := xx.lst w4 (nn _)
              have lw := (dE).length
              have Gs := Go.set (T := T) (M := [ss, a, l, tt, mm, ff]) (o := .lst (ws ++ [V.ref t2])) y4 (fun _ z => by cases z) (by simp)
              refine ⟨ss, ws, _, rfl, rfl, y4, by rw [sizeLine_eq]; omega, ms' ++ [xn], ws ++ [.ref t2], es ++ [.tuple [.str xn, .tuple ((fs).map .str)]], _, _, _, _, rfl, ((Gd).trans xx.of0).trans Gs, (((Wc).go xx).set ns).up (by omega), ?_, ?_, by rw [List.length_append, List.length_singleton]; omega, ?_, ?_, upd_same, ?_, by rw [List.length_append, les] <;> rfl, ?_, ?_, nodup_snoc hmn nxn, ?_⟩
              · rw [upd_ne st]; exact xx.lst w1 (nn _)
              · rw [upd_ne sm]; exact xx.lst w2 (nn _)
              · intro y hy
                rcases List.mem_append.mp hy with z | z
                · exact hms y z
                · rw [List.mem_singleton.mp z]; exact hxn
              · rw [upd_ne sf]; exact xx.lst w3 (nn _)
              · refine DvAll.go (T := T) (DvAll.append ((dE).go xx.of0) (.cons (.tup upd_same (n6 t2 (x1.al _ ht2)) (.cons (.str _) (.cons (.tup ((x2.tup upd_same (nn _))) (n6 t1 ht1) (DvAll.strs _)) .nil))) .nil)) Gs
              · intro d hd'
                rcases List.mem_append.mp hd' with z | z
                · exact hes d z
                · rw [List.mem_singleton.mp z]; exact maker_ok hxn (fun x hx => (v5 x hx).1) lf4
              · rw [hme, List.map_append, List.append_assoc] <;> rfl
              · intro d hd'
                rcases List.mem_append.mp hd' with z | z
                · exact heg d z
                · rw [List.mem_singleton.mp z]; exact maker_good hxn v5 lf4
          · refine if_false_of (decide_eq_false fun z => hj0 (V.int.inj z)) ?_
            refine ⟨_, rfl, .inl ⟨rfl, _, SqL.of d4⟩, _, rfl, _, rfl, .inl ⟨D, _, rfl, SqL.of v3, fun t1 ht1 => ⟨by show 2 ≤ sizeLine; decide, fun t2 ht2 => ?_⟩⟩⟩
            have x1 := Go.new (T := T) (M := []) (o := .tup ((fs).map V.str)) ht1
            have x2 := Go.new (T := T) (M := []) (o := .tup [.str xn, .ref t1]) ht2
            have xx := x1.trans x2
            have n6 : ∀ p : Addr, H13 p = none → p ∉ [ss, a, l, tt, mm, ff] := fun p hp => by
              have w := (v2).ne hp
              simp [w.1, w.2, (ne_of_none d1 hp).symm, (ne_of_none d2 hp).symm, (ne_of_none d3 hp).symm, (ne_of_none d4 hp).symm]
            have y4 := xx.lst d4 (nn _)
            have lw := (dD).length
            have Gs := Go.set (T := T) (M := [ss, a, l, tt, mm, ff]) (o := .lst (ws ++ [V.ref t2])) y4 (fun _ z => by cases z) (by simp)
            refine ⟨ss, ws, _, rfl, rfl, y4, by rw [sizeLine_eq]; omega, ms' ++ [xn], ws ++ [.ref t2], es ++ [.tuple [.str xn, .tuple ((fs).map .str)]], _, _, _, _, rfl, ((Gc).trans xx.of0).trans Gs, (((v2).go xx).set ns).up (by omega), ?_, ?_, by rw [List.length_append, List.length_singleton]; omega, ?_, ?_, upd_same, ?_, by rw [List.length_append, les] <;> rfl, ?_, ?_, nodup_snoc hmn nxn, ?_⟩
            · rw [upd_ne st]; exact xx.lst d1 (nn _)
            · rw [upd_ne sm]; exact xx.lst d2 (nn _)
            · intro y hy
              rcases List.mem_append.mp hy with z | z
              · exact hms y z
              · rw [List.mem_singleton.mp z]; exact hxn
            · rw [upd_ne sf]; exact xx.lst d3 (nn _)
            · refine DvAll.go (T := T) (DvAll.append ((dD).go xx.of0) (.cons (.tup upd_same (n6 t2 (x1.al _ ht2)) (.cons (.str _) (.cons (.tup ((x2.tup upd_same (nn _))) (n6 t1 ht1) (DvAll.strs _)) .nil))) .nil)) Gs
            · intro d hd'
              rcases List.mem_append.mp hd' with z | z
              · exact hes d z
              · rw [List.mem_singleton.mp z]; exact maker_ok hxn (fun x hx => (v5 x hx).1) lf4
            · rw [hme, List.map_append, List.append_assoc] <;> rfl
            · intro d hd'
              rcases List.mem_append.mp hd' with z | z
              · exact heg d z
              · rw [List.mem_singleton.mp z]; exact maker_good hxn v5 lf4
      · rw [decide_eq_false hin]
        refine iteT ?_
        refine ⟨_, rfl, a, l, k + 200 + 800 * i + 2 + 60 * j + 30, 5, rfl, by decide, by decide, by omega, W10, t10, fun i11 H11 j110 j111 W11 g11 t11 => ⟨rfl, _, rfl, ?_⟩⟩
        have G11 := G10.trans (g11.more up6)
        have k1 := g11.lst h1 (nin nt)
        have k2 := g11.lst h2 (nin nm)
        have k3 := g11.lst h3 (nin nf)
        have k4 := g11.lst h4 (nin ns)
        have dw11 := dw10.go (g11.more up6)
        by_cases h0 : i11 = 0
        · refine if_true_of (decide_eq_true (by rw [h0])) ?_
          refine ⟨_, rfl, ?_⟩
          refine ⟨_, rfl, .inl ⟨rfl, _, SqL.of k2⟩, _, rfl, mm, _, _, rfl, rfl, k2, by rw [List.length_map, sizeLine_eq]; omega, ?_⟩
          have Ga := (G11).trans (Go.set (T := T) (M := [ss, a, l, tt, mm, ff]) (o := .lst (ms'.map V.str ++ [V.str ti])) k2 (fun _ z => by cases z) (by simp))
          have Wa := WellAt.set (o := .lst (ms'.map V.str ++ [V.str ti])) W11 nm
          have b1 : upd H11 mm (.lst (ms'.map V.str ++ [V.str ti])) tt = some (.lst (ts.map V.str)) := by rw [upd_ne tm]; exact k1
          have b2 : upd H11 mm (.lst (ms'.map V.str ++ [V.str ti])) mm = some (.lst ((ms' ++ [ti]).map V.str)) := by rw [upd_same, List.map_append] <;> rfl
          have b3 : upd H11 mm (.lst (ms'.map V.str ++ [V.str ti])) ff = some (.lst vs) := by rw [upd_ne mf.symm]; exact k3
          have b4 : upd H11 mm (.lst (ms'.map V.str ++ [V.str ti])) ss = some (.lst ws) := by rw [upd_ne sm.symm]; exact k4
          have dA := (dw11).go (Go.set (T := T) (M := [ss, a, l, tt, mm, ff]) (o := .lst (ms'.map V.str ++ [V.str ti])) k2 (fun _ z => by cases z) (by simp))
          refine ⟨_, rfl, by show 1 ≤ sizeLine; decide, fun r1 hr1 => ?_⟩
          have u1 := Go.new (T := T) (M := []) (o := .lst [.str "number"]) hr1
          refine ⟨tt, r1, _, _, rfl, rfl, u1.lst b1 (nn _), upd_same, by rw [List.length_map, sizeLine_eq]; show ts.length + 1 ≤ _; omega, fun r2 hr2 => ?_⟩
          have u2 := Go.new (T := T) (M := []) (o := .lst (ts.map V.str ++ [V.str "number"])) hr2
          refine ⟨by show 6 ≤ sizeLine; decide, fun r3 hr3 => ?_⟩
          have u3 := Go.new (T := T) (M := []) (o := .lst [.int 0, .int 1, .int 2, .int 2, .int 3, .int 4]) hr3
          have uu := (u1.trans u2).trans u3
          have Wb := Wa.go uu
          have Gb := Ga.trans uu.of0
          refine ⟨_, rfl, a, l, k + 200 + 800 * i + 2 + 60 * j + 31, 6, rfl, by decide, by decide, by omega, Wb.up (by omega), Gb.tb (gg.tb ht), fun i9 H12 j90 j91 W12 g12 t12 => ?_⟩
          obtain ⟨m9, em9, n9, m9'⟩ := at012 j90 j91
          refine ⟨r3, _, i9, _, rfl, rfl, SqL.of (g12.lst upd_same (nin ((Wa.go (u1.trans u2)).ne hr3))), em9, m9, rfl, by omega, by omega, fun D hD => ?_⟩
          have nD := W12.ne hD
          have er2 : H12 r2 = some (.lst (ts.map V.str ++ [V.str "number"])) := g12.lst (u3.lst upd_same (nn _)) (nin ((Wa.go u1).ne hr2))
          have nD2 : r2 ≠ D := ne_of_none er2 hD
          have all9 : ∀ v ∈ (ts.map V.str ++ [V.str "number"]), ∃ z, v = V.str z ∧ fdIn ts z := fun v hv => by
            rcases List.mem_append.mp hv with z | z
            · obtain ⟨y, hy, rfl⟩ := List.mem_map.mp z
              exact ⟨y, rfl, ⟨(hx y hy).old.1, (hx y hy).old.2.2⟩, .inr hy⟩
            · rw [List.mem_singleton.mp z]
              exact ⟨"number", rfl, ⟨by decide +kernel, by decide +kernel⟩, .inl rfl⟩
          have G12 := Gb.trans (g12.more up6)
          have c1 := g12.lst (uu.lst b1 (nn _)) (nin nt)
          have c2 := g12.lst (uu.lst b2 (nn _)) (nin nm)
          have c3 := g12.lst (uu.lst b3 (nn _)) (nin nf)
          have c4 := g12.lst (uu.lst b4 (nn _)) (nin ns)
          have dC := (dA.go uu.of0).go (g12.more up6)
          refine lc_it (walk_range (lo := 0) (n := m9.toNat)) (fun i' H' => Go T [a, l] H12 H' ∧ WellAt a l H' (k + 200 + 800 * i + 2 + 60 * j + 32 + i') ∧ ∃ fs : List Str, H' D = some (.lst (fs.map V.str)) ∧ fs.length = i' ∧ ∀ x ∈ fs, fdIn ts x)
            ⟨Go.new hD, (W12.set nD).up (by omega), [], upd_same, rfl, by simp⟩ (fun _ _ _ _ => trivial) (fun i' x H13 H14 hi' h y => ?_) (fun H13 h => ?_)
          · obtain ⟨v1, v2, fs, v3, v4, v5⟩ := h
            obtain ⟨rfl, rfl⟩ := y
            have er := v1.lst er2 (nin ((Wa.go u1).ne hr2))
            refine ⟨rfl, _, rfl, _, rfl, _, rfl, r2, _, rfl, .inl (SqL.of er), a, l, k + 200 + 800 * i + 2 + 60 * j + 32 + i', _, rfl, by rw [List.length_append, List.length_singleton]; omega, by rw [List.length_append, List.length_map, List.length_singleton]; omega, by omega, v2, v1.tb t12, fun ib Hb jb0 jb1 Wb' gb tb => ?_⟩
            obtain ⟨vo, eo, mo⟩ := at_ok jb0 jb1
            obtain ⟨z, rfl, hz⟩ := all9 _ mo
            have v3' := gb.lst v3 (nin nD)
            refine ⟨r2, _, ib, _, rfl, rfl, SqL.of (gb.lst er (nin ((Wa.go u1).ne hr2))), eo, _, v3', by rw [List.length_map, sizeLine_eq]; omega, (v1.trans gb).over hD v3' (fun _ z => by cases z), (Wb'.set nD).up (by omega), fs ++ [z], by rw [upd_same, List.map_append] <;> rfl, by rw [List.length_append, v4] <;> rfl, fun x hx' => ?_⟩
            rcases List.mem_append.mp hx' with w | w
            · exact v5 x w
            · rw [List.mem_singleton.mp w]; exact hz
          · obtain ⟨v1, v2, fs, v3, v4, v5⟩ := h
            have lf4 : fs.length ≤ 4 := by omega
            have Gc := G12.trans (v1.more up6)
            have d1 := v1.lst c1 (nin nt)
            have d2 := v1.lst c2 (nin nm)
            have d3 := v1.lst c3 (nin nf)
            have d4 := v1.lst c4 (nin ns)
            have dD := dC.go (v1.more up6)
            refine ⟨_, rfl, rfl, _, rfl, ?_⟩
            by_cases hj0 : (0 : Int) + (j : Int) = 0
            · refine if_true_of (decide_eq_true (show V.int (0 + (j : Int)) = V.int 0 by rw [hj0])) ?_
              refine ⟨_, rfl, a, l, k + 200 + 800 * i + 2 + 60 * j + 36, 4, rfl, by decide, by decide, by omega, v2.up (by omega), v1.tb t12, fun ic Hc jc0 jc1 Wc gc tc => ⟨_, _, rfl, rfl, _, rfl, ?_⟩⟩
              have Gd := Gc.trans (gc.more up6)
              have w1 := gc.lst d1 (nin nt)
              have w2 := gc.lst d2 (nin nm)
              have w3 := gc.lst d3 (nin nf)
              have w4 := gc.lst d4 (nin ns)
              have dE := dD.go (gc.more up6)
              have eD := gc.lst v3 (nin nD)
              by_cases hc0 : (0 : Int) < ic
              · refine if_true_of (decide_eq_true hc0) ?_
                refine ⟨_, rfl, D, rfl, ⟨_, SqL.of eD⟩, fun D2 hD2 => ?_⟩
                refine lc_it walk_list (fun i' H' => Go T [] Hc H' ∧ ∃ gs : List Str, H' D2 = some (.lst (gs.map V.str)) ∧ gs.length ≤ i' ∧ ∀ x ∈ gs, fdIn ts x) ⟨Go.new hD2, [], upd_same, Nat.le_refl _, by simp⟩ (fun i' H' _ h => SqL.of (h.1.lst eD (nn _))) (fun i' x H15 H16 hi' h y => ?_) (fun H15 h => ?_)
                · obtain ⟨z1, gs, z2, z3, z4⟩ := h
                  obtain ⟨rfl, ex⟩ := y
                  rw [List.getElem?_map] at ex
                  obtain ⟨xf, exf, rfl⟩ := Option.map_eq_some_iff.mp ex
                  rw [List.length_map] at hi'
                  refine ⟨rfl, _, rfl, rfl, _, rfl, ?_⟩
                  show if decide _ = true then _ else _
                  split
                  · refine ⟨_, rfl, _, z2, by rw [List.length_map, sizeLine_eq]; omega, z1.over hD2 z2 (fun _ z => by cases z), gs ++ [xf], by rw [upd_same, List.map_append] <;> rfl, by rw [List.length_append, List.length_singleton]; omega, fun x hx' => ?_⟩
                    rcases List.mem_append.mp hx' with w | w
                    · exact z4 x w
                    · rw [List.mem_singleton.mp w]; exact v5 xf (List.mem_of_getElem? exf)
                  · exact ⟨z1, gs, z2, by omega, z4⟩
                · obtain ⟨z1, gs, z2, z3, z4⟩ := h
                  rw [List.length_map] at z3
                  refine ⟨_, rfl, .inl ⟨rfl, _, SqL.of (z1.lst w4 (nn _))⟩, _, rfl, _, rfl, .inl ⟨D2, _, rfl, SqL.of z2, fun t1 ht1 => ⟨by show 2 ≤ sizeLine; decide, fun t2 ht2 => ?_⟩⟩⟩
                  have x1 := Go.new (T := T) (M := []) (o := .tup ((gs).map V.str)) ht1
                  have x2 := Go.new (T := T) (M := []) (o := .tup [.str ti, .ref t1]) ht2
                  have xx := x1.trans x2
                  have n6 : ∀ p : Addr, H15 p = none → p ∉ [ss, a, l, tt, mm, ff] := fun p hp => by
                    have w := ((Wc.go z1)).ne hp
                    simp [w.1, w.2, (ne_of_none (z1.lst w1 (nn _)) hp).symm, (ne_of_none (z1.lst w2 (nn _)) hp).symm, (ne_of_none (z1.lst w3 (nn _)) hp).symm, (ne_of_none (z1.lst w4 (nn _)) hp).symm]
                  have y4 := xx.lst (z1.lst w4 (nn _)) (nn _)
                  have lw := ((dE.go z1.of0)).length
                  have Gs := Go.set (T := T) (M := [ss, a, l, tt, mm, ff]) (o := .lst (ws ++ [V.ref t2])) y4 (fun _ z => by cases z) (by simp)
                  refine ⟨ss, ws, _, rfl, rfl, y4, by rw [sizeLine_eq]; omega, ms' ++ [ti], ws ++ [.ref t2], es ++ [.tuple [.str ti, .tuple ((gs).map .str)]], _, _, _, _, rfl, (((Gd.trans z1.of0)).trans xx.of0).trans Gs, ((((Wc.go z1)).go xx).set ns).up (by omega), ?_, ?_, by rw [List.length_append, List.length_singleton]; omega, ?_, ?_, upd_same, ?_, by rw [List.length_append, les] <;> rfl, ?_, ?_, nodup_snoc hmn hin, ?_⟩
                  · rw [upd_ne st]; exact xx.lst (z1.lst w1 (nn _)) (nn _)
                  · rw [upd_ne sm]; exact xx.lst (z1.lst w2 (nn _)) (nn _)
                  · intro y hy
                    rcases List.mem_append.mp hy with z | z
                    · exact hms y z
                    · rw [List.mem_singleton.mp z]; exact hti
                  · rw [upd_ne sf]; exact xx.lst (z1.lst w3 (nn _)) (nn _)
                  · refine DvAll.go (T := T) (DvAll.append (((dE.go z1.of0)).go xx.of0) (.cons (.tup upd_same (n6 t2 (x1.al _ ht2)) (.cons (.str _) (.cons (.tup ((x2.tup upd_same (nn _))) (n6 t1 ht1) (DvAll.strs _)) .nil))) .nil)) Gs
                  · intro d hd'
                    rcases List.mem_append.mp hd' with z | z
                    · exact hes d z
                    · rw [List.mem_singleton.mp z]; exact maker_ok hti (fun x hx => (z4 x hx).1) (by omega : gs.length ≤ 4)
                  · rw [hme, List.map_append, List.append_assoc] <;> rfl
                  · intro d hd'
                    rcases List.mem_append.mp hd' with z | z
                    · exact heg d z
                    · rw [List.mem_singleton.mp z]; exact maker_good hti z4 (by omega : gs.length ≤ 4)
              · refine if_false_of (decide_eq_false hc0) ?_
                refine ⟨_, rfl, .inl ⟨rfl, _, SqL.of w4⟩, _, rfl, _, rfl, .inl ⟨D, _, rfl, SqL.of eD, fun t1 ht1 => ⟨by show 2 ≤ sizeLine; decide, fun t2 ht2 => ?_⟩⟩⟩
                have x1 := Go.new (T := T) (M := []) (o := .tup ((fs).map V.str)) ht1
                have x2 := Go.new (T := T) (M := []) (o := .tup [.str ti, .ref t1]) ht2
                have xx := x1.trans x2
                have n6 : ∀ p : Addr, Hc p = none → p ∉ [ss, a, l, tt, mm, ff] := fun p hp => by
                  have w := (Wc).ne hp
                  simp [w.1, w.2, (ne_of_none w1 hp).symm, (ne_of_none w2 hp).symm, (ne_of_none w3 hp).symm, (ne_of_none w4 hp).symm]
                have y4 := xx.lst w4 (nn _)
                have lw := (dE).length
                have Gs := Go.set (T := T) (M := [ss, a, l, tt, mm, ff]) (o := .lst (ws ++ [V.ref t2])) y4 (fun _ z => by cases z) (by simp)
                refine ⟨ss, ws, _, rfl, rfl, y4, by rw [sizeLine_eq]; omega, ms' ++ [ti], ws ++ [.ref t2], es ++ [.tuple [.str ti, .tuple ((fs).map .str)]], _, _, _, _, rfl, ((Gd).trans xx.of0).trans Gs, (((Wc).go xx).set ns).up (by omega), ?_, ?_, by rw [List.length_append, List.length_singleton]; omega, ?_, ?_, upd_same, ?_, by rw [List.length_append, les] <;> rfl, ?_, ?_, nodup_snoc hmn hin, ?_⟩
                · rw [upd_ne st]; exact xx.lst w1 (nn _)
                · rw [upd_ne sm]; exact xx.lst w2 (nn _)
                · intro y hy
                  rcases List.mem_append.mp hy with z | z
                  · exact hms y z
                  · rw [List.mem_singleton.mp z]; exact hti
                · rw [upd_ne sf]; exact xx.lst w3 (nn _)
                · refine DvAll.go (T := T) (DvAll.append ((dE).go xx.of0) (.cons (.tup upd_same (n6 t2 (x1.al _ ht2)) (.cons (.str _) (.cons (.tup ((x2.tup upd_same (nn _))) (n6 t1 ht1) (DvAll.strs _)) .nil))) .nil)) Gs
                · intro d hd'
                  rcases List.mem_append.mp hd' with z | z
                  · exact hes d z
                  · rw [List.mem_singleton.mp z]; exact maker_ok hti (fun x hx => (v5 x hx).1) lf4
                · rw [hme, List.map_append, List.append_assoc] <;> rfl
                · intro d hd'
                  rcases List.mem_append.mp hd' with z | z
                  · exact heg d z
                  · rw [List.mem_singleton.mp z]; exact maker_good hti v5 lf4
            · refine if_false_of (decide_eq_false fun z => hj0 (V.int.inj z)) ?_
              refine ⟨_, rfl, .inl ⟨rfl, _, SqL.of d4⟩, _, rfl, _, rfl, .inl ⟨D, _, rfl, SqL.of v3, fun t1 ht1 => ⟨by show 2 ≤ sizeLine; decide, fun t2 ht2 => ?_⟩⟩⟩
              have x1 := Go.new (T := T) (M := []) (o := .tup ((fs).map V.str)) ht1
              have x2 := Go.new (T := T) (M := []) (o := .tup [.str ti, .ref t1]) ht2
              have xx := x1.trans x2
              have n6 : ∀ p : Addr, H13 p = none → p ∉ [ss, a, l, tt, mm, ff] := fun p hp => by
                have w := (v2).ne hp
                simp [w.1, w.2, (ne_of_none d1 hp).symm, (ne_of_none d2 hp).symm, (ne_of_none d3 hp).symm, (ne_of_none d4 hp).symm]
              have y4 := xx.lst d4 (nn _)
              have lw := (dD).length
              have Gs := Go.set (T := T) (M := [ss, a, l, tt, mm, ff]) (o := .lst (ws ++ [V.ref t2])) y4 (fun _ z => by cases z) (by simp)
              refine ⟨ss, ws, _, rfl, rfl, y4, by rw [sizeLine_eq]; omega, ms' ++ [ti], ws ++ [.ref t2], es ++ [.tuple [.str ti, .tuple ((fs).map .str)]], _, _, _, _, rfl, ((Gc).trans xx.of0).trans Gs, (((v2).go xx).set ns).up (by omega), ?_, ?_, by rw [List.length_append, List.length_singleton]; omega, ?_, ?_, upd_same, ?_, by rw [List.length_append, les] <;> rfl, ?_, ?_, nodup_snoc hmn hin, ?_⟩
              · rw [upd_ne st]; exact xx.lst d1 (nn _)
              · rw [upd_ne sm]; exact xx.lst d2 (nn _)
              · intro y hy
                rcases List.mem_append.mp hy with z | z
                · exact hms y z
                · rw [List.mem_singleton.mp z]; exact hti
              · rw [upd_ne sf]; exact xx.lst d3 (nn _)
              · refine DvAll.go (T := T) (DvAll.append ((dD).go xx.of0) (.cons (.tup upd_same (n6 t2 (x1.al _ ht2)) (.cons (.str _) (.cons (.tup ((x2.tup upd_same (nn _))) (n6 t1 ht1) (DvAll.strs _)) .nil))) .nil)) Gs
              · intro d hd'
                rcases List.mem_append.mp hd' with z | z
                · exact hes d z
                · rw [List.mem_singleton.mp z]; exact maker_ok hti (fun x hx => (v5 x hx).1) lf4
              · rw [hme, List.map_append, List.append_assoc] <;> rfl
              · intro d hd'
                rcases List.mem_append.mp hd' with z | z
                · exact heg d z
                · rw [List.mem_singleton.mp z]; exact maker_good hti v5 lf4
        · refine if_false_of (decide_eq_false fun z => h0 (V.int.inj z)) ?_
          refine ⟨_, rfl, .inl ⟨rfl, _, SqL.of k2⟩, _, rfl, mm, _, _, rfl, rfl, k2, by rw [List.length_map, sizeLine_eq]; omega, ?_⟩
          have Ga := (G11).trans (Go.set (T := T) (M := [ss, a, l, tt, mm, ff]) (o := .lst (ms'.map V.str ++ [V.str xn])) k2 (fun _ z => by cases z) (by simp))
          have Wa := WellAt.set (o := .lst (ms'.map V.str ++ [V.str xn])) W11 nm
          have b1 : upd H11 mm (.lst (ms'.map V.str ++ [V.str xn])) tt = some (.lst (ts.map V.str)) := by rw [upd_ne tm]; exact k1
          have b2 : upd H11 mm (.lst (ms'.map V.str ++ [V.str xn])) mm = some (.lst ((ms' ++ [xn]).map V.str)) := by rw [upd_same, List.map_append] <;> rfl
          have b3 : upd H11 mm (.lst (ms'.map V.str ++ [V.str xn])) ff = some (.lst vs) := by rw [upd_ne mf.symm]; exact k3
          have b4 : upd H11 mm (.lst (ms'.map V.str ++ [V.str xn])) ss = some (.lst ws) := by rw [upd_ne sm.symm]; exact k4
          have dA := (dw11).go (Go.set (T := T) (M := [ss, a, l, tt, mm, ff]) (o := .lst (ms'.map V.str ++ [V.str xn])) k2 (fun _ z => by cases z) (by simp))
          refine ⟨_, rfl, by show 1 ≤ sizeLine; decide, fun r1 hr1 => ?_⟩
          have u1 := Go.new (T := T) (M := []) (o := .lst [.str "number"]) hr1
          refine ⟨tt, r1, _, _, rfl, rfl, u1.lst b1 (nn _), upd_same, by rw [List.length_map, sizeLine_eq]; show ts.length + 1 ≤ _; omega, fun r2 hr2 => ?_⟩
          have u2 := Go.new (T := T) (M := []) (o := .lst (ts.map V.str ++ [V.str "number"])) hr2
          refine ⟨by show 6 ≤ sizeLine; decide, fun r3 hr3 => ?_⟩
          have u3 := Go.new (T := T) (M := []) (o := .lst [.int 0, .int 1, .int 2, .int 2, .int 3, .int 4]) hr3
          have uu := (u1.trans u2).trans u3
          have Wb := Wa.go uu
          have Gb := Ga.trans uu.of0
          refine ⟨_, rfl, a, l, k + 200 + 800 * i + 2 + 60 * j + 31, 6, rfl, by decide, by decide, by omega, Wb.up (by omega), Gb.tb (gg.tb ht), fun i9 H12 j90 j91 W12 g12 t12 => ?_⟩
          obtain ⟨m9, em9, n9, m9'⟩ := at012 j90 j91
          refine ⟨r3, _, i9, _, rfl, rfl, SqL.of (g12.lst upd_same (nin ((Wa.go (u1.trans u2)).ne hr3))), em9, m9, rfl, by omega, by omega, fun D hD => ?_⟩
          have nD := W12.ne hD
          have er2 : H12 r2 = some (.lst (ts.map V.str ++ [V.str "number"])) := g12.lst (u3.lst upd_same (nn _)) (nin ((Wa.go u1).ne hr2))
          have nD2 : r2 ≠ D := ne_of_none er2 hD
          have all9 : ∀ v ∈ (ts.map V.str ++ [V.str "number"]), ∃ z, v = V.str z ∧ fdIn ts z := fun v hv => by
            rcases List.mem_append.mp hv with z | z
            · obtain ⟨y, hy, rfl⟩ := List.mem_map.mp z
              exact ⟨y, rfl, ⟨(hx y hy).old.1, (hx y hy).old.2.2⟩, .inr hy⟩
            · rw [List.mem_singleton.mp z]
              exact ⟨"number", rfl, ⟨by decide +kernel, by decide +kernel⟩, .inl rfl⟩
          have G12 := Gb.trans (g12.more up6)
          have c1 := g12.lst (uu.lst b1 (nn _)) (nin nt)
          have c2 := g12.lst (uu.lst b2 (nn _)) (nin nm)
          have c3 := g12.lst (uu.lst b3 (nn _)) (nin nf)
          have c4 := g12.lst (uu.lst b4 (nn _)) (nin ns)
          have dC := (dA.go uu.of0).go (g12.more up6)
          refine lc_it (walk_range (lo := 0) (n := m9.toNat)) (fun i' H' => Go T [a, l] H12 H' ∧ WellAt a l H' (k + 200 + 800 * i + 2 + 60 * j + 32 + i') ∧ ∃ fs : List Str, H' D = some (.lst (fs.map V.str)) ∧ fs.length = i' ∧ ∀ x ∈ fs, fdIn ts x)
            ⟨Go.new hD, (W12.set nD).up (by omega), [], upd_same, rfl, by simp⟩ (fun _ _ _ _ => trivial) (fun i' x H13 H14 hi' h y => ?_) (fun H13 h => ?_)
          · obtain ⟨v1, v2, fs, v3, v4, v5⟩ := h
            obtain ⟨rfl, rfl⟩ := y
            have er := v1.lst er2 (nin ((Wa.go u1).ne hr2))
            refine ⟨rfl, _, rfl, _, rfl, _, rfl, r2, _, rfl, .inl (SqL.of er), a, l, k + 200 + 800 * i + 2 + 60 * j + 32 + i', _, rfl, by rw [List.length_append, List.length_singleton]; omega, by rw [List.length_append, List.length_map, List.length_singleton]; omega, by omega, v2, v1.tb t12, fun ib Hb jb0 jb1 Wb' gb tb => ?_⟩
            obtain ⟨vo, eo, mo⟩ := at_ok jb0 jb1
            obtain ⟨z, rfl, hz⟩ := all9 _ mo
            have v3' := gb.lst v3 (nin nD)
            refine ⟨r2, _, ib, _, rfl, rfl, SqL.of (gb.lst er (nin ((Wa.go u1).ne hr2))), eo, _, v3', by rw [List.length_map, sizeLine_eq]; omega, (v1.trans gb).over hD v3' (fun _ z => by cases z), (Wb'.set nD).up (by omega), fs ++ [z], by rw [upd_same, List.map_append] <;> rfl, by rw [List.length_append, v4] <;> rfl, fun x hx' => ?_⟩
            rcases List.mem_append.mp hx' with w | w
            · exact v5 x w
            · rw [List.mem_singleton.mp w]; exact hz
          · obtain ⟨v1, v2, fs, v3, v4, v5⟩ := h
            have lf4 : fs.length ≤ 4 := by omega
            have Gc := G12.trans (v1.more up6)
            have d1 := v1.lst c1 (nin nt)
            have d2 := v1.lst c2 (nin nm)
            have d3 := v1.lst c3 (nin nf)
            have d4 := v1.lst c4 (nin ns)
            have dD := dC.go (v1.more up6)
            refine ⟨_, rfl, rfl, _, rfl, ?_⟩
            by_cases hj0 : (0 : Int) + (j : Int) = 0
            · refine if_true_of (decide_eq_true (show V.int (0 + (j : Int)) = V.int 0 by rw [hj0])) ?_
              refine ⟨_, rfl, a, l, k + 200 + 800 * i + 2 + 60 * j + 36, 4, rfl, by decide, by decide, by omega, v2.up (by omega), v1.tb t12, fun ic Hc jc0 jc1 Wc gc tc => ⟨_, _, rfl, rfl, _, rfl, ?_⟩⟩
              have Gd := Gc.trans (gc.more up6)
              have w1 := gc.lst d1 (nin nt)
              have w2 := gc.lst d2 (nin nm)
              have w3 := gc.lst d3 (nin nf)
              have w4 := gc.lst d4 (nin ns)
              have dE := dD.go (gc.more up6)
              have eD := gc.lst v3 (nin nD)
              by_cases hc0 : (0 : Int) < ic
              · refine if_true_of (decide_eq_true hc0) ?_
                refine ⟨_, rfl, D, rfl, ⟨_, SqL.of eD⟩, fun D2 hD2 => ?_⟩
                refine lc_it walk_list (fun i' H' => Go T [] Hc H' ∧ ∃ gs : List Str, H' D2 = some (.lst (gs.map V.str)) ∧ gs.length ≤ i' ∧ ∀ x ∈ gs, fdIn ts x) ⟨Go.new hD2, [], upd_same, Nat.le_refl _, by simp⟩ (fun i' H' _ h => SqL.of (h.1.lst eD (nn _))) (fun i' x H15 H16 hi' h y => ?_) (fun H15 h => ?_)
                · obtain ⟨z1, gs, z2, z3, z4⟩ := h
                  obtain ⟨rfl, ex⟩ := y
                  rw [List.getElem?_map] at ex
                  obtain ⟨xf, exf, rfl⟩ := Option.map_eq_some_iff.mp ex
                  rw [List.length_map] at hi'
                  refine ⟨rfl, _, rfl, rfl, _, rfl, ?_⟩
                  show if decide _ = true then _ else _
                  split
                  · refine ⟨_, rfl, _, z2, by rw [List.length_map, sizeLine_eq]; omega, z1.over hD2 z2 (fun _ z => by cases z), gs ++ [xf], by rw [upd_same, List.map_append] <;> rfl, by rw [List.length_append, List.length_singleton]; omega, fun x hx' => ?_⟩
                    rcases List.mem_append.mp hx' with w | w
                    · exact z4 x w
                    · rw [List.mem_singleton.mp w]; exact v5 xf (List.mem_of_getElem? exf)
                  · exact ⟨z1, gs, z2, by omega, z4⟩
                · obtain ⟨z1, gs, z2, z3, z4⟩ := h
                  rw [List.length_map] at z3
                  refine ⟨_, rfl, .inl ⟨rfl, _, SqL.of (z1.lst w4 (nn _))⟩, _, rfl, _, rfl, .inl ⟨D2, _, rfl, SqL.of z2, fun t1 ht1 => ⟨by show 2 ≤ sizeLine; decide, fun t2 ht2 => ?_⟩⟩⟩
                  have x1 := Go.new (T := T) (M := []) (o := .tup ((gs).map V.str)) ht1
                  have x2 := Go.new (T := T) (M := []) (o := .tup [.str xn, .ref t1]) ht2
                  have xx := x1.trans x2
                  have n6 : ∀ p : Addr, H15 p = none → p ∉ [ss, a, l, tt, mm, ff] := fun p hp => by
                    have w := ((Wc.go z1)).ne hp
                    simp [w.1, w.2, (ne_of_none (z1.lst w1 (nn _)) hp).symm, (ne_of_none (z1.lst w2 (nn _)) hp).symm, (ne_of_none (z1.lst w3 (nn _)) hp).symm, (ne_of_none (z1.lst w4 (nn _)) hp).symm]
                  have y4 := xx.lst (z1.lst w4 (nn _)) (nn _)
                  have lw := ((dE.go z1.of0)).length
                  have Gs := Go.set (T := T) (M := [ss, a, l, tt, mm, ff]) (o := .lst (ws ++ [V.ref t2])) y4 (fun _ z => by cases z) (by simp)
                  refine ⟨ss, ws, _, rfl, rfl, y4, by rw [sizeLine_eq]; omega, ms' ++ [xn], ws ++ [.ref t2], es ++ [.tuple [.str xn, .tuple ((gs).map .str)]], _, _, _, _, rfl, (((Gd.trans z1.of0)).trans xx.of0).trans Gs, ((((Wc.go z1)).go xx).set ns).up (by omega), ?_, ?_, by rw [List.length_append, List.length_singleton]; omega, ?_, ?_, upd_same, ?_, by rw [List.length_append, les] <;> rfl, ?_, ?_, nodup_snoc hmn nxn, ?_⟩
                  · rw [upd_ne st]; exact xx.lst (z1.lst w1 (nn _)) (nn _)
                  · rw [upd_ne sm]; exact xx.lst (z1.lst w2 (nn _)) (nn _)
                  · intro y hy
                    rcases List.mem_append.mp hy with z | z
                    · exact hms y z
                    · rw [List.mem_singleton.mp z]; exact hxn
                  · rw [upd_ne sf]; exact xx.lst (z1.lst w3 (nn _)) (nn _)
                  · refine DvAll.go (T := T) (DvAll.append (((dE.go z1.of0)).go xx.of0) (.cons (.tup upd_same (n6 t2 (x1.al _ ht2)) (.cons (.str _) (.cons (.tup ((x2.tup upd_same (nn _))) (n6 t1 ht1) (DvAll.strs _)) .nil))) .nil)) Gs
                  · intro d hd'
                    rcases List.mem_append.mp hd' with z | z
                    · exact hes d z
                    · rw [List.mem_singleton.mp z]; exact maker_ok hxn (fun x hx => (z4 x hx).1) (by omega : gs.length ≤ 4)
                  · rw [hme, List.map_append, List.append_assoc] <;> rfl
                  · intro d hd'
                    rcases List.mem_append.mp hd' with z | z
                    · exact heg d z
                    · rw [List.mem_singleton.mp z]; exact maker_good hxn z4 (by omega : gs.length ≤ 4)
              · refine if_false_of (decide_eq_false hc0) ?_
                refine ⟨_, rfl, .inl ⟨rfl, _, SqL.of w4⟩, _, rfl, _, rfl, .inl ⟨D, _, rfl, SqL.of eD, fun t1 ht1 => ⟨by show 2 ≤ sizeLine; decide, fun t2 ht2 => ?_⟩⟩⟩
                have x1 := Go.new (T := T) (M := []) (o := .tup ((fs).map V.str)) ht1
                have x2 := Go.new (T := T) (M := []) (o := .tup [.str xn, .ref t1]) ht2
                have xx := x1.trans x2
                have n6 : ∀ p : Addr, Hc p = none → p ∉ [ss, a, l, tt, mm, ff] := fun p hp => by
                  have w := (Wc).ne hp
                  simp [w.1, w.2, (ne_of_none w1 hp).symm, (ne_of_none w2 hp).symm, (ne_of_none w3 hp).symm, (ne_of_none w4 hp).symm]
                have y4 := xx.lst w4 (nn _)
                have lw := (dE).length
                have Gs := Go.set (T := T) (M := [ss, a, l, tt, mm, ff]) (o := .lst (ws ++ [V.ref t2])) y4 (fun _ z => by cases z) (by simp)
                refine ⟨ss, ws, _, rfl, rfl, y4, by rw [sizeLine_eq]; omega, ms' ++ [xn], ws ++ [.ref t2], es ++ [.tuple [.str xn, .tuple ((fs).map .str)]], _, _, _, _, rfl, ((Gd).trans xx.of0).trans Gs, (((Wc).go xx).set ns).up (by omega), ?_, ?_, by rw [List.length_append, List.length_singleton]; omega, ?_, ?_, upd_same, ?_, by rw [List.length_append, les] <;> rfl, ?_, ?_, nodup_snoc hmn nxn, ?_⟩
                · rw [upd_ne st]; exact xx.lst w1 (nn _)
                · rw [upd_ne sm]; exact xx.lst w2 (nn _)
                · intro y hy
                  rcases List.mem_append.mp hy with z | z
                  · exact hms y z
                  · rw [List.mem_singleton.mp z]; exact hxn
                · rw [upd_ne sf]; exact xx.lst w3 (nn _)
                · refine DvAll.go (T := T) (DvAll.append ((dE).go xx.of0) (.cons (.tup upd_same (n6 t2 (x1.al _ ht2)) (.cons (.str _) (.cons (.tup ((x2.tup upd_same (nn _))) (n6 t1 ht1) (DvAll.strs _)) .nil))) .nil)) Gs
                · intro d hd'
                  rcases List.mem_append.mp hd' with z | z
                  · exact hes d z
                  · rw [List.mem_singleton.mp z]; exact maker_ok hxn (fun x hx => (v5 x hx).1) lf4
                · rw [hme, List.map_append, List.append_assoc] <;> rfl
                · intro d hd'
                  rcases List.mem_append.mp hd' with z | z
                  · exact heg d z
                  · rw [List.mem_singleton.mp z]; exact maker_good hxn v5 lf4
            · refine if_false_of (decide_eq_false fun z => hj0 (V.int.inj z)) ?_
              refine ⟨_, rfl, .inl ⟨rfl, _, SqL.of d4⟩, _, rfl, _, rfl, .inl ⟨D, _, rfl, SqL.of v3, fun t1 ht1 => ⟨by show 2 ≤ sizeLine; decide, fun t2 ht2 => ?_⟩⟩⟩
              have x1 := Go.new (T := T) (M := []) (o := .tup ((fs).map V.str)) ht1
              have x2 := Go.new (T := T) (M := []) (o := .tup [.str xn, .ref t1]) ht2
              have xx := x1.trans x2
              have n6 : ∀ p : Addr, H13 p = none → p ∉ [ss, a, l, tt, mm, ff] := fun p hp => by
                have w := (v2).ne hp
                simp [w.1, w.2, (ne_of_none d1 hp).symm, (ne_of_none d2 hp).symm, (ne_of_none d3 hp).symm, (ne_of_none d4 hp).symm]
              have y4 := xx.lst d4 (nn _)
              have lw := (dD).length
              have Gs := Go.set (T := T) (M := [ss, a, l, tt, mm, ff]) (o := .lst (ws ++ [V.ref t2])) y4 (fun _ z => by cases z) (by simp)
              refine ⟨ss, ws, _, rfl, rfl, y4, by rw [sizeLine_eq]; omega, ms' ++ [xn], ws ++ [.ref t2], es ++ [.tuple [.str xn, .tuple ((fs).map .str)]], _, _, _, _, rfl, ((Gc).trans xx.of0).trans Gs, (((v2).go xx).set ns).up (by omega), ?_, ?_, by rw [List.length_append, List.length_singleton]; omega, ?_, ?_, upd_same, ?_, by rw [List.length_append, les] <;> rfl, ?_, ?_, nodup_snoc hmn nxn, ?_⟩
              · rw [upd_ne st]; exact xx.lst d1 (nn _)
              · rw [upd_ne sm]; exact xx.lst d2 (nn _)
              · intro y hy
                rcases List.mem_append.mp hy with z | z
                · exact hms y z
                · rw [List.mem_singleton.mp z]; exact hxn
              · rw [upd_ne sf]; exact xx.lst d3 (nn _)
              · refine DvAll.go (T := T) (DvAll.append ((dD).go xx.of0) (.cons (.tup upd_same (n6 t2 (x1.al _ ht2)) (.cons (.str _) (.cons (.tup ((x2.tup upd_same (nn _))) (n6 t1 ht1) (DvAll.strs _)) .nil))) .nil)) Gs
              · intro d hd'
                rcases List.mem_append.mp hd' with z | z
                · exact hes d z
                · rw [List.mem_singleton.mp z]; exact maker_ok hxn (fun x hx => (v5 x hx).1) lf4
              · rw [hme, List.map_append, List.append_assoc] <;> rfl
              · intro d hd'
                rcases List.mem_append.mp hd' with z | z
                · exact heg d z
                · rw [List.mem_singleton.mp z]; exact maker_good hxn v5 lf4
    · obtain ⟨ms', ws, es, p5, p8, p9, p10, rfl, G8, W8, f1, f2, lms, hms, f3, f4, dw, les, hes, hme, hmn, heg⟩ := h
      have lw := dw.length
      refine ⟨_, rfl, _, rfl, ss, _, rfl, .inl (SqL.of f4), a, l, k + 200 + 800 * i + 2 + 360, _, rfl, by omega, by omega, by omega, W8.up (by omega), G8.tb (gg.tb ht), fun it H9 jt0 jt1 W9 g9 t9 => ?_⟩
      have G9 := G8.trans (g9.more up6)
      have h1 := g9.lst f1 (nin nt)
      have h2 := g9.lst f2 (nin nm)
      have h3 := g9.lst f3 (nin nf)
      have h4 := g9.lst f4 (nin ns)
      have dw9 := dw.go (g9.more up6)
      refine ⟨_, rfl, .inl ⟨rfl, _, SqL.of h3⟩, _, rfl, _, rfl, _, rfl, _, rfl, ?_⟩
      refine ⟨ss, ws, rfl, SqL.of h4, fun q2 hq2 => ⟨_, rfl, _, rfl, _, rfl, ss, ws, rfl, SqL.of ((Go.new (T := T) (M := []) (o := .lst (cutV ws (some it) none)) hq2).lst h4 (nn _)), fun q3 hq3 => ?_⟩⟩
      have z2 := Go.new (T := T) (M := []) (o := .lst (cutV ws (some it) none)) hq2
      have z3 := Go.new (T := T) (M := []) (o := .lst (cutV ws none (some it))) hq3
      have L1 := cutV_length ws (some it) none
      have L2 := cutV_length ws none (some it)
      refine ⟨q2, q3, _, _, rfl, rfl, z3.lst upd_same (nn _), upd_same, by rw [sizeLine_eq]; omega, fun q4 hq4 => .inl ⟨q4, _, rfl, SqL.of upd_same, fun t1 ht1 => ⟨by show 2 ≤ sizeLine; decide, fun t2 ht2 => ?_⟩⟩⟩
      have z4 := Go.new (T := T) (M := []) (o := .lst (cutV ws (some it) none ++ cutV ws none (some it))) hq4
      have x1 := Go.new (T := T) (M := []) (o := .tup (cutV ws (some it) none ++ cutV ws none (some it))) ht1
      have x2 := Go.new (T := T) (M := []) (o := .tup [.str ti, .ref t1]) ht2
      have zz := (z2.trans z3).trans z4
      have xx := (zz.trans x1).trans x2
      have n5 : ∀ p : Addr, H9 p = none → p ∉ [a, l, tt, mm, ff] := fun p hp => by
        have w := W9.ne hp
        simp [w.1, w.2, (ne_of_none h1 hp).symm, (ne_of_none h2 hp).symm, (ne_of_none h3 hp).symm]
      have y3 := xx.lst h3 (nn _)
      have Gs := Go.set (T := T) (M := [a, l, tt, mm, ff]) (o := .lst (vs ++ [V.ref t2])) y3 (fun _ z => by cases z) (by simp)
      have lv := dv.length
      have cut6 : ∀ b ∈ [ss, a, l, tt, mm, ff], b ∈ [a, l, tt, mm, ff] ∨ H5 b = none := fun b hb => by
        rcases List.mem_cons.mp hb with rfl | hb
        · exact .inr hss
        · exact .inl hb
      have G5 : Go T [a, l, tt, mm, ff] H5 H9 := G9.cut cut6
      have up5 : ∀ b ∈ [a, l, tt, mm, ff], b ∈ [ss, a, l, tt, mm, ff] := fun b hb => List.mem_cons_of_mem _ hb
      have dX := (dw9.less up5).go (xx.of0 (M := [a, l, tt, mm, ff]))
      obtain ⟨es1, he1⟩ : ∃ e, e = (es.drop (HT.sIx es.length 0 (some it))).take (HT.sIx es.length es.length none - HT.sIx es.length 0 (some it)) := ⟨_, rfl⟩
      obtain ⟨es2, he2⟩ : ∃ e, e = (es.drop (HT.sIx es.length 0 none)).take (HT.sIx es.length es.length (some it) - HT.sIx es.length 0 none) := ⟨_, rfl⟩
      have hpm : (es1 ++ es2).Perm es := by
        rw [he1, he2]
        exact turned_perm jt0 (by rw [← lw]; exact jt1)
      have dcut := (dX.cut (some it) none).append (dX.cut none (some it))
      rw [← he1, ← he2] at dcut
      have lc := dcut.length
      rw [List.length_append, List.length_append] at lc
      refine ⟨ff, vs, _, rfl, rfl, y3, by rw [sizeLine_eq]; omega, ms', vs ++ [.ref t2], ds ++ [.tuple [.str ti, .tuple (es1 ++ es2)]], _, _, _, _, _, _, _, rfl, ((gg.trans G5).trans xx.of0).trans Gs, ((W9.go xx).set nf).up (by omega), ?_, ?_, by omega, hms, upd_same, ?_, by rw [List.length_append, ld] <;> rfl, ?_, ?_, ?_, hmn, ?_⟩
      · rw [upd_ne tf]; exact xx.lst h1 (nn _)
      · rw [upd_ne mf]; exact xx.lst h2 (nn _)
      · have dvE := ((dv.go G5).go (xx.of0 (M := [a, l, tt, mm, ff])))
        exact DvAll.go (T := T) (DvAll.append dvE (.cons (.tup upd_same (n5 t2 ((zz.trans x1).al _ ht2)) (.cons (.str _) (.cons (.tup (x2.tup upd_same (nn _)) (n5 t1 (zz.al _ ht1)) dcut) .nil))) .nil)) Gs
      · intro d hd'
        rcases List.mem_append.mp hd' with z | z
        · exact hd d z
        · rw [List.mem_singleton.mp z]
          refine kind_ok hti (fun d hd2 => ?_) (by rw [List.length_append]; omega)
          rcases List.mem_append.mp hd2 with y | y
          · rw [he1] at y; exact hes d (List.mem_of_mem_drop (List.mem_of_mem_take y))
          · rw [he2] at y; exact hes d (List.mem_of_mem_drop (List.mem_of_mem_take y))
      · rw [List.map_append, hdt, List.take_add_one, ext] <;> rfl
      · rw [List.flatMap_append, List.map_append, hme]
        refine List.Perm.append hdp ?_
        have e : [PyData.tuple [.str ti, .tuple (es1 ++ es2)]].flatMap kMk = es1 ++ es2 := by simp [kMk, itemsD, sndD]
        rw [e]
        exact hpm.map _
      · intro d hd'
        rcases List.mem_append.mp hd' with z | z
        · exact hdg d z
        · rw [List.mem_singleton.mp z]
          refine kind_good hti (fun m hm2 => heg m (hpm.mem_iff.mp hm2)) (by rw [hpm.length_eq]; omega) (by rw [hpm.length_eq]; omega)
  · obtain ⟨ms, vs, ds, p5, p6, p7, p8, p9, p10, p11, rfl, gg, W4, e1, e2, lm, hm, e3, dv, ld, hd, hdt, hdp, hmnd, hdg⟩ := h
    rw [List.length_map] at ld W4
    have lv := dv.length
    refine ⟨_, rfl, .inl ⟨ff, _, rfl, SqL.of e3, fun t hnew => ?_⟩⟩
    have gn := Go.new (T := T) (M := []) (o := .tup vs) hnew
    have G := (gg.cut fresh).trans gn.of0
    obtain ⟨w1, w2, w3⟩ := all_bd hd
    have wne := W4.ne hnew
    have dE : Dv [a, l] (upd H4 t (.tup vs)) (.ref t) (.tuple ds) := .tup upd_same (nin wne) ((dv.go gn.of0).less up2)
    have dO : drawnOk (.tuple ds) := by
      cases ds with
      | nil => simp at ld; omega
      | cons d r =>
        refine ⟨d, r, rfl, ?_, ?_, ?_⟩
        · rw [wt_tup]
          have : (d :: r).length ≤ 6 := by omega
          omega
        · simp only [nice]
          exact w2
        · simp only [PyData.depth]
          omega
    rw [List.length_map, List.take_length] at hdt
    have dK : kindsB (.tuple ds) = true := kinds_good (by omega) lts htn hdt hdp hmnd hdg
    exact q _ _ _ dE dO dK ((W4.go gn).up (by omega)) G (G.tb ht)
end
end K2
set_option Elab.async false
set_option linter.all false
set_option maxRecDepth 100000
set_option maxHeartbeats 8000000
namespace K2
open PySem PySem.Spec PyProof.Rows L2 GxR NdefX GA SL RZ
variable [SL.LamT]
abbrev s_parts : Stmt := top 36
abbrev NpA : List Str := ["makers", "words", "parts", "met", "word", "entries", "joined", "entry", "_"]
theorem sc_parts : FnScope NpA ["makers", "words"] (defScope s_parts) := ⟨rfl, rfl, rfl, by decide +kernel, rfl, by decide +kernel, by decide +kernel⟩
def eD : Ent → PyData
  | .inl z => .int z
  | .inr t => .tuple (t.map kD)
def kidsD (ks : List PyData) (t : List Key) : PyData := .list ((kids ks t).map eD)
def PartsAt (ks : List PyData) (M : List Addr) (H : Hp) (kvs : List (List Key × V)) (L : List (List Key)) : Prop := kvs.map (·.1) = L ∧ DvAll M H (kvs.map (·.2)) (L.map (kidsD ks))
def PartsD (H : Hp) (P : Addr) (ks : List PyData) (L : List (List Key)) : Prop := ∃ kvs, H P = some (.dT kvs) ∧ PartsAt ks [] H kvs L
def sp_parts (T : List Addr) : Sp := fun vs H Q _ => ∃ (D : Addr) (tv : V) (ks : List PyData) (ws : List Key) (s : List Str), vs = [.ref D, tv] ∧ kindsB (.tuple ks) = true ∧ MkD H D ks ∧ Dv [] H tv (.tuple (ws.map kD)) ∧ run ks s ws = some [] ∧ ws.length ≤ 400 ∧ Tabs T H ∧
  ∀ P H', H P = none → PartsD H' P ks (keysR ks ws) → Go T [] H H' → Tabs T H' → Q (.ref P) H'
theorem any_fst {kvs : List (List Key × V)} {t : List Key} : (kvs.any fun kv => decide (kv.1 = t)) = true ↔ t ∈ kvs.map (·.1) := by
  simp [List.any_eq_true]
/-- an entry laid -/
theorem parts_put {ks : List PyData} {M : List Addr} {H : Hp} {t : List Key} {v : V} (hv : Dv M H v (kidsD ks t)) : ∀ {kvs : List (List Key × V)} {L : List (List Key)}, PartsAt ks M H kvs L → PartsAt ks M H (putK kvs t v) (addK L t) := by
  intro kvs L ⟨h1, h2⟩
  unfold putK addK
  by_cases c : t ∈ L
  · rw [if_pos c, if_pos (any_fst.mpr (by rw [h1]; exact c))]
    have e1 : ∀ kvs : List (List Key × V), (kvs.map (fun kv => if kv.1 = t then (kv.1, v) else kv)).map (·.1) = kvs.map (·.1) := fun kvs => by
      rw [List.map_map]
      refine List.map_congr_left fun kv _ => ?_
      show (if kv.1 = t then (kv.1, v) else kv).1 = kv.1
      split <;> rfl
    refine ⟨(e1 kvs).trans h1, ?_⟩
    subst h1
    clear c e1
    induction kvs with
    | nil => exact .nil
    | cons kv kvs ih =>
      cases h2 with
      | cons a b =>
        refine .cons ?_ (ih b)
        show Dv M H (if kv.1 = t then (kv.1, v) else kv).2 _
        by_cases e : kv.1 = t
        · rw [if_pos e]; show Dv M H v (kidsD ks kv.1); rw [e]; exact hv
        · rw [if_neg e]; exact a
  · rw [if_neg c, if_neg (fun z => c (by rw [← h1]; exact any_fst.mp z))]
    refine ⟨by rw [List.map_append, h1] <;> rfl, ?_⟩
    rw [List.map_append, List.map_append]
    exact h2.append (.cons hv .nil)
theorem PartsAt.go {T M : List Addr} {ks : List PyData} {H H' : Hp} {kvs : List (List Key × V)} {L : List (List Key)} (h : PartsAt ks M H kvs L) (g : Go T M H H') : PartsAt ks M H' kvs L := ⟨h.1, h.2.go g⟩
theorem PartsAt.hide {M : List Addr} {ks : List PyData} {H : Hp} {a : Addr} {kvs : List (List Key × V)} {L : List (List Key)} (h : PartsAt ks M H kvs L) (ha : H a = none) : PartsAt ks (a :: M) H kvs L := ⟨h.1, h.2.hide ha⟩
theorem PartsAt.less {M M' : List Addr} {ks : List PyData} {H : Hp} {kvs : List (List Key × V)} {L : List (List Key)} (h : PartsAt ks M H kvs L) (s : ∀ b ∈ M', b ∈ M) : PartsAt ks M' H kvs L := ⟨h.1, h.2.less s⟩
theorem join_le {ks : List PyData} {es : List Ent} (j : Nat) : (joinE (es.take j)).length ≤ (joinE es).length := by
  rw [← join_cut j es, List.length_append]
  omega
theorem join_next {es : List Ent} {j : Nat} {e : Ent} (h : es[j]? = some e) : joinE (es.take (j + 1)) = joinE (es.take j) ++ wE e := by
  rw [List.take_add_one, h, join_app]
  show _ ++ (wE e ++ []) = _
  rw [List.append_nil]
theorem ms_pop {r : List V} {v : V} : ((v :: r).reverse)[((v :: r).reverse).length - 1]? = some v ∧ ((v :: r).reverse).dropLast = r.reverse := by
  rw [List.reverse_cons]
  constructor
  · rw [List.length_append, List.length_singleton, Nat.add_sub_cancel, List.getElem?_append_right (Nat.le_refl _), Nat.sub_self]
    rfl
  · exact List.dropLast_concat
section
variable {P : Program} {w : World} {K : PySem.W.Frag} {mg : Str → Option Value} {base : Heap} {f c Pt CK CR : Addr} {fd : FuncData} {T : List Addr}
theorem ok_parts (F : Fun K "_parts_of" "_parts_of" s_parts f fd) (B : Bl mg) (hrev : mg "reversed" = none) (Ff : Fnn P w K mg base CX0 1 "fields_of" ["makers", "maker"] sp_fields_of) : FnOk P w K mg base CX0 2 f fd ["makers", "words"] (sp_parts T) := by
  have nd := sc_parts.nd
  refine F.ok sc_parts (fun vs H Q E h => ?_) (fun cdv A outer s H vs Q E hr h => ?_)
  · obtain ⟨_, _, _, _, _, rfl, _⟩ := h
    rfl
  obtain ⟨D, tv, ks, ws, st, rfl, hk, hD, hv, hrun, hlen, ht, q⟩ := h
  have hu : (A.deeper (envOfC "_parts_of" (defScope s_parts) s.heap.objs.size f cdv)).units + 1 < cLine := by
    have := hr.un
    omega
  refine ⟨_, pss_cons (ps_set (i := 2) nd rfl (.inl rfl) pe_dnewT)
    (pss_cons (ps_set (i := 3) nd rfl (.inr rfl) (pe_lst pa_nil))
    (pss_cons (ps_for PassesOwn.never rfl (RT.pi_revA rfl hrev (pv 1)) (pg_name (i := 4) nd rfl (.inl rfl))
      (pss_cons (ps_if (pt_not (pt_val (pe_isi_str B (pv 4)))) (pss_cons (ps_expr (pe_bm PySem.F.plainAttrs_list PySem.F.slot_list_append PySem.F.type_list_append mt_append (pv 3) (pa_cons (pv 4) pa_nil))) (pss_one ps_continue)) pss_nil)
      (pss_cons (ps_setLc (i := 5) (own := [("_", 8)]) (g := gName 8) (tt := tYes) (te := tBM0 K "list" rPop (tVar 3)) rfl nd rfl rfl (sw_true rfl rfl rfl (by decide +kernel)) (pi_tup (pe_fn Ff hr (by decide) pass0 (pa_cons (pv 0) (pa_cons (pv 4) pa_nil))))
        (blkOk_by (own := [("_", 8)]) (N := NpA) (sc := defScope s_parts) (by decide +kernel)) (fun _ _ _ _ _ => pg_name (i := 8) nd rfl (.inl rfl)) (fun _ _ _ _ _ => pts_nil)
        (fun _ _ _ _ _ => pe_bm0 PySem.F.plainAttrs_list PySem.F.slot_list_pop PySem.F.type_list_pop mt_pop (pv 3)))
      (pss_cons (ps_set (i := 6) nd rfl (.inl rfl) (pe_lst (pa_cons (pv 4) pa_nil)))
      (pss_cons (ps_for PassesOwn.never rfl (pi_list (pv 5)) (pg_name (i := 7) nd rfl (.inl rfl))
        (pss_one (ps_expr (pe_bm PySem.F.plainAttrs_list PySem.F.slot_list_extend PySem.F.type_list_extend mt_extT (pv 6) (pa_cons (pe_ifExp (pt_val (pe_isi_tuple B (pv 7))) (pv 7) (pe_tup (pa_cons (pv 7) pa_nil))) pa_nil)))))
      (pss_cons (ps_expr (pe_bm PySem.F.plainAttrs_list PySem.F.slot_list_append PySem.F.type_list_append mt_append (pv 3) (pa_cons (pe_toTup B (pv 6)) pa_nil)))
      (pss_one (ps_dput hu (pv 2) (pe_toTup B (pv 6)) (pv 5) rfl))))))))
    (pss_one (ps_ret (pv 2))))), ?_⟩
  have nn : ∀ b : Addr, b ∉ ([] : List Addr) := fun b => List.not_mem_nil
  obtain ⟨wa, xs, rfl, ewa, _, dw⟩ := dv_tup hv
  have ex : xs = ws.map kV := of_words dw
  subst ex
  refine fun PA hPA => ?_
  refine ⟨Nat.zero_le _, fun MA hMA => ?_⟩
  have hMA0 : H MA = none := upd_none hMA
  have nPM : PA ≠ MA := fun z => by rw [z, upd_same] at hMA; cases hMA
  have G1 : Go T [] H (upd (upd H PA (.dT [])) MA (.lst [])) := (Go.new hPA).trans (Go.new hMA)
  refine ⟨_, rfl, wa, ws.map kV, rfl, .inr ⟨SqT.of (G1.tup ewa (nn _)), ?_⟩⟩
  refine RT.for_ItvT (fun i σ H' => ∃ p4 p5 p6 p7 p8 ms kvs, σ = [some (.ref D), some (.ref wa), some (.ref PA), some (.ref MA), p4, p5, p6, p7, p8] ∧ Go T [] H H' ∧ H' PA = some (.dT kvs) ∧ H' MA = some (.lst ms.reverse) ∧
      DvAll [PA, MA] H' ms ((metR ks (ws.drop (ws.length - i))).map eD) ∧ PartsAt ks [PA, MA] H' kvs (keysR ks (ws.drop (ws.length - i))))
    ⟨none, none, none, none, none, [], [], rfl, G1, by rw [upd_ne nPM]; exact upd_same, upd_same, ?_, ?_⟩ (fun i σ H' ⟨_, _, _, _, _, _, _, _, g, _⟩ => SqT.of (g.tup ewa (nn _))) (fun i x σ H4 hi ex h => ?_) (fun σ H4 h => ?_)
  · rw [Nat.sub_zero, List.drop_length]; exact .nil
  · rw [Nat.sub_zero, List.drop_length]; exact ⟨rfl, .nil⟩
  · obtain ⟨p4, p5, p6, p7, p8, ms, kvs, rfl, g3, eP, eM, dm, hp⟩ := h
    rw [List.length_map] at hi ex
    have ed : ws.drop (ws.length - (i + 1)) = ws.drop (ws.length - 1 - i) := by rw [show ws.length - (i + 1) = ws.length - 1 - i by omega]
    rw [List.getElem?_map] at ex
    obtain ⟨wd, ew, rfl⟩ := Option.map_eq_some_iff.mp ex
    have ed2 : ws.drop (ws.length - 1 - i) = wd :: ws.drop (ws.length - i) := by
      rw [List.drop_eq_getElem?_toList_append, ew, show ws.length - 1 - i + 1 = ws.length - i by omega]
      rfl
    rw [ed, ed2]
    obtain ⟨s1, hs1⟩ : ∃ s1, run ks s1 (wd :: ws.drop (ws.length - i)) = some [] := by
      rw [← List.take_append_drop (ws.length - 1 - i) ws] at hrun
      obtain ⟨t, _, h2⟩ := run_parts hrun
      exact ⟨t, by rw [← ed2]; exact h2⟩
    have hR : (ws.drop (ws.length - i)).length ≤ 400 := by rw [List.length_drop]; omega
    generalize ws.drop (ws.length - i) = R at dm hp hs1 hR
    have lms : ms.length ≤ 400 := by
      have h1 := dm.length
      obtain ⟨f1, r1, _, c1, h2⟩ := run_cons hs1
      have h3 := (met_run h2)
      have h4 : ∀ es : List Ent, EOk ks (nxt ks wd ++ r1) es → (es.length ≤ (joinE es).length) := fun es he => by
        clear h3 h1
        generalize nxt ks wd ++ r1 = fs at he
        induction es generalizing fs with
        | nil => exact Nat.zero_le _
        | cons e es ih =>
          match fs, he with
          | f :: fs, he =>
            have := ih fs he.2
            show es.length + 1 ≤ (wE e ++ joinE es).length
            rw [List.length_append]
            have : 1 ≤ (wE e).length := by
              cases e with
              | inl z => exact Nat.le_refl _
              | inr t => obtain ⟨_, _, x, r, rfl⟩ := he.1; exact Nat.succ_le_succ (Nat.zero_le _)
            omega
      have h5 := h4 _ h3.1
      rw [h3.2] at h5
      rw [List.length_map] at h1
      omega
    have lrev : ms.reverse.length ≤ 400 := by rw [List.length_reverse]; exact lms
    have dmS : ∀ o, Go T [PA, MA] H4 (upd H4 MA o) := fun o => Go.set eM (fun _ z => by cases z) (by simp)
    cases wd with
    | inl z =>
      refine ⟨_, rfl, _, [], .int z, rfl, .int z, _, rfl, iteT ?_⟩
      refine ⟨_, rfl, .inl ⟨rfl, _, SqL.of eM⟩, _, rfl, MA, _, _, rfl, rfl, eM, by rw [sizeLine_eq]; omega, ?_⟩
      refine ⟨some (.int z), p5, p6, p7, p8, .int z :: ms, kvs, rfl, g3.over hMA0 eM (fun _ z => by cases z), by rw [upd_ne nPM]; exact eP, by rw [upd_same, List.reverse_cons] <;> rfl, .cons (.int z) (dm.go (dmS _)), hp.go (dmS _)⟩
    | inr xn =>
      refine ⟨_, rfl, _, [], .str xn, rfl, .str xn, _, rfl, iteF ?_⟩
      obtain ⟨f1, r1, e1, c1, h2⟩ := run_cons hs1
      subst e1
      obtain ⟨k1, k2, k3, k4, k5, post, k6, k7⟩ := tOf_ok hs1
      have jR : joinE (metR ks R) = R := (met_run h2).2
      have hname : xn ∈ namesM (rowsM ks) := by
        simp only [okW, Bool.and_eq_true, decide_eq_true_eq] at c1
        exact c1.1.2
      obtain ⟨nu, hkb, hk6⟩ := kinds_names hk
      refine ⟨_, rfl, _, rfl, D, xn, ks, rfl, hD.go g3, hname, fun kd pl m fv hr' hm' hv' => ?_⟩
      obtain ⟨fa, rfl, efa, _, f4⟩ := flds_dv (rows_maker hk hr') hv'
      have efl : flK ks xn = flds m := by rw [← hm']; exact flK_eq nu hr'
      have lfl : ((flds m).map V.str).length = (flK ks xn).length := by rw [List.length_map, efl]
      have lme := dm.length
      rw [List.length_map] at lme
      have nfM : fa ∉ [MA] := fun z => by rw [List.mem_singleton.mp z, eM] at efa; cases efa
      refine ⟨fa, rfl, ⟨_, SqT.of efa⟩, fun E1 hE1 => ?_⟩
      have nME : MA ≠ E1 := ne_of_none eM hE1
      refine lc_it (n := ((flds m).map V.str).length) walk_tup (fun j H' => Go T [] H H' ∧ Go T [MA] H4 H' ∧ H' MA = some (.lst (ms.drop j).reverse) ∧ H' E1 = some (.lst (ms.take j)))
        ⟨g3.trans (Go.new hE1), Go.new hE1, by rw [upd_ne nME, List.drop_zero]; exact eM, by rw [List.take_zero]; exact upd_same⟩ (fun j H' _ h => SqT.of (h.2.1.tup efa nfM)) (fun j v H5 H6 hj h y => ?_) (fun H5 h => ?_)
      · obtain ⟨g5, g45, em5, ee5⟩ := h
        obtain ⟨rfl, _⟩ := y
        have hjm : j < ms.length := by omega
        have edr : ms.drop j = ms[j] :: ms.drop (j + 1) := List.drop_eq_getElem_cons hjm
        rw [edr] at em5
        obtain ⟨pp1, pp2⟩ := ms_pop (r := ms.drop (j + 1)) (v := ms[j])
        refine ⟨rfl, _, rfl, .inl ⟨rfl, _, SqL.of em5⟩, MA, _, ms[j], rfl, rfl, em5, pp1, ms.take j, by rw [upd_ne nME.symm]; exact ee5, by rw [List.length_take, sizeLine_eq]; omega, ?_, ?_, ?_, ?_⟩
        · have gA := g5.over hMA0 em5 (o := .lst ((ms[j] :: ms.drop (j + 1)).reverse).dropLast) (fun _ z => by cases z)
          exact gA.over (g3.al _ hE1) (by rw [upd_ne nME.symm]; exact ee5) (fun _ z => by cases z)
        · have gA := g45.trans (Go.set (T := T) (M := [MA]) (o := .lst ((ms[j] :: ms.drop (j + 1)).reverse).dropLast) em5 (fun _ z => by cases z) (by simp))
          exact gA.over hE1 (by rw [upd_ne nME.symm]; exact ee5) (fun _ z => by cases z)
        · rw [upd_ne nME, upd_same, pp2]
        · rw [upd_same, List.take_add_one, List.getElem?_eq_getElem hjm]
          rfl
      obtain ⟨g5, g45, em5, ee5⟩ := h
      rw [lfl] at em5 ee5
      have dm5 : DvAll [PA, MA] H5 ms ((metR ks R).map eD) := dm.go (g45.more (by simp))
      have hp5 : PartsAt ks [PA, MA] H5 kvs (keysR ks R) := hp.go (g45.more (by simp))
      have eP5 := g45.gr _ _ eP (by simpa using nPM) (fun _ z => by cases z)
      have nPE : PA ≠ E1 := ne_of_none eP hE1
      have lk : (flK ks xn).length ≤ 4 := flK_len hk xn
      refine ⟨_, rfl, by show 1 ≤ sizeLine; rw [sizeLine_eq]; omega, fun J hJ => ?_⟩
      have nMJ : MA ≠ J := ne_of_none em5 hJ
      have nEJ : E1 ≠ J := ne_of_none ee5 hJ
      have nPJ : PA ≠ J := ne_of_none eP5 hJ
      have dm6 := (dm5.hide hJ).go (Go.new (T := T) (o := .lst [.str xn]) hJ)
      have ee6 : (upd H5 J (.lst [.str xn])) E1 = some (.lst (ms.take (flK ks xn).length)) := by rw [upd_ne nEJ]; exact ee5
      refine ⟨_, rfl, E1, rfl, ⟨_, SqL.of ee6⟩, ?_⟩
      refine for_it (n := (ms.take (flK ks xn).length).length) walk_list (fun j σ H' => ∃ p7 p8, σ = [some (.ref D), some (.ref wa), some (.ref PA), some (.ref MA), some (.str xn), some (.ref E1), some (.ref J), p7, p8] ∧ Go T [] H H' ∧ Go T [J] (upd H5 J (.lst [.str xn])) H' ∧
          H' J = some (.lst (.str xn :: (joinE (((metR ks R).take (flK ks xn).length).take j)).map kV)))
        ⟨p7, p8, rfl, g5.trans (Go.new hJ), Go.refl, upd_same⟩ (fun j σ H' _ h => SqL.of (by obtain ⟨_, _, _, _, g, _⟩ := h; exact g.lst ee6 (by simpa using nEJ))) (fun j x σ H7 H8 hj h y => ?_) (fun σ H7 h => ?_)
      · obtain ⟨p7, p8, rfl, g7, g67, eJ7⟩ := h
        obtain ⟨rfl, ex⟩ := y
        have dm7 := dm6.go (g67.more (M' := [J, PA, MA]) (by simp))
        obtain ⟨de, ede, dx⟩ := (dm7.take (flK ks xn).length).get ex
        rw [← List.map_take, List.getElem?_map] at ede
        obtain ⟨e, ee, rfl⟩ := Option.map_eq_some_iff.mp ede
        have ln : (joinE (((metR ks R).take (flK ks xn).length).take (j + 1))).length ≤ 400 := by
          have h1 := join_le (ks := ks) (es := (metR ks R).take (flK ks xn).length) (j + 1)
          have h2 := join_le (ks := ks) (es := metR ks R) (flK ks xn).length
          rw [jR] at h2
          omega
        rw [join_next ee, List.length_append] at ln
        refine ⟨_, rfl, .inl ⟨rfl, _, SqL.of eJ7⟩, ?_⟩
        refine ⟨_, rfl, _, _, _, rfl, dx, _, rfl, ?_⟩
        cases e with
        | inl z =>
          cases dx
          refine iteF ?_
          refine ⟨_, rfl, by show 1 ≤ sizeLine; rw [sizeLine_eq]; omega, fun t1 ht1 => ?_⟩
          have nJt : J ≠ t1 := ne_of_none eJ7 ht1
          have eJ8 : (upd H8 t1 (.tup [V.int z])) J = some (.lst (.str xn :: (joinE (((metR ks R).take (flK ks xn).length).take j)).map kV)) := by rw [upd_ne nJt]; exact eJ7
          refine ⟨J, t1, _, _, rfl, rfl, eJ8, SqT.of upd_same, by rw [List.length_cons, List.length_map, sizeLine_eq]; show _ + 1 ≤ _; omega, ?_⟩
          refine ⟨_, _, rfl, (g7.trans (Go.new ht1)).over (g5.al _ hJ) eJ8 (fun _ z => by cases z), (g67.trans (Go.new ht1)).trans (Go.set eJ8 (fun _ z => by cases z) (by simp)), ?_⟩
          rw [upd_same, join_next ee, List.map_append]
          rfl
        | inr t =>
          obtain ⟨ta, zs, rfl, eta, nta, dz⟩ := dv_tup dx
          have ezs := of_words dz
          subst ezs
          refine iteT ?_
          refine ⟨_, rfl, J, ta, _, _, rfl, rfl, eJ7, SqT.of eta, by rw [List.length_cons, List.length_map, List.length_map, sizeLine_eq]; have : (wE (.inr t)).length = t.length := rfl; omega, ?_⟩
          refine ⟨_, _, rfl, g7.over (g5.al _ hJ) eJ7 (fun _ z => by cases z), g67.trans (Go.set eJ7 (fun _ z => by cases z) (by simp)), ?_⟩
          rw [upd_same, join_next ee, List.map_append]
          rfl
      · obtain ⟨p7, p8, rfl, g7, g67, eJ7⟩ := h
        rw [List.take_of_length_le (by rw [List.length_take, List.length_take]; omega)] at eJ7
        have eJ7 : H7 J = some (.lst ((tOf ks xn R).map kV)) := eJ7
        have em7 : H7 MA = some (.lst (ms.drop (flK ks xn).length).reverse) := g67.lst (by rw [upd_ne nMJ]; exact em5) (by simpa using nMJ)
        have ee7 : H7 E1 = some (.lst (ms.take (flK ks xn).length)) := g67.lst ee6 (by simpa using nEJ)
        have eP7 : H7 PA = some (.dT kvs) := g67.gr _ _ (by rw [upd_ne nPJ]; exact eP5) (by simpa using nPJ) (fun _ z => by cases z)
        have dm7 : DvAll [PA, MA] H7 ms ((metR ks R).map eD) := (dm6.go (g67.more (M' := [J, PA, MA]) (by simp))).less (by simp)
        have hp7 : PartsAt ks [PA, MA] H7 kvs (keysR ks R) := (((hp5.hide hJ).go (Go.new (T := T) (o := .lst [.str xn]) hJ)).go (g67.more (M' := [J, PA, MA]) (by simp))).less (by simp)
        refine ⟨_, rfl, .inl ⟨rfl, _, SqL.of em7⟩, _, rfl, .inl ⟨J, _, rfl, SqL.of eJ7, fun t1 ht1 => ?_⟩⟩
        have nMt : MA ≠ t1 := ne_of_none em7 ht1
        have em8 : (upd H7 t1 (.tup ((tOf ks xn R).map kV))) MA = some (.lst (ms.drop (flK ks xn).length).reverse) := by rw [upd_ne nMt]; exact em7
        refine ⟨MA, _, _, rfl, rfl, em8, by rw [List.length_reverse, List.length_drop, sizeLine_eq]; omega, ?_⟩
        have nJM := nMJ.symm
        have g89 : Go T [MA] (upd H7 t1 (.tup ((tOf ks xn R).map kV))) (upd (upd H7 t1 (.tup ((tOf ks xn R).map kV))) MA (.lst ((ms.drop (flK ks xn).length).reverse ++ [.ref t1]))) := Go.set em8 (fun _ z => by cases z) (by simp)
        have g79 := (Go.new (T := T) (M := [MA]) (o := .tup ((tOf ks xn R).map kV)) ht1).trans g89
        have gA : Go T [] H (upd (upd H7 t1 (.tup ((tOf ks xn R).map kV))) MA (.lst ((ms.drop (flK ks xn).length).reverse ++ [.ref t1]))) := (g7.trans (Go.new ht1)).over hMA0 em8 (fun _ z => by cases z)
        refine ⟨_, rfl, _, rfl, _, rfl, .inl ⟨J, _, rfl, SqL.of (g79.lst eJ7 (by simpa using nJM)), fun t2 ht2 => ?_⟩⟩
        have eP9 := (g79.trans (Go.new (o := .tup ((tOf ks xn R).map kV)) ht2)).gr _ _ eP7 (by simpa using nPM) (fun _ z => by cases z)
        have nPt : PA ≠ t2 := ne_of_none (g79.gr _ _ eP7 (by simpa using nPM) (fun _ z => by cases z)) ht2
        have lkv : kvs.length ≤ 400 := by
          have h1 := congrArg List.length hp7.1
          rw [List.length_map] at h1
          rw [h1]
          exact Nat.le_trans (keysR_len R) hR
        refine ⟨PA, _, rfl, DPut.t eP9 upd_same (by rw [sizeLine_eq]; omega), ?_⟩
        have gF : Go T [PA, MA] H7 (upd (upd (upd (upd H7 t1 (.tup ((tOf ks xn R).map kV))) MA (.lst ((ms.drop (flK ks xn).length).reverse ++ [.ref t1]))) t2 (.tup ((tOf ks xn R).map kV))) PA (.dT (putK kvs (tOf ks xn R) (.ref E1)))) :=
          ((g79.more (by simp)).trans (Go.new ht2)).trans (Go.set eP9 (fun _ z => by cases z) (by simp))
        have nPt1 : PA ≠ t1 := ne_of_none eP7 ht1
        have et9 : (upd (upd H7 t1 (.tup ((tOf ks xn R).map kV))) MA (.lst ((ms.drop (flK ks xn).length).reverse ++ [.ref t1]))) t1 = some (.tup ((tOf ks xn R).map kV)) := by rw [upd_ne nMt.symm]; exact upd_same
        have ntt : t1 ≠ t2 := ne_of_none et9 ht2
        have nMt2 : MA ≠ t2 := ne_of_none upd_same ht2
        refine ⟨_, _, _, _, _, .ref t1 :: ms.drop (flK ks xn).length, _, rfl, (gA.trans (Go.new ht2)).over hPA eP9 (fun _ z => by cases z), upd_same, ?_, ?_, ?_⟩
        · rw [upd_ne nPM.symm, upd_ne nMt2, upd_same, List.reverse_cons]
        · refine .cons (d := .tuple ((tOf ks xn R).map kD)) (.tup (by rw [upd_ne nPt1.symm, upd_ne ntt]; exact et9) (by simp [nPt1.symm, nMt.symm]) (words_dv _)) ?_
          have := (dm7.drop (flK ks xn).length).go gF
          rw [← List.map_drop] at this
          exact this
        · refine parts_put ?_ (hp7.go gF)
          unfold kidsD
          rw [k3]
          refine .lst (gF.lst ee7 (by simp [nPE.symm, nME.symm])) (by simp [nPE.symm, nME.symm]) ?_
          have := (dm7.take (flK ks xn).length).go gF
          rw [← List.map_take] at this
          exact this
  · obtain ⟨p4, p5, p6, p7, p8, ms, kvs, rfl, g3, eP, eM, dm, hp⟩ := h
    rw [List.length_map, Nat.sub_self, List.drop_zero] at hp
    exact ⟨_, rfl, q PA H4 hPA ⟨kvs, eP, hp.1, hp.2.less (by simp)⟩ g3 (g3.tb ht)⟩
end
end K2
set_option Elab.async false
set_option linter.all false
set_option maxRecDepth 100000
set_option maxHeartbeats 8000000
namespace K2
open PySem PySem.Spec PyProof.Rows L2 GxR NdefX GA SL RZ
variable [SL.LamT]
abbrev s_law_table : Stmt := top 45
abbrev s_law_integer : Stmt := top 46
theorem sc_law_table : FnScope ["family", "table", "title", "makers", "k"] ["family"] (defScope s_law_table) := ⟨rfl, rfl, rfl, by decide +kernel, rfl, by decide +kernel, by decide +kernel⟩
theorem sc_law_integer : FnScope ["well", "small", "far", "great"] ["well"] (defScope s_law_integer) := ⟨rfl, rfl, rfl, by decide +kernel, rfl, by decide +kernel, by decide +kernel⟩
def bigInt : Nat := 10 ^ 102
def sp_integer (T : List Addr) : Sp := fun vs H Q _ => ∃ (a l : Addr) (k : Int), vs = [.ref a] ∧ k ≤ 549755813888 ∧ WellAt a l H k ∧ Tabs T H ∧ ∀ (z : Int) H', z.natAbs ≤ bigInt → WellAt a l H' (k + 5) → Go T [a, l] H H' → Tabs T H' → Q (.int z) H'
section
variable {P : Program} {w : World} {K : PySem.W.Frag} {mg : Str → Option Value} {base : Heap} {f c Pt CK CR : Addr} {fd : FuncData} {T : List Addr}
theorem ok_law_table (F : Fun K "_law_table" "_law_table" s_law_table f fd) (B : Bl mg) : FnOk P w K mg base CX0 1 f fd ["family"] (sp_makers_of T) := by
  have nd := sc_law_table.nd
  refine F.ok sc_law_table (fun vs H Q E h => ?_) (fun cdv A outer s H vs Q E hr h => ?_)
  · obtain ⟨_, _, rfl, _⟩ := h
    rfl
  obtain ⟨v, ks, rfl, hv, hk, ht, q⟩ := h
  have hu : (A.deeper (envOfC "_law_table" (defScope s_law_table) s.heap.objs.size f cdv)).units + 1 < cLine := by
    have := hr.un
    omega
  refine ⟨_, pss_cons (ps_set (i := 1) nd rfl (.inl rfl) pe_dnewK)
    (pss_cons (ps_for PassesOwn.never rfl (pi_tup (pv 0)) (pg_tup rfl (pgs_cons (pg_name (i := 2) nd rfl (.inl rfl)) (pgs_cons (pg_name (i := 3) nd rfl (.inl rfl)) pgs_nil)))
      (pss_one (ps_for PassesOwn.never rfl (pi_range1 rfl B.range (pa_cons (pe_lenq B (pv 3)) pa_nil)) (pg_name (i := 4) nd rfl (.inl rfl))
        (pss_one (ps_dput hu (pv 1) (pe_ix ix_tup (pe_ix ix_tup (pv 3) (pv 4) (fun _ _ => rfl)) pe_int (fun _ _ => rfl)) (pe_tup (pa_cons (pv 2) (pa_cons (pv 4) (pa_cons (pe_ix ix_tup (pe_ix ix_tup (pv 3) (pv 4) (fun _ _ => rfl)) pe_int (fun _ _ => rfl)) pa_nil)))) rfl)))))
    (pss_one (ps_ret (pv 1)))), ?_⟩
  have nn : ∀ b : Addr, b ∉ ([] : List Addr) := fun b => List.not_mem_nil
  obtain ⟨nu, hkb, hk6⟩ := kinds_names hk
  obtain ⟨a, xs, rfl, ea, _, dv⟩ := dv_tup hv
  have lx := dv.length
  refine fun D hD => ?_
  have dvD := dv.hide hD
  refine ⟨_, rfl, a, rfl, ⟨_, SqT.of ((Go.new (T := T) (M := []) (o := .dK []) hD).tup ea (nn _))⟩, ?_⟩
  refine for_it (n := xs.length) walk_tup (fun i σ H' => ∃ p2 p3 p4, σ = [some (.ref a), some (.ref D), p2, p3, p4] ∧ Go T [] H H' ∧ ∃ kvs, H' D = some (.dK kvs) ∧ Ents [D] H' kvs (rowsM (ks.take i)))
    ⟨none, none, none, rfl, Go.new hD, [], upd_same, .nil⟩ (fun i σ H' _ ⟨_, _, _, _, g, _⟩ => SqT.of (g.tup ea (nn _))) (fun i x σ H3 H4 hi h y => ?_) (fun σ H3 h => ?_)
  · obtain ⟨p2, p3, p4, rfl, gg, kvs, eD, en⟩ := h
    obtain ⟨rfl, ex⟩ := y
    obtain ⟨k, ek, hx⟩ := dvD.get ex
    have hkk := hkb k (List.mem_of_getElem? ek)
    obtain ⟨kn, ms, rfl, m1, m6, hmm⟩ := kind_parts hkk
    obtain ⟨p, vx, vy, rfl, ep, np, hvx, hvy⟩ := dv_pair hx
    cases hvx
    obtain ⟨b, ys, rfl, eb, nb, dy⟩ := dv_tup hvy
    have ly := dy.length
    refine ⟨p, _, rfl, SqT.of (gg.tup ep (nn _)), rfl, _, _, rfl, _, _, rfl, rfl, ?_⟩
    refine ⟨_, rfl, _, _, rfl, .inr (SqT.of (gg.tup eb (nn _))), ?_⟩
    refine ⟨_, rfl, by omega, by rw [ly]; have := sizeLine_eq; omega, ?_⟩
    refine for_it (walk_range (lo := 0) (n := ((ys.length : Nat) : Int).toNat)) (fun j σ H' => ∃ p4, σ = [some (.ref a), some (.ref D), some (.str kn), some (.ref b), p4] ∧ Go T [] H H' ∧ ∃ kvs, H' D = some (.dK kvs) ∧ Ents [D] H' kvs (rowsM (ks.take i) ++ tag kn (ms.take j)))
      ⟨p4, rfl, gg, kvs, eD, by simpa [tag] using en⟩ (fun _ _ _ _ _ => trivial) (fun j x σ H5 H6 hj h y => ?_) (fun σ H5 h => ?_)
    · obtain ⟨p4, rfl, g3, kv3, eD3, en3⟩ := h
      obtain ⟨rfl, ey⟩ := y
      have ey2 : x = V.int (j : Int) := by rw [ey]; show V.int (0 + (j : Int)) = _; rw [Int.zero_add]
      clear ey
      subst ey2
      have hj2 : j < ys.length := by rw [Int.toNat_natCast] at hj; exact hj
      obtain ⟨md, em, hz⟩ := dy.get (List.getElem?_eq_getElem hj2)
      have hmd := hmm md (List.mem_of_getElem? em)
      obtain ⟨mn, fs, rfl, f4, hfs⟩ := maker_parts hmd
      generalize hyj : ys[j] = yj at hz
      have eyj : ys[j]? = some yj := by rw [List.getElem?_eq_getElem hj2, hyj]
      obtain ⟨q1, wx, wy, rfl, eq1, nq1, hwx, hwy⟩ := dv_pair hz
      cases hwx
      have sb := SqT.of (K := K) (g3.tup eb (nn _))
      have eq3 := g3.tup eq1 (nn _)
      refine ⟨_, rfl, _, rfl, _, rfl, _, rfl, b, ys, _, _, rfl, rfl, sb, atI_nat eyj, q1, _, 1, _, rfl, rfl, SqT.of eq3, atI_nat (j := 1) rfl, by show 3 ≤ sizeLine; decide, fun t2 ht2 => ?_⟩
      have u2 := Go.new (T := T) (M := [D]) (o := .tup [.str kn, .int (j : Nat), wy]) ht2
      have u2' := Go.new (T := T) (M := []) (o := .tup [.str kn, .int (j : Nat), wy]) ht2
      have tD : D ≠ t2 := ne_of_none eD3 ht2
      have eD4 := u2'.gr _ _ eD3 List.not_mem_nil fun _ z => by cases z
      have hmj : (kMk (.tuple [.str kn, .tuple ms]))[j]? = some (.tuple [.str mn, .tuple fs]) := em
      have fresh := name_new nu ek hmj
      have none_ : valV kv3 (.inr mn) = none := en3.none fresh
      have le := en3.length
      refine ⟨_, rfl, _, rfl, _, rfl, b, ys, _, _, rfl, rfl, SqT.of (u2'.tup (g3.tup eb (nn _)) (nn _)), atI_nat eyj, q1, _, 0, _, rfl, rfl, SqT.of (u2'.tup eq3 (nn _)), atI_nat (j := 0) rfl, D, _, rfl, .inl ⟨kv3, .inr mn, eD4, rfl, ?_, rfl⟩, _, rfl, (g3.trans u2').over hD eD4 (fun _ z => by cases z), kv3 ++ [(.inr mn, .ref t2)], ?_, ?_⟩
      · have l1 : (rowsM (ks.take i) ++ tag kn (ms.take j)).length ≤ 36 := by
          have a1 := rows_len (ks := ks.take i) fun k hk' => hkb k (List.mem_of_mem_take hk')
          rw [List.length_append, tag_len, List.length_take]
          rw [List.length_take] at a1
          omega
        rw [le, sizeLine_eq]
        omega
      · rw [upd_same, putK_new _ none_]
      · rw [tag_snoc em, ← List.append_assoc]
        have gS := Go.set (T := T) (M := [D]) (o := .dK (putK kv3 (.inr mn) (.ref t2))) eD4 (fun _ z => by cases z) List.mem_cons_self
        refine Ents.append ((en3.go u2).go gS) (.cons (fv := wy) (m := .tuple [.str mn, .tuple fs]) ?_ (by simpa using tD.symm) ?_ .nil)
        · rw [upd_ne tD.symm]
          exact upd_same
        · exact ((hwy.go (g3.of0 : Go T [D] H H6)).go u2).go gS
    · obtain ⟨p4, rfl, g3, kv3, eD3, en3⟩ := h
      rw [Int.toNat_natCast, ly, List.take_length] at en3
      refine ⟨_, _, _, rfl, g3, kv3, eD3, ?_⟩
      rw [rows_snoc ek]
      exact en3
  · obtain ⟨p2, p3, p4, rfl, gg, kvs, eD, en⟩ := h
    rw [lx, List.take_length] at en
    exact ⟨_, rfl, q D H3 hD ⟨kvs, eD, en.less (by simp)⟩ gg (gg.tb ht)⟩
theorem ok_law_integer (F : Fun K "_law_integer" "_law_integer" s_law_integer f fd) (B : Bl mg) (Fd : Fnn P w K mg base CX0 1 "_law_draw" ["well", "many"] (sp_draw T)) : FnOk P w K mg base CX0 2 f fd ["well"] (sp_integer T) := by
  have nd := sc_law_integer.nd
  refine F.ok sc_law_integer (fun vs H Q E h => ?_) (fun cdv A outer s H vs Q E hr h => ?_)
  · obtain ⟨_, _, _, rfl, _⟩ := h
    rfl
  obtain ⟨a, l, k, rfl, hk, W, ht, q⟩ := h
  refine ⟨_, pss_cons (ps_par (i := 1) (j := 2) rfl nd rfl rfl (by decide) rfl rfl (pa_cons (pe_op op_sub (pe_fn Fd hr (by decide) pass0 (pa_cons (pv 0) (pa_cons pe_int pa_nil))) pe_int) (pa_cons (pe_fn Fd hr (by decide) pass0 (pa_cons (pv 0) (pa_cons (pe_op op_pow pe_int pe_int) pa_nil))) pa_nil)) rfl)
    (pss_cons (ps_set (i := 3) nd rfl (.inl rfl) (pe_ix ix_list (pe_lst (pa_cons (pe_op op_pow pe_int pe_int) (pa_cons (pe_op op_mulW (pe_op op_pow pe_int pe_int) (pe_op op_pow pe_int pe_int)) pa_nil))) (pe_fn Fd hr (by decide) pass0 (pa_cons (pv 0) (pa_cons pe_int pa_nil))) (fun _ _ => rfl)))
    (pss_one (ps_ret (pe_ix ix_list (pe_lst (pa_cons (pv 1) (pa_cons (pv 1) (pa_cons (pe_op op_sub (pe_fn Fd hr (by decide) pass0 (pa_cons (pv 0) (pa_cons pe_int pa_nil))) pe_int) (pa_cons (pe_op op_add (pe_op op_mul (pv 1) (pv 3)) (pv 2)) pa_nil))))) (pe_fn Fd hr (by decide) pass0 (pa_cons (pv 0) (pa_cons pe_int pa_nil))) (fun _ _ => rfl))))), ?_⟩
  refine ⟨_, rfl, a, l, k, 7, rfl, by decide, by decide, by omega, W, ht, fun i1 H1 i10 i11 W1 g1 t1 => ?_⟩
  refine ⟨_, _, rfl, rfl, _, rfl, _, _, rfl, rfl, ⟨by decide, by decide, by decide⟩, a, l, k + 1, _, rfl, by decide, by decide, by omega, W1, t1, fun i2 H2 i20 i21 W2 g2 t2 => ?_⟩
  have e30 : (0 : Int) ≤ 1 := by decide
  refine ⟨_, _, rfl, _, _, rfl, rfl, ⟨by decide, by decide, by decide⟩, _, _, rfl, rfl, ⟨by decide, by decide, by decide⟩, _, _, rfl, rfl, ⟨by decide, by decide, by decide⟩, _, _, rfl, rfl, by show _ < _; decide +kernel, by show 2 ≤ sizeLine; decide, fun r hr1 => ?_⟩
  have u1 := Go.new (T := T) (M := []) (o := .lst [V.int (10 ^ (30 : Int).toNat), V.int (10 ^ (60 : Int).toNat * 10 ^ (40 : Int).toNat)]) hr1
  have W3 := W2.go u1
  have g13 := (g1.trans g2).trans (u1.of0 (M := [a, l]))
  have nr := W2.ne hr1
  have er : upd H2 r (.lst [V.int (10 ^ (30 : Int).toNat), V.int (10 ^ (60 : Int).toNat * 10 ^ (40 : Int).toNat)]) r = some _ := upd_same
  refine ⟨_, rfl, a, l, k + 2, 2, rfl, by decide, by decide, by omega, W3.up (by omega), u1.tb t2, fun i3 H3 i30 i31 W4 g4 t4 => ?_⟩
  obtain ⟨gv, eg, bg⟩ : ∃ g : Int, atI [V.int (10 ^ (30 : Int).toNat), V.int (10 ^ (60 : Int).toNat * 10 ^ (40 : Int).toNat)] i3 = some (.int g) ∧ 0 ≤ g ∧ g ≤ 10 ^ 100 := by
    have : i3 = 0 ∨ i3 = 1 := by omega
    rcases this with rfl | rfl
    · exact ⟨_, rfl, by decide +kernel, by decide +kernel⟩
    · exact ⟨_, rfl, by decide +kernel, by decide +kernel⟩
  refine ⟨r, _, i3, _, rfl, rfl, SqL.of (g4.lst er (nin nr)), eg, _, rfl, _, rfl, ?_⟩
  refine ⟨_, rfl, a, l, k + 3, 2001, rfl, by decide, by decide, by omega, W4.up (by omega), t4, fun i4 H4 i40 i41 W5 g5 t5 => ?_⟩
  refine ⟨_, _, rfl, rfl, _, rfl, _, rfl, _, _, rfl, rfl, .inl ⟨by show -2 ^ 64 < i1 - 3; omega, by show i1 - 3 < 2 ^ 64; omega⟩, _, rfl, _, _, rfl, rfl, by show 4 ≤ sizeLine; decide, fun p hp => ?_⟩
  have u2 := Go.new (T := T) (M := []) (o := .lst [V.int (i1 - 3), V.int (i1 - 3), V.int (i4 - 1000), V.int ((i1 - 3) * gv + i2)]) hp
  have W6 := W5.go u2
  refine ⟨_, rfl, a, l, k + 4, 4, rfl, by decide, by decide, by omega, W6.up (by omega), u2.tb t5, fun i5 H5 i50 i51 W7 g7 t7 => ?_⟩
  have e9 : (10 : Int) ^ Int.toNat 9 = 1000000000 := by decide
  rw [e9] at i21
  have e100 : ((10 : Int) ^ 100) * 10 ≤ (bigInt : Int) - 1000000000 := by unfold bigInt; decide +kernel
  have hm : ((i1 - 3) * gv).natAbs ≤ 3 * 10 ^ 100 := by
    rw [Int.natAbs_mul]
    have a1 : (i1 - 3).natAbs ≤ 3 := by omega
    have a2 : gv.natAbs ≤ 10 ^ 100 := by omega
    exact Nat.mul_le_mul a1 a2
  obtain ⟨zv, ez, bz⟩ : ∃ z : Int, atI [V.int (i1 - 3), V.int (i1 - 3), V.int (i4 - 1000), V.int ((i1 - 3) * gv + i2)] i5 = some (.int z) ∧ z.natAbs ≤ bigInt := by
    have : i5 = 0 ∨ i5 = 1 ∨ i5 = 2 ∨ i5 = 3 := by omega
    have hb : 10000 ≤ bigInt := by unfold bigInt; decide +kernel
    rcases this with rfl | rfl | rfl | rfl
    · exact ⟨_, rfl, by omega⟩
    · exact ⟨_, rfl, by omega⟩
    · exact ⟨_, rfl, by omega⟩
    · exact ⟨_, rfl, by generalize (i1 - 3) * gv = m at *; omega⟩
  refine ⟨p, _, i5, _, rfl, rfl, SqL.of (g7.lst upd_same (nin (W5.ne hp))), ez, ?_⟩
  exact q zv H5 bz (W7.up (by omega)) ((((g13.trans g4).trans g5).trans (u2.of0 (M := [a, l]))).trans g7) t7
end
end K2
set_option Elab.async false
set_option linter.all false
set_option maxRecDepth 100000
set_option maxHeartbeats 4000000
/-! own words, 54: a dict comprehension whose keys are tuples of ints and texts -/
namespace SL
open PySem PySem.Spec PyProof.Rows L2 GxR NdefX GA
variable [SL.LamT]
theorem d_dictSetT {X : Cx} {pins : List (Addr × Obj)} {σ : L2.St} {H : Hp} {s : Shared} {E : Value → Shared → Prop} {D b : Addr} {kvs : List (List Key × V)} {k : List Key} {v : V} {u r : Value} {Q : Unit → Shared → Prop} (hu : X.A.units < cLine) (I : Inv X pins σ H s)
    (hD : H D = some (.dT kvs)) (hb : H b = some (.tup (k.map kV))) (hz : kvs.length < sizeLine) (ry : RelV (.ref b) u) (rv : RelV v r) (h : ∀ s', Inv X pins σ (upd H D (.dT (putK kvs k v))) s' → Q () s') : wpAny (model X.prog X.w) X.A (dictSet D u r) Q E s := by
  cases (show u = Value.ref b from ry)
  obtain ⟨z, hd, xs, rel, dd⟩ := dt_of I.hok hD
  have hx : xs.length ≤ sizeLine := by rw [← Paired.length rel]; exact z
  have hl : (putK kvs k v).length ≤ sizeLine := by have := length_putK kvs k v; omega
  refine wpAny_dictSet_heap (hsz := hx) hu (key_of I.hok hb) dd fun h' dd' hs => h _ ?_
  obtain ⟨q, es, ep, hq, h2, h3, h4, _, h5⟩ := dd'
  refine d_write I (by rw [hD]; exact True.intro) hs ⟨q, hq⟩ ⟨hl, hd, _, (rel.put k hb rv).keeps fun c ys ec => ?_, q, es, ep, hq, h2, h3, h4, h5⟩
  rw [upd_ne (ne_of ec hD (fun z => nomatch z))]
  exact ec
section
variable {X : Cx}
def tDcT (wi : TI) (g : TG) (tt : TT) (tk tv : TE) (vs : List Nat) : TE := fun σ H Q => wi σ H fun J H1 => ∀ D, H1 D = none → ∃ W : Nat → Nat → Hp → Prop, (∃ m, W 0 m (upd H1 D (.dT []))) ∧ ∀ i m H, W i m H →
  (J.stop i H ∧ Q (.ref D) H) ∨ (J.go i H ∧ ∃ Nx : Hp → Prop, (∀ H', Nx H' → ∃ m', m' < m ∧ W (i + 1) m' H') ∧ ∀ x H', J.yld i H x H' → g x (wipe σ vs) H' fun σ2 H2 => wipe σ2 vs = wipe σ vs ∧ tt σ2 H2 fun b H3 =>
    if b = true then tk σ2 H3 fun y H4 => tv σ2 H4 fun z H5 => ∃ kvs k b, y = .ref b ∧ H5 b = some (.tup (k.map kV)) ∧ H5 D = some (.dT kvs) ∧ kvs.length < sizeLine ∧ Nx (upd H5 D (.dT (putK kvs k z))) else Nx H3)
theorem dcT_core {pins : List (Addr × Obj)} {s : Shared} {σ : L2.St} {H : Hp} {Q : VK} {kx vx tg iter : Expr} {ifs : List Expr} {scope : Scope} {own : List (Str × Nat)} {pos pos' : Pos} {wi : TI} {g : TG} {tt : TT} {tk tv : TE} {use : Option (Value → Sem Unit)} {Qf : Value → Shared → Prop}
    (hu : X.A.units < cLine) (hc : X.calm = true) (hN : X.N.Nodup) (I : Inv X pins σ H s) (hi : PI X tg iter wi) (ok : BlkOk X.N X.env.scope scope own)
    (hg : ∀ (s : Shared) (H : Hp) (C : Addr) (cl : List (Str × Addr)) (fp : List Addr), PG (X.blk s H scope (compEnvC scope cl C X.env) fp) tg g) (ht : ∀ (s : Shared) (H : Hp) (C : Addr) (cl : List (Str × Addr)) (fp : List Addr), PTs (X.blk s H scope (compEnvC scope cl C X.env) fp) ifs tt)
    (hk : ∀ (s : Shared) (H : Hp) (C : Addr) (cl : List (Str × Addr)) (fp : List Addr), PE (X.blk s H scope (compEnvC scope cl C X.env) fp) kx tk)
    (he : ∀ (s : Shared) (H : Hp) (C : Addr) (cl : List (Str × Addr)) (fp : List Addr), PE (X.blk s H scope (compEnvC scope cl C X.env) fp) vx tv) (hs : ∀ x, foldedSetIterable iter X.env x = pure x)
    (h : tDcT wi g tt tk tv (own.map (·.2)) σ H Q)
    (hRR : ∀ D C s' m H', Inv X pins σ H' s' → Q (.ref D) H' → s'.heap.Ns C m → FpOk X pins H' C → compPost (model X.prog X.w) X.A X.xe use Qf (.ref D) C (.ok .next) s') :
    wpAny (model X.prog X.w) X.A (comprehension (.DictComp kx vx [⟨tg, iter, ifs, 0⟩] scope pos) scope X.env pos' newDict false (eval iter X.env) use) Qf X.xe s := by
  have hfree : ∀ y ∈ scope.names, y.2 = .free → ∃ c, X.env.cells.lookup y.1 = some c := fun y hy e => by
    rcases ok.free y hy e with k | k
    · exact I.ok.has _ (.inl k)
    · exact I.ok.has _ (.inr k)
  refine wpAny_comprehension_free (use := use) rfl hs (closure_ok hfree) ok.kind (fun y hy e => by rw [ok.uniq y hy, e])
    (thn (hi.run pins s σ H _ I h) fun xv s1 hx => thn hx fun itv s2 h2 => ?_)
  obtain ⟨it, fp, tn, J, H2, e, I2, T, st2, f2, q⟩ := h2
  subst e
  refine wpAny_newObj_type (newEnv_comp ?_)
  generalize hD : s2.heap.objs.size = D
  have hDn : H2 D = none := I2.hok.fresh (Nat.le_of_eq hD)
  obtain ⟨W, ⟨m0, w0⟩, turn⟩ := q D hDn
  -- the new list
  generalize hs3 : ({ s2 with heap := s2.heap.push { cls := .type "dict", data := .dict #[] } } : Shared) = s3
  have I3 : Inv X pins σ (upd H2 D (.dT [])) s3 := by
    rw [← hs3]
    refine I2.laid (t' := s2.toks) (fun b o e => Heap.get?_push_of_some _ e) (Nat.le_of_eq hD) ?_
    rw [← hD]
    exact dt_empty s2.heap I2.big
  have h3 : s3.heap = s2.heap.push { cls := .type "dict", data := .dict #[] } := by rw [← hs3]
  have sz : ∀ b ∈ fp, b < s2.heap.objs.size := fun b hb => by
    obtain ⟨o, e, _⟩ := T.obj _ _ st2 b hb
    exact Heap.lt_size e
  have f3 : ∀ b ∈ fp, FpOk X pins (upd H2 D (.dT [])) b ∧ b < s3.heap.objs.size := fun b hb => by
    have hlt := sz b hb
    refine ⟨⟨?_, (f2 b hb).2⟩, by rw [h3, Heap.size_push]; exact Nat.lt_succ_of_lt hlt⟩
    rw [upd_ne (by rw [← hD]; exact Nat.ne_of_lt hlt)]
    exact (f2 b hb).1
  have st3 : tn 0 s3.heap := T.keep _ _ _ st2 fun b _ o e => by rw [h3]; exact Heap.get?_push_of_some _ e
  have I4 := block_start I3 ok hN f3
  have pg := hg s3 (upd H2 D (.dT [])) s3.heap.objs.size (cellsFrom (s3.heap.objs.size + 1) scope.names (cloFrom X.env.cells scope.names [])) fp
  have pt := ht s3 (upd H2 D (.dT [])) s3.heap.objs.size (cellsFrom (s3.heap.objs.size + 1) scope.names (cloFrom X.env.cells scope.names [])) fp
  have pk := hk s3 (upd H2 D (.dT [])) s3.heap.objs.size (cellsFrom (s3.heap.objs.size + 1) scope.names (cloFrom X.env.cells scope.names [])) fp
  have pe := he s3 (upd H2 D (.dT [])) s3.heap.objs.size (cellsFrom (s3.heap.objs.size + 1) scope.names (cloFrom X.env.cells scope.names [])) fp
  show codeAny _ _ (.compStart (.DictComp kx vx [⟨tg, iter, ifs, 0⟩] scope pos) 0 (.ref it) (.ref D) (compEnvC scope (cellsFrom (s3.heap.objs.size + 1) scope.names (cloFrom X.env.cells scope.names [])) s3.heap.objs.size X.env)) (compPost (model X.prog X.w) X.A X.xe use Qf (.ref D) s3.heap.objs.size) { s3 with heap := pushCells (s3.heap.push { cls := .type "dict", data := .dict #[] }) scope.names }
  have nfp : ∀ b ∈ fp, (upd H2 D (.dT [])) b = none := fun b hb => (f3 b hb).1.1
  generalize hce : compEnvC scope (cellsFrom (s3.heap.objs.size + 1) scope.names (cloFrom X.env.cells scope.names [])) s3.heap.objs.size X.env = ce at I4 pg pt pk pe ⊢
  have cL : ce.locals = s3.heap.objs.size := by subst hce; rfl
  generalize hH3 : upd H2 D (.dT []) = H3 at I3 I4 pg pt pk pe w0 nfp f3
  generalize hs4 : ({ s3 with heap := pushCells (s3.heap.push { cls := .type "dict", data := .dict #[] }) scope.names } : Shared) = s4 at I4 ⊢
  have st4 : tn 0 s4.heap := T.keep _ _ _ st3 fun b _ o e => by rw [← hs4]; exact pushCells_keeps _ _ _ _ (Heap.get?_push_of_some _ e)
  have stat : ∀ {σ' : L2.St} {H' : Hp} {s' : Shared}, Inv (X.blk s3 H3 scope ce fp) [] σ' H' s' → (∀ b ∈ fp, H' b = none) → ∀ b ∈ fp, FpOk (X.blk s3 H3 scope ce fp) [] H' b := fun {σ' H' s'} I' hn b hb =>
    ⟨hn b hb, (I'.ok.exf b hb).1, I'.ok.exfs b hb, .inl hb, fun x c e => (I'.ok.exf b hb).2 x c e, fun p hp => absurd (show p ∈ ([] : List (Addr × Obj)) ++ [] from hp) (by simp)⟩
  have loop : codeAny (model X.prog X.w) X.A (.compLoop (.DictComp kx vx [⟨tg, iter, ifs, 0⟩] scope pos) 0 (.ref it) (.ref D) ce) (compPost (model X.prog X.w) X.A X.xe use Qf (.ref D) s3.heap.objs.size) s4 := by
    refine compLoop_anyD (fun n s' => ∃ i H', Inv (X.blk s3 H3 scope ce fp) [] (wipe σ (own.map (·.2))) H' s' ∧ tn i s'.heap ∧ (∀ b ∈ fp, H' b = none) ∧ W i n H') ?_ m0 ⟨0, H3, I4, st4, nfp, w0⟩
    rintro n s5 ⟨i, H5, I5, st5, n5, w5⟩
    rcases turn i n H5 w5 with ⟨stop, qq⟩ | ⟨go, Nx, hNx, step⟩
    · have td := T.done (X.blk s3 H3 scope ce fp) rfl rfl rfl hc i [] s5 _ H5 (fun _ _ => False) I5 (stat I5 n5) st5 stop
      refine thnF td fun r s6 ⟨hr, I6⟩ => ?_
      subst hr
      -- back in the def's context
      have I7 : Inv X pins σ H5 s6 := I3.call' (ch := fp) I6.os I6.base I6.hok I6.bare fun b hb => ⟨(f3 b hb).1.2.2.2.1, (f3 b hb).1.2.1, (f3 b hb).1.2.2.2.2.1, (f3 b hb).1.2.2.2.2.2⟩
      have nC : H5 s3.heap.objs.size = none := by
        have z : H5 ce.locals = none := I6.free
        rw [cL] at z
        exact z
      obtain ⟨m, hn, _⟩ := I6.loc
      have hn : s6.heap.Ns ce.locals m := hn
      rw [cL] at hn
      exact hRR D s3.heap.objs.size s6 m H5 I7 qq hn (I3.fpOk (Nat.le_refl _) nC)
    · have ti := T.item (X.blk s3 H3 scope ce fp) rfl rfl rfl hc i [] s5 _ H5 (fun _ _ => False) I5 (stat I5 n5) st5 go
      refine thnF ti fun r s6 ⟨u, hr, h6⟩ => ?_
      subst hr
      refine thnF h6 fun _ s7 ⟨x, H7, I7, r7, y7, st7, n7⟩ => ?_
      have I7' := I7.pinned (stat I7 n7) (T.obj _ _ st7)
      refine thnF (pg.run _ s7 _ H7 x u _ I7' r7 (step x H7 y7)) fun _ s8 ⟨σ8, H8, I8, hw8, q8⟩ => ?_
      refine thnF (pt.run _ s8 σ8 H8 _ I8 q8) fun b s9 ⟨H9, I9, q9⟩ => ?_
      -- the turn's end
      have fin : ∀ {s' : Shared} {H' : Hp}, Inv (X.blk s3 H3 scope ce fp) ([] ++ pinsAt fp s7.heap) σ8 H' s' → Nx H' → ∃ m, m < n ∧ ∃ i H', Inv (X.blk s3 H3 scope ce fp) [] (wipe σ (own.map (·.2))) H' s' ∧ tn i s'.heap ∧ (∀ b ∈ fp, H' b = none) ∧ W i m H' := fun {s' H'} I' nx => by
        obtain ⟨m', hm, w'⟩ := hNx H' nx
        have pin' : ∀ b ∈ fp, ∀ o, s7.heap.get? b = some o → s'.heap.get? b = some o ∧ H' b = none := fun b hb o e =>
          let z := I'.pin (b, o) (List.mem_append_right _ (List.mem_append_right _ (mem_pinsAt hb e)))
          ⟨z.1, z.2.1⟩
        have hl : (wipe σ (own.map (·.2))).length = σ8.length := by rw [← hw8, wipe_length]
        refine ⟨m', hm, i + 1, H', (I'.unpinned (pins := [])).weak hl (fun j v e => ?_), T.keep _ _ _ st7 fun b hb o e => (pin' b hb o e).1, fun b hb => ?_, w'⟩
        · rw [← hw8] at e
          exact (wipe_some e).1
        · obtain ⟨o, e, _⟩ := T.obj _ _ st7 b hb
          exact (pin' b hb o e).2
      cases b with
      | false =>
        simp only [Bool.false_eq_true, if_false] at q9 ⊢
        exact fin I9 q9
      | true =>
        simp only [if_true] at q9 ⊢
        refine thnF (pk.run _ s9 σ8 H9 _ I9 q9) fun z s10 ⟨yk, H10, I10, r10, q10⟩ => ?_
        refine thnF (pe.run _ s10 σ8 H10 _ I10 q10) fun z2 s11 ⟨yv, H11, I11, r11, kvs, k, tb, ek, etb, hD11, hz11, nx⟩ => ?_
        subst ek
        exact d_dictSetT (X := X.blk s3 H3 scope ce fp) hu I11 hD11 etb hz11 r10 r11 fun s12 I12 => fin I12 nx
  exact codeAny_compStart_dict loop (T.self X.A 0 _ _ _ st4 loop)
/-- as a value -/
theorem pe_dcT {kx vx tg iter : Expr} {ifs : List Expr} {scope : Scope} {own : List (Str × Nat)} {pos : Pos} {wi : TI} {g : TG} {tt : TT} {tk tv : TE} (hu : X.A.units < cLine) (hc : X.calm = true) (hN : X.N.Nodup) (hi : PI X tg iter wi) (ok : BlkOk X.N X.env.scope scope own)
    (hg : ∀ (s : Shared) (H : Hp) (C : Addr) (cl : List (Str × Addr)) (fp : List Addr), PG (X.blk s H scope (compEnvC scope cl C X.env) fp) tg g) (ht : ∀ (s : Shared) (H : Hp) (C : Addr) (cl : List (Str × Addr)) (fp : List Addr), PTs (X.blk s H scope (compEnvC scope cl C X.env) fp) ifs tt)
    (hk : ∀ (s : Shared) (H : Hp) (C : Addr) (cl : List (Str × Addr)) (fp : List Addr), PE (X.blk s H scope (compEnvC scope cl C X.env) fp) kx tk)
    (he : ∀ (s : Shared) (H : Hp) (C : Addr) (cl : List (Str × Addr)) (fp : List Addr), PE (X.blk s H scope (compEnvC scope cl C X.env) fp) vx tv) (hs : ∀ x, foldedSetIterable iter X.env x = pure x := by intro _; rfl) :
    PE X (.DictComp kx vx [⟨tg, iter, ifs, 0⟩] scope pos) (tDcT wi g tt tk tv (own.map (·.2))) := by
  refine ⟨fun pins s σ H Q I h => ?_⟩
  rw [arm_eval_DictComp]
  refine dcT_core hu hc hN I hi ok hg ht hk he hs h fun D C s' m H' I' q hn f => ⟨m, hn, fun h'' sb => ?_⟩
  obtain ⟨f0, f1, f2, f3, f4, f5⟩ := f
  exact ⟨.ref D, H', I'.turned (t' := s'.toks) (fun b o hb e => (sb.2 b hb).trans e) f0 f1 f3 f4 f5, rfl, q⟩
/-- over any walk -/
theorem dc_itT {J : It} {n : Nat} {G : Hp → Prop} {Y : Nat → Hp → V → Hp → Prop} (w : Walk J n G Y) {g : TG} {tt : TT} {tk tv : TE} {vs : List Nat} {σ : L2.St} {H1 : Hp} {D : Addr} {Qd : Hp → Prop} (Pv : Nat → Hp → Prop) (h0 : Pv 0 (upd H1 D (.dT []))) (hG : ∀ i H, i ≤ n → Pv i H → G H)
    (hs : ∀ i x H H', i < n → Pv i H → Y i H x H' → g x (wipe σ vs) H' fun σ2 H2 => wipe σ2 vs = wipe σ vs ∧ tt σ2 H2 fun b H3 =>
      if b = true then tk σ2 H3 fun y H4 => tv σ2 H4 fun z H5 => ∃ kvs k b, y = .ref b ∧ H5 b = some (.tup (k.map kV)) ∧ H5 D = some (.dT kvs) ∧ kvs.length < sizeLine ∧ Pv (i + 1) (upd H5 D (.dT (putK kvs k z))) else Pv (i + 1) H3) (hd : ∀ H, Pv n H → Qd H) :
    ∃ W : Nat → Nat → Hp → Prop, (∃ m, W 0 m (upd H1 D (.dT []))) ∧ ∀ i m H, W i m H →
      (J.stop i H ∧ Qd H) ∨ (J.go i H ∧ ∃ Nx : Hp → Prop, (∀ H', Nx H' → ∃ m', m' < m ∧ W (i + 1) m' H') ∧ ∀ x H', J.yld i H x H' → g x (wipe σ vs) H' fun σ2 H2 => wipe σ2 vs = wipe σ vs ∧ tt σ2 H2 fun b H3 =>
        if b = true then tk σ2 H3 fun y H4 => tv σ2 H4 fun z H5 => ∃ kvs k b, y = .ref b ∧ H5 b = some (.tup (k.map kV)) ∧ H5 D = some (.dT kvs) ∧ kvs.length < sizeLine ∧ Nx (upd H5 D (.dT (putK kvs k z))) else Nx H3) := by
  refine ⟨fun i m H => m = n - i ∧ i ≤ n ∧ Pv i H, ⟨n, by simp, Nat.zero_le _, h0⟩, ?_⟩
  rintro i m H ⟨rfl, hi, p⟩
  have q := hG i H hi p
  by_cases hlt : i < n
  · exact .inr ⟨w.goes i H hlt q, Pv (i + 1), fun H' p' => ⟨n - (i + 1), by omega, rfl, hlt, p'⟩, fun x H' y => hs i x H H' hlt p (w.yields i H x H' hlt q y)⟩
  · have e : i = n := by omega
    subst e
    exact .inl ⟨w.stops H q, hd H p⟩
end
end SL
set_option Elab.async false
set_option linter.all false
set_option maxRecDepth 100000
set_option maxHeartbeats 4000000
/-! own words, 35: a list comprehension whose values are data, made meanwhile -/
namespace SL
open PySem PySem.Spec PyProof.Rows L2 GxR NdefX GA
variable [SL.LamT]
section
variable {T M : List Addr} {H0 H1 : Hp} {J : It} {n : Nat} {G : Hp → Prop} {Y : Nat → Hp → V → Hp → Prop} {D : Addr} {Qd : Hp → Prop} {σ : L2.St} {g : TG} {te : TE} {vs : List Nat}
/-- [te for g in J]: F i the i-th value, as data that does not hold the list itself, nor what M names -/
theorem lc_dv (F : Nat → PyData) (w : Walk J n G Y) (hG : ∀ H', Go T [] H0 H' → G H') (ht : Tabs T H0) (g1 : Go T [] H0 H1) (hD : H1 D = none) (hn : n ≤ sizeLine)
    (hs : ∀ i x H' H'' (R : VK), i < n → Go T [] H0 H' → Tabs T H' → H' D ≠ none → Y i H' x H'' → (∀ v H3, Go T [] H' H3 → Dv (D :: M) H3 v (F i) → R v H3) → g x (wipe σ vs) H'' fun σ2 H2 => wipe σ2 vs = wipe σ vs ∧ te σ2 H2 R)
    (hq : ∀ H' ys, Go T [] H0 H' → Tabs T H' → H' D = some (.lst ys) → DvAll (D :: M) H' ys ((List.range n).map F) → Qd H') :
    ∃ W : Nat → Nat → Hp → Prop, (∃ m, W 0 m (upd H1 D (.lst []))) ∧ ∀ i' m H, W i' m H →
      (J.stop i' H ∧ Qd H) ∨ (J.go i' H ∧ ∃ Nx : Hp → Prop, (∀ H', Nx H' → ∃ m', m' < m ∧ W (i' + 1) m' H') ∧ ∀ x H', J.yld i' H x H' → g x (wipe σ vs) H' fun σ2 H2 => wipe σ2 vs = wipe σ vs ∧ tYes σ2 H2 fun b H3 =>
        if b = true then te σ2 H3 fun y H4 => ∃ acc, H4 D = some (.lst acc) ∧ acc.length < sizeLine ∧ Nx (upd H4 D (.lst (acc ++ [y]))) else Nx H3) := by
  have hD0 : H0 D = none := g1.al D hD
  refine lc_it w (fun i H' => Go T [] H0 H' ∧ ∃ ys, H' D = some (.lst ys) ∧ ys.length = i ∧ DvAll (D :: M) H' ys ((List.range i).map F)) ⟨g1.trans (Go.new hD), [], upd_same, rfl, .nil⟩ (fun i H' _ h => hG H' h.1) (fun i x H' H'' hlt h y => ?_)
    (fun H' ⟨gg, ys, e, _, da⟩ => hq H' ys gg (gg.tb ht) e da)
  obtain ⟨gg, ys, e, el, da⟩ := h
  refine hs i x H' H'' _ hlt gg (gg.tb ht) (by rw [e]; exact fun z => by cases z) y fun v H3 g3 dv => ?_
  have e3 := g3.lst e List.not_mem_nil
  have gs := Go.set (T := T) (M := D :: M) (o := .lst (ys ++ [v])) e3 (fun _ z => by cases z) (List.mem_cons_self ..)
  refine ⟨ys, e3, by omega, (gg.trans g3).over hD0 e3 (fun _ z => by cases z), ys ++ [v], upd_same, by rw [List.length_append, el] <;> rfl, ?_⟩
  rw [List.range_succ, List.map_append]
  exact DvAll.append ((da.go g3.of0).go gs) (.cons (dv.go gs) .nil)
end
end SL
set_option Elab.async false
set_option linter.all false
set_option maxRecDepth 100000
set_option maxHeartbeats 8000000
namespace K2
open PySem PySem.Spec PyProof.Rows L2 GxR NdefX GA SL RZ
variable [SL.LamT]
abbrev s_among : Stmt := top 37
abbrev s_as_rows : Stmt := top 38
abbrev s_indexed : Stmt := top 39
theorem sc_among : FnScope ["makers", "names", "words", "size", "ranks"] ["makers", "names", "words"] (defScope s_among) := ⟨rfl, rfl, rfl, by decide +kernel, rfl, by decide +kernel, by decide +kernel⟩
theorem sc_as_rows : FnScope ["parts", "order", "index", "part", "place"] ["parts", "order"] (defScope s_as_rows) := ⟨rfl, rfl, rfl, by decide +kernel, rfl, by decide +kernel, by decide +kernel⟩
theorem sc_indexed : FnScope ["index", "entries", "entry"] ["index", "entries"] (defScope s_indexed) := ⟨rfl, rfl, rfl, by decide +kernel, rfl, by decide +kernel, by decide +kernel⟩
def headN : List Key → Str
  | .inr x :: _ => x
  | _ => ""
def tD (t : List Key) : PyData := .tuple (t.map kD)
/-- a tree of a kind, not an integer -/
structure Tree (ks : List PyData) (f : Str) (t : List Key) : Prop where
  n : f ≠ "number"
  r : run ks [f] t = some []
  h : ∃ x r, t = .inr x :: r
theorem Tree.head {ks : List PyData} {f : Str} {t : List Key} (h : Tree ks f t) : ∃ r, t = .inr (headN t) :: r ∧ okW ks f (.inr (headN t)) = true := by
  obtain ⟨x, r, rfl⟩ := h.h
  obtain ⟨f', q, e, c, _⟩ := run_cons h.r
  cases e
  exact ⟨r, rfl, c⟩
def ixL : List Str → Str → Nat
  | [], _ => 0
  | x :: r, t => if x = t then 0 else 1 + ixL r t
theorem ixL_at : ∀ {l : List Str} {i : Nat} {t : Str}, l.Nodup → l[i]? = some t → ixL l t = i
  | [], i, t, _, h => by simp at h
  | x :: r, 0, t, _, h => by
    simp at h
    subst h
    show (if x = x then 0 else _) = 0
    rw [if_pos rfl]
  | x :: r, i + 1, t, nd, h => by
    obtain ⟨n1, n2⟩ := List.nodup_cons.mp nd
    have h : r[i]? = some t := by simpa using h
    have ne : x ≠ t := fun e => n1 (by rw [e]; exact List.mem_of_getElem? h)
    show (if x = t then 0 else 1 + ixL r t) = i + 1
    rw [if_neg ne, ixL_at n2 h, Nat.add_comm]
theorem ixL_get : ∀ {l : List Str} {t : Str}, t ∈ l → l[ixL l t]? = some t
  | x :: r, t, h => by
    by_cases e : x = t
    · show (x :: r)[if x = t then 0 else 1 + ixL r t]? = _
      rw [if_pos e, e]
      rfl
    · show (x :: r)[if x = t then 0 else 1 + ixL r t]? = _
      rw [if_neg e, Nat.add_comm, List.getElem?_cons_succ]
      exact ixL_get ((List.mem_cons.mp h).resolve_left fun z => e z.symm)
def ixK (ks : List PyData) (kd : Str) : Nat := ixL (ks.map titleOf) kd
/-- the program's key -/
def keyP (ks : List PyData) (t : List Key) : PyData := .tuple [.int (sizeW t), .int ((ixK ks (kdK ks (headN t)) : Nat) : Int), .list ((t.map (rkW ks)).map .int)]
def sp_among (T : List Addr) : Sp := fun vs H Q _ => ∃ (D na : Addr) (tv : V) (ks : List PyData) (t : List Key) (f : Str), vs = [.ref D, .ref na, tv] ∧ kindsB (.tuple ks) = true ∧ MkD H D ks ∧ H na = some (.lst ((ks.map titleOf).map V.str)) ∧ Dv [] H tv (tD t) ∧ Tree ks f t ∧ t.length ≤ 400 ∧ Tabs T H ∧
  ∀ v H', Dv [] H' v (keyP ks t) → Go T [] H H' → Tabs T H' → Q v H'
def ixT : List (List Key) → List Key → Nat
  | [], _ => 0
  | u :: S, t => if u = t then 0 else ixT S t + 1
def ixE (S : List (List Key)) : Ent → Int
  | .inl z => z
  | .inr t => ((ixT S t : Nat) : Int)
def IxD (H : Hp) (I : Addr) (S : List (List Key)) : Prop := ∃ kvs, H I = some (.dT kvs) ∧ ∀ t ∈ S, valV kvs t = some (.int ((ixT S t : Nat) : Int))
def sp_indexed (T : List Addr) : Sp := fun vs H Q _ => ∃ (M : List Addr) (I : Addr) (ev : V) (es : List Ent) (S : List (List Key)), vs = [.ref I, ev] ∧ (∀ b ∈ M, H b ≠ none) ∧ IxD H I S ∧ Dv [] H ev (.list (es.map eD)) ∧ (∀ u, .inr u ∈ es → u ∈ S) ∧ es.length ≤ 400 ∧ Tabs T H ∧
  ∀ v H', Dv M H' v (.tuple (es.map fun e => .int (ixE S e))) → Go T [] H H' → Tabs T H' → Q v H'
def rowT (ks : List PyData) (S : List (List Key)) (t : List Key) : PyData := .tuple [.str (headN t), .tuple ((kids ks t).map fun e => .int (ixE S e))]
/-- the parts of S, as the program keeps them -/
structure Parts (ks : List PyData) (S : List (List Key)) : Prop where
  nd : S.Nodup
  l : S.length ≤ 400
  t : ∀ t ∈ S, ∃ f, Tree ks f t
  c : ∀ t ∈ S, ∀ u, .inr u ∈ kids ks t → u ∈ S
def sp_as_rows (T : List Addr) : Sp := fun vs H Q _ => ∃ (P oa : Addr) (os : List V) (ks : List PyData) (L S : List (List Key)), vs = [.ref P, .ref oa] ∧ kindsB (.tuple ks) = true ∧ PartsD H P ks L ∧ H oa = some (.lst os) ∧ DvAll [] H os (S.map tD) ∧ Parts ks S ∧ (∀ t ∈ S, t ∈ L) ∧ L.Nodup ∧ Tabs T H ∧
  ∀ v H', Dv [] H' v (.tuple (S.map (rowT ks S))) → Go T [] H H' → Tabs T H' → Q v H'
theorem dv_ls {M : List Addr} {H : Hp} {v : V} {ds : List PyData} (h : Dv M H v (.list ds)) : ∃ a xs, v = .ref a ∧ H a = some (.lst xs) ∧ a ∉ M ∧ DvAll M H xs ds := by
  cases h with
  | lst e n r => exact ⟨_, _, rfl, e, n, r⟩
theorem dv_tree {M : List Addr} {H : Hp} {v : V} {t : List Key} (h : Dv M H v (tD t)) : ∃ a, v = .ref a ∧ H a = some (.tup (t.map kV)) ∧ a ∉ M := by
  obtain ⟨a, xs, rfl, e, n, d⟩ := dv_tup h
  rw [of_words d] at e
  exact ⟨a, rfl, e, n⟩
theorem parts_get {ks : List PyData} {H : Hp} {t : List Key} : ∀ {kvs : List (List Key × V)} {L : List (List Key)}, PartsAt ks [] H kvs L → t ∈ L → ∃ v, valV kvs t = some v ∧ Dv [] H v (kidsD ks t) := by
  intro kvs
  induction kvs with
  | nil => intro L ⟨h1, _⟩ ht; subst h1; simp at ht
  | cons kv kvs ih =>
    intro L ⟨h1, h2⟩ ht
    subst h1
    cases h2 with
    | cons a b =>
      by_cases e : kv.1 = t
      · exact ⟨kv.2, valV_pos e, by rw [← e]; exact a⟩
      · rw [valV_neg e]
        exact ih ⟨rfl, b⟩ ((List.mem_cons.mp ht).elim (fun z => absurd z.symm e) id)
def kvI : List (List Key) → Nat → List (List Key × V)
  | [], _ => []
  | t :: S, i => (t, .int (i : Nat)) :: kvI S (i + 1)
theorem kvI_app (t : List Key) : ∀ (S : List (List Key)) (i : Nat), kvI (S ++ [t]) i = kvI S i ++ [(t, .int ((i + S.length : Nat) : Int))]
  | [], i => rfl
  | u :: S, i => by
    show (u, V.int (i : Nat)) :: kvI (S ++ [t]) (i + 1) = (u, V.int (i : Nat)) :: kvI S (i + 1) ++ [_]
    rw [kvI_app t S (i + 1), List.length_cons, show i + 1 + S.length = i + (S.length + 1) by omega]
    rfl
theorem kvI_none {t : List Key} : ∀ {S : List (List Key)} {i : Nat}, t ∉ S → valV (kvI S i) t = none
  | [], _, _ => valV_nil
  | u :: S, i, h => by
    show valV ((u, V.int (i : Nat)) :: kvI S (i + 1)) t = none
    rw [valV_neg (fun z => h (by rw [← (show u = t from z)]; exact List.mem_cons_self))]
    exact kvI_none fun z => h (List.mem_cons_of_mem _ z)
theorem kvI_get {t : List Key} : ∀ {S : List (List Key)} {i : Nat}, t ∈ S → valV (kvI S i) t = some (.int ((i + ixT S t : Nat) : Int))
  | [], _, h => by simp at h
  | u :: S, i, h => by
    show valV ((u, V.int (i : Nat)) :: kvI S (i + 1)) t = _
    by_cases e : u = t
    · rw [valV_pos e]
      show _ = some (V.int ((i + (if u = t then 0 else ixT S t + 1) : Nat) : Int))
      rw [if_pos e] <;> rfl
    · rw [valV_neg e, kvI_get ((List.mem_cons.mp h).elim (fun z => absurd z.symm e) id)]
      show _ = some (V.int ((i + (if u = t then 0 else ixT S t + 1) : Nat) : Int))
      rw [if_neg e, show i + 1 + ixT S t = i + (ixT S t + 1) by omega]
theorem kvI_len : ∀ (S : List (List Key)) (i : Nat), (kvI S i).length = S.length
  | [], _ => rfl
  | _ :: S, i => congrArg Nat.succ (kvI_len S (i + 1))
theorem IxD.go {T : List Addr} {H H' : Hp} {I : Addr} {S : List (List Key)} (h : IxD H I S) (g : Go T [] H H') : IxD H' I S := by
  obtain ⟨kvs, e, q⟩ := h
  exact ⟨kvs, g.gr _ _ e List.not_mem_nil (fun _ z => by cases z), q⟩
theorem PartsD.go {T : List Addr} {H H' : Hp} {P : Addr} {ks : List PyData} {L : List (List Key)} (h : PartsD H P ks L) (g : Go T [] H H') : PartsD H' P ks L := by
  obtain ⟨kvs, e, q⟩ := h
  exact ⟨kvs, g.gr _ _ e List.not_mem_nil (fun _ z => by cases z), q.go g⟩
section
variable {P : Program} {w : World} {K : PySem.W.Frag} {mg : Str → Option Value} {base : Heap} {f c Pt CK CR : Addr} {fd : FuncData} {T : List Addr}
theorem ok_among (F : Fun K "_place_among_kinds" "_place_among_kinds" s_among f fd) (Fp : Fnn P w K mg base CX0 2 "place_in_sequence" ["makers", "words"] (sp_place T)) (Fk : Fnn P w K mg base CX0 1 "kind_of" ["makers", "maker"] sp_kind_of) : FnOk P w K mg base CX0 3 f fd ["makers", "names", "words"] (sp_among T) := by
  have nd := sc_among.nd
  refine F.ok sc_among (fun vs H Q E h => ?_) (fun cdv A outer s H vs Q E hr h => ?_)
  · obtain ⟨_, _, _, _, _, _, rfl, _⟩ := h
    rfl
  obtain ⟨D, na, tv, ks, t, g, rfl, hk, hD, hn, hv, tr, hl, ht, q⟩ := h
  refine ⟨_, pss_cons (ps_asg (pe_fn Fp hr (by decide) pass0 (pa_cons (pv 0) (pa_cons (pv 2) pa_nil))) (pg_tup rfl (pgs_cons (pg_name (i := 3) nd rfl (.inl rfl)) (pgs_cons (pg_name (i := 4) nd rfl (.inl rfl)) pgs_nil))))
    (pss_one (ps_ret (pe_tup (pa_cons (pv 3) (pa_cons (pe_bm PySem.F.plainAttrs_list PySem.F.slot_list_index PySem.F.type_list_index mt_index (pv 1) (pa_cons (pe_fn Fk hr (by decide) pass0 (pa_cons (pv 0) (pa_cons (pe_ix ix_tup (pv 2) pe_int (fun _ _ => rfl)) pa_nil))) pa_nil)) (pa_cons (pv 4) pa_nil)))))), ?_⟩
  have nn : ∀ b : Addr, b ∉ ([] : List Addr) := fun b => List.not_mem_nil
  obtain ⟨r, et, c1⟩ := tr.head
  obtain ⟨nu, hkb, hk6⟩ := kinds_names hk
  obtain ⟨nt, _, hkm⟩ := kinds_more hk
  obtain ⟨wa, rfl, ewa, _⟩ := dv_tree hv
  refine ⟨_, rfl, _, rfl, D, .ref wa, ks, t, rfl, hk, hD, hv, fun x hx => run_names tr.r hx, hl, ht, fun p l H1 ep el g1 t1 => ?_⟩
  refine ⟨p, _, rfl, SqT.of ep, rfl, _, _, rfl, _, _, rfl, rfl, ?_⟩
  have ewa1 := g1.tup ewa (nn _)
  have hname : headN t ∈ namesM (rowsM ks) := run_names tr.r (by rw [et]; exact List.mem_cons_self)
  refine ⟨_, rfl, _, rfl, .inl ⟨rfl, _, SqL.of (g1.lst hn (nn _))⟩, _, rfl, _, rfl, wa, _, 0, _, rfl, rfl, SqT.of ewa1, atI_nat (j := 0) (show (t.map kV)[0]? = some (.str (headN t)) by rw [et] <;> rfl), D, headN t, ks, rfl, hD.go g1, hname, fun kd pl m hr' hm' => ?_⟩
  have ekd : kdK ks (headN t) = kd := by rw [← hm']; exact kdK_eq nu hr'
  have hin := (hkm _ _ _ hr').1
  have ej : ixK ks (kdK ks (headN t)) = ixL (ks.map titleOf) kd := by rw [ekd] <;> rfl
  refine ⟨na, _, .str kd, ixL (ks.map titleOf) kd, .str kd, rfl, rfl, SqL.of (g1.lst hn (nn _)), rfl, by simp [flatV], by rw [List.getElem?_map, ixL_get hin] <;> rfl, by simp [eqV], fun m' z' hm2 hz => ?_, ?_⟩
  · rw [List.getElem?_map] at hz
    obtain ⟨x, ex, rfl⟩ := Option.map_eq_some_iff.mp hz
    have : x ≠ kd := fun z => by
      rw [z] at ex
      have := ixL_at nt ex
      omega
    simp [eqV, this]
  · refine ⟨_, rfl, by show 3 ≤ sizeLine; decide, fun p2 hp2 => ?_⟩
    have u := Go.new (T := T) (M := []) (o := .tup [.int (sizeW t), .int ((ixL (ks.map titleOf) kd : Nat) : Int), .ref l]) hp2
    refine q _ _ ?_ (g1.trans u) ((g1.trans u).tb ht)
    unfold keyP
    rw [ej]
    exact .tup upd_same (nn _) (.cons (.int _) (.cons (.int _) (.cons (.lst (u.lst el (nn _)) (nn _) (DvAll.ints _)) .nil)))
theorem ok_indexed (F : Fun K "_indexed" "_indexed" s_indexed f fd) (B : Bl mg) : FnOk P w K mg base CX0 1 f fd ["index", "entries"] (sp_indexed T) := by
  have nd := sc_indexed.nd
  refine F.ok sc_indexed (fun vs H Q E h => ?_) (fun cdv A outer s H vs Q E hr h => ?_)
  · obtain ⟨_, _, _, _, _, rfl, _⟩ := h
    rfl
  obtain ⟨M, I, ev, es, S, rfl, hM, hI, hv, hc, hl, ht, q⟩ := h
  have hu : (A.deeper (envOfC "_indexed" (defScope s_indexed) s.heap.objs.size f cdv)).units + 1 < cLine := by
    have := hr.un
    omega
  refine ⟨_, pss_one (ps_ret (pe_toTup B (pe_lc (own := [("entry", 2)]) (g := gName 2) (tt := tYes) (te := tIf (tB (tCB (rIsiD "tuple" isTuple) (tCons (tVar 2) (tCons (tC (.ty "tuple")) tNil)))) (tDGet (tVar 0) (tVar 2)) (tVar 2)) rfl nd (pi_list (pv 1))
    (blkOk_by (own := [("entry", 2)]) (N := ["index", "entries", "entry"]) (sc := defScope s_indexed) (by decide +kernel)) (fun _ _ _ _ _ => pg_name (i := 2) nd rfl (.inl rfl)) (fun _ _ _ _ _ => pts_nil)
    (fun _ _ _ _ _ => pe_ifExp (pt_val (pe_isi_tuple B (pv 2))) (pe_dget (by exact hu) (pv 0) (pv 2) (fun _ _ => rfl)) (pv 2))))), ?_⟩
  have nn : ∀ b : Addr, b ∉ ([] : List Addr) := fun b => List.not_mem_nil
  obtain ⟨ea, xs, rfl, eea, _, dx⟩ := dv_ls hv
  have lx := dx.length
  rw [List.length_map] at lx
  refine ⟨_, rfl, ea, rfl, ⟨_, SqL.of eea⟩, fun L1 hL1 => ?_⟩
  refine lc_map (T := T) (fun j => V.int (ixE S (es.getD j (.inl 0)))) (walk_list (xs := xs)) (fun H' g' => SqL.of (g'.lst eea (nn _))) ht Go.refl hL1 (by rw [lx, sizeLine_eq]; omega) (fun j v H6 H7 R hj g6 t6 y hR => ?_) (fun H6 g6 t6 ed6 => ?_)
  · obtain ⟨rfl, ey⟩ := y
    obtain ⟨d, ed, hx⟩ := dx.get ey
    rw [List.getElem?_map] at ed
    obtain ⟨e, ee, rfl⟩ := Option.map_eq_some_iff.mp ed
    rw [List.getD_eq_getElem?_getD, ee] at hR
    have hx6 := hx.go g6
    have hR' := hR _ Go.refl
    cases e with
    | inl z =>
      cases hx6
      exact ⟨rfl, _, rfl, _, [], _, rfl, .int z, _, rfl, iteF ⟨_, rfl, hR'⟩⟩
    | inr u =>
      obtain ⟨a, rfl, ea6, _⟩ := dv_tree (t := u) hx6
      obtain ⟨kvs, eI, hI2⟩ := hI.go g6
      have hg := DGet.t (H := H7) eI ea6
      rw [hI2 u (hc u (List.mem_of_getElem? ee))] at hg
      exact ⟨rfl, _, rfl, _, [], _, rfl, hx6, _, rfl, iteT ⟨_, rfl, _, rfl, I, _, rfl, hg, hR'⟩⟩
  · have em : (List.range xs.length).map (fun j => V.int (ixE S (es.getD j (.inl 0)))) = es.map fun e => V.int (ixE S e) := by
      rw [lx]
      exact map_range_get fun j z h => by rw [List.getD_eq_getElem?_getD, h] <;> rfl
    rw [em] at ed6
    refine .inl ⟨L1, _, rfl, SqL.of ed6, fun p hp => ?_⟩
    have u := Go.new (T := T) (M := []) (o := .tup (es.map fun e => V.int (ixE S e))) hp
    refine q _ _ (.tup upd_same (fun z => hM p z (g6.al _ hp)) ?_) (g6.trans u) ((g6.trans u).tb ht)
    have := DvAll.ints (M := M) (H := upd H6 p (.tup (es.map fun e => V.int (ixE S e)))) (es.map (ixE S))
    rw [List.map_map, List.map_map] at this
    exact this
theorem ok_as_rows (F : Fun K "_as_rows" "_as_rows" s_as_rows f fd) (B : Bl mg) (hen : mg "enumerate" = none) (Fi : Fnn P w K mg base CX0 1 "_indexed" ["index", "entries"] (sp_indexed T)) : FnOk P w K mg base CX0 2 f fd ["parts", "order"] (sp_as_rows T) := by
  have nd := sc_as_rows.nd
  refine F.ok sc_as_rows (fun vs H Q E h => ?_) (fun cdv A outer s H vs Q E hr h => ?_)
  · obtain ⟨_, _, _, _, _, _, rfl, _⟩ := h
    rfl
  obtain ⟨P1, oa, os, ks, L, S, rfl, hk, hP, ho, hd, hS, hL, hnd, ht, q⟩ := h
  have hu : (A.deeper (envOfC "_as_rows" (defScope s_as_rows) s.heap.objs.size f cdv)).units + 1 < cLine := by
    have := hr.un
    omega
  have hu0 : (A.deeper (envOfC "_as_rows" (defScope s_as_rows) s.heap.objs.size f cdv)).units < cLine := by omega
  refine ⟨_, pss_cons (ps_set (i := 2) nd rfl (.inr rfl) (pe_dcT (own := [("place", 4), ("part", 3)]) (g := gTup K 2 (gCons (gName 4) (gCons (gName 3) gNil))) (tt := tYes) (tk := tVar 3) (tv := tVar 4) hu0 rfl nd (pi_enum rfl hen (pa_cons (pv 1) pa_nil))
      (blkOk_by (own := [("place", 4), ("part", 3)]) (N := ["parts", "order", "index", "part", "place"]) (sc := defScope s_as_rows) (by decide +kernel)) (fun _ _ _ _ _ => pg_tup rfl (pgs_cons (pg_name (i := 4) nd rfl (.inl rfl)) (pgs_cons (pg_name (i := 3) nd rfl (.inl rfl)) pgs_nil))) (fun _ _ _ _ _ => pts_nil) (fun _ _ _ _ _ => pv 3) (fun _ _ _ _ _ => pv 4)))
    (pss_one (ps_ret (pe_toTup B (pe_lc (own := [("part", 3)]) (g := gName 3) (tt := tYes) (te := tTup (tCons (tOp (rIxT K) (tVar 3) (tC (.int 0))) (tCons (tCall (sp_indexed T) [] E0 (tCons (tVar 2) (tCons (tDGet (tVar 0) (tVar 3)) tNil))) tNil))) rfl nd (pi_list (pv 1))
      (blkOk_by (own := [("part", 3)]) (N := ["parts", "order", "index", "part", "place"]) (sc := defScope s_as_rows) (by decide +kernel)) (fun _ _ _ _ _ => pg_name (i := 3) nd rfl (.inl rfl)) (fun _ _ _ _ _ => pts_nil)
      (fun _ _ _ _ _ => pe_tup (pa_cons (pe_ix ix_tup (pv 3) pe_int (fun _ _ => rfl)) (pa_cons (pe_fn Fi hr (by decide) pass0 (pa_cons (pv 2) (pa_cons (pe_dget (by exact hu) (pv 0) (pv 3) (fun _ _ => rfl)) pa_nil))) pa_nil))))))), ?_⟩
  have nn : ∀ b : Addr, b ∉ ([] : List Addr) := fun b => List.not_mem_nil
  have lo := hd.length
  rw [List.length_map] at lo
  have lS := hS.l
  have refs : ∀ (i : Nat) (v : V), os[i]? = some v → ∃ t b, S[i]? = some t ∧ v = .ref b ∧ H b = some (.tup (t.map kV)) := fun i v e => by
    obtain ⟨d, ed, hx⟩ := hd.get e
    rw [List.getElem?_map] at ed
    obtain ⟨t, et, rfl⟩ := Option.map_eq_some_iff.mp ed
    obtain ⟨b, rfl, eb, _⟩ := dv_tree hx
    exact ⟨t, b, et, rfl, eb⟩
  refine ⟨_, rfl, oa, os, rfl, SqL.of ho, fun I hI => ?_⟩
  refine dc_itT walk_enum (fun i H' => Go T [] H H' ∧ H' I = some (.dT (kvI (S.take i) 0))) ⟨Go.new hI, upd_same⟩ (fun i H' _ h => SqL.of (h.1.lst ho (nn _))) (fun i x H5 H6 hi h y => ?_) (fun H5 h => ?_)
  · obtain ⟨g5, eI⟩ := h
    obtain ⟨p, x1, y1, rfl, hp, rfl, e1, e2⟩ := y
    obtain rfl : V.int (i : Nat) = x1 := Option.some.inj e1
    obtain ⟨t, b, et, rfl, eb⟩ := refs i y1 e2
    have u := Go.new (T := T) (M := []) (o := .tup [V.int (i : Nat), V.ref b]) hp
    have eI6 := u.gr _ _ eI List.not_mem_nil (fun _ z => by cases z)
    have nin : t ∉ S.take i := fun z => by
      obtain ⟨j, hj⟩ := List.mem_iff_getElem?.mp z
      rw [List.getElem?_take] at hj
      split at hj
      · obtain ⟨a1, a2⟩ := List.getElem?_eq_some_iff.mp hj
        obtain ⟨b1, b2⟩ := List.getElem?_eq_some_iff.mp et
        have e3 := (List.getElem_inj hS.nd).mp (a2.trans b2.symm)
        omega
      · cases hj
    have lt : (S.take i).length = i := by
      have : i < S.length := (List.getElem?_eq_some_iff.mp et).1
      rw [List.length_take]; omega
    refine ⟨p, _, rfl, SqT.of upd_same, rfl, _, _, rfl, _, _, rfl, rfl, rfl, _, rfl, _, rfl, _, t, b, rfl, (g5.trans u).tup eb (nn _), eI6, by rw [kvI_len, lt, sizeLine_eq]; omega, (g5.trans u).over hI eI6 (fun _ z => by cases z), ?_⟩
    rw [upd_same, putK_new _ (kvI_none nin), List.take_add_one, et]
    show _ = some (HO.dT (kvI (S.take i ++ [t]) 0))
    rw [kvI_app, lt, Nat.zero_add]
  obtain ⟨g5, eI⟩ := h
  rw [lo, List.take_length] at eI
  have hI5 : IxD H5 I S := ⟨_, eI, fun t ht => by rw [kvI_get ht, Nat.zero_add]⟩
  have ho5 := g5.lst ho (nn _)
  refine ⟨_, rfl, oa, rfl, ⟨_, SqL.of ho5⟩, fun L1 hL1 => ?_⟩
  refine lc_dv (T := T) (M := []) (fun j => rowT ks S (S.getD j [])) walk_list (fun H' g' => SqL.of (g'.lst ho5 (nn _))) (g5.tb ht) Go.refl hL1 (by rw [lo, sizeLine_eq]; omega) (fun j v H6 H7 R hj g6 t6 nD y hR => ?_) (fun H6 ys g6 t6 e6 d6 => ?_)
  · obtain ⟨rfl, ey⟩ := y
    obtain ⟨t, b, et, rfl, eb⟩ := refs j v ey
    have tS := List.mem_of_getElem? et
    obtain ⟨f', tr⟩ := hS.t t tS
    obtain ⟨r, er, _⟩ := tr.head
    have eb6 := (g5.trans g6).tup eb (nn _)
    obtain ⟨kvs, eP, hp6⟩ := (hP.go (g5.trans g6))
    obtain ⟨pv, ev, dv⟩ := parts_get hp6 (hL t tS)
    have hg := DGet.t (H := H7) eP eb6
    rw [ev] at hg
    have lkids : (kids ks t).length ≤ 400 := by
      have h1 := tr.r
      rw [er] at h1
      have h2 := (kids_ok h1).1.len
      rw [← er] at h2
      have := flK_len hk (headN t)
      omega
    rw [List.getD_eq_getElem?_getD, et] at hR
    refine ⟨rfl, _, rfl, b, _, 0, _, rfl, rfl, SqT.of eb6, atI_nat (j := 0) (show (t.map kV)[0]? = some (.str (headN t)) by rw [er] <;> rfl), _, rfl, _, rfl, _, rfl, P1, _, rfl, hg, [L1], I, pv, kids ks t, S, rfl, fun b hb => by rw [List.mem_singleton.mp hb]; exact nD, hI5.go g6, dv, hS.c t tS, lkids, t6, fun v H8 dv8 g8 t8 => ⟨by show 2 ≤ sizeLine; decide, fun p hp => ?_⟩⟩
    have u := Go.new (T := T) (M := [L1]) (o := .tup [V.str (headN t), v]) hp
    refine hR _ _ (g8.trans (Go.new hp)) (.tup upd_same (fun z => by rw [List.mem_singleton.mp z] at hp; exact nD (g8.al _ hp)) (.cons (.str _) (.cons (dv8.go u) .nil)))
  · refine .inl ⟨L1, _, rfl, SqL.of e6, fun p hp => ?_⟩
    have u := Go.new (T := T) (M := []) (o := .tup ys) hp
    refine q _ _ (.tup upd_same (nn _) ?_) ((g5.trans g6).trans u) (((g5.trans g6).trans u).tb ht)
    have em : (List.range os.length).map (fun j => rowT ks S (S.getD j [])) = S.map (rowT ks S) := by
      rw [lo]
      exact map_range_get fun j z h => by rw [List.getD_eq_getElem?_getD, h] <;> rfl
    rw [em] at d6
    exact (d6.less (by simp)).go u
end
end K2
set_option Elab.async false
set_option linter.all false
set_option maxRecDepth 100000
set_option maxHeartbeats 4000000
/-! own words, 51: sorted(xs, key=lambda x: ..): the keys are data, lists among them, that the lambda's calls make -/
namespace SL
open PySem PySem.Spec PyProof.Rows L2 GxR NdefX GA
variable [SL.LamT]

/-! ### a lambda of one parameter -/
structure LamP (sc scope : Scope) (a : Str) : Prop where
  kind : scope.kind = .function
  co : scope.isCoroutine = false
  gen : scope.isGenerator = false
  par : scope.names.lookup a = some .local
  nocell : ∀ y ∈ scope.names, y.2 ≠ .cell
  loc : ∀ y ∈ scope.names, y.2 = .local → y.1 = a
  free : ∀ y ∈ scope.names, y.2 = .free → sc.names.lookup y.1 = some .cell ∨ sc.names.lookup y.1 = some .free
def lamPB (sc scope : Scope) (a : Str) : Bool :=
  decide (scope.kind = .function) && !scope.isCoroutine && !scope.isGenerator && decide (scope.names.lookup a = some .local) && scope.names.all fun y =>
    !decide (y.2 = .cell) && (!decide (y.2 = .local) || decide (y.1 = a)) && (!decide (y.2 = .free) || decide (sc.names.lookup y.1 = some .cell) || decide (sc.names.lookup y.1 = some .free))
theorem lamP_by {sc scope : Scope} {a : Str} (h : lamPB sc scope a = true) : LamP sc scope a := by
  unfold lamPB at h
  simp only [Bool.and_eq_true, Bool.or_eq_true, Bool.not_eq_true', decide_eq_true_eq, decide_eq_false_iff_not, List.all_eq_true] at h
  obtain ⟨⟨⟨⟨h1, h2⟩, h3⟩, h4⟩, h5⟩ := h
  refine ⟨h1, h2, h3, h4, fun y hy => (h5 y hy).1.1, fun y hy e => ?_, fun y hy e => ?_⟩
  · exact (h5 y hy).1.2.elim (fun z => absurd e z) id
  · rcases (h5 y hy).2 with (z | z) | z
    · exact absurd e z
    · exact .inl z
    · exact .inr z
theorem LamP.has {X : Cx} {scope : Scope} {a : Str} (L : LamP X.env.scope scope a) (ok : X.Ok) : ∀ y ∈ scope.names, y.2 = .free → ∃ c, X.env.cells.lookup y.1 = some c := fun y hy e => by
  rcases L.free y hy e with k | k
  · exact ok.has _ (.inl k)
  · exact ok.has _ (.inr k)
/-- the context of the lambda's body, called at s -/
@[reducible] def lamC (X : Cx) (A : Around) (s : Shared) (H : Hp) (scope : Scope) (f c' : Addr) (a : Str) : Cx :=
  { X with A := A.deeper (LamX.lamEnv X scope s.heap.objs.size f c'), N := X.N ++ [a], s_0 := s, H_0 := H, env := LamX.lamEnv X scope s.heap.objs.size f c', outer := X.stack,
           stack := LamX.lamEnv X scope s.heap.objs.size f c' :: X.stack, ex := [], fn := fun _ => false, calm := true, pn := [], xe := fun _ _ => False }

section
variable {X : Cx} {pins : List (Addr × Obj)} {σ : L2.St} {H : Hp} {s : Shared} {T : List Addr}

theorem lamC_start {A : Around} {scope : Scope} {f c' : Addr} {a : Str} {x : V} {u : Value} {h₁ : Heap} {tk : Nat} (I : Inv X pins σ H s) (L : LamP X.env.scope scope a) (hA : A.handled = none) (hfr : A.frames = some X.stack) (na : a ∉ X.N) (rx : RelV x u)
    (hns : h₁.Ns s.heap.objs.size fun y => ([(a, u)] : List (Str × Value)).reverse.lookup y) (kp : ∀ b o, s.heap.get? b = some o → h₁.get? b = some o) :
    Inv (lamC X A s H scope f c' a) [] (σ ++ [some x]) H { s with heap := h₁, toks := tk } := by
  have e0 := I.env0
  have hfree := L.has I.ok
  have cm : ∀ {y c}, (cloFrom X.env.cells scope.names []).lookup y = some c → X.env.cells.lookup y = some c := fun {y c} e => by
    rcases cloFrom_mem (PySem.mem_of_lookup e) with hm | ⟨h1, h2⟩
    · cases hm
    · obtain ⟨c1, hc⟩ := hfree _ h1 rfl
      have hc : X.env.cells.lookup y = some c1 := hc
      have e2 : c = c1 := by
        rw [h2, hc] <;> rfl
      rw [e2]
      exact hc
  have look : ∀ {y}, scope.names.lookup y = some .free → ∃ c, (cloFrom X.env.cells scope.names []).lookup y = some c := fun {y} hl => by
    have hy : (y, NameKind.free) ∈ scope.names := PySem.mem_of_lookup hl
    exact mem_lookup (cloFrom_has (cells := X.env.cells) (acc := []) hy)
  have cellK : ∀ {c : Addr} {v : Option Value}, s.heap.IsCell c v → h₁.IsCell c v := fun {c v} ⟨o, ho, hd⟩ => ⟨_, kp _ _ ho, hd⟩
  have noA : ∀ b : Addr, b ∉ (lamC X A s H scope f c' a).ex := fun b z => absurd (show b ∈ ([] : List Addr) from z) (by simp)
  refine ⟨⟨e0.mod, L.kind, rfl, rfl, Nat.le_refl _, fun y z c e1 e2 => I.ok.inj y z c (cm e1) (cm e2), fun y hy => ?_, fun y c z _ => ?_, fun _ => hA, Around.frames_deeper hfr, .inr ⟨rfl, rfl⟩, fun b z => absurd z (noA b), e0.bs, e0.bsz, fun b _ _ => noA b,
      fun b z => absurd z (noA b), e0.funs, e0.frf⟩,
    rfl, e0.bare, Un.kept kp, ⟨_, hns, fun i y v e1 e2 e3 => ?_⟩, fun y c e => ?_, e0.hok.fresh (Nat.le_refl _), fun y c e => ?_, fun q hq => absurd (show q ∈ ([] : List (Addr × Obj)) ++ [] from hq) (by simp), e0.hok.kept kp, ?_⟩
  · have hy : scope.names.lookup y = some .cell ∨ scope.names.lookup y = some .free := hy
    rcases hy with hy | hy
    · exact absurd rfl (L.nocell _ (PySem.mem_of_lookup hy))
    · exact look hy
  · have z : false = true := z
    cases z
  · have e1 : (X.N ++ [a])[i]? = some y := e1
    have e3 : Vis scope y := e3
    have il := I.len
    by_cases hi : i < X.N.length
    · rw [List.getElem?_append_left hi] at e1
      rw [List.getElem?_append_left (by rw [il]; exact hi)] at e2
      have ya : y ≠ a := fun z => na (by rw [← z]; exact List.mem_of_getElem? e1)
      rcases e3 with k | k | k
      · exact absurd (L.loc _ (PySem.mem_of_lookup k) rfl) ya
      · exact absurd rfl (L.nocell _ (PySem.mem_of_lookup k))
      · obtain ⟨m, hn, hl⟩ := I.loc
        have hvis : Vis X.env.scope y := (L.free _ (PySem.mem_of_lookup k) rfl).elim (fun k => .inr (.inl k)) (fun k => .inr (.inr k))
        obtain ⟨w', r, q⟩ := hl i y v e1 e2 hvis
        obtain ⟨c2, h2⟩ := look k
        refine ⟨w', r, .inr ⟨.inr k, c2, h2, ?_⟩⟩
        have c1 := cm h2
        rcases q with ⟨k', _⟩ | ⟨_, c3, e', z⟩
        · have k' : X.env.scope.names.lookup y = some .local := k'
          rcases L.free _ (PySem.mem_of_lookup k) rfl with k2 | k2 <;> rw [show X.env.scope.names.lookup y = _ from k2] at k' <;> cases k'
        · rw [c1] at e'
          cases e'
          exact cellK z
    · rw [List.getElem?_append_right (by omega)] at e1
      rw [List.getElem?_append_right (by omega)] at e2
      have h0 : i - X.N.length = 0 := by
        rcases Nat.eq_zero_or_pos (i - X.N.length) with z | z
        · exact z
        · rw [List.getElem?_eq_none (by simp; omega)] at e1
          cases e1
      rw [h0] at e1
      rw [show i - σ.length = 0 by omega] at e2
      obtain rfl : a = y := by simpa using e1
      obtain rfl : x = v := by simpa using e2
      exact ⟨u, rx, .inl ⟨L.par, by simp⟩⟩
  · obtain ⟨w', z⟩ := I.cell y c (cm e)
    exact ⟨w', cellK z⟩
  · exact I.freeC y c (cm e)
  · show (σ ++ [some x]).length = (X.N ++ [a]).length
    rw [List.length_append, List.length_append, I.len] <;> rfl

/-- the lambda called with u -/
theorem lam_call {A : Around} {params : Arguments} {body : Expr} {scope : Scope} {f c' : Addr} {a : Str} {pm ctv : Value} {x : V} {u : Value} {tb : TE} {Q : VK} (I : Inv X pins σ H s) (L : LamP X.env.scope scope a) (hA : A.handled = none) (hfr : A.frames = some X.stack)
    (hdp : A.depth < recursionLimit) (na : a ∉ X.N) (hf : s.heap.get? f = some (PySem.W.kla_obj "<lambda>" (X.env.qual ++ "<lambda>") params body scope (cloFrom X.env.cells scope.names []) pm c' ctv)) (hc : H c' = some (LamX.CodeO c' (X.env.qual ++ "<lambda>")))
    (hbind : bindArgs (PySem.W.kla_fn "<lambda>" (X.env.qual ++ "<lambda>") params body scope (cloFrom X.env.cells scope.names []) pm (.ref c') ctv) ⟨[u], []⟩ = pure [(a, u)]) (hbody : PE (lamC X A s H scope f c' a) body tb) (rx : RelV x u) (h : tb (σ ++ [some x]) H Q) :
    wpAny (model X.prog X.w) A (call (.ref f) [u]) (EP X pins σ Q) (fun _ _ => False) s := by
  obtain ⟨⟨oc, vs, t, hoc, hdc, hvc⟩, _, _⟩ := I.hok c' _ hc
  have rc : codeAny (model X.prog X.w) A (.call (.ref f) ⟨[u], []⟩) (fun r s' => match r with
      | .ok (.ret v) => CE X.stack X.prog X.w H s Q v s'
      | _ => False) s := by
    refine PySem.W.kla_callFunE hdp hf rfl L.co L.gen rfl ⟨c', oc, vs, t, rfl, hoc, hdc, hvc⟩ ?_
    rw [hbind]
    refine wpAny_pure (wpAny_newFunctionEnv L.nocell (fun y hy => ?_) (fun h₁ hns hsb => ⟨I.nolimit.fresh _ hsb, ?_⟩) L.kind)
    · obtain rfl : y = (a, u) := by simpa using hy
      exact L.par
    show codeAny _ _ (.expr body (LamX.lamEnv X scope s.heap.objs.size f c')) _ _
    have kp : ∀ b o, s.heap.get? b = some o → h₁.get? b = some o := fun b o e => hsb.extBut b o (Nat.ne_of_lt (Heap.lt_size e)) (Heap.get?_push_of_some _ e)
    have J := lamC_start (f := f) (c' := c') (tk := s.toks + ([(a, u)] : List (Str × Value)).length) I L hA hfr na rx hns kp
    refine PySem.W.kla_codeExpr (wpAny_mono (hbody.run [] _ _ H Q J h) (fun v s' hq => ?_) fun e s' hq => hq.elim)
    obtain ⟨w', H', J', rv, q⟩ := hq
    exact ⟨w', H', J'.os, J'.bare, J'.base, J'.hok, rv, q⟩
  refine wpAny_call (codeAny_mono rc fun r s' hq => ?_)
  cases r with
  | error e => exact False.elim hq
  | ok fl =>
    cases fl with
    | ret v => exact I.after hq
    | next => exact False.elim hq
    | brk => exact False.elim hq
    | cont => exact False.elim hq

/-- the lambda made -/
theorem lam_new {c P : Addr} {params : Arguments} {body : Expr} {scope : Scope} {pos : Pos} {E : Value → Shared → Prop} {Q : Value → Shared → Prop} (I : Inv X pins σ H s) (TB : LamX.TabB X.base X.mg c P) (hcode : X.env.code = .ref c)
    (hm : (P, X.env.qual ++ "<lambda>") ∈ LamT.l) (hT : Lams T H) (hdef : defaultsOf params X.env = ([], [])) (hfree : ∀ y ∈ scope.names, y.2 = .free → ∃ c, X.env.cells.lookup y.1 = some c)
    (h : ∀ (f c' : Addr) (pm ctv : Value) (H1 : Hp) (s' : Shared), Inv X pins σ H1 s' → Go T [] H H1 →
      s'.heap.get? f = some (PySem.W.kla_obj "<lambda>" (X.env.qual ++ "<lambda>") params body scope (cloFrom X.env.cells scope.names []) pm c' ctv) → FpOk X pins H1 f → H1 c' = some (LamX.CodeO c' (X.env.qual ++ "<lambda>")) → Q (.ref f) s') :
    wpAny (model X.prog X.w) X.A (eval (.Lambda params body scope pos) X.env) Q E s := by
  obtain ⟨nP, ps, hP, ht, ha⟩ := hT _ hm
  refine PySem.W.kla_eval hdef ?_
  have bP : s.heap.BuiltinsAt X.mg P := TB.bm.keeps I.bk
  have hP' : s.heap.get? P = some { cls := .none, data := .fields ps } := I.hok P _ hP
  cases hc : codeAmong pos ps.toList with
  | none =>
    refine PySem.W.kla_makeFunction (mg := X.mg) (c := c) (P := P) (ps := ps) (closure_ok hfree) I.ok.glob (I.mod.glob.keeps I.bk) hcode (TB.code.keeps I.bk) hP' ht hc TB.gP bP fun c' ctv h' tk hx hge hlt hrec htb => ?_
    obtain ⟨c2, oc, vs, t, e2, hoc, hd, hv⟩ := hrec
    cases e2
    have hsz : s.heap.objs.size ≤ h'.objs.size := Nat.le_trans hge (Nat.le_of_lt hlt)
    have nC : H c' = none := I.hok.fresh hge
    have I1 := LamX.inv_table (t' := tk) (more := #[rawInt pos.line, rawInt pos.col, .ref c']) (h' := h'.push (PySem.W.kla_obj "<lambda>" (X.env.qual ++ "<lambda>") params body scope (cloFrom X.env.cells scope.names []) ((X.mg "__name__").getD .none) c' ctv)) I hP
      (fun b o hb e => Heap.get?_push_of_some _ (hx b o hb e)) (Heap.get?_push_of_some _ htb) hge ⟨oc, vs, t, Heap.get?_push_of_some _ hoc, hd, hv⟩
    have nPc : P ≠ c' := ne_of_none hP nC
    have at_ : ∀ b, b ≠ P → b ≠ c' → upd (upd H P (.tbl (ps ++ #[rawInt pos.line, rawInt pos.col, .ref c']))) c' (LamX.CodeO c' (X.env.qual ++ "<lambda>")) b = H b := fun b h1 h2 => by rw [upd_ne h2, upd_ne h1]
    have keep : ∀ b o, H b = some o → (∀ ps, o ≠ .tbl ps) → upd (upd H P (.tbl (ps ++ #[rawInt pos.line, rawInt pos.col, .ref c']))) c' (LamX.CodeO c' (X.env.qual ++ "<lambda>")) b = some o := fun b o e n => by
      rw [at_ b (fun z => n ps (Option.some.inj (e.symm.trans (by rw [z]; exact hP)))) (ne_of_none e nC)]
      exact e
    have eL : (ps ++ #[rawInt pos.line, rawInt pos.col, .ref c']).toList = ps.toList ++ [rawInt pos.line, rawInt pos.col, .ref c'] := by simp
    have n1 : h'.objs.size ≠ c' := Nat.ne_of_gt hlt
    have n2 : h'.objs.size ≠ P := Nat.ne_of_gt (Nat.lt_of_lt_of_le (Heap.lt_size hP') hsz)
    refine h h'.objs.size c' ((X.mg "__name__").getD .none) ctv _ _ I1 ⟨fun b o e _ n => keep b o e n, fun b e => ?_, fun z Q hQ => ?_, fun z p hp => ?_⟩ (Heap.get?_push_size _ rfl) (I.fpOk hsz ?_) upd_same
    · by_cases hb : b = c'
      · rw [hb]; exact nC
      · by_cases hb2 : b = P
        · rw [hb2, upd_ne nPc, upd_same] at e
          cases e
        · rw [at_ b hb2 hb] at e
          exact e
    · obtain ⟨qs, e1, e2⟩ := z Q hQ
      exact ⟨qs, by rw [at_ Q (fun y => nP (by rw [← y]; exact hQ)) (ne_of_none e1 nC)]; exact e1, e2⟩
    · refine ⟨(z p hp).1, ?_⟩
      by_cases hb : p.1 = P
      · have e2 := LamT.un p hp _ hm hb
        rw [e2, hb]
        refine ⟨_, by rw [upd_ne nPc, upd_same], by rw [eL]; exact PySem.TriplesOk_snoc _ _ _ _ ht, fun p' cv hcv => ?_⟩
        rw [eL] at hcv
        rcases LamX.among_app _ ht hcv with z | z
        · obtain ⟨c0, e1, e2⟩ := ha p' cv z
          exact ⟨c0, e1, keep _ _ e2 LamX.codeO_ne⟩
        · exact ⟨c', z, upd_same⟩
      · obtain ⟨ps', a1, a2, a3⟩ := (z p hp).2
        refine ⟨ps', by rw [at_ _ hb (ne_of_none a1 nC)]; exact a1, a2, fun p' cv hcv => ?_⟩
        obtain ⟨c0, e1, e2⟩ := a3 p' cv hcv
        exact ⟨c0, e1, keep _ _ e2 LamX.codeO_ne⟩
    · rw [at_ _ n2 n1]
      exact I.hok.fresh hsz
  | some cv =>
    obtain ⟨c', e, hco⟩ := ha pos cv hc
    subst e
    refine PySem.W.kla_makeFunctionHit (mg := X.mg) (c := c) (P := P) (ps := ps) (closure_ok hfree) I.ok.glob (I.mod.glob.keeps I.bk) hcode (TB.code.keeps I.bk) hP' ht hc bP fun ctv h' tk hx hsz => ?_
    have I1 : Inv X pins σ H { s with heap := h'.push (PySem.W.kla_obj "<lambda>" (X.env.qual ++ "<lambda>") params body scope (cloFrom X.env.cells scope.names []) ((X.mg "__name__").getD .none) c' ctv), toks := tk } := I.kept fun b o e => Heap.get?_push_of_some _ (hx b o e)
    exact h h'.objs.size c' ((X.mg "__name__").getD .none) ctv H _ I1 Go.refl (Heap.get?_push_size _ rfl) (I.fpOk hsz (I.hok.fresh hsz)) hco
end
end SL
set_option Elab.async false
set_option linter.all false
set_option maxRecDepth 100000
set_option maxHeartbeats 4000000
/-! own words, 52: the sort itself -/
namespace SL
open PySem PySem.Spec PySem.Calls PyProof.Rows L2 GxR NdefX GA
variable [SL.LamT]
/-- the heap without what stands at c -/
def gone (h : Heap) (c : Addr) : Heap := h.update c fun o => { o with data := .freed }
theorem gone_ne {h : Heap} {b c : Addr} (hb : b ≠ c) : (gone h c).get? b = h.get? b := Heap.get?_update_ne _ _ _ _ hb
theorem gone_same {h : Heap} {c : Addr} : (gone h c).get? c = none := by
  unfold gone Heap.get?
  rw [Heap.objs_update_self]
  cases h.objs[c]? <;> rfl
theorem each_reads {P : Program} {w : World} {H : Hp} {h : Heap} (ok : HOk P w H h) : ∀ {kv : List V} {us : List Value} {ds : List PyData}, DvAll [] H kv ds → Vals kv us → PySem.W.EachIs (fun v d => ∃ as, Reads h v d as) us ds
  | _, _, _, .nil, .nil => .nil
  | _, _, _, .cons d t, .cons r rs => .cons (let ⟨as, q, _⟩ := Dv.reads ok d r; ⟨as, q⟩) (each_reads ok t rs)
theorem each_rel : ∀ {xs : List V} {us : List Value}, Vals xs us → PySem.W.EachIs (fun u x => RelV x u) us xs
  | _, _, .nil => .nil
  | _, _, .cons r t => .cons r (each_rel t)
theorem vals_each : ∀ {us : List Value} {xs : List V}, PySem.W.EachIs (fun u x => RelV x u) us xs → Vals xs us
  | _, _, .nil => .nil
  | _, _, .cons r t => .cons r (vals_each t)

/-- what a call of the key gives -/
def KeyRun (X : Cx) (pins : List (Addr × Obj)) (σ : L2.St) (T : List Addr) (H0 : Hp) (f : Value) (xs : List V) (k : V → PyData) : Prop :=
  ∀ (ps : List (Addr × Obj)) (x : V) (u : Value) (H : Hp) (s : Shared), x ∈ xs → RelV x u → Inv X (ps ++ pins) σ H s → Go T [] H0 H →
    wpAny (model X.prog X.w) X.A.in1.in1 (call f [u]) (EP X (ps ++ pins) σ fun kv H' => Go T [] H H' ∧ Dv [] H' kv (k x)) (fun _ _ => False) s
section
variable {X : Cx} {pins : List (Addr × Obj)} {σ : L2.St} {H0 : Hp} {s : Shared} {a kS : Addr} {e1 : Nat} {f : Value} {vs : List Value} {xs : List V} {k : V → PyData} {T : List Addr} {P : PySem.Fin → Shared → Prop} {E : Value → Shared → Prop}

theorem srt_rest (I : Inv X pins σ H0 s) (fa : FpOk X pins H0 a) (fk : FpOk X pins H0 kS) (hka : kS ≠ a) (na : s.heap.get? a = some (seqObj "list" #[] e1)) (nk : s.heap.get? kS = some (seqObj "list" #[] 0)) (r : Vals xs vs) (hz : vs.length ≤ sizeLine)
    (hal : PySem.W.AllAlike (xs.map k)) (hs : PySem.W.Sortable (xs.map k)) (hu : ∀ d ∈ xs.map k, X.A.units + 2 + d.depth < cLine) (turn : KeyRun X pins σ T H0 f xs k)
    (h : ∀ (H1 : Hp) (s' : Shared), H1 a = none → Go T [] H0 H1 → Inv X pins σ (upd H1 a (.lst (xs.mergeSort (PySem.W.dataLe false k)))) s' → P (.done (.ret .none)) s') :
    wpAny (model X.prog X.w) X.A.in1.in1 (ksk_rest a f false vs.toArray e1 (.ref kS)) P E s := by
  have rl := r.length
  unfold ksk_rest
  refine wpAny_bind (wpAny_rule ?_)
  first
    | rw [List.forIn_toArray]
    | (rw [← Array.forIn_toList]; simp only [List.toList_toArray])
    | rw [← Array.forIn_toList]
  have cellL : ∀ (b : Array Value) (n : Nat) (v : Option Value), (seqObj "list" b n).data ≠ .cell v := fun _ _ _ z => by cases z
  have mk : ∀ {H : Hp} {s' : Shared} {kA : Array Value} {e : Nat}, Inv X pins σ H s' → H a = none → H kS = none → s'.heap.get? a = some (seqObj "list" #[] e1) → s'.heap.get? kS = some (seqObj "list" kA e) →
      Inv X ([(a, seqObj "list" #[] e1), (kS, seqObj "list" kA e)] ++ pins) σ H s' := fun {H s' kA e} J h1 h2 h3 h4 => J.pins_of fun p hp => by
    rcases List.mem_append.mp hp with hp | hp
    · rcases List.mem_cons.mp hp with rfl | hp
      · exact ⟨h3, h1, fa.2.1, fa.2.2.1, cellL _ _⟩
      · obtain rfl := List.mem_singleton.mp hp
        exact ⟨h4, h2, fk.2.1, fk.2.2.1, cellL _ _⟩
    · exact J.pin p (List.mem_append_right _ hp)
  have un : ∀ {H : Hp} {s' : Shared} {pl : List (Addr × Obj)}, Inv X (pl ++ pins) σ H s' → Inv X pins σ H s' := fun J => J.pins_of fun p hp => J.pin p (List.mem_append_right _ (List.mem_append_right _ hp))
  refine wpAny_bind (ksk_fold (fun i s' => ∃ (H : Hp) (kA : Array Value) (e : Nat) (kv : List V), Inv X ([(a, seqObj "list" #[] e1), (kS, seqObj "list" kA e)] ++ pins) σ H s' ∧ Go T [] H0 H ∧ Vals kv kA.toList ∧ DvAll [] H kv ((xs.take i).map k)) vs 0 s
    ⟨H0, #[], 0, [], mk I fa.1 fk.1 na nk, Go.refl, .nil, by rw [List.take_zero]; exact .nil⟩ ?step ?done)
  case step =>
    rintro j v s' hx ⟨H, kA, e, kv, J, g, rk, dk⟩
    simp only [Nat.zero_add] at dk ⊢
    have hj : j < vs.length := (List.getElem?_eq_some_iff.mp hx).1
    obtain ⟨x, hxj⟩ : ∃ x, xs[j]? = some x := ⟨_, List.getElem?_eq_getElem (by omega)⟩
    obtain ⟨u, hu1, rx⟩ := r.get hxj
    rw [hx] at hu1
    obtain rfl : v = u := Option.some.inj hu1
    refine wpAny_bind (wpAny_attempt (wpAny_mono (turn _ x v H s' (List.mem_of_getElem? hxj) rx J g) (fun kx s2 hq => ?_) fun _ _ z => z.elim))
    obtain ⟨k1, H2, J2, rk1, g2, d2⟩ := hq
    try dsimp only
    obtain ⟨pa1, pa2, _⟩ := J2.pin (a, seqObj "list" #[] e1) (by simp)
    obtain ⟨pk1, pk2, _⟩ := J2.pin (kS, seqObj "list" kA e) (by simp)
    have pa1 : s2.heap.get? a = some (seqObj "list" #[] e1) := pa1
    have pk1 : s2.heap.get? kS = some (seqObj "list" kA e) := pk1
    have dl := dk.length
    have kl : kv.length = kA.size := by rw [← Array.length_toList]; exact rk.length
    have hzk : kA.size ≤ vs.length := by
      rw [← kl, dl, List.length_map, List.length_take]
      omega
    have s1 := Heap.SameBut.update s2.heap kS (Obj.mapSeq (·.push kx))
    obtain ⟨c2, hc2⟩ : ∃ c2, (s2.heap.update kS (Obj.mapSeq (·.push kx))).get? kS = some (seqObj "list" (kA.push kx) c2) := ⟨_, get?_update_seq pk1 (·.push kx)⟩
    refine wpAny_bind (listUpdate_at pk1 rfl ?_ (Nat.le_trans hzk hz) (Nat.le_trans (Nat.le_of_eq (Array.size_push ..)) (Nat.succ_le_succ (Nat.le_trans hzk hz))))
    have J3 : Inv X pins σ H2 { s2 with heap := s2.heap.update kS (Obj.mapSeq (·.push kx)) } := (un J2).turned (t' := s2.toks) (it := kS) (fun b o hb e => (s1.2 b hb).trans e) pk2 fk.2.1 fk.2.2.2.1 fk.2.2.2.2.1 fk.2.2.2.2.2
    have ea : (kA.push kx).toList = kA.toList ++ [kx] := by simp
    refine wpAny_pure ⟨rfl, H2, kA.push kx, c2, kv ++ [k1], mk J3 pa2 pk2 ((s1.2 a hka.symm).trans pa1) hc2, g.trans g2, by rw [ea]; exact rk.append (.cons rk1 .nil), ?_⟩
    rw [List.take_add_one, hxj, List.map_append]
    exact (dk.go g2).append (.cons d2 .nil)
  case done =>
    rintro s' ⟨H, kA, e, kv, J, g, rk, dk⟩
    have e3 : xs.take (0 + vs.length) = xs := List.take_of_length_le (by omega)
    rw [e3] at dk
    try dsimp only
    obtain ⟨pa1, pa2, _⟩ := J.pin (a, seqObj "list" #[] e1) (by simp)
    obtain ⟨pk1, pk2, _⟩ := J.pin (kS, seqObj "list" kA e) (by simp)
    have pa1 : s'.heap.get? a = some (seqObj "list" #[] e1) := pa1
    have pk1 : s'.heap.get? kS = some (seqObj "list" kA e) := pk1
    have dl := dk.length
    have kl : kv.length = kA.size := by rw [← Array.length_toList]; exact rk.length
    have hsz : kA.size = vs.length := by
      rw [← kl, dl, List.length_map]
      omega
    refine wpAny_bind (listItems_at pk1 rfl ?_)
    have er := each_reads J.hok dk rk
    refine PySem.W.keyH_end (κ := PySem.W.dataKind s'.heap (xs.map k)) (h₁ := gone s'.heap kS) (fun b o _ q => ?_) gone_same pk1 pa1 hka (PySem.W.SortsAt.data er hal hs fun d hd => hu d hd) hsz hz fun h' tk c kk n3 => ?_
    · have hb : b ≠ kS := fun z => by rw [z, gone_same] at q; cases q
      rw [gone_ne hb] at q
      exact q
    · have J1 := (un J).turnedL (t' := tk) (h' := h') (ch := [a, kS]) (fun b o hb q => by
        simp only [List.mem_cons, List.not_mem_nil, or_false, not_or] at hb
        exact kk b o hb.1 (by rw [gone_ne hb.2]; exact q)) (fun b hb => by
        rcases List.mem_cons.mp hb with rfl | hb
        · exact ⟨pa2, fa.2⟩
        · obtain rfl := List.mem_singleton.mp hb
          exact ⟨pk2, fk.2⟩)
      have eo := PySem.W.keyedOut_each (rev := false) (R := fun u x => RelV x u) k ⟨s'.heap, kA.toList, hal, rfl, er⟩ (each_rel r)
      have ro := vals_each eo
      have J2 := J1.take (t' := tk) (o := .lst (xs.mergeSort (PySem.W.dataLe false k))) (fun b ob _ q => q) (⟨pa2, fa.2⟩ : FpOk X pins H a) (show ObjOk X.prog X.w _ h' a (.lst _) from ⟨by rw [(List.mergeSort_perm _ _).length_eq]; omega, _, c, ro, n3⟩)
      exact h H _ pa2 g J2

/-- sorted(l, key=f) -/
theorem srt_sorted {l fa : Addr} {Q : Value → Shared → Prop} (I : Inv X pins σ H0 s) (hcol : ∀ {R : List Value → Shared → Prop}, (∀ (h' : Heap) (tk : Nat), (∀ b o, s.heap.get? b = some o → h'.get? b = some o) → R vs { s with heap := h', toks := tk }) → wpAny (model X.prog X.w) X.A.in1 (collect (.ref l)) R E s)
    (r : Vals xs vs) (hz : vs.length ≤ sizeLine) (hal : PySem.W.AllAlike (xs.map k)) (hs : PySem.W.Sortable (xs.map k)) (hu : ∀ d ∈ xs.map k, X.A.units + 2 + d.depth < cLine) (turn : KeyRun X pins σ T H0 (.ref fa) xs k)
    (h : ∀ (p : Addr) (H1 : Hp) (s' : Shared), H1 p = none → Go T [] H0 H1 → Inv X pins σ (upd H1 p (.lst (xs.mergeSort (PySem.W.dataLe false k)))) s' → Q (.ref p) s') :
    wpAny (model X.prog X.w) X.A (call (.builtin "sorted") [.ref l] [(Str.ofString "key", .ref fa)]) Q E s := by
  refine call_function_entry_kw kind_sorted plain_sorted entry_sorted (ksk_s1 _ _) ?_
  unfold Builtin.«sorted»
  refine wpAny_bind (m := checkCount "sorted" 1 1 _) (wpAny_pure ?_)
  refine wpAny_bind (hcol fun h' tk hk => ?_)
  have I1 : Inv X pins σ H0 { s with heap := h', toks := tk } := I.kept hk
  refine wpAny_bind (wpAny_newList ?_ hz)
  refine wpAny_bind (wpAny_holding (wpAny_call_entry_kw slot_list_sort ⟨_, Heap.get?_push_size _ rfl, rfl⟩ entry_list_sort ?body (ksk_l1 _ _)))
  case body =>
    show wpAny (model X.prog X.w) X.A.in1.in1 (Builtin.«list.sort» ⟨[.ref h'.objs.size], [(Str.ofString "key", .ref fa)]⟩) _ _ _
    rw [ksk_t1]
    have ho : (h'.push { cls := .type "list", data := .seq vs.toArray }).get? h'.objs.size = some (seqObj "list" vs.toArray 0) := Heap.get?_push_size _ rfl
    obtain ⟨e1, ho1⟩ : ∃ e1, ((h'.push { cls := .type "list", data := .seq vs.toArray }).update h'.objs.size (Obj.mapSeq fun _ => (#[] : Array Value))).get? h'.objs.size = some (seqObj "list" #[] e1) := ⟨_, get?_update_seq ho fun _ => #[]⟩
    have hsz : (((h'.push { cls := .type "list", data := .seq vs.toArray }).update h'.objs.size (Obj.mapSeq fun _ => (#[] : Array Value))).push (seqObj "tuple" vs.toArray 0)).objs.size = h'.objs.size + 2 := by
      rw [size_push', Heap.size_update, size_push']
    unfold ksk_tree
    refine wpAny_bind (listItems_at ho rfl ?_)
    refine wpAny_bind (listUpdate_at ho rfl ?_ (by rw [List.size_toArray]; exact hz) (Nat.zero_le _))
    refine wpAny_bind (seqEpoch_at ho1 rfl ?_)
    refine wpAny_bind (wpAny_newTuple ?_ (by show vs.length ≤ _; exact hz))
    refine wpAny_bind (wpAny_newList ?_ (Nat.zero_le _))
    refine wpAny_holding ?_
    have keep : ∀ b o, h'.get? b = some o → ((((h'.push { cls := .type "list", data := .seq vs.toArray }).update h'.objs.size (Obj.mapSeq fun _ => (#[] : Array Value))).push (seqObj "tuple" vs.toArray 0)).push (seqObj "list" #[] 0)).get? b = some o := fun b o q =>
      Heap.get?_push_of_some _ (Heap.get?_push_of_some _ ((Heap.get?_update_ne _ _ _ _ (Nat.ne_of_lt (Heap.lt_size q))).trans (Heap.get?_push_of_some _ q)))
    have I2 := I1.kept (t' := tk) keep
    refine srt_rest (T := T) (xs := xs) (k := k) (H0 := H0) (kS := (((h'.push { cls := .type "list", data := .seq vs.toArray }).update h'.objs.size (Obj.mapSeq fun _ => (#[] : Array Value))).push (seqObj "tuple" vs.toArray 0)).objs.size) I2 (I1.fpOk (Nat.le_refl _) (I1.hok.fresh (Nat.le_refl _))) (I1.fpOk ?_ (I1.hok.fresh ?_)) ?_
      (Heap.get?_push_of_some _ (Heap.get?_push_of_some _ ho1)) (Heap.get?_push_size _ rfl) r hz hal hs hu turn fun H1 s' n1 g1 J => ⟨_, rfl, wpAny_pure ⟨_, rfl, h _ H1 s' n1 g1 J⟩⟩
    · show h'.objs.size ≤ _
      rw [hsz]; omega
    · show h'.objs.size ≤ _
      rw [hsz]; omega
    · show _ ≠ h'.objs.size
      rw [hsz]; omega
end
end SL
set_option Elab.async false
set_option linter.all false
set_option maxRecDepth 100000
set_option maxHeartbeats 4000000
/-! own words, 53: sorted(e, key=lambda a: ..) as a value; e a list, or a dict with tuple keys -/
namespace SL
open PySem PySem.Spec PySem.Calls PyProof.Rows L2 GxR NdefX GA
variable [SL.LamT]
/-- what is asked behind the list (or the keys) xs in H1 -/
def SrtQ (T : List Addr) (k : V → PyData) (tb : TE) (σ : L2.St) (H1 : Hp) (xs : List V) (Q : VK) : Prop :=
  Lams T H1 ∧ PySem.W.AllAlike (xs.map k) ∧ PySem.W.Sortable (xs.map k) ∧ (∀ x ∈ xs, (k x).depth ≤ 60) ∧
  (∀ x ∈ xs, ∀ (H2 : Hp) (R : VK), Go T [] H1 H2 → (∀ kv H3, Go T [] H2 H3 → Dv [] H3 kv (k x) → R kv H3) → tb (σ ++ [some x]) H2 R) ∧
  ∀ (H2 : Hp) (p : Addr), Go T [] H1 H2 → H2 p = none → Q (.ref p) (upd H2 p (.lst (xs.mergeSort (PySem.W.dataLe false k))))
def tSrt (K : PySem.W.Frag) (T : List Addr) (te tb : TE) : TE := fun σ H Q => te σ H fun v H1 => ∃ (l : Addr) (xs : List V) (k : V → PyData), v = .ref l ∧ SqL K H1 l xs ∧ SrtQ T k tb σ H1 xs Q
theorem SrtQ.go {T : List Addr} {k : V → PyData} {tb : TE} {σ : L2.St} {H1 H2 : Hp} {xs : List V} {Q : VK} (h : SrtQ T k tb σ H1 xs Q) (g : Go T [] H1 H2) : SrtQ T k tb σ H2 xs Q :=
  ⟨g.lm h.1, h.2.1, h.2.2.1, h.2.2.2.1, fun x hx H3 R g3 hr => h.2.2.2.2.1 x hx H3 R (g.trans g3) hr, fun H3 p g3 n => h.2.2.2.2.2 H3 p (g.trans g3) n⟩
def tSrtD (T : List Addr) (te tb : TE) : TE := fun σ H Q => te σ H fun v H1 => ∃ (l : Addr) (kvs : List (List L2.Key × V)), v = .ref l ∧ H1 l = some (.dT kvs) ∧ Lams T H1 ∧ ∀ H2 bs, Go T [] H1 H2 → IsKeys H2 kvs bs → ∃ k, SrtQ T k tb σ H2 (bs.map V.ref) Q
section
variable {X : Cx} {T : List Addr} {e : Expr} {te tb : TE} {a : Str} {c P : Addr} {params : Arguments} {body : Expr} {scope : Scope} {p pos lpos kpos : Pos} {j : Nat}

theorem srt_core (R : V → Hp → Prop) (hg : Gl X "sorted") (hm : X.mg "sorted" = none) (he : PE X e te) (TB : LamX.TabB X.base X.mg c P) (hcode : X.env.code = .ref c) (hP : (P, X.env.qual ++ "<lambda>") ∈ LamT.l) (L : LamP X.env.scope scope a) (hdef : defaultsOf params X.env = ([], []))
    (hbind : ∀ (q : Str) (cl : List (Str × Addr)) (pm cv ctv u : Value), bindArgs (PySem.W.kla_fn "<lambda>" q params body scope cl pm cv ctv) ⟨[u], []⟩ = pure [(a, u)]) (na : a ∉ X.N) (hr : Room (j + 3) X.A)
    (hbody : ∀ (A : Around) (s : Shared) (H : Hp) (f c' : Addr), Room j (A.deeper (LamX.lamEnv X scope s.heap.objs.size f c')) → PE (lamC X A s H scope f c' a) body tb)
    {pins : List (Addr × Obj)} {s : Shared} {σ : L2.St} {H : Hp} {Q : VK} (I : Inv X pins σ H s) (h : te σ H R)
    (hR : ∀ (v : V) (H1 : Hp), R v H1 → ∃ l, v = .ref l ∧ ∀ (pl : List (Addr × Obj)) (H2 : Hp) (s2 : Shared), Go T [] H1 H2 → Inv X (pl ++ pins) σ H2 s2 → ∃ (xs : List V) (vs : List Value) (k : V → PyData), Vals xs vs ∧ vs.length ≤ sizeLine ∧ SrtQ T k tb σ H2 xs Q ∧
      ∀ {R' : List Value → Shared → Prop}, (∀ (h' : Heap) (tk : Nat), (∀ b o, s2.heap.get? b = some o → h'.get? b = some o) → R' vs { s2 with heap := h', toks := tk }) → wpAny (model X.prog X.w) X.A.in1 (collect (.ref l)) R' X.xe s2)
    (hL : ∀ (v : V) (H1 : Hp), R v H1 → Lams T H1)
    (he1 : starEach (e :: []) X.env = (false, eval e X.env) :: starEach [] X.env := by rfl)
    (he2 : backTo pos (starEach (e :: []) X.env) = (false, eval e X.env) :: backTo pos (starEach [] X.env) := by rfl) (hpl : (backTo pos (starEach (e :: []) X.env)).any (·.1) = false := by rfl) :
    wpAny (model X.prog X.w) X.A (eval (.Call (.Name "sorted" p) [e] [⟨some "key", .Lambda params body scope lpos, kpos⟩] pos) X.env) (EP X pins σ Q) X.xe s := by
  refine wpAny_Call_Name_kw (ld_blt I hg hm (by decide +kernel : bootBuiltins "sorted" = some (.builtin "sorted")) ?_ (by decide) (by decide))
  refine PyProof.Rows.callWith_kw (thn ((pa_cons he pa_nil he1).run pos pins s σ H (fun vs H1 => match vs with
    | [v] => R v H1
    | _ => False) I h) fun us s1 ⟨vs, H1, I1, r1, q1⟩ => ?_) he2 hpl (by rfl) (by rfl)
  obtain ⟨v, rfl, q⟩ : ∃ v, vs = [v] ∧ R v H1 := by
    match vs, q1 with
    | [v], q => exact ⟨v, rfl, q⟩
  obtain ⟨u, rfl, ru⟩ := r1.one
  have hLm := hL v H1 q
  obtain ⟨l, rfl, q2⟩ := hR v H1 q
  obtain rfl : u = Value.ref l := ru
  show wpAny _ _ (evalAll ((do let v ← eval (.Lambda params body scope lpos) X.env; standAt pos; pure v) :: [])) _ _ s1
  refine wpAny_evalAll_cons (wpAny_bind (lam_new I1 TB hcode hP hLm hdef (L.has I1.ok) fun f c' pm ctv H2 s2 I2 g2 hf ff hc => wpAny_bind (wpAny_standAt (wpAny_pure (wpAny_evalAll_nil ?_)))))
  show wpAny _ _ (call (.builtin "sorted") [.ref l] [(Str.ofString "key", .ref f)]) _ _ s2
  have I3 : Inv X ([(f, PySem.W.kla_obj "<lambda>" (X.env.qual ++ "<lambda>") params body scope (cloFrom X.env.cells scope.names []) pm c' ctv)] ++ pins) σ H2 s2 := I2.pins_of fun p hp => by
    rcases List.mem_cons.mp hp with rfl | hp
    · exact ⟨hf, ff.1, ff.2.1, ff.2.2.1, fun v z => by cases z⟩
    · exact I2.pin p (List.mem_append_right _ hp)
  obtain ⟨xs, vs, k, rv, hz, ⟨_, hal, hs, hd, ht, hq⟩, hcol⟩ := q2 _ H2 s2 g2 I3
  have hun := hr.units
  refine srt_sorted (T := T) (k := k) I3 (fun {R'} hh => hcol hh) rv hz hal hs (fun d hd' => ?_) (fun ps x u H3 s3 hx rx J g3 => ?_) fun p H3 s3 n3 g3 J => ?_
  · obtain ⟨x, hx, rfl⟩ := List.mem_map.mp hd'
    have := hd x hx
    omega
  · have pf := (J.pin (f, _) (List.mem_append_right _ (List.mem_append_right _ (List.mem_append_left _ (List.mem_singleton.mpr rfl))))).1
    exact lam_call J L hr.hd J.ok.frames hr.depth na pf (g3.gr _ _ hc List.not_mem_nil LamX.codeO_ne) (hbind _ _ _ _ _ _) (hbody _ _ _ _ _ (hr.in1.in1.deeper _)) rx
      (ht x hx H3 _ g3 fun kv H4 g4 d4 => ⟨g4, d4⟩)
  · exact ⟨.ref p, _, J.pins_of fun p hp => J.pin p (List.mem_append_right _ (List.mem_append_right _ hp)), rfl, hq H3 p g3 n3⟩

theorem pe_srt (hg : Gl X "sorted") (hm : X.mg "sorted" = none) (he : PE X e te) (TB : LamX.TabB X.base X.mg c P) (hcode : X.env.code = .ref c) (hP : (P, X.env.qual ++ "<lambda>") ∈ LamT.l) (L : LamP X.env.scope scope a) (hdef : defaultsOf params X.env = ([], []))
    (hbind : ∀ (q : Str) (cl : List (Str × Addr)) (pm cv ctv u : Value), bindArgs (PySem.W.kla_fn "<lambda>" q params body scope cl pm cv ctv) ⟨[u], []⟩ = pure [(a, u)]) (na : a ∉ X.N) (hr : Room (j + 3) X.A)
    (hbody : ∀ (A : Around) (s : Shared) (H : Hp) (f c' : Addr), Room j (A.deeper (LamX.lamEnv X scope s.heap.objs.size f c')) → PE (lamC X A s H scope f c' a) body tb)
    (he1 : starEach (e :: []) X.env = (false, eval e X.env) :: starEach [] X.env := by rfl)
    (he2 : backTo pos (starEach (e :: []) X.env) = (false, eval e X.env) :: backTo pos (starEach [] X.env) := by rfl) (hpl : (backTo pos (starEach (e :: []) X.env)).any (·.1) = false := by rfl) :
    PE X (.Call (.Name "sorted" p) [e] [⟨some "key", .Lambda params body scope lpos, kpos⟩] pos) (tSrt X.K T te tb) := by
  refine ⟨fun pins s σ H Q I h => srt_core (T := T) _ hg hm he TB hcode hP L hdef hbind na hr hbody I h (fun v H1 q => ?_) (fun v H1 q => ?_) he1 he2 hpl⟩
  · obtain ⟨l, xs, k, rfl, hl, q⟩ := q
    refine ⟨l, rfl, fun pl H2 s2 g I2 => ?_⟩
    obtain ⟨its, rv, hi, hz⟩ := I2.list (g.sqL hl)
    have hz' : its.length ≤ sizeLine := by rw [← rv.length]; exact hz
    refine ⟨xs, its, k, rv, hz', q.go g, fun {R'} hh => collect_list hi.isList (hh _ s2.toks fun b o eb => ?_) hz'⟩
    exact (Heap.get?_update_ne _ _ _ _ (Nat.ne_of_lt (Heap.lt_size eb))).trans (Heap.get?_push_of_some _ eb)
  · obtain ⟨l, xs, k, rfl, hl, q⟩ := q
    exact q.1

theorem pe_srtD (hc : X.calm = true) (hg : Gl X "sorted") (hm : X.mg "sorted" = none) (he : PE X e te) (TB : LamX.TabB X.base X.mg c P) (hcode : X.env.code = .ref c) (hP : (P, X.env.qual ++ "<lambda>") ∈ LamT.l) (L : LamP X.env.scope scope a) (hdef : defaultsOf params X.env = ([], []))
    (hbind : ∀ (q : Str) (cl : List (Str × Addr)) (pm cv ctv u : Value), bindArgs (PySem.W.kla_fn "<lambda>" q params body scope cl pm cv ctv) ⟨[u], []⟩ = pure [(a, u)]) (na : a ∉ X.N) (hr : Room (j + 3) X.A)
    (hbody : ∀ (A : Around) (s : Shared) (H : Hp) (f c' : Addr), Room j (A.deeper (LamX.lamEnv X scope s.heap.objs.size f c')) → PE (lamC X A s H scope f c' a) body tb)
    (he1 : starEach (e :: []) X.env = (false, eval e X.env) :: starEach [] X.env := by rfl)
    (he2 : backTo pos (starEach (e :: []) X.env) = (false, eval e X.env) :: backTo pos (starEach [] X.env) := by rfl) (hpl : (backTo pos (starEach (e :: []) X.env)).any (·.1) = false := by rfl) :
    PE X (.Call (.Name "sorted" p) [e] [⟨some "key", .Lambda params body scope lpos, kpos⟩] pos) (tSrtD T te tb) := by
  refine ⟨fun pins s σ H Q I h => srt_core (T := T) _ hg hm he TB hcode hP L hdef hbind na hr hbody I h (fun v H1 q => ?_) (fun v H1 q => ?_) he1 he2 hpl⟩
  · obtain ⟨l, kvs, rfl, hl, hL, q⟩ := q
    refine ⟨l, rfl, fun pl H2 s2 g I2 => ?_⟩
    have hl2 := g.gr _ _ hl List.not_mem_nil fun _ z => by cases z
    obtain ⟨z, hs, ks, pr, o, es, ep, ho, hx, hdt, he, hn⟩ := (show ObjOk X.prog X.w H2 s2.heap l (.dT kvs) from I2.hok l _ hl2)
    have l1 : es.size = ks.length := size_of_entries he
    have l2 : kvs.length = ks.length := Paired.length pr
    obtain ⟨k, q⟩ := q H2 _ g (isKeys_of pr)
    refine ⟨(ks.map fun x => x.2.1).map V.ref, (ks.map fun x => x.2.1).map Value.ref, k, vals_refs _, by rw [List.length_map, List.length_map]; omega, q, fun {R'} hh => ?_⟩
    refine PySem.W.kdu_collect (A := X.A.in1) (kdl_raw hs hx hdt) (I2.ok.hd hc) ho (by omega) fun h' tk acc hk it => ?_
    have ea : acc.toList = (ks.map fun x => x.2.1).map Value.ref := by
      have hl : acc.toList.length = ks.length := by rw [Array.length_toList, it.1]; exact l1
      apply List.ext_getElem?
      intro i
      rw [List.map_map, List.getElem?_map]
      cases hj : acc.toList[i]? with
      | none =>
        have h1 := List.getElem?_eq_none_iff.mp hj
        rw [List.getElem?_eq_none (by omega)]
        all_goals rfl
      | some v =>
        obtain ⟨en, hen, hv⟩ := it.2 i v (by rw [← Array.getElem?_toList]; exact hj)
        have qe := entry_at he i
        rw [hen] at qe
        cases hb : ks[i]? with
        | none =>
          rw [hb] at qe
          exact nomatch (show some en = none from qe)
        | some b =>
          rw [hb] at qe
          have e2 : en = entryOfKey (tupleKind (mixKind X.prog X.w)) b := Option.some.inj qe
          rw [hv, e2]
          all_goals rfl
    rw [ea]
    exact hh h' tk hk
  · obtain ⟨l, kvs, rfl, hl, hL, q⟩ := q
    exact hL
end
end SL
set_option Elab.async false
set_option linter.all false
set_option maxRecDepth 100000
set_option maxHeartbeats 8000000
namespace K2
open PySem PySem.Spec PyProof.Rows L2 GxR NdefX GA SL RZ
variable [SL.LamT]
abbrev s_rows_of : Stmt := top 23
abbrev NrO : List Str := ["kinds", "kind", "words", "parts", "makers", "names", "name", "_"]
theorem sc_rows_of : FnScope NrO ["kinds", "kind", "words"] (defScope s_rows_of) := ⟨rfl, rfl, rfl, by decide +kernel, rfl, by decide +kernel, by decide +kernel⟩
/-- the parts in their order -/
def srtP (ks : List PyData) (P : List (List Key)) : List (List Key) := P.mergeSort (PySem.W.dataLe false (keyP ks))
def ordW (ks : List PyData) (ws : List Key) : List (List Key) := srtP ks (keysR ks ws)
def rowsDt (ks : List PyData) (ws : List Key) : PyData := .tuple ((ordW ks ws).map (rowT ks (ordW ks ws)))
def sp_rows_of (T : List Addr) (CG : Addr) : Sp := fun vs H Q E => ∃ (kv tv : V) (ks : List PyData) (f : Str) (ws : List Key), vs = [kv, .str f, tv] ∧ AskK T H kv ks f ∧ TreeV H tv ks f ws ∧ Lams T H ∧
  (96 < (keysR ks ws).length → ∀ H', Go T [] H H' → Tabs T H' → E (.ref CG) none H') ∧ ((keysR ks ws).length ≤ 96 → ∀ v H', Dv [] H' v (rowsDt ks ws) → Go T [] H H' → Tabs T H' → Q v H')
theorem ord_perm (ks : List PyData) (ws : List Key) : (ordW ks ws).Perm (keysR ks ws) := List.mergeSort_perm _ _
theorem ord_parts {ks : List PyData} {ws : List Key} {s : List Str} (h : run ks s ws = some []) (hl : ws.length ≤ 400) : Parts ks (ordW ks ws) := by
  have pm := ord_perm ks ws
  refine ⟨pm.nodup_iff.mpr (keysR_nd ws), by rw [pm.length_eq]; exact Nat.le_trans (keysR_len ws) hl, fun t ht => ?_, fun t ht u hu => pm.mem_iff.mpr ((part_of h (pm.mem_iff.mp ht)).2 u hu)⟩
  obtain ⟨⟨f, x, r, pre, post, h1, h2, h3, _⟩⟩ := (part_of h (pm.mem_iff.mp ht)).1
  exact ⟨f, h1, h2, x, r, h3⟩
theorem part_len {ks : List PyData} {ws t : List Key} {s : List Str} (h : run ks s ws = some []) (ht : t ∈ keysR ks ws) : t.length ≤ ws.length := by
  obtain ⟨⟨f, x, r, pre, post, h1, h2, h3, h4⟩⟩ := (part_of h ht).1
  have := congrArg List.length h4
  rw [List.length_append, List.length_append] at this
  omega
/-! ### words behind a value -/
def unV : V → Key
  | .str x => .inr x
  | .int z => .inl z
  | _ => .inl 0
def wordsAt (H : Hp) : V → List Key
  | .ref b => match H b with
    | some (.tup vs) => vs.map unV
    | _ => []
  | _ => []
theorem unV_map (t : List Key) : (t.map kV).map unV = t := by
  rw [List.map_map]
  have : ∀ l : List Key, l.map (unV ∘ kV) = l := fun l => by
    induction l with
    | nil => rfl
    | cons a l ih => rw [List.map_cons, ih]; cases a <;> rfl
  exact this t
theorem wordsAt_ref {H : Hp} {b : Addr} {t : List Key} (h : H b = some (.tup (t.map kV))) : wordsAt H (.ref b) = t := by
  show (match H b with
    | some (.tup vs) => vs.map unV
    | _ => []) = t
  rw [h]
  exact unV_map t
theorem keys_words {H : Hp} : ∀ {kvs : List (List Key × V)} {bs : List Addr}, IsKeys H kvs bs → (bs.map V.ref).map (wordsAt H) = kvs.map (·.1) ∧ ∀ v ∈ bs.map V.ref, ∃ b, v = .ref b ∧ H b = some (.tup ((wordsAt H v).map kV))
  | _, _, .nil => ⟨rfl, fun v h => by simp at h⟩
  | _, _, .cons h t => by
    obtain ⟨i1, i2⟩ := keys_words (show IsKeys H _ _ from t)
    have e := wordsAt_ref h
    refine ⟨?_, fun v hv => ?_⟩
    · rw [List.map_cons, List.map_cons, List.map_cons, i1, e]
    · rcases List.mem_cons.mp hv with rfl | hv
      · exact ⟨_, rfl, by rw [e]; exact h⟩
      · exact i2 v hv
theorem words_tD {H H' : Hp} {T : List Addr} (g : Go T [] H H') : ∀ {vs : List V}, (∀ v ∈ vs, ∃ b, v = .ref b ∧ H b = some (.tup ((wordsAt H v).map kV))) → DvAll [] H' vs ((vs.map (wordsAt H)).map tD)
  | [], _ => .nil
  | v :: vs, h => by
    obtain ⟨b, rfl, e⟩ := h v List.mem_cons_self
    exact .cons (.tup (g.tup e List.not_mem_nil) List.not_mem_nil (words_dv _)) (words_tD g fun u hu => h u (List.mem_cons_of_mem _ hu))
theorem alike_keyP (ks : List PyData) (a b : List Key) : PySem.W.alike (keyP ks a) (keyP ks b) = true := by
  simp only [keyP, PySem.W.alike, PySem.W.alikeAll, alike_ints, Bool.and_self]
theorem depth_ints : ∀ l : List Int, PyData.depthAll (l.map .int) = 0
  | [] => rfl
  | z :: l => by
    show max (PyData.depth (.int z)) (PyData.depthAll (l.map .int)) = 0
    rw [depth_ints l]
    rfl
theorem depth_keyP (ks : List PyData) (a : List Key) : (keyP ks a).depth ≤ 60 := by
  simp only [keyP, PyData.depth, PyData.depthAll, depth_ints]
  decide
section
variable {P : Program} {w : World} {K : PySem.W.Frag} {mg : Str → Option Value} {base : Heap} {f c Pt CK CR CG : Addr} {fd : FuncData} {T : List Addr}
theorem ok_rows_of (F : FunT K "rows_of" "rows_of" s_rows_of f fd c) (B : Bl mg) (C : Cn K mg) (hso : mg "sorted" = none) (XG : Xc K mg "TooGreat" CG) (TB : LamX.TabB base mg c Pt) (hP : (Pt, (("rows_of" : Str) ++ ".<locals>.") ++ "<lambda>") ∈ LamT.l)
    (Fd : Fnn P w K mg base CX0 13 "demand_tree" ["kinds", "kind", "words"] (sp_demand_tree T)) (Fm : Fnn P w K mg base CX0 1 "makers_of" ["kinds"] (sp_makers_of T)) (Fp : Fnn P w K mg base CX0 2 "_parts_of" ["makers", "words"] (sp_parts T))
    (Fa : Fnn P w K mg base CX0 3 "_place_among_kinds" ["makers", "names", "words"] (sp_among T)) (Fr : Fnn P w K mg base CX0 2 "_as_rows" ["parts", "order"] (sp_as_rows T)) : FnOk P w K mg base (L2.CX P w) 14 f fd ["kinds", "kind", "words"] (sp_rows_of T CG) := by
  have nd := sc_rows_of.nd
  obtain ⟨tr, mR⟩ := C.rows
  refine F.okX sc_rows_of (fun vs H Q E h => ?_) (fun A outer s H vs Q E hr h => ?_)
  · obtain ⟨_, _, _, _, _, rfl, _⟩ := h
    rfl
  obtain ⟨kv, tv, ks, g, ws, rfl, hA, hT, hLm, qE, qq⟩ := h
  refine ⟨_, pss_cons (ps_expr (pe_fn Fd hr (by decide) pass0 (pa_cons (pv 0) (pa_cons (pv 1) (pa_cons (pv 2) pa_nil)))))
    (pss_cons (ps_set (i := 4) nd rfl (.inr rfl) (pe_fn Fm hr (by decide) pass0 (pa_cons (pv 0) pa_nil)))
    (pss_cons (ps_set (i := 3) nd rfl (.inl rfl) (pe_fn Fp hr (by decide) pass0 (pa_cons (pv 4) (pa_cons (pv 2) pa_nil))))
    (pss_cons (ps_if (pt_cmpR op_gt (pe_callB call_len_dT rfl B.len PySem.boot_len (pa_cons (pv 3) pa_nil) (by decide) (by decide)) (pe_glob (v := .int 96) rfl mR ⟨_, rfl⟩) (nomark _)) (pss_one (ps_raiseX rfl XG (takes_of rfl rfl rfl rfl))) pss_nil)
    (PSs.nox (pss_cons (ps_set (i := 5) nd rfl (.inr rfl) (pe_lc (own := [("name", 6), ("_", 7)]) (g := gTup K 2 (gCons (gName 6) (gCons (gName 7) gNil))) (tt := tYes) rfl nd (pi_tup (pv 0)) (blkOk_by (own := [("name", 6), ("_", 7)]) (N := NrO) (sc := defScope s_rows_of) (by decide +kernel))
        (fun _ _ _ _ _ => pg_tup rfl (pgs_cons (pg_name (i := 6) nd rfl (Or.inl rfl)) (pgs_cons (pg_name (i := 7) nd rfl (Or.inl rfl)) pgs_nil))) (fun _ _ _ _ _ => pts_nil) (fun _ _ _ _ _ => pv 6)))
    (pss_one (ps_ret (pe_fn Fr hr (by decide) pass0 (pa_cons (pv 3) (pa_cons (pe_srtD (T := T) (tb := tCall (sp_among T) [] E0 (tCons (tVar 4) (tCons (tVar 5) (tCons (tVar 8) tNil)))) rfl rfl hso (pv 3) TB rfl hP (show LamP (defScope s_rows_of) { kind := .function, names := [("part", .local), ("makers", .free), ("names", .free), ("_place_among_kinds", .globalImplicit)], isGenerator := false, isCoroutine := false } "part" from lamP_by (by decide +kernel)) rfl (fun _ _ _ _ _ _ => rfl) (show ("part" : Str) ∉ NrO by decide +kernel) (hr.mono (by decide : 3 + 3 ≤ 13))
        (fun A s H f c' hr2 => pe_fn Fa hr2 (by decide) pass0 (pa_cons (pv 4) (pa_cons (pv 5) (pa_cons (pv 8) pa_nil))))) pa_nil)))))))))), ?_⟩
  have nn : ∀ b : Addr, b ∉ ([] : List Addr) := fun b => List.not_mem_nil
  obtain ⟨nu, hkb, hk6⟩ := kinds_names hA.b
  have hrun := hT.t
  refine ⟨_, rfl, _, rfl, _, rfl, kv, tv, ks, g, ws, rfl, hA, hT, fun H1 g1 t1 => ?_⟩
  have hA1 := hA.go g1
  have hT1 := hT.go g1
  refine ⟨_, rfl, kv, ks, rfl, hA1.k, hA1.b, t1, fun D H2 hD mk2 g2 t2 => ?_⟩
  refine ⟨_, rfl, _, rfl, D, tv, ks, ws, [g], rfl, hA.b, mk2, (hT1.go g2).v, hrun, hT.l, t2, fun P1 H3 hP1 pd3 g3 t3 => ?_⟩
  have G3 := (g1.trans g2).trans g3
  obtain ⟨kvs, eP, pa3⟩ := id pd3
  have lk : kvs.length = (keysR ks ws).length := by
    have := congrArg List.length pa3.1
    rw [List.length_map] at this
    exact this
  refine ⟨_, rfl, P1, kvs, rfl, eP, _, _, rfl, rfl, _, rfl, ?_⟩
  by_cases c96 : 96 < (keysR ks ws).length
  · refine if_true_of (decide_eq_true (by rw [lk]; omega)) ?_
    exact qE c96 H3 G3 t3
  refine if_false_of (decide_eq_false (by rw [lk]; omega)) ?_
  have hA3 := hA.go G3
  obtain ⟨a, xs, rfl, ea, _, dx⟩ := dv_tup hA3.k
  have lx := dx.length
  refine ⟨_, rfl, a, rfl, ⟨_, SqT.of ea⟩, fun N1 hN1 => ?_⟩
  refine lc_fst (M := []) (T := T) (H0 := H3) (xs := xs) (ds := ks) walk_tup (fun H' g => SqT.of (g.tup ea (nn _))) dx ?_ Go.refl hN1 (sz (by omega)) (fun _ _ => rfl) (fun _ _ => rfl) (fun H4 acc g4 e4 d4 => ?_)
  · intro k hkm
    obtain ⟨x, ms, rfl, _⟩ := kind_of (hkb k hkm)
    exact ⟨_, _, rfl⟩
  have E1 := strs_of (titles_str hkb)
  rw [E1] at d4
  have d4' := d4.of_strs
  have et : (ks.map fstD).map strD = ks.map titleOf := by
    rw [List.map_map]
    rfl
  rw [et] at d4'
  rw [d4'] at e4
  have G4 := G3.trans g4
  have eP4 : H4 P1 = some (.dT kvs) := g4.gr _ _ eP (nn _) (fun _ z => by cases z)
  have G4L := G4.lm hLm
  refine ⟨_, rfl, _, rfl, P1, kvs, rfl, eP4, G4L, fun H5 bs g5 ik => ?_⟩
  have G5 := G4.trans g5
  obtain ⟨kw1, kw2⟩ := keys_words ik
  rw [pa3.1] at kw1
  have inK : ∀ v ∈ bs.map V.ref, wordsAt H5 v ∈ keysR ks ws := fun v hv => by
    rw [← kw1]
    exact List.mem_map_of_mem hv
  refine ⟨fun v => keyP ks (wordsAt H5 v), g5.lm G4L, fun d hd d' hd' => ?_, .inl fun d hd => ?_, fun x hx => depth_keyP ks _, fun x hx H6 R g6 hR => ?_, fun H6 p g6 np => ?_⟩
  · obtain ⟨x, _, rfl⟩ := List.mem_map.mp hd
    obtain ⟨y, _, rfl⟩ := List.mem_map.mp hd'
    exact alike_keyP ks _ _
  · obtain ⟨x, _, rfl⟩ := List.mem_map.mp hd
    exact ⟨_, _, rfl⟩
  · obtain ⟨b, rfl, eb⟩ := kw2 x hx
    have hk := inK _ hx
    obtain ⟨⟨f', x', r', pre, post, h1, h2, h3, _⟩⟩ := (part_of hrun hk).1
    have G6 := (g4.trans g5).trans g6
    refine ⟨_, rfl, _, rfl, _, rfl, D, N1, .ref b, ks, wordsAt H5 (.ref b), f', rfl, hA.b, mk2.go (g3.trans G6), (g5.trans g6).lst e4 (nn _), .tup (g6.tup eb (nn _)) (nn _) (words_dv _), ⟨h1, h2, x', r', h3⟩, Nat.le_trans (part_len hrun hk) hT.l, (g3.trans G6).tb t2, fun v H7 dv g7 t7 => hR v H7 g7 dv⟩
  · have u := Go.new (T := T) (M := []) (o := .lst ((bs.map V.ref).mergeSort (PySem.W.dataLe false fun v => keyP ks (wordsAt H5 v)))) np
    have em : ((bs.map V.ref).mergeSort (PySem.W.dataLe false fun v => keyP ks (wordsAt H5 v))).map (wordsAt H5) = ordW ks ws := by
      refine (List.map_mergeSort (r := PySem.W.dataLe false fun v => keyP ks (wordsAt H5 v)) (s := PySem.W.dataLe false (keyP ks)) (f := wordsAt H5) (fun a _ b _ => rfl)).trans ?_
      rw [kw1]
      rfl
    have G6 := (g4.trans g5).trans (g6.trans u)
    have dS := words_tD (g6.trans u) (vs := (bs.map V.ref).mergeSort (PySem.W.dataLe false fun v => keyP ks (wordsAt H5 v))) fun v hv => kw2 v ((List.mergeSort_perm _ _).mem_iff.mp hv)
    rw [em] at dS
    refine ⟨P1, p, _, ks, keysR ks ws, ordW ks ws, rfl, hA.b, pd3.go G6, upd_same, dS, ord_parts hrun hT.l, fun t ht => (ord_perm ks ws).mem_iff.mp ht, keysR_nd ws, (g3.trans G6).tb t2, fun v H7 dv g7 t7 => qq (by omega) v H7 dv ((G3.trans G6).trans g7) t7⟩
end
end K2
set_option Elab.async false
set_option linter.all false
set_option maxRecDepth 100000
set_option maxHeartbeats 4000000
/-! k02: rows_of of whatever is given -/
namespace K2
open PySem PySem.Spec PyProof.Rows L2 GxR NdefX GA SL RZ
variable [SL.LamT]
def sp_rows_ofB (T : List Addr) (CB : Addr) : Sp := fun vs H Q E => ∃ (kv tv : V) (ks : List PyData) (f : Str) (d : PyData), vs = [kv, .str f, tv] ∧ AskK T H kv ks f ∧ Dv [] H tv d ∧ treeB ks f d = false ∧ ∀ H', Go T [] H H' → Tabs T H' → E (.ref CB) none H'
def sp_rows_ofX (T : List Addr) (CG CB : Addr) : Sp := fun vs H Q E => ∃ (kv tv : V) (ks : List PyData) (f : Str) (d : PyData), vs = [kv, .str f, tv] ∧ AskK T H kv ks f ∧ Dv [] H tv d ∧ Lams T H ∧
  (treeB ks f d = false → ∀ H', Go T [] H H' → Tabs T H' → E (.ref CB) none H') ∧ (treeB ks f d = true → (∀ H', Go T [] H H' → Tabs T H' → E (.ref CG) none H') ∧ ∀ v H', Go T [] H H' → Tabs T H' → Q v H')
section
variable {P : Program} {w : World} {K : PySem.W.Frag} {mg : Str → Option Value} {base : Heap} {f c Pt CK CR CG CB : Addr} {fd : FuncData} {T : List Addr}
theorem ok_rows_ofB (F : FunT K "rows_of" "rows_of" s_rows_of f fd c) (Fd : Fnn P w K mg base (L2.CX P w) 13 "demand_tree" ["kinds", "kind", "words"] (sp_demand_treeX T CB)) : FnOk P w K mg base (L2.CX P w) 14 f fd ["kinds", "kind", "words"] (sp_rows_ofB T CB) := by
  have nd := sc_rows_of.nd
  refine F.okX sc_rows_of (fun vs H Q E h => ?_) (fun A outer s H vs Q E hr h => ?_)
  · obtain ⟨_, _, _, _, _, rfl, _⟩ := h
    rfl
  obtain ⟨kv, tv, ks, g, d, rfl, hA, hT, hb, q⟩ := h
  refine ⟨_, pss_cons (ps_expr (pe_fn Fd hr (by decide) (passes_call (takes_of rfl rfl rfl rfl) (fun _ _ _ _ h => h)) (pa_cons (pv 0) (pa_cons (pv 1) (pa_cons (pv 2) pa_nil))))) pss_never, ?_⟩
  exact ⟨_, rfl, _, rfl, _, rfl, kv, tv, ks, g, d, rfl, hA, hT, fun _ => q, fun c => absurd (hb.symm.trans c) (by decide)⟩
theorem ok_rows_ofX (Fg : FnOk P w K mg base (L2.CX P w) 14 f fd ["kinds", "kind", "words"] (sp_rows_of T CG)) (Fb : FnOk P w K mg base (L2.CX P w) 14 f fd ["kinds", "kind", "words"] (sp_rows_ofB T CB)) : FnOk P w K mg base (L2.CX P w) 14 f fd ["kinds", "kind", "words"] (sp_rows_ofX T CG CB) :=
  FnOk.wk (FnOk.or Fg Fb) fun vs H Q E h => by
    obtain ⟨kv, tv, ks, g, d, rfl, hA, hT, hL, qE, q⟩ := h
    cases c : treeB ks g d with
    | false => exact .inr ⟨kv, tv, ks, g, d, rfl, hA, hT, c, qE c⟩
    | true =>
      obtain ⟨ws, rfl, h1, h2⟩ := treeB_ws c
      exact .inl ⟨kv, tv, ks, g, ws, rfl, hA, ⟨hT, h1, h2⟩, hL, fun _ => (q c).1, fun _ v H' _ => (q c).2 v H'⟩
end
end K2
set_option Elab.async false
set_option linter.all false
set_option maxRecDepth 100000
set_option maxHeartbeats 4000000
/-! k02: _law_table, _law_is_tree -/
namespace K2
open PySem PySem.Spec PyProof.Rows L2 GxR NdefX GA SL RZ
variable [SL.LamT]
abbrev s_law_is_tree : Stmt := top 49
abbrev NIT : List Str := ["table", "title", "value", "wanted", "word", "sort", "fields", "k"]
theorem sc_law_is_tree : FnScope NIT ["table", "title", "value"] (defScope s_law_is_tree) := ⟨rfl, rfl, rfl, by decide +kernel, rfl, by decide +kernel, by decide +kernel⟩
def sp_law_is_tree (T : List Addr) : Sp := fun vs H Q _ => ∃ (D : Addr) (tv : V) (ks : List PyData) (f : Str) (d : PyData), vs = [.ref D, .str f, tv] ∧ MkD H D ks ∧ Dv [] H tv d ∧ kindsB (.tuple ks) = true ∧ Tabs T H ∧ ∀ H', Go T [] H H' → Tabs T H' → Q (.bl (treeB ks f d)) H'
theorem rev_range (fs : List Str) : (List.range fs.length).map (fun k => V.str (fs.getD (fs.length - 1 - k) "")) = fs.reverse.map V.str := by
  refine List.ext_getElem? fun i => ?_
  rw [List.getElem?_map, List.getElem?_map]
  by_cases h : i < fs.length
  · rw [List.getElem?_range h, List.getElem?_reverse h]
    rw [List.getElem?_eq_getElem (show fs.length - 1 - i < fs.length by omega)]
    show some (V.str _) = some (V.str _)
    rw [List.getD_eq_getElem?_getD, List.getElem?_eq_getElem (show fs.length - 1 - i < fs.length by omega)] <;> rfl
  · rw [List.getElem?_eq_none (by rw [List.length_range]; omega), List.getElem?_eq_none (by rw [List.length_reverse]; omega)]
    rfl
theorem isEmpty_rev (st : List Str) : (st.reverse.map V.str).isEmpty = st.isEmpty := by cases st <;> simp
section
variable {P : Program} {w : World} {K : PySem.W.Frag} {mg : Str → Option Value} {base : Heap} {f c : Addr} {fd : FuncData} {T : List Addr}
theorem ok_law_is_tree (F : Fun K "_law_is_tree" "_law_is_tree" s_law_is_tree f fd) (B : Bl mg) : FnOk P w K mg base CX0 1 f fd ["table", "title", "value"] (sp_law_is_tree T) := by
  have nd := sc_law_is_tree.nd
  refine F.ok sc_law_is_tree (fun vs H Q E h => ?_) (fun cdv A outer s H vs Q E hr h => ?_)
  · obtain ⟨_, _, _, _, _, rfl, _⟩ := h
    rfl
  obtain ⟨D, tv, ks, f', d, rfl, hD, hv, hk, ht, q⟩ := h
  have hu : (A.deeper (envOfC "_law_is_tree" (defScope s_law_is_tree) s.heap.objs.size f cdv)).units + 1 < cLine := by
    have := hr.un
    omega
  have hu0 : (A.deeper (envOfC "_law_is_tree" (defScope s_law_is_tree) s.heap.objs.size f cdv)).units < cLine := by omega
  refine ⟨_, pss_cons (ps_if (PW.pt (pw_or (pt_not (pt_val (pe_isi_tuple B (pv 2)))) (pw_or1 (pt_cmpR op_gt (pe_lenq B (pv 2)) pe_int (nomark _))))) (pss_one (ps_ret pe_bl)) pss_nil)
    (pss_cons (ps_set (i := 3) nd rfl (.inl rfl) (pe_lst (pa_cons (pv 1) pa_nil)))
    (pss_cons (ps_for PassesOwn.never rfl (pi_tup (pv 2)) (pg_name (i := 4) nd rfl (.inl rfl))
      (pss_cons (ps_if (pt_cmpR (op_eqNil hu0) (pv 3) (pe_lst pa_nil) (nomark _)) (pss_one (ps_ret pe_bl)) pss_nil)
      (pss_cons (ps_set (i := 5) nd rfl (.inl rfl) (pe_bm0 PySem.F.plainAttrs_list PySem.F.slot_list_pop PySem.F.type_list_pop mt_pop (pv 3)))
      (pss_one (ps_if (pt_cmpR op_eq (pv 5) pe_str (nomark _))
        (pss_one (ps_if (PW.pt (pw_or (pt_not (pt_val (pe_isi_int B (pv 4)))) (pw_or1 (pt_val (pe_isi_bool B (pv 4)))))) (pss_one (ps_ret pe_bl)) pss_nil))
        (pss_cons (ps_if (PW.pt (pw_or (pt_not (pt_val (pe_isi_str B (pv 4)))) (pw_or (pt_cmp (pc_dnotin hu (pv 4) (pv 0))) (pw_or1 (pt_cmpR op_ne (pe_ix ix_tup (pe_dget hu (pv 0) (pv 4) (fun _ _ => rfl)) pe_int (fun _ _ => rfl)) (pv 5) (nomark _)))))) (pss_one (ps_ret pe_bl)) pss_nil)
        (pss_cons (ps_set (i := 6) nd rfl (.inr rfl) (pe_ix ix_tup (pe_dget hu (pv 0) (pv 4) (fun _ _ => rfl)) pe_int (fun _ _ => rfl)))
        (pss_one (ps_expr (pe_bm PySem.F.plainAttrs_list PySem.F.slot_list_extend PySem.F.type_list_extend mt_extend (pv 3)
          (pa_cons (pe_lc (own := [("k", 7)]) (g := gName 7) (tt := tYes) (te := tOp (rIxT K) (tVar 6) (tOp (rI0 fun i j => V.int (i - j)) (tOp (rI0 fun i j => V.int (i - j)) (tCB (fun xs H Q => ∃ p ys, xs = [.ref p] ∧ (SqL K H p ys ∨ SqT K H p ys) ∧ Q (.int ys.length) H) (tCons (tVar 6) tNil)) (tC (.int 1))) (tVar 7))) rfl nd (pi_range1 rfl B.range (pa_cons (pe_lenq B (pv 6)) pa_nil)) (blkOk_by (own := [("k", 7)]) (N := NIT) (sc := defScope s_law_is_tree) (by decide +kernel)) (fun _ _ _ _ _ => pg_name (i := 7) nd rfl (.inl rfl)) (fun _ _ _ _ _ => pts_nil)
            (fun _ _ _ _ _ => pe_ix ix_tup (pv 6) (pe_op op_sub (pe_op op_sub (pe_lenq B (pv 6)) pe_int) (pv 7)) (fun _ _ => rfl))) pa_nil)))))))))))
    (pss_one (ps_ret (pe_cmpR (op_eqNil hu0) (pv 3) (pe_lst pa_nil) (nomark _)))))), ?_⟩
  have nn : ∀ b : Addr, b ∉ ([] : List Addr) := fun b => List.not_mem_nil
  refine ⟨_, rfl, _, _, _, rfl, hv, _, rfl, ?_⟩
  cases d with
  | tuple ds =>
    obtain ⟨a, xs, rfl, ea, _, dx⟩ := dv_tup hv
    have lx := dx.length
    refine iteF ?_
    refine ⟨_, rfl, a, _, rfl, .inr (SqT.of ea), _, _, rfl, rfl, _, rfl, ?_⟩
    by_cases c4 : 400 < ds.length
    · refine if_true_of (decide_eq_true (by omega)) ?_
      have := q H Go.refl ht
      rw [show treeB ks f' (.tuple ds) = false by
        show (decide (ds.length ≤ 400) && _) = false
        rw [decide_eq_false (by omega), Bool.false_and]] at this
      exact this
    refine if_false_of (decide_eq_false (by omega)) ?_
    have hq : ∀ b, runB ks [f'] ds = b → ∀ H', Go T [] H H' → Q (.bl b) H' := fun b hb' H' g' => by
      have := q H' g' (g'.tb ht)
      rw [show treeB ks f' (.tuple ds) = b by
        show (decide (ds.length ≤ 400) && _) = b
        rw [decide_eq_true (by omega), hb', Bool.true_and]] at this
      exact this
    refine ⟨_, rfl, by show 1 ≤ sizeLine; decide, fun aw haw => ?_⟩
    have u0 := Go.new (T := T) (M := []) (o := .lst [V.str f']) haw
    refine ⟨_, rfl, a, rfl, ⟨_, SqT.of (u0.tup ea (nn _))⟩, ?_⟩
    refine for_it (n := xs.length) walk_tup (fun i σ H' => ∃ p4 p5 p6 st, σ = [some (.ref D), some (.str f'), some (.ref a), some (.ref aw), p4, p5, p6, none] ∧ Go T [] H H' ∧ H' aw = some (.lst (st.reverse.map V.str)) ∧ runB ks st (ds.drop i) = runB ks [f'] ds ∧ st.length ≤ 1 + 4 * i)
      ⟨none, none, none, [f'], rfl, u0, upd_same, rfl, by simp⟩
      (fun i σ H' _ ⟨_, _, _, _, _, g, _⟩ => SqT.of (g.tup ea (nn _))) (fun i x σ H3 H4 hi h y => ?_) (fun σ H3 h => ?_)
    · obtain ⟨p4, p5, p6, st, rfl, g3, e3, r3, ls⟩ := h
      obtain ⟨rfl, ex⟩ := y
      obtain ⟨wd, ew, hwd⟩ := (dx.go g3).get ex
      have ed : ds.drop i = wd :: ds.drop (i + 1) := (List.drop_eq_getElem?_toList_append ..).trans (by rw [ew]; rfl)
      rw [ed] at r3
      refine ⟨_, rfl, Nat.zero_le _, fun en hen => ?_⟩
      have v0 := Go.new (T := T) (M := []) (o := .lst []) hen
      have g4 := g3.trans v0
      have e4 := v0.lst e3 (nn _)
      refine ⟨aw, en, _, rfl, rfl, SqL.of e4, SqL.of upd_same, _, rfl, ?_⟩
      cases st with
      | nil =>
        refine if_true_of rfl ?_
        exact hq false r3.symm _ g4
      | cons ft rs =>
      refine if_false_of (by rw [isEmpty_rev] <;> rfl) ?_
      have el : (ft :: rs).reverse.map V.str = rs.reverse.map V.str ++ [.str ft] := by rw [List.reverse_cons, List.map_append] <;> rfl
      rw [el] at e4
      refine ⟨_, rfl, .inl ⟨rfl, _, SqL.of e4⟩, aw, _, .str ft, rfl, rfl, e4, by rw [List.length_append]; simp, ?_⟩
      have e5 : (rs.reverse.map V.str ++ [V.str ft]).dropLast = rs.reverse.map V.str := List.dropLast_concat
      rw [e5]
      have g5 : Go T [] H _ := g4.over (o := .lst (rs.reverse.map V.str)) haw e4 (fun _ z => by cases z)
      have e6 : upd (upd H4 en (.lst [])) aw (.lst (rs.reverse.map V.str)) aw = some (.lst (rs.reverse.map V.str)) := upd_same
      generalize upd (upd H4 en (.lst [])) aw (.lst (rs.reverse.map V.str)) = H5 at *
      have hw5 : Dv [] H5 x wd := (dx.go g5).get ex |>.elim fun d' hd => by
        obtain ⟨e', h'⟩ := hd
        rw [ew] at e'
        cases e'
        exact h'
      have hD5 := hD.go g5
      have r4 : (okD ks ft wd && runB ks (nxtD ks wd ++ rs) (ds.drop (i + 1))) = runB ks [f'] ds := r3
      have bad : okD ks ft wd = false → Q (.bl false) H5 := fun c => by
        rw [c, Bool.false_and] at r4
        exact hq false r4.symm _ g5
      rw [List.length_cons] at ls
      refine ⟨_, rfl, rfl, _, rfl, ?_⟩
      by_cases cn : ft = "number"
      · refine if_true_of (decide_eq_true (by rw [cn])) ?_
        refine ⟨_, rfl, _, _, _, rfl, hw5, _, rfl, ?_⟩
        cases wd with
        | int z =>
          refine iteF ⟨_, rfl, _, _, _, rfl, hw5, _, rfl, iteF ?_⟩
          have e0 : okD ks ft (.int z) = true := decide_eq_true cn
          rw [e0, Bool.true_and] at r4
          exact ⟨_, _, _, rs, rfl, g5, e6, r4, by omega⟩
        | bool b => exact iteF ⟨_, rfl, _, _, _, rfl, hw5, _, rfl, iteT (bad rfl)⟩
        | str y => exact iteT (bad (by show (decide (ft ≠ "number") && _ && _) = false; rw [decide_eq_false (fun z => z cn)]; rfl))
        | _ => exact iteT (bad rfl)
      · refine if_false_of (decide_eq_false fun e => cn (V.str.inj e)) ?_
        refine ⟨_, rfl, _, _, _, rfl, hw5, _, rfl, ?_⟩
        cases wd with
        | str y =>
          cases hw5
          refine iteF ?_
          have e0 : okD ks ft (.str y) = (decide (y ∈ namesM (rowsM ks)) && decide (kdK ks y = ft)) := by
            show (decide (ft ≠ "number") && _ && _) = _
            rw [decide_eq_true cn, Bool.true_and]
          rw [e0] at r4 bad
          by_cases hx : y ∈ namesM (rowsM ks)
          · rw [decide_eq_true hx, Bool.true_and] at r4 bad
            obtain ⟨kd, p, m, t, fv, h1, h2, h3, h4, h5⟩ := hD5.get hx
            refine ⟨_, rfl, _, rfl, D, _, rfl, h3, _, rfl, iteF ?_⟩
            refine ⟨_, rfl, _, rfl, D, _, rfl, h3, t, _, 0, _, rfl, rfl, SqT.of h4, atI_nat (j := 0) rfl, _, rfl, rfl, _, rfl, ?_⟩
            have e1 : kdK ks y = kd := by rw [← h2]; exact kdK_eq (kinds_names hk).1 h1
            rw [e1] at r4 bad
            by_cases c5 : kd = ft
            · refine if_false_of (by simp [c5]) ?_
              rw [decide_eq_true c5, Bool.true_and] at r4
              obtain ⟨fl, rfl, ef, _, lf⟩ := flds_dv (rows_maker hk h1) h5
              have fe : flK ks y = flds m := by rw [← h2]; exact flK_eq (kinds_names hk).1 h1
              refine ⟨_, rfl, _, rfl, D, _, rfl, h3, t, _, 2, _, rfl, rfl, SqT.of h4, atI_nat (j := 2) rfl, ?_⟩
              refine ⟨_, rfl, .inl ⟨rfl, _, SqL.of e6⟩, _, rfl, fl, _, rfl, .inr (SqT.of ef), _, rfl, by omega, by rw [List.length_map]; omega, fun L hL => ?_⟩
              refine lc_map (T := T) (fun k => V.str ((flds m).getD ((flds m).length - 1 - k) "")) (walk_range (lo := 0) (n := _)) (fun _ _ => trivial) (g5.tb ht) Go.refl hL (by rw [List.length_map, sizeLine_eq]; omega) (fun j v H14 H15 R hj g14 t14 y' hR => ?_) (fun H14 g14 t14 ed14 => ?_)
              · obtain ⟨rfl, rfl⟩ := y'
                rw [List.length_map] at hj
                have hj : j < (flds m).length := by omega
                have ef14 := g14.tup ef (nn _)
                refine ⟨rfl, _, rfl, _, rfl, fl, _, rfl, .inr (SqT.of ef14), _, _, rfl, rfl, _, rfl, _, _, rfl, rfl, fl, _, _, V.str ((flds m).getD ((flds m).length - 1 - j) ""), rfl, rfl, SqT.of ef14, ?_, hR _ Go.refl⟩
                rw [List.length_map, show ((flds m).length : Int) - 1 - (0 + (j : Int)) = (((flds m).length - 1 - j : Nat) : Int) by omega]
                refine atI_nat ?_
                rw [List.getElem?_map, List.getElem?_eq_getElem (show (flds m).length - 1 - j < (flds m).length by omega), List.getD_eq_getElem?_getD, List.getElem?_eq_getElem (show (flds m).length - 1 - j < (flds m).length by omega)] <;> rfl
              · have e7 := g14.lst e6 (nn _)
                rw [List.length_map, show ((flds m).length : Int).toNat = (flds m).length by omega, rev_range] at ed14
                refine ⟨aw, L, _, _, rfl, rfl, e7, ed14, by rw [List.length_map, List.length_reverse, List.length_map, List.length_reverse, sizeLine_eq]; omega, ?_⟩
                refine ⟨_, _, _, flK ks y ++ rs, rfl, (g5.trans g14).over haw e7 (fun _ z => by cases z), ?_, r4, by rw [List.length_append, fe]; omega⟩
                rw [upd_same, List.reverse_append, List.map_append, fe]
            · exact if_true_of (by simp [c5]) (bad (decide_eq_false c5))
          · exact ⟨_, rfl, _, rfl, D, _, rfl, hD5.no hx, _, rfl, iteT (bad (by rw [decide_eq_false hx, Bool.false_and]))⟩
        | int z => exact iteT (bad (by show decide (ft = "number") = false; exact decide_eq_false cn))
        | _ => exact iteT (bad rfl)
    · obtain ⟨p4, p5, p6, st, rfl, g3, e3, r3, ls⟩ := h
      rw [lx, List.drop_length, runB_nil] at r3
      refine ⟨_, rfl, Nat.zero_le _, fun en hen => ?_⟩
      have v0 := Go.new (T := T) (M := []) (o := .lst []) hen
      refine ⟨aw, en, _, rfl, rfl, SqL.of (v0.lst e3 (nn _)), SqL.of upd_same, ?_⟩
      rw [isEmpty_rev]
      exact hq _ r3.symm _ (g3.trans v0)
  | _ => exact iteT (q H Go.refl ht)
end
end K2
set_option Elab.async false
set_option linter.all false
set_option maxRecDepth 100000
set_option maxHeartbeats 4000000
/-! k02: _law_said, _law_door, _law_is -/
namespace K2
open PySem PySem.Spec PyProof.Rows L2 GxR NdefX GA SL RZ
variable [SL.LamT]
abbrev s_law_said : Stmt := top 51
abbrev s_law_door : Stmt := top 52
abbrev s_law_is : Stmt := top 53
theorem sc_law_said : FnScope ["family", "title", "value", "found"] ["family", "title", "value"] (defScope s_law_said) := ⟨rfl, rfl, rfl, by decide +kernel, rfl, by decide +kernel, by decide +kernel⟩
theorem sc_law_door : FnScope ["door", "family", "title", "value", "good", "found"] ["door", "family", "title", "value", "good"] (defScope s_law_door) := ⟨rfl, rfl, rfl, by decide +kernel, rfl, by decide +kernel, by decide +kernel⟩
theorem sc_law_is : FnScope ["found", "due"] ["found", "due"] (defScope s_law_is) := ⟨rfl, rfl, rfl, by decide +kernel, rfl, by decide +kernel, by decide +kernel⟩
def saidD (kd fe d : PyData) : PyData := if kindsB kd = true then (if titleB (itemsD kd) fe = true then .bool (treeB (itemsD kd) (strD fe) d) else .str "kind") else .str "kinds"
def sp_said (T : List Addr) : Sp := fun vs H Q _ => ∃ (kv fv tv : V) (kd fe d : PyData), vs = [kv, fv, tv] ∧ AskX T H kv fv kd fe ∧ Dv [] H tv d ∧ ∀ v H', Dv [] H' v (saidD kd fe d) → Go T [] H H' → Tabs T H' → Q v H'
def doorS (b : Bool) : Str := if b = true then "let" else "tree"
def sp_door (T : List Addr) : Sp := fun vs H Q _ => ∃ (n : Int) (kv tv gv : V) (ks : List PyData) (f : Str) (d e : PyData), vs = [.int n, kv, .str f, tv, gv] ∧ AskK T H kv ks f ∧ Dv [] H tv d ∧ Dv [] H gv e ∧ treeB ks f e = true ∧ Lams T H ∧ ∀ H', Go T [] H H' → Tabs T H' → Q (.str (doorS (treeB ks f d))) H'
def sp_law_is : Sp := fun vs H Q _ => ∃ (a b : Bool), vs = [.bl a, .bl b] ∧ Q (.bl (decide (a = b))) H
section
variable {P : Program} {w : World} {K : PySem.W.Frag} {mg : Str → Option Value} {base : Heap} {f c CK CN CT CG CB : Addr} {fd : FuncData} {T : List Addr}
theorem ok_law_is (F : Fun K "_law_is" "_law_is" s_law_is f fd) (B : Bl mg) : FnOk P w K mg base CX0 1 f fd ["found", "due"] sp_law_is := by
  refine F.ok sc_law_is (fun vs H Q E h => ?_) (fun cdv A outer s H vs Q E hr h => ?_)
  · obtain ⟨_, _, rfl, _⟩ := h
    rfl
  obtain ⟨a, b, rfl, q⟩ := h
  refine ⟨_, pss_one (ps_ret (pe_and (pe_isi_bool B (pv 0)) (pe_one (pe_cmpR op_eq (pv 0) (pv 1) (nomark _))))), ?_⟩
  refine ⟨_, rfl, _, [], _, rfl, .bl a, _, rfl, iteT ⟨_, rfl, _, rfl, rfl, goQ q ?_⟩⟩
  cases a <;> cases b <;> rfl
theorem ok_law_said (F : Fun K "_law_said" "_law_said" s_law_said f fd) (XN : Xc K mg "BadKind" CN) (XK' : Xc K mg "BadKinds" CK) (gT : mg "TreeError" = some (.ref CT)) (rN : PySem.W.exmOne K (.ref CN) (.ref CN) = some true) (rK : PySem.W.exmOne K (.ref CK) (.ref CK) = some true) (rKN : PySem.W.exmOne K (.ref CK) (.ref CN) = some false)
    (Fi : Fnn P w K mg base (L2.CX P w) 12 "is_tree" ["kinds", "kind", "thing"] (sp_is_treeX T CK CN)) : FnOk P w K mg base CX0 13 f fd ["family", "title", "value"] (sp_said T) := by
  have nd := sc_law_said.nd
  refine F.ok sc_law_said (fun vs H Q E h => ?_) (fun cdv A outer s H vs Q E hr h => ?_)
  · obtain ⟨_, _, _, _, _, _, rfl, _⟩ := h
    rfl
  obtain ⟨kv, fv, tv, kd, fe, d, rfl, hA, hT, q⟩ := h
  have hr1 : Room 12 _ := hr
  refine ⟨_, pss_cons (ps_set (i := 3) nd rfl (Or.inl rfl) pe_non)
    (pss_cons (ps_try_many (Wout := fun _ _ _ _ => False) (l := [(.ref CN, fun _ _ _ => tAsg (tC (.str "kind")) (gName 3)), (.ref CK, fun _ _ _ => tAsg (tC (.str "kinds")) (gName 3)), (.ref CT, fun _ _ _ => tAsg (tC (.str "other")) (gName 3))]) rfl rfl takes0
      (fun W pn xe tk _ => pss_one (ps_set (i := 3) nd rfl (Or.inl rfl) (pe_fnS Fi hr1 (by decide) (fun σ => passAt tk σ) (pa_cons (pv 0) (pa_cons (pv 1) (pa_cons (pv 2) pa_nil))))))
      (.cons ⟨rfl, by decide, Or.inl XN.g⟩ (fun _ _ _ _ _ _ _ => pss_one (ps_set (i := 3) nd rfl (Or.inl rfl) pe_str)) (.cons ⟨rfl, by decide, Or.inl XK'.g⟩ (fun _ _ _ _ _ _ _ => pss_one (ps_set (i := 3) nd rfl (Or.inl rfl) pe_str)) (.cons ⟨rfl, by decide, Or.inl gT⟩ (fun _ _ _ _ _ _ _ => pss_one (ps_set (i := 3) nd rfl (Or.inl rfl) pe_str)) .nil))))
    (pss_one (ps_ret (pv 3)))), ?_⟩
  refine ⟨_, rfl, _, rfl, _, rfl, kv, fv, tv, kd, fe, d, rfl, hA, hT, fun C hC H' g' t' => ?_, fun ks f' e1 e2 hk hf H' g' t' => ⟨_, rfl, ?_⟩⟩
  · unfold kBad at hC
    unfold saidD at q
    by_cases ck : kindsB kd = true
    · rw [if_pos ck] at hC q
      by_cases ct : titleB (itemsD kd) fe = true
      · rw [if_pos ct] at hC
        cases hC
      · rw [if_neg ct] at hC q
        cases hC
        exact ⟨true, rN, fun _ _ _ => ⟨_, rfl, q _ H' (.str _) g' t'⟩, fun z => by cases z⟩
    · rw [if_neg ck] at hC q
      cases hC
      exact ⟨false, rKN, (fun z => by cases z), fun _ => ⟨true, rK, fun _ _ _ => ⟨_, rfl, q _ H' (.str _) g' t'⟩, fun z => by cases z⟩⟩
  · subst e1
    subst e2
    refine q _ H' ?_ g' t'
    unfold saidD
    rw [if_pos hk, if_pos (show titleB (itemsD (.tuple ks)) (.str f') = true from decide_eq_true hf)]
    exact .bl _
theorem ok_law_door (F : Fun K "_law_door" "_law_door" s_law_door f fd) (XB : Xc K mg "BadTree" CB) (XG : Xc K mg "TooGreat" CG) (gT : mg "TreeError" = some (.ref CT)) (rB : PySem.W.exmOne K (.ref CB) (.ref CB) = some true) (rG : PySem.W.exmOne K (.ref CG) (.ref CG) = some true) (rGB : PySem.W.exmOne K (.ref CG) (.ref CB) = some false)
    (Fa : Fnn P w K mg base (L2.CX P w) 14 "ahead" ["kinds", "kind", "one", "other"] (sp_aheadX T CB)) (Wa : Fnw P w K mg base (L2.CX P w) 14 "ahead" ["kinds", "kind", "one", "other"] (sp_aheadX T CB)) (Wr : Fnw P w K mg base (L2.CX P w) 14 "rows_of" ["kinds", "kind", "words"] (sp_rows_ofX T CG CB)) :
    FnOk P w K mg base CX0 15 f fd ["door", "family", "title", "value", "good"] (sp_door T) := by
  have nd := sc_law_door.nd
  refine F.ok sc_law_door (fun vs H Q E h => ?_) (fun cdv A outer s H vs Q E hr h => ?_)
  · obtain ⟨_, _, _, _, _, _, _, _, rfl, _⟩ := h
    rfl
  obtain ⟨n, kv, tv, gv, ks, f', d, e, rfl, hA, hT, hG, hg, hL, q⟩ := h
  have hr1 : Room 14 _ := hr
  refine ⟨_, pss_cons (ps_set (i := 5) nd rfl (Or.inl rfl) pe_str)
    (pss_cons (ps_try_many (Wout := fun _ _ _ _ => False) (l := [(.ref CB, fun _ _ _ => tAsg (tC (.str "tree")) (gName 5)), (.ref CG, fun _ _ _ => tAsg (tC (.str "let")) (gName 5)), (.ref CT, fun _ _ _ => tAsg (tC (.str "error")) (gName 5))]) rfl rfl takes0
      (fun W pn xe tk _ => pss_one (ps_if (pt_cmpR op_eq (pv 0) pe_int (nomark _)) (pss_one (ps_expr (pe_fnS Fa hr1 (by decide) (fun σ => passAt tk σ) (pa_cons (pv 1) (pa_cons (pv 2) (pa_cons (pv 3) (pa_cons (pv 4) pa_nil)))))))
        (pss_one (ps_if (pt_cmpR op_eq (pv 0) pe_int (nomark _)) (pss_one (ps_expr (pe_kw Wa hr1 (by decide) (fun σ => passAt tk σ) (pk_cons (pv 1) (pk_cons (pv 2) (pk_cons (pv 4) (pk_cons (pv 3) pk_nil)))))))
          (pss_one (ps_expr (pe_kw Wr hr1 (by decide) (fun σ => passAt tk σ) (pk_cons (pv 1) (pk_cons (pv 2) (pk_cons (pv 3) pk_nil))))))))))
      (.cons ⟨rfl, by decide, Or.inl XB.g⟩ (fun _ _ _ _ _ _ _ => pss_one (ps_set (i := 5) nd rfl (Or.inl rfl) pe_str)) (.cons ⟨rfl, by decide, Or.inl XG.g⟩ (fun _ _ _ _ _ _ _ => pss_one (ps_set (i := 5) nd rfl (Or.inl rfl) pe_str)) (.cons ⟨rfl, by decide, Or.inl gT⟩ (fun _ _ _ _ _ _ _ => pss_one (ps_set (i := 5) nd rfl (Or.inl rfl) pe_str)) .nil))))
    (pss_one (ps_ret (pv 5)))), ?_⟩
  have kB : ∀ (D : Ends) (σ : L2.St) (H' : Hp), D.nx (σ.set 5 (some (.str "tree"))) H' → wMany K (fun _ _ _ _ => False) D [(.ref CB, fun _ _ _ => tAsg (tC (.str "tree")) (gName 5)), (.ref CG, fun _ _ _ => tAsg (tC (.str "let")) (gName 5)), (.ref CT, fun _ _ _ => tAsg (tC (.str "error")) (gName 5))] (.ref CB) none σ H' :=
    fun D σ H' h => ⟨true, rB, fun _ _ _ => h, fun z => by cases z⟩
  have kG : ∀ (D : Ends) (σ : L2.St) (H' : Hp), D.nx (σ.set 5 (some (.str "let"))) H' → wMany K (fun _ _ _ _ => False) D [(.ref CB, fun _ _ _ => tAsg (tC (.str "tree")) (gName 5)), (.ref CG, fun _ _ _ => tAsg (tC (.str "let")) (gName 5)), (.ref CT, fun _ _ _ => tAsg (tC (.str "error")) (gName 5))] (.ref CG) none σ H' :=
    fun D σ H' h => ⟨false, rGB, (fun z => by cases z), fun _ => ⟨true, rG, fun _ _ _ => h, fun z => by cases z⟩⟩
  have bad : ∀ H', treeB ks f' d = false → Go T [] H H' → Tabs T H' → Q (.str "tree") H' := fun H' hb g t => by
    have := q H' g t
    rw [hb] at this
    exact this
  have good : ∀ H', treeB ks f' d = true → Go T [] H H' → Tabs T H' → Q (.str "let") H' := fun H' hb g t => by
    have := q H' g t
    rw [hb] at this
    exact this
  refine ⟨_, rfl, rfl, _, rfl, ?_⟩
  by_cases n0 : n = 0
  · refine if_true_of (decide_eq_true (by rw [n0])) ?_
    refine ⟨_, rfl, _, rfl, _, rfl, _, rfl, kv, tv, gv, ks, f', d, e, rfl, hA, hT, hG, fun hb H' g' t' => kB _ _ _ ⟨_, rfl, ?_⟩, fun hb b H' g' t' => ⟨_, rfl, ?_⟩⟩
    · rw [hg, Bool.and_true] at hb
      exact bad H' hb g' t'
    · rw [hg, Bool.and_true] at hb
      exact good H' hb g' t'
  · refine if_false_of (decide_eq_false fun z => n0 (V.int.inj z)) ?_
    refine ⟨_, rfl, rfl, _, rfl, ?_⟩
    by_cases n1 : n = 1
    · refine if_true_of (decide_eq_true (by rw [n1])) ?_
      refine ⟨_, rfl, _, rfl, _, rfl, _, rfl, kv, gv, tv, ks, f', e, d, rfl, hA, hG, hT, fun hb H' g' t' => kB _ _ _ ⟨_, rfl, ?_⟩, fun hb b H' g' t' => ⟨_, rfl, ?_⟩⟩
      · rw [hg, Bool.true_and] at hb
        exact bad H' hb g' t'
      · rw [hg, Bool.true_and] at hb
        exact good H' hb g' t'
    · refine if_false_of (decide_eq_false fun z => n1 (V.int.inj z)) ?_
      exact ⟨_, rfl, _, rfl, _, rfl, kv, tv, ks, f', d, rfl, hA, hT, hL, fun hb H' g' t' => kB _ _ _ ⟨_, rfl, bad H' hb g' t'⟩, fun hb => ⟨fun H' g' t' => kG _ _ _ ⟨_, rfl, good H' hb g' t'⟩, fun v H' g' t' => ⟨_, rfl, good H' hb g' t'⟩⟩⟩
end
end K2
set_option Elab.async false
set_option linter.all false
set_option maxRecDepth 100000
set_option maxHeartbeats 8000000
namespace SL
open PySem PySem.Spec PyProof.Rows L2 GxR NdefX GA
variable [SL.LamT]
theorem pe_strN {X : Cx} {a : Expr} {ta : TE} {p pos : Pos} (B : Bl X.mg) (ha : PE X a ta) (h1 : Gl X "str" := by rfl) (he : starEach (a :: []) X.env = (false, eval a X.env) :: starEach [] X.env := by rfl) : PE X (.Call (.Name "str" p) [a] [] pos) (tCB rStrN (tCons ta tNil)) :=
  pe_callTy cr_strN h1 B.str (by decide +kernel) (pa_cons ha pa_nil he) (by decide) (by decide) he
end SL
namespace K2
open PySem PySem.Spec PyProof.Rows L2 GxR NdefX GA SL
variable [SL.LamT]
abbrev s_law_bent : Stmt := top 48
theorem sc_law_bent : FnScope ["well", "value", "at", "ways", "signs", "sign", "odd"] ["well", "value"] (defScope s_law_bent) := ⟨rfl, rfl, rfl, by decide +kernel, rfl, by decide +kernel, by decide +kernel⟩
/-- what a value near data is: not much greater -/
def nearOk (n : Nat) (d d' : PyData) : Prop := nice (n * 1000000000 + 1000000000000000000000000000000) d' = true ∧ wt d' ≤ 3 * wt d + 2000 ∧ d'.depth ≤ d.depth + 3
def sp_bent (T : List Addr) (dep : Nat) : Sp := fun vs H Q _ => ∃ (a l : Addr) (k : Int) (v : V) (d : PyData) (n : Nat), vs = [.ref a, v] ∧ k + 10 * ((dep : Int) + 1) ≤ 549755813888 ∧ WellAt a l H k ∧ Dv [a, l] H v d ∧ nice n d = true ∧ n.log2 < 1880 ∧ wt d ≤ 1000000 ∧ d.depth ≤ dep ∧ Tabs T H ∧
  ∀ v' d' H', Dv [a, l] H' v' d' → nearOk n d d' → WellAt a l H' (k + 10 * (dep + 1)) → Go T [a, l] H H' → Tabs T H' → Q v' H'
mutual
theorem nice_mono {m n : Nat} (h : m ≤ n) : ∀ {d : PyData}, nice m d = true → nice n d = true
  | .none, _ => by simp only [nice]
  | .bool _, _ => by simp only [nice]
  | .int i, e => by
    simp only [nice, decide_eq_true_eq] at e ⊢
    omega
  | .str x, e => by simpa only [nice] using e
  | .list xs, e => by
    simp only [nice] at e ⊢
    exact niceAll_mono h e
  | .tuple xs, e => by
    simp only [nice] at e ⊢
    exact niceAll_mono h e
  | .dict kvs, e => by simpa only [nice] using e
theorem niceAll_mono {m n : Nat} (h : m ≤ n) : ∀ {xs : List PyData}, niceAll m xs = true → niceAll n xs = true
  | [], _ => rfl
  | x :: xs, e => by
    simp only [niceAll, Bool.and_eq_true] at e ⊢
    exact ⟨nice_mono h e.1, niceAll_mono h e.2⟩
end
theorem at_dv {M : List Addr} {H : Hp} {xs : List V} {ds : List PyData} {i : Int} (h : DvAll M H xs ds) (h0 : 0 ≤ i) (h1 : i < (xs.length : Int)) : ∃ v d, atI xs i = some v ∧ d ∈ ds ∧ Dv M H v d := by
  obtain ⟨j, rfl⟩ : ∃ j : Nat, i = (j : Int) := ⟨i.toNat, by omega⟩
  have hj : j < xs.length := by omega
  have ex := List.getElem?_eq_getElem hj
  obtain ⟨d, ed, hv⟩ := h.get ex
  exact ⟨xs[j], d, atI_nat ex, List.mem_of_getElem? ed, hv⟩
/-- the odd things that hang on nothing -/
def oddA : List PyData := ([("" : Str), "number", "Number", "fun", "kind", "a", "A", "a1", "A1", "1A", "A_", "A b", "Abcdefghij", "abcdefghij"]).map PyData.str ++
  [.str "Abcdefghijk", .str "abcdefghijk", .str "A\n", .int 0, .int 1, .int (-1), .int 2, .bool true, .bool false, .none, .tuple [], .list [], .dict [], .tuple [.str "A"], .tuple [.str "A", .tuple []]]
def oddC : List PyData := [.tuple [.str "num", .tuple [.int 1, .int 1]], .int (10 ^ 30), .tuple [.int 0, .int 1], .tuple [.str "Fun", .tuple []]]
theorem odds_ok : (oddA ++ oddC).all (fun d => nice 1000000000000000000000000000000 d && decide (wt d ≤ 2000) && decide (d.depth ≤ 3)) = true := by decide +kernel
theorem odd_near {n : Nat} {d d' : PyData} (h : d' ∈ oddA ++ oddC) : nearOk n d d' := by
  have := List.all_eq_true.mp odds_ok d' h
  simp only [Bool.and_eq_true, decide_eq_true_eq] at this
  exact ⟨nice_mono (by omega) this.1.1, by omega, by omega⟩
theorem cat_ok {K : PySem.W.Frag} {T M : List Addr} {H : Hp} {p q : Addr} {xs ys : List V} {Q : VK} (hp : H p = some (.tup xs)) (hq : H q = some (.tup ys)) (np : p ∉ M) (nq : q ∉ M) (hl : xs.length + ys.length ≤ 16777216) (fresh : ∀ r, H r = none → r ∉ M)
    (k : ∀ r H', H' r = some (.tup (xs ++ ys)) → r ∉ M → Go T [] H H' → Q (.ref r) H') : rCatA K (.ref p) (.ref q) H Q := by
  refine ⟨p, q, xs, ys, rfl, rfl, SqT.of hp, SqT.of hq, sz hl, fun e => ?_, fun _ e => ?_, fun _ _ r hr => k r _ upd_same (fresh r hr) (Go.new hr)⟩
  · subst e
    exact k q H hq nq Go.refl
  · subst e
    exact k p H (by rw [List.append_nil]; exact hp) np Go.refl
theorem sl_ok {K : PySem.W.Frag} {T M : List Addr} {H : Hp} {p : Addr} {xs : List V} {lo hi : Option Int} {Q : VK} (hp : H p = some (.tup xs)) (np : p ∉ M) (fresh : ∀ r, H r = none → r ∉ M)
    (k : ∀ r H', H' r = some (.tup (cutV xs lo hi)) → r ∉ M → Go T [] H H' → Q (.ref r) H') : rSlA K (.ref p) lo hi H Q := by
  refine ⟨p, xs, rfl, SqT.of hp, fun ⟨e1, e2⟩ => ?_, fun _ r hr => k r _ upd_same (fresh r hr) (Go.new hr)⟩
  refine k p H ?_ np Go.refl
  unfold cutV
  rw [e1, e2, List.drop_zero, Nat.sub_zero, List.take_length]
  exact hp
theorem times_ok {K : PySem.W.Frag} {T M : List Addr} {H : Hp} {p : Addr} {xs : List V} {j : Int} {Q : VK} (hp : H p = some (.tup xs)) (np : p ∉ M) (h2 : 2 ≤ j) (h3 : j ≤ 3) (hl : xs.length ≤ 2000000) (fresh : ∀ r, H r = none → r ∉ M)
    (k : ∀ r H', H' r = some (.tup (List.replicate j.toNat xs).flatten) → r ∉ M → Go T [] H H' → Q (.ref r) H') : rTimes K (.ref p) (.int j) H Q := by
  refine ⟨p, j, xs, rfl, rfl, SqT.of hp, h2, h3, hl, fun e => ?_, fun _ r hr => k r _ upd_same (fresh r hr) (Go.new hr)⟩
  refine k p H ?_ np Go.refl
  rw [hp, e]
  have : ∀ n : Nat, (List.replicate n ([] : List V)).flatten = [] := fun n => by
    induction n with
    | zero => rfl
    | succ n ih => rw [List.replicate_succ, List.flatten_cons, ih] <;> rfl
  rw [this]
section
variable {P : Program} {w : World} {K : PySem.W.Frag} {mg : Str → Option Value} {base : Heap} {f c CK CN CT CR : Addr} {fd : FuncData} {T : List Addr}
theorem near_part {n : Nat} {ds ys : List PyData} (h : nice n (.tuple ds) = true) (m : ∀ d ∈ ys, d ∈ ds) (w : wtAll ys ≤ 3 * wtAll ds) : nearOk n (.tuple ds) (.tuple ys) ∧ nearOk n (.tuple ds) (.list ys) := by
  have h' := nice_tup.mp (nice_mono (n := n * 1000000000 + 1000000000000000000000000000000) (by omega) h)
  obtain ⟨D, e⟩ : ∃ D, PyData.depthAll ds = D := ⟨_, rfl⟩
  have hD := depthAll_le.mp (Nat.le_of_eq e)
  have eD : (PyData.tuple ds).depth = D + 1 := by rw [← e]; simp only [PyData.depth]
  refine ⟨⟨nice_tup.mpr fun d hd => h' d (m d hd), by rw [wt_tupl, wt_tupl]; omega, ?_⟩, nice_lst.mpr fun d hd => h' d (m d hd), by rw [wt_tupl, wt_lst]; omega, ?_⟩
  · rw [eD]
    exact depth_tup.mpr fun d hd => Nat.le_trans (hD d (m d hd)) (by omega)
  · rw [eD]
    exact depth_lst.mpr fun d hd => Nat.le_trans (hD d (m d hd)) (by omega)
theorem near_in {n : Nat} {ds : List PyData} {i : Nat} {d e : PyData} (h : nice n (.tuple ds) = true) (hd : ds[i]? = some d) (ne : nearOk n d e) : nearOk n (.tuple ds) (.tuple ((ds.take i ++ [e]) ++ ds.drop (i + 1))) := by
  have h' := nice_tup.mp (nice_mono (n := n * 1000000000 + 1000000000000000000000000000000) (by omega) h)
  obtain ⟨D, eq⟩ : ∃ D, PyData.depthAll ds = D := ⟨_, rfl⟩
  have hD := depthAll_le.mp (Nat.le_of_eq eq)
  have eD : (PyData.tuple ds).depth = D + 1 := by rw [← eq]; simp only [PyData.depth]
  have md := List.mem_of_getElem? hd
  have wa := wt_around hd
  obtain ⟨n1, n2, n3⟩ := ne
  have mem : ∀ x ∈ (ds.take i ++ [e]) ++ ds.drop (i + 1), x ∈ ds ∨ x = e := fun x hx => by
    rcases List.mem_append.mp hx with z | z
    · rcases List.mem_append.mp z with z | z
      · exact .inl (List.mem_of_mem_take z)
      · exact .inr (List.mem_singleton.mp z)
    · exact .inl (List.mem_of_mem_drop z)
  refine ⟨nice_tup.mpr fun x hx => ?_, ?_, ?_⟩
  · rcases mem x hx with z | rfl
    · exact h' x z
    · exact n1
  · rw [wt_tupl, wt_tupl, wtAll_append, wtAll_append]
    simp only [wtAll]
    omega
  · rw [eD]
    refine depth_tup.mpr fun x hx => ?_
    rcases mem x hx with z | rfl
    · exact Nat.le_trans (hD x z) (by omega)
    · have := hD d md
      omega
theorem near_self {n : Nat} {d : PyData} (h : nice n d = true) : nearOk n d (.tuple [d]) ∧ nearOk n d (.list [d]) ∧ nearOk n d (.tuple [d, d]) := by
  have h' := nice_mono (n := n * 1000000000 + 1000000000000000000000000000000) (by omega) h
  refine ⟨⟨?_, ?_, ?_⟩, ⟨?_, ?_, ?_⟩, ⟨?_, ?_, ?_⟩⟩
  all_goals first
    | (simp only [nice, niceAll]; rw [h'] <;> rfl)
    | (simp only [wt, wtAll]; omega)
    | (simp only [PyData.depth, PyData.depthAll]; omega)
def oddD (d : PyData) : List PyData := oddA ++ ([.tuple [d], .list [d], .tuple [d, d]] ++ oddC)
theorem oddD_near {n : Nat} {d d' : PyData} (h : nice n d = true) (m : d' ∈ oddD d) : nearOk n d d' := by
  rcases List.mem_append.mp m with m | m
  · exact odd_near (List.mem_append_left _ m)
  · rcases List.mem_append.mp m with m | m
    · obtain ⟨h1, h2, h3⟩ := near_self h
      simp only [List.mem_cons, List.not_mem_nil, or_false] at m
      rcases m with rfl | rfl | rfl
      · exact h1
      · exact h2
      · exact h3
    · exact odd_near (List.mem_append_right _ m)
theorem asc_int (i : Int) : asc (Str.ofString (toString i)) = true := asc_of fun c hc => Classical.byContradiction fun z => int_text_free' c ⟨by omega, .inr (by omega)⟩ i hc
theorem log_int {n m : Nat} (hl : n.log2 < 1880) (h : m ≤ n * 1000000000 + 1000000000000000000000000000000) : m.log2 < 1920 := by
  by_cases z : m = 0
  · rw [z]; decide
  refine (Nat.log2_lt z).mpr ?_
  have a1 : n < 2 ^ 1880 := by
    by_cases e : n = 0
    · rw [e]; exact Nat.two_pow_pos _
    · exact (Nat.log2_lt e).mp hl
  have a2 : n * 1000000000 ≤ 2 ^ 1880 * 2 ^ 30 := Nat.mul_le_mul (Nat.le_of_lt a1) (by decide)
  rw [← Nat.pow_add] at a2
  have a3 : (1000000000000000000000000000000 : Nat) ≤ 2 ^ 1910 := Nat.le_trans (show (1000000000000000000000000000000 : Nat) ≤ 2 ^ 100 by decide) (Nat.pow_le_pow_right (by decide) (by decide))
  have a4 : (2 : Nat) ^ 1911 = 2 ^ 1910 + 2 ^ 1910 := by rw [Nat.pow_succ, Nat.mul_two]
  have a5 : (2 : Nat) ^ 1911 < 2 ^ 1920 := Nat.pow_lt_pow_right (by decide) (by decide)
  have a2' : n * 1000000000 ≤ 2 ^ 1910 := a2
  omega
theorem near_int {n : Nat} {d : PyData} {w : Int} (hl : n.log2 < 1880) (h : w.natAbs ≤ n * 1000000000 + 1000000000000000000000000000000) : nearOk n d (.int w) := by
  refine ⟨?_, ?_, ?_⟩
  · simp only [nice]
    exact decide_eq_true h
  · have := int_text_len_1921 (i := w) (log_int hl h)
    simp only [wt]
    omega
  · simp only [PyData.depth]
    omega
theorem near_txt {n : Nat} {d : PyData} {x : Str} (h : asc x = true) (hl : 12 * x.length ≤ 3 * wt d + 1996) : nearOk n d (.str x) := by
  refine ⟨?_, ?_, ?_⟩
  · simpa only [nice] using h
  · simp only [wt]
    omega
  · simp only [PyData.depth]
    omega
theorem len_cut40 (z : Str) : (cutS z none (some 40)).length ≤ 40 := by
  have b := HT.sIx_nat z.length z.length 40
  have b : HT.sIx z.length z.length (some 40) = min 40 z.length := b
  rw [SL.len_list, cutS_list, List.length_take, List.length_drop, b, ← SL.len_list]
  omega
theorem cutV_len (xs : List V) (lo hi : Option Int) : (cutV xs lo hi).length ≤ xs.length := by
  unfold cutV
  rw [List.length_take, List.length_drop]
  omega
theorem tup_ways {n : Nat} {ds : List PyData} {i : Int} {z : PyData} (hn : nice n (.tuple ds) = true) (hz : z ∈ [PyData.tuple (cutD ds none (some i) ++ cutD ds (some (i + 1)) none), .tuple ((cutD ds none (some i) ++ cutD ds (some i) (some (i + 1))) ++ cutD ds (some i) none), .tuple (cutD ds (some i) none ++ cutD ds none (some i)), .list ds, .tuple (List.replicate (2 : Int).toNat ds).flatten, .tuple (List.replicate (3 : Int).toNat ds).flatten]) : nearOk n (.tuple ds) z := by
  have two : ∀ {ys zs : List PyData}, (∀ d ∈ ys, d ∈ ds) → (∀ d ∈ zs, d ∈ ds) → ∀ d ∈ ys ++ zs, d ∈ ds := fun h1 h2 d hd => (List.mem_append.mp hd).elim (h1 d) (h2 d)
  have c := fun lo hi => cutD_wt ds lo hi
  simp only [List.mem_cons, List.not_mem_nil, or_false] at hz
  rcases hz with rfl | rfl | rfl | rfl | rfl | rfl
  · exact (near_part hn (two (fun _ => cutD_mem) fun _ => cutD_mem) (by have := c none (some i); have := c (some (i + 1)) none; rw [wtAll_append]; omega)).1
  · exact (near_part hn (two (two (fun _ => cutD_mem) fun _ => cutD_mem) fun _ => cutD_mem) (by have := c none (some i); have := c (some i) (some (i + 1)); have := c (some i) none; rw [wtAll_append, wtAll_append]; omega)).1
  · exact (near_part hn (two (fun _ => cutD_mem) fun _ => cutD_mem) (by have := c none (some i); have := c (some i) none; rw [wtAll_append]; omega)).1
  · exact (near_part hn (fun _ h => h) (by omega)).2
  · exact (near_part hn (fun _ => rep_mem) (by rw [rep_wt]; show 2 * wtAll ds ≤ _; omega)).1
  · exact (near_part hn (fun _ => rep_mem) (by rw [rep_wt]; show 3 * wtAll ds ≤ _; omega)).1
theorem near_nums {n : Nat} {d dd : PyData} {z : Int} {x : Str} (hl : n.log2 < 1880) (hz : z.natAbs ≤ n + 1) (hx : asc x = true) (m : dd ∈ [PyData.int (z + 1), .int (z - 1), .int (-z), .int (z * (10 : Int) ^ (9 : Int).toNat), .str (cutS x none (some 40))]) : nearOk n d dd := by
  have e9 : (10 : Int) ^ (9 : Int).toNat = 1000000000 := by decide
  simp only [List.mem_cons, List.not_mem_nil, or_false] at m
  rcases m with rfl | rfl | rfl | rfl | rfl
  · exact near_int hl (by omega)
  · exact near_int hl (by omega)
  · exact near_int hl (by omega)
  · rw [e9]
    refine near_int hl ?_
    rw [Int.natAbs_mul]
    show z.natAbs * 1000000000 ≤ _
    have := Nat.mul_le_mul_right 1000000000 hz
    omega
  · refine near_txt (asc_cut hx _ _) ?_
    have := len_cut40 x
    omega
/-- one level of it, the levels below given -/
theorem ok_law_bent_step (dep : Nat) (F : Fun K "_law_bent" "_law_bent" s_law_bent f fd) (B : Bl mg) (Fd : Fnn P w K mg base CX0 1 "_law_draw" ["well", "many"] (sp_draw T)) (Fb : Fnn P w K mg base CX0 (dep + 2) "_law_bent" ["well", "value"] (fun vs H Q E => ∃ j, j < dep ∧ sp_bent T j vs H Q E)) : FnOk P w K mg base CX0 (dep + 3) f fd ["well", "value"] (sp_bent T dep) := by
  have nd := sc_law_bent.nd
  refine F.ok sc_law_bent (fun vs H Q E h => ?_) (fun cdv A outer s H vs Q E hr h => ?_)
  · obtain ⟨_, _, _, _, _, _, rfl, _⟩ := h
    rfl
  obtain ⟨a, l, k, v, d, n, rfl, hk, W, hv, hn, hl, hw, hd, ht, q⟩ := h
  have hu : (A.deeper (envOfC "_law_bent" (defScope s_law_bent) s.heap.objs.size f cdv)).units < cLine := by
    have := hr.un
    omega
  refine ⟨_, (pss_cons (ps_if (PW.pt (pw_and (pt_val (pe_isi_tuple B (pv 1))) (pw_and (pt_cmpR (op_neNil hu) (pv 1) (pe_tup pa_nil) (nomark _)) (pw_and1 (pt_cmpR op_gt (pe_fn Fd hr (by omega) pass0 (pa_cons (pv 0) (pa_cons pe_int pa_nil))) pe_int (nomark _)))))) (pss_cons (ps_set (i := 2) nd rfl (Or.inl rfl) (pe_fn Fd hr (by omega) pass0 (pa_cons (pv 0) (pa_cons (pe_lenq B (pv 1)) pa_nil))))
    (pss_one (ps_ret (pe_op op_catA (pe_op op_catA (pe_slice sl_tupA (pv 1) po_none (po_some (pv 2))) (pe_tup (pa_cons (pe_fn Fb hr (Nat.le_refl _) pass0 (pa_cons (pv 0) (pa_cons (pe_ix ix_tup (pv 1) (pv 2) (fun _ _ => rfl)) pa_nil))) pa_nil))) (pe_slice sl_tupA (pv 1) (po_some (pe_op op_add (pv 2) pe_int)) po_none))))) pss_nil)
    (pss_cons (ps_if (PW.pt (pw_and (pt_val (pe_isi_tuple B (pv 1))) (pw_and1 (pt_cmpR op_gt (pe_fn Fd hr (by omega) pass0 (pa_cons (pv 0) (pa_cons pe_int pa_nil))) pe_int (nomark _))))) (pss_cons (ps_set (i := 2) nd rfl (Or.inl rfl) (pe_fn Fd hr (by omega) pass0 (pa_cons (pv 0) (pa_cons (pe_op op_add (pe_lenq B (pv 1)) pe_int) pa_nil))))
    (pss_cons (ps_set (i := 3) nd rfl (Or.inl rfl) (pe_lst (pa_cons (pe_op op_catA (pe_slice sl_tupA (pv 1) po_none (po_some (pv 2))) (pe_slice sl_tupA (pv 1) (po_some (pe_op op_add (pv 2) pe_int)) po_none)) (pa_cons (pe_op op_catA (pe_op op_catA (pe_slice sl_tupA (pv 1) po_none (po_some (pv 2))) (pe_slice sl_tupA (pv 1) (po_some (pv 2)) (po_some (pe_op op_add (pv 2) pe_int)))) (pe_slice sl_tupA (pv 1) (po_some (pv 2)) po_none)) (pa_cons (pe_op op_catA (pe_slice sl_tupA (pv 1) (po_some (pv 2)) po_none) (pe_slice sl_tupA (pv 1) po_none (po_some (pv 2)))) pa_nil)))))
    (pss_one (ps_ret (pe_ix ix_list (pe_op op_cat (pv 3) (pe_lst (pa_cons (pe_toList B (pv 1)) (pa_cons (pe_op op_times (pv 1) pe_int) (pa_cons (pe_op op_times (pv 1) pe_int) pa_nil))))) (pe_fn Fd hr (by omega) pass0 (pa_cons (pv 0) (pa_cons pe_int pa_nil))) (fun _ _ => rfl)))))) pss_nil)
    (pss_cons (ps_if (PW.pt (pw_and (pt_val (pe_isi_str B (pv 1))) (pw_and1 (pt_cmpR op_gt (pe_fn Fd hr (by omega) pass0 (pa_cons (pv 0) (pa_cons pe_int pa_nil))) pe_int (nomark _))))) (pss_cons (ps_set (i := 4) nd rfl (Or.inl rfl) pe_str)
    (pss_cons (ps_par (i := 2) (j := 5) rfl nd rfl rfl (by decide) rfl rfl (pa_cons (pe_fn Fd hr (by omega) pass0 (pa_cons (pv 0) (pa_cons (pe_op op_add (pe_lens B (pv 1)) pe_int) pa_nil))) (pa_cons (pe_ix ix_str (pv 4) (pe_fn Fd hr (by omega) pass0 (pa_cons (pv 0) (pa_cons (pe_lens B (pv 4)) pa_nil))) (fun _ _ => rfl)) pa_nil)) rfl)
    (pss_cons (ps_set (i := 3) nd rfl (Or.inl rfl) (pe_lst (pa_cons (pe_op op_add_str (pe_op op_add_str (pe_slice sl_str (pv 1) po_none (po_some (pv 2))) (pv 5)) (pe_slice sl_str (pv 1) (po_some (pv 2)) po_none)) (pa_cons (pe_op op_add_str (pe_op op_add_str (pe_slice sl_str (pv 1) po_none (po_some (pv 2))) (pv 5)) (pe_slice sl_str (pv 1) (po_some (pe_op op_add (pv 2) pe_int)) po_none)) (pa_cons (pe_op op_add_str (pv 1) (pv 5)) (pa_cons (pe_lower (pv 1)) pa_nil))))))
    (pss_one (ps_ret (pe_ix ix_list (pe_op op_cat (pv 3) (pe_lst (pa_cons (pe_upper (pv 1)) (pa_cons (pe_slice sl_str (pv 1) (po_some pe_int) po_none) (pa_cons (pe_slice sl_str (pv 1) po_none (po_some (pe_un un_neg pe_int))) (pa_cons (pe_slice sl_str (pv 1) po_none (po_some pe_int)) pa_nil)))))) (pe_fn Fd hr (by omega) pass0 (pa_cons (pv 0) (pa_cons pe_int pa_nil))) (fun _ _ => rfl))))))) pss_nil)
    (pss_cons (ps_if (PW.pt (pw_and (pt_val (pe_isi_int B (pv 1))) (pw_and1 (pt_cmpR op_gt (pe_fn Fd hr (by omega) pass0 (pa_cons (pv 0) (pa_cons pe_int pa_nil))) pe_int (nomark _))))) (pss_one (ps_ret (pe_ix ix_list (pe_lst (pa_cons (pe_op op_addB (pv 1) pe_int) (pa_cons (pe_op op_subB (pv 1) pe_int) (pa_cons (pe_un un_negB (pv 1)) (pa_cons (pe_op op_mulB (pv 1) (pe_op op_pow pe_int pe_int)) (pa_cons (pe_slice sl_str (pe_strN B (pv 1)) po_none (po_some pe_int)) pa_nil)))))) (pe_fn Fd hr (by omega) pass0 (pa_cons (pv 0) (pa_cons pe_int pa_nil))) (fun _ _ => rfl)))) pss_nil)
    (pss_cons (ps_set (i := 6) nd rfl (Or.inl rfl) (pe_lst (pa_cons pe_str (pa_cons pe_str (pa_cons pe_str (pa_cons pe_str (pa_cons pe_str (pa_cons pe_str (pa_cons pe_str (pa_cons pe_str (pa_cons pe_str (pa_cons pe_str (pa_cons pe_str (pa_cons pe_str (pa_cons pe_str (pa_cons pe_str pa_nil))))))))))))))))
    (pss_cons (ps_set (i := 6) nd rfl (Or.inl rfl) (pe_op op_cat (pv 6) (pe_lst (pa_cons pe_str (pa_cons pe_str (pa_cons pe_str (pa_cons pe_int (pa_cons pe_int (pa_cons (pe_un un_neg pe_int) (pa_cons pe_int (pa_cons pe_bl (pa_cons pe_bl (pa_cons pe_non (pa_cons (pe_tup pa_nil) (pa_cons (pe_lst pa_nil) (pa_cons pe_dnewK (pa_cons (pe_tup (pa_cons pe_str pa_nil)) (pa_cons (pe_tup (pa_cons pe_str (pa_cons (pe_tup pa_nil) pa_nil))) pa_nil))))))))))))))))))
    (pss_cons (ps_set (i := 6) nd rfl (Or.inl rfl) (pe_op op_cat (pv 6) (pe_lst (pa_cons (pe_tup (pa_cons (pv 1) pa_nil)) (pa_cons (pe_lst (pa_cons (pv 1) pa_nil)) (pa_cons (pe_tup (pa_cons (pv 1) (pa_cons (pv 1) pa_nil))) (pa_cons (pe_tup (pa_cons pe_str (pa_cons (pe_tup (pa_cons pe_int (pa_cons pe_int pa_nil))) pa_nil))) (pa_cons (pe_op op_pow pe_int pe_int) (pa_cons (pe_tup (pa_cons pe_int (pa_cons pe_int pa_nil))) (pa_cons (pe_tup (pa_cons pe_str (pa_cons (pe_tup pa_nil) pa_nil))) pa_nil))))))))))
    (pss_one (ps_ret (pe_ix ix_list (pv 6) (pe_fn Fd hr (by omega) pass0 (pa_cons (pv 0) (pa_cons (pe_lenq B (pv 6)) pa_nil))) (fun _ _ => rfl))))))))))), ?_⟩
  have nn : ∀ b : Addr, b ∉ ([] : List Addr) := fun b => List.not_mem_nil
  have up : ∀ {p : Addr} {H' : Hp} {k' : Int}, WellAt a l H' k' → H' p = none → p ∉ [a, l] := fun w h => nin (w.ne h)
  refine ⟨_, rfl, _, _, _, rfl, hv, ?_⟩
  cases d with
  | none =>
    refine ⟨_, rfl, iteF (iteF ?_)⟩
    refine ⟨_, rfl, _, _, _, rfl, hv, _, rfl, iteF (iteF ?_)⟩
    refine ⟨_, rfl, _, _, _, rfl, hv, _, rfl, iteF (iteF ?_)⟩
    refine ⟨_, rfl, _, _, _, rfl, hv, _, rfl, iteF (iteF ?_)⟩
    have w0 := W
    have c0 := Go.refl (T := T) (M := []) (H := H)
    refine ⟨by show 14 ≤ sizeLine; decide, fun o1 ho1 => ?_⟩
    have go1 := Go.new (T := T) (M := []) (o := .lst (([("" : Str), "number", "Number", "fun", "kind", "a", "A", "a1", "A1", "1A", "A_", "A b", "Abcdefghij", "abcdefghij"]).map V.str)) ho1
    have no1 := up w0 ho1
    have w1 := w0.go go1
    have c1 := c0.trans go1
    refine ⟨_, rfl, _, rfl, by show 0 ≤ sizeLine; omega, fun e1 he1 => ⟨by show 0 ≤ sizeLine; omega, fun e2 he2 => fun e3 he3 => ⟨by show 1 ≤ sizeLine; decide, fun e4 he4 => ⟨by show 0 ≤ sizeLine; omega, fun e5 he5 => ⟨by show 2 ≤ sizeLine; decide, fun e6 he6 => ⟨by show 15 ≤ sizeLine; decide, fun o2 ho2 => ?_⟩⟩⟩⟩⟩⟩
    have ge1 := Go.new (T := T) (M := []) (o := .tup []) he1
    have ne1 := up w1 he1
    have w2 := w1.go ge1
    have c2 := c1.trans ge1
    have ge2 := Go.new (T := T) (M := []) (o := .lst []) he2
    have ne2 := up w2 he2
    have w3 := w2.go ge2
    have c3 := c2.trans ge2
    have ge3 := Go.new (T := T) (M := []) (o := .dK []) he3
    have ne3 := up w3 he3
    have w4 := w3.go ge3
    have c4 := c3.trans ge3
    have ge4 := Go.new (T := T) (M := []) (o := .tup [.str "A"]) he4
    have ne4 := up w4 he4
    have w5 := w4.go ge4
    have c5 := c4.trans ge4
    have ge5 := Go.new (T := T) (M := []) (o := .tup []) he5
    have ne5 := up w5 he5
    have w6 := w5.go ge5
    have c6 := c5.trans ge5
    have ge6 := Go.new (T := T) (M := []) (o := .tup [.str "A", .ref e5]) he6
    have ne6 := up w6 he6
    have w7 := w6.go ge6
    have c7 := c6.trans ge6
    have go2 := Go.new (T := T) (M := []) (o := .lst [.str "Abcdefghijk", .str "abcdefghijk", .str "A\n", .int 0, .int 1, .int (-1), .int 2, .bl true, .bl false, .non, .ref e1, .ref e2, .ref e3, .ref e4, .ref e6]) ho2
    have no2 := up w7 ho2
    have w8 := w7.go go2
    have c8 := c7.trans go2
    have po1 := (((((((ge1.trans ge2).trans ge3).trans ge4).trans ge5).trans ge6).trans go2)).lst upd_same (nn _)
    have pe1 := ((((((ge2.trans ge3).trans ge4).trans ge5).trans ge6).trans go2)).tup upd_same (nn _)
    have pe2 := (((((ge3.trans ge4).trans ge5).trans ge6).trans go2)).lst upd_same (nn _)
    have pe3 := ((((ge4.trans ge5).trans ge6).trans go2)).gr _ _ (upd_same (a := e3) (o := .dK [])) (nn _) (fun _ z => by cases z)
    have pe4 := (((ge5.trans ge6).trans go2)).tup upd_same (nn _)
    have pe5 := ((ge6.trans go2)).tup upd_same (nn _)
    have pe6 := (go2).tup upd_same (nn _)
    refine ⟨o1, o2, (([("" : Str), "number", "Number", "fun", "kind", "a", "A", "a1", "A1", "1A", "A_", "A b", "Abcdefghij", "abcdefghij"]).map V.str), [V.str "Abcdefghijk", .str "abcdefghijk", .str "A\n", .int 0, .int 1, .int (-1), .int 2, .bl true, .bl false, .non, .ref e1, .ref e2, .ref e3, .ref e4, .ref e6], rfl, rfl, po1, upd_same, by show 29 ≤ sizeLine; decide, fun o3 ho3 => ?_⟩
    have go3 := Go.new (T := T) (M := []) (o := .lst ((([("" : Str), "number", "Number", "fun", "kind", "a", "A", "a1", "A1", "1A", "A_", "A b", "Abcdefghij", "abcdefghij"]).map V.str) ++ [V.str "Abcdefghijk", .str "abcdefghijk", .str "A\n", .int 0, .int 1, .int (-1), .int 2, .bl true, .bl false, .non, .ref e1, .ref e2, .ref e3, .ref e4, .ref e6])) ho3
    have no3 := up w8 ho3
    have w9 := w8.go go3
    have c9 := c8.trans go3
    refine ⟨_, rfl, _, rfl, by show 1 ≤ sizeLine; decide, fun f1 hf1 => ⟨_, rfl, by show 1 ≤ sizeLine; decide, fun f2 hf2 => ⟨_, rfl, _, rfl, by show 2 ≤ sizeLine; decide, fun f3 hf3 => ⟨by show 2 ≤ sizeLine; decide, fun f4 hf4 => ⟨by show 2 ≤ sizeLine; decide, fun f5 hf5 => ⟨_, _, rfl, rfl, ⟨by decide, by decide, by decide⟩, by show 2 ≤ sizeLine; decide, fun f6 hf6 => ⟨by show 0 ≤ sizeLine; omega, fun f7 hf7 => ⟨by show 2 ≤ sizeLine; decide, fun f8 hf8 => ⟨by show 7 ≤ sizeLine; decide, fun o4 ho4 => ?_⟩⟩⟩⟩⟩⟩⟩⟩⟩
    have gf1 := Go.new (T := T) (M := []) (o := .tup [v]) hf1
    have nf1 := up w9 hf1
    have w10 := w9.go gf1
    have c10 := c9.trans gf1
    have gf2 := Go.new (T := T) (M := []) (o := .lst [v]) hf2
    have nf2 := up w10 hf2
    have w11 := w10.go gf2
    have c11 := c10.trans gf2
    have gf3 := Go.new (T := T) (M := []) (o := .tup [v, v]) hf3
    have nf3 := up w11 hf3
    have w12 := w11.go gf3
    have c12 := c11.trans gf3
    have gf4 := Go.new (T := T) (M := []) (o := .tup [.int 1, .int 1]) hf4
    have nf4 := up w12 hf4
    have w13 := w12.go gf4
    have c13 := c12.trans gf4
    have gf5 := Go.new (T := T) (M := []) (o := .tup [.str "num", .ref f4]) hf5
    have nf5 := up w13 hf5
    have w14 := w13.go gf5
    have c14 := c13.trans gf5
    have gf6 := Go.new (T := T) (M := []) (o := .tup [.int 0, .int 1]) hf6
    have nf6 := up w14 hf6
    have w15 := w14.go gf6
    have c15 := c14.trans gf6
    have gf7 := Go.new (T := T) (M := []) (o := .tup []) hf7
    have nf7 := up w15 hf7
    have w16 := w15.go gf7
    have c16 := c15.trans gf7
    have gf8 := Go.new (T := T) (M := []) (o := .tup [.str "Fun", .ref f7]) hf8
    have nf8 := up w16 hf8
    have w17 := w16.go gf8
    have c17 := c16.trans gf8
    have go4 := Go.new (T := T) (M := []) (o := .lst [V.ref f1, .ref f2, .ref f3, .ref f5, .int (10 ^ 30), .ref f6, .ref f8]) ho4
    have no4 := up w17 ho4
    have w18 := w17.go go4
    have c18 := c17.trans go4
    have po3 := (((((((((gf1.trans gf2).trans gf3).trans gf4).trans gf5).trans gf6).trans gf7).trans gf8).trans go4)).lst upd_same (nn _)
    have pf1 := ((((((((gf2.trans gf3).trans gf4).trans gf5).trans gf6).trans gf7).trans gf8).trans go4)).tup upd_same (nn _)
    have pf2 := (((((((gf3.trans gf4).trans gf5).trans gf6).trans gf7).trans gf8).trans go4)).lst upd_same (nn _)
    have pf3 := ((((((gf4.trans gf5).trans gf6).trans gf7).trans gf8).trans go4)).tup upd_same (nn _)
    have pf4 := (((((gf5.trans gf6).trans gf7).trans gf8).trans go4)).tup upd_same (nn _)
    have pf5 := ((((gf6.trans gf7).trans gf8).trans go4)).tup upd_same (nn _)
    have pf6 := (((gf7.trans gf8).trans go4)).tup upd_same (nn _)
    have pf7 := ((gf8.trans go4)).tup upd_same (nn _)
    have pf8 := (go4).tup upd_same (nn _)
    refine ⟨o3, o4, ((([("" : Str), "number", "Number", "fun", "kind", "a", "A", "a1", "A1", "1A", "A_", "A b", "Abcdefghij", "abcdefghij"]).map V.str) ++ [V.str "Abcdefghijk", .str "abcdefghijk", .str "A\n", .int 0, .int 1, .int (-1), .int 2, .bl true, .bl false, .non, .ref e1, .ref e2, .ref e3, .ref e4, .ref e6]), [V.ref f1, .ref f2, .ref f3, .ref f5, .int (10 ^ 30), .ref f6, .ref f8], rfl, rfl, po3, upd_same, by show 36 ≤ sizeLine; decide, fun o5 ho5 => ?_⟩
    have go5 := Go.new (T := T) (M := []) (o := .lst (((([("" : Str), "number", "Number", "fun", "kind", "a", "A", "a1", "A1", "1A", "A_", "A b", "Abcdefghij", "abcdefghij"]).map V.str) ++ [V.str "Abcdefghijk", .str "abcdefghijk", .str "A\n", .int 0, .int 1, .int (-1), .int 2, .bl true, .bl false, .non, .ref e1, .ref e2, .ref e3, .ref e4, .ref e6]) ++ [V.ref f1, .ref f2, .ref f3, .ref f5, .int (10 ^ 30), .ref f6, .ref f8])) ho5
    have no5 := up w18 ho5
    have w19 := w18.go go5
    have c19 := c18.trans go5
    have re1 := (((((((((((go3.trans gf1).trans gf2).trans gf3).trans gf4).trans gf5).trans gf6).trans gf7).trans gf8).trans go4).trans go5)).tup pe1 (nn _)
    have re4 := (((((((((((go3.trans gf1).trans gf2).trans gf3).trans gf4).trans gf5).trans gf6).trans gf7).trans gf8).trans go4).trans go5)).tup pe4 (nn _)
    have re5 := (((((((((((go3.trans gf1).trans gf2).trans gf3).trans gf4).trans gf5).trans gf6).trans gf7).trans gf8).trans go4).trans go5)).tup pe5 (nn _)
    have re6 := (((((((((((go3.trans gf1).trans gf2).trans gf3).trans gf4).trans gf5).trans gf6).trans gf7).trans gf8).trans go4).trans go5)).tup pe6 (nn _)
    have re2 := (((((((((((go3.trans gf1).trans gf2).trans gf3).trans gf4).trans gf5).trans gf6).trans gf7).trans gf8).trans go4).trans go5)).lst pe2 (nn _)
    have re3 := (((((((((((go3.trans gf1).trans gf2).trans gf3).trans gf4).trans gf5).trans gf6).trans gf7).trans gf8).trans go4).trans go5)).gr _ _ pe3 (nn _) (fun _ z => by cases z)
    have rf1 := go5.tup pf1 (nn _)
    have rf3 := go5.tup pf3 (nn _)
    have rf4 := go5.tup pf4 (nn _)
    have rf5 := go5.tup pf5 (nn _)
    have rf6 := go5.tup pf6 (nn _)
    have rf7 := go5.tup pf7 (nn _)
    have rf2 := go5.lst pf2 (nn _)
    have rf8 := go5.tup pf8 (nn _)
    have vz := hv.go (((Go.refl (T := T) (M := [a, l]) (H := H))).trans c19.of0)
    have dz : DvAll [a, l] _ _ (oddD _) := DvAll.append (DvAll.append (DvAll.strs _) (.cons (.str _) (.cons (.str _) (.cons (.str _) (.cons (.int _) (.cons (.int _) (.cons (.int _) (.cons (.int _) (.cons (.bl _) (.cons (.bl _) (.cons .non (.cons (.tup re1 ne1 .nil) (.cons (.lst re2 ne2 .nil) (.cons (.dct re3 ne3) (.cons (.tup re4 ne4 (.cons (.str _) .nil)) (.cons (.tup re6 ne6 (.cons (.str _) (.cons (.tup re5 ne5 .nil) .nil))) .nil))))))))))))))))
      (.cons (.tup rf1 nf1 (.cons vz .nil)) (.cons (.lst rf2 nf2 (.cons vz .nil)) (.cons (.tup rf3 nf3 (.cons vz (.cons vz .nil))) (.cons (.tup rf5 nf5 (.cons (.str _) (.cons (.tup rf4 nf4 (.cons (.int _) (.cons (.int _) .nil))) .nil))) (.cons (.int _) (.cons (.tup rf6 nf6 (.cons (.int _) (.cons (.int _) .nil))) (.cons (.tup rf8 nf8 (.cons (.str _) (.cons (.tup rf7 nf7 .nil) .nil))) .nil)))))))
    refine ⟨_, rfl, _, rfl, _, rfl, o5, _, rfl, .inl (SqL.of upd_same), a, l, k, _, rfl, (show (0 : Int) < 36 by decide), (show (36 : Int) < 1073741824 by decide), by omega, w19, c19.tb (((Go.refl (T := T) (M := [a, l]) (H := H))).tb ht), fun iz Hz z0 z1 Wz gz tz => ?_⟩
    obtain ⟨vv, dd, ez, mz, hz⟩ := at_dv dz z0 z1
    exact ⟨o5, _, iz, vv, rfl, rfl, SqL.of (gz.lst upd_same no5), ez, q vv dd Hz (hz.go gz) (oddD_near hn mz) (Wz.up (by omega)) ((((Go.refl (T := T) (M := [a, l]) (H := H))).trans c19.of0).trans gz) tz⟩
  | list ls =>
    refine ⟨_, rfl, iteF (iteF ?_)⟩
    refine ⟨_, rfl, _, _, _, rfl, hv, _, rfl, iteF (iteF ?_)⟩
    refine ⟨_, rfl, _, _, _, rfl, hv, _, rfl, iteF (iteF ?_)⟩
    refine ⟨_, rfl, _, _, _, rfl, hv, _, rfl, iteF (iteF ?_)⟩
    have w0 := W
    have c0 := Go.refl (T := T) (M := []) (H := H)
    refine ⟨by show 14 ≤ sizeLine; decide, fun o1 ho1 => ?_⟩
    have go1 := Go.new (T := T) (M := []) (o := .lst (([("" : Str), "number", "Number", "fun", "kind", "a", "A", "a1", "A1", "1A", "A_", "A b", "Abcdefghij", "abcdefghij"]).map V.str)) ho1
    have no1 := up w0 ho1
    have w1 := w0.go go1
    have c1 := c0.trans go1
    refine ⟨_, rfl, _, rfl, by show 0 ≤ sizeLine; omega, fun e1 he1 => ⟨by show 0 ≤ sizeLine; omega, fun e2 he2 => fun e3 he3 => ⟨by show 1 ≤ sizeLine; decide, fun e4 he4 => ⟨by show 0 ≤ sizeLine; omega, fun e5 he5 => ⟨by show 2 ≤ sizeLine; decide, fun e6 he6 => ⟨by show 15 ≤ sizeLine; decide, fun o2 ho2 => ?_⟩⟩⟩⟩⟩⟩
    have ge1 := Go.new (T := T) (M := []) (o := .tup []) he1
    have ne1 := up w1 he1
    have w2 := w1.go ge1
    have c2 := c1.trans ge1
    have ge2 := Go.new (T := T) (M := []) (o := .lst []) he2
    have ne2 := up w2 he2
    have w3 := w2.go ge2
    have c3 := c2.trans ge2
    have ge3 := Go.new (T := T) (M := []) (o := .dK []) he3
    have ne3 := up w3 he3
    have w4 := w3.go ge3
    have c4 := c3.trans ge3
    have ge4 := Go.new (T := T) (M := []) (o := .tup [.str "A"]) he4
    have ne4 := up w4 he4
    have w5 := w4.go ge4
    have c5 := c4.trans ge4
    have ge5 := Go.new (T := T) (M := []) (o := .tup []) he5
    have ne5 := up w5 he5
    have w6 := w5.go ge5
    have c6 := c5.trans ge5
    have ge6 := Go.new (T := T) (M := []) (o := .tup [.str "A", .ref e5]) he6
    have ne6 := up w6 he6
    have w7 := w6.go ge6
    have c7 := c6.trans ge6
    have go2 := Go.new (T := T) (M := []) (o := .lst [.str "Abcdefghijk", .str "abcdefghijk", .str "A\n", .int 0, .int 1, .int (-1), .int 2, .bl true, .bl false, .non, .ref e1, .ref e2, .ref e3, .ref e4, .ref e6]) ho2
    have no2 := up w7 ho2
    have w8 := w7.go go2
    have c8 := c7.trans go2
    have po1 := (((((((ge1.trans ge2).trans ge3).trans ge4).trans ge5).trans ge6).trans go2)).lst upd_same (nn _)
    have pe1 := ((((((ge2.trans ge3).trans ge4).trans ge5).trans ge6).trans go2)).tup upd_same (nn _)
    have pe2 := (((((ge3.trans ge4).trans ge5).trans ge6).trans go2)).lst upd_same (nn _)
    have pe3 := ((((ge4.trans ge5).trans ge6).trans go2)).gr _ _ (upd_same (a := e3) (o := .dK [])) (nn _) (fun _ z => by cases z)
    have pe4 := (((ge5.trans ge6).trans go2)).tup upd_same (nn _)
    have pe5 := ((ge6.trans go2)).tup upd_same (nn _)
    have pe6 := (go2).tup upd_same (nn _)
    refine ⟨o1, o2, (([("" : Str), "number", "Number", "fun", "kind", "a", "A", "a1", "A1", "1A", "A_", "A b", "Abcdefghij", "abcdefghij"]).map V.str), [V.str "Abcdefghijk", .str "abcdefghijk", .str "A\n", .int 0, .int 1, .int (-1), .int 2, .bl true, .bl false, .non, .ref e1, .ref e2, .ref e3, .ref e4, .ref e6], rfl, rfl, po1, upd_same, by show 29 ≤ sizeLine; decide, fun o3 ho3 => ?_⟩
    have go3 := Go.new (T := T) (M := []) (o := .lst ((([("" : Str), "number", "Number", "fun", "kind", "a", "A", "a1", "A1", "1A", "A_", "A b", "Abcdefghij", "abcdefghij"]).map V.str) ++ [V.str "Abcdefghijk", .str "abcdefghijk", .str "A\n", .int 0, .int 1, .int (-1), .int 2, .bl true, .bl false, .non, .ref e1, .ref e2, .ref e3, .ref e4, .ref e6])) ho3
    have no3 := up w8 ho3
    have w9 := w8.go go3
    have c9 := c8.trans go3
    refine ⟨_, rfl, _, rfl, by show 1 ≤ sizeLine; decide, fun f1 hf1 => ⟨_, rfl, by show 1 ≤ sizeLine; decide, fun f2 hf2 => ⟨_, rfl, _, rfl, by show 2 ≤ sizeLine; decide, fun f3 hf3 => ⟨by show 2 ≤ sizeLine; decide, fun f4 hf4 => ⟨by show 2 ≤ sizeLine; decide, fun f5 hf5 => ⟨_, _, rfl, rfl, ⟨by decide, by decide, by decide⟩, by show 2 ≤ sizeLine; decide, fun f6 hf6 => ⟨by show 0 ≤ sizeLine; omega, fun f7 hf7 => ⟨by show 2 ≤ sizeLine; decide, fun f8 hf8 => ⟨by show 7 ≤ sizeLine; decide, fun o4 ho4 => ?_⟩⟩⟩⟩⟩⟩⟩⟩⟩
    have gf1 := Go.new (T := T) (M := []) (o := .tup [v]) hf1
    have nf1 := up w9 hf1
    have w10 := w9.go gf1
    have c10 := c9.trans gf1
    have gf2 := Go.new (T := T) (M := []) (o := .lst [v]) hf2
    have nf2 := up w10 hf2
    have w11 := w10.go gf2
    have c11 := c10.trans gf2
    have gf3 := Go.new (T := T) (M := []) (o := .tup [v, v]) hf3
    have nf3 := up w11 hf3
    have w12 := w11.go gf3
    have c12 := c11.trans gf3
    have gf4 := Go.new (T := T) (M := []) (o := .tup [.int 1, .int 1]) hf4
    have nf4 := up w12 hf4
    have w13 := w12.go gf4
    have c13 := c12.trans gf4
    have gf5 := Go.new (T := T) (M := []) (o := .tup [.str "num", .ref f4]) hf5
    have nf5 := up w13 hf5
    have w14 := w13.go gf5
    have c14 := c13.trans gf5
    have gf6 := Go.new (T := T) (M := []) (o := .tup [.int 0, .int 1]) hf6
    have nf6 := up w14 hf6
    have w15 := w14.go gf6
    have c15 := c14.trans gf6
    have gf7 := Go.new (T := T) (M := []) (o := .tup []) hf7
    have nf7 := up w15 hf7
    have w16 := w15.go gf7
    have c16 := c15.trans gf7
    have gf8 := Go.new (T := T) (M := []) (o := .tup [.str "Fun", .ref f7]) hf8
    have nf8 := up w16 hf8
    have w17 := w16.go gf8
    have c17 := c16.trans gf8
    have go4 := Go.new (T := T) (M := []) (o := .lst [V.ref f1, .ref f2, .ref f3, .ref f5, .int (10 ^ 30), .ref f6, .ref f8]) ho4
    have no4 := up w17 ho4
    have w18 := w17.go go4
    have c18 := c17.trans go4
    have po3 := (((((((((gf1.trans gf2).trans gf3).trans gf4).trans gf5).trans gf6).trans gf7).trans gf8).trans go4)).lst upd_same (nn _)
    have pf1 := ((((((((gf2.trans gf3).trans gf4).trans gf5).trans gf6).trans gf7).trans gf8).trans go4)).tup upd_same (nn _)
    have pf2 := (((((((gf3.trans gf4).trans gf5).trans gf6).trans gf7).trans gf8).trans go4)).lst upd_same (nn _)
    have pf3 := ((((((gf4.trans gf5).trans gf6).trans gf7).trans gf8).trans go4)).tup upd_same (nn _)
    have pf4 := (((((gf5.trans gf6).trans gf7).trans gf8).trans go4)).tup upd_same (nn _)
    have pf5 := ((((gf6.trans gf7).trans gf8).trans go4)).tup upd_same (nn _)
    have pf6 := (((gf7.trans gf8).trans go4)).tup upd_same (nn _)
    have pf7 := ((gf8.trans go4)).tup upd_same (nn _)
    have pf8 := (go4).tup upd_same (nn _)
    refine ⟨o3, o4, ((([("" : Str), "number", "Number", "fun", "kind", "a", "A", "a1", "A1", "1A", "A_", "A b", "Abcdefghij", "abcdefghij"]).map V.str) ++ [V.str "Abcdefghijk", .str "abcdefghijk", .str "A\n", .int 0, .int 1, .int (-1), .int 2, .bl true, .bl false, .non, .ref e1, .ref e2, .ref e3, .ref e4, .ref e6]), [V.ref f1, .ref f2, .ref f3, .ref f5, .int (10 ^ 30), .ref f6, .ref f8], rfl, rfl, po3, upd_same, by show 36 ≤ sizeLine; decide, fun o5 ho5 => ?_⟩
    have go5 := Go.new (T := T) (M := []) (o := .lst (((([("" : Str), "number", "Number", "fun", "kind", "a", "A", "a1", "A1", "1A", "A_", "A b", "Abcdefghij", "abcdefghij"]).map V.str) ++ [V.str "Abcdefghijk", .str "abcdefghijk", .str "A\n", .int 0, .int 1, .int (-1), .int 2, .bl true, .bl false, .non, .ref e1, .ref e2, .ref e3, .ref e4, .ref e6]) ++ [V.ref f1, .ref f2, .ref f3, .ref f5, .int (10 ^ 30), .ref f6, .ref f8])) ho5
    have no5 := up w18 ho5
    have w19 := w18.go go5
    have c19 := c18.trans go5
    have re1 := (((((((((((go3.trans gf1).trans gf2).trans gf3).trans gf4).trans gf5).trans gf6).trans gf7).trans gf8).trans go4).trans go5)).tup pe1 (nn _)
    have re4 := (((((((((((go3.trans gf1).trans gf2).trans gf3).trans gf4).trans gf5).trans gf6).trans gf7).trans gf8).trans go4).trans go5)).tup pe4 (nn _)
    have re5 := (((((((((((go3.trans gf1).trans gf2).trans gf3).trans gf4).trans gf5).trans gf6).trans gf7).trans gf8).trans go4).trans go5)).tup pe5 (nn _)
    have re6 := (((((((((((go3.trans gf1).trans gf2).trans gf3).trans gf4).trans gf5).trans gf6).trans gf7).trans gf8).trans go4).trans go5)).tup pe6 (nn _)
    have re2 := (((((((((((go3.trans gf1).trans gf2).trans gf3).trans gf4).trans gf5).trans gf6).trans gf7).trans gf8).trans go4).trans go5)).lst pe2 (nn _)
    have re3 := (((((((((((go3.trans gf1).trans gf2).trans gf3).trans gf4).trans gf5).trans gf6).trans gf7).trans gf8).trans go4).trans go5)).gr _ _ pe3 (nn _) (fun _ z => by cases z)
    have rf1 := go5.tup pf1 (nn _)
    have rf3 := go5.tup pf3 (nn _)
    have rf4 := go5.tup pf4 (nn _)
    have rf5 := go5.tup pf5 (nn _)
    have rf6 := go5.tup pf6 (nn _)
    have rf7 := go5.tup pf7 (nn _)
    have rf2 := go5.lst pf2 (nn _)
    have rf8 := go5.tup pf8 (nn _)
    have vz := hv.go (((Go.refl (T := T) (M := [a, l]) (H := H))).trans c19.of0)
    have dz : DvAll [a, l] _ _ (oddD _) := DvAll.append (DvAll.append (DvAll.strs _) (.cons (.str _) (.cons (.str _) (.cons (.str _) (.cons (.int _) (.cons (.int _) (.cons (.int _) (.cons (.int _) (.cons (.bl _) (.cons (.bl _) (.cons .non (.cons (.tup re1 ne1 .nil) (.cons (.lst re2 ne2 .nil) (.cons (.dct re3 ne3) (.cons (.tup re4 ne4 (.cons (.str _) .nil)) (.cons (.tup re6 ne6 (.cons (.str _) (.cons (.tup re5 ne5 .nil) .nil))) .nil))))))))))))))))
      (.cons (.tup rf1 nf1 (.cons vz .nil)) (.cons (.lst rf2 nf2 (.cons vz .nil)) (.cons (.tup rf3 nf3 (.cons vz (.cons vz .nil))) (.cons (.tup rf5 nf5 (.cons (.str _) (.cons (.tup rf4 nf4 (.cons (.int _) (.cons (.int _) .nil))) .nil))) (.cons (.int _) (.cons (.tup rf6 nf6 (.cons (.int _) (.cons (.int _) .nil))) (.cons (.tup rf8 nf8 (.cons (.str _) (.cons (.tup rf7 nf7 .nil) .nil))) .nil)))))))
    refine ⟨_, rfl, _, rfl, _, rfl, o5, _, rfl, .inl (SqL.of upd_same), a, l, k, _, rfl, (show (0 : Int) < 36 by decide), (show (36 : Int) < 1073741824 by decide), by omega, w19, c19.tb (((Go.refl (T := T) (M := [a, l]) (H := H))).tb ht), fun iz Hz z0 z1 Wz gz tz => ?_⟩
    obtain ⟨vv, dd, ez, mz, hz⟩ := at_dv dz z0 z1
    exact ⟨o5, _, iz, vv, rfl, rfl, SqL.of (gz.lst upd_same no5), ez, q vv dd Hz (hz.go gz) (oddD_near hn mz) (Wz.up (by omega)) ((((Go.refl (T := T) (M := [a, l]) (H := H))).trans c19.of0).trans gz) tz⟩
  | dict kv =>
    refine ⟨_, rfl, iteF (iteF ?_)⟩
    refine ⟨_, rfl, _, _, _, rfl, hv, _, rfl, iteF (iteF ?_)⟩
    refine ⟨_, rfl, _, _, _, rfl, hv, _, rfl, iteF (iteF ?_)⟩
    refine ⟨_, rfl, _, _, _, rfl, hv, _, rfl, iteF (iteF ?_)⟩
    have w0 := W
    have c0 := Go.refl (T := T) (M := []) (H := H)
    refine ⟨by show 14 ≤ sizeLine; decide, fun o1 ho1 => ?_⟩
    have go1 := Go.new (T := T) (M := []) (o := .lst (([("" : Str), "number", "Number", "fun", "kind", "a", "A", "a1", "A1", "1A", "A_", "A b", "Abcdefghij", "abcdefghij"]).map V.str)) ho1
    have no1 := up w0 ho1
    have w1 := w0.go go1
    have c1 := c0.trans go1
    refine ⟨_, rfl, _, rfl, by show 0 ≤ sizeLine; omega, fun e1 he1 => ⟨by show 0 ≤ sizeLine; omega, fun e2 he2 => fun e3 he3 => ⟨by show 1 ≤ sizeLine; decide, fun e4 he4 => ⟨by show 0 ≤ sizeLine; omega, fun e5 he5 => ⟨by show 2 ≤ sizeLine; decide, fun e6 he6 => ⟨by show 15 ≤ sizeLine; decide, fun o2 ho2 => ?_⟩⟩⟩⟩⟩⟩
    have ge1 := Go.new (T := T) (M := []) (o := .tup []) he1
    have ne1 := up w1 he1
    have w2 := w1.go ge1
    have c2 := c1.trans ge1
    have ge2 := Go.new (T := T) (M := []) (o := .lst []) he2
    have ne2 := up w2 he2
    have w3 := w2.go ge2
    have c3 := c2.trans ge2
    have ge3 := Go.new (T := T) (M := []) (o := .dK []) he3
    have ne3 := up w3 he3
    have w4 := w3.go ge3
    have c4 := c3.trans ge3
    have ge4 := Go.new (T := T) (M := []) (o := .tup [.str "A"]) he4
    have ne4 := up w4 he4
    have w5 := w4.go ge4
    have c5 := c4.trans ge4
    have ge5 := Go.new (T := T) (M := []) (o := .tup []) he5
    have ne5 := up w5 he5
    have w6 := w5.go ge5
    have c6 := c5.trans ge5
    have ge6 := Go.new (T := T) (M := []) (o := .tup [.str "A", .ref e5]) he6
    have ne6 := up w6 he6
    have w7 := w6.go ge6
    have c7 := c6.trans ge6
    have go2 := Go.new (T := T) (M := []) (o := .lst [.str "Abcdefghijk", .str "abcdefghijk", .str "A\n", .int 0, .int 1, .int (-1), .int 2, .bl true, .bl false, .non, .ref e1, .ref e2, .ref e3, .ref e4, .ref e6]) ho2
    have no2 := up w7 ho2
    have w8 := w7.go go2
    have c8 := c7.trans go2
    have po1 := (((((((ge1.trans ge2).trans ge3).trans ge4).trans ge5).trans ge6).trans go2)).lst upd_same (nn _)
    have pe1 := ((((((ge2.trans ge3).trans ge4).trans ge5).trans ge6).trans go2)).tup upd_same (nn _)
    have pe2 := (((((ge3.trans ge4).trans ge5).trans ge6).trans go2)).lst upd_same (nn _)
    have pe3 := ((((ge4.trans ge5).trans ge6).trans go2)).gr _ _ (upd_same (a := e3) (o := .dK [])) (nn _) (fun _ z => by cases z)
    have pe4 := (((ge5.trans ge6).trans go2)).tup upd_same (nn _)
    have pe5 := ((ge6.trans go2)).tup upd_same (nn _)
    have pe6 := (go2).tup upd_same (nn _)
    refine ⟨o1, o2, (([("" : Str), "number", "Number", "fun", "kind", "a", "A", "a1", "A1", "1A", "A_", "A b", "Abcdefghij", "abcdefghij"]).map V.str), [V.str "Abcdefghijk", .str "abcdefghijk", .str "A\n", .int 0, .int 1, .int (-1), .int 2, .bl true, .bl false, .non, .ref e1, .ref e2, .ref e3, .ref e4, .ref e6], rfl, rfl, po1, upd_same, by show 29 ≤ sizeLine; decide, fun o3 ho3 => ?_⟩
    have go3 := Go.new (T := T) (M := []) (o := .lst ((([("" : Str), "number", "Number", "fun", "kind", "a", "A", "a1", "A1", "1A", "A_", "A b", "Abcdefghij", "abcdefghij"]).map V.str) ++ [V.str "Abcdefghijk", .str "abcdefghijk", .str "A\n", .int 0, .int 1, .int (-1), .int 2, .bl true, .bl false, .non, .ref e1, .ref e2, .ref e3, .ref e4, .ref e6])) ho3
    have no3 := up w8 ho3
    have w9 := w8.go go3
    have c9 := c8.trans go3
    refine ⟨_, rfl, _, rfl, by show 1 ≤ sizeLine; decide, fun f1 hf1 => ⟨_, rfl, by show 1 ≤ sizeLine; decide, fun f2 hf2 => ⟨_, rfl, _, rfl, by show 2 ≤ sizeLine; decide, fun f3 hf3 => ⟨by show 2 ≤ sizeLine; decide, fun f4 hf4 => ⟨by show 2 ≤ sizeLine; decide, fun f5 hf5 => ⟨_, _, rfl, rfl, ⟨by decide, by decide, by decide⟩, by show 2 ≤ sizeLine; decide, fun f6 hf6 => ⟨by show 0 ≤ sizeLine; omega, fun f7 hf7 => ⟨by show 2 ≤ sizeLine; decide, fun f8 hf8 => ⟨by show 7 ≤ sizeLine; decide, fun o4 ho4 => ?_⟩⟩⟩⟩⟩⟩⟩⟩⟩
    have gf1 := Go.new (T := T) (M := []) (o := .tup [v]) hf1
    have nf1 := up w9 hf1
    have w10 := w9.go gf1
    have c10 := c9.trans gf1
    have gf2 := Go.new (T := T) (M := []) (o := .lst [v]) hf2
    have nf2 := up w10 hf2
    have w11 := w10.go gf2
    have c11 := c10.trans gf2
    have gf3 := Go.new (T := T) (M := []) (o := .tup [v, v]) hf3
    have nf3 := up w11 hf3
    have w12 := w11.go gf3
    have c12 := c11.trans gf3
    have gf4 := Go.new (T := T) (M := []) (o := .tup [.int 1, .int 1]) hf4
    have nf4 := up w12 hf4
    have w13 := w12.go gf4
    have c13 := c12.trans gf4
    have gf5 := Go.new (T := T) (M := []) (o := .tup [.str "num", .ref f4]) hf5
    have nf5 := up w13 hf5
    have w14 := w13.go gf5
    have c14 := c13.trans gf5
    have gf6 := Go.new (T := T) (M := []) (o := .tup [.int 0, .int 1]) hf6
    have nf6 := up w14 hf6
    have w15 := w14.go gf6
    have c15 := c14.trans gf6
    have gf7 := Go.new (T := T) (M := []) (o := .tup []) hf7
    have nf7 := up w15 hf7
    have w16 := w15.go gf7
    have c16 := c15.trans gf7
    have gf8 := Go.new (T := T) (M := []) (o := .tup [.str "Fun", .ref f7]) hf8
    have nf8 := up w16 hf8
    have w17 := w16.go gf8
    have c17 := c16.trans gf8
    have go4 := Go.new (T := T) (M := []) (o := .lst [V.ref f1, .ref f2, .ref f3, .ref f5, .int (10 ^ 30), .ref f6, .ref f8]) ho4
    have no4 := up w17 ho4
    have w18 := w17.go go4
    have c18 := c17.trans go4
    have po3 := (((((((((gf1.trans gf2).trans gf3).trans gf4).trans gf5).trans gf6).trans gf7).trans gf8).trans go4)).lst upd_same (nn _)
    have pf1 := ((((((((gf2.trans gf3).trans gf4).trans gf5).trans gf6).trans gf7).trans gf8).trans go4)).tup upd_same (nn _)
    have pf2 := (((((((gf3.trans gf4).trans gf5).trans gf6).trans gf7).trans gf8).trans go4)).lst upd_same (nn _)
    have pf3 := ((((((gf4.trans gf5).trans gf6).trans gf7).trans gf8).trans go4)).tup upd_same (nn _)
    have pf4 := (((((gf5.trans gf6).trans gf7).trans gf8).trans go4)).tup upd_same (nn _)
    have pf5 := ((((gf6.trans gf7).trans gf8).trans go4)).tup upd_same (nn _)
    have pf6 := (((gf7.trans gf8).trans go4)).tup upd_same (nn _)
    have pf7 := ((gf8.trans go4)).tup upd_same (nn _)
    have pf8 := (go4).tup upd_same (nn _)
    refine ⟨o3, o4, ((([("" : Str), "number", "Number", "fun", "kind", "a", "A", "a1", "A1", "1A", "A_", "A b", "Abcdefghij", "abcdefghij"]).map V.str) ++ [V.str "Abcdefghijk", .str "abcdefghijk", .str "A\n", .int 0, .int 1, .int (-1), .int 2, .bl true, .bl false, .non, .ref e1, .ref e2, .ref e3, .ref e4, .ref e6]), [V.ref f1, .ref f2, .ref f3, .ref f5, .int (10 ^ 30), .ref f6, .ref f8], rfl, rfl, po3, upd_same, by show 36 ≤ sizeLine; decide, fun o5 ho5 => ?_⟩
    have go5 := Go.new (T := T) (M := []) (o := .lst (((([("" : Str), "number", "Number", "fun", "kind", "a", "A", "a1", "A1", "1A", "A_", "A b", "Abcdefghij", "abcdefghij"]).map V.str) ++ [V.str "Abcdefghijk", .str "abcdefghijk", .str "A\n", .int 0, .int 1, .int (-1), .int 2, .bl true, .bl false, .non, .ref e1, .ref e2, .ref e3, .ref e4, .ref e6]) ++ [V.ref f1, .ref f2, .ref f3, .ref f5, .int (10 ^ 30), .ref f6, .ref f8])) ho5
    have no5 := up w18 ho5
    have w19 := w18.go go5
    have c19 := c18.trans go5
    have re1 := (((((((((((go3.trans gf1).trans gf2).trans gf3).trans gf4).trans gf5).trans gf6).trans gf7).trans gf8).trans go4).trans go5)).tup pe1 (nn _)
    have re4 := (((((((((((go3.trans gf1).trans gf2).trans gf3).trans gf4).trans gf5).trans gf6).trans gf7).trans gf8).trans go4).trans go5)).tup pe4 (nn _)
    have re5 := (((((((((((go3.trans gf1).trans gf2).trans gf3).trans gf4).trans gf5).trans gf6).trans gf7).trans gf8).trans go4).trans go5)).tup pe5 (nn _)
    have re6 := (((((((((((go3.trans gf1).trans gf2).trans gf3).trans gf4).trans gf5).trans gf6).trans gf7).trans gf8).trans go4).trans go5)).tup pe6 (nn _)
    have re2 := (((((((((((go3.trans gf1).trans gf2).trans gf3).trans gf4).trans gf5).trans gf6).trans gf7).trans gf8).trans go4).trans go5)).lst pe2 (nn _)
    have re3 := (((((((((((go3.trans gf1).trans gf2).trans gf3).trans gf4).trans gf5).trans gf6).trans gf7).trans gf8).trans go4).trans go5)).gr _ _ pe3 (nn _) (fun _ z => by cases z)
    have rf1 := go5.tup pf1 (nn _)
    have rf3 := go5.tup pf3 (nn _)
    have rf4 := go5.tup pf4 (nn _)
    have rf5 := go5.tup pf5 (nn _)
    have rf6 := go5.tup pf6 (nn _)
    have rf7 := go5.tup pf7 (nn _)
    have rf2 := go5.lst pf2 (nn _)
    have rf8 := go5.tup pf8 (nn _)
    have vz := hv.go (((Go.refl (T := T) (M := [a, l]) (H := H))).trans c19.of0)
    have dz : DvAll [a, l] _ _ (oddD _) := DvAll.append (DvAll.append (DvAll.strs _) (.cons (.str _) (.cons (.str _) (.cons (.str _) (.cons (.int _) (.cons (.int _) (.cons (.int _) (.cons (.int _) (.cons (.bl _) (.cons (.bl _) (.cons .non (.cons (.tup re1 ne1 .nil) (.cons (.lst re2 ne2 .nil) (.cons (.dct re3 ne3) (.cons (.tup re4 ne4 (.cons (.str _) .nil)) (.cons (.tup re6 ne6 (.cons (.str _) (.cons (.tup re5 ne5 .nil) .nil))) .nil))))))))))))))))
      (.cons (.tup rf1 nf1 (.cons vz .nil)) (.cons (.lst rf2 nf2 (.cons vz .nil)) (.cons (.tup rf3 nf3 (.cons vz (.cons vz .nil))) (.cons (.tup rf5 nf5 (.cons (.str _) (.cons (.tup rf4 nf4 (.cons (.int _) (.cons (.int _) .nil))) .nil))) (.cons (.int _) (.cons (.tup rf6 nf6 (.cons (.int _) (.cons (.int _) .nil))) (.cons (.tup rf8 nf8 (.cons (.str _) (.cons (.tup rf7 nf7 .nil) .nil))) .nil)))))))
    refine ⟨_, rfl, _, rfl, _, rfl, o5, _, rfl, .inl (SqL.of upd_same), a, l, k, _, rfl, (show (0 : Int) < 36 by decide), (show (36 : Int) < 1073741824 by decide), by omega, w19, c19.tb (((Go.refl (T := T) (M := [a, l]) (H := H))).tb ht), fun iz Hz z0 z1 Wz gz tz => ?_⟩
    obtain ⟨vv, dd, ez, mz, hz⟩ := at_dv dz z0 z1
    exact ⟨o5, _, iz, vv, rfl, rfl, SqL.of (gz.lst upd_same no5), ez, q vv dd Hz (hz.go gz) (oddD_near hn mz) (Wz.up (by omega)) ((((Go.refl (T := T) (M := [a, l]) (H := H))).trans c19.of0).trans gz) tz⟩
  | int z =>
    refine ⟨_, rfl, iteF (iteF ?_)⟩
    refine ⟨_, rfl, _, _, _, rfl, hv, _, rfl, iteF (iteF ?_)⟩
    refine ⟨_, rfl, _, _, _, rfl, hv, _, rfl, iteF (iteF ?_)⟩
    refine ⟨_, rfl, _, _, _, rfl, hv, _, rfl, iteT ?_⟩
    refine ⟨_, rfl, a, l, k, 2, rfl, by decide, by decide, by omega, W, ht, fun i1 H1 j0 j1 W1 g1 t1 => ⟨_, _, rfl, rfl, _, rfl, ?_⟩⟩
    by_cases c1 : (0 : Int) < i1
    · refine if_true_of (decide_eq_true c1) ?_
      cases hv
      refine ⟨_, rfl, z, 1, (.inl rfl), rfl, trivial, _, rfl, z, 1, (.inl rfl), rfl, trivial, _, rfl, z, (.inl rfl), _, rfl, _, _, rfl, rfl, ⟨by decide, by decide, by decide⟩, z, _, (.inl rfl), rfl, .inr ⟨by decide, by decide⟩, _, rfl, ?_⟩
      skip
      have hzn : z.natAbs ≤ n := by simpa only [nice, decide_eq_true_eq] using hn
      have hz20 : z.natAbs.log2 < 1920 := log_int hl (by omega)
      refine .inl ⟨z, rfl, hz20, _, rfl, _, rfl, Nat.le_trans (int_text_len_1921 hz20) (by rw [sizeLine_eq]; decide), by show 5 ≤ sizeLine; decide, fun o ho => ?_⟩
      have gO := Go.new (T := T) (M := []) (o := .lst [.int (z + 1), .int (z - 1), .int (-z), .int (z * (10 : Int) ^ (9 : Int).toNat), .str (cutS (Str.ofString (toString z)) none (some 40))]) ho
      have DZ : DvAll [a, l] (upd H1 o (.lst [.int (z + 1), .int (z - 1), .int (-z), .int (z * (10 : Int) ^ (9 : Int).toNat), .str (cutS (Str.ofString (toString z)) none (some 40))])) _ [PyData.int (z + 1), .int (z - 1), .int (-z), .int (z * (10 : Int) ^ (9 : Int).toNat), .str (cutS (Str.ofString (toString z)) none (some 40))] := .cons (.int _) (.cons (.int _) (.cons (.int _) (.cons (.int _) (.cons (.str _) .nil))))
      refine ⟨_, rfl, a, l, k + 1, 5, rfl, by decide, by decide, by omega, W1.go gO, gO.tb t1, fun iz Hz z0 z1 Wz gz tz => ?_⟩
      obtain ⟨vv, dd, ez, mz, hzz⟩ := at_dv DZ z0 z1
      exact ⟨o, _, iz, vv, rfl, rfl, SqL.of (gz.lst upd_same (up W1 ho)), ez, q vv dd Hz (hzz.go gz) (near_nums hl (by omega) (asc_int z) mz) (Wz.up (by omega)) ((g1.trans gO.of0).trans gz) tz⟩
    · refine if_false_of (decide_eq_false c1) ?_
      have w0 := W1
      have c0 := Go.refl (T := T) (M := []) (H := H1)
      refine ⟨by show 14 ≤ sizeLine; decide, fun o1 ho1 => ?_⟩
      have go1 := Go.new (T := T) (M := []) (o := .lst (([("" : Str), "number", "Number", "fun", "kind", "a", "A", "a1", "A1", "1A", "A_", "A b", "Abcdefghij", "abcdefghij"]).map V.str)) ho1
      have no1 := up w0 ho1
      have w1 := w0.go go1
      have c1 := c0.trans go1
      refine ⟨_, rfl, _, rfl, by show 0 ≤ sizeLine; omega, fun e1 he1 => ⟨by show 0 ≤ sizeLine; omega, fun e2 he2 => fun e3 he3 => ⟨by show 1 ≤ sizeLine; decide, fun e4 he4 => ⟨by show 0 ≤ sizeLine; omega, fun e5 he5 => ⟨by show 2 ≤ sizeLine; decide, fun e6 he6 => ⟨by show 15 ≤ sizeLine; decide, fun o2 ho2 => ?_⟩⟩⟩⟩⟩⟩
      have ge1 := Go.new (T := T) (M := []) (o := .tup []) he1
      have ne1 := up w1 he1
      have w2 := w1.go ge1
      have c2 := c1.trans ge1
      have ge2 := Go.new (T := T) (M := []) (o := .lst []) he2
      have ne2 := up w2 he2
      have w3 := w2.go ge2
      have c3 := c2.trans ge2
      have ge3 := Go.new (T := T) (M := []) (o := .dK []) he3
      have ne3 := up w3 he3
      have w4 := w3.go ge3
      have c4 := c3.trans ge3
      have ge4 := Go.new (T := T) (M := []) (o := .tup [.str "A"]) he4
      have ne4 := up w4 he4
      have w5 := w4.go ge4
      have c5 := c4.trans ge4
      have ge5 := Go.new (T := T) (M := []) (o := .tup []) he5
      have ne5 := up w5 he5
      have w6 := w5.go ge5
      have c6 := c5.trans ge5
      have ge6 := Go.new (T := T) (M := []) (o := .tup [.str "A", .ref e5]) he6
      have ne6 := up w6 he6
      have w7 := w6.go ge6
      have c7 := c6.trans ge6
      have go2 := Go.new (T := T) (M := []) (o := .lst [.str "Abcdefghijk", .str "abcdefghijk", .str "A\n", .int 0, .int 1, .int (-1), .int 2, .bl true, .bl false, .non, .ref e1, .ref e2, .ref e3, .ref e4, .ref e6]) ho2
      have no2 := up w7 ho2
      have w8 := w7.go go2
      have c8 := c7.trans go2
      have po1 := (((((((ge1.trans ge2).trans ge3).trans ge4).trans ge5).trans ge6).trans go2)).lst upd_same (nn _)
      have pe1 := ((((((ge2.trans ge3).trans ge4).trans ge5).trans ge6).trans go2)).tup upd_same (nn _)
      have pe2 := (((((ge3.trans ge4).trans ge5).trans ge6).trans go2)).lst upd_same (nn _)
      have pe3 := ((((ge4.trans ge5).trans ge6).trans go2)).gr _ _ (upd_same (a := e3) (o := .dK [])) (nn _) (fun _ z => by cases z)
      have pe4 := (((ge5.trans ge6).trans go2)).tup upd_same (nn _)
      have pe5 := ((ge6.trans go2)).tup upd_same (nn _)
      have pe6 := (go2).tup upd_same (nn _)
      refine ⟨o1, o2, (([("" : Str), "number", "Number", "fun", "kind", "a", "A", "a1", "A1", "1A", "A_", "A b", "Abcdefghij", "abcdefghij"]).map V.str), [V.str "Abcdefghijk", .str "abcdefghijk", .str "A\n", .int 0, .int 1, .int (-1), .int 2, .bl true, .bl false, .non, .ref e1, .ref e2, .ref e3, .ref e4, .ref e6], rfl, rfl, po1, upd_same, by show 29 ≤ sizeLine; decide, fun o3 ho3 => ?_⟩
      have go3 := Go.new (T := T) (M := []) (o := .lst ((([("" : Str), "number", "Number", "fun", "kind", "a", "A", "a1", "A1", "1A", "A_", "A b", "Abcdefghij", "abcdefghij"]).map V.str) ++ [V.str "Abcdefghijk", .str "abcdefghijk", .str "A\n", .int 0, .int 1, .int (-1), .int 2, .bl true, .bl false, .non, .ref e1, .ref e2, .ref e3, .ref e4, .ref e6])) ho3
      have no3 := up w8 ho3
      have w9 := w8.go go3
      have c9 := c8.trans go3
      refine ⟨_, rfl, _, rfl, by show 1 ≤ sizeLine; decide, fun f1 hf1 => ⟨_, rfl, by show 1 ≤ sizeLine; decide, fun f2 hf2 => ⟨_, rfl, _, rfl, by show 2 ≤ sizeLine; decide, fun f3 hf3 => ⟨by show 2 ≤ sizeLine; decide, fun f4 hf4 => ⟨by show 2 ≤ sizeLine; decide, fun f5 hf5 => ⟨_, _, rfl, rfl, ⟨by decide, by decide, by decide⟩, by show 2 ≤ sizeLine; decide, fun f6 hf6 => ⟨by show 0 ≤ sizeLine; omega, fun f7 hf7 => ⟨by show 2 ≤ sizeLine; decide, fun f8 hf8 => ⟨by show 7 ≤ sizeLine; decide, fun o4 ho4 => ?_⟩⟩⟩⟩⟩⟩⟩⟩⟩
      have gf1 := Go.new (T := T) (M := []) (o := .tup [v]) hf1
      have nf1 := up w9 hf1
      have w10 := w9.go gf1
      have c10 := c9.trans gf1
      have gf2 := Go.new (T := T) (M := []) (o := .lst [v]) hf2
      have nf2 := up w10 hf2
      have w11 := w10.go gf2
      have c11 := c10.trans gf2
      have gf3 := Go.new (T := T) (M := []) (o := .tup [v, v]) hf3
      have nf3 := up w11 hf3
      have w12 := w11.go gf3
      have c12 := c11.trans gf3
      have gf4 := Go.new (T := T) (M := []) (o := .tup [.int 1, .int 1]) hf4
      have nf4 := up w12 hf4
      have w13 := w12.go gf4
      have c13 := c12.trans gf4
      have gf5 := Go.new (T := T) (M := []) (o := .tup [.str "num", .ref f4]) hf5
      have nf5 := up w13 hf5
      have w14 := w13.go gf5
      have c14 := c13.trans gf5
      have gf6 := Go.new (T := T) (M := []) (o := .tup [.int 0, .int 1]) hf6
      have nf6 := up w14 hf6
      have w15 := w14.go gf6
      have c15 := c14.trans gf6
      have gf7 := Go.new (T := T) (M := []) (o := .tup []) hf7
      have nf7 := up w15 hf7
      have w16 := w15.go gf7
      have c16 := c15.trans gf7
      have gf8 := Go.new (T := T) (M := []) (o := .tup [.str "Fun", .ref f7]) hf8
      have nf8 := up w16 hf8
      have w17 := w16.go gf8
      have c17 := c16.trans gf8
      have go4 := Go.new (T := T) (M := []) (o := .lst [V.ref f1, .ref f2, .ref f3, .ref f5, .int (10 ^ 30), .ref f6, .ref f8]) ho4
      have no4 := up w17 ho4
      have w18 := w17.go go4
      have c18 := c17.trans go4
      have po3 := (((((((((gf1.trans gf2).trans gf3).trans gf4).trans gf5).trans gf6).trans gf7).trans gf8).trans go4)).lst upd_same (nn _)
      have pf1 := ((((((((gf2.trans gf3).trans gf4).trans gf5).trans gf6).trans gf7).trans gf8).trans go4)).tup upd_same (nn _)
      have pf2 := (((((((gf3.trans gf4).trans gf5).trans gf6).trans gf7).trans gf8).trans go4)).lst upd_same (nn _)
      have pf3 := ((((((gf4.trans gf5).trans gf6).trans gf7).trans gf8).trans go4)).tup upd_same (nn _)
      have pf4 := (((((gf5.trans gf6).trans gf7).trans gf8).trans go4)).tup upd_same (nn _)
      have pf5 := ((((gf6.trans gf7).trans gf8).trans go4)).tup upd_same (nn _)
      have pf6 := (((gf7.trans gf8).trans go4)).tup upd_same (nn _)
      have pf7 := ((gf8.trans go4)).tup upd_same (nn _)
      have pf8 := (go4).tup upd_same (nn _)
      refine ⟨o3, o4, ((([("" : Str), "number", "Number", "fun", "kind", "a", "A", "a1", "A1", "1A", "A_", "A b", "Abcdefghij", "abcdefghij"]).map V.str) ++ [V.str "Abcdefghijk", .str "abcdefghijk", .str "A\n", .int 0, .int 1, .int (-1), .int 2, .bl true, .bl false, .non, .ref e1, .ref e2, .ref e3, .ref e4, .ref e6]), [V.ref f1, .ref f2, .ref f3, .ref f5, .int (10 ^ 30), .ref f6, .ref f8], rfl, rfl, po3, upd_same, by show 36 ≤ sizeLine; decide, fun o5 ho5 => ?_⟩
      have go5 := Go.new (T := T) (M := []) (o := .lst (((([("" : Str), "number", "Number", "fun", "kind", "a", "A", "a1", "A1", "1A", "A_", "A b", "Abcdefghij", "abcdefghij"]).map V.str) ++ [V.str "Abcdefghijk", .str "abcdefghijk", .str "A\n", .int 0, .int 1, .int (-1), .int 2, .bl true, .bl false, .non, .ref e1, .ref e2, .ref e3, .ref e4, .ref e6]) ++ [V.ref f1, .ref f2, .ref f3, .ref f5, .int (10 ^ 30), .ref f6, .ref f8])) ho5
      have no5 := up w18 ho5
      have w19 := w18.go go5
      have c19 := c18.trans go5
      have re1 := (((((((((((go3.trans gf1).trans gf2).trans gf3).trans gf4).trans gf5).trans gf6).trans gf7).trans gf8).trans go4).trans go5)).tup pe1 (nn _)
      have re4 := (((((((((((go3.trans gf1).trans gf2).trans gf3).trans gf4).trans gf5).trans gf6).trans gf7).trans gf8).trans go4).trans go5)).tup pe4 (nn _)
      have re5 := (((((((((((go3.trans gf1).trans gf2).trans gf3).trans gf4).trans gf5).trans gf6).trans gf7).trans gf8).trans go4).trans go5)).tup pe5 (nn _)
      have re6 := (((((((((((go3.trans gf1).trans gf2).trans gf3).trans gf4).trans gf5).trans gf6).trans gf7).trans gf8).trans go4).trans go5)).tup pe6 (nn _)
      have re2 := (((((((((((go3.trans gf1).trans gf2).trans gf3).trans gf4).trans gf5).trans gf6).trans gf7).trans gf8).trans go4).trans go5)).lst pe2 (nn _)
      have re3 := (((((((((((go3.trans gf1).trans gf2).trans gf3).trans gf4).trans gf5).trans gf6).trans gf7).trans gf8).trans go4).trans go5)).gr _ _ pe3 (nn _) (fun _ z => by cases z)
      have rf1 := go5.tup pf1 (nn _)
      have rf3 := go5.tup pf3 (nn _)
      have rf4 := go5.tup pf4 (nn _)
      have rf5 := go5.tup pf5 (nn _)
      have rf6 := go5.tup pf6 (nn _)
      have rf7 := go5.tup pf7 (nn _)
      have rf2 := go5.lst pf2 (nn _)
      have rf8 := go5.tup pf8 (nn _)
      have vz := hv.go ((g1).trans c19.of0)
      have dz : DvAll [a, l] _ _ (oddD _) := DvAll.append (DvAll.append (DvAll.strs _) (.cons (.str _) (.cons (.str _) (.cons (.str _) (.cons (.int _) (.cons (.int _) (.cons (.int _) (.cons (.int _) (.cons (.bl _) (.cons (.bl _) (.cons .non (.cons (.tup re1 ne1 .nil) (.cons (.lst re2 ne2 .nil) (.cons (.dct re3 ne3) (.cons (.tup re4 ne4 (.cons (.str _) .nil)) (.cons (.tup re6 ne6 (.cons (.str _) (.cons (.tup re5 ne5 .nil) .nil))) .nil))))))))))))))))
        (.cons (.tup rf1 nf1 (.cons vz .nil)) (.cons (.lst rf2 nf2 (.cons vz .nil)) (.cons (.tup rf3 nf3 (.cons vz (.cons vz .nil))) (.cons (.tup rf5 nf5 (.cons (.str _) (.cons (.tup rf4 nf4 (.cons (.int _) (.cons (.int _) .nil))) .nil))) (.cons (.int _) (.cons (.tup rf6 nf6 (.cons (.int _) (.cons (.int _) .nil))) (.cons (.tup rf8 nf8 (.cons (.str _) (.cons (.tup rf7 nf7 .nil) .nil))) .nil)))))))
      refine ⟨_, rfl, _, rfl, _, rfl, o5, _, rfl, .inl (SqL.of upd_same), a, l, (k + 1), _, rfl, (show (0 : Int) < 36 by decide), (show (36 : Int) < 1073741824 by decide), by omega, w19, c19.tb ((g1).tb ht), fun iz Hz z0 z1 Wz gz tz => ?_⟩
      obtain ⟨vv, dd, ez, mz, hz⟩ := at_dv dz z0 z1
      exact ⟨o5, _, iz, vv, rfl, rfl, SqL.of (gz.lst upd_same no5), ez, q vv dd Hz (hz.go gz) (oddD_near hn mz) (Wz.up (by omega)) (((g1).trans c19.of0).trans gz) tz⟩
  | bool z =>
    refine ⟨_, rfl, iteF (iteF ?_)⟩
    refine ⟨_, rfl, _, _, _, rfl, hv, _, rfl, iteF (iteF ?_)⟩
    refine ⟨_, rfl, _, _, _, rfl, hv, _, rfl, iteF (iteF ?_)⟩
    refine ⟨_, rfl, _, _, _, rfl, hv, _, rfl, iteT ?_⟩
    refine ⟨_, rfl, a, l, k, 2, rfl, by decide, by decide, by omega, W, ht, fun i1 H1 j0 j1 W1 g1 t1 => ⟨_, _, rfl, rfl, _, rfl, ?_⟩⟩
    by_cases c1 : (0 : Int) < i1
    · refine if_true_of (decide_eq_true c1) ?_
      cases hv
      refine ⟨_, rfl, (if z = true then 1 else 0), 1, (.inr ⟨z, rfl, rfl⟩), rfl, trivial, _, rfl, (if z = true then 1 else 0), 1, (.inr ⟨z, rfl, rfl⟩), rfl, trivial, _, rfl, (if z = true then 1 else 0), (.inr ⟨z, rfl, rfl⟩), _, rfl, _, _, rfl, rfl, ⟨by decide, by decide, by decide⟩, (if z = true then 1 else 0), _, (.inr ⟨z, rfl, rfl⟩), rfl, .inr ⟨by decide, by decide⟩, _, rfl, ?_⟩
      skip
      refine .inr ⟨z, rfl, _, rfl, _, rfl, by cases z <;> decide, by show 5 ≤ sizeLine; decide, fun o ho => ?_⟩
      have gO := Go.new (T := T) (M := []) (o := .lst [.int ((if z = true then 1 else 0) + 1), .int ((if z = true then 1 else 0) - 1), .int (-(if z = true then 1 else 0)), .int ((if z = true then 1 else 0) * (10 : Int) ^ (9 : Int).toNat), .str (cutS (if z = true then "True" else "False") none (some 40))]) ho
      have DZ : DvAll [a, l] (upd H1 o (.lst [.int ((if z = true then 1 else 0) + 1), .int ((if z = true then 1 else 0) - 1), .int (-(if z = true then 1 else 0)), .int ((if z = true then 1 else 0) * (10 : Int) ^ (9 : Int).toNat), .str (cutS (if z = true then "True" else "False") none (some 40))])) _ [PyData.int ((if z = true then 1 else 0) + 1), .int ((if z = true then 1 else 0) - 1), .int (-(if z = true then 1 else 0)), .int ((if z = true then 1 else 0) * (10 : Int) ^ (9 : Int).toNat), .str (cutS (if z = true then "True" else "False") none (some 40))] := .cons (.int _) (.cons (.int _) (.cons (.int _) (.cons (.int _) (.cons (.str _) .nil))))
      refine ⟨_, rfl, a, l, k + 1, 5, rfl, by decide, by decide, by omega, W1.go gO, gO.tb t1, fun iz Hz z0 z1 Wz gz tz => ?_⟩
      obtain ⟨vv, dd, ez, mz, hzz⟩ := at_dv DZ z0 z1
      exact ⟨o, _, iz, vv, rfl, rfl, SqL.of (gz.lst upd_same (up W1 ho)), ez, q vv dd Hz (hzz.go gz) (near_nums hl (by cases z <;> simp) (by cases z <;> decide +kernel) mz) (Wz.up (by omega)) ((g1.trans gO.of0).trans gz) tz⟩
    · refine if_false_of (decide_eq_false c1) ?_
      have w0 := W1
      have c0 := Go.refl (T := T) (M := []) (H := H1)
      refine ⟨by show 14 ≤ sizeLine; decide, fun o1 ho1 => ?_⟩
      have go1 := Go.new (T := T) (M := []) (o := .lst (([("" : Str), "number", "Number", "fun", "kind", "a", "A", "a1", "A1", "1A", "A_", "A b", "Abcdefghij", "abcdefghij"]).map V.str)) ho1
      have no1 := up w0 ho1
      have w1 := w0.go go1
      have c1 := c0.trans go1
      refine ⟨_, rfl, _, rfl, by show 0 ≤ sizeLine; omega, fun e1 he1 => ⟨by show 0 ≤ sizeLine; omega, fun e2 he2 => fun e3 he3 => ⟨by show 1 ≤ sizeLine; decide, fun e4 he4 => ⟨by show 0 ≤ sizeLine; omega, fun e5 he5 => ⟨by show 2 ≤ sizeLine; decide, fun e6 he6 => ⟨by show 15 ≤ sizeLine; decide, fun o2 ho2 => ?_⟩⟩⟩⟩⟩⟩
      have ge1 := Go.new (T := T) (M := []) (o := .tup []) he1
      have ne1 := up w1 he1
      have w2 := w1.go ge1
      have c2 := c1.trans ge1
      have ge2 := Go.new (T := T) (M := []) (o := .lst []) he2
      have ne2 := up w2 he2
      have w3 := w2.go ge2
      have c3 := c2.trans ge2
      have ge3 := Go.new (T := T) (M := []) (o := .dK []) he3
      have ne3 := up w3 he3
      have w4 := w3.go ge3
      have c4 := c3.trans ge3
      have ge4 := Go.new (T := T) (M := []) (o := .tup [.str "A"]) he4
      have ne4 := up w4 he4
      have w5 := w4.go ge4
      have c5 := c4.trans ge4
      have ge5 := Go.new (T := T) (M := []) (o := .tup []) he5
      have ne5 := up w5 he5
      have w6 := w5.go ge5
      have c6 := c5.trans ge5
      have ge6 := Go.new (T := T) (M := []) (o := .tup [.str "A", .ref e5]) he6
      have ne6 := up w6 he6
      have w7 := w6.go ge6
      have c7 := c6.trans ge6
      have go2 := Go.new (T := T) (M := []) (o := .lst [.str "Abcdefghijk", .str "abcdefghijk", .str "A\n", .int 0, .int 1, .int (-1), .int 2, .bl true, .bl false, .non, .ref e1, .ref e2, .ref e3, .ref e4, .ref e6]) ho2
      have no2 := up w7 ho2
      have w8 := w7.go go2
      have c8 := c7.trans go2
      have po1 := (((((((ge1.trans ge2).trans ge3).trans ge4).trans ge5).trans ge6).trans go2)).lst upd_same (nn _)
      have pe1 := ((((((ge2.trans ge3).trans ge4).trans ge5).trans ge6).trans go2)).tup upd_same (nn _)
      have pe2 := (((((ge3.trans ge4).trans ge5).trans ge6).trans go2)).lst upd_same (nn _)
      have pe3 := ((((ge4.trans ge5).trans ge6).trans go2)).gr _ _ (upd_same (a := e3) (o := .dK [])) (nn _) (fun _ z => by cases z)
      have pe4 := (((ge5.trans ge6).trans go2)).tup upd_same (nn _)
      have pe5 := ((ge6.trans go2)).tup upd_same (nn _)
      have pe6 := (go2).tup upd_same (nn _)
      refine ⟨o1, o2, (([("" : Str), "number", "Number", "fun", "kind", "a", "A", "a1", "A1", "1A", "A_", "A b", "Abcdefghij", "abcdefghij"]).map V.str), [V.str "Abcdefghijk", .str "abcdefghijk", .str "A\n", .int 0, .int 1, .int (-1), .int 2, .bl true, .bl false, .non, .ref e1, .ref e2, .ref e3, .ref e4, .ref e6], rfl, rfl, po1, upd_same, by show 29 ≤ sizeLine; decide, fun o3 ho3 => ?_⟩
      have go3 := Go.new (T := T) (M := []) (o := .lst ((([("" : Str), "number", "Number", "fun", "kind", "a", "A", "a1", "A1", "1A", "A_", "A b", "Abcdefghij", "abcdefghij"]).map V.str) ++ [V.str "Abcdefghijk", .str "abcdefghijk", .str "A\n", .int 0, .int 1, .int (-1), .int 2, .bl true, .bl false, .non, .ref e1, .ref e2, .ref e3, .ref e4, .ref e6])) ho3
      have no3 := up w8 ho3
      have w9 := w8.go go3
      have c9 := c8.trans go3
      refine ⟨_, rfl, _, rfl, by show 1 ≤ sizeLine; decide, fun f1 hf1 => ⟨_, rfl, by show 1 ≤ sizeLine; decide, fun f2 hf2 => ⟨_, rfl, _, rfl, by show 2 ≤ sizeLine; decide, fun f3 hf3 => ⟨by show 2 ≤ sizeLine; decide, fun f4 hf4 => ⟨by show 2 ≤ sizeLine; decide, fun f5 hf5 => ⟨_, _, rfl, rfl, ⟨by decide, by decide, by decide⟩, by show 2 ≤ sizeLine; decide, fun f6 hf6 => ⟨by show 0 ≤ sizeLine; omega, fun f7 hf7 => ⟨by show 2 ≤ sizeLine; decide, fun f8 hf8 => ⟨by show 7 ≤ sizeLine; decide, fun o4 ho4 => ?_⟩⟩⟩⟩⟩⟩⟩⟩⟩
      have gf1 := Go.new (T := T) (M := []) (o := .tup [v]) hf1
      have nf1 := up w9 hf1
      have w10 := w9.go gf1
      have c10 := c9.trans gf1
      have gf2 := Go.new (T := T) (M := []) (o := .lst [v]) hf2
      have nf2 := up w10 hf2
      have w11 := w10.go gf2
      have c11 := c10.trans gf2
      have gf3 := Go.new (T := T) (M := []) (o := .tup [v, v]) hf3
      have nf3 := up w11 hf3
      have w12 := w11.go gf3
      have c12 := c11.trans gf3
      have gf4 := Go.new (T := T) (M := []) (o := .tup [.int 1, .int 1]) hf4
      have nf4 := up w12 hf4
      have w13 := w12.go gf4
      have c13 := c12.trans gf4
      have gf5 := Go.new (T := T) (M := []) (o := .tup [.str "num", .ref f4]) hf5
      have nf5 := up w13 hf5
      have w14 := w13.go gf5
      have c14 := c13.trans gf5
      have gf6 := Go.new (T := T) (M := []) (o := .tup [.int 0, .int 1]) hf6
      have nf6 := up w14 hf6
      have w15 := w14.go gf6
      have c15 := c14.trans gf6
      have gf7 := Go.new (T := T) (M := []) (o := .tup []) hf7
      have nf7 := up w15 hf7
      have w16 := w15.go gf7
      have c16 := c15.trans gf7
      have gf8 := Go.new (T := T) (M := []) (o := .tup [.str "Fun", .ref f7]) hf8
      have nf8 := up w16 hf8
      have w17 := w16.go gf8
      have c17 := c16.trans gf8
      have go4 := Go.new (T := T) (M := []) (o := .lst [V.ref f1, .ref f2, .ref f3, .ref f5, .int (10 ^ 30), .ref f6, .ref f8]) ho4
      have no4 := up w17 ho4
      have w18 := w17.go go4
      have c18 := c17.trans go4
      have po3 := (((((((((gf1.trans gf2).trans gf3).trans gf4).trans gf5).trans gf6).trans gf7).trans gf8).trans go4)).lst upd_same (nn _)
      have pf1 := ((((((((gf2.trans gf3).trans gf4).trans gf5).trans gf6).trans gf7).trans gf8).trans go4)).tup upd_same (nn _)
      have pf2 := (((((((gf3.trans gf4).trans gf5).trans gf6).trans gf7).trans gf8).trans go4)).lst upd_same (nn _)
      have pf3 := ((((((gf4.trans gf5).trans gf6).trans gf7).trans gf8).trans go4)).tup upd_same (nn _)
      have pf4 := (((((gf5.trans gf6).trans gf7).trans gf8).trans go4)).tup upd_same (nn _)
      have pf5 := ((((gf6.trans gf7).trans gf8).trans go4)).tup upd_same (nn _)
      have pf6 := (((gf7.trans gf8).trans go4)).tup upd_same (nn _)
      have pf7 := ((gf8.trans go4)).tup upd_same (nn _)
      have pf8 := (go4).tup upd_same (nn _)
      refine ⟨o3, o4, ((([("" : Str), "number", "Number", "fun", "kind", "a", "A", "a1", "A1", "1A", "A_", "A b", "Abcdefghij", "abcdefghij"]).map V.str) ++ [V.str "Abcdefghijk", .str "abcdefghijk", .str "A\n", .int 0, .int 1, .int (-1), .int 2, .bl true, .bl false, .non, .ref e1, .ref e2, .ref e3, .ref e4, .ref e6]), [V.ref f1, .ref f2, .ref f3, .ref f5, .int (10 ^ 30), .ref f6, .ref f8], rfl, rfl, po3, upd_same, by show 36 ≤ sizeLine; decide, fun o5 ho5 => ?_⟩
      have go5 := Go.new (T := T) (M := []) (o := .lst (((([("" : Str), "number", "Number", "fun", "kind", "a", "A", "a1", "A1", "1A", "A_", "A b", "Abcdefghij", "abcdefghij"]).map V.str) ++ [V.str "Abcdefghijk", .str "abcdefghijk", .str "A\n", .int 0, .int 1, .int (-1), .int 2, .bl true, .bl false, .non, .ref e1, .ref e2, .ref e3, .ref e4, .ref e6]) ++ [V.ref f1, .ref f2, .ref f3, .ref f5, .int (10 ^ 30), .ref f6, .ref f8])) ho5
      have no5 := up w18 ho5
      have w19 := w18.go go5
      have c19 := c18.trans go5
      have re1 := (((((((((((go3.trans gf1).trans gf2).trans gf3).trans gf4).trans gf5).trans gf6).trans gf7).trans gf8).trans go4).trans go5)).tup pe1 (nn _)
      have re4 := (((((((((((go3.trans gf1).trans gf2).trans gf3).trans gf4).trans gf5).trans gf6).trans gf7).trans gf8).trans go4).trans go5)).tup pe4 (nn _)
      have re5 := (((((((((((go3.trans gf1).trans gf2).trans gf3).trans gf4).trans gf5).trans gf6).trans gf7).trans gf8).trans go4).trans go5)).tup pe5 (nn _)
      have re6 := (((((((((((go3.trans gf1).trans gf2).trans gf3).trans gf4).trans gf5).trans gf6).trans gf7).trans gf8).trans go4).trans go5)).tup pe6 (nn _)
      have re2 := (((((((((((go3.trans gf1).trans gf2).trans gf3).trans gf4).trans gf5).trans gf6).trans gf7).trans gf8).trans go4).trans go5)).lst pe2 (nn _)
      have re3 := (((((((((((go3.trans gf1).trans gf2).trans gf3).trans gf4).trans gf5).trans gf6).trans gf7).trans gf8).trans go4).trans go5)).gr _ _ pe3 (nn _) (fun _ z => by cases z)
      have rf1 := go5.tup pf1 (nn _)
      have rf3 := go5.tup pf3 (nn _)
      have rf4 := go5.tup pf4 (nn _)
      have rf5 := go5.tup pf5 (nn _)
      have rf6 := go5.tup pf6 (nn _)
      have rf7 := go5.tup pf7 (nn _)
      have rf2 := go5.lst pf2 (nn _)
      have rf8 := go5.tup pf8 (nn _)
      have vz := hv.go ((g1).trans c19.of0)
      have dz : DvAll [a, l] _ _ (oddD _) := DvAll.append (DvAll.append (DvAll.strs _) (.cons (.str _) (.cons (.str _) (.cons (.str _) (.cons (.int _) (.cons (.int _) (.cons (.int _) (.cons (.int _) (.cons (.bl _) (.cons (.bl _) (.cons .non (.cons (.tup re1 ne1 .nil) (.cons (.lst re2 ne2 .nil) (.cons (.dct re3 ne3) (.cons (.tup re4 ne4 (.cons (.str _) .nil)) (.cons (.tup re6 ne6 (.cons (.str _) (.cons (.tup re5 ne5 .nil) .nil))) .nil))))))))))))))))
        (.cons (.tup rf1 nf1 (.cons vz .nil)) (.cons (.lst rf2 nf2 (.cons vz .nil)) (.cons (.tup rf3 nf3 (.cons vz (.cons vz .nil))) (.cons (.tup rf5 nf5 (.cons (.str _) (.cons (.tup rf4 nf4 (.cons (.int _) (.cons (.int _) .nil))) .nil))) (.cons (.int _) (.cons (.tup rf6 nf6 (.cons (.int _) (.cons (.int _) .nil))) (.cons (.tup rf8 nf8 (.cons (.str _) (.cons (.tup rf7 nf7 .nil) .nil))) .nil)))))))
      refine ⟨_, rfl, _, rfl, _, rfl, o5, _, rfl, .inl (SqL.of upd_same), a, l, (k + 1), _, rfl, (show (0 : Int) < 36 by decide), (show (36 : Int) < 1073741824 by decide), by omega, w19, c19.tb ((g1).tb ht), fun iz Hz z0 z1 Wz gz tz => ?_⟩
      obtain ⟨vv, dd, ez, mz, hz⟩ := at_dv dz z0 z1
      exact ⟨o5, _, iz, vv, rfl, rfl, SqL.of (gz.lst upd_same no5), ez, q vv dd Hz (hz.go gz) (oddD_near hn mz) (Wz.up (by omega)) (((g1).trans c19.of0).trans gz) tz⟩
  | str x =>
    have hax : asc x = true := by simpa only [nice] using hn
    have lx : 12 * x.length + 4 ≤ 1000000 := by simpa only [wt] using hw
    have sx : x.length ≤ sizeLine := by rw [sizeLine_eq]; omega
    refine ⟨_, rfl, iteF (iteF ?_)⟩
    refine ⟨_, rfl, _, _, _, rfl, hv, _, rfl, iteF (iteF ?_)⟩
    refine ⟨_, rfl, _, _, _, rfl, hv, _, rfl, iteT ?_⟩
    refine ⟨_, rfl, a, l, k, 3, rfl, by decide, by decide, by omega, W, ht, fun i1 H1 j0 j1 W1 g1 t1 => ⟨_, _, rfl, rfl, _, rfl, ?_⟩⟩
    by_cases c1 : (0 : Int) < i1
    · refine if_true_of (decide_eq_true c1) ?_
      cases hv
      refine ⟨_, rfl, _, rfl, x, rfl, sx, _, _, rfl, rfl, a, l, k + 1, _, rfl, by omega, by omega, by omega, W1, t1, fun i2 H2 j20 j21 W2 g2 t2 => ?_⟩
      obtain ⟨S, eS⟩ : ∃ z : Str, z = " !\"#$&'()*+,-./0123456789:;<=>?@ABCDEFGHIJKLMNOPQRSTUVWXYZ[\\]^_`abcdefghijklmnopqrstuvwxyz{|}~\n" := ⟨_, rfl⟩
      have aS : asc S = true ∧ 1 ≤ S.length ∧ S.length ≤ 200 := by rw [eS]; decide +kernel
      rw [← eS]
      refine ⟨_, rfl, _, rfl, _, rfl, S, rfl, by rw [sizeLine_eq]; omega, a, l, k + 1 + 1, _, rfl, by omega, by omega, by omega, W2, t2, fun i3 H3 j30 j31 W3 g3 t3 => ?_⟩
      obtain ⟨c0, ec0, mc0⟩ := at_ok (xs := S.cps.toList) j30 (by rw [← SL.len_list]; exact j31)
      refine ⟨S, i3, c0, rfl, rfl, by rw [sizeLine_eq]; omega, ec0, _, _, rfl, ?_⟩
      have ag : asc (⟨#[c0]⟩ : Str) = true := asc_one aS.1 mc0
      have lg : ((⟨#[c0]⟩ : Str)).length = 1 := rfl
      generalize (⟨#[c0]⟩ : Str) = sg at ag lg ⊢
      have q1 := len_cut x none (some i2)
      have q2 := len_cut x (some i2) none
      have q3 := len_cut x (some (i2 + 1)) none
      have w1 : (cutS x none (some i2) ++ sg).length ≤ x.length + 1 := by rw [strLen_append]; omega
      have w2 : ((cutS x none (some i2) ++ sg) ++ cutS x (some i2) none).length ≤ 2 * x.length + 1 := by rw [strLen_append]; omega
      have w3 : ((cutS x none (some i2) ++ sg) ++ cutS x (some (i2 + 1)) none).length ≤ 2 * x.length + 1 := by rw [strLen_append]; omega
      have w4 : (x ++ sg).length ≤ x.length + 1 := by rw [strLen_append]; omega
      have lo := lo_len hax
      have hi := up_len hax
      have b1 : (cutS x none (some i2)).length + sg.length ≤ sizeLine := by rw [sizeLine_eq]; omega
      have b2 : (cutS x none (some i2) ++ sg).length + (cutS x (some i2) none).length ≤ sizeLine := by rw [sizeLine_eq]; omega
      have b3 : (cutS x none (some i2) ++ sg).length + (cutS x (some (i2 + 1)) none).length ≤ sizeLine := by rw [sizeLine_eq]; omega
      have b4 : x.length + sg.length ≤ sizeLine := by rw [sizeLine_eq]; omega
      have b5 : x.length ≤ 5592405 := by omega
      refine ⟨_, rfl, _, rfl, _, rfl, x, rfl, sx, _, rfl, _, _, rfl, rfl, b1, _, rfl, _, rfl, _, rfl, x, rfl, sx, _, _, rfl, rfl, b2, ?_⟩
      refine ⟨_, rfl, _, rfl, _, rfl, x, rfl, sx, _, rfl, _, _, rfl, rfl, b1, _, rfl, _, rfl, _, _, rfl, rfl, _, rfl, x, rfl, sx, _, _, rfl, rfl, b3, ?_⟩
      refine ⟨_, rfl, _, rfl, _, _, rfl, rfl, b4, _, rfl, ⟨_, rfl⟩, x, rfl, rfl, b5, by show 4 ≤ sizeLine; decide, fun o1 ho1 => ?_⟩
      refine ⟨_, rfl, _, rfl, ⟨_, rfl⟩, x, rfl, rfl, b5, _, rfl, _, rfl, x, rfl, sx, _, rfl, _, rfl, _, rfl, x, rfl, sx, _, rfl, _, rfl, x, rfl, sx, by show 4 ≤ sizeLine; decide, fun o2 ho2 => ?_⟩
      have r1 := len_cut x (some 1) none
      have r2 := len_cut x none (some (-1))
      have r3 := len_cut x none (some 1)
      have near : ∀ z ∈ ([(cutS x none (some i2) ++ sg) ++ cutS x (some i2) none, (cutS x none (some i2) ++ sg) ++ cutS x (some (i2 + 1)) none, x ++ sg, Txt.lower x] ++ [Txt.upper x, cutS x (some 1) none, cutS x none (some (-1)), cutS x none (some 1)] : List Str), asc z = true ∧ 12 * z.length ≤ 3 * wt (.str x) + 1996 := fun z hz => by
        have ew : wt (.str x) = 12 * x.length + 4 := by simp only [wt]
        rw [ew]
        simp only [List.mem_append, List.mem_cons, List.not_mem_nil, or_false] at hz
        rcases hz with (rfl | rfl | rfl | rfl) | (rfl | rfl | rfl | rfl)
        · exact ⟨asc_add (asc_add (asc_cut hax _ _) ag) (asc_cut hax _ _), by omega⟩
        · exact ⟨asc_add (asc_add (asc_cut hax _ _) ag) (asc_cut hax _ _), by omega⟩
        · exact ⟨asc_add hax ag, by omega⟩
        · exact ⟨lo.2, by omega⟩
        · exact ⟨hi.2, by omega⟩
        · exact ⟨asc_cut hax _ _, by omega⟩
        · exact ⟨asc_cut hax _ _, by omega⟩
        · exact ⟨asc_cut hax _ _, by omega⟩
      have g01 := Go.new (T := T) (M := []) (o := .lst (([(cutS x none (some i2) ++ sg) ++ cutS x (some i2) none, (cutS x none (some i2) ++ sg) ++ cutS x (some (i2 + 1)) none, x ++ sg, Txt.lower x] : List Str).map V.str)) ho1
      have g02 := Go.new (T := T) (M := []) (o := .lst (([Txt.upper x, cutS x (some 1) none, cutS x none (some (-1)), cutS x none (some 1)] : List Str).map V.str)) ho2
      refine ⟨o1, o2, ([(cutS x none (some i2) ++ sg) ++ cutS x (some i2) none, (cutS x none (some i2) ++ sg) ++ cutS x (some (i2 + 1)) none, x ++ sg, Txt.lower x] : List Str).map V.str, ([Txt.upper x, cutS x (some 1) none, cutS x none (some (-1)), cutS x none (some 1)] : List Str).map V.str, rfl, rfl, g02.lst upd_same (nn _), upd_same, by show 8 ≤ sizeLine; decide, fun o3 ho3 => ?_⟩
      have g03 := Go.new (T := T) (M := []) (o := .lst (([(cutS x none (some i2) ++ sg) ++ cutS x (some i2) none, (cutS x none (some i2) ++ sg) ++ cutS x (some (i2 + 1)) none, x ++ sg, Txt.lower x] : List Str).map V.str ++ ([Txt.upper x, cutS x (some 1) none, cutS x none (some (-1)), cutS x none (some 1)] : List Str).map V.str)) ho3
      have gg := (g01.trans g02).trans g03
      have w30 := W3.go (g01.trans g02)
      refine ⟨_, rfl, a, l, k + 1 + 1 + 1, 8, rfl, by decide, by decide, by omega, W3.go gg, gg.tb t3, fun iz Hz z0 z1 Wz gz tz => ?_⟩
      obtain ⟨vv, ez, mz⟩ := at_ok (xs := ([(cutS x none (some i2) ++ sg) ++ cutS x (some i2) none, (cutS x none (some i2) ++ sg) ++ cutS x (some (i2 + 1)) none, x ++ sg, Txt.lower x] : List Str).map V.str ++ ([Txt.upper x, cutS x (some 1) none, cutS x none (some (-1)), cutS x none (some 1)] : List Str).map V.str) z0 (by exact z1)
      rw [← List.map_append] at mz
      obtain ⟨z, hz, rfl⟩ := List.mem_map.mp mz
      have nz := near z hz
      exact ⟨o3, _, iz, .str z, rfl, rfl, SqL.of (gz.lst upd_same (up w30 ho3)), ez, q (.str z) (.str z) Hz (.str z) (near_txt nz.1 nz.2) (Wz.up (by omega)) ((((g1.trans g2).trans g3).trans gg.of0).trans gz) tz⟩
    · refine if_false_of (decide_eq_false c1) ?_
      refine ⟨_, rfl, _, _, _, rfl, hv.go g1, _, rfl, iteF (iteF ?_)⟩
      have w0 := W1
      have c0 := Go.refl (T := T) (M := []) (H := H1)
      refine ⟨by show 14 ≤ sizeLine; decide, fun o1 ho1 => ?_⟩
      have go1 := Go.new (T := T) (M := []) (o := .lst (([("" : Str), "number", "Number", "fun", "kind", "a", "A", "a1", "A1", "1A", "A_", "A b", "Abcdefghij", "abcdefghij"]).map V.str)) ho1
      have no1 := up w0 ho1
      have w1 := w0.go go1
      have c1 := c0.trans go1
      refine ⟨_, rfl, _, rfl, by show 0 ≤ sizeLine; omega, fun e1 he1 => ⟨by show 0 ≤ sizeLine; omega, fun e2 he2 => fun e3 he3 => ⟨by show 1 ≤ sizeLine; decide, fun e4 he4 => ⟨by show 0 ≤ sizeLine; omega, fun e5 he5 => ⟨by show 2 ≤ sizeLine; decide, fun e6 he6 => ⟨by show 15 ≤ sizeLine; decide, fun o2 ho2 => ?_⟩⟩⟩⟩⟩⟩
      have ge1 := Go.new (T := T) (M := []) (o := .tup []) he1
      have ne1 := up w1 he1
      have w2 := w1.go ge1
      have c2 := c1.trans ge1
      have ge2 := Go.new (T := T) (M := []) (o := .lst []) he2
      have ne2 := up w2 he2
      have w3 := w2.go ge2
      have c3 := c2.trans ge2
      have ge3 := Go.new (T := T) (M := []) (o := .dK []) he3
      have ne3 := up w3 he3
      have w4 := w3.go ge3
      have c4 := c3.trans ge3
      have ge4 := Go.new (T := T) (M := []) (o := .tup [.str "A"]) he4
      have ne4 := up w4 he4
      have w5 := w4.go ge4
      have c5 := c4.trans ge4
      have ge5 := Go.new (T := T) (M := []) (o := .tup []) he5
      have ne5 := up w5 he5
      have w6 := w5.go ge5
      have c6 := c5.trans ge5
      have ge6 := Go.new (T := T) (M := []) (o := .tup [.str "A", .ref e5]) he6
      have ne6 := up w6 he6
      have w7 := w6.go ge6
      have c7 := c6.trans ge6
      have go2 := Go.new (T := T) (M := []) (o := .lst [.str "Abcdefghijk", .str "abcdefghijk", .str "A\n", .int 0, .int 1, .int (-1), .int 2, .bl true, .bl false, .non, .ref e1, .ref e2, .ref e3, .ref e4, .ref e6]) ho2
      have no2 := up w7 ho2
      have w8 := w7.go go2
      have c8 := c7.trans go2
      have po1 := (((((((ge1.trans ge2).trans ge3).trans ge4).trans ge5).trans ge6).trans go2)).lst upd_same (nn _)
      have pe1 := ((((((ge2.trans ge3).trans ge4).trans ge5).trans ge6).trans go2)).tup upd_same (nn _)
      have pe2 := (((((ge3.trans ge4).trans ge5).trans ge6).trans go2)).lst upd_same (nn _)
      have pe3 := ((((ge4.trans ge5).trans ge6).trans go2)).gr _ _ (upd_same (a := e3) (o := .dK [])) (nn _) (fun _ z => by cases z)
      have pe4 := (((ge5.trans ge6).trans go2)).tup upd_same (nn _)
      have pe5 := ((ge6.trans go2)).tup upd_same (nn _)
      have pe6 := (go2).tup upd_same (nn _)
      refine ⟨o1, o2, (([("" : Str), "number", "Number", "fun", "kind", "a", "A", "a1", "A1", "1A", "A_", "A b", "Abcdefghij", "abcdefghij"]).map V.str), [V.str "Abcdefghijk", .str "abcdefghijk", .str "A\n", .int 0, .int 1, .int (-1), .int 2, .bl true, .bl false, .non, .ref e1, .ref e2, .ref e3, .ref e4, .ref e6], rfl, rfl, po1, upd_same, by show 29 ≤ sizeLine; decide, fun o3 ho3 => ?_⟩
      have go3 := Go.new (T := T) (M := []) (o := .lst ((([("" : Str), "number", "Number", "fun", "kind", "a", "A", "a1", "A1", "1A", "A_", "A b", "Abcdefghij", "abcdefghij"]).map V.str) ++ [V.str "Abcdefghijk", .str "abcdefghijk", .str "A\n", .int 0, .int 1, .int (-1), .int 2, .bl true, .bl false, .non, .ref e1, .ref e2, .ref e3, .ref e4, .ref e6])) ho3
      have no3 := up w8 ho3
      have w9 := w8.go go3
      have c9 := c8.trans go3
      refine ⟨_, rfl, _, rfl, by show 1 ≤ sizeLine; decide, fun f1 hf1 => ⟨_, rfl, by show 1 ≤ sizeLine; decide, fun f2 hf2 => ⟨_, rfl, _, rfl, by show 2 ≤ sizeLine; decide, fun f3 hf3 => ⟨by show 2 ≤ sizeLine; decide, fun f4 hf4 => ⟨by show 2 ≤ sizeLine; decide, fun f5 hf5 => ⟨_, _, rfl, rfl, ⟨by decide, by decide, by decide⟩, by show 2 ≤ sizeLine; decide, fun f6 hf6 => ⟨by show 0 ≤ sizeLine; omega, fun f7 hf7 => ⟨by show 2 ≤ sizeLine; decide, fun f8 hf8 => ⟨by show 7 ≤ sizeLine; decide, fun o4 ho4 => ?_⟩⟩⟩⟩⟩⟩⟩⟩⟩
      have gf1 := Go.new (T := T) (M := []) (o := .tup [v]) hf1
      have nf1 := up w9 hf1
      have w10 := w9.go gf1
      have c10 := c9.trans gf1
      have gf2 := Go.new (T := T) (M := []) (o := .lst [v]) hf2
      have nf2 := up w10 hf2
      have w11 := w10.go gf2
      have c11 := c10.trans gf2
      have gf3 := Go.new (T := T) (M := []) (o := .tup [v, v]) hf3
      have nf3 := up w11 hf3
      have w12 := w11.go gf3
      have c12 := c11.trans gf3
      have gf4 := Go.new (T := T) (M := []) (o := .tup [.int 1, .int 1]) hf4
      have nf4 := up w12 hf4
      have w13 := w12.go gf4
      have c13 := c12.trans gf4
      have gf5 := Go.new (T := T) (M := []) (o := .tup [.str "num", .ref f4]) hf5
      have nf5 := up w13 hf5
      have w14 := w13.go gf5
      have c14 := c13.trans gf5
      have gf6 := Go.new (T := T) (M := []) (o := .tup [.int 0, .int 1]) hf6
      have nf6 := up w14 hf6
      have w15 := w14.go gf6
      have c15 := c14.trans gf6
      have gf7 := Go.new (T := T) (M := []) (o := .tup []) hf7
      have nf7 := up w15 hf7
      have w16 := w15.go gf7
      have c16 := c15.trans gf7
      have gf8 := Go.new (T := T) (M := []) (o := .tup [.str "Fun", .ref f7]) hf8
      have nf8 := up w16 hf8
      have w17 := w16.go gf8
      have c17 := c16.trans gf8
      have go4 := Go.new (T := T) (M := []) (o := .lst [V.ref f1, .ref f2, .ref f3, .ref f5, .int (10 ^ 30), .ref f6, .ref f8]) ho4
      have no4 := up w17 ho4
      have w18 := w17.go go4
      have c18 := c17.trans go4
      have po3 := (((((((((gf1.trans gf2).trans gf3).trans gf4).trans gf5).trans gf6).trans gf7).trans gf8).trans go4)).lst upd_same (nn _)
      have pf1 := ((((((((gf2.trans gf3).trans gf4).trans gf5).trans gf6).trans gf7).trans gf8).trans go4)).tup upd_same (nn _)
      have pf2 := (((((((gf3.trans gf4).trans gf5).trans gf6).trans gf7).trans gf8).trans go4)).lst upd_same (nn _)
      have pf3 := ((((((gf4.trans gf5).trans gf6).trans gf7).trans gf8).trans go4)).tup upd_same (nn _)
      have pf4 := (((((gf5.trans gf6).trans gf7).trans gf8).trans go4)).tup upd_same (nn _)
      have pf5 := ((((gf6.trans gf7).trans gf8).trans go4)).tup upd_same (nn _)
      have pf6 := (((gf7.trans gf8).trans go4)).tup upd_same (nn _)
      have pf7 := ((gf8.trans go4)).tup upd_same (nn _)
      have pf8 := (go4).tup upd_same (nn _)
      refine ⟨o3, o4, ((([("" : Str), "number", "Number", "fun", "kind", "a", "A", "a1", "A1", "1A", "A_", "A b", "Abcdefghij", "abcdefghij"]).map V.str) ++ [V.str "Abcdefghijk", .str "abcdefghijk", .str "A\n", .int 0, .int 1, .int (-1), .int 2, .bl true, .bl false, .non, .ref e1, .ref e2, .ref e3, .ref e4, .ref e6]), [V.ref f1, .ref f2, .ref f3, .ref f5, .int (10 ^ 30), .ref f6, .ref f8], rfl, rfl, po3, upd_same, by show 36 ≤ sizeLine; decide, fun o5 ho5 => ?_⟩
      have go5 := Go.new (T := T) (M := []) (o := .lst (((([("" : Str), "number", "Number", "fun", "kind", "a", "A", "a1", "A1", "1A", "A_", "A b", "Abcdefghij", "abcdefghij"]).map V.str) ++ [V.str "Abcdefghijk", .str "abcdefghijk", .str "A\n", .int 0, .int 1, .int (-1), .int 2, .bl true, .bl false, .non, .ref e1, .ref e2, .ref e3, .ref e4, .ref e6]) ++ [V.ref f1, .ref f2, .ref f3, .ref f5, .int (10 ^ 30), .ref f6, .ref f8])) ho5
      have no5 := up w18 ho5
      have w19 := w18.go go5
      have c19 := c18.trans go5
      have re1 := (((((((((((go3.trans gf1).trans gf2).trans gf3).trans gf4).trans gf5).trans gf6).trans gf7).trans gf8).trans go4).trans go5)).tup pe1 (nn _)
      have re4 := (((((((((((go3.trans gf1).trans gf2).trans gf3).trans gf4).trans gf5).trans gf6).trans gf7).trans gf8).trans go4).trans go5)).tup pe4 (nn _)
      have re5 := (((((((((((go3.trans gf1).trans gf2).trans gf3).trans gf4).trans gf5).trans gf6).trans gf7).trans gf8).trans go4).trans go5)).tup pe5 (nn _)
      have re6 := (((((((((((go3.trans gf1).trans gf2).trans gf3).trans gf4).trans gf5).trans gf6).trans gf7).trans gf8).trans go4).trans go5)).tup pe6 (nn _)
      have re2 := (((((((((((go3.trans gf1).trans gf2).trans gf3).trans gf4).trans gf5).trans gf6).trans gf7).trans gf8).trans go4).trans go5)).lst pe2 (nn _)
      have re3 := (((((((((((go3.trans gf1).trans gf2).trans gf3).trans gf4).trans gf5).trans gf6).trans gf7).trans gf8).trans go4).trans go5)).gr _ _ pe3 (nn _) (fun _ z => by cases z)
      have rf1 := go5.tup pf1 (nn _)
      have rf3 := go5.tup pf3 (nn _)
      have rf4 := go5.tup pf4 (nn _)
      have rf5 := go5.tup pf5 (nn _)
      have rf6 := go5.tup pf6 (nn _)
      have rf7 := go5.tup pf7 (nn _)
      have rf2 := go5.lst pf2 (nn _)
      have rf8 := go5.tup pf8 (nn _)
      have vz := hv.go ((g1).trans c19.of0)
      have dz : DvAll [a, l] _ _ (oddD _) := DvAll.append (DvAll.append (DvAll.strs _) (.cons (.str _) (.cons (.str _) (.cons (.str _) (.cons (.int _) (.cons (.int _) (.cons (.int _) (.cons (.int _) (.cons (.bl _) (.cons (.bl _) (.cons .non (.cons (.tup re1 ne1 .nil) (.cons (.lst re2 ne2 .nil) (.cons (.dct re3 ne3) (.cons (.tup re4 ne4 (.cons (.str _) .nil)) (.cons (.tup re6 ne6 (.cons (.str _) (.cons (.tup re5 ne5 .nil) .nil))) .nil))))))))))))))))
        (.cons (.tup rf1 nf1 (.cons vz .nil)) (.cons (.lst rf2 nf2 (.cons vz .nil)) (.cons (.tup rf3 nf3 (.cons vz (.cons vz .nil))) (.cons (.tup rf5 nf5 (.cons (.str _) (.cons (.tup rf4 nf4 (.cons (.int _) (.cons (.int _) .nil))) .nil))) (.cons (.int _) (.cons (.tup rf6 nf6 (.cons (.int _) (.cons (.int _) .nil))) (.cons (.tup rf8 nf8 (.cons (.str _) (.cons (.tup rf7 nf7 .nil) .nil))) .nil)))))))
      refine ⟨_, rfl, _, rfl, _, rfl, o5, _, rfl, .inl (SqL.of upd_same), a, l, (k + 1), _, rfl, (show (0 : Int) < 36 by decide), (show (36 : Int) < 1073741824 by decide), by omega, w19, c19.tb ((g1).tb ht), fun iz Hz z0 z1 Wz gz tz => ?_⟩
      obtain ⟨vv, dd, ez, mz, hz⟩ := at_dv dz z0 z1
      exact ⟨o5, _, iz, vv, rfl, rfl, SqL.of (gz.lst upd_same no5), ez, q vv dd Hz (hz.go gz) (oddD_near hn mz) (Wz.up (by omega)) (((g1).trans c19.of0).trans gz) tz⟩
  | tuple ds =>
    obtain ⟨p, xs, ev, ep, np, rr⟩ : ∃ p xs, v = .ref p ∧ H p = some (.tup xs) ∧ p ∉ [a, l] ∧ DvAll [a, l] H xs ds := by
      cases hv with
      | tup e m r => exact ⟨_, _, rfl, e, m, r⟩
    have hx : xs.length = ds.length := rr.length
    have hwt : wtAll ds + 4 ≤ 1000000 := by rw [wt_tupl] at hw; exact hw
    have hlen := wtAll_len ds
    refine ⟨_, rfl, iteT ?_⟩
    refine ⟨_, rfl, by show 0 ≤ sizeLine; omega, fun e0 he0 => ?_⟩
    have g0 := Go.new (T := T) (M := []) (o := .tup []) he0
    refine ⟨p, e0, xs, ev, rfl, .inr ⟨SqT.of (g0.tup ep (nn _)), SqT.of upd_same⟩, _, rfl, ?_⟩
    cases exs : xs.isEmpty with
    | true =>
      refine iteF (iteF ?_)
      refine ⟨_, rfl, _, _, _, rfl, hv.go g0.of0, ?_⟩
      refine ⟨_, rfl, iteT ?_⟩
      refine ⟨_, rfl, a, l, k, 3, rfl, by decide, by decide, by omega, (W.go g0), ((g0.of0 : Go T [a, l] H _)).tb ht, fun i2 H2 j20 j21 W2 g2 t2 => ⟨_, _, rfl, rfl, _, rfl, ?_⟩⟩
      have G2 := ((g0.of0 : Go T [a, l] H _)).trans g2
      by_cases c2 : (0 : Int) < i2
      · refine if_true_of (decide_eq_true c2) ?_
        subst ev
        have e2 := G2.tup ep np
        have rr2 := rr.go G2
        refine ⟨_, rfl, _, rfl, _, xs, rfl, .inr (SqT.of e2), _, _, rfl, rfl, a, l, k + 1, _, rfl, by omega, by omega, by omega, W2, t2, fun at' H3 j30 j31 W3 g3 t3 => ?_⟩
        have G3 := G2.trans g3
        have e3 := G3.tup ep np
        have fr3 : ∀ {H' : Hp}, Go T [] H3 H' → ∀ r, H' r = none → r ∉ [a, l] := fun g r h => up (W3.go g) h
        have w0 := Go.refl (T := T) (M := []) (H := H3)
        have cl := fun lo hi => cutV_len xs lo hi
        refine ⟨_, rfl, _, rfl, _, rfl, sl_ok (T := T) (M := [a, l]) e3 np (fr3 w0) fun s1 K1' f1 n1 h1 => ?_⟩
        have w1 := w0.trans h1
        refine ⟨_, rfl, _, rfl, _, _, rfl, rfl, _, rfl, ?_⟩
        try unfold tNoPart
        refine sl_ok (T := T) (M := [a, l]) (w1.tup e3 (nn _)) np (fr3 w1) fun s2 K2' f2 n2 h2 => ?_
        have w2 := w1.trans h2
        refine cat_ok (T := T) (M := [a, l]) (h2.tup f1 (nn _)) f2 n1 n2 (by have := cl none (some at'); have := cl (some (at' + 1)) none; omega) (fr3 w2) fun s3 K3' f3 n3 h3 => ?_
        have w3 := w2.trans h3
        refine ⟨_, rfl, _, rfl, _, rfl, sl_ok (T := T) (M := [a, l]) (w3.tup e3 (nn _)) np (fr3 w3) fun s4 K4' f4 n4 h4 => ?_⟩
        have w4 := w3.trans h4
        refine ⟨_, rfl, _, rfl, _, rfl, _, rfl, _, _, rfl, rfl, _, rfl, sl_ok (T := T) (M := [a, l]) (w4.tup e3 (nn _)) np (fr3 w4) fun s5 K5' f5 n5 h5 => ?_⟩
        have w5 := w4.trans h5
        refine cat_ok (T := T) (M := [a, l]) (h5.tup f4 (nn _)) f5 n4 n5 (by have := cl none (some at'); have := cl (some at') (some (at' + 1)); omega) (fr3 w5) fun s6 K6' f6 n6 h6 => ?_
        have w6 := w5.trans h6
        refine ⟨_, rfl, _, rfl, _, rfl, ?_⟩
        try unfold tNoPart
        refine sl_ok (T := T) (M := [a, l]) (w6.tup e3 (nn _)) np (fr3 w6) fun s7 K7' f7 n7 h7 => ?_
        have w7 := w6.trans h7
        refine cat_ok (T := T) (M := [a, l]) (h7.tup f6 (nn _)) f7 n6 n7 (by have := cl none (some at'); have := cl (some at') (some (at' + 1)); have := cl (some at') none; rw [List.length_append]; omega) (fr3 w7) fun s8 K8' f8 n8 h8 => ?_
        have w8 := w7.trans h8
        refine ⟨_, rfl, _, rfl, _, rfl, ?_⟩
        try unfold tNoPart
        refine sl_ok (T := T) (M := [a, l]) (w8.tup e3 (nn _)) np (fr3 w8) fun s9 K9' f9 n9 h9 => ?_
        have w9 := w8.trans h9
        refine ⟨_, rfl, _, rfl, _, rfl, sl_ok (T := T) (M := [a, l]) (w9.tup e3 (nn _)) np (fr3 w9) fun s10 K10' f10 n10 h10 => ?_⟩
        have w10 := w9.trans h10
        refine cat_ok (T := T) (M := [a, l]) (h10.tup f9 (nn _)) f10 n9 n10 (by have := cl none (some at'); have := cl (some at') none; omega) (fr3 w10) fun s11 K11' f11 n11 h11 => ?_
        have w11 := w10.trans h11
        refine ⟨by show 3 ≤ sizeLine; decide, fun o1 ho1 => ?_⟩
        have h12 := Go.new (T := T) (M := []) (o := .lst [V.ref s3, .ref s8, .ref s11]) ho1
        have w12 := w11.trans h12
        refine ⟨_, rfl, _, rfl, p, xs, rfl, .inr (SqT.of (w12.tup e3 (nn _))), fun l1 hl1 => ?_⟩
        have h13 := Go.new (T := T) (M := []) (o := .lst xs) hl1
        have w13 := w12.trans h13
        have nl1 := fr3 w12 l1 hl1
        refine ⟨_, rfl, ?_⟩
        try unfold tC
        refine times_ok (T := T) (M := [a, l]) (j := 2) (w13.tup e3 (nn _)) np (by decide) (by decide) (by omega) (fr3 w13) fun s14 K14' f14 n14 h14 => ?_
        have w14 := w13.trans h14
        refine ⟨_, rfl, ?_⟩
        try unfold tC
        refine times_ok (T := T) (M := [a, l]) (j := 3) (w14.tup e3 (nn _)) np (by decide) (by decide) (by omega) (fr3 w14) fun s15 K15' f15 n15 h15 => ?_
        have w15 := w14.trans h15
        refine ⟨by show 3 ≤ sizeLine; decide, fun o2 ho2 => ?_⟩
        have h16 := Go.new (T := T) (M := []) (o := .lst [V.ref l1, .ref s14, .ref s15]) ho2
        have w16 := w15.trans h16
        have t13 := ((h13.trans h14).trans h15).trans h16
        refine ⟨o1, o2, [V.ref s3, .ref s8, .ref s11], [V.ref l1, .ref s14, .ref s15], rfl, rfl, t13.lst upd_same (nn _), upd_same, by show 6 ≤ sizeLine; decide, fun o3 ho3 => ?_⟩
        have h17 := Go.new (T := T) (M := []) (o := .lst ([V.ref s3, .ref s8, .ref s11] ++ [V.ref l1, .ref s14, .ref s15])) ho3
        have w17 := w16.trans h17
        have no3 := fr3 w16 o3 ho3
        have u16 := h16.trans h17
        have u15 := h15.trans u16
        have u14 := h14.trans u15
        have u13 := h13.trans u14
        have u12 := h12.trans u13
        have u9 := ((h9.trans h10).trans h11).trans u12
        have u4 := ((((h4.trans h5).trans h6).trans h7).trans h8).trans u9
        have hu : nice n (.tuple ds) = true := hn
        have dxs := rr2.go (g3.trans w17.of0)
        have dz : DvAll [a, l] _ [V.ref s3, .ref s8, .ref s11, .ref l1, .ref s14, .ref s15] [PyData.tuple (cutD ds none (some at') ++ cutD ds (some (at' + 1)) none), .tuple ((cutD ds none (some at') ++ cutD ds (some at') (some (at' + 1))) ++ cutD ds (some at') none), .tuple (cutD ds (some at') none ++ cutD ds none (some at')), .list ds, .tuple (List.replicate (2 : Int).toNat ds).flatten, .tuple (List.replicate (3 : Int).toNat ds).flatten] :=
          .cons (.tup (u4.tup f3 (nn _)) n3 (DvAll.append (dxs.cutD _ _) (dxs.cutD _ _)))
          (.cons (.tup (u9.tup f8 (nn _)) n8 (DvAll.append (DvAll.append (dxs.cutD _ _) (dxs.cutD _ _)) (dxs.cutD _ _)))
          (.cons (.tup (u12.tup f11 (nn _)) n11 (DvAll.append (dxs.cutD _ _) (dxs.cutD _ _)))
          (.cons (.lst (u14.lst upd_same (nn _)) nl1 dxs)
          (.cons (.tup (u15.tup f14 (nn _)) n14 (dxs.rep _))
          (.cons (.tup (u16.tup f15 (nn _)) n15 (dxs.rep _)) .nil)))))
        have near : ∀ z ∈ [PyData.tuple (cutD ds none (some at') ++ cutD ds (some (at' + 1)) none), .tuple ((cutD ds none (some at') ++ cutD ds (some at') (some (at' + 1))) ++ cutD ds (some at') none), .tuple (cutD ds (some at') none ++ cutD ds none (some at')), .list ds, .tuple (List.replicate (2 : Int).toNat ds).flatten, .tuple (List.replicate (3 : Int).toNat ds).flatten], nearOk n (.tuple ds) z := fun z hz => tup_ways hn hz
        refine ⟨_, rfl, a, l, k + 1 + 1, 6, rfl, by decide, by decide, by omega, W3.go w17, w17.tb t3, fun iz Hz z0 z1 Wz gz tz => ?_⟩
        obtain ⟨vv, dd, ez, mz, hz⟩ := at_dv dz z0 (by exact z1)
        exact ⟨o3, _, iz, vv, rfl, rfl, SqL.of (gz.lst upd_same no3), ez, q vv dd Hz (hz.go gz) (near dd mz) (Wz.up (by omega)) ((G3.trans w17.of0).trans gz) tz⟩
      · refine if_false_of (decide_eq_false c2) ?_
        refine ⟨_, rfl, _, _, _, rfl, hv.go G2, _, rfl, iteF (iteF ?_)⟩
        refine ⟨_, rfl, _, _, _, rfl, hv.go G2, _, rfl, iteF (iteF ?_)⟩
        have w0 := W2
        have c0 := Go.refl (T := T) (M := []) (H := H2)
        refine ⟨by show 14 ≤ sizeLine; decide, fun o1 ho1 => ?_⟩
        have go1 := Go.new (T := T) (M := []) (o := .lst (([("" : Str), "number", "Number", "fun", "kind", "a", "A", "a1", "A1", "1A", "A_", "A b", "Abcdefghij", "abcdefghij"]).map V.str)) ho1
        have no1 := up w0 ho1
        have w1 := w0.go go1
        have c1 := c0.trans go1
        refine ⟨_, rfl, _, rfl, by show 0 ≤ sizeLine; omega, fun e1 he1 => ⟨by show 0 ≤ sizeLine; omega, fun e2 he2 => fun e3 he3 => ⟨by show 1 ≤ sizeLine; decide, fun e4 he4 => ⟨by show 0 ≤ sizeLine; omega, fun e5 he5 => ⟨by show 2 ≤ sizeLine; decide, fun e6 he6 => ⟨by show 15 ≤ sizeLine; decide, fun o2 ho2 => ?_⟩⟩⟩⟩⟩⟩
        have ge1 := Go.new (T := T) (M := []) (o := .tup []) he1
        have ne1 := up w1 he1
        have w2 := w1.go ge1
        have c2 := c1.trans ge1
        have ge2 := Go.new (T := T) (M := []) (o := .lst []) he2
        have ne2 := up w2 he2
        have w3 := w2.go ge2
        have c3 := c2.trans ge2
        have ge3 := Go.new (T := T) (M := []) (o := .dK []) he3
        have ne3 := up w3 he3
        have w4 := w3.go ge3
        have c4 := c3.trans ge3
        have ge4 := Go.new (T := T) (M := []) (o := .tup [.str "A"]) he4
        have ne4 := up w4 he4
        have w5 := w4.go ge4
        have c5 := c4.trans ge4
        have ge5 := Go.new (T := T) (M := []) (o := .tup []) he5
        have ne5 := up w5 he5
        have w6 := w5.go ge5
        have c6 := c5.trans ge5
        have ge6 := Go.new (T := T) (M := []) (o := .tup [.str "A", .ref e5]) he6
        have ne6 := up w6 he6
        have w7 := w6.go ge6
        have c7 := c6.trans ge6
        have go2 := Go.new (T := T) (M := []) (o := .lst [.str "Abcdefghijk", .str "abcdefghijk", .str "A\n", .int 0, .int 1, .int (-1), .int 2, .bl true, .bl false, .non, .ref e1, .ref e2, .ref e3, .ref e4, .ref e6]) ho2
        have no2 := up w7 ho2
        have w8 := w7.go go2
        have c8 := c7.trans go2
        have po1 := (((((((ge1.trans ge2).trans ge3).trans ge4).trans ge5).trans ge6).trans go2)).lst upd_same (nn _)
        have pe1 := ((((((ge2.trans ge3).trans ge4).trans ge5).trans ge6).trans go2)).tup upd_same (nn _)
        have pe2 := (((((ge3.trans ge4).trans ge5).trans ge6).trans go2)).lst upd_same (nn _)
        have pe3 := ((((ge4.trans ge5).trans ge6).trans go2)).gr _ _ (upd_same (a := e3) (o := .dK [])) (nn _) (fun _ z => by cases z)
        have pe4 := (((ge5.trans ge6).trans go2)).tup upd_same (nn _)
        have pe5 := ((ge6.trans go2)).tup upd_same (nn _)
        have pe6 := (go2).tup upd_same (nn _)
        refine ⟨o1, o2, (([("" : Str), "number", "Number", "fun", "kind", "a", "A", "a1", "A1", "1A", "A_", "A b", "Abcdefghij", "abcdefghij"]).map V.str), [V.str "Abcdefghijk", .str "abcdefghijk", .str "A\n", .int 0, .int 1, .int (-1), .int 2, .bl true, .bl false, .non, .ref e1, .ref e2, .ref e3, .ref e4, .ref e6], rfl, rfl, po1, upd_same, by show 29 ≤ sizeLine; decide, fun o3 ho3 => ?_⟩
        have go3 := Go.new (T := T) (M := []) (o := .lst ((([("" : Str), "number", "Number", "fun", "kind", "a", "A", "a1", "A1", "1A", "A_", "A b", "Abcdefghij", "abcdefghij"]).map V.str) ++ [V.str "Abcdefghijk", .str "abcdefghijk", .str "A\n", .int 0, .int 1, .int (-1), .int 2, .bl true, .bl false, .non, .ref e1, .ref e2, .ref e3, .ref e4, .ref e6])) ho3
        have no3 := up w8 ho3
        have w9 := w8.go go3
        have c9 := c8.trans go3
        refine ⟨_, rfl, _, rfl, by show 1 ≤ sizeLine; decide, fun f1 hf1 => ⟨_, rfl, by show 1 ≤ sizeLine; decide, fun f2 hf2 => ⟨_, rfl, _, rfl, by show 2 ≤ sizeLine; decide, fun f3 hf3 => ⟨by show 2 ≤ sizeLine; decide, fun f4 hf4 => ⟨by show 2 ≤ sizeLine; decide, fun f5 hf5 => ⟨_, _, rfl, rfl, ⟨by decide, by decide, by decide⟩, by show 2 ≤ sizeLine; decide, fun f6 hf6 => ⟨by show 0 ≤ sizeLine; omega, fun f7 hf7 => ⟨by show 2 ≤ sizeLine; decide, fun f8 hf8 => ⟨by show 7 ≤ sizeLine; decide, fun o4 ho4 => ?_⟩⟩⟩⟩⟩⟩⟩⟩⟩
        have gf1 := Go.new (T := T) (M := []) (o := .tup [v]) hf1
        have nf1 := up w9 hf1
        have w10 := w9.go gf1
        have c10 := c9.trans gf1
        have gf2 := Go.new (T := T) (M := []) (o := .lst [v]) hf2
        have nf2 := up w10 hf2
        have w11 := w10.go gf2
        have c11 := c10.trans gf2
        have gf3 := Go.new (T := T) (M := []) (o := .tup [v, v]) hf3
        have nf3 := up w11 hf3
        have w12 := w11.go gf3
        have c12 := c11.trans gf3
        have gf4 := Go.new (T := T) (M := []) (o := .tup [.int 1, .int 1]) hf4
        have nf4 := up w12 hf4
        have w13 := w12.go gf4
        have c13 := c12.trans gf4
        have gf5 := Go.new (T := T) (M := []) (o := .tup [.str "num", .ref f4]) hf5
        have nf5 := up w13 hf5
        have w14 := w13.go gf5
        have c14 := c13.trans gf5
        have gf6 := Go.new (T := T) (M := []) (o := .tup [.int 0, .int 1]) hf6
        have nf6 := up w14 hf6
        have w15 := w14.go gf6
        have c15 := c14.trans gf6
        have gf7 := Go.new (T := T) (M := []) (o := .tup []) hf7
        have nf7 := up w15 hf7
        have w16 := w15.go gf7
        have c16 := c15.trans gf7
        have gf8 := Go.new (T := T) (M := []) (o := .tup [.str "Fun", .ref f7]) hf8
        have nf8 := up w16 hf8
        have w17 := w16.go gf8
        have c17 := c16.trans gf8
        have go4 := Go.new (T := T) (M := []) (o := .lst [V.ref f1, .ref f2, .ref f3, .ref f5, .int (10 ^ 30), .ref f6, .ref f8]) ho4
        have no4 := up w17 ho4
        have w18 := w17.go go4
        have c18 := c17.trans go4
        have po3 := (((((((((gf1.trans gf2).trans gf3).trans gf4).trans gf5).trans gf6).trans gf7).trans gf8).trans go4)).lst upd_same (nn _)
        have pf1 := ((((((((gf2.trans gf3).trans gf4).trans gf5).trans gf6).trans gf7).trans gf8).trans go4)).tup upd_same (nn _)
        have pf2 := (((((((gf3.trans gf4).trans gf5).trans gf6).trans gf7).trans gf8).trans go4)).lst upd_same (nn _)
        have pf3 := ((((((gf4.trans gf5).trans gf6).trans gf7).trans gf8).trans go4)).tup upd_same (nn _)
        have pf4 := (((((gf5.trans gf6).trans gf7).trans gf8).trans go4)).tup upd_same (nn _)
        have pf5 := ((((gf6.trans gf7).trans gf8).trans go4)).tup upd_same (nn _)
        have pf6 := (((gf7.trans gf8).trans go4)).tup upd_same (nn _)
        have pf7 := ((gf8.trans go4)).tup upd_same (nn _)
        have pf8 := (go4).tup upd_same (nn _)
        refine ⟨o3, o4, ((([("" : Str), "number", "Number", "fun", "kind", "a", "A", "a1", "A1", "1A", "A_", "A b", "Abcdefghij", "abcdefghij"]).map V.str) ++ [V.str "Abcdefghijk", .str "abcdefghijk", .str "A\n", .int 0, .int 1, .int (-1), .int 2, .bl true, .bl false, .non, .ref e1, .ref e2, .ref e3, .ref e4, .ref e6]), [V.ref f1, .ref f2, .ref f3, .ref f5, .int (10 ^ 30), .ref f6, .ref f8], rfl, rfl, po3, upd_same, by show 36 ≤ sizeLine; decide, fun o5 ho5 => ?_⟩
        have go5 := Go.new (T := T) (M := []) (o := .lst (((([("" : Str), "number", "Number", "fun", "kind", "a", "A", "a1", "A1", "1A", "A_", "A b", "Abcdefghij", "abcdefghij"]).map V.str) ++ [V.str "Abcdefghijk", .str "abcdefghijk", .str "A\n", .int 0, .int 1, .int (-1), .int 2, .bl true, .bl false, .non, .ref e1, .ref e2, .ref e3, .ref e4, .ref e6]) ++ [V.ref f1, .ref f2, .ref f3, .ref f5, .int (10 ^ 30), .ref f6, .ref f8])) ho5
        have no5 := up w18 ho5
        have w19 := w18.go go5
        have c19 := c18.trans go5
        have re1 := (((((((((((go3.trans gf1).trans gf2).trans gf3).trans gf4).trans gf5).trans gf6).trans gf7).trans gf8).trans go4).trans go5)).tup pe1 (nn _)
        have re4 := (((((((((((go3.trans gf1).trans gf2).trans gf3).trans gf4).trans gf5).trans gf6).trans gf7).trans gf8).trans go4).trans go5)).tup pe4 (nn _)
        have re5 := (((((((((((go3.trans gf1).trans gf2).trans gf3).trans gf4).trans gf5).trans gf6).trans gf7).trans gf8).trans go4).trans go5)).tup pe5 (nn _)
        have re6 := (((((((((((go3.trans gf1).trans gf2).trans gf3).trans gf4).trans gf5).trans gf6).trans gf7).trans gf8).trans go4).trans go5)).tup pe6 (nn _)
        have re2 := (((((((((((go3.trans gf1).trans gf2).trans gf3).trans gf4).trans gf5).trans gf6).trans gf7).trans gf8).trans go4).trans go5)).lst pe2 (nn _)
        have re3 := (((((((((((go3.trans gf1).trans gf2).trans gf3).trans gf4).trans gf5).trans gf6).trans gf7).trans gf8).trans go4).trans go5)).gr _ _ pe3 (nn _) (fun _ z => by cases z)
        have rf1 := go5.tup pf1 (nn _)
        have rf3 := go5.tup pf3 (nn _)
        have rf4 := go5.tup pf4 (nn _)
        have rf5 := go5.tup pf5 (nn _)
        have rf6 := go5.tup pf6 (nn _)
        have rf7 := go5.tup pf7 (nn _)
        have rf2 := go5.lst pf2 (nn _)
        have rf8 := go5.tup pf8 (nn _)
        have vz := hv.go ((G2).trans c19.of0)
        have dz : DvAll [a, l] _ _ (oddD _) := DvAll.append (DvAll.append (DvAll.strs _) (.cons (.str _) (.cons (.str _) (.cons (.str _) (.cons (.int _) (.cons (.int _) (.cons (.int _) (.cons (.int _) (.cons (.bl _) (.cons (.bl _) (.cons .non (.cons (.tup re1 ne1 .nil) (.cons (.lst re2 ne2 .nil) (.cons (.dct re3 ne3) (.cons (.tup re4 ne4 (.cons (.str _) .nil)) (.cons (.tup re6 ne6 (.cons (.str _) (.cons (.tup re5 ne5 .nil) .nil))) .nil))))))))))))))))
          (.cons (.tup rf1 nf1 (.cons vz .nil)) (.cons (.lst rf2 nf2 (.cons vz .nil)) (.cons (.tup rf3 nf3 (.cons vz (.cons vz .nil))) (.cons (.tup rf5 nf5 (.cons (.str _) (.cons (.tup rf4 nf4 (.cons (.int _) (.cons (.int _) .nil))) .nil))) (.cons (.int _) (.cons (.tup rf6 nf6 (.cons (.int _) (.cons (.int _) .nil))) (.cons (.tup rf8 nf8 (.cons (.str _) (.cons (.tup rf7 nf7 .nil) .nil))) .nil)))))))
        refine ⟨_, rfl, _, rfl, _, rfl, o5, _, rfl, .inl (SqL.of upd_same), a, l, (k + 1), _, rfl, (show (0 : Int) < 36 by decide), (show (36 : Int) < 1073741824 by decide), by omega, w19, c19.tb ((G2).tb ht), fun iz Hz z0 z1 Wz gz tz => ?_⟩
        obtain ⟨vv, dd, ez, mz, hz⟩ := at_dv dz z0 z1
        exact ⟨o5, _, iz, vv, rfl, rfl, SqL.of (gz.lst upd_same no5), ez, q vv dd Hz (hz.go gz) (oddD_near hn mz) (Wz.up (by omega)) (((G2).trans c19.of0).trans gz) tz⟩
    | false =>
      refine iteT ?_
      refine ⟨_, rfl, a, l, k, 6, rfl, by decide, by decide, by omega, W.go g0, g0.tb ht, fun i1 H1 j0 j1 W1 g1 t1 => ⟨_, _, rfl, rfl, _, rfl, ?_⟩⟩
      by_cases c1 : (0 : Int) < i1
      · refine if_true_of (decide_eq_true c1) ?_
        subst ev
        have lpos : 0 < xs.length := by
          cases xs with
          | nil => cases exs
          | cons _ _ => exact Nat.succ_pos _
        have G1 := g0.of0.trans g1
        have e1 := G1.tup ep np
        refine ⟨_, rfl, _, rfl, _, xs, rfl, .inr (SqT.of e1), a, l, k + 1, _, rfl, by omega, by omega, by omega, W1, t1, fun at' H2 j20 j21 W2 g2 t2 => ?_⟩
        have G2 := G1.trans g2
        have e2 := G2.tup ep np
        obtain ⟨ai, rfl⟩ : ∃ j : Nat, at' = (j : Int) := ⟨at'.toNat, by omega⟩
        have hai : ai < xs.length := by omega
        have ex := List.getElem?_eq_getElem hai
        obtain ⟨d', ed, hv'⟩ := rr.get ex
        have md := List.mem_of_getElem? ed
        have wd := wt_mem md
        obtain ⟨D, eD⟩ : ∃ D, PyData.depthAll ds = D := ⟨_, rfl⟩
        have hD := depthAll_le.mp (Nat.le_of_eq eD) d' md
        have eD1 : (PyData.tuple ds).depth = D + 1 := by rw [← eD]; simp only [PyData.depth]
        have rr2 := rr.go G2
        refine ⟨_, rfl, _, rfl, _, rfl, sl_ok (T := T) (M := [a, l]) e2 np (fun r h => up W2 h) fun r1 H3 f1 n1 g3 => ?_⟩
        have e3 := g3.tup e2 (nn _)
        refine ⟨_, rfl, _, rfl, _, rfl, p, xs, ai, xs[ai], rfl, rfl, SqT.of e3, atI_nat ex, ?_⟩
        refine ⟨dep - 1, by omega, a, l, k + 1 + 1, xs[ai], d', n, rfl, by omega, W2.go g3, hv'.go (G2.trans g3.of0), nice_tup.mp hn d' md, hl, by omega, by omega, g3.tb t2, fun v4 d4 H4 hv4 nr4 W4 g4 t4 => ?_⟩
        have e4 := g4.tup e3 np
        have f1' := g4.tup f1 n1
        refine ⟨by show 1 ≤ sizeLine; decide, fun r2 hr2 => ?_⟩
        have g5 := Go.new (T := T) (M := []) (o := .tup [v4]) hr2
        have n2 := up W4 hr2
        refine cat_ok (T := T) (M := [a, l]) (g5.tup f1' (nn _)) upd_same n1 n2 (by have := cutV_len xs none (some (ai : Int)); simp only [List.length_cons, List.length_nil]; omega) (fun r h => up (W4.go g5) h) fun r3 H5 f3 n3 g6 => ?_
        have g56 := g5.trans g6
        have e5 := g56.tup e4 (nn _)
        refine ⟨_, rfl, _, rfl, _, _, rfl, rfl, _, rfl, ?_⟩
        try unfold tNoPart
        refine sl_ok (T := T) (M := [a, l]) e5 np (fun r h => up (W4.go g56) h) fun r4 H6 f4 n4 g7 => ?_
        have f3' := g7.tup f3 (nn _)
        refine cat_ok (T := T) (M := [a, l]) f3' f4 n3 n4 (by have := cutV_len xs none (some (ai : Int)); have := cutV_len xs (some ((ai : Int) + 1)) none; simp only [List.length_append, List.length_cons, List.length_nil]; omega) (fun r h => up ((W4.go g56).go g7) h) fun r5 H7 f5 n5 g8 => ?_
        have gAll := (g56.trans g7).trans g8
        have hds : DvAll [a, l] H7 ((cutV xs none (some (ai : Int)) ++ [v4]) ++ cutV xs (some ((ai : Int) + 1)) none) ((cutD ds none (some (ai : Int)) ++ [d4]) ++ cutD ds (some (((ai + 1 : Nat) : Int))) none) :=
          DvAll.append (DvAll.append ((((rr2.cutD none (some (ai : Int))).go g3.of0).go g4).go gAll.of0) (.cons (hv4.go gAll.of0) .nil)) ((((rr2.cutD (some ((ai + 1 : Nat) : Int)) none).go g3.of0).go g4).go gAll.of0)
        rw [cutD_lo (by omega), cutD_hi (by omega)] at hds
        exact q _ _ _ (.tup f5 n5 hds) (near_in hn ed nr4) ((W4.go gAll).up (by omega)) (((G2.trans g3.of0).trans g4).trans gAll.of0) (gAll.tb t4)
      · refine if_false_of (decide_eq_false c1) ?_
        refine ⟨_, rfl, _, _, _, rfl, hv.go (g0.of0.trans g1), ?_⟩
        refine ⟨_, rfl, iteT ?_⟩
        refine ⟨_, rfl, a, l, (k + 1), 3, rfl, by decide, by decide, by omega, W1, ((g0.of0.trans g1)).tb ht, fun i2 H2 j20 j21 W2 g2 t2 => ⟨_, _, rfl, rfl, _, rfl, ?_⟩⟩
        have G2 := ((g0.of0.trans g1)).trans g2
        by_cases c2 : (0 : Int) < i2
        · refine if_true_of (decide_eq_true c2) ?_
          subst ev
          have e2 := G2.tup ep np
          have rr2 := rr.go G2
          refine ⟨_, rfl, _, rfl, _, xs, rfl, .inr (SqT.of e2), _, _, rfl, rfl, a, l, (k + 1) + 1, _, rfl, by omega, by omega, by omega, W2, t2, fun at' H3 j30 j31 W3 g3 t3 => ?_⟩
          have G3 := G2.trans g3
          have e3 := G3.tup ep np
          have fr3 : ∀ {H' : Hp}, Go T [] H3 H' → ∀ r, H' r = none → r ∉ [a, l] := fun g r h => up (W3.go g) h
          have w0 := Go.refl (T := T) (M := []) (H := H3)
          have cl := fun lo hi => cutV_len xs lo hi
          refine ⟨_, rfl, _, rfl, _, rfl, sl_ok (T := T) (M := [a, l]) e3 np (fr3 w0) fun s1 K1' f1 n1 h1 => ?_⟩
          have w1 := w0.trans h1
          refine ⟨_, rfl, _, rfl, _, _, rfl, rfl, _, rfl, ?_⟩
          try unfold tNoPart
          refine sl_ok (T := T) (M := [a, l]) (w1.tup e3 (nn _)) np (fr3 w1) fun s2 K2' f2 n2 h2 => ?_
          have w2 := w1.trans h2
          refine cat_ok (T := T) (M := [a, l]) (h2.tup f1 (nn _)) f2 n1 n2 (by have := cl none (some at'); have := cl (some (at' + 1)) none; omega) (fr3 w2) fun s3 K3' f3 n3 h3 => ?_
          have w3 := w2.trans h3
          refine ⟨_, rfl, _, rfl, _, rfl, sl_ok (T := T) (M := [a, l]) (w3.tup e3 (nn _)) np (fr3 w3) fun s4 K4' f4 n4 h4 => ?_⟩
          have w4 := w3.trans h4
          refine ⟨_, rfl, _, rfl, _, rfl, _, rfl, _, _, rfl, rfl, _, rfl, sl_ok (T := T) (M := [a, l]) (w4.tup e3 (nn _)) np (fr3 w4) fun s5 K5' f5 n5 h5 => ?_⟩
          have w5 := w4.trans h5
          refine cat_ok (T := T) (M := [a, l]) (h5.tup f4 (nn _)) f5 n4 n5 (by have := cl none (some at'); have := cl (some at') (some (at' + 1)); omega) (fr3 w5) fun s6 K6' f6 n6 h6 => ?_
          have w6 := w5.trans h6
          refine ⟨_, rfl, _, rfl, _, rfl, ?_⟩
          try unfold tNoPart
          refine sl_ok (T := T) (M := [a, l]) (w6.tup e3 (nn _)) np (fr3 w6) fun s7 K7' f7 n7 h7 => ?_
          have w7 := w6.trans h7
          refine cat_ok (T := T) (M := [a, l]) (h7.tup f6 (nn _)) f7 n6 n7 (by have := cl none (some at'); have := cl (some at') (some (at' + 1)); have := cl (some at') none; rw [List.length_append]; omega) (fr3 w7) fun s8 K8' f8 n8 h8 => ?_
          have w8 := w7.trans h8
          refine ⟨_, rfl, _, rfl, _, rfl, ?_⟩
          try unfold tNoPart
          refine sl_ok (T := T) (M := [a, l]) (w8.tup e3 (nn _)) np (fr3 w8) fun s9 K9' f9 n9 h9 => ?_
          have w9 := w8.trans h9
          refine ⟨_, rfl, _, rfl, _, rfl, sl_ok (T := T) (M := [a, l]) (w9.tup e3 (nn _)) np (fr3 w9) fun s10 K10' f10 n10 h10 => ?_⟩
          have w10 := w9.trans h10
          refine cat_ok (T := T) (M := [a, l]) (h10.tup f9 (nn _)) f10 n9 n10 (by have := cl none (some at'); have := cl (some at') none; omega) (fr3 w10) fun s11 K11' f11 n11 h11 => ?_
          have w11 := w10.trans h11
          refine ⟨by show 3 ≤ sizeLine; decide, fun o1 ho1 => ?_⟩
          have h12 := Go.new (T := T) (M := []) (o := .lst [V.ref s3, .ref s8, .ref s11]) ho1
          have w12 := w11.trans h12
          refine ⟨_, rfl, _, rfl, p, xs, rfl, .inr (SqT.of (w12.tup e3 (nn _))), fun l1 hl1 => ?_⟩
          have h13 := Go.new (T := T) (M := []) (o := .lst xs) hl1
          have w13 := w12.trans h13
          have nl1 := fr3 w12 l1 hl1
          refine ⟨_, rfl, ?_⟩
          try unfold tC
          refine times_ok (T := T) (M := [a, l]) (j := 2) (w13.tup e3 (nn _)) np (by decide) (by decide) (by omega) (fr3 w13) fun s14 K14' f14 n14 h14 => ?_
          have w14 := w13.trans h14
          refine ⟨_, rfl, ?_⟩
          try unfold tC
          refine times_ok (T := T) (M := [a, l]) (j := 3) (w14.tup e3 (nn _)) np (by decide) (by decide) (by omega) (fr3 w14) fun s15 K15' f15 n15 h15 => ?_
          have w15 := w14.trans h15
          refine ⟨by show 3 ≤ sizeLine; decide, fun o2 ho2 => ?_⟩
          have h16 := Go.new (T := T) (M := []) (o := .lst [V.ref l1, .ref s14, .ref s15]) ho2
          have w16 := w15.trans h16
          have t13 := ((h13.trans h14).trans h15).trans h16
          refine ⟨o1, o2, [V.ref s3, .ref s8, .ref s11], [V.ref l1, .ref s14, .ref s15], rfl, rfl, t13.lst upd_same (nn _), upd_same, by show 6 ≤ sizeLine; decide, fun o3 ho3 => ?_⟩
          have h17 := Go.new (T := T) (M := []) (o := .lst ([V.ref s3, .ref s8, .ref s11] ++ [V.ref l1, .ref s14, .ref s15])) ho3
          have w17 := w16.trans h17
          have no3 := fr3 w16 o3 ho3
          have u16 := h16.trans h17
          have u15 := h15.trans u16
          have u14 := h14.trans u15
          have u13 := h13.trans u14
          have u12 := h12.trans u13
          have u9 := ((h9.trans h10).trans h11).trans u12
          have u4 := ((((h4.trans h5).trans h6).trans h7).trans h8).trans u9
          have hu : nice n (.tuple ds) = true := hn
          have dxs := rr2.go (g3.trans w17.of0)
          have dz : DvAll [a, l] _ [V.ref s3, .ref s8, .ref s11, .ref l1, .ref s14, .ref s15] [PyData.tuple (cutD ds none (some at') ++ cutD ds (some (at' + 1)) none), .tuple ((cutD ds none (some at') ++ cutD ds (some at') (some (at' + 1))) ++ cutD ds (some at') none), .tuple (cutD ds (some at') none ++ cutD ds none (some at')), .list ds, .tuple (List.replicate (2 : Int).toNat ds).flatten, .tuple (List.replicate (3 : Int).toNat ds).flatten] :=
            .cons (.tup (u4.tup f3 (nn _)) n3 (DvAll.append (dxs.cutD _ _) (dxs.cutD _ _)))
            (.cons (.tup (u9.tup f8 (nn _)) n8 (DvAll.append (DvAll.append (dxs.cutD _ _) (dxs.cutD _ _)) (dxs.cutD _ _)))
            (.cons (.tup (u12.tup f11 (nn _)) n11 (DvAll.append (dxs.cutD _ _) (dxs.cutD _ _)))
            (.cons (.lst (u14.lst upd_same (nn _)) nl1 dxs)
            (.cons (.tup (u15.tup f14 (nn _)) n14 (dxs.rep _))
            (.cons (.tup (u16.tup f15 (nn _)) n15 (dxs.rep _)) .nil)))))
          have near : ∀ z ∈ [PyData.tuple (cutD ds none (some at') ++ cutD ds (some (at' + 1)) none), .tuple ((cutD ds none (some at') ++ cutD ds (some at') (some (at' + 1))) ++ cutD ds (some at') none), .tuple (cutD ds (some at') none ++ cutD ds none (some at')), .list ds, .tuple (List.replicate (2 : Int).toNat ds).flatten, .tuple (List.replicate (3 : Int).toNat ds).flatten], nearOk n (.tuple ds) z := fun z hz => tup_ways hn hz
          refine ⟨_, rfl, a, l, (k + 1) + 1 + 1, 6, rfl, by decide, by decide, by omega, W3.go w17, w17.tb t3, fun iz Hz z0 z1 Wz gz tz => ?_⟩
          obtain ⟨vv, dd, ez, mz, hz⟩ := at_dv dz z0 (by exact z1)
          exact ⟨o3, _, iz, vv, rfl, rfl, SqL.of (gz.lst upd_same no3), ez, q vv dd Hz (hz.go gz) (near dd mz) (Wz.up (by omega)) ((G3.trans w17.of0).trans gz) tz⟩
        · refine if_false_of (decide_eq_false c2) ?_
          refine ⟨_, rfl, _, _, _, rfl, hv.go G2, _, rfl, iteF (iteF ?_)⟩
          refine ⟨_, rfl, _, _, _, rfl, hv.go G2, _, rfl, iteF (iteF ?_)⟩
          have w0 := W2
          have c0 := Go.refl (T := T) (M := []) (H := H2)
          refine ⟨by show 14 ≤ sizeLine; decide, fun o1 ho1 => ?_⟩
          have go1 := Go.new (T := T) (M := []) (o := .lst (([("" : Str), "number", "Number", "fun", "kind", "a", "A", "a1", "A1", "1A", "A_", "A b", "Abcdefghij", "abcdefghij"]).map V.str)) ho1
          have no1 := up w0 ho1
          have w1 := w0.go go1
          have c1 := c0.trans go1
          refine ⟨_, rfl, _, rfl, by show 0 ≤ sizeLine; omega, fun e1 he1 => ⟨by show 0 ≤ sizeLine; omega, fun e2 he2 => fun e3 he3 => ⟨by show 1 ≤ sizeLine; decide, fun e4 he4 => ⟨by show 0 ≤ sizeLine; omega, fun e5 he5 => ⟨by show 2 ≤ sizeLine; decide, fun e6 he6 => ⟨by show 15 ≤ sizeLine; decide, fun o2 ho2 => ?_⟩⟩⟩⟩⟩⟩
          have ge1 := Go.new (T := T) (M := []) (o := .tup []) he1
          have ne1 := up w1 he1
          have w2 := w1.go ge1
          have c2 := c1.trans ge1
          have ge2 := Go.new (T := T) (M := []) (o := .lst []) he2
          have ne2 := up w2 he2
          have w3 := w2.go ge2
          have c3 := c2.trans ge2
          have ge3 := Go.new (T := T) (M := []) (o := .dK []) he3
          have ne3 := up w3 he3
          have w4 := w3.go ge3
          have c4 := c3.trans ge3
          have ge4 := Go.new (T := T) (M := []) (o := .tup [.str "A"]) he4
          have ne4 := up w4 he4
          have w5 := w4.go ge4
          have c5 := c4.trans ge4
          have ge5 := Go.new (T := T) (M := []) (o := .tup []) he5
          have ne5 := up w5 he5
          have w6 := w5.go ge5
          have c6 := c5.trans ge5
          have ge6 := Go.new (T := T) (M := []) (o := .tup [.str "A", .ref e5]) he6
          have ne6 := up w6 he6
          have w7 := w6.go ge6
          have c7 := c6.trans ge6
          have go2 := Go.new (T := T) (M := []) (o := .lst [.str "Abcdefghijk", .str "abcdefghijk", .str "A\n", .int 0, .int 1, .int (-1), .int 2, .bl true, .bl false, .non, .ref e1, .ref e2, .ref e3, .ref e4, .ref e6]) ho2
          have no2 := up w7 ho2
          have w8 := w7.go go2
          have c8 := c7.trans go2
          have po1 := (((((((ge1.trans ge2).trans ge3).trans ge4).trans ge5).trans ge6).trans go2)).lst upd_same (nn _)
          have pe1 := ((((((ge2.trans ge3).trans ge4).trans ge5).trans ge6).trans go2)).tup upd_same (nn _)
          have pe2 := (((((ge3.trans ge4).trans ge5).trans ge6).trans go2)).lst upd_same (nn _)
          have pe3 := ((((ge4.trans ge5).trans ge6).trans go2)).gr _ _ (upd_same (a := e3) (o := .dK [])) (nn _) (fun _ z => by cases z)
          have pe4 := (((ge5.trans ge6).trans go2)).tup upd_same (nn _)
          have pe5 := ((ge6.trans go2)).tup upd_same (nn _)
          have pe6 := (go2).tup upd_same (nn _)
          refine ⟨o1, o2, (([("" : Str), "number", "Number", "fun", "kind", "a", "A", "a1", "A1", "1A", "A_", "A b", "Abcdefghij", "abcdefghij"]).map V.str), [V.str "Abcdefghijk", .str "abcdefghijk", .str "A\n", .int 0, .int 1, .int (-1), .int 2, .bl true, .bl false, .non, .ref e1, .ref e2, .ref e3, .ref e4, .ref e6], rfl, rfl, po1, upd_same, by show 29 ≤ sizeLine; decide, fun o3 ho3 => ?_⟩
          have go3 := Go.new (T := T) (M := []) (o := .lst ((([("" : Str), "number", "Number", "fun", "kind", "a", "A", "a1", "A1", "1A", "A_", "A b", "Abcdefghij", "abcdefghij"]).map V.str) ++ [V.str "Abcdefghijk", .str "abcdefghijk", .str "A\n", .int 0, .int 1, .int (-1), .int 2, .bl true, .bl false, .non, .ref e1, .ref e2, .ref e3, .ref e4, .ref e6])) ho3
          have no3 := up w8 ho3
          have w9 := w8.go go3
          have c9 := c8.trans go3
          refine ⟨_, rfl, _, rfl, by show 1 ≤ sizeLine; decide, fun f1 hf1 => ⟨_, rfl, by show 1 ≤ sizeLine; decide, fun f2 hf2 => ⟨_, rfl, _, rfl, by show 2 ≤ sizeLine; decide, fun f3 hf3 => ⟨by show 2 ≤ sizeLine; decide, fun f4 hf4 => ⟨by show 2 ≤ sizeLine; decide, fun f5 hf5 => ⟨_, _, rfl, rfl, ⟨by decide, by decide, by decide⟩, by show 2 ≤ sizeLine; decide, fun f6 hf6 => ⟨by show 0 ≤ sizeLine; omega, fun f7 hf7 => ⟨by show 2 ≤ sizeLine; decide, fun f8 hf8 => ⟨by show 7 ≤ sizeLine; decide, fun o4 ho4 => ?_⟩⟩⟩⟩⟩⟩⟩⟩⟩
          have gf1 := Go.new (T := T) (M := []) (o := .tup [v]) hf1
          have nf1 := up w9 hf1
          have w10 := w9.go gf1
          have c10 := c9.trans gf1
          have gf2 := Go.new (T := T) (M := []) (o := .lst [v]) hf2
          have nf2 := up w10 hf2
          have w11 := w10.go gf2
          have c11 := c10.trans gf2
          have gf3 := Go.new (T := T) (M := []) (o := .tup [v, v]) hf3
          have nf3 := up w11 hf3
          have w12 := w11.go gf3
          have c12 := c11.trans gf3
          have gf4 := Go.new (T := T) (M := []) (o := .tup [.int 1, .int 1]) hf4
          have nf4 := up w12 hf4
          have w13 := w12.go gf4
          have c13 := c12.trans gf4
          have gf5 := Go.new (T := T) (M := []) (o := .tup [.str "num", .ref f4]) hf5
          have nf5 := up w13 hf5
          have w14 := w13.go gf5
          have c14 := c13.trans gf5
          have gf6 := Go.new (T := T) (M := []) (o := .tup [.int 0, .int 1]) hf6
          have nf6 := up w14 hf6
          have w15 := w14.go gf6
          have c15 := c14.trans gf6
          have gf7 := Go.new (T := T) (M := []) (o := .tup []) hf7
          have nf7 := up w15 hf7
          have w16 := w15.go gf7
          have c16 := c15.trans gf7
          have gf8 := Go.new (T := T) (M := []) (o := .tup [.str "Fun", .ref f7]) hf8
          have nf8 := up w16 hf8
          have w17 := w16.go gf8
          have c17 := c16.trans gf8
          have go4 := Go.new (T := T) (M := []) (o := .lst [V.ref f1, .ref f2, .ref f3, .ref f5, .int (10 ^ 30), .ref f6, .ref f8]) ho4
          have no4 := up w17 ho4
          have w18 := w17.go go4
          have c18 := c17.trans go4
          have po3 := (((((((((gf1.trans gf2).trans gf3).trans gf4).trans gf5).trans gf6).trans gf7).trans gf8).trans go4)).lst upd_same (nn _)
          have pf1 := ((((((((gf2.trans gf3).trans gf4).trans gf5).trans gf6).trans gf7).trans gf8).trans go4)).tup upd_same (nn _)
          have pf2 := (((((((gf3.trans gf4).trans gf5).trans gf6).trans gf7).trans gf8).trans go4)).lst upd_same (nn _)
          have pf3 := ((((((gf4.trans gf5).trans gf6).trans gf7).trans gf8).trans go4)).tup upd_same (nn _)
          have pf4 := (((((gf5.trans gf6).trans gf7).trans gf8).trans go4)).tup upd_same (nn _)
          have pf5 := ((((gf6.trans gf7).trans gf8).trans go4)).tup upd_same (nn _)
          have pf6 := (((gf7.trans gf8).trans go4)).tup upd_same (nn _)
          have pf7 := ((gf8.trans go4)).tup upd_same (nn _)
          have pf8 := (go4).tup upd_same (nn _)
          refine ⟨o3, o4, ((([("" : Str), "number", "Number", "fun", "kind", "a", "A", "a1", "A1", "1A", "A_", "A b", "Abcdefghij", "abcdefghij"]).map V.str) ++ [V.str "Abcdefghijk", .str "abcdefghijk", .str "A\n", .int 0, .int 1, .int (-1), .int 2, .bl true, .bl false, .non, .ref e1, .ref e2, .ref e3, .ref e4, .ref e6]), [V.ref f1, .ref f2, .ref f3, .ref f5, .int (10 ^ 30), .ref f6, .ref f8], rfl, rfl, po3, upd_same, by show 36 ≤ sizeLine; decide, fun o5 ho5 => ?_⟩
          have go5 := Go.new (T := T) (M := []) (o := .lst (((([("" : Str), "number", "Number", "fun", "kind", "a", "A", "a1", "A1", "1A", "A_", "A b", "Abcdefghij", "abcdefghij"]).map V.str) ++ [V.str "Abcdefghijk", .str "abcdefghijk", .str "A\n", .int 0, .int 1, .int (-1), .int 2, .bl true, .bl false, .non, .ref e1, .ref e2, .ref e3, .ref e4, .ref e6]) ++ [V.ref f1, .ref f2, .ref f3, .ref f5, .int (10 ^ 30), .ref f6, .ref f8])) ho5
          have no5 := up w18 ho5
          have w19 := w18.go go5
          have c19 := c18.trans go5
          have re1 := (((((((((((go3.trans gf1).trans gf2).trans gf3).trans gf4).trans gf5).trans gf6).trans gf7).trans gf8).trans go4).trans go5)).tup pe1 (nn _)
          have re4 := (((((((((((go3.trans gf1).trans gf2).trans gf3).trans gf4).trans gf5).trans gf6).trans gf7).trans gf8).trans go4).trans go5)).tup pe4 (nn _)
          have re5 := (((((((((((go3.trans gf1).trans gf2).trans gf3).trans gf4).trans gf5).trans gf6).trans gf7).trans gf8).trans go4).trans go5)).tup pe5 (nn _)
          have re6 := (((((((((((go3.trans gf1).trans gf2).trans gf3).trans gf4).trans gf5).trans gf6).trans gf7).trans gf8).trans go4).trans go5)).tup pe6 (nn _)
          have re2 := (((((((((((go3.trans gf1).trans gf2).trans gf3).trans gf4).trans gf5).trans gf6).trans gf7).trans gf8).trans go4).trans go5)).lst pe2 (nn _)
          have re3 := (((((((((((go3.trans gf1).trans gf2).trans gf3).trans gf4).trans gf5).trans gf6).trans gf7).trans gf8).trans go4).trans go5)).gr _ _ pe3 (nn _) (fun _ z => by cases z)
          have rf1 := go5.tup pf1 (nn _)
          have rf3 := go5.tup pf3 (nn _)
          have rf4 := go5.tup pf4 (nn _)
          have rf5 := go5.tup pf5 (nn _)
          have rf6 := go5.tup pf6 (nn _)
          have rf7 := go5.tup pf7 (nn _)
          have rf2 := go5.lst pf2 (nn _)
          have rf8 := go5.tup pf8 (nn _)
          have vz := hv.go ((G2).trans c19.of0)
          have dz : DvAll [a, l] _ _ (oddD _) := DvAll.append (DvAll.append (DvAll.strs _) (.cons (.str _) (.cons (.str _) (.cons (.str _) (.cons (.int _) (.cons (.int _) (.cons (.int _) (.cons (.int _) (.cons (.bl _) (.cons (.bl _) (.cons .non (.cons (.tup re1 ne1 .nil) (.cons (.lst re2 ne2 .nil) (.cons (.dct re3 ne3) (.cons (.tup re4 ne4 (.cons (.str _) .nil)) (.cons (.tup re6 ne6 (.cons (.str _) (.cons (.tup re5 ne5 .nil) .nil))) .nil))))))))))))))))
            (.cons (.tup rf1 nf1 (.cons vz .nil)) (.cons (.lst rf2 nf2 (.cons vz .nil)) (.cons (.tup rf3 nf3 (.cons vz (.cons vz .nil))) (.cons (.tup rf5 nf5 (.cons (.str _) (.cons (.tup rf4 nf4 (.cons (.int _) (.cons (.int _) .nil))) .nil))) (.cons (.int _) (.cons (.tup rf6 nf6 (.cons (.int _) (.cons (.int _) .nil))) (.cons (.tup rf8 nf8 (.cons (.str _) (.cons (.tup rf7 nf7 .nil) .nil))) .nil)))))))
          refine ⟨_, rfl, _, rfl, _, rfl, o5, _, rfl, .inl (SqL.of upd_same), a, l, ((k + 1) + 1), _, rfl, (show (0 : Int) < 36 by decide), (show (36 : Int) < 1073741824 by decide), by omega, w19, c19.tb ((G2).tb ht), fun iz Hz z0 z1 Wz gz tz => ?_⟩
          obtain ⟨vv, dd, ez, mz, hz⟩ := at_dv dz z0 z1
          exact ⟨o5, _, iz, vv, rfl, rfl, SqL.of (gz.lst upd_same no5), ez, q vv dd Hz (hz.go gz) (oddD_near hn mz) (Wz.up (by omega)) (((G2).trans c19.of0).trans gz) tz⟩
end
end K2
set_option Elab.async false
set_option linter.all false
set_option maxRecDepth 100000
set_option maxHeartbeats 4000000
/-! k02: _law_value_right -/
namespace K2
open PySem PySem.Spec PyProof.Rows L2 GxR NdefX GA SL RZ
variable [SL.LamT]
abbrev s_law_value_right : Stmt := top 54
abbrev NVR : List Str := ["family", "title", "value", "good", "copied", "due", "told", "door", "found", "k"]
theorem sc_law_value_right : FnScope NVR ["family", "title", "value", "good"] (defScope s_law_value_right) := ⟨rfl, rfl, rfl, by decide +kernel, rfl, by decide +kernel, by decide +kernel⟩
/-- None, or a tree -/
def goodV (ks : List PyData) (f : Str) (H : Hp) (gv : V) : Prop := gv = .non ∨ ∃ e, Dv [] H gv e ∧ treeB ks f e = true ∧ gv ≠ .non
theorem goodV.go {ks : List PyData} {f : Str} {T : List Addr} {H H' : Hp} {gv : V} (h : goodV ks f H gv) (g : Go T [] H H') : goodV ks f H' gv := h.imp id fun ⟨e, h1, h2, h3⟩ => ⟨e, h1.go g, h2, h3⟩
def sp_value (T : List Addr) : Sp := fun vs H Q _ => ∃ (kv tv gv : V) (ks : List PyData) (f : Str) (d : PyData) (n : Nat), vs = [kv, .str f, tv, gv] ∧ AskK T H kv ks f ∧ Dv [] H tv d ∧ goodV ks f H gv ∧ Lams T H ∧ nice n (.tuple [.tuple ks, d]) = true ∧ n.log2 < 1920 ∧ wt (.tuple [.tuple ks, d]) ≤ 4000000 ∧ (PyData.tuple [.tuple ks, d]).depth ≤ 100 ∧ ∀ H', Go T [] H H' → Tabs T H' → Q (.bl true) H'
section
variable {P : Program} {w : World} {K : PySem.W.Frag} {mg : Str → Option Value} {base : Heap} {f c : Addr} {fd : FuncData} {T : List Addr}
theorem ok_law_value_right (F : FunT K "_law_value_right" "_law_value_right" s_law_value_right f fd c) (B : Bl mg) (hS : ∃ o, base.get? sysModules = some o) (Ft : Fnn P w K mg base CX0 1 "_law_table" ["family"] (sp_makers_of T)) (Fl : Fnn P w K mg base CX0 1 "_law_is_tree" ["table", "title", "value"] (sp_law_is_tree T))
    (Fi : Fnn P w K mg base CX0 12 "is_tree" ["kinds", "kind", "thing"] (sp_is_treeG T)) (Fik : Fnw P w K mg base CX0 12 "is_tree" ["kinds", "kind", "thing"] (sp_is_treeG T)) (Fs : Fnn P w K mg base CX0 1 "_law_is" ["found", "due"] sp_law_is) (Fd : Fnn P w K mg base CX0 15 "_law_door" ["door", "family", "title", "value", "good"] (sp_door T)) : FnG P w K mg base 16 f fd ["family", "title", "value", "good"] (sp_value T) := by
  have nd := sc_law_value_right.nd
  refine F.okG sc_law_value_right (fun vs H Q h => ?_) (fun A outer s H vs Q hG hr h => ?_)
  · obtain ⟨_, _, _, _, _, _, _, rfl, _⟩ := h
    rfl
  obtain ⟨kv, tv, gv, ks, f', d, n, rfl, hA, hT, hgv, hL, hn, hl, hw, hd, q⟩ := h
  have nn : ∀ b : Addr, b ∉ ([] : List Addr) := fun b => List.not_mem_nil
  have hu64 : (A.deeper (envOfC "_law_value_right" (defScope s_law_value_right) s.heap.objs.size f (.ref c))).units + 64 < cLine := by
    have := hr.un
    omega
  refine ⟨_, (pss_cons (ps_set (i := 4) nd rfl (Or.inl rfl) (pe_repr B hG hr hS (pe_tup (pa_cons (pv 0) (pa_cons (pv 2) pa_nil)))))
    (pss_cons (ps_set (i := 5) nd rfl (Or.inr rfl) (pe_fn Fl hr (by decide) pass0 (pa_cons (pe_fn Ft hr (by decide) pass0 (pa_cons (pv 0) pa_nil)) (pa_cons (pv 1) (pa_cons (pv 2) pa_nil)))))
    (pss_cons (ps_set (i := 6) nd rfl (Or.inl rfl) (pe_lst (pa_cons (pe_fn Fi hr (by decide) pass0 (pa_cons (pv 0) (pa_cons (pv 1) (pa_cons (pv 2) pa_nil)))) (pa_cons (pe_kw Fik hr (by decide) (fun σ => pass0S σ) (pk_cons (pv 0) (pk_cons (pv 1) (pk_cons (pv 2) pk_nil)))) pa_nil))))
    (pss_cons (ps_if (pt_not (pt_val (pe_allL rfl B (pe_lc (own := [("found", 8)]) (g := gName 8) (tt := tYes) rfl nd (pi_list (pv 6)) (blkOk_by (own := [("found", 8)]) (N := NVR) (sc := defScope s_law_value_right) (by decide +kernel))
        (fun _ _ _ _ _ => (pg_name (i := 8) nd rfl (Or.inl rfl))) (fun _ _ _ _ _ => pts_nil) (fun _ _ _ _ _ => (pe_fn Fs hr (by decide) pass0 (pa_cons (pv 8) (pa_cons (pv 5) pa_nil)))))))) (pss_one (ps_ret pe_bl)) pss_nil)
    (pss_cons (ps_set (i := 7) nd rfl (Or.inl rfl) (pe_ix ix_list (pe_lst (pa_cons (pe_op op_rep (pe_lst (pa_cons pe_str pa_nil)) pe_int) (pa_cons (pe_op op_rep (pe_lst (pa_cons pe_str pa_nil)) pe_int) pa_nil))) (pe_toInt B (pe_not (pv 5))) (fun _ _ => rfl)))
    (pss_cons (ps_if (PW.pt (pw_and (pt_cmpR op_notN1 (pv 3) pe_non (nomark _)) (pw_and1 (pt_cmpR (op_neD hu64) (pe_lc (own := [("k", 9)]) (g := gName 9) (tt := tYes) rfl nd (pi_range1 rfl B.range (pa_cons pe_int pa_nil)) (blkOk_by (own := [("k", 9)]) (N := NVR) (sc := defScope s_law_value_right) (by decide +kernel)) (fun _ _ _ _ _ => (pg_name (i := 9) nd rfl (Or.inl rfl))) (fun _ _ _ _ _ => pts_nil) (fun _ _ _ _ _ => (pe_fn Fd hr (by decide) pass0 (pa_cons (pv 9) (pa_cons (pv 0) (pa_cons (pv 1) (pa_cons (pv 2) (pa_cons (pv 3) pa_nil))))))))
        (pv 7) (nomark _))))) (pss_one (ps_ret pe_bl)) pss_nil)
    (pss_one (ps_ret (pe_cmpR op_eq (pe_repr B hG hr hS (pe_tup (pa_cons (pv 0) (pa_cons (pv 2) pa_nil)))) (pv 4) (nomark _)))))))))), ?_⟩
  have both : ∀ {H' : Hp} {p : Addr}, AskK T H' kv ks f' → Dv [] H' tv d → H' p = none → Dv [] (upd H' p (.tup [kv, tv])) (.ref p) (.tuple [.tuple ks, d]) := fun {H' p} hA hT hp => by
    have u := Go.new (T := T) (M := []) (o := .tup [kv, tv]) hp
    exact .tup upd_same (nn _) (.cons (hA.k.go u) (.cons (hT.go u) .nil))
  refine ⟨_, rfl, _, rfl, by show 2 ≤ sizeLine; decide, fun tp htp => ?_⟩
  have g0 : Go T [] H _ := Go.new (T := T) (M := []) (o := .tup [kv, tv]) htp
  refine ⟨.ref tp, [], _, n, rfl, both hA hT htp, hn, hl, hw, hd, ?_⟩
  have hA0 := hA.go g0
  generalize upd H tp (.tup [kv, tv]) = H0 at *
  refine ⟨_, rfl, kv, ks, rfl, hA0.k, hA0.b, hA0.t, fun D H1 hD0 hD g1 t1 => ?_⟩
  have G1 := g0.trans g1
  refine ⟨_, rfl, _, rfl, D, tv, ks, f', d, rfl, hD, hT.go G1, hA.b, t1, fun H2 g2 t2 => ?_⟩
  have G2 := G1.trans g2
  refine ⟨_, rfl, _, rfl, _, rfl, kv, tv, ks, f', d, rfl, hA.go G2, hT.go G2, fun H3 g3 t3 => ?_⟩
  have G3 := G2.trans g3
  refine ⟨_, rfl, _, rfl, _, rfl, kv, tv, ks, f', d, rfl, hA.go G3, hT.go G3, fun H4 g4 t4 => ?_⟩
  have G4 := G3.trans g4
  refine ⟨by show 2 ≤ sizeLine; decide, fun tl htl => ?_⟩
  have u5 := Go.new (T := T) (M := []) (o := .lst [.bl (treeB ks f' d), .bl (treeB ks f' d)]) htl
  have e5 := upd_same (H := H4) (a := tl) (o := .lst [V.bl (treeB ks f' d), .bl (treeB ks f' d)])
  have G5 := G4.trans u5
  generalize upd H4 tl (.lst [V.bl (treeB ks f' d), .bl (treeB ks f' d)]) = H5 at *
  refine ⟨_, rfl, tl, rfl, ⟨_, SqL.of e5⟩, fun D2 hD2 => ?_⟩
  refine lc_map (T := T) (fun _ => .bl true) (walk_list (xs := [.bl (treeB ks f' d), .bl (treeB ks f' d)])) (fun H6 g6 => SqL.of (g6.lst e5 (nn _))) (G5.tb hA.t) Go.refl hD2 (by show 2 ≤ sizeLine; decide) (fun i x H6 H7 R hi g6 t6 y hR => ?_) (fun H6 g6 t6 ed => ?_)
  · obtain ⟨rfl, ex⟩ := y
    have : x = .bl (treeB ks f' d) := by
      have hm := List.mem_of_getElem? ex
      simpa using hm
    subst this
    refine ⟨rfl, _, rfl, _, rfl, _, _, rfl, ?_⟩
    rw [decide_eq_true rfl]
    exact hR _ Go.refl
  refine ⟨D2, [true, true], rfl, SqL.of ed, _, rfl, ?_⟩
  refine iteF ?_
  have G6 := G5.trans g6
  -- the doors due
  refine ⟨by show 1 ≤ sizeLine; decide, fun l1 hl1 => ?_⟩
  have v1 := Go.new (T := T) (M := []) (o := .lst [V.str "let"]) hl1
  refine ⟨l1, 3, _, rfl, rfl, upd_same, by decide, by decide, by show 1 * 3 ≤ sizeLine; decide, fun r1 hr1 => ?_⟩
  have w1 := Go.new (T := T) (M := []) (o := .lst (List.replicate (3 : Int).toNat [V.str "let"]).flatten) hr1
  have f1 := upd_same (H := upd H6 l1 (.lst [V.str "let"])) (a := r1) (o := .lst (List.replicate (3 : Int).toNat [V.str "let"]).flatten)
  have W1 := v1.trans w1
  generalize upd (upd H6 l1 (.lst [V.str "let"])) r1 (.lst (List.replicate (3 : Int).toNat [V.str "let"]).flatten) = H7 at *
  refine ⟨by show 1 ≤ sizeLine; decide, fun l2 hl2 => ?_⟩
  have v2 := Go.new (T := T) (M := []) (o := .lst [V.str "tree"]) hl2
  refine ⟨l2, 3, _, rfl, rfl, upd_same, by decide, by decide, by show 1 * 3 ≤ sizeLine; decide, fun r2 hr2 => ?_⟩
  have w2 := Go.new (T := T) (M := []) (o := .lst (List.replicate (3 : Int).toNat [V.str "tree"]).flatten) hr2
  have f2 := upd_same (H := upd H7 l2 (.lst [V.str "tree"])) (a := r2) (o := .lst (List.replicate (3 : Int).toNat [V.str "tree"]).flatten)
  have W2 := v2.trans w2
  have f1' := W2.lst f1 (nn _)
  have W3 := W1.trans W2
  generalize upd (upd H7 l2 (.lst [V.str "tree"])) r2 (.lst (List.replicate (3 : Int).toNat [V.str "tree"]).flatten) = H8 at *
  refine ⟨by show 2 ≤ sizeLine; decide, fun l3 hl3 => ?_⟩
  have v3 := Go.new (T := T) (M := []) (o := .lst [V.ref r1, .ref r2]) hl3
  have f3 := upd_same (H := H8) (a := l3) (o := .lst [V.ref r1, .ref r2])
  have f1'' := v3.lst f1' (nn _)
  have f2'' := v3.lst f2 (nn _)
  have W4 := W3.trans v3
  have G9 := G6.trans W4
  generalize upd H8 l3 (.lst [V.ref r1, .ref r2]) = H9 at *
  have hst : ∀ (l : List Str) (H' : Hp) (a : Addr), H' a = some (.lst (l.map V.str)) → Dp K H' (.ref a) (.list (l.map .str)) := fun l H' a e => .lst (SqL.of e) (by
    clear e
    induction l with
    | nil => exact .nil
    | cons x r ih => exact .cons (.str x) ih)
  have fin : ∀ H', Go T [] H H' → ∀ tq, H' tq = none → Q (.bl true) (upd H' tq (.tup [kv, tv])) := fun H' g' tq htq => by
    have u := g'.trans (Go.new (T := T) (M := []) (o := .tup [kv, tv]) htq)
    exact q _ u (u.tb hA.t)
  obtain ⟨rd, erd, fd9, sd⟩ : ∃ rd, (atI [V.ref r1, .ref r2] (if (!treeB ks f' d) = true then 1 else 0) = some (.ref rd)) ∧ H9 rd = some (.lst ((List.replicate 3 (doorS (treeB ks f' d))).map V.str)) ∧ True := by
    cases treeB ks f' d with
    | true => exact ⟨r1, atI_nat (j := 0) rfl, f1'', trivial⟩
    | false => exact ⟨r2, atI_nat (j := 1) rfl, f2'', trivial⟩
  refine ⟨_, rfl, _, rfl, .inr ⟨_, rfl, ?_⟩⟩
  refine ⟨l3, _, _, _, rfl, rfl, SqL.of f3, erd, ?_⟩
  have close : ∀ H10, Go T [] H H10 → ∃ x : V, True := fun _ _ => ⟨.non, trivial⟩
  refine ⟨_, rfl, rfl, _, rfl, ?_⟩
  rcases hgv with rfl | ⟨e, he, hte, hne⟩
  · refine iteF ?_
    refine ⟨_, rfl, _, rfl, by show 2 ≤ sizeLine; decide, fun tq htq => ?_⟩
    refine ⟨.ref tq, [], _, n, rfl, both (hA.go G9) (hT.go G9) htq, hn, hl, hw, hd, ?_⟩
    refine ⟨_, rfl, rfl, ?_⟩
    rw [decide_eq_true rfl]
    exact fin _ G9 tq htq
  · refine if_true_of (by simp [hne]) ?_
    refine ⟨3, rfl, by decide, by decide, fun D3 hD3 => ?_⟩
    refine lc_map (T := T) (fun _ => .str (doorS (treeB ks f' d))) (walk_range (lo := 0) (n := 3)) (fun _ _ => trivial) (G9.tb hA.t) Go.refl hD3 (by show 3 ≤ sizeLine; decide) (fun i x H10 H11 R hi g10 t10 y hR => ?_) (fun H10 g10 t10 ed10 => ?_)
    · obtain ⟨rfl, rfl⟩ := y
      have G10 := G9.trans g10
      exact ⟨rfl, _, rfl, _, rfl, _, rfl, _, rfl, _, rfl, _, kv, tv, gv, ks, f', d, e, rfl, hA.go G10, hT.go G10, he.go G10, hte, G10.lm hL, fun H12 g12 t12 => hR H12 g12⟩
    have G10 := G9.trans g10
    have f10 := g10.lst fd9 (nn _)
    refine ⟨_, rfl, .list ((List.replicate 3 (doorS (treeB ks f' d))).map .str), .list ((List.replicate 3 (doorS (treeB ks f' d))).map .str), hst _ _ _ ed10, hst _ _ _ f10, by cases treeB ks f' d <;> decide +kernel, by cases treeB ks f' d <;> decide +kernel, _, rfl, ?_⟩
    refine if_false_of (by cases treeB ks f' d <;> decide +kernel) ?_
    refine ⟨_, rfl, _, rfl, by show 2 ≤ sizeLine; decide, fun tq htq => ?_⟩
    refine ⟨.ref tq, [], _, n, rfl, both (hA.go G10) (hT.go G10) htq, hn, hl, hw, hd, ?_⟩
    refine ⟨_, rfl, rfl, ?_⟩
    rw [decide_eq_true rfl]
    exact fin _ G10 tq htq
end
end K2
set_option Elab.async false
set_option linter.all false
set_option maxRecDepth 100000
set_option maxHeartbeats 4000000
/-! k02: _law_titles_right -/
namespace SL
open PySem PySem.Spec PyProof.Rows L2 GxR NdefX GA RZ
/-- a value that is locked from here on -/
def tLk (t : TE) : TE := fun σ H Q => t σ H fun x H1 => ∃ d u, x = .ref d ∧ H1 d = some u ∧ Mut (some u) ∧ ∀ od, Q x (upd H1 d (.frz od u))
theorem pe_lk {X : Cx} {e : Expr} {t : TE} (h : PE X e t) : PE X e (tLk t) := by
  refine ⟨fun pins s σ H Q I hw => ?_⟩
  refine thn (h.run pins s σ _ _ I hw) fun v s1 ⟨x, H1, I2, r, d, u, e1, hd, mu, q⟩ => ?_
  obtain ⟨od, I3⟩ := I2.lock hd mu
  exact ⟨x, _, I3, r, q od⟩
end SL
namespace K2
open PySem PySem.Spec PyProof.Rows L2 GxR NdefX GA SL RZ
variable [SL.LamT]
abbrev s_law_titles : Stmt := top 55
abbrev NTR : List Str := ["well", "family", "value", "title", "titles", "values", "due", "found", "bad", "makers", "maker", "one_bad"]
theorem sc_law_titles : FnScope NTR ["well", "family", "value"] (defScope s_law_titles) := ⟨rfl, rfl, rfl, by decide +kernel, rfl, by decide +kernel, by decide +kernel⟩
def sp_titles (T : List Addr) : Sp := fun vs H Q _ => ∃ (wv kv tv : V) (ks : List PyData) (d : PyData), vs = [wv, kv, tv] ∧ Dv [] H kv (.tuple ks) ∧ kindsB (.tuple ks) = true ∧ wt (.tuple ks) ≤ 1000000 ∧ Dv [] H tv d ∧ Tabs T H ∧ ∀ H', Go T [] H H' → Tabs T H' → Q (.bl true) H'
theorem Ents.keys {M : List Addr} {H : Hp} {kvs : List (Key × V)} {rs : List MRow} (h : Ents M H kvs rs) : kvs.map (fun kv => kV kv.1) = (namesM rs).map V.str := by
  induction h with
  | nil => rfl
  | cons _ _ _ _ ih => rw [List.map_cons, ih] <;> rfl
theorem strs_dv {M : List Addr} {H : Hp} : ∀ xs : List Str, DvAll M H (xs.map V.str) (xs.map .str)
  | [] => .nil
  | x :: xs => .cons (.str x) (strs_dv xs)
def badK (ks : List PyData) : List PyData := [ks.headD .none, .list ks, .tuple [], .none, .tuple (ks ++ SL.cutD ks none (some 1))]
theorem kindB_str (k : PyData) (h : kindB k = true) : kindsB k = false := by
  obtain ⟨x, ms, rfl, _⟩ := kind_of h
  simp only [kindsB, itemsD, List.all_cons]
  rw [show kindB (.str x) = false from rfl]
  simp
theorem unl_twice {x : PyData} {xs : List PyData} (h : x ∈ xs) : unl (xs ++ [x]) = false := by
  cases c : unl (xs ++ [x]) with
  | false => rfl
  | true =>
    have := of_decide_eq_true c
    rw [List.map_append, List.nodup_append] at this
    exact absurd rfl (this.2.2 (strD x) (List.mem_map.mpr ⟨x, h, rfl⟩) (strD x) (List.mem_singleton.mpr rfl))
theorem badK_no {ks : List PyData} (h : kindsB (.tuple ks) = true) : ∀ b ∈ badK ks, kindsB b = false := by
  intro b hb
  obtain ⟨_, hk, _⟩ := kinds_names h
  unfold badK at hb
  simp only [List.mem_cons, List.not_mem_nil, or_false] at hb
  have ne : ∃ k r, ks = k :: r := by
    cases ks with
    | nil => simp [kindsB, tupB] at h
    | cons k r => exact ⟨k, r, rfl⟩
  obtain ⟨k, r, rfl⟩ := ne
  rcases hb with rfl | rfl | rfl | rfl | rfl
  · exact kindB_str _ (hk _ List.mem_cons_self)
  · rfl
  · rfl
  · rfl
  · have e : unl (titlesD (.tuple ((k :: r) ++ SL.cutD (k :: r) none (some 1)))) = false := by
      rw [show SL.cutD (k :: r) none (some 1) = (k :: r).take 1 from SL.cutD_lo (i := 1) (by simp)]
      show unl (((k :: r) ++ (k :: r).take 1).map fstD) = false
      rw [List.map_append]
      exact unl_twice (List.mem_map.mpr ⟨k, List.mem_cons_self, rfl⟩)
    unfold kindsB
    rw [e]
    simp
theorem badK_wt {ks : List PyData} (h : kindsB (.tuple ks) = true) (hw : wt (.tuple ks) ≤ 1000000) : ∀ b ∈ badK ks, wt b ≤ 4000000 := by
  intro b hb
  have ne : ∃ k r, ks = k :: r := by
    cases ks with
    | nil => simp [kindsB, tupB] at h
    | cons k r => exact ⟨k, r, rfl⟩
  obtain ⟨k, r, rfl⟩ := ne
  have h2 := SL.cutD_wt (k :: r) none (some 1)
  unfold badK at hb
  simp only [List.mem_cons, List.not_mem_nil, or_false] at hb
  rw [SL.wt_tup] at hw
  rcases hb with e | e | e | e | e
  · rw [e]
    show wt k ≤ 4000000
    simp only [wtAll] at hw
    omega
  · rw [e, SL.wt_lst]
    omega
  · rw [e]
    decide +kernel
  · rw [e]
    decide +kernel
  · rw [e, SL.wt_tup, SL.wtAll_append]
    omega
theorem atm {xs : List V} {v : V} (h : xs[xs.length - 1]? = some v) : atI xs (-1) = some v := by
  have ne : xs ≠ [] := fun z => by rw [z] at h; simp at h
  have e := List.dropLast_concat_getLast ne
  have e2 : xs.getLast ne = v := by
    rw [List.getLast_eq_getElem]
    exact (List.getElem?_eq_some_iff.mp h).2
  rw [← e, e2]
  exact atI_last _ _
def rStrCat : R2 := fun x y H Q => ∃ i j, x = .str i ∧ y = .str j ∧ i.length + j.length ≤ sizeLine ∧ Q (.str (i ++ j)) H
def saidV (ks : List PyData) (fe d : PyData) : V := if titleB ks fe = true then .bl (treeB ks (strD fe) d) else .str "kind"
theorem said_is {M : List Addr} {H : Hp} {v : V} {ks : List PyData} {fe d : PyData} (hk : kindsB (.tuple ks) = true) (h : Dv M H v (saidD (.tuple ks) fe d)) : v = saidV ks fe d := by
  unfold saidD at h
  unfold saidV
  rw [if_pos hk] at h
  by_cases c : titleB ks fe = true
  · rw [if_pos (show titleB (itemsD (.tuple ks)) fe = true from c)] at h
    rw [if_pos c]
    cases h
    rfl
  · rw [if_neg (show ¬ titleB (itemsD (.tuple ks)) fe = true from c)] at h
    rw [if_neg c]
    cases h
    rfl
section
variable {P : Program} {w : World} {K : PySem.W.Frag} {mg : Str → Option Value} {base : Heap} {f c : Addr} {fd : FuncData} {T : List Addr}
theorem ok_law_titles (F : FunT K "_law_titles_right" "_law_titles_right" s_law_titles f fd c) (B : Bl mg) (Ft : Fnn P w K mg base CX0 1 "_law_table" ["family"] (sp_makers_of T)) (Fl : Fnn P w K mg base CX0 1 "_law_is_tree" ["table", "title", "value"] (sp_law_is_tree T))
    (Fsd : Fnn P w K mg base CX0 13 "_law_said" ["family", "title", "value"] (sp_said T)) (Fs : Fnn P w K mg base CX0 1 "_law_is" ["found", "due"] sp_law_is) : FnOk P w K mg base CX0 14 f fd ["well", "family", "value"] (sp_titles T) := by
  have nd := sc_law_titles.nd
  refine F.ok sc_law_titles (fun vs H Q E h => ?_) (fun A outer s H vs Q E hr h => ?_)
  · obtain ⟨_, _, _, _, _, rfl, _⟩ := h
    rfl
  obtain ⟨wv, kv, tv, ks, d, rfl, hkv, hk, hw, hT, ht, q⟩ := h
  have nn : ∀ b : Addr, b ∉ ([] : List Addr) := fun b => List.not_mem_nil
  have hu64 : (A.deeper (envOfC "_law_titles_right" (defScope s_law_titles) s.heap.objs.size f (.ref c))).units + 64 < cLine := by
    have := hr.un
    omega
  refine ⟨_, pss_cons (ps_set (i := 4) nd rfl (Or.inr rfl) (pe_lc (own := [("title", 3), ("makers", 9)]) (g := gTup K 2 (gCons (gName 3) (gCons (gName 9) gNil))) (tt := tYes) rfl nd (pi_tup (pv 1)) (blkOk_by (own := [("title", 3), ("makers", 9)]) (N := NTR) (sc := defScope s_law_titles) (by decide +kernel))
        (fun _ _ _ _ _ => pg_tup rfl (pgs_cons (pg_name (i := 3) nd rfl (Or.inl rfl)) (pgs_cons (pg_name (i := 9) nd rfl (Or.inl rfl)) pgs_nil))) (fun _ _ _ _ _ => pts_nil) (fun _ _ _ _ _ => pv 3)))
    (pss_cons (ps_set (i := 5) nd rfl (Or.inl rfl) (pe_lst (pa_cons pe_non (pa_cons pe_int (pa_cons pe_bl (pa_cons (pe_tup pa_nil) (pa_cons (pe_lst pa_nil) (pa_cons pe_dnewK (pa_cons pe_str (pa_cons pe_str (pa_cons pe_str (pa_cons (pe_op op_add_str (pe_ix ix_list (pv 4) pe_int (fun _ _ => rfl)) pe_str)
        (pa_cons (pe_lower (pe_ix ix_list (pv 4) pe_int (fun _ _ => rfl))) (pa_cons (pe_slice sl_str (pe_ix ix_list (pv 4) (pe_un un_neg pe_int) (fun _ _ => rfl)) (po_some pe_int) po_none) (pa_cons (pv 1) pa_nil)))))))))))))))
    (pss_cons (ps_set (i := 5) nd rfl (Or.inl rfl) (pe_op op_cat (pe_op op_cat (pv 5) (pe_lc (own := [("maker", 10)]) (g := gName 10) (tt := tYes) (te := tVar 10) rfl nd (pi_keys (pe_lk (pe_fn Ft hr (by decide) pass0 (pa_cons (pv 1) pa_nil)))) (blkOk_by (own := [("maker", 10)]) (N := NTR) (sc := defScope s_law_titles) (by decide +kernel))
        (fun _ _ _ _ _ => pg_name (i := 10) nd rfl (Or.inl rfl)) (fun _ _ _ _ _ => pts_nil) (fun _ _ _ _ _ => pv 10)))
        (pe_lst (pa_cons (pe_tup (pa_cons (pe_ix ix_list (pv 4) pe_int (fun _ _ => rfl)) pa_nil)) (pa_cons (pe_lst (pa_cons (pe_ix ix_list (pv 4) pe_int (fun _ _ => rfl)) pa_nil)) (pa_cons (pe_ix ix_tup (pv 1) pe_int (fun _ _ => rfl)) (pa_cons (pe_tup (pa_cons pe_str pa_nil)) pa_nil)))))))
    (pss_cons (ps_for PassesOwn.never rfl (pi_list (pe_op op_cat (pv 5) (pv 4))) (pg_name (i := 3) nd rfl (Or.inl rfl))
      (pss_cons (ps_set (i := 6) nd rfl (Or.inl rfl) pe_str)
      (C8.pss_cut (ps_if (PW.pt (pw_and (pt_val (pe_isi_str B (pv 3))) (pw_and1 (pt_cmpR op_in_seq (pv 3) (pv 4) rfl)))) (pss_one (ps_set (i := 6) nd rfl (Or.inl rfl) (pe_fn Fl hr (by decide) pass0 (pa_cons (pe_fn Ft hr (by decide) pass0 (pa_cons (pv 1) pa_nil)) (pa_cons (pv 3) (pa_cons (pv 2) pa_nil)))))) pss_nil)
      (pss_cons (ps_set (i := 7) nd rfl (Or.inl rfl) (pe_fn Fsd hr (by decide) pass0 (pa_cons (pv 1) (pa_cons (pv 3) (pa_cons (pv 2) pa_nil)))))
      (pss_one (ps_if (PW.pt (pw_or (pt_cmpR (op_neD hu64) (pv 7) (pv 6) (nomark _)) (pw_or1 (PW.pt (pw_and (pt_val (pe_isi_bool B (pv 6))) (pw_and1 (pt_not (pt_val (pe_fn Fs hr (by decide) pass0 (pa_cons (pv 7) (pa_cons (pv 6) pa_nil))))))))))) (pss_one (ps_ret pe_bl)) pss_nil))))))
    (pss_cons (ps_set (i := 8) nd rfl (Or.inl rfl) (pe_lst (pa_cons (pe_ix ix_tup (pv 1) pe_int (fun _ _ => rfl)) (pa_cons (pe_toList B (pv 1)) (pa_cons (pe_tup pa_nil) (pa_cons pe_non (pa_cons (pe_op op_catA (pv 1) (pe_slice sl_tupA (pv 1) po_none (po_some pe_int))) pa_nil)))))))
    (pss_one (ps_ret (pe_allL rfl B (pe_lc (own := [("one_bad", 11)]) (g := gName 11) (tt := tYes) (te := tOp rEq (tCall (sp_said T) [] E0 (tCons (tVar 11) (tCons (tOp (rStrCat) (tOp (rIxL K) (tVar 4) (tC (.int 0))) (tC (.str "x"))) (tCons (tVar 2) tNil)))) (tC (.str "kinds"))) rfl nd (pi_list (pv 8)) (blkOk_by (own := [("one_bad", 11)]) (N := NTR) (sc := defScope s_law_titles) (by decide +kernel))
        (fun _ _ _ _ _ => pg_name (i := 11) nd rfl (Or.inl rfl)) (fun _ _ _ _ _ => pts_nil) (fun _ _ _ _ _ => pe_cmpR op_eq (pe_fn Fsd hr (by decide) pass0 (pa_cons (pv 11) (pa_cons (pe_op op_add_str (pe_ix ix_list (pv 4) pe_int (fun _ _ => rfl)) pe_str) (pa_cons (pv 2) pa_nil)))) pe_str (nomark _)))))))))), ?_⟩
  obtain ⟨nu, hkb, hk6⟩ := kinds_names hk
  obtain ⟨fa, xs, rfl, efa, _, dx⟩ := dv_tup hkv
  have lx := dx.length
  -- the titles
  refine ⟨_, rfl, fa, rfl, ⟨_, SqT.of efa⟩, fun D hD => ?_⟩
  refine lc_fst (M := []) (T := T) (H0 := H) (xs := xs) (ds := ks) walk_tup (fun H' g => SqT.of (g.tup efa (nn _))) dx ?_ Go.refl hD (sz (by omega)) (fun _ _ => rfl) (fun _ _ => rfl) (fun H1 acc g1 e1 d1 => ?_)
  · intro k hkm
    obtain ⟨x, ms, rfl, _⟩ := kind_of (hkb k hkm)
    exact ⟨_, _, rfl⟩
  have E1 := strs_of (titles_str hkb)
  rw [E1] at d1
  have d1' := d1.of_strs
  have et : (ks.map fstD).map strD = ks.map titleOf := by
    rw [List.map_map]
    rfl
  rw [et] at d1'
  rw [d1'] at e1
  clear d1 d1' E1 et
  -- the first and the last title
  obtain ⟨k0, kr, rfl⟩ : ∃ k r, ks = k :: r := by
    cases ks with
    | nil => simp [kindsB, tupB] at hk
    | cons k r => exact ⟨k, r, rfl⟩
  have hnm : ∀ k ∈ k0 :: kr, nmOk (titleOf k) := fun k hm => by
    obtain ⟨x, ms, rfl, hx, _⟩ := kind_of (hkb k hm)
    exact hx
  obtain ⟨t0, tl, etl, h0, hl0⟩ : ∃ (t0 tl : Str), ((k0 :: kr).map titleOf)[0]? = some t0 ∧ (nmOk t0 ∧ ((k0 :: kr).map titleOf)[((k0 :: kr).map titleOf).length - 1]? = some tl) ∧ nmOk tl := by
    have hl : (k0 :: kr).length - 1 < (k0 :: kr).length := by simp
    refine ⟨_, titleOf ((k0 :: kr)[(k0 :: kr).length - 1]), rfl, ⟨hnm _ List.mem_cons_self, ?_⟩, hnm _ (List.getElem_mem hl)⟩
    rw [List.length_map, List.getElem?_map, List.getElem?_eq_getElem hl] <;> rfl
  obtain ⟨h0, ell⟩ := h0
  obtain ⟨_, l0a, l0b⟩ := nmOk.old h0
  obtain ⟨_, lla, llb⟩ := nmOk.old hl0
  generalize hts : (k0 :: kr).map titleOf = ts at *
  have lts : ts.length ≤ 6 := by rw [← hts, List.length_map]; omega
  have at0 : ∀ H', Go T [] H1 H' → SqL K H' D (ts.map V.str) := fun H' g => SqL.of (g.lst e1 (nn _))
  have ix0 : atI (ts.map V.str) 0 = some (.str t0) := atI_nat (j := 0) (by rw [List.getElem?_map, etl] <;> rfl)
  have ixl : atI (ts.map V.str) (-1) = some (.str tl) := atm (by rw [List.length_map, List.getElem?_map, ell] <;> rfl)
  have eline := sizeLine_eq
  have lx1 : ("x" : Str).length = 1 := rfl
  -- the values
  refine ⟨by show 0 ≤ sizeLine; omega, fun o1 ho1 => ⟨by show 0 ≤ sizeLine; omega, fun o2 ho2 => fun o3 ho3 => ?_⟩⟩
  have u1 := Go.new (T := T) (M := []) (o := .tup []) ho1
  have u2 := Go.new (T := T) (M := []) (o := .lst []) ho2
  have u3 := Go.new (T := T) (M := []) (o := .dK []) ho3
  have U3 := (u1.trans u2).trans u3
  refine ⟨_, rfl, D, _, 0, _, rfl, rfl, at0 _ U3, ix0, _, _, rfl, rfl, by omega, ?_⟩
  refine ⟨_, rfl, D, _, 0, _, rfl, rfl, at0 _ U3, ix0, ⟨_, rfl⟩, t0, rfl, rfl, by omega, ?_⟩
  refine ⟨_, rfl, _, rfl, D, _, _, _, rfl, rfl, at0 _ U3, ixl, _, rfl, tl, rfl, by omega, ?_⟩
  refine ⟨_, rfl, by show 13 ≤ sizeLine; decide, fun p1 hp1 => ?_⟩
  have hkv1 := Dv.tup efa (nn _) dx
  have U4 := U3.trans (Go.new (T := T) (M := []) (o := .lst [.non, .int 0, .bl true, .ref o1, .ref o2, .ref o3, .str "", .str "number", .str "kind", .str (t0 ++ "x"), .str (Txt.lower t0), .str (cutS tl (some 1) none), .ref fa]) hp1)
  obtain ⟨vs1, ds1, e4, dv4, l4⟩ : ∃ (vs1 : List V) (ds1 : List PyData), (upd (upd (upd (upd H1 o1 (.tup [])) o2 (.lst [])) o3 (.dK [])) p1 (.lst [.non, .int 0, .bl true, .ref o1, .ref o2, .ref o3, .str "", .str "number", .str "kind", .str (t0 ++ "x"), .str (Txt.lower t0), .str (cutS tl (some 1) none), .ref fa])) p1 = some (.lst vs1) ∧
      DvAll [] (upd (upd (upd (upd H1 o1 (.tup [])) o2 (.lst [])) o3 (.dK [])) p1 (.lst [.non, .int 0, .bl true, .ref o1, .ref o2, .ref o3, .str "", .str "number", .str "kind", .str (t0 ++ "x"), .str (Txt.lower t0), .str (cutS tl (some 1) none), .ref fa])) vs1 ds1 ∧ vs1.length ≤ 13 := by
    have n1 := Go.new (T := T) (M := []) (o := .lst [.non, .int 0, .bl true, .ref o1, .ref o2, .ref o3, .str "", .str "number", .str "kind", .str (t0 ++ "x"), .str (Txt.lower t0), .str (cutS tl (some 1) none), .ref fa]) hp1
    refine ⟨_, [.none, .int 0, .bool true, .tuple [], .list [], .dict [], .str "", .str "number", .str "kind", .str (t0 ++ "x"), .str (Txt.lower t0), .str (cutS tl (some 1) none), .tuple (k0 :: kr)], upd_same, ?_, by simp⟩
    refine .cons .non (.cons (.int 0) (.cons (.bl true) (.cons (.tup (((u2.trans u3).trans n1).tup upd_same (nn _)) (nn _) .nil) (.cons (.lst ((u3.trans n1).lst upd_same (nn _)) (nn _) .nil) (.cons ?_ (.cons (.str _) (.cons (.str _) (.cons (.str _) (.cons (.str _) (.cons (.str _) (.cons (.str _) (.cons (hkv1.go (g1.trans U4)) .nil))))))))))))
    exact .dct (n1.gr _ _ upd_same (nn _) (fun _ z => by cases z)) (nn _)
  generalize upd (upd (upd (upd H1 o1 (.tup [])) o2 (.lst [])) o3 (.dK [])) p1 (.lst [.non, .int 0, .bl true, .ref o1, .ref o2, .ref o3, .str "", .str "number", .str "kind", .str (t0 ++ "x"), .str (Txt.lower t0), .str (cutS tl (some 1) none), .ref fa]) = H4 at *
  clear u1 u2 u3 U3
  have G4 := g1.trans U4
  -- the makers' names
  refine ⟨_, rfl, _, rfl, .ref fa, k0 :: kr, rfl, hkv1.go G4, hk, G4.tb ht, fun Dt H5 hDt0 hDt g5 t5 => ?_⟩
  obtain ⟨kvs, eDt, en5⟩ := id hDt
  refine ⟨Dt, _, rfl, eDt, trivial, fun od => ⟨Dt, od, rfl, .inl ⟨kvs, upd_same, fun L hL => ?_⟩⟩⟩
  have V5 : Go T [] H4 (upd H5 Dt (.frz od (.dK kvs))) := g5.over hDt0 eDt (fun _ z => by cases z)
  have lk := en5.length
  have lk36 : kvs.length ≤ 36 := by
    rw [lk]
    have : ∀ l : List PyData, (∀ k ∈ l, kindB k = true) → (rowsM l).length ≤ 6 * l.length := fun l => by
      induction l with
      | nil => intro _; exact Nat.zero_le _
      | cons k r ih =>
        intro h
        have h1 := ih fun k hk => h k (List.mem_cons_of_mem _ hk)
        obtain ⟨x, ms, rfl, _, l2, _⟩ := kind_parts (h k List.mem_cons_self)
        show (tag x ms ++ rowsM r).length ≤ 6 * (r.length + 1)
        rw [List.length_append]
        have : (tag x ms).length = ms.length := by unfold tag; rw [List.length_map, List.length_zipIdx]
        omega
    have := this _ hkb
    omega
  have hkeys := Ents.keys en5
  refine lc_map (T := T) (fun i => (kvs.map (fun kv => kV kv.1)).getD i .non) (walk_keys (kvs := kvs)) (fun H' g => g.gr _ _ upd_same (nn _) (fun _ z => by cases z)) (V5.tb (G4.tb ht)) Go.refl hL (by rw [eline]; omega) (fun i x H6 H7 R hi g6 t6 y hR => ?_) (fun H6 g6 t6 ed6 => ?_)
  · obtain ⟨rfl, kk, vv, ek, rfl⟩ := y
    refine ⟨rfl, _, rfl, ?_⟩
    have := hR _ Go.refl
    rw [show (kvs.map (fun kv => kV kv.1)).getD i .non = kV kk by rw [List.getD_eq_getElem?_getD, List.getElem?_map, ek] <;> rfl] at this
    exact this
  have ed6' : H6 L = some (.lst ((namesM (rowsM (k0 :: kr))).map V.str)) := by
    rw [ed6, ← hkeys]
    congr 2
    refine map_range_get (xs := kvs) (g := fun kv => kV kv.1) fun i x ex => ?_
    rw [List.getD_eq_getElem?_getD, List.getElem?_map, ex] <;> rfl
  have lnm : ((namesM (rowsM (k0 :: kr))).map V.str).length ≤ 36 := by
    rw [← hkeys, List.length_map]
    exact lk36
  have V6 := V5.trans g6
  have e46 := V6.lst e4 (nn _)
  refine ⟨p1, L, _, _, rfl, rfl, e46, ed6', by rw [eline]; omega, fun r1 hr1 => ?_⟩
  have n7 := Go.new (T := T) (M := []) (o := .lst (vs1 ++ (namesM (rowsM (k0 :: kr))).map V.str)) hr1
  have dv7 := ((dv4.go V6).append (strs_dv (namesM (rowsM (k0 :: kr))))).go n7
  have e7 := upd_same (H := H6) (a := r1) (o := .lst (vs1 ++ (namesM (rowsM (k0 :: kr))).map V.str))
  have G7 := G4.trans (V6.trans n7)
  have A7 := U4.trans (V6.trans n7)
  generalize upd H6 r1 (.lst (vs1 ++ (namesM (rowsM (k0 :: kr))).map V.str)) = H7 at *
  have l7 : (vs1 ++ (namesM (rowsM (k0 :: kr))).map V.str).length ≤ 49 := by rw [List.length_append]; omega
  generalize vs1 ++ (namesM (rowsM (k0 :: kr))).map V.str = vs7 at *
  generalize ds1 ++ (namesM (rowsM (k0 :: kr))).map PyData.str = ds7 at *
  -- four more
  have efa7 := G7.tup efa (nn _)
  obtain ⟨x0, xr, rfl⟩ : ∃ x r, xs = x :: r := by
    cases xs with
    | nil => cases lx
    | cons x r => exact ⟨x, r, rfl⟩
  have hx0 : Dv [] H x0 k0 := by cases dx with | cons h _ => exact h
  refine ⟨_, rfl, D, _, 0, _, rfl, rfl, at0 _ A7, ix0, by show 1 ≤ sizeLine; omega, fun o5 ho5 => ?_⟩
  have w5 := Go.new (T := T) (M := []) (o := .tup [V.str t0]) ho5
  refine ⟨_, rfl, D, _, 0, _, rfl, rfl, at0 _ (A7.trans w5), ix0, by show 1 ≤ sizeLine; omega, fun o6 ho6 => ?_⟩
  have w6 := Go.new (T := T) (M := []) (o := .lst [V.str t0]) ho6
  refine ⟨_, rfl, fa, _, 0, x0, rfl, rfl, SqT.of ((w5.trans w6).tup efa7 (nn _)), atI_nat (j := 0) rfl, by show 1 ≤ sizeLine; omega, fun o7 ho7 => ?_⟩
  have w7 := Go.new (T := T) (M := []) (o := .tup [V.str "number"]) ho7
  refine ⟨by show 4 ≤ sizeLine; omega, fun o8 ho8 => ?_⟩
  have w8 := Go.new (T := T) (M := []) (o := .lst [V.ref o5, .ref o6, x0, .ref o7]) ho8
  have W8 := ((w5.trans w6).trans w7).trans w8
  refine ⟨r1, o8, _, _, rfl, rfl, W8.lst e7 (nn _), upd_same, by rw [eline]; show vs7.length + 4 ≤ _; omega, fun r2 hr2 => ?_⟩
  have n9 := Go.new (T := T) (M := []) (o := .lst (vs7 ++ [V.ref o5, .ref o6, x0, .ref o7])) hr2
  have W9 := W8.trans n9
  have G9 := G7.trans W9
  have A9 := A7.trans W9
  obtain ⟨vs9, ds9, e9, dv9, l9⟩ : ∃ (vs9 : List V) (ds9 : List PyData), (upd (upd (upd (upd (upd H7 o5 (.tup [V.str t0])) o6 (.lst [V.str t0])) o7 (.tup [V.str "number"])) o8 (.lst [V.ref o5, .ref o6, x0, .ref o7])) r2 (.lst (vs7 ++ [V.ref o5, .ref o6, x0, .ref o7]))) r2 = some (.lst vs9) ∧
      DvAll [] (upd (upd (upd (upd (upd H7 o5 (.tup [V.str t0])) o6 (.lst [V.str t0])) o7 (.tup [V.str "number"])) o8 (.lst [V.ref o5, .ref o6, x0, .ref o7])) r2 (.lst (vs7 ++ [V.ref o5, .ref o6, x0, .ref o7]))) vs9 ds9 ∧ vs9.length ≤ 53 := by
    refine ⟨_, ds7 ++ [.tuple [.str t0], .list [.str t0], k0, .tuple [.str "number"]], upd_same, (dv7.go W9).append ?_, by rw [List.length_append]; show vs7.length + 4 ≤ 53; omega⟩
    exact .cons (.tup ((((w6.trans w7).trans w8).trans n9).tup upd_same (nn _)) (nn _) (.cons (.str _) .nil)) (.cons (.lst (((w7.trans w8).trans n9).lst upd_same (nn _)) (nn _) (.cons (.str _) .nil)) (.cons (hx0.go G9) (.cons (.tup ((w8.trans n9).tup upd_same (nn _)) (nn _) (.cons (.str _) .nil)) .nil)))
  generalize upd (upd (upd (upd (upd H7 o5 (.tup [V.str t0])) o6 (.lst [V.str t0])) o7 (.tup [V.str "number"])) o8 (.lst [V.ref o5, .ref o6, x0, .ref o7])) r2 (.lst (vs7 ++ [V.ref o5, .ref o6, x0, .ref o7])) = H9 at *
  clear w5 w6 w7 w8 n9 W8
  -- each as a title
  have atD9 : H9 D = some (.lst (ts.map V.str)) := A9.lst e1 (nn _)
  refine ⟨_, rfl, _, rfl, r2, D, _, _, rfl, rfl, e9, atD9, by rw [eline, List.length_map]; omega, fun r3 hr3 => ?_⟩
  have n10 := Go.new (T := T) (M := []) (o := .lst (vs9 ++ ts.map V.str)) hr3
  have e10 := upd_same (H := H9) (a := r3) (o := .lst (vs9 ++ ts.map V.str))
  have dv10 := (dv9.append (strs_dv ts)).go n10
  have G10 := G9.trans n10
  have A10 := A9.trans n10
  generalize upd H9 r3 (.lst (vs9 ++ ts.map V.str)) = H10 at *
  refine ⟨r3, rfl, ⟨_, SqL.of e10⟩, ?_⟩
  have hdat : ∀ H' i x, Go T [] H10 H' → (vs9 ++ ts.map V.str)[i]? = some x → ∃ fe, Dv [] H' x fe := fun H' i x g ex => by
    obtain ⟨fe, _, h⟩ := (dv10.go g).get ex
    exact ⟨fe, h⟩
  generalize vs9 ++ ts.map V.str = zs at *
  refine for_it (n := zs.length) walk_list (fun i σ H' => ∃ p3 p6 p7 : Option V, σ = [some wv, some (.ref fa), some tv, p3, some (.ref D), some (.ref r2), p6, p7, none, none, none, none] ∧ Go T [] H10 H')
    ⟨_, _, _, rfl, Go.refl⟩ (fun i σ H' _ ⟨_, _, _, _, g⟩ => SqL.of (g.lst e10 (nn _))) (fun i x σ H11 H12 hi h y => ?_) (fun σ H11 h => ?_)
  · obtain ⟨p3, p6, p7, rfl, g11⟩ := h
    obtain ⟨rfl, ex⟩ := y
    obtain ⟨fe, hfe⟩ := hdat _ _ _ g11 ex
    have G11 := G10.trans g11
    have A11 := A10.trans g11
    refine ⟨fun σ H' => σ = [some wv, some (.ref fa), some tv, some x, some (.ref D), some (.ref r2), some (saidV (k0 :: kr) fe d), p7, none, none, none, none] ∧ Go T [] H12 H', ?_, fun σ H13 hm => ?_⟩
    · refine ⟨_, rfl, _, _, _, rfl, hfe, _, rfl, ?_⟩
      cases fe with
      | str y =>
        cases hfe
        refine iteT ?_
        refine ⟨_, rfl, _, rfl, D, _, rfl, .inl (at0 _ A11), rfl, ?_, _, rfl, ?_⟩
        · rw [List.all_map]
          exact List.all_eq_true.mpr fun _ _ => rfl
        · show if inV (V.str y) (ts.map V.str) = true then _ else _
          rw [inV_strs]
          have ets : titleB (k0 :: kr) (.str y) = decide (y ∈ ts) := by rw [← hts] <;> rfl
          by_cases hy : y ∈ ts
          · rw [decide_eq_true hy]
            refine iteT ?_
            refine ⟨_, rfl, .ref fa, k0 :: kr, rfl, hkv1.go G11, hk, G11.tb ht, fun Dt H14 hDt0 hDt g14 t14 => ?_⟩
            refine ⟨_, rfl, _, rfl, Dt, tv, k0 :: kr, y, d, rfl, hDt, hT.go (G11.trans g14), hk, t14, fun H15 g15 t15 => ?_⟩
            refine ⟨?_, g14.trans g15⟩
            unfold saidV
            rw [ets, decide_eq_true hy, if_pos rfl]
            rfl
          · rw [decide_eq_false hy]
            refine iteF ?_
            refine ⟨?_, Go.refl⟩
            unfold saidV
            rw [ets, decide_eq_false hy, if_neg Bool.false_ne_true]
            rfl
      | _ => exact iteF ⟨rfl, Go.refl⟩
    · obtain ⟨rfl, g13⟩ := hm
      have G13 := G11.trans g13
      refine ⟨_, rfl, _, rfl, _, rfl, .ref fa, x, tv, .tuple (k0 :: kr), fe, d, rfl, ⟨hkv1.go G13, hfe.go g13, by omega, G13.tb ht⟩, hT.go G13, fun v H14 hv14 g14 t14 => ?_⟩
      have ev := said_is hk hv14
      subst ev
      have done : ∃ q3 q6 q7 : Option V, [some wv, some (V.ref fa), some tv, some x, some (V.ref D), some (V.ref r2), some (saidV (k0 :: kr) fe d), some (saidV (k0 :: kr) fe d), none, none, none, none] = [some wv, some (.ref fa), some tv, q3, some (.ref D), some (.ref r2), q6, q7, none, none, none, none] ∧ Go T [] H10 H14 := ⟨_, _, _, rfl, (g11.trans g13).trans g14⟩
      unfold saidV at done ⊢
      by_cases ct : titleB (k0 :: kr) fe = true
      · rw [if_pos ct] at done ⊢
        generalize treeB (k0 :: kr) (strD fe) d = b at done ⊢
        refine ⟨_, rfl, _, rfl, .bool b, .bool b, .bl b, .bl b, rfl, rfl, _, rfl, ?_⟩
        refine if_false_of (by cases b <;> rfl) ?_
        refine ⟨_, rfl, _, [], _, rfl, .bl b, _, rfl, iteT ?_⟩
        refine ⟨_, rfl, _, rfl, b, b, rfl, ?_⟩
        refine ⟨_, rfl, ?_⟩
        rw [decide_eq_true rfl]
        exact iteF done
      · rw [if_neg ct] at done ⊢
        refine ⟨_, rfl, _, rfl, .str "kind", .str "kind", .str _, .str _, by decide +kernel, by decide +kernel, _, rfl, ?_⟩
        refine if_false_of (by decide +kernel) ?_
        exact ⟨_, rfl, _, [], _, rfl, .str _, _, rfl, iteF done⟩
  obtain ⟨p3, p6, p7, rfl, g11⟩ := h
  have G11 := G10.trans g11
  have A11 := A10.trans g11
  clear dv9 e9 l9 dv10 e10 hdat A9 G9 n10
  -- what is no kinds
  have efa11 := G11.tup efa (nn _)
  refine ⟨_, rfl, fa, _, 0, x0, rfl, rfl, SqT.of efa11, atI_nat (j := 0) rfl, ?_⟩
  refine ⟨_, rfl, fa, _, rfl, .inr (SqT.of efa11), fun b1 hb1 => ?_⟩
  have w1 := Go.new (T := T) (M := []) (o := .lst (x0 :: xr)) hb1
  refine ⟨by show 0 ≤ sizeLine; omega, fun b2 hb2 => ?_⟩
  have w2 := Go.new (T := T) (M := []) (o := .tup []) hb2
  refine ⟨_, rfl, _, rfl, _, rfl, ?_⟩
  try unfold tNoPart
  refine sl_ok (T := T) (M := []) ((w1.trans w2).tup efa11 (nn _)) (nn _) (fun r _ => nn r) fun b3 H13 f3 n3 h3 => ?_
  have W3 := (w1.trans w2).trans h3
  refine cat_ok (T := T) (M := []) (W3.tup efa11 (nn _)) f3 (nn _) n3 (by have := cutV_len (x0 :: xr) none (some 1); omega) (fun r _ => nn r) fun b4 H14 f4 n4 h4 => ?_
  have W4 := W3.trans h4
  refine ⟨by show 5 ≤ sizeLine; omega, fun b5 hb5 => ?_⟩
  have w5 := Go.new (T := T) (M := []) (o := .lst [x0, .ref b1, .ref b2, .non, .ref b4]) hb5
  have W5 := W4.trans w5
  have e5 := upd_same (H := H14) (a := b5) (o := .lst [x0, .ref b1, .ref b2, .non, .ref b4])
  have G15 := G11.trans W5
  have A15 := A11.trans W5
  have dxx := dx.go G15
  have dB : DvAll [] (upd H14 b5 (.lst [x0, .ref b1, .ref b2, .non, .ref b4])) [x0, .ref b1, .ref b2, .non, .ref b4] (badK (k0 :: kr)) :=
    .cons (hx0.go G15) (.cons (.lst ((((w2.trans h3).trans h4).trans w5).lst upd_same (nn _)) (nn _) dxx) (.cons (.tup (((h3.trans h4).trans w5).tup upd_same (nn _)) (nn _) .nil) (.cons .non (.cons (.tup (w5.tup f4 (nn _)) (nn _) (dxx.append (dxx.cutD _ _))) .nil))))
  generalize upd H14 b5 (.lst [x0, .ref b1, .ref b2, .non, .ref b4]) = H15 at *
  refine ⟨_, rfl, b5, rfl, ⟨_, SqL.of e5⟩, fun L2 hL2 => ?_⟩
  refine lc_map (T := T) (fun _ => V.bl true) (walk_list (xs := [x0, .ref b1, .ref b2, .non, .ref b4])) (fun H' g' => SqL.of (g'.lst e5 (nn _))) (G15.tb ht) Go.refl hL2 (by show 5 ≤ sizeLine; decide) (fun j v H16 H17 R hj g16 t16 y hR => ?_) (fun H16 g16 t16 ed16 => ?_)
  · obtain ⟨rfl, ey⟩ := y
    obtain ⟨bd, ebd, hbd⟩ := (dB.go g16).get ey
    have hno := badK_no hk bd (List.mem_of_getElem? ebd)
    have wbd : wt bd ≤ 4000000 := badK_wt hk hw bd (List.mem_of_getElem? ebd)
    refine ⟨rfl, _, rfl, _, rfl, D, _, 0, _, rfl, rfl, at0 _ (A15.trans g16), ix0, _, _, rfl, rfl, by omega, _, rfl, v, .str (t0 ++ "x"), tv, bd, .str (t0 ++ "x"), d, rfl, ⟨hbd, .str _, wbd, t16⟩, hT.go (G15.trans g16), fun vf H18 hvf g18 t18 => ?_⟩
    unfold saidD at hvf
    rw [if_neg (by rw [hno]; simp)] at hvf
    cases hvf
    exact ⟨rfl, hR H18 g18⟩
  · refine ⟨L2, [true, true, true, true, true], rfl, SqL.of ed16, ?_⟩
    exact q _ (G15.trans g16) ((G15.trans g16).tb ht)
end
end K2
set_option Elab.async false
set_option linter.all false
set_option maxRecDepth 100000
set_option maxHeartbeats 8000000
namespace SL
open PySem PySem.Spec PyProof.Rows L2 GxR NdefX GA
variable [SL.LamT]
theorem sl_ok {K : PySem.W.Frag} {T M : List Addr} {H : Hp} {p : Addr} {xs : List V} {lo hi : Option Int} {Q : VK} (hp : H p = some (.tup xs)) (np : p ∉ M) (fresh : ∀ r, H r = none → r ∉ M)
    (k : ∀ r H', H' r = some (.tup (cutV xs lo hi)) → r ∉ M → Go T [] H H' → Q (.ref r) H') : rSlA K (.ref p) lo hi H Q := by
  refine ⟨p, xs, rfl, SqT.of hp, fun ⟨e1, e2⟩ => ?_, fun _ r hr => k r _ upd_same (fresh r hr) (Go.new hr)⟩
  refine k p H ?_ np Go.refl
  unfold cutV
  rw [e1, e2, List.drop_zero, Nat.sub_zero, List.take_length]
  exact hp
theorem cutV_len (xs : List V) (lo hi : Option Int) : (cutV xs lo hi).length ≤ xs.length := by
  unfold cutV
  rw [List.length_take, List.length_drop]
  omega
theorem cutV_lo {xs : List V} {i : Nat} (h : i ≤ xs.length) : cutV xs none (some (i : Int)) = xs.take i := by
  unfold cutV
  rw [HT.sIx_none, HT.sIx_nat, List.drop_zero, Nat.sub_zero, Nat.min_eq_left h]
theorem cutV_hi {xs : List V} {i : Nat} (h : i ≤ xs.length) : cutV xs (some (i : Int)) none = xs.drop i := by
  unfold cutV
  rw [HT.sIx_none, HT.sIx_nat, Nat.min_eq_left h]
  exact List.take_of_length_le (by rw [List.length_drop]; omega)
theorem cutV_mid {xs : List V} {i j : Nat} (h1 : i ≤ j) (h : j ≤ xs.length) : cutV xs (some (i : Int)) (some (j : Int)) = (xs.drop i).take (j - i) := by
  unfold cutV
  rw [HT.sIx_nat, HT.sIx_nat, Nat.min_eq_left h, Nat.min_eq_left (by omega)]
end SL
namespace K2
open PySem PySem.Spec PyProof.Rows L2 GxR NdefX GA SL RZ
variable [SL.LamT]
/-- no number is greater -/
def smallW (n : Nat) (ws : List Key) : Prop := ∀ z, .inl z ∈ ws → z.natAbs ≤ n
/-- one integer exchanged -/
def turnW (ws : List Key) (i : Nat) (z : Int) : List Key := (ws.take i ++ [.inl z]) ++ ws.drop (i + 1)
theorem run_int {ks : List PyData} {p q : List Key} {y z : Int} : ∀ s, run ks s (p ++ .inl z :: q) = run ks s (p ++ .inl y :: q) := by
  induction p with
  | nil =>
    intro s
    cases s with
    | nil => rfl
    | cons f s => rfl
  | cons w p ih =>
    intro s
    cases s with
    | nil => rfl
    | cons f s =>
      show (if okW ks f w = true then run ks (nxt ks w ++ s) (p ++ .inl z :: q) else none) = if okW ks f w = true then run ks (nxt ks w ++ s) (p ++ .inl y :: q) else none
      rw [ih]
theorem turn_run {ws : List Key} {i : Nat} {y z : Int} (h : ws[i]? = some (.inl y)) : (∀ ks s, run ks s (turnW ws i z) = run ks s ws) ∧ (turnW ws i z).length = ws.length := by
  have li := (List.getElem?_eq_some_iff.mp h).1
  have ed : ws.drop i = .inl y :: ws.drop (i + 1) := (List.drop_eq_getElem?_toList_append ..).trans (by rw [h]; rfl)
  have e0 : ws = ws.take i ++ .inl y :: ws.drop (i + 1) := by rw [← ed, List.take_append_drop]
  have e1 : turnW ws i z = ws.take i ++ .inl z :: ws.drop (i + 1) := by
    unfold turnW
    rw [List.append_assoc]
    rfl
  refine ⟨fun ks s => ?_, ?_⟩
  · rw [e1]
    conv => rhs; rw [e0]
    exact run_int s
  · unfold turnW
    rw [List.length_append, List.length_append, List.length_take, List.length_drop, List.length_singleton]
    omega
theorem run_take {ks : List PyData} {part : List Key} {f : Str} {i : Nat} (h : run ks [f] part = some []) (hi : i < part.length) : ∃ w s g, part[i]? = some w ∧ run ks [f] (part.take i) = some (g :: s) ∧ okW ks g w = true ∧ run ks [f] (part.take (i + 1)) = some (nxt ks w ++ s) ∧ (i + 1 < part.length → nxt ks w ++ s ≠ []) ∧ (i + 1 = part.length → nxt ks w ++ s = []) := by
  have ew := List.getElem?_eq_getElem hi
  generalize part[i] = w at ew
  have ed : part.drop i = w :: part.drop (i + 1) := (List.drop_eq_getElem?_toList_append ..).trans (by rw [ew]; rfl)
  have h0 := h
  rw [← List.take_append_drop i part, ed] at h0
  obtain ⟨t, h1, h2⟩ := run_parts h0
  obtain ⟨g, s, rfl, c, h3⟩ := run_cons h2
  have h4 : run ks [f] (part.take (i + 1)) = some (nxt ks w ++ s) := by
    rw [List.take_add_one, ew, Option.toList_some]
    exact run_app h1 (run_of c (run_nil _))
  refine ⟨w, s, g, ew, h1, c, h4, fun hlt e => ?_, fun he => ?_⟩
  · rw [e] at h3
    have := (run_end h3).1
    have l := congrArg List.length this
    rw [List.length_drop, List.length_nil] at l
    omega
  · rw [he, List.drop_length, run_nil] at h3
    exact Option.some.inj h3
end K2
set_option Elab.async false
set_option linter.all false
set_option maxRecDepth 100000
set_option maxHeartbeats 8000000
namespace K2
open PySem PySem.Spec PyProof.Rows L2 GxR NdefX GA SL RZ
variable [SL.LamT]
abbrev s_law_pool : Stmt := top 47
theorem sc_law_pool : FnScope ["well", "family", "count", "most", "pool", "makers", "title", "some", "maker", "rounds", "turn", "fields", "field", "phrase", "trees", "back"] ["well", "family", "count", "most"] (defScope s_law_pool) := ⟨rfl, rfl, rfl, by decide +kernel, rfl, by decide +kernel, by decide +kernel⟩
/-- the dict of the spots -/
def dictP (ps : List (Str × Addr)) : List (Key × V) := ps.map fun tp => (.inr tp.1, .ref tp.2)
theorem dictP_none : ∀ {ps : List (Str × Addr)} {t : Str}, t ∉ ps.map Prod.fst → valV (dictP ps) (.inr t) = none
  | [], _, _ => rfl
  | (x, p) :: r, t, h => by
    have h1 : x ≠ t := fun z => h (by rw [List.map_cons]; exact List.mem_cons.mpr (.inl z.symm))
    show valV ((.inr x, .ref p) :: dictP r) (.inr t) = none
    rw [valV_neg (fun z => h1 (Sum.inr.inj z))]
    exact dictP_none fun z => h (List.mem_cons_of_mem _ z)
theorem dictP_some : ∀ {ps : List (Str × Addr)} {t : Str}, t ∈ ps.map Prod.fst → ∃ p, (t, p) ∈ ps ∧ valV (dictP ps) (.inr t) = some (.ref p)
  | (x, p) :: r, t, h => by
    by_cases c : x = t
    · subst c
      exact ⟨p, List.mem_cons_self, by show valV ((.inr x, .ref p) :: dictP r) (.inr x) = _; rw [valV_pos rfl]⟩
    · have h' : t ∈ r.map Prod.fst := by
        rcases List.mem_cons.mp h with z | z
        · exact absurd z.symm c
        · exact z
      obtain ⟨q, h1, h2⟩ := dictP_some h'
      exact ⟨q, List.mem_cons_of_mem _ h1, by show valV ((.inr x, .ref p) :: dictP r) (.inr t) = _; rw [valV_neg (fun z => c (Sum.inr.inj z))]; exact h2⟩
/-- a row of the list of makers -/
def mkAt (H : Hp) (ks : List PyData) (v : V) : Prop := ∃ kd p m t fl, (kd, p, m) ∈ rowsM ks ∧ v = .ref t ∧ H t = some (.tup [.str kd, .str (SL.mkN m), .ref fl]) ∧ H fl = some (.tup ((flds m).map V.str))
theorem mkAt.st {H H' : Hp} {ks : List PyData} {v : V} (h : mkAt H ks v) (s : ∀ p xs, H p = some (.tup xs) → H' p = some (.tup xs)) : mkAt H' ks v := by
  obtain ⟨kd, p, m, t, fl, h1, h2, h3, h4⟩ := h
  exact ⟨kd, p, m, t, fl, h1, h2, s _ _ h3, s _ _ h4⟩
theorem rows_pos {ks : List PyData} (hkb : ∀ k ∈ ks, kindB k = true) (h : 1 ≤ ks.length) : 1 ≤ (rowsM ks).length := by
  cases ks with
  | nil => exact absurd h (by decide)
  | cons k r =>
    obtain ⟨x, ms, rfl, h1, _, _⟩ := kind_parts (hkb k List.mem_cons_self)
    show 1 ≤ (tag _ (kMk (.tuple [.str x, .tuple ms])) ++ rowsM r).length
    rw [List.length_append, tag_len]
    have : (kMk (.tuple [.str x, .tuple ms])).length = ms.length := rfl
    omega
/-! ### the pool -/
abbrev Pool := Str → List (Addr × List Key)
def treesV (L : List (Addr × List Key)) : List V := L.map fun e => .ref e.1
/-- what the pool's trees are -/
def goodG (ks : List PyData) (G : Pool) (n : Nat) : Prop := ∀ t, (∀ e ∈ G t, isT ks t e.2 ∧ e.2.length ≤ 120 ∧ smallW bigInt e.2 ∧ ∀ x, .inr x ∈ e.2 → G (kdK ks x) ≠ []) ∧ (G t).length ≤ n
def poolT (H : Hp) (G : Pool) : Prop := ∀ t e, e ∈ G t → H e.1 = some (.tup (e.2.map kV))
theorem poolT.st {H H' : Hp} {G : Pool} (h : poolT H G) (s : ST H H') : poolT H' G := fun t e m => s.tup (h t e m)
structure PoolAt (M : List Addr) (H : Hp) (sd : Addr) (ks : List PyData) (ps : List (Str × Addr)) (G : Pool) (n : Nat) : Prop where
  d : H sd = some (.dK (dictP ps))
  dm : sd ∉ M
  f : ps.map Prod.fst = ks.map titleOf
  l : ∀ tp ∈ ps, H tp.2 = some (.lst (treesV (G tp.1))) ∧ tp.2 ∉ M
  t : poolT H G
  g : goodG ks G n
def addG (G : Pool) (kd : Str) (e : Addr × List Key) : Pool := fun t => if t = kd then G t ++ [e] else G t
theorem addG_ne {G : Pool} {kd : Str} {e : Addr × List Key} {t : Str} (h : G t ≠ []) : addG G kd e t ≠ [] := by
  unfold addG
  split
  · exact fun z => by simp at z
  · exact h
theorem goodG.add {ks : List PyData} {G : Pool} {n : Nat} {kd : Str} {e : Addr × List Key} (h : goodG ks G n) (h1 : isT ks kd e.2) (h2 : e.2.length ≤ 120) (h3 : smallW bigInt e.2) (h4 : ∀ x, .inr x ∈ e.2 → kdK ks x = kd ∨ G (kdK ks x) ≠ []) : goodG ks (addG G kd e) (n + 1) := fun t => by
  obtain ⟨a1, a2⟩ := h t
  have old : ∀ e' ∈ G t, isT ks t e'.2 ∧ e'.2.length ≤ 120 ∧ smallW bigInt e'.2 ∧ ∀ x, .inr x ∈ e'.2 → addG G kd e (kdK ks x) ≠ [] := fun e' m => by
    obtain ⟨b1, b2, b3, b4⟩ := a1 e' m
    exact ⟨b1, b2, b3, fun x hx => addG_ne (b4 x hx)⟩
  by_cases c : t = kd
  · subst c
    have e0 : addG G t e t = G t ++ [e] := if_pos rfl
    refine ⟨fun e' m => ?_, by rw [e0, List.length_append, List.length_singleton]; omega⟩
    rw [e0] at m
    rcases List.mem_append.mp m with m | m
    · exact old e' m
    · rw [List.mem_singleton.mp m]
      refine ⟨h1, h2, h3, fun x hx => ?_⟩
      rcases h4 x hx with z | z
      · rw [z, e0]
        exact fun z => by simp at z
      · exact addG_ne z
  · have e0 : addG G kd e t = G t := if_neg c
    rw [e0]
    exact ⟨old, by omega⟩
theorem goodG.up {ks : List PyData} {G : Pool} {n m : Nat} (h : goodG ks G n) (l : n ≤ m) : goodG ks G m := fun t => ⟨(h t).1, Nat.le_trans (h t).2 l⟩
def badG (G : Pool) (f : Option Str) : Bool := match f with
  | none => false
  | some f => if f = "number" then false else (G f).isEmpty
theorem title_not {ks : List PyData} (hk : kindsB (.tuple ks) = true) {t : Str} (h : t ∈ ks.map titleOf) : t ≠ "number" := by
  obtain ⟨k, hm, rfl⟩ := List.mem_map.mp h
  obtain ⟨_, hkb, _⟩ := kinds_names hk
  obtain ⟨x, ms, rfl, hx, _⟩ := kind_of (hkb k hm)
  intro e
  have e : x = "number" := e
  rw [e] at hx
  exact absurd hx (by decide +kernel)
def sp_pool (T : List Addr) : Sp := fun vs H Q _ => ∃ (a l : Addr) (k cnt0 mst : Int) (fv : V) (ks : List PyData), vs = [.ref a, fv, .int cnt0, .int mst] ∧ 0 ≤ cnt0 ∧ cnt0 ≤ 40 ∧ mst ≤ 120 ∧ k ≤ 274877906944 ∧ WellAt a l H k ∧ Dv [a, l] H fv (.tuple ks) ∧ kindsB (.tuple ks) = true ∧ Tabs T H ∧
  ∀ sd ps G H', H sd = none → PoolAt [a, l] H' sd ks ps G 256 → WellAt a l H' (k + 10000) → Go T [a, l] H H' → Tabs T H' → Q (.ref sd) H'
section
variable {P : Program} {w : World} {K : PySem.W.Frag} {mg : Str → Option Value} {base : Heap} {f c Pt CK CR : Addr} {fd : FuncData} {T : List Addr}
theorem ok_law_pool (F : Fun K "_law_pool" "_law_pool" s_law_pool f fd) (B : Bl mg) (hmin : mg "min" = none) (Fd : Fnn P w K mg base CX0 1 "_law_draw" ["well", "many"] (sp_draw T)) (Fi : Fnn P w K mg base CX0 2 "_law_integer" ["well"] (sp_integer T)) : FnOk P w K mg base CX0 3 f fd ["well", "family", "count", "most"] (sp_pool T) := by
  have nd := sc_law_pool.nd
  refine F.ok sc_law_pool (fun vs H Q E h => ?_) (fun cdv A outer s H vs Q E hr h => ?_)
  · obtain ⟨_, _, _, _, _, _, _, rfl, _⟩ := h
    rfl
  obtain ⟨a, l, k, cnt0, mst, fv, ks, rfl, hcn, hcn2, hmst, hk, W, hv, hks, ht, q⟩ := h
  have hu : (A.deeper (envOfC "_law_pool" (defScope s_law_pool) s.heap.objs.size f cdv)).units + 1 < cLine := by
    have := hr.un
    omega
  have hu0 : (A.deeper (envOfC "_law_pool" (defScope s_law_pool) s.heap.objs.size f cdv)).units < cLine := by omega
  refine ⟨_, pss_cons (ps_asg (pe_tup (pa_cons pe_dnewK (pa_cons (pe_lst pa_nil) pa_nil))) (pg_tup rfl (pgs_cons (pg_name (i := 4) nd rfl (.inr rfl)) (pgs_cons (pg_name (i := 5) nd rfl (.inl rfl)) pgs_nil))))
    (pss_cons (ps_for PassesOwn.never rfl (pi_tup (pv 1)) (pg_tup rfl (pgs_cons (pg_name (i := 6) nd rfl (.inr rfl)) (pgs_cons (pg_name (i := 7) nd rfl (.inl rfl)) pgs_nil)))
      (pss_cons (ps_dput hu (pv 4) (pv 6) (pe_lst pa_nil) rfl)
      (pss_one (ps_set (i := 5) nd rfl (.inl rfl) (pe_op op_cat (pv 5) (pe_lc (own := [("maker", 8)]) (g := gName 8) (tt := tYes) (te := tTup (tCons (tVar 6) (tCons (tOp (rIxT K) (tVar 8) (tC (.int 0))) (tCons (tOp (rIxT K) (tVar 8) (tC (.int 1))) tNil)))) rfl nd (pi_tup (pv 7))
        (blkOk_by (own := [("maker", 8)]) (N := ["well", "family", "count", "most", "pool", "makers", "title", "some", "maker", "rounds", "turn", "fields", "field", "phrase", "trees", "back"]) (sc := defScope s_law_pool) (by decide +kernel)) (fun _ _ _ _ _ => pg_name (i := 8) nd rfl (.inl rfl)) (fun _ _ _ _ _ => pts_nil)
        (fun _ _ _ _ _ => pe_tup (pa_cons (pv 6) (pa_cons (pe_ix ix_tup (pv 8) pe_int (fun _ _ => rfl)) (pa_cons (pe_ix ix_tup (pv 8) pe_int (fun _ _ => rfl)) pa_nil))))))))))
    (pss_cons (ps_set (i := 9) nd rfl (.inl rfl) (pe_op op_mul pe_int (pe_lenq B (pv 5))))
    (pss_cons (ps_for PassesOwn.never rfl (pi_range1 rfl B.range (pa_cons (pe_op op_add (pv 9) (pv 2)) pa_nil)) (pg_name (i := 10) nd rfl (.inl rfl))
      (pss_cons (ps_asg (pe_ix ix_list (pv 5) (pe_op op_mod (pv 10) (pe_lenq B (pv 5))) (fun _ _ => rfl)) (pg_tup rfl (pgs_cons (pg_name (i := 6) nd rfl (.inr rfl)) (pgs_cons (pg_name (i := 8) nd rfl (.inl rfl)) (pgs_cons (pg_name (i := 11) nd rfl (.inl rfl)) pgs_nil)))))
      (pss_cons (ps_if (pt_cmpR op_ge (pv 10) (pv 9) (nomark _)) (pss_one (ps_asg (pe_ix ix_list (pv 5) (pe_fn Fd hr (by decide) pass0 (pa_cons (pv 0) (pa_cons (pe_lenq B (pv 5)) pa_nil))) (fun _ _ => rfl)) (pg_tup rfl (pgs_cons (pg_name (i := 6) nd rfl (.inr rfl)) (pgs_cons (pg_name (i := 8) nd rfl (.inl rfl)) (pgs_cons (pg_name (i := 11) nd rfl (.inl rfl)) pgs_nil)))))) pss_nil)
      (pss_cons (ps_if (PW.pt (pw_or (PW.pt (pw_and (pt_cmpR op_lt (pv 10) (pv 9) (nomark _)) (pw_and1 (pt_cmpR (op_neNil hu0) (pe_dget hu (pv 4) (pv 6) (fun _ _ => rfl)) (pe_lst pa_nil) (nomark _))))) (pw_or1 (pt_val (pe_callB (cr_any rfl) rfl B.any (by decide +kernel)
          (pa_cons (pe_lc (own := [("field", 12)]) (g := gName 12) (tt := tYes) (te := tAndV (tOp rNe (tVar 12) (tC (.str "number"))) (tOp (rEqNil K) (tDGet (tVar 4) (tVar 12)) (tLst tNil))) rfl nd (pi_tup (pv 11))
            (blkOk_by (own := [("field", 12)]) (N := ["well", "family", "count", "most", "pool", "makers", "title", "some", "maker", "rounds", "turn", "fields", "field", "phrase", "trees", "back"]) (sc := defScope s_law_pool) (by decide +kernel)) (fun _ _ _ _ _ => pg_name (i := 12) nd rfl (.inl rfl)) (fun _ _ _ _ _ => pts_nil)
            (fun _ _ _ _ _ => pe_and (pe_cmpR op_ne (pv 12) pe_str (nomark _)) (pe_one (pe_cmpR (op_eqNil (by exact hu0)) (pe_dget (by exact hu) (pv 4) (pv 12) (fun _ _ => rfl)) (pe_lst pa_nil) (nomark _))))) pa_nil) (by decide) (by decide)))))) (pss_one ps_continue) pss_nil)
      (pss_cons (ps_set (i := 13) nd rfl (.inl rfl) (pe_tup (pa_cons (pv 8) pa_nil)))
      (pss_cons (ps_for PassesOwn.never rfl (pi_tup (pv 11)) (pg_name (i := 12) nd rfl (.inl rfl))
        (pss_one (ps_if (pt_cmpR op_eq (pv 12) pe_str (nomark _))
          (pss_one (ps_set (i := 13) nd rfl (.inl rfl) (pe_op op_catA (pv 13) (pe_tup (pa_cons (pe_fn Fi hr (by decide) pass0 (pa_cons (pv 0) pa_nil)) pa_nil)))))
          (pss_cons (ps_set (i := 14) nd rfl (.inl rfl) (pe_dget hu (pv 4) (pv 12) (fun _ _ => rfl)))
          (pss_cons (ps_set (i := 15) nd rfl (.inl rfl) (pe_fn Fd hr (by decide) pass0 (pa_cons (pv 0) (pa_cons (pe_callB (call_min2 rfl) rfl hmin (by decide +kernel) (pa_cons (pe_lenq B (pv 14)) (pa_cons (pe_ix ix_list (pe_lst (pa_cons pe_int (pa_cons pe_int (pa_cons pe_int pa_nil)))) (pe_fn Fd hr (by decide) pass0 (pa_cons (pv 0) (pa_cons pe_int pa_nil))) (fun _ _ => rfl)) pa_nil)) (by decide) (by decide)) pa_nil))))
          (pss_one (ps_set (i := 13) nd rfl (.inl rfl) (pe_op op_catA (pv 13) (pe_ix ix_list (pv 14) (pe_op op_sub (pe_op op_sub (pe_lenq B (pv 14)) pe_int) (pv 15)) (fun _ _ => rfl))))))))))
      (pss_one (ps_if (pt_cmpR op_le (pe_lenq B (pv 13)) (pv 3) (nomark _)) (pss_one (ps_expr (pe_bm PySem.F.plainAttrs_list PySem.F.slot_list_append PySem.F.type_list_append mt_append (pe_dget hu (pv 4) (pv 6) (fun _ _ => rfl)) (pa_cons (pv 13) pa_nil)))) pss_nil))))))))
    (pss_one (ps_ret (pv 4)))))), ?_⟩
  have nn : ∀ b : Addr, b ∉ ([] : List Addr) := fun b => List.not_mem_nil
  obtain ⟨nu, hkb, hk6⟩ := kinds_names hks
  obtain ⟨ntl, hk1, hmore⟩ := kinds_more hks
  obtain ⟨fa, xs, rfl, efa, nfa, dv⟩ := dv_tup hv
  have lx := dv.length
  refine fun sd hsd => ⟨by show 0 ≤ sizeLine; omega, fun ma hma => ⟨by show 2 ≤ sizeLine; decide, fun tt htt => ?_⟩⟩
  refine ⟨tt, _, rfl, SqT.of upd_same, rfl, _, _, rfl, _, _, rfl, rfl, ?_⟩
  have gt := Go.new (T := T) (M := []) (o := .tup [.ref sd, .ref ma]) htt
  have gm := Go.new (T := T) (M := []) (o := .lst []) hma
  have gs := Go.new (T := T) (M := []) (o := .dK []) hsd
  have g0 := (gs.trans gm).trans gt
  have esd := gt.gr _ _ (gm.gr _ _ (upd_same (H := H) (a := sd) (o := .dK [])) (nn _) (fun _ z => by cases z)) (nn _) (fun _ z => by cases z)
  have ema := gt.lst (upd_same (H := upd H sd (.dK [])) (a := ma) (o := .lst [])) (nn _)
  have hsd0 : H sd = none := hsd
  have hma00 : H ma = none := gs.al _ hma
  generalize upd (upd (upd H sd (.dK [])) ma (.lst [])) tt (.tup [.ref sd, .ref ma]) = H1 at *
  refine ⟨_, rfl, fa, rfl, ⟨_, SqT.of (g0.tup efa (nn _))⟩, ?_⟩
  refine for_it (n := xs.length) walk_tup (fun i σ H' => ∃ ps ma ms p6 p7, σ = [some (.ref a), some (.ref fa), some (.int cnt0), some (.int mst), some (.ref sd), some (.ref ma), p6, p7, none, none, none, none, none, none, none, none] ∧ Go T [] H H' ∧ H' sd = some (.dK (dictP ps)) ∧ ps.map Prod.fst = (ks.take i).map titleOf ∧ (ps.map Prod.snd).Nodup ∧ (∀ tp ∈ ps, H' tp.2 = some (.lst []) ∧ H tp.2 = none) ∧ H' ma = some (.lst ms) ∧ ma ∉ ps.map Prod.snd ∧ H ma = none ∧ (∀ v ∈ ms, mkAt H' ks v) ∧ ms.length = (rowsM (ks.take i)).length)
    ⟨[], ma, [], none, none, rfl, g0, esd, rfl, by simp, by simp, ema, by simp, hma00, by simp, rfl⟩
    (fun i σ H' _ ⟨_, _, _, _, _, _, g, _⟩ => SqT.of (g.tup efa (nn _))) (fun i x σ H3 H4 hi h y => ?_) (fun σ H3 h => ?_)
  · obtain ⟨ps, ma, ms, p6, p7, rfl, gg, esd, eps, nps, hps, ema, nma, hma0, hms, lms⟩ := h
    obtain ⟨rfl, ex⟩ := y
    obtain ⟨kk, ek, hx⟩ := dv.get ex
    have hkk := hkb kk (List.mem_of_getElem? ek)
    obtain ⟨kn, mds, rfl, m1, m6, hmm⟩ := kind_parts hkk
    obtain ⟨p, vx, vy, rfl, ep, np, hvx, hvy⟩ := dv_pair hx
    cases hvx
    obtain ⟨b, ys, rfl, eb, nb, dy⟩ := dv_tup hvy
    have ly := dy.length
    have lps : ps.length ≤ 6 := by
      have := congrArg List.length eps
      rw [List.length_map, List.length_map, List.length_take] at this
      omega
    have hil : i < ks.length := by omega
    have ekn : ks[i]? = some (.tuple [.str kn, .tuple mds]) := ek
    have fresh : kn ∉ ps.map Prod.fst := by
      rw [eps]
      intro z
      have e1 : ks.map titleOf = (ks.take i).map titleOf ++ (kn :: (ks.drop (i + 1)).map titleOf) := by
        have : ks.drop i = .tuple [.str kn, .tuple mds] :: ks.drop (i + 1) := by
          rw [List.drop_eq_getElem_cons hil]
          rw [List.getElem?_eq_getElem hil] at ekn
          rw [Option.some.inj ekn]
        conv => lhs; rw [← List.take_append_drop i ks, this]
        rw [List.map_append, List.map_cons]
        rfl
      rw [e1] at ntl
      exact (List.nodup_append.mp ntl).2.2 kn z kn List.mem_cons_self rfl
    refine ⟨p, _, rfl, SqT.of (gg.tup ep (nn _)), rfl, _, _, rfl, _, _, rfl, rfl, ?_⟩
    refine ⟨by show 0 ≤ sizeLine; omega, fun pn hpn => ⟨_, rfl, _, rfl, sd, _, rfl, .inl ⟨dictP ps, .inr kn, (Go.new (T := T) (M := []) hpn).gr _ _ esd (nn _) (fun _ z => by cases z), rfl, by unfold dictP; rw [List.length_map, sizeLine_eq]; omega, rfl⟩, ?_⟩⟩
    have gn := Go.new (T := T) (M := []) (o := .lst []) hpn
    have esd2 := gn.gr _ _ esd (nn _) (fun _ z => by cases z)
    have pd : putK (dictP ps) (.inr kn) (.ref pn) = dictP (ps ++ [(kn, pn)]) := by
      rw [putK_new _ (dictP_none fresh)]
      unfold dictP
      rw [List.map_append]
      rfl
    rw [pd]
    have gd : Go T [] H (upd (upd H4 pn (.lst [])) sd (.dK (dictP (ps ++ [(kn, pn)])))) := (gg.trans gn).over hsd0 esd2 (fun _ z => by cases z)
    have nesd : ∀ {q : Addr} {o : HO}, H4 q = some o → (∀ kvs, o ≠ .dK kvs) → upd (upd H4 pn (.lst [])) sd (.dK (dictP (ps ++ [(kn, pn)]))) q = some o := fun {q o} e hne => by
      have h1 : q ≠ sd := fun z => by rw [z, esd] at e; exact hne _ (Option.some.inj e).symm
      rw [upd_ne h1, upd_ne (fun z => by rw [z, hpn] at e; cases e)]
      exact e
    have psd : pn ≠ sd := fun z => by rw [z, esd] at hpn; cases hpn
    have epn : upd (upd H4 pn (.lst [])) sd (.dK (dictP (ps ++ [(kn, pn)]))) pn = some (.lst []) := by rw [upd_ne psd]; exact upd_same
    have ema5 := nesd ema (fun _ z => by cases z)
    have eb5 := nesd (gg.tup eb (nn _)) (fun _ z => by cases z)
    have esd5 : upd (upd H4 pn (.lst [])) sd (.dK (dictP (ps ++ [(kn, pn)]))) sd = some (.dK (dictP (ps ++ [(kn, pn)]))) := upd_same
    have hps5 : ∀ tp ∈ ps ++ [(kn, pn)], upd (upd H4 pn (.lst [])) sd (.dK (dictP (ps ++ [(kn, pn)]))) tp.2 = some (.lst []) ∧ H tp.2 = none := fun tp m => by
      rcases List.mem_append.mp m with z | z
      · exact ⟨nesd (hps tp z).1 (fun _ z => by cases z), (hps tp z).2⟩
      · rw [List.mem_singleton.mp z]
        exact ⟨epn, gg.al _ hpn⟩
    have hms5 : ∀ v ∈ ms, mkAt (upd (upd H4 pn (.lst [])) sd (.dK (dictP (ps ++ [(kn, pn)])))) ks v := fun v m => (hms v m).st fun q ys e => nesd e (fun _ z => by cases z)
    have nma' : pn ≠ ma := fun z => by rw [z, ema] at hpn; cases hpn
    have nps' : ((ps ++ [(kn, pn)]).map Prod.snd).Nodup := by
      rw [List.map_append]
      refine List.nodup_append.mpr ⟨nps, by simp, fun x hx y hy e => ?_⟩
      have hy' : y = pn := by simpa using hy
      subst hy'
      subst e
      obtain ⟨tp, mtp, e2⟩ := List.mem_map.mp hx
      have := (hps tp mtp).1
      rw [e2, hpn] at this
      cases this
    generalize hH5 : upd (upd H4 pn (.lst [])) sd (.dK (dictP (ps ++ [(kn, pn)]))) = H5 at *
    refine ⟨_, rfl, _, rfl, b, rfl, ⟨_, SqT.of eb5⟩, fun D' hD' => ?_⟩
    have kid : ∀ (j : Nat) md, mds[j]? = some md → (kn, j, md) ∈ rowsM ks := fun j md e => by
      refine List.mem_flatMap.mpr ⟨.tuple [.str kn, .tuple mds], List.mem_of_getElem? ekn, ?_⟩
      refine List.mem_map.mpr ⟨(md, j), ?_, rfl⟩
      exact List.mem_zipIdx_iff_getElem?.mpr e
    refine lc_it walk_tup (fun j H' => Go T [] H5 H' ∧ ∃ acc, H' D' = some (.lst acc) ∧ acc.length = j ∧ ∀ v ∈ acc, mkAt H' ks v) ⟨Go.new hD', [], upd_same, rfl, by simp⟩ (fun j H' _ h => SqT.of (h.1.tup eb5 (nn _))) (fun j x H6 H7 hj h y => ?_) (fun H6 h => ?_)
    · obtain ⟨g6, acc, ea, la', ha⟩ := h
      obtain ⟨rfl, exj⟩ := y
      obtain ⟨md, em, hz⟩ := dy.get exj
      have hmd := hmm md (List.mem_of_getElem? em)
      obtain ⟨q1, wx, wy, mnn, rfl, eq1, rfl, emd, hwy⟩ : ∃ q1 wx wy mnn, x = .ref q1 ∧ H q1 = some (.tup [wx, wy]) ∧ wx = .str mnn ∧ mnn = SL.mkN md ∧ Dv [a, l] H wy (sndD md) := by
        obtain ⟨mn, fs, rfl, f4, hfs⟩ := maker_parts hmd
        obtain ⟨q1, wx, wy, rfl, eq1, nq1, hwx, hwy⟩ := dv_pair hz
        cases hwx
        exact ⟨q1, _, wy, mn, rfl, eq1, rfl, rfl, hwy⟩
      obtain ⟨fl, rfl, efl, _, lfl⟩ := flds_dv hmd hwy
      subst emd
      have eq6 := (gd.trans g6).tup eq1 (nn _)
      have efl6 := (gd.trans g6).tup efl (nn _)
      refine ⟨rfl, _, rfl, _, rfl, q1, _, 0, _, rfl, rfl, SqT.of eq6, atI_nat (j := 0) rfl, _, rfl, q1, _, 1, _, rfl, rfl, SqT.of eq6, atI_nat (j := 1) rfl, by show 3 ≤ sizeLine; decide, fun t ht7 => ?_⟩
      have u7 := Go.new (T := T) (M := []) (o := .tup [.str kn, .str (SL.mkN md), .ref fl]) ht7
      have ea7 := u7.lst ea (nn _)
      refine ⟨acc, ea7, by rw [la', sizeLine_eq]; omega, (g6.trans u7).over hD' ea7 (fun _ z => by cases z), acc ++ [.ref t], upd_same, by rw [List.length_append, la'] <;> rfl, fun v hv' => ?_⟩
      have st7 := (ST.go0 u7).trans (ST.set (o' := .lst (acc ++ [.ref t])) ea7)
      rcases List.mem_append.mp hv' with z | z
      · exact (ha v z).st fun q ys e => st7.tup e
      · rw [List.mem_singleton.mp z]
        exact ⟨kn, j, md, t, fl, kid j md em, rfl, (ST.set (o' := .lst (acc ++ [.ref t])) ea7).tup upd_same, st7.tup efl6⟩
    · obtain ⟨g6, acc, ea, la', ha⟩ := h
      have ema6 := g6.lst ema5 (nn _)
      have lr : (rowsM (ks.take i)).length ≤ 6 * i := by
        have := rows_len (ks := ks.take i) fun k hk' => hkb k (List.mem_of_mem_take hk')
        rw [List.length_take] at this
        omega
      refine ⟨ma, D', ms, acc, rfl, rfl, ema6, ea, by rw [lms, la', sizeLine_eq]; omega, fun p2 hp2 => ?_⟩
      have u8 := Go.new (T := T) (M := []) (o := .lst (ms ++ acc)) hp2
      have g8 := g6.trans u8
      refine ⟨ps ++ [(kn, pn)], p2, ms ++ acc, _, _, rfl, gd.trans g8, g8.gr _ _ esd5 (nn _) (fun _ z => by cases z), ?_, nps', fun tp m => ⟨g8.lst (hps5 tp m).1 (nn _), (hps5 tp m).2⟩, upd_same, ?_, (gd.trans g6).al _ hp2, fun v hv' => ?_, ?_⟩
      · rw [List.map_append, eps, List.take_add_one, ekn, Option.toList_some, List.map_append]
        rfl
      · intro z
        obtain ⟨tp, mtp, e2⟩ := List.mem_map.mp z
        have := g6.lst (hps5 tp mtp).1 (nn _)
        rw [e2, hp2] at this
        cases this
      · rcases List.mem_append.mp hv' with z | z
        · exact (hms5 v z).st fun q ys e => g8.tup e (nn _)
        · exact (ha v z).st fun q ys e => u8.tup e (nn _)
      · rw [rows_snoc ekn, List.length_append, List.length_append, lms, la', tag_len, ly]
        rfl
  · obtain ⟨ps, ma, ms, p6, p7, rfl, gg, esd, eps, nps, hps, ema, nma, hma0, hms, lms⟩ := h
    rw [lx, List.take_length] at eps lms
    have lr : (rowsM ks).length ≤ 6 * ks.length := rows_len hkb
    have lr1 := rows_pos hkb hk1
    have W3 := W.go gg
    have nma0 := W.ne hma0
    have npa : ∀ tp ∈ ps, tp.2 ∉ [a, l] := fun tp m => nin (W.ne (hps tp m).2)
    have npm : ∀ tp ∈ ps, tp.2 ≠ ma := fun tp m z => nma (List.mem_map.mpr ⟨tp, m, z⟩)
    have npp : ∀ tp ∈ ps, ∀ tp' ∈ ps, tp.2 = tp'.2 → tp = tp' := by
      intro tp m tp' m' e
      obtain ⟨i1, hi1, e1⟩ := List.mem_iff_getElem.mp m
      obtain ⟨i2, hi2, e2⟩ := List.mem_iff_getElem.mp m'
      have : i1 = i2 := by
        refine (List.getElem_inj (xs := ps.map Prod.snd) (h₀ := by rw [List.length_map]; exact hi1) (h₁ := by rw [List.length_map]; exact hi2) nps).mp ?_
        rw [List.getElem_map, List.getElem_map, e1, e2, e]
      subst this
      rw [← e1, ← e2]
    have ntp : (ps.map Prod.fst).Nodup := by rw [eps]; exact ntl
    have npf : ∀ tp ∈ ps, ∀ tp' ∈ ps, tp.1 = tp'.1 → tp = tp' := by
      intro tp m tp' m' e
      obtain ⟨i1, hi1, e1⟩ := List.mem_iff_getElem.mp m
      obtain ⟨i2, hi2, e2⟩ := List.mem_iff_getElem.mp m'
      have : i1 = i2 := by
        refine (List.getElem_inj (xs := ps.map Prod.fst) (h₀ := by rw [List.length_map]; exact hi1) (h₁ := by rw [List.length_map]; exact hi2) ntp).mp ?_
        rw [List.getElem_map, List.getElem_map, e1, e2, e]
      subst this
      rw [← e1, ← e2]
    refine ⟨_, rfl, ma, ms, rfl, .inl (SqL.of ema), _, _, rfl, rfl, .inl ⟨by decide, by decide⟩, ?_⟩
    have hR : (6 : Int) * (ms.length : Int) ≤ 216 ∧ 6 ≤ (6 : Int) * (ms.length : Int) := by omega
    refine ⟨_, rfl, _, rfl, _, _, rfl, rfl, _, rfl, by omega, by omega, ?_⟩
    refine for_it (walk_range (lo := 0) (n := ((6 : Int) * (ms.length : Int) + cnt0).toNat)) (fun i σ H' => ∃ G p6 p7 p8 p10 p11 p12 p13 p14 p15, σ = [some (.ref a), some (.ref fa), some (.int cnt0), some (.int mst), some (.ref sd), some (.ref ma), p6, p7, p8, some (.int ((6 : Int) * (ms.length : Int))), p10, p11, p12, p13, p14, p15] ∧ Go T [a, l] H H' ∧ WellAt a l H' (k + 32 * ((i : Nat) : Int)) ∧ ST H3 H' ∧ (∀ tp ∈ ps, H' tp.2 = some (.lst (treesV (G tp.1)))) ∧ H' ma = some (.lst ms) ∧ poolT H' G ∧ goodG ks G i)
      ⟨fun _ => [], _, _, _, _, _, _, _, _, _, rfl, gg.of0, W3.up (by omega), ST.refl, (fun tp m => by rw [(hps tp m).1]; rfl), ema, (fun t e m => by cases m), (fun t => ⟨(fun e m => by cases m), Nat.zero_le _⟩)⟩
      (fun _ _ _ _ _ => trivial) (fun i x σ H4a H4 hi h y => ?_) (fun σ H4 h => ?_)
    · obtain ⟨G, p6, p7, p8, p10, p11, p12, p13, p14, p15, rfl, G4, W4, st4, sp4, ema4, pt4, gd4⟩ := h
      obtain ⟨rfl, ey⟩ := y
      have ey2 : x = V.int (i : Int) := by rw [ey]; show V.int (0 + (i : Int)) = _; rw [Int.zero_add]
      clear ey
      subst ey2
      have hi240 : i < 256 := by omega
      have ms4 : ∀ v ∈ ms, mkAt H4 ks v := fun v m => (hms v m).st fun q ys e => st4.tup e
      have im0 := Int.emod_nonneg (i : Int) (show (ms.length : Int) ≠ 0 by omega)
      have im1 := Int.emod_lt_of_pos (i : Int) (show (0 : Int) < (ms.length : Int) by omega)
      obtain ⟨v0, ev0, mv0⟩ := at_ok im0 im1
      obtain ⟨kd, pp, m, t, fl, hm, rfl, et, efl⟩ := ms4 v0 mv0
      refine ⟨_, rfl, _, rfl, _, rfl, ma, ms, rfl, .inl (SqL.of ema4), _, _, rfl, rfl, by omega, ma, ms, _, _, rfl, rfl, SqL.of ema4, ev0, t, _, rfl, SqT.of et, rfl, _, _, rfl, _, _, rfl, _, _, rfl, rfl, ?_⟩
      refine ⟨_, rfl, _, rfl, _, _, rfl, rfl, _, rfl, ?_⟩
      have wl4 : ∀ b ∈ [a, l], ∃ ys, H4 b = some (.lst ys) := fun b hb => by
        obtain ⟨ns, s, c, w1, w2, w3, _⟩ := W4
        rcases List.mem_cons.mp hb with rfl | hb
        · exact ⟨_, w2⟩
        · rw [List.mem_singleton.mp hb]
          exact ⟨_, w3⟩
      by_cases cb : (i : Int) < (6 : Int) * (ms.length : Int)
      case' pos =>
        refine if_false_of (decide_eq_false (by omega)) ?_
        refine ⟨_, rfl, _, rfl, _, _, rfl, rfl, _, rfl, ?_⟩
        refine if_true_of (decide_eq_true cb) ?_
        obtain ⟨hkt, _⟩ := hmore kd pp m hm
        rw [← eps] at hkt
        obtain ⟨p, h1, h2⟩ := dictP_some hkt
        have dg : DGet H4 sd (.str kd) (some (.ref p)) := by
          have := DGet.k (k := (Sum.inr kd : Key)) (st4.dk esd)
          rw [h2] at this
          exact this
        refine ⟨_, rfl, _, rfl, sd, .ref p, rfl, dg, by show 0 ≤ sizeLine; omega, fun e1 he1 => ?_⟩
        have u5 := Go.new (T := T) (M := []) (o := .lst []) he1
        refine ⟨p, e1, _, rfl, rfl, .inl ⟨SqL.of (u5.lst (sp4 _ h1) (nn _)), SqL.of upd_same⟩, _, rfl, ?_⟩
        have st6 := st4.trans (ST.go0 u5)
        have W6 : WellAt a l _ (k + 32 * ((i : Nat) : Int) + 1) := (W4.go u5).up (by omega)
        have G6 := G4.trans (u5.of0 (M := [a, l]))
        have sp6 : ∀ tp ∈ ps, _ = some (HO.lst (treesV (G tp.1))) := fun tp m => u5.lst (sp4 tp m) (nn _)
        have ema6 := u5.lst ema4 (nn _)
        have pt6 := pt4.st (ST.go0 u5)
        have efl6 := u5.tup efl (nn _)
        generalize upd H4 e1 (.lst []) = H6 at *
        by_cases cn : (!(treesV (G kd)).isEmpty) = true
        · refine if_true_of cn (iteT ?_)
          exact ⟨G, _, _, _, _, _, _, _, _, _, rfl, G6, W6.up (by omega), st6, sp6, ema6, pt6, gd4.up (by omega)⟩
        refine if_false_of (by simpa using cn) ?_
        clear u5 dg h1 h2 hkt he1 et efl
      case' neg =>
        refine if_true_of (decide_eq_true (by omega)) ?_
        clear hm et efl ev0 mv0
        refine ⟨_, rfl, _, rfl, _, rfl, ma, ms, rfl, .inl (SqL.of ema4), a, l, k + 32 * i, _, rfl, by omega, by omega, by omega, W4, G4.tb ht, fun i5 H6 i50 i51 W6 g5 t5 => ?_⟩
        have st5 := ST.go g5 wl4
        obtain ⟨v5, ev5, mv5⟩ := at_ok i50 i51
        obtain ⟨kd, pp, m, t, fl, hm, rfl, et, efl6⟩ := (ms4 v5 mv5).st fun q ys e => st5.tup e
        have ema6 := g5.lst ema4 (nin nma0)
        refine ⟨ma, ms, i5, _, rfl, rfl, SqL.of ema6, ev5, t, _, rfl, SqT.of et, rfl, _, _, rfl, _, _, rfl, _, _, rfl, rfl, ?_⟩
        refine ⟨_, rfl, _, rfl, _, _, rfl, rfl, _, rfl, ?_⟩
        refine if_false_of (decide_eq_false cb) ?_
        have st6 := st4.trans st5
        have G6 := G4.trans g5
        have sp6 : ∀ tp ∈ ps, H6 tp.2 = some (HO.lst (treesV (G tp.1))) := fun tp m => g5.lst (sp4 tp m) (npa tp m)
        have pt6 := pt4.st st5
        clear et st5 g5 t5
      all_goals
        have t6 := G6.tb ht
        have lfl : (flds m).length ≤ 4 := rows_flds hks hm
        obtain ⟨hkt, hft⟩ := hmore kd pp m hm
        rw [← eps] at hkt hft
        have sp6' : ∀ t, t ∈ ps.map Prod.fst → ∃ p, (t, p) ∈ ps ∧ valV (dictP ps) (.inr t) = some (.ref p) ∧ H6 p = some (.lst (treesV (G t))) := fun t ht' => by
          obtain ⟨p, h1, h2⟩ := dictP_some ht'
          exact ⟨p, h1, h2, sp6 _ h1⟩
        refine ⟨_, rfl, fl, rfl, ⟨_, SqT.of efl6⟩, fun D' hD' => ?_⟩
        refine lc_map (T := T) (H0 := H6) (H1 := H6) (fun j => V.bl (badG G ((flds m)[j]?))) walk_tup (fun H' g' => SqT.of (g'.tup efl6 (nn _))) t6 Go.refl hD' (by rw [List.length_map, sizeLine_eq]; omega) (fun j x H' H'' R hj g' t' y kq => ?_) (fun H' g' t' e' => ?_)
        · obtain ⟨rfl, ex'⟩ := y
          rw [List.getElem?_map] at ex'
          obtain ⟨f', ef', rfl⟩ := Option.map_eq_some_iff.mp ex'
          rw [ef'] at kq
          refine ⟨rfl, _, rfl, rfl, _, rfl, ?_⟩
          by_cases cn : f' = "number"
          · refine if_false_of (by rw [cn]; rfl) ?_
            have : badG G (some f') = false := if_pos cn
            rw [this] at kq
            exact kq _ Go.refl
          · refine if_true_of (by rw [decide_eq_false fun e => cn (V.str.inj e)]; rfl) ?_
            have hf' := (hft f' (List.mem_of_getElem? ef')).resolve_left cn
            obtain ⟨p, h1, h2, h3⟩ := sp6' f' hf'
            have : badG G (some f') = (treesV (G f')).isEmpty := by
              show (if f' = "number" then false else (G f').isEmpty) = _
              rw [if_neg cn]
              unfold treesV
              cases G f' <;> rfl
            rw [this] at kq
            refine ⟨_, rfl, _, rfl, sd, .ref p, rfl, ?_, by show 0 ≤ sizeLine; omega, fun q' hq' => ?_⟩
            · have := DGet.k (k := (Sum.inr f' : Key)) ((st6.trans (ST.go0 g')).dk esd)
              rw [h2] at this
              exact this
            have u' := Go.new (T := T) (M := []) (o := .lst []) hq'
            exact ⟨p, q', _, rfl, rfl, SqL.of (u'.lst (g'.lst h3 (nn _)) (nn _)), SqL.of upd_same, kq _ u'⟩
        rw [List.length_map] at e'
        refine ⟨D', (List.range (flds m).length).map fun j => badG G ((flds m)[j]?), rfl, SqL.of (by rw [List.map_map]; exact e'), _, rfl, ?_⟩
        have W7 := W6.go g'
        have G7 := G6.trans (g'.of0 (M := [a, l]))
        have st7 := st6.trans (ST.go0 g')
        have sp7 : ∀ tp ∈ ps, H' tp.2 = some (HO.lst (treesV (G tp.1))) := fun tp m => g'.lst (sp6 tp m) (nn _)
        have ema7 := g'.lst ema6 (nn _)
        have pt7 := pt6.st (ST.go0 g')
        have efl7 := g'.tup efl6 (nn _)
        by_cases c3 : (((List.range (flds m).length).map fun j => badG G ((flds m)[j]?)).any id) = true
        · refine if_true_of c3 ?_
          exact ⟨G, _, _, _, _, _, _, _, _, _, rfl, G7, W7.up (by omega), st7, sp7, ema7, pt7, gd4.up (by omega)⟩
        refine if_false_of (by simpa using c3) ?_
        have good : ∀ f' ∈ flds m, f' = "number" ∨ (f' ≠ "number" ∧ f' ∈ ps.map Prod.fst ∧ G f' ≠ []) := fun f' mf => by
          by_cases cn : f' = "number"
          · exact .inl cn
          refine .inr ⟨cn, (hft f' mf).resolve_left cn, fun eG => c3 ?_⟩
          obtain ⟨j, hj, ej⟩ := List.mem_iff_getElem.mp mf
          refine List.any_eq_true.mpr ⟨true, List.mem_map.mpr ⟨j, List.mem_range.mpr hj, ?_⟩, rfl⟩
          rw [List.getElem?_eq_getElem hj, ej]
          show (if f' = "number" then false else (G f').isEmpty) = true
          rw [if_neg cn, eG]
          rfl
        refine ⟨_, rfl, by show 1 ≤ sizeLine; decide, fun e0 he0 => ?_⟩
        have u0 := Go.new (T := T) (M := []) (o := .tup [V.str (SL.mkN m)]) he0
        have ee0 : upd H' e0 (.tup [V.str (SL.mkN m)]) e0 = some (.tup (([(.inr (SL.mkN m) : Key)] : List Key).map kV)) := upd_same
        have W8 := W7.go u0
        have G8 := G7.trans (u0.of0 (M := [a, l]))
        have st8 := st7.trans (ST.go0 u0)
        have sp8 : ∀ tp ∈ ps, _ = some (HO.lst (treesV (G tp.1))) := fun tp m => u0.lst (sp7 tp m) (nn _)
        have ema8 := u0.lst ema7 (nn _)
        have pt8 := pt7.st (ST.go0 u0)
        have efl8 := u0.tup efl7 (nn _)
        generalize upd H' e0 (.tup [V.str (SL.mkN m)]) = H8 at *
        refine ⟨_, rfl, fl, rfl, ⟨_, SqT.of efl8⟩, ?_⟩
        refine for_it (n := ((flds m).map V.str).length) walk_tup (fun j σ H' => ∃ (e : Addr) (rs : List Key) (q7 q12 q14 q15 : Option V), σ = [some (.ref a), some (.ref fa), some (.int cnt0), some (.int mst), some (.ref sd), some (.ref ma), some (.str kd), q7, some (.str (SL.mkN m)), some (.int ((6 : Int) * (ms.length : Int))), some (.int (i : Int)), some (.ref fl), q12, some (.ref e), q14, q15] ∧ Go T [a, l] H H' ∧ WellAt a l H' (k + 32 * ((i : Nat) : Int) + 1 + 7 * ((j : Nat) : Int)) ∧ ST H8 H' ∧ (∀ tp ∈ ps, H' tp.2 = some (.lst (treesV (G tp.1)))) ∧ H' ma = some (.lst ms) ∧ H' e = some (.tup ((.inr (SL.mkN m) :: rs).map kV)) ∧ run ks ((flds m).take j) rs = some [] ∧ rs.length ≤ 120 * j ∧ smallW bigInt rs ∧ ∀ x, .inr x ∈ rs → G (kdK ks x) ≠ [])
          ⟨e0, [], _, _, _, _, rfl, G8, W8.up (by omega), ST.refl, sp8, ema8, ee0, by rw [List.take_zero]; exact run_nil _, by simp, (fun z m => by cases m), fun x m => by cases m⟩
          (fun j σ H' _ ⟨_, _, _, _, _, _, _, _, _, s', _⟩ => SqT.of (s'.tup efl8)) (fun j x σ H9a H9 hj h y => ?_) (fun σ H9 h => ?_)
        · obtain ⟨e, rs, q7, q12, q14, q15, rfl, G9, W9, st9, sp9, ema9, ee9, run9, len9, sm9, cl9⟩ := h
          obtain ⟨rfl, ex'⟩ := y
          rw [List.getElem?_map] at ex'
          obtain ⟨f', ef', rfl⟩ := Option.map_eq_some_iff.mp ex'
          rw [List.length_map] at hj
          have etk : (flds m).take (j + 1) = (flds m).take j ++ [f'] := by rw [List.take_add_one, ef', Option.toList_some]
          have nxt9 : ∀ {ws : List Key}, run ks [f'] ws = some [] → run ks ((flds m).take (j + 1)) (rs ++ ws) = some [] := fun h => by
            rw [etk]
            exact run_app (run_frame [f'] run9) h
          have wl9 : ∀ b ∈ [a, l], ∃ ys, H9 b = some (.lst ys) := fun b hb => by
            obtain ⟨ns, s, c, w1, w2, w3, _⟩ := W9
            rcases List.mem_cons.mp hb with rfl | hb
            · exact ⟨_, w2⟩
            · rw [List.mem_singleton.mp hb]
              exact ⟨_, w3⟩
          refine ⟨_, rfl, rfl, _, rfl, ?_⟩
          by_cases cn : f' = "number"
          · refine if_true_of (decide_eq_true (by rw [cn])) ?_
            refine ⟨_, rfl, _, rfl, a, l, _, rfl, by omega, W9, G9.tb ht, fun z H10 bz W10 g10 t10 => ⟨by show 1 ≤ sizeLine; rw [sizeLine_eq]; omega, fun u hu' => ?_⟩⟩
            have st10 := ST.go g10 wl9
            have uu := Go.new (T := T) (M := []) (o := .tup [V.int z]) hu'
            refine catT_ok (T := T) (M := []) (uu.tup (st10.tup ee9) (nn _)) upd_same (nn _) (nn _) (by simp only [List.length_map, List.length_cons, List.length_nil]; omega) (fun r _ => nn r) fun r2 H11 er2 nr2 g11 => ?_
            have g89 := uu.trans g11
            refine ⟨r2, rs ++ [.inl z], _, _, _, _, rfl, (G9.trans g10).trans g89.of0, (W10.go g89).up (by omega), (st9.trans st10).trans (ST.go0 g89), fun tp m => g89.lst (g10.lst (sp9 tp m) (npa tp m)) (nn _), g89.lst (g10.lst ema9 (nin nma0)) (nn _), ?_, ?_, by rw [List.length_append, List.length_singleton]; omega, fun y hy => ?_, fun y hy => ?_⟩
            · rw [er2, ← List.cons_append, List.map_append]
              rfl
            · refine nxt9 (run_of ?_ (run_nil _))
              exact decide_eq_true cn
            · rcases List.mem_append.mp hy with w | w
              · exact sm9 y w
              · rw [List.mem_singleton] at w
                cases w
                exact bz
            · rcases List.mem_append.mp hy with w | w
              · exact cl9 y w
              · rw [List.mem_singleton] at w
                cases w
          · refine if_false_of (decide_eq_false fun e => cn (V.str.inj e)) ?_
            obtain ⟨_, hf', hne⟩ := (good f' (List.mem_of_getElem? ef')).resolve_left cn
            obtain ⟨p, h1, h2, _⟩ := sp6' f' hf'
            have hp9 : H9 p = some (.lst (treesV (G f'))) := sp9 _ h1
            have dg : DGet H9 sd (.str f') (some (.ref p)) := by
              have := DGet.k (k := (Sum.inr f' : Key)) ((st8.trans st9).dk esd)
              rw [h2] at this
              exact this
            have lG0 : (treesV (G f')).length = (G f').length := List.length_map _
            have lG1 : 1 ≤ (G f').length := by
              cases e9 : G f' with
              | nil => exact absurd e9 hne
              | cons _ _ => exact Nat.succ_le_succ (Nat.zero_le _)
            have lG2 := (gd4 f').2
            refine ⟨_, rfl, _, rfl, sd, .ref p, rfl, dg, _, rfl, _, rfl, p, _, rfl, .inl (SqL.of hp9), by show 3 ≤ sizeLine; decide, fun r3 hr3 => ?_⟩
            have v3 := Go.new (T := T) (M := []) (o := .lst [V.int 1, V.int 3, V.int 60]) hr3
            refine ⟨_, rfl, a, l, _, 3, rfl, by decide, by decide, by omega, W9.go v3, v3.tb (G9.tb ht), fun i8 H10 i80 i81 W10 g10 t10 => ?_⟩
            obtain ⟨mv, em8, mv1, mv2⟩ : ∃ mv : Int, atI [V.int 1, V.int 3, V.int 60] i8 = some (.int mv) ∧ 1 ≤ mv ∧ mv ≤ 60 := by
              have : i8 = 0 ∨ i8 = 1 ∨ i8 = 2 := by omega
              rcases this with rfl | rfl | rfl
              · exact ⟨1, rfl, by decide, by decide⟩
              · exact ⟨3, rfl, by decide, by decide⟩
              · exact ⟨60, rfl, by decide, by decide⟩
            have er8 := g10.lst (upd_same (H := H9) (a := r3) (o := .lst [V.int 1, V.int 3, V.int 60])) (nin (W9.ne hr3))
            obtain ⟨mn', emn, mn1, mn2⟩ : ∃ mn' : Int, mn' = (if mv < (((treesV (G f')).length : Nat) : Int) then mv else (((treesV (G f')).length : Nat) : Int)) ∧ 1 ≤ mn' ∧ mn' ≤ ((G f').length : Int) := by
              refine ⟨_, rfl, ?_, ?_⟩
              · rw [lG0]
                split <;> omega
              · rw [lG0]
                split <;> omega
            refine ⟨r3, _, i8, _, rfl, rfl, SqL.of er8, em8, _, _, rfl, a, l, _, _, rfl, by rw [← emn]; omega, by rw [← emn]; omega, by omega, W10, t10, fun i9 H11 i90 i91 W11 g11 t11 => ?_⟩
            rw [← emn] at i91
            have wl10 : ∀ b ∈ [a, l], ∃ ys, upd H9 r3 (.lst [V.int 1, V.int 3, V.int 60]) b = some (.lst ys) := fun b hb => by
              obtain ⟨ys, ey⟩ := wl9 b hb
              exact ⟨ys, v3.lst ey (nn _)⟩
            have wl11 : ∀ b ∈ [a, l], ∃ ys, H10 b = some (.lst ys) := fun b hb => by
              obtain ⟨ns, s, c, w1, w2, w3, _⟩ := W10
              rcases List.mem_cons.mp hb with rfl | hb
              · exact ⟨_, w2⟩
              · rw [List.mem_singleton.mp hb]
                exact ⟨_, w3⟩
            have st11 := ((ST.go0 v3).trans (ST.go g10 wl10)).trans (ST.go g11 wl11)
            have hl11 : ∀ {q : Addr} {ys : List V}, H9 q = some (.lst ys) → q ∉ [a, l] → H11 q = some (.lst ys) := fun e n => g11.lst (g10.lst (v3.lst e (nn _)) n) n
            have hp11 := hl11 hp9 (npa _ h1)
            have hlt9 : (G f').length - 1 - i9.toNat < (G f').length := by omega
            have env := List.getElem?_eq_getElem hlt9
            generalize (G f')[(G f').length - 1 - i9.toNat] = nv at env
            obtain ⟨ta, ws⟩ := nv
            have mnv := List.mem_of_getElem? env
            obtain ⟨k1, k2, k3, k4⟩ := (gd4 f').1 _ mnv
            have eta : H11 ta = some (.tup (ws.map kV)) := ((st9.trans st11)).tup (pt8 f' _ mnv)
            refine ⟨_, rfl, _, rfl, _, rfl, p, _, rfl, .inl (SqL.of hp11), _, _, rfl, rfl, _, rfl, _, _, rfl, rfl, p, _, _, .ref ta, rfl, rfl, SqL.of hp11, ?_, ?_⟩
            · have e1 : (((treesV (G f')).length : Nat) : Int) - 1 - i9 = (((G f').length - 1 - i9.toNat : Nat) : Int) := by
                rw [lG0]
                omega
              rw [e1]
              exact atI_nat (by unfold treesV; rw [List.getElem?_map, env] <;> rfl)
            refine catT_ok (T := T) (M := []) (st11.tup ee9) eta (nn _) (nn _) (by simp only [List.length_map, List.length_cons]; have : ws.length ≤ 120 := k2; omega) (fun r _ => nn r) fun r2 H12 er2 nr2 g12 => ?_
            refine ⟨r2, rs ++ ws, _, _, _, _, rfl, (((G9.trans v3.of0).trans g10).trans g11).trans g12.of0, (W11.go g12).up (by omega), (st9.trans st11).trans (ST.go0 g12), fun tp m => g12.lst (hl11 (sp9 tp m) (npa tp m)) (nn _), g12.lst (hl11 ema9 (nin nma0)) (nn _), ?_, nxt9 k1, by rw [List.length_append]; have : ws.length ≤ 120 := k2; omega, fun y hy => ?_, fun y hy => ?_⟩
            · rw [er2, ← List.map_append]
              rfl
            · rcases List.mem_append.mp hy with w | w
              · exact sm9 y w
              · exact k3 y w
            · rcases List.mem_append.mp hy with w | w
              · exact cl9 y w
              · exact k4 y w
        obtain ⟨e, rs, q7, q12, q14, q15, rfl, G9, W9, st9, sp9, ema9, ee9, run9, len9, sm9, cl9⟩ := h
        rw [List.length_map] at W9 run9 len9
        rw [List.take_length] at run9
        refine ⟨_, rfl, e, _, rfl, .inr (SqT.of ee9), _, rfl, _, _, rfl, rfl, _, rfl, ?_⟩
        rw [List.length_map]
        have hlw : ((.inr (SL.mkN m) : Key) :: rs).length = rs.length + 1 := rfl
        by_cases c9 : ((((.inr (SL.mkN m) : Key) :: rs).length : Nat) : Int) ≤ mst
        · refine if_true_of (decide_eq_true c9) ?_
          obtain ⟨p, h1, h2, _⟩ := sp6' kd hkt
          have hp9 : H9 p = some (.lst (treesV (G kd))) := sp9 _ h1
          have dg : DGet H9 sd (.str kd) (some (.ref p)) := by
            have := DGet.k (k := (Sum.inr kd : Key)) ((st8.trans st9).dk esd)
            rw [h2] at this
            exact this
          have lG2 := (gd4 kd).2
          have lG0 : (treesV (G kd)).length = (G kd).length := List.length_map _
          have hp0 : H p = none := (hps _ h1).2
          refine ⟨_, rfl, _, rfl, sd, .ref p, rfl, dg, .inl ⟨rfl, _, SqL.of hp9⟩, _, rfl, p, _, _, rfl, rfl, hp9, by rw [lG0, sizeLine_eq]; omega, ?_⟩
          have G10 := G9.over hp0 hp9 (o := .lst (treesV (G kd) ++ [.ref e])) (fun _ z => by cases z)
          have st10 := ST.set (o' := .lst (treesV (G kd) ++ [.ref e])) hp9
          have W10 : WellAt a l (upd H9 p (.lst (treesV (G kd) ++ [.ref e]))) _ := W9.set (by have := npa _ h1; simpa using this)
          have kdt : kd ∈ ks.map titleOf := by rw [← eps]; exact hkt
          have kde : kdK ks (SL.mkN m) = kd := kdK_eq nu hm
          have hT : isT ks kd (.inr (SL.mkN m) :: rs) := by
            refine run_of ?_ ?_
            · simp only [okW, Bool.and_eq_true, decide_eq_true_eq]
              exact ⟨⟨title_not hks kdt, List.mem_map.mpr ⟨_, hm, rfl⟩⟩, kde⟩
            · show run ks (flK ks (SL.mkN m) ++ []) rs = some []
              rw [flK_eq nu hm, List.append_nil]
              exact run9
          refine ⟨addG G kd (e, .inr (SL.mkN m) :: rs), _, _, _, _, _, _, _, _, _, rfl, G10, W10.up (by omega), (st8.trans st9).trans st10, fun tp m => ?_, ?_, ?_, gd4.add hT (by show ((.inr (SL.mkN m) : Key) :: rs).length ≤ 120; omega) (fun z hz => ?_) (fun x hx => ?_)⟩
          · by_cases ct : tp.2 = p
            · have : tp = (kd, p) := npp tp m _ h1 ct
              subst this
              rw [upd_same]
              unfold addG
              rw [if_pos rfl]
              unfold treesV
              rw [List.map_append]
              rfl
            · have c1 : tp.1 ≠ kd := fun z => ct (by rw [npf tp m _ h1 z])
              rw [upd_ne ct, sp9 tp m]
              unfold addG
              rw [if_neg c1]
          · rw [upd_ne (npm _ h1).symm]
            exact ema9
          · intro t e' m'
            by_cases ct : t = kd
            · subst ct
              have e0 : addG G t (e, .inr (SL.mkN m) :: rs) t = G t ++ [(e, .inr (SL.mkN m) :: rs)] := if_pos rfl
              rw [e0] at m'
              rcases List.mem_append.mp m' with w | w
              · exact (st9.trans st10).tup (pt8 _ _ w)
              · rw [List.mem_singleton.mp w]
                exact st10.tup ee9
            · have e0 : addG G kd (e, .inr (SL.mkN m) :: rs) t = G t := if_neg ct
              rw [e0] at m'
              exact (st9.trans st10).tup (pt8 _ _ m')
          · rcases List.mem_cons.mp hz with w | w
            · cases w
            · exact sm9 z w
          · rcases List.mem_cons.mp hx with w | w
            · cases w
              exact .inl kde
            · exact .inr (cl9 x w)
        · refine if_false_of (decide_eq_false c9) ?_
          exact ⟨G, _, _, _, _, _, _, _, _, _, rfl, G9, W9.up (by omega), st8.trans st9, sp9, ema9, pt8.st st9, gd4.up (by omega)⟩
    · obtain ⟨G, p6, p7, p8, p10, p11, p12, p13, p14, p15, rfl, G4, W4, st4, sp4, ema4, pt4, gd4⟩ := h
      refine ⟨_, rfl, q sd ps G H4 hsd0 ⟨st4.dk esd, nin (W.ne hsd0), eps, fun tp m => ⟨sp4 tp m, npa tp m⟩, pt4, gd4.up (by omega)⟩ (W4.up (by omega)) G4 (G4.tb ht)⟩
end
end K2
set_option Elab.async false
set_option linter.all false
set_option maxRecDepth 100000
set_option maxHeartbeats 4000000
namespace K2
open PySem PySem.Spec PyProof.Rows L2 GxR NdefX GA SL RZ
variable [SL.LamT]
/-! ### the kinds of a chain -/
def chainK (t m0 m1 m2 : Str) (f0 f1 : List Str) : List PyData := [.tuple [.str t, .tuple [.tuple [.str m0, .tuple (f0.map .str)], .tuple [.str m1, .tuple (f1.map .str)], .tuple [.str m2, .tuple ([("number" : Str), t].map .str)]]]]
theorem strs_bd : ∀ {fs : List Str}, (∀ x ∈ fs, asc x = true ∧ x.length ≤ 11) → wtAll (fs.map .str) ≤ 200 * fs.length ∧ niceAll 0 (fs.map .str) = true ∧ PyData.depthAll (fs.map .str) = 0
  | [], _ => ⟨by simp [wtAll], rfl, by simp [PyData.depthAll]⟩
  | x :: r, h => by
    obtain ⟨h1, h2, h3⟩ := strs_bd fun y hy => h y (List.mem_cons_of_mem _ hy)
    obtain ⟨ha, hl⟩ := h x List.mem_cons_self
    refine ⟨?_, ?_, ?_⟩
    · rw [List.map_cons, List.length_cons]
      simp only [wtAll, wt]
      omega
    · rw [List.map_cons]
      simp only [niceAll, nice]
      rw [h2, ha]
      rfl
    · rw [List.map_cons]
      simp only [PyData.depthAll, PyData.depth]
      rw [h3]
      rfl
theorem mk_makerB {m : Str} {fs : List Str} (h : highS m = true) (l : fs.length ≤ 4) : makerB (.tuple [.str m, .tuple (fs.map .str)]) = true := by
  have e1 : tupB (.tuple (fs.map .str)) 0 4 = true := by
    show (decide ((0 : Int) ≤ ((fs.map PyData.str).length : Int)) && decide (((fs.map PyData.str).length : Int) ≤ 4)) = true
    rw [List.length_map, decide_eq_true (by omega), decide_eq_true (by omega)] <;> rfl
  have e2 : (fs.map PyData.str).all isStr = true := by
    rw [List.all_map]
    exact List.all_eq_true.mpr fun _ _ => rfl
  have e0 : makerB (.tuple [.str m, .tuple (fs.map .str)]) = (true && highS m && tupB (.tuple (fs.map .str)) 0 4 && (fs.map PyData.str).all isStr) := rfl
  rw [e0, h, e1, e2]
  rfl
section
variable {t m0 m1 m2 : Str} {f0 f1 : List Str}
theorem chain_ok (ht : nmOk t) (h0 : nmOk m0) (h1 : nmOk m1) (h2 : nmOk m2) (nd : [m0, m1, m2].Nodup) (l0 : f0.length ≤ 4) (l1 : f1.length ≤ 4) (o0 : ∀ f ∈ f0, f = "number" ∨ f = t) (o1 : ∀ f ∈ f1, f = "number" ∨ f = t) :
    drawnOk (.tuple (chainK t m0 m1 m2 f0 f1)) ∧ kindsB (.tuple (chainK t m0 m1 m2 f0 f1)) = true := by
  have at' := ht.old
  have a0 := h0.old
  have a1 := h1.old
  have a2 := h2.old
  have an : asc "number" = true ∧ ("number" : Str).length ≤ 11 := by decide +kernel
  have bd : ∀ {fs : List Str}, (∀ f ∈ fs, f = "number" ∨ f = t) → ∀ x ∈ fs, asc x = true ∧ x.length ≤ 11 := fun h x m => by
    rcases h x m with rfl | rfl
    · exact an
    · exact ⟨at'.1, at'.2.2⟩
  obtain ⟨w0, n0, d0⟩ := strs_bd (bd o0)
  obtain ⟨w1, n1, d1⟩ := strs_bd (bd o1)
  have o2 : ∀ f ∈ [("number" : Str), t], f = "number" ∨ f = t := fun f m => by
    simpa using m
  obtain ⟨w2, n2, d2⟩ := strs_bd (bd o2)
  have w2 : wtAll ([("number" : Str), t].map .str) ≤ 400 := w2
  generalize hz : ([("number" : Str), t].map PyData.str) = z2 at w2 n2 d2
  refine ⟨⟨_, [], rfl, ?_, ?_, ?_⟩, ?_⟩
  · show wt (.tuple (chainK t m0 m1 m2 f0 f1)) ≤ 80000
    unfold chainK
    rw [hz]
    simp only [wt, wtAll]
    omega
  · show nice 0 (.tuple (chainK t m0 m1 m2 f0 f1)) = true
    unfold chainK
    rw [hz]
    simp only [nice, niceAll, at'.1, a0.1, a1.1, a2.1, n0, n1, n2]
    rfl
  · show (PyData.tuple (chainK t m0 m1 m2 f0 f1)).depth ≤ 6
    unfold chainK
    rw [hz]
    simp only [PyData.depth, PyData.depthAll, d0, d1, d2]
    omega
  · have hm0 := mk_makerB h0 l0
    have hm1 := mk_makerB h1 l1
    have hm2 := mk_makerB (fs := [("number" : Str), t]) h2 (by show 2 ≤ 4; decide)
    have e1 : (itemsD (.tuple (chainK t m0 m1 m2 f0 f1))).all kindB = true := by
      have hh : highS t = true := ht
      show ((true && highS t && true && (makerB _ && (makerB _ && (makerB _ && true)))) && true) = true
      rw [hh, hm0, hm1, hm2]
      rfl
    have e2 : unl (titlesD (.tuple (chainK t m0 m1 m2 f0 f1))) = true := by
      show decide (([PyData.str t].map strD).Nodup) = true
      simp
    have e3 : unl (mnamesD (.tuple (chainK t m0 m1 m2 f0 f1))) = true := decide_eq_true nd
    have e4 : (fieldsD (.tuple (chainK t m0 m1 m2 f0 f1))).all (fieldOk (.tuple (chainK t m0 m1 m2 f0 f1))) = true := by
      refine List.all_eq_true.mpr fun f hf => ?_
      have hf : f ∈ f0.map PyData.str ++ (f1.map PyData.str ++ ([("number" : Str), t].map PyData.str ++ [])) := hf
      have hs : ∃ x, f = .str x ∧ (x = "number" ∨ x = t) := by
        rcases List.mem_append.mp hf with m | m
        · obtain ⟨x, mx, rfl⟩ := List.mem_map.mp m
          exact ⟨x, rfl, o0 x mx⟩
        · rcases List.mem_append.mp m with m | m
          · obtain ⟨x, mx, rfl⟩ := List.mem_map.mp m
            exact ⟨x, rfl, o1 x mx⟩
          · rw [List.append_nil] at m
            obtain ⟨x, mx, rfl⟩ := List.mem_map.mp m
            exact ⟨x, rfl, o2 x mx⟩
      obtain ⟨x, rfl, hx⟩ := hs
      show (decide (x = "number") || decide (x ∈ [t])) = true
      rcases hx with rfl | rfl
      · rw [decide_eq_true rfl, Bool.true_or]
      · rw [decide_eq_true (show x ∈ [x] from by simp), Bool.or_true]
    unfold kindsB
    rw [e1, e2, e3, e4]
    rfl
theorem chain_rows : rowsM (chainK t m0 m1 m2 f0 f1) = [(t, 0, .tuple [.str m0, .tuple (f0.map .str)]), (t, 1, .tuple [.str m1, .tuple (f1.map .str)]), (t, 2, .tuple [.str m2, .tuple ([("number" : Str), t].map .str)])] := rfl
theorem chain_titles : (chainK t m0 m1 m2 f0 f1).map titleOf = [t] := rfl
theorem flds_strs (m : PyData) (fs : List Str) : flds (.tuple [m, .tuple (fs.map .str)]) = fs := strs_back fs
theorem chain_0 (hk : kindsB (.tuple (chainK t m0 m1 m2 f0 f1)) = true) : okW (chainK t m0 m1 m2 f0 f1) t (.inr m0) = true ∧ nxt (chainK t m0 m1 m2 f0 f1) (.inr m0) = f0 := by
  obtain ⟨nu, _, _⟩ := kinds_names hk
  have hm : (t, 0, PyData.tuple [.str m0, .tuple (f0.map .str)]) ∈ rowsM (chainK t m0 m1 m2 f0 f1) := by rw [chain_rows]; simp
  refine ⟨?_, ?_⟩
  · simp only [okW, Bool.and_eq_true, decide_eq_true_eq]
    exact ⟨⟨title_not hk (by rw [chain_titles]; simp), List.mem_map.mpr ⟨_, hm, rfl⟩⟩, kdK_eq nu hm⟩
  · show flK _ m0 = f0
    exact (flK_eq nu hm).trans (flds_strs _ f0)
theorem chain_1 (hk : kindsB (.tuple (chainK t m0 m1 m2 f0 f1)) = true) : okW (chainK t m0 m1 m2 f0 f1) t (.inr m1) = true ∧ nxt (chainK t m0 m1 m2 f0 f1) (.inr m1) = f1 := by
  obtain ⟨nu, _, _⟩ := kinds_names hk
  have hm : (t, 1, PyData.tuple [.str m1, .tuple (f1.map .str)]) ∈ rowsM (chainK t m0 m1 m2 f0 f1) := by rw [chain_rows]; simp
  refine ⟨?_, ?_⟩
  · simp only [okW, Bool.and_eq_true, decide_eq_true_eq]
    exact ⟨⟨title_not hk (by rw [chain_titles]; simp), List.mem_map.mpr ⟨_, hm, rfl⟩⟩, kdK_eq nu hm⟩
  · show flK _ m1 = f1
    exact (flK_eq nu hm).trans (flds_strs _ f1)
end
def nums (n : Nat) : List Str := List.replicate n "number"
theorem run_ints {ks : List PyData} (s : List Str) : ∀ zs : List Int, run ks (nums zs.length ++ s) (zs.map .inl) = some s
  | [] => run_nil s
  | z :: zs => by
    show run ks ("number" :: (nums zs.length ++ s)) (.inl z :: zs.map .inl) = some s
    exact run_of rfl (run_ints s zs)
theorem nums_add (a b : Nat) : nums (a + b) = nums a ++ nums b := (List.replicate_append_replicate ..).symm
theorem nums_mem {n : Nat} {f : Str} (h : f ∈ nums n) : f = "number" := (List.mem_replicate.mp h).2
theorem nums_len (n : Nat) : (nums n).length = n := List.length_replicate
end K2
set_option Elab.async false
set_option linter.all false
set_option maxRecDepth 100000
set_option maxHeartbeats 2000000
/-! own words, 28: t * k, k from 0 to 3 -/
namespace SL
open PySem PySem.Spec PyProof.Rows L2 GxR NdefX GA RZ
variable [SL.LamT]
open PySem.AutoSeq1 (wpAny_loadPart')
def rTimes0 (K : PySem.W.Frag) : R2 := fun x y H Q => ∃ l k xs, x = .ref l ∧ y = .int k ∧ SqT K H l xs ∧ 0 ≤ k ∧ k ≤ 3 ∧ xs ≠ [] ∧ xs.length ≤ 2000000 ∧ (k = 1 → Q (.ref l) H) ∧ (k ≠ 1 → ∀ p, H p = none → Q (.ref p) (upd H p (.tup (List.replicate k.toNat xs).flatten)))
theorem mul_zero_ (l : Addr) (items : Array Value) (n : Nat) (dd : Option Addr) (sl : Array (Option Value)) (u : Tok) (hi : items.isEmpty = false) :
    Meets (Builtin.«tuple.__mul__» ⟨[.ref l, .int 0 u], []⟩) (fun _ R s => s.heap.get? l = some { cls := .type "tuple", dict := dd, data := .seq items n, slots := sl } ∧
      R (.ok (.ret (Value.ref s.heap.objs.size))) { s with heap := s.heap.push { cls := Value.type "tuple", data := Data.seq #[] }, toks := s.toks }) :=
  .of_wp fun prog w A R s h => by
    obtain ⟨hp, g, d, tk, os⟩ := s
    obtain ⟨hl, h⟩ := h
    have f1 := AutoSeq1.idx_int
    have hi2 : (items.isEmpty || (0 : Int) == 1) = false := by rw [hi]; rfl
    wp_walk using wpAny_loadPart' hl
    exact ⟨_, rfl, h⟩
theorem mul_one_ (l : Addr) (items : Array Value) (n : Nat) (dd : Option Addr) (sl : Array (Option Value)) (u : Tok) :
    Meets (Builtin.«tuple.__mul__» ⟨[.ref l, .int 1 u], []⟩) (fun _ R s => s.heap.get? l = some { cls := .type "tuple", dict := dd, data := .seq items n, slots := sl } ∧ R (.ok (.ret (.ref l))) s) :=
  .of_wp fun prog w A R s h => by
    obtain ⟨hp, g, d, tk, os⟩ := s
    obtain ⟨hl, h⟩ := h
    have f1 := AutoSeq1.idx_int
    wp_walk using wpAny_loadPart' hl
    exact ⟨_, rfl, h⟩
theorem op_times0 {X : Cx} : OpR X (binaryOp .Mult) (rTimes0 X.K) := by
  intro pins s σ H x y v u Q I rx ry h
  obtain ⟨l, k, xs, rfl, rfl, hT, k0, k3, hne, hz, q1, q2⟩ := h
  by_cases hk : 2 ≤ k
  · exact op_times pins s σ H _ _ v u Q I rx ry ⟨l, k, xs, rfl, rfl, hT, hk, k3, hz, fun e => absurd e hne, fun _ => q2 (by omega)⟩
  cases rx
  obtain ⟨t, rfl⟩ := ry
  obtain ⟨its, r, ⟨⟨cls, dd, data, sl⟩, ho, hc, n, hd⟩, _⟩ := I.tuple hT
  simp only at hc hd
  subst hc hd
  have hi : its.toArray.isEmpty = false := by
    cases r with
    | nil => exact absurd rfl hne
    | cons _ _ => rfl
  refine wpAny_binaryOp_repeat_ref (T := "tuple") (U := "int") (by decide) ⟨_, ho, rfl⟩ (fun s' => typeIs_int s' k t) noFill_tuple_mul F.fills_int_mul F.slot_int_rmul repeat_tuple F.slot_int_index.lookup
    (call_meets F.slot_int_rmul (typeIs_int s k t) F.entry_int_rmul (F.args_int_rmul_2 _ _) (int_rmul_tuple k t l its.toArray n dd sl) ⟨ho, rfl, ⟨_, ho, rfl⟩, ?_⟩)
  have : k = 0 ∨ k = 1 := by omega
  rcases this with rfl | rfl
  · refine call_meets F.slot_tuple_mul ⟨_, ho, rfl⟩ F.entry_tuple_mul (F.args_tuple_mul_2 _ _) (mul_zero_ l its.toArray n dd sl t hi) ⟨ho, ?_⟩
    refine ⟨.ref s.heap.objs.size, _, I.laid (t' := s.toks) (o := .tup []) (fun b ob q => Heap.get?_push_of_some _ q) (Nat.le_refl _) ?_, rfl, q2 (by decide) _ (I.hok.fresh (Nat.le_refl _))⟩
    exact ⟨Nat.zero_le _, [], .nil, IsTup.new _ _⟩
  · exact call_meets F.slot_tuple_mul ⟨_, ho, rfl⟩ F.entry_tuple_mul (F.args_tuple_mul_2 _ _) (mul_one_ l its.toArray n dd sl t) ⟨ho, .ref l, H, I, rfl, q1 rfl⟩
end SL
set_option Elab.async false
set_option linter.all false
set_option maxRecDepth 100000
set_option maxHeartbeats 8000000
namespace SL
open PySem PySem.Spec PyProof.Rows L2 GxR NdefX GA RZ
variable [SL.LamT]
theorem times0_ok {K : PySem.W.Frag} {T M : List Addr} {H : Hp} {p : Addr} {x : V} {j : Int} {Q : VK} (hp : H p = some (.tup [x])) (np : p ∉ M) (h2 : 0 ≤ j) (h3 : j ≤ 3) (fresh : ∀ r, H r = none → r ∉ M)
    (k : ∀ r H', H' r = some (.tup (List.replicate j.toNat x)) → r ∉ M → Go T [] H H' → Q (.ref r) H') : rTimes0 K (.ref p) (.int j) H Q := by
  have e : ∀ n : Nat, (List.replicate n [x]).flatten = List.replicate n x := fun n => by
    induction n with
    | zero => rfl
    | succ n ih => rw [List.replicate_succ, List.flatten_cons, ih, List.replicate_succ] <;> rfl
  refine ⟨p, j, [x], rfl, rfl, SqT.of hp, h2, h3, by simp, by show 1 ≤ 2000000; decide, fun ej => ?_, fun _ r hr => k r _ ?_ (fresh r hr) (Go.new hr)⟩
  · subst ej
    exact k p H hp np Go.refl
  · rw [upd_same, e]
end SL
namespace K2
open PySem PySem.Spec PyProof.Rows L2 GxR NdefX GA SL RZ
variable [SL.LamT]
abbrev s_law_chain : Stmt := top 50
theorem sc_law_chain : FnScope ["well", "size", "spare", "linked", "makers", "title", "ends", "more", "at", "fields", "family", "count", "ahead_words", "behind", "k", "some", "phrase", "j"] ["well", "size", "spare", "linked"] (defScope s_law_chain) := ⟨rfl, rfl, rfl, by decide +kernel, rfl, by decide +kernel, by decide +kernel⟩
def sp_chain (T : List Addr) : Sp := fun vs H Q _ => ∃ (a l : Addr) (k sz sp : Int) (lk : Bool), vs = [.ref a, .int sz, .int sp, .bl lk] ∧ (lk = false ∧ sp = 3 ∧ sz = 400) ∧ k ≤ 274877906944 ∧ WellAt a l H k ∧ Tabs T H ∧
  ∀ r fv pv ks t ms ws m0 n rest H', H' r = some (.tup [fv, pv]) → r ∉ [a, l] → Dv [a, l] H' fv (.tuple ks) → ks = [.tuple [.str t, .tuple ms]] → drawnOk (.tuple ks) → kindsB (.tuple ks) = true → Dv [a, l] H' pv (.tuple (ws.map kD)) → isT ks t ws → ws.length ≤ 410 → smallW bigInt ws → ms = .tuple [.str m0, .tuple ((nums n).map .str)] :: rest → n ≤ 2 → okW ks t (.inr m0) = true → nxt ks (.inr m0) = nums n → WellAt a l H' (k + 10000) → Go T [a, l] H H' → Tabs T H' → Q (.ref r) H'
abbrev oneW (x : Str) : List Key := [.inr x]
abbrev intsW (zs : List Int) : List Key := zs.map .inl
def linkW (m : Str) (us : List Int) : List Key := .inr m :: us.map .inl
theorem strs_rep (n : Nat) (x : Str) : List.replicate n (V.str x) = (List.replicate n x).map V.str := (List.map_replicate ..).symm
theorem strs_dvX {M : List Addr} {H : Hp} (fs : List Str) : DvAll M H (fs.map V.str) (fs.map .str) := DvAll.strs fs
section
variable {P : Program} {w : World} {K : PySem.W.Frag} {mg : Str → Option Value} {base : Heap} {f c Pt CK CR : Addr} {fd : FuncData} {T : List Addr}
theorem ok_law_chain (F : Fun K "_law_chain" "_law_chain" s_law_chain f fd) (B : Bl mg) (hmax : mg "max" = none) (Fd : Fnn P w K mg base CX0 1 "_law_draw" ["well", "many"] (sp_draw T)) (Fn : Fnn P w K mg base CX0 2 "_law_name" ["well", "taken", "high"] (sp_name T)) : FnOk P w K mg base CX0 3 f fd ["well", "size", "spare", "linked"] (sp_chain T) := by
  have nd := sc_law_chain.nd
  refine F.ok sc_law_chain (fun vs H Q E h => ?_) (fun cdv A outer s H vs Q E hr h => ?_)
  · obtain ⟨_, _, _, _, _, _, rfl, _⟩ := h
    rfl
  obtain ⟨a, l, k, sz, sp, lk, rfl, hlk, hk, W, ht, q⟩ := h
  refine ⟨_, pss_cons (ps_set (i := 4) nd rfl (.inl rfl) (pe_lst (pa_cons (pe_fn Fn hr (by decide) pass0 (pa_cons (pv 0) (pa_cons (pe_lst pa_nil) (pa_cons pe_bl pa_nil)))) pa_nil)))
    (pss_cons (ps_expr (pe_bm PySem.F.plainAttrs_list PySem.F.slot_list_append PySem.F.type_list_append mt_append (pv 4) (pa_cons (pe_fn Fn hr (by decide) pass0 (pa_cons (pv 0) (pa_cons (pv 4) (pa_cons pe_bl pa_nil)))) pa_nil)))
    (pss_cons (ps_expr (pe_bm PySem.F.plainAttrs_list PySem.F.slot_list_append PySem.F.type_list_append mt_append (pv 4) (pa_cons (pe_fn Fn hr (by decide) pass0 (pa_cons (pv 0) (pa_cons (pv 4) (pa_cons pe_bl pa_nil)))) pa_nil)))
    (pss_cons (ps_set (i := 5) nd rfl (.inl rfl) (pe_ix ix_list (pe_lst (pa_cons (pe_fn Fn hr (by decide) pass0 (pa_cons (pv 0) (pa_cons (pe_lst pa_nil) (pa_cons pe_bl pa_nil)))) (pa_cons (pe_ix ix_list (pv 4) pe_int (fun _ _ => rfl)) pa_nil))) (pe_fn Fd hr (by decide) pass0 (pa_cons (pv 0) (pa_cons pe_int pa_nil))) (fun _ _ => rfl)))
    (pss_cons (ps_par (i := 6) (j := 7) rfl nd rfl rfl (by decide) rfl rfl (pa_cons (pe_fn Fd hr (by decide) pass0 (pa_cons (pv 0) (pa_cons pe_int pa_nil))) (pa_cons (pe_ix ix_list (pe_lst (pa_cons pe_int (pa_cons pe_int (pa_cons pe_int (pa_cons pe_int pa_nil))))) (pe_fn Fd hr (by decide) pass0 (pa_cons (pv 0) (pa_cons pe_int pa_nil))) (fun _ _ => rfl)) pa_nil)) rfl)
    (pss_cons (ps_set (i := 8) nd rfl (.inl rfl) (pe_fn Fd hr (by decide) pass0 (pa_cons (pv 0) (pa_cons (pe_op op_add (pv 7) pe_int) pa_nil))))
    (pss_cons (ps_set (i := 9) nd rfl (.inl rfl) (pe_op op_catA (pe_op op_catA (pe_op op_times0 (pe_tup (pa_cons pe_str pa_nil)) (pv 8)) (pe_tup (pa_cons (pv 5) pa_nil))) (pe_op op_times0 (pe_tup (pa_cons pe_str pa_nil)) (pe_op op_sub (pv 7) (pv 8)))))
    (pss_cons (ps_set (i := 10) nd rfl (.inl rfl) (pe_tup (pa_cons (pe_tup (pa_cons (pv 5) (pa_cons (pe_tup (pa_cons (pe_tup (pa_cons (pe_ix ix_list (pv 4) pe_int (fun _ _ => rfl)) (pa_cons (pe_op op_times0 (pe_tup (pa_cons pe_str pa_nil)) (pv 6)) pa_nil)))
        (pa_cons (pe_tup (pa_cons (pe_ix ix_list (pv 4) pe_int (fun _ _ => rfl)) (pa_cons (pv 9) pa_nil))) (pa_cons (pe_tup (pa_cons (pe_ix ix_list (pv 4) pe_int (fun _ _ => rfl)) (pa_cons (pe_tup (pa_cons pe_str (pa_cons (pv 5) pa_nil))) pa_nil))) pa_nil)))) pa_nil))) pa_nil)))
    (pss_cons (ps_set (i := 11) nd rfl (.inl rfl) (pe_op op_fdiv (pe_op op_sub (pe_op op_sub (pv 1) pe_int) (pv 6)) (pe_op op_add pe_int (pv 7))))
    (C8.pss_cut (ps_if (pt_val (pv 3)) (pss_one (ps_set (i := 11) nd rfl (.inl rfl) (pe_op op_sub (pv 1) pe_int))) pss_nil)
    (pss_cons (ps_set (i := 11) nd rfl (.inl rfl) (pe_callB (call_max2 rfl) rfl hmax (by decide +kernel) (pa_cons pe_int (pa_cons (pe_op op_sub (pe_op op_add (pv 11) (pe_fn Fd hr (by decide) pass0 (pa_cons (pv 0) (pa_cons (pe_op op_add (pe_op op_mul pe_int (pv 2)) pe_int) pa_nil)))) (pv 2)) pa_nil)) (by decide) (by decide)))
    (pss_cons (ps_par (i := 12) (j := 13) rfl nd rfl rfl (by decide) rfl rfl (pa_cons (pe_lst pa_nil) (pa_cons (pe_lst pa_nil) pa_nil)) rfl)
    (pss_cons (ps_for PassesOwn.never rfl (pi_range1 rfl B.range (pa_cons (pv 11) pa_nil)) (pg_name (i := 14) nd rfl (.inl rfl))
      (pss_cons (ps_setLc (i := 15) (own := [("j", 17)]) (g := gName 17) (tt := tYes) (te := tOp (rI0 fun i j => V.int (i - j)) (tCall (sp_draw T) [] E0 (tCons (tVar 0) (tCons (tC (.int 5)) tNil))) (tC (.int 2))) rfl nd rfl rfl (sw_true rfl rfl rfl (by decide +kernel)) (pi_range1 rfl B.range (pa_cons (pv 7) pa_nil))
          (blkOk_by (own := [("j", 17)]) (N := ["well", "size", "spare", "linked", "makers", "title", "ends", "more", "at", "fields", "family", "count", "ahead_words", "behind", "k", "some", "phrase", "j"]) (sc := defScope s_law_chain) (by decide +kernel)) (fun _ _ _ _ _ => pg_name (i := 17) nd rfl (.inl rfl)) (fun _ _ _ _ _ => pts_nil)
          (fun _ _ _ _ _ => pe_op op_sub (pe_fn Fd hr (by decide) pass0 (pa_cons (pv 0) (pa_cons pe_int pa_nil))) pe_int))
      (pss_cons (ps_expr (pe_bm PySem.F.plainAttrs_list PySem.F.slot_list_extend PySem.F.type_list_extend mt_extend (pv 12) (pa_cons (pe_op op_cat (pe_lst (pa_cons (pe_ix ix_list (pv 4) pe_int (fun _ _ => rfl)) pa_nil)) (pe_slice sl_list (pv 15) po_none (po_some (pv 8)))) pa_nil)))
      (pss_one (ps_expr (pe_bm PySem.F.plainAttrs_list PySem.F.slot_list_append PySem.F.type_list_append mt_append (pv 13) (pa_cons (pe_slice sl_list (pv 15) (po_some (pv 8)) po_none) pa_nil)))))))
    (pss_cons (ps_set (i := 16) nd rfl (.inl rfl) (pe_op op_cat (pe_op op_cat (pv 12) (pe_lst (pa_cons (pe_ix ix_list (pv 4) pe_int (fun _ _ => rfl)) pa_nil)))
        (pe_lc (own := [("j", 17)]) (g := gName 17) (tt := tYes) (te := tOp (rI0 fun i j => V.int (i - j)) (tCall (sp_draw T) [] E0 (tCons (tVar 0) (tCons (tC (.int 5)) tNil))) (tC (.int 2))) rfl nd (pi_range1 rfl B.range (pa_cons (pv 6) pa_nil))
          (blkOk_by (own := [("j", 17)]) (N := ["well", "size", "spare", "linked", "makers", "title", "ends", "more", "at", "fields", "family", "count", "ahead_words", "behind", "k", "some", "phrase", "j"]) (sc := defScope s_law_chain) (by decide +kernel)) (fun _ _ _ _ _ => pg_name (i := 17) nd rfl (.inl rfl)) (fun _ _ _ _ _ => pts_nil)
          (fun _ _ _ _ _ => pe_op op_sub (pe_fn Fd hr (by decide) pass0 (pa_cons (pv 0) (pa_cons pe_int pa_nil))) pe_int))))
    (pss_cons (ps_for PassesOwn.never rfl (pi_range1 rfl B.range (pa_cons (pv 11) pa_nil)) (pg_name (i := 14) nd rfl (.inl rfl))
      (pss_one (ps_expr (pe_bm PySem.F.plainAttrs_list PySem.F.slot_list_extend PySem.F.type_list_extend mt_extend (pv 16) (pa_cons (pe_ix ix_list (pv 13) (pe_op op_sub (pe_op op_sub (pv 11) pe_int) (pv 14)) (fun _ _ => rfl)) pa_nil)))))
    (pss_one (ps_ret (pe_tup (pa_cons (pv 10) (pa_cons (pe_toTup B (pv 16)) pa_nil))))))))))))))))))), ?_⟩
  have nn : ∀ b : Addr, b ∉ ([] : List Addr) := fun b => List.not_mem_nil
  have up : ∀ {p : Addr} {H' : Hp} {k' : Int}, WellAt a l H' k' → H' p = none → p ∉ [a, l] := fun w h => nin (w.ne h)
  -- the names
  refine ⟨_, rfl, by show 0 ≤ sizeLine; omega, fun e0 he0 => ?_⟩
  have v0 := Go.new (T := T) (M := []) (o := .lst []) he0
  have W0 := W.go v0
  have ne0 := W.ne he0
  refine ⟨a, l, e0, k, [], rfl, by omega, W0, ne0.1, ne0.2, upd_same, (fun x m => by cases m), by show 0 < 100; decide, v0.tb ht, fun m0 H1 hm0 _ W1 g1 t1 => ?_⟩
  have G1 := (v0.of0 (M := [a, l])).trans g1
  refine ⟨by show 1 ≤ sizeLine; decide, fun mk hmk => ?_⟩
  have v1 := Go.new (T := T) (M := []) (o := .lst [V.str m0]) hmk
  have W2 := W1.go v1
  have nmk := W1.ne hmk
  have hmk0 : H mk = none := G1.al _ hmk
  have G2 := G1.trans (v1.of0 (M := [a, l]))
  have emk2 : upd H1 mk (.lst [V.str m0]) mk = some (.lst (([m0] : List Str).map V.str)) := upd_same
  generalize upd H1 mk (.lst [V.str m0]) = H2 at *
  refine ⟨_, rfl, .inl ⟨rfl, _, SqL.of emk2⟩, _, rfl, _, rfl, a, l, mk, _, [m0], rfl, by omega, W2, nmk.1, nmk.2, emk2, (fun x m => by rw [List.mem_singleton.mp m]; exact hm0), by show 1 < 100; decide, G2.tb ht, fun m1 H3 hm1 nm1 W3 g3 t3 => ?_⟩
  have G3 := G2.trans g3
  have emk3 := g3.lst emk2 (nin nmk)
  refine ⟨mk, _, _, rfl, rfl, emk3, by show 1 < sizeLine; decide, ?_⟩
  have G4 := G3.over hmk0 emk3 (o := .lst (([m0] : List Str).map V.str ++ [.str m1])) (fun _ z => by cases z)
  have W4 := W3.set (o := .lst (([m0] : List Str).map V.str ++ [.str m1])) nmk
  have emk4 : upd H3 mk (.lst (([m0] : List Str).map V.str ++ [.str m1])) mk = some (.lst (([m0, m1] : List Str).map V.str)) := upd_same
  generalize upd H3 mk (.lst (([m0] : List Str).map V.str ++ [.str m1])) = H4 at *
  refine ⟨_, rfl, .inl ⟨rfl, _, SqL.of emk4⟩, _, rfl, _, rfl, a, l, mk, _, [m0, m1], rfl, by omega, W4, nmk.1, nmk.2, emk4, (fun x m => by
    simp only [List.mem_cons, List.not_mem_nil, or_false] at m
    rcases m with rfl | rfl
    · exact hm0
    · exact hm1), by show 2 < 100; decide, G4.tb ht, fun m2 H5 hm2 nm2 W5 g5 t5 => ?_⟩
  have G5 := G4.trans g5
  have emk5 := g5.lst emk4 (nin nmk)
  refine ⟨mk, _, _, rfl, rfl, emk5, by show 2 < sizeLine; decide, ?_⟩
  have G6 := G5.over hmk0 emk5 (o := .lst (([m0, m1] : List Str).map V.str ++ [.str m2])) (fun _ z => by cases z)
  have W6 := W5.set (o := .lst (([m0, m1] : List Str).map V.str ++ [.str m2])) nmk
  have emk6 : upd H5 mk (.lst (([m0, m1] : List Str).map V.str ++ [.str m2])) mk = some (.lst [.str m0, .str m1, .str m2]) := upd_same
  generalize upd H5 mk (.lst (([m0, m1] : List Str).map V.str ++ [.str m2])) = H6 at *
  have ndm : [m0, m1, m2].Nodup := by
    simp only [List.mem_cons, List.not_mem_nil, or_false, not_or] at nm1 nm2
    simp only [List.nodup_cons, List.mem_cons, List.not_mem_nil, or_false, not_or, not_false_eq_true, List.nodup_nil, and_true]
    exact ⟨⟨fun e => nm1 e.symm, fun e => nm2.1 e.symm⟩, fun e => nm2.2 e.symm⟩
  -- the title
  refine ⟨_, rfl, by show 0 ≤ sizeLine; omega, fun e1 he1 => ?_⟩
  have v6 := Go.new (T := T) (M := []) (o := .lst []) he1
  have ne1 := W6.ne he1
  refine ⟨a, l, e1, _, [], rfl, by omega, W6.go v6, ne1.1, ne1.2, upd_same, (fun x m => by cases m), by show 0 < 100; decide, v6.tb (G6.tb ht), fun t0 H7 ht0 _ W7 g7 t7 => ?_⟩
  have g67 := (v6.of0 (M := [a, l])).trans g7
  have G7 := G6.trans g67
  have emk7 := g67.lst emk6 (nin nmk)
  refine ⟨_, rfl, mk, _, 0, _, rfl, rfl, SqL.of emk7, atI_nat (j := 0) rfl, by show 2 ≤ sizeLine; decide, fun tl htl => ?_⟩
  have v7 := Go.new (T := T) (M := []) (o := .lst [V.str t0, .str m0]) htl
  have ntl := up W7 htl
  refine ⟨_, rfl, a, l, _, 2, rfl, by decide, by decide, by omega, W7.go v7, v7.tb t7, fun i1 H8 i10 i11 W8 g8 t8 => ?_⟩
  obtain ⟨t, et, htt⟩ : ∃ t : Str, atI [V.str t0, .str m0] i1 = some (.str t) ∧ nmOk t := by
    have : i1 = 0 ∨ i1 = 1 := by omega
    rcases this with rfl | rfl
    · exact ⟨t0, rfl, ht0⟩
    · exact ⟨m0, rfl, hm0⟩
  refine ⟨tl, _, i1, _, rfl, rfl, SqL.of (g8.lst upd_same ntl), et, ?_⟩
  have g78 := (v7.of0 (M := [a, l])).trans g8
  have G8 := G7.trans g78
  have emk8 := g78.lst emk7 (nin nmk)
  clear v0 W0 v1 g1 g3 g5 v6 g7 g67 v7 g8 g78 et emk2 emk3 emk4 emk5 emk6 emk7 G1 G2 G3 G4 G5 G6 G7
  -- how many
  refine ⟨_, rfl, a, l, _, 3, rfl, by decide, by decide, by omega, W8, t8, fun ie H9 ie0 ie1 W9 g9 t9 => ?_⟩
  obtain ⟨en, rfl⟩ : ∃ en : Nat, ie = (en : Int) := ⟨ie.toNat, by omega⟩
  refine ⟨by show 4 ≤ sizeLine; decide, fun ol hol => ?_⟩
  have v9 := Go.new (T := T) (M := []) (o := .lst [V.int 0, V.int 0, V.int 1, V.int 2]) hol
  have nol := up W9 hol
  refine ⟨_, rfl, a, l, _, 4, rfl, by decide, by decide, by omega, W9.go v9, v9.tb t9, fun i2 H10 i20 i21 W10 g10 t10 => ?_⟩
  obtain ⟨mo, emo, hmo⟩ : ∃ mo : Nat, atI [V.int 0, V.int 0, V.int 1, V.int 2] i2 = some (.int (mo : Int)) ∧ mo ≤ 2 := by
    have : i2 = 0 ∨ i2 = 1 ∨ i2 = 2 ∨ i2 = 3 := by omega
    rcases this with rfl | rfl | rfl | rfl
    · exact ⟨0, rfl, by decide⟩
    · exact ⟨0, rfl, by decide⟩
    · exact ⟨1, rfl, by decide⟩
    · exact ⟨2, rfl, by decide⟩
  refine ⟨ol, _, i2, _, rfl, rfl, SqL.of (g10.lst upd_same nol), emo, ?_⟩
  have g810 := (g9.trans (v9.of0 (M := [a, l]))).trans g10
  have G10 := G8.trans g810
  have emk10 := g810.lst emk8 (nin nmk)
  refine ⟨_, _, rfl, _, rfl, _, rfl, _, _, rfl, rfl, a, l, _, _, rfl, by omega, by omega, by omega, W10, t10, fun ia H11 ia0 ia1 W11 g11 t11 => ?_⟩
  obtain ⟨ac, rfl⟩ : ∃ ac : Nat, ia = (ac : Int) := ⟨ia.toNat, by omega⟩
  have hac : ac ≤ mo := by omega
  have G11 := G10.trans g11
  have emk11 := g11.lst emk10 (nin nmk)
  have fr : ∀ {H' : Hp}, Go T [] H11 H' → ∀ r, H' r = none → r ∉ [a, l] := fun g r h => up (W11.go g) h
  -- the fields
  refine ⟨by show 1 ≤ sizeLine; decide, fun n1 hn1 => ?_⟩
  have w1 := Go.new (T := T) (M := []) (o := .tup [V.str "number"]) hn1
  refine ⟨_, rfl, times0_ok (T := T) (M := [a, l]) upd_same (fr Go.refl _ hn1) (by omega) (by omega) (fr w1) fun p1 K1 f1 q1 h1 => ?_⟩
  have w2 := w1.trans h1
  refine ⟨_, rfl, by show 1 ≤ sizeLine; decide, fun n2 hn2 => ?_⟩
  have h2 := Go.new (T := T) (M := []) (o := .tup [V.str t]) hn2
  have w3 := w2.trans h2
  rw [Int.toNat_natCast] at f1
  refine catT_ok (T := T) (M := [a, l]) (h2.tup f1 (nn _)) upd_same q1 (fr w2 _ hn2) (by rw [List.length_replicate]; simp only [List.length_cons, List.length_nil]; omega) (fr w3) fun p2 K2 f2 q2 h3 => ?_
  have w4 := w3.trans h3
  refine ⟨by show 1 ≤ sizeLine; decide, fun n3 hn3 => ?_⟩
  have h4 := Go.new (T := T) (M := []) (o := .tup [V.str "number"]) hn3
  have w5 := w4.trans h4
  refine ⟨_, rfl, _, rfl, _, _, rfl, rfl, times0_ok (T := T) (M := [a, l]) upd_same (fr w4 _ hn3) (by omega) (by omega) (fr w5) fun p3 K3 f3 q3 h5 => ?_⟩
  have w6 := w5.trans h5
  have emd : ((mo : Int) - (ac : Int)).toNat = mo - ac := by omega
  rw [emd] at f3
  refine catT_ok (T := T) (M := [a, l]) ((h4.trans h5).tup f2 (nn _)) f3 q2 q3 (by simp only [List.length_append, List.length_replicate, List.length_cons, List.length_nil]; omega) (fr w6) fun p4 K4 f4 q4 h6 => ?_
  have w7 := w6.trans h6
  have ef1 : (List.replicate ac (V.str "number") ++ [V.str t]) ++ List.replicate (mo - ac) (V.str "number") = ((nums ac ++ [t]) ++ nums (mo - ac)).map V.str := by
    rw [List.map_append, List.map_append, strs_rep, strs_rep]
    rfl
  rw [ef1] at f4
  -- the family
  have emkK : K4 mk = some (.lst [.str m0, .str m1, .str m2]) := w7.lst emk11 (nn _)
  refine ⟨_, rfl, _, rfl, mk, _, 0, _, rfl, rfl, SqL.of emkK, atI_nat (j := 0) rfl, by show 1 ≤ sizeLine; decide, fun n4 hn4 => ?_⟩
  have h7 := Go.new (T := T) (M := []) (o := .tup [V.str "number"]) hn4
  have w8 := w7.trans h7
  refine ⟨_, rfl, times0_ok (T := T) (M := [a, l]) upd_same (fr w7 _ hn4) (by omega) (by omega) (fr w8) fun p5 K5' f5 q5 h8 => ?_⟩
  have w9 := w8.trans h8
  rw [Int.toNat_natCast, strs_rep] at f5
  refine ⟨by show 2 ≤ sizeLine; decide, fun n5 hn5 => ?_⟩
  have h9 := Go.new (T := T) (M := []) (o := .tup [V.str m0, .ref p5]) hn5
  have w10 := w9.trans h9
  have m5 := fr w9 _ hn5
  refine ⟨_, rfl, mk, _, 1, _, rfl, rfl, SqL.of (((h7.trans h8).trans h9).lst emkK (nn _)), atI_nat (j := 1) rfl, _, rfl, by show 2 ≤ sizeLine; decide, fun n6 hn6 => ?_⟩
  have h10 := Go.new (T := T) (M := []) (o := .tup [V.str m1, .ref p4]) hn6
  have w11 := w10.trans h10
  have m6 := fr w10 _ hn6
  refine ⟨_, rfl, mk, _, 2, _, rfl, rfl, SqL.of ((((h7.trans h8).trans h9).trans h10).lst emkK (nn _)), atI_nat (j := 2) rfl, _, rfl, by show 2 ≤ sizeLine; decide, fun n7 hn7 => ?_⟩
  have h11 := Go.new (T := T) (M := []) (o := .tup [V.str "number", .str t]) hn7
  have w12 := w11.trans h11
  have m7 := fr w11 _ hn7
  refine ⟨by show 2 ≤ sizeLine; decide, fun n8 hn8 => ?_⟩
  have h12 := Go.new (T := T) (M := []) (o := .tup [V.str m2, .ref n7]) hn8
  have w13 := w12.trans h12
  have m8 := fr w12 _ hn8
  refine ⟨by show 3 ≤ sizeLine; decide, fun n9 hn9 => ?_⟩
  have h13 := Go.new (T := T) (M := []) (o := .tup [V.ref n5, .ref n6, .ref n8]) hn9
  have w14 := w13.trans h13
  have m9 := fr w13 _ hn9
  refine ⟨by show 2 ≤ sizeLine; decide, fun n10 hn10 => ?_⟩
  have h14 := Go.new (T := T) (M := []) (o := .tup [V.str t, .ref n9]) hn10
  have w15 := w14.trans h14
  have m10 := fr w14 _ hn10
  refine ⟨by show 1 ≤ sizeLine; decide, fun fa hfa => ?_⟩
  have h15 := Go.new (T := T) (M := []) (o := .tup [V.ref n10]) hfa
  have w16 := w15.trans h15
  have m11 := fr w15 _ hfa
  obtain ⟨dok, kok⟩ := chain_ok (f0 := nums en) (f1 := (nums ac ++ [t]) ++ nums (mo - ac)) htt hm0 hm1 hm2 ndm (by rw [nums_len]; omega) (by rw [List.length_append, List.length_append, nums_len, nums_len, List.length_singleton]; omega) (fun f m => .inl (nums_mem m)) (fun f m => by
    rcases List.mem_append.mp m with m | m
    · rcases List.mem_append.mp m with m | m
      · exact .inl (nums_mem m)
      · exact .inr (List.mem_singleton.mp m)
    · exact .inl (nums_mem m))
  obtain ⟨ok0, nx0⟩ := chain_0 kok
  obtain ⟨ok1, nx1⟩ := chain_1 kok
  have dfam : ∀ H', H' = upd (upd (upd (upd (upd (upd (upd (upd K5' n5 (.tup [V.str m0, .ref p5])) n6 (.tup [V.str m1, .ref p4])) n7 (.tup [V.str "number", .str t])) n8 (.tup [V.str m2, .ref n7])) n9 (.tup [V.ref n5, .ref n6, .ref n8])) n10 (.tup [V.str t, .ref n9])) fa (.tup [V.ref n10])) fa (.tup [V.ref n10]) → True := fun _ _ => trivial
  have dv0 : Dv [a, l] (upd (upd (upd (upd (upd (upd (upd K5' n5 (.tup [V.str m0, .ref p5])) n6 (.tup [V.str m1, .ref p4])) n7 (.tup [V.str "number", .str t])) n8 (.tup [V.str m2, .ref n7])) n9 (.tup [V.ref n5, .ref n6, .ref n8])) n10 (.tup [V.str t, .ref n9])) fa (.tup [V.ref n10])) (.ref fa) (.tuple (chainK t m0 m1 m2 (nums en) ((nums ac ++ [t]) ++ nums (mo - ac)))) := by
    have x5 := (((((h10.trans h11).trans h12).trans h13).trans h14).trans h15).tup (upd_same (H := K5') (a := n5) (o := .tup [V.str m0, .ref p5])) (nn _)
    have x6 := ((((h11.trans h12).trans h13).trans h14).trans h15).tup (upd_same (a := n6) (o := .tup [V.str m1, .ref p4])) (nn _)
    have x7 := (((h12.trans h13).trans h14).trans h15).tup (upd_same (a := n7) (o := .tup [V.str "number", .str t])) (nn _)
    have x8 := ((h13.trans h14).trans h15).tup (upd_same (a := n8) (o := .tup [V.str m2, .ref n7])) (nn _)
    have x9 := (h14.trans h15).tup (upd_same (a := n9) (o := .tup [V.ref n5, .ref n6, .ref n8])) (nn _)
    have x10 := h15.tup (upd_same (a := n10) (o := .tup [V.str t, .ref n9])) (nn _)
    have y5 := ((((((h9.trans h10).trans h11).trans h12).trans h13).trans h14).trans h15).tup f5 (nn _)
    have y4 := ((((((((h7.trans h8).trans h9).trans h10).trans h11).trans h12).trans h13).trans h14).trans h15).tup f4 (nn _)
    refine .tup upd_same m11 (.cons (.tup x10 m10 (.cons (.str t) (.cons (.tup x9 m9 (.cons (.tup x5 m5 (.cons (.str m0) (.cons (.tup y5 q5 (strs_dv _)) .nil))) (.cons (.tup x6 m6 (.cons (.str m1) (.cons (.tup y4 q4 (strs_dv _)) .nil))) (.cons (.tup x8 m8 (.cons (.str m2) (.cons (.tup x7 m7 (strs_dv [("number" : Str), t])) .nil))) .nil)))) .nil))) .nil)
  have G16 := G11.trans (w16.of0 (M := [a, l]))
  have W16 := W11.go w16
  have emk16 := w16.lst emk11 (nn _)
  generalize hks : chainK t m0 m1 m2 (nums en) ((nums ac ++ [t]) ++ nums (mo - ac)) = ks at *
  have hk1 : ∃ ms rest, ks = [.tuple [.str t, .tuple ms]] ∧ ms = .tuple [.str m0, .tuple ((nums en).map .str)] :: rest := ⟨_, _, hks.symm, rfl⟩
  generalize upd (upd (upd (upd (upd (upd (upd K5' n5 (.tup [V.str m0, .ref p5])) n6 (.tup [V.str m1, .ref p4])) n7 (.tup [V.str "number", .str t])) n8 (.tup [V.str m2, .ref n7])) n9 (.tup [V.ref n5, .ref n6, .ref n8])) n10 (.tup [V.str t, .ref n9])) fa (.tup [V.ref n10]) = HF at *
  clear h1 h2 h3 h4 h5 h6 h7 h8 h9 h10 h11 h12 h13 h14 h15 w1 w2 w3 w4 w5 w6 w7 w8 w9 w10 w11 w12 w13 w14 w15 dfam
  -- the count
  refine ⟨_, rfl, _, _, rfl, rfl, _, rfl, _, _, rfl, rfl, _, rfl, _, _, rfl, rfl, _, _, rfl, rfl, ⟨by omega, by omega⟩, ?_⟩
  refine ⟨fun σ H' => H' = HF ∧ ∃ c0 : Nat, σ = [some (.ref a), some (.int sz), some (.int sp), some (.bl lk), some (.ref mk), some (.str t), some (.int (en : Int)), some (.int (mo : Int)), some (.int (ac : Int)), some (.ref p4), some (.ref fa), some (.int (c0 : Int)), none, none, none, none, none, none] ∧ (sp = 3 ∧ c0 * (1 + mo) + 1 + en ≤ 400), ?_, fun σ H' hmid => ?_⟩
  · refine ⟨_, rfl, _, rfl, ?_⟩
    obtain ⟨rfl, rfl, rfl⟩ := hlk
    · refine iteF ⟨rfl, (((400 : Int) - 1 - (en : Int)) / (1 + (mo : Int))).toNat, ?_, ⟨rfl, ?_⟩⟩
      · have : ((((400 : Int) - 1 - (en : Int)) / (1 + (mo : Int))).toNat : Int) = ((400 : Int) - 1 - (en : Int)) / (1 + (mo : Int)) := Int.toNat_of_nonneg (Int.ediv_nonneg (by omega) (by omega))
        rw [this]
        rfl
      · have h1 : (((((400 : Int) - 1 - (en : Int)) / (1 + (mo : Int))).toNat : Nat) : Int) = ((400 : Int) - 1 - (en : Int)) / (1 + (mo : Int)) := Int.toNat_of_nonneg (Int.ediv_nonneg (by omega) (by omega))
        have h2 := Int.ediv_mul_le ((400 : Int) - 1 - (en : Int)) (show (1 : Int) + (mo : Int) ≠ 0 by omega)
        rw [← h1] at h2
        have h3 : (((((400 : Int) - 1 - (en : Int)) / (1 + (mo : Int))).toNat * (1 + mo) : Nat) : Int) = (((((400 : Int) - 1 - (en : Int)) / (1 + (mo : Int))).toNat : Nat) : Int) * (1 + (mo : Int)) := by rw [Int.natCast_mul] <;> rfl
        omega
  obtain ⟨eHF, c0, rfl, hc0⟩ := hmid
  subst eHF
  have hsp : sp = 3 := hc0.1
  refine ⟨_, rfl, _, rfl, _, rfl, _, _, rfl, rfl, .inl ⟨by decide, by decide⟩, _, _, rfl, rfl, a, l, _, _, rfl, by omega, by omega, by omega, W16, G16.tb ht, fun i3 H17 i30 i31 W17 g17 t17 => ?_⟩
  refine ⟨_, _, rfl, rfl, _, rfl, _, _, rfl, rfl, 0, (c0 : Int) + i3 - sp, rfl, ?_⟩
  obtain ⟨cn, ecn, hcn⟩ : ∃ cn : Nat, (if (c0 : Int) + i3 - sp > 0 then (c0 : Int) + i3 - sp else 0) = (cn : Int) ∧ cn * (1 + mo) + 1 + en ≤ 410 := by
    obtain ⟨rfl, h⟩ := hc0
    refine ⟨((c0 : Int) + i3 - 3).toNat, by split <;> omega, ?_⟩
    have h1 : ((c0 : Int) + i3 - 3).toNat ≤ c0 + 3 := by omega
    have h2 := Nat.mul_le_mul h1 (show 1 + mo ≤ 1 + mo by omega)
    have h3 : (c0 + 3) * (1 + mo) = c0 * (1 + mo) + 3 * (1 + mo) := Nat.add_mul ..
    omega
  have hcn4 : cn ≤ 410 := by
    have := Nat.le_mul_of_pos_right cn (show 0 < 1 + mo by omega)
    omega
  rw [ecn]
  have G17 := G16.trans g17
  have dv17 := dv0.go g17
  have emk17 := g17.lst emk16 (nin nmk)
  -- the links
  refine ⟨by show 0 ≤ sizeLine; omega, fun aw haw => ⟨by show 0 ≤ sizeLine; omega, fun bh hbh => ⟨_, _, rfl, ?_⟩⟩⟩
  have u1 := Go.new (T := T) (M := []) (o := .lst []) haw
  have u2 := Go.new (T := T) (M := []) (o := .lst []) hbh
  have uu := u1.trans u2
  have naw := W17.ne haw
  have nbh := (W17.go u1).ne hbh
  have haw0 : H aw = none := G17.al _ haw
  have hbh0 : H bh = none := G17.al _ (u1.al _ hbh)
  have eaw := u2.lst (upd_same (H := H17) (a := aw) (o := .lst [])) (nn _)
  have ebh : upd (upd H17 aw (.lst [])) bh (.lst []) bh = some (.lst []) := upd_same
  have nab : aw ≠ bh := ne_of_none (upd_same (H := H17)) hbh
  have nam : mk ≠ aw := ne_of_none emk17 haw
  have nbm : mk ≠ bh := ne_of_none (u1.lst emk17 (nn _)) hbh
  have G18 := G17.trans (uu.of0 (M := [a, l]))
  have W18 := W17.go uu
  have dv18 : Dv (bh :: aw :: [a, l]) (upd (upd H17 aw (.lst [])) bh (.lst [])) (.ref fa) (.tuple ks) := (((dv17.hide haw).go (u1.of0)).hide hbh).go u2.of0
  have emk18 := uu.lst emk17 (nn _)
  generalize upd (upd H17 aw (.lst [])) bh (.lst []) = H18 at *
  have kb : k + 30 + 30 + 30 + 30 + 1 + 1 + 1 + 1 + 1 ≤ k + 200 := by omega
  refine ⟨_, rfl, _, rfl, by omega, by omega, ?_⟩
  have small2 : ∀ z : Int, z.natAbs ≤ 3 → z.natAbs ≤ bigInt := fun z h => Nat.le_trans h (by unfold bigInt; decide +kernel)
  refine for_it (walk_range (lo := 0) (n := ((cn : Nat) : Int).toNat)) (fun i σ H' => ∃ (p14 p15 : Option V) (W1 : List Key) (bs : List Addr), σ = [some (.ref a), some (.int sz), some (.int sp), some (.bl lk), some (.ref mk), some (.str t), some (.int (en : Int)), some (.int (mo : Int)), some (.int (ac : Int)), some (.ref p4), some (.ref fa), some (.int (cn : Int)), some (.ref aw), some (.ref bh), p14, p15, none, none] ∧ Go T [a, l] H H' ∧ WellAt a l H' (k + 200 + 2 * ((i : Nat) : Int)) ∧ Dv (bh :: aw :: [a, l]) H' (.ref fa) (.tuple ks) ∧ H' mk = some (.lst [.str m0, .str m1, .str m2]) ∧ H' aw = some (.lst (W1.map kV)) ∧ H' bh = some (.lst (bs.map V.ref)) ∧ run ks [t] W1 = some (t :: nums (i * (mo - ac))) ∧ W1.length = i * (1 + ac) ∧ smallW bigInt W1 ∧ bs.length = i ∧ ∀ b ∈ bs, b ∉ [a, l, aw, bh] ∧ ∃ zs : List Int, H' b = some (.lst (zs.map V.int)) ∧ zs.length = mo - ac ∧ ∀ z ∈ zs, z.natAbs ≤ 3)
    ⟨none, none, [], [], rfl, G18, W18.up (by omega), dv18, emk18, eaw, ebh, by rw [Nat.zero_mul]; exact run_nil _, by simp, (fun z m => by cases m), rfl, (fun b m => by cases m)⟩ (fun _ _ _ _ _ => trivial) (fun i x σ H19a H19 hi h y => ?_) (fun σ H19 h => ?_)
  · obtain ⟨p14, p15, W1, bs, rfl, G19, W19, dv19, emk19, eaw19, ebh19, rW, lW, sW, lbs, hbs⟩ := h
    obtain ⟨rfl, ey⟩ := y
    have ey2 : x = V.int (i : Int) := by rw [ey]; show V.int (0 + (i : Int)) = _; rw [Int.zero_add]
    clear ey
    subst ey2
    rw [Int.toNat_natCast] at hi
    refine ⟨_, rfl, _, rfl, by omega, by omega, fun sm hsm => ?_⟩
    have nsm := W19.ne hsm
    have nsa : aw ≠ sm := ne_of_none eaw19 hsm
    have nsb : bh ≠ sm := ne_of_none ebh19 hsm
    have u3 := Go.new (T := T) (M := []) (o := .lst []) hsm
    refine lc_it (walk_range (lo := 0) (n := ((mo : Nat) : Int).toNat)) (fun j H' => Go T [a, l, sm] H19 H' ∧ WellAt a l H' (k + 200 + 2 * ((i : Nat) : Int) + j) ∧ ∃ zs : List Int, H' sm = some (.lst (zs.map V.int)) ∧ zs.length = j ∧ ∀ z ∈ zs, z.natAbs ≤ 3) ⟨u3.of0, (W19.go u3).up (by omega), [], upd_same, rfl, (fun z m => by cases m)⟩ (fun _ _ _ _ => trivial) (fun j v H5 H6 hj h y => ?_) (fun H20 h => ?_)
    · obtain ⟨g5, w5, zs, ez, lz, hz⟩ := h
      obtain ⟨rfl, ey⟩ := y
      refine ⟨rfl, _, rfl, a, l, _, 5, rfl, by decide, by decide, by omega, w5, g5.tb (G19.tb ht), fun d H7 d0 d1 w7 g7 t7 => ?_⟩
      have ez7 := g7.lst ez (nin ⟨fun e => nsm.1 e, fun e => nsm.2 e⟩)
      refine ⟨_, _, rfl, rfl, _, ez7, by rw [List.length_map, sizeLine_eq]; omega, ?_, (w7.set nsm).up (by omega), zs ++ [d - 2], ?_, by rw [List.length_append, lz] <;> rfl, fun z m => ?_⟩
      · exact (g5.trans (g7.more (fun b hb => by simp only [List.mem_cons, List.not_mem_nil, or_false] at hb ⊢; rcases hb with rfl | rfl <;> simp))).trans (Go.set ez7 (fun _ z => by cases z) (by simp))
      · rw [upd_same, List.map_append]
        rfl
      · rcases List.mem_append.mp m with m | m
        · exact hz z m
        · rw [List.mem_singleton.mp m]
          omega
    obtain ⟨g20, W20, zs, ez, lz, hz⟩ := h
    rw [Int.toNat_natCast] at W20 lz
    have nM : ∀ {p : Addr} {xs : List V}, H19 p = some (.lst xs) → p ∉ [a, l] → p ∉ [a, l, sm] := fun {p xs} e n m => by
      simp only [List.mem_cons, List.not_mem_nil, or_false, not_or] at n m
      rcases m with m | m | m
      · exact n.1 m
      · exact n.2 m
      · rw [m, hsm] at e
        cases e
    have G20 : Go T [a, l] H H20 := ⟨fun b o e n t => g20.gr _ _ (G19.gr b o e n t) (fun m => by
      simp only [List.mem_cons, List.not_mem_nil, or_false, not_or] at n m
      rcases m with m | m | m
      · exact n.1 m
      · exact n.2 m
      · have := G19.al _ hsm
        rw [m, this] at e
        cases e) t, fun b e => G19.al _ (g20.al _ e), fun t => g20.tb (G19.tb t), fun t => g20.lm (G19.lm t)⟩
    have dv20 : Dv (bh :: aw :: [a, l]) H20 (.ref fa) (.tuple ks) := dv19.map fun b o e n t => ⟨g20.gr _ _ e (fun m => by
      simp only [List.mem_cons, List.not_mem_nil, or_false, not_or] at n m
      rcases m with m | m | m
      · exact n.2.2.1 m
      · exact n.2.2.2 m
      · rw [m, hsm] at e
        cases e) t, n⟩
    have emk20 := g20.lst emk19 (nM emk19 (nin nmk))
    have eaw20 := g20.lst eaw19 (nM eaw19 (nin naw))
    have ebh20 := g20.lst ebh19 (nM ebh19 (nin nbh))
    have hb20 : ∀ b ∈ bs, b ∉ [a, l, aw, bh] ∧ ∃ zs : List Int, H20 b = some (.lst (zs.map V.int)) ∧ zs.length = mo - ac ∧ ∀ z ∈ zs, z.natAbs ≤ 3 := fun b m => by
      obtain ⟨n, ys, h1, h2⟩ := hbs b m
      exact ⟨n, ys, g20.lst h1 (nM h1 (by simp only [List.mem_cons, List.not_mem_nil, or_false, not_or] at n ⊢; exact ⟨n.1, n.2.1⟩)), h2⟩
    -- the words ahead
    refine ⟨_, rfl, .inl ⟨rfl, _, SqL.of eaw20⟩, _, rfl, mk, _, 1, _, rfl, rfl, SqL.of emk20, atI_nat (j := 1) rfl, by show 1 ≤ sizeLine; decide, fun c1 hc1 => ?_⟩
    have u4 := Go.new (T := T) (M := []) (o := .lst [V.str m1]) hc1
    refine ⟨_, rfl, _, rfl, _, rfl, sm, _, rfl, SqL.of (u4.lst ez (nn _)), fun c2 hc2 => ?_⟩
    have u5 := Go.new (T := T) (M := []) (o := .lst (cutV (zs.map V.int) none (some (ac : Int)))) hc2
    refine ⟨c1, c2, _, _, rfl, rfl, u5.lst upd_same (nn _), upd_same, by have := cutV_len (zs.map V.int) none (some (ac : Int)); rw [List.length_map] at this; rw [sizeLine_eq]; simp only [List.length_cons, List.length_nil]; omega, fun c3 hc3 => ?_⟩
    have u6 := Go.new (T := T) (M := []) (o := .lst ([V.str m1] ++ cutV (zs.map V.int) none (some (ac : Int)))) hc3
    have u46 := (u4.trans u5).trans u6
    have ecut : [V.str m1] ++ cutV (zs.map V.int) none (some (ac : Int)) = (linkW m1 (zs.take ac)).map kV := by
      unfold linkW
      rw [cutV_lo (by rw [List.length_map]; omega), List.map_cons, List.map_map, ← List.map_take]
      rfl
    have eaw21 := u46.lst eaw20 (nn _)
    have ec3 : upd (upd (upd H20 c1 (.lst [V.str m1])) c2 (.lst (cutV (zs.map V.int) none (some (ac : Int))))) c3 (.lst ([V.str m1] ++ cutV (zs.map V.int) none (some (ac : Int)))) c3 = some (.lst ((linkW m1 (zs.take ac)).map kV)) := by rw [upd_same, ecut]
    have G21 := G20.trans (u46.of0 (M := [a, l]))
    have W21 := W20.go u46
    have dv21 := dv20.go (u46.of0 (M := bh :: aw :: [a, l]))
    have emk21 := u46.lst emk20 (nn _)
    have ebh21 := u46.lst ebh20 (nn _)
    have ez21 := u46.lst ez (nn _)
    have hb21 : ∀ b ∈ bs, b ∉ [a, l, aw, bh] ∧ ∃ zs : List Int, _ = some (HO.lst (zs.map V.int)) ∧ zs.length = mo - ac ∧ ∀ z ∈ zs, z.natAbs ≤ 3 := fun b m => by
      obtain ⟨n, ys, h1, h2⟩ := hb20 b m
      exact ⟨n, ys, u46.lst h1 (nn _), h2⟩
    clear u4 u5 u6 u46
    generalize upd (upd (upd H20 c1 (.lst [V.str m1])) c2 (.lst (cutV (zs.map V.int) none (some (ac : Int))))) c3 (.lst ([V.str m1] ++ cutV (zs.map V.int) none (some (ac : Int)))) = H21 at *
    have lWb : W1.length ≤ 1230 := by
      rw [lW]
      have := Nat.mul_le_mul (show i ≤ 410 by omega) (show 1 + ac ≤ 3 by omega)
      omega
    refine ⟨aw, c3, _, _, rfl, rfl, eaw21, ec3, by rw [List.length_map, List.length_map]; show W1.length + (linkW m1 (zs.take ac)).length ≤ _; unfold linkW; rw [List.length_cons, List.length_map, List.length_take, sizeLine_eq]; omega, ?_⟩
    have eW : W1.map kV ++ (linkW m1 (zs.take ac)).map kV = (W1 ++ linkW m1 (zs.take ac)).map kV := (List.map_append ..).symm
    rw [eW]
    have G22 := G21.over haw0 eaw21 (o := .lst ((W1 ++ linkW m1 (zs.take ac)).map kV)) (fun _ z => by cases z)
    have sA : ∀ {p : Addr} {o : HO}, H21 p = some o → p ≠ aw → upd H21 aw (.lst ((W1 ++ linkW m1 (zs.take ac)).map kV)) p = some o := fun e n => by rw [upd_ne n]; exact e
    have ebh22 := sA ebh21 nab.symm
    have ez22 := sA ez21 nsa.symm
    have emk22 := sA emk21 nam
    have W22 := W21.set (o := .lst ((W1 ++ linkW m1 (zs.take ac)).map kV)) naw
    have dv22 := dv21.go (Go.set (T := T) (M := bh :: aw :: [a, l]) (o := .lst ((W1 ++ linkW m1 (zs.take ac)).map kV)) eaw21 (fun _ z => by cases z) (by simp))
    have eaw22 : upd H21 aw (.lst ((W1 ++ linkW m1 (zs.take ac)).map kV)) aw = some (.lst ((W1 ++ linkW m1 (zs.take ac)).map kV)) := upd_same
    have hb22 : ∀ b ∈ bs, b ∉ [a, l, aw, bh] ∧ ∃ zs : List Int, _ = some (HO.lst (zs.map V.int)) ∧ zs.length = mo - ac ∧ ∀ z ∈ zs, z.natAbs ≤ 3 := fun b m => by
      obtain ⟨n, ys, h1, h2⟩ := hb21 b m
      exact ⟨n, ys, sA h1 (by simp only [List.mem_cons, List.not_mem_nil, or_false, not_or] at n; exact n.2.2.1), h2⟩
    generalize upd H21 aw (.lst ((W1 ++ linkW m1 (zs.take ac)).map kV)) = H22 at *
    refine ⟨_, rfl, .inl ⟨rfl, _, SqL.of ebh22⟩, _, rfl, _, rfl, _, rfl, ?_⟩
    try unfold tNoPart
    refine ⟨sm, _, rfl, SqL.of ez22, fun c4 hc4 => ?_⟩
    have u7 := Go.new (T := T) (M := []) (o := .lst (cutV (zs.map V.int) (some (ac : Int)) none)) hc4
    have ebh23 := u7.lst ebh22 (nn _)
    have nc4 := W22.ne hc4
    have nca : c4 ≠ aw := fun e => by rw [e, eaw22] at hc4; cases hc4
    have ncb : c4 ≠ bh := fun e => by rw [e, ebh22] at hc4; cases hc4
    have emk23 := u7.lst emk22 (nn _)
    have eaw23 := u7.lst eaw22 (nn _)
    have ecd : cutV (zs.map V.int) (some (ac : Int)) none = (zs.drop ac).map V.int := by rw [cutV_hi (by rw [List.length_map]; omega), List.map_drop]
    have ec4 : upd H22 c4 (.lst (cutV (zs.map V.int) (some (ac : Int)) none)) c4 = some (.lst ((zs.drop ac).map V.int)) := by rw [upd_same, ecd]
    have W23 := W22.go u7
    have G23 := G22.trans (u7.of0 (M := [a, l]))
    have dv23 := dv22.go (u7.of0 (M := bh :: aw :: [a, l]))
    have hb23 : ∀ b ∈ bs, b ∉ [a, l, aw, bh] ∧ ∃ zs : List Int, _ = some (HO.lst (zs.map V.int)) ∧ zs.length = mo - ac ∧ ∀ z ∈ zs, z.natAbs ≤ 3 := fun b m => by
      obtain ⟨n, ys, h1, h2⟩ := hb22 b m
      exact ⟨n, ys, u7.lst h1 (nn _), h2⟩
    generalize upd H22 c4 (.lst (cutV (zs.map V.int) (some (ac : Int)) none)) = H23 at *
    have sB : ∀ {p : Addr} {o o' : HO}, H23 p = some o → p ≠ bh → upd H23 bh o' p = some o := fun e n => by rw [upd_ne n]; exact e
    refine ⟨bh, _, _, rfl, rfl, ebh23, by rw [List.length_map, sizeLine_eq]; omega, _, _, W1 ++ linkW m1 (zs.take ac), bs ++ [c4], rfl, G23.over hbh0 ebh23 (fun _ z => by cases z), (W23.set nbh).up (by omega), dv23.go (Go.set (T := T) (M := bh :: aw :: [a, l]) ebh23 (fun _ z => by cases z) (by simp)), sB emk23 nbm, sB eaw23 nab, ?_, ?_, ?_, ?_, by rw [List.length_append, lbs] <;> rfl, fun b m => ?_⟩
    · rw [upd_same, List.map_append]
      rfl
    · refine run_app rW (run_of ok1 ?_)
      rw [nx1]
      have lz' : (zs.take ac).length = ac := by rw [List.length_take]; omega
      have e1 : ((nums ac ++ [t]) ++ nums (mo - ac)) ++ nums (i * (mo - ac)) = nums (zs.take ac).length ++ (t :: nums ((i + 1) * (mo - ac))) := by
        rw [lz', Nat.succ_mul, Nat.add_comm (i * (mo - ac)), nums_add]
        simp only [List.append_assoc, List.cons_append, List.nil_append]
      rw [e1]
      exact run_ints _ _
    · rw [List.length_append, lW]
      unfold linkW
      rw [List.length_cons, List.length_map, List.length_take, Nat.succ_mul]
      omega
    · intro z m
      rcases List.mem_append.mp m with m | m
      · exact sW z m
      · rcases List.mem_cons.mp (show Sum.inl z ∈ (.inr m1 : Key) :: (zs.take ac).map Sum.inl from m) with m | m
        · cases m
        · obtain ⟨y, hy, e⟩ := List.mem_map.mp m
          cases e
          exact small2 _ (hz _ (List.mem_of_mem_take hy))
    · rcases List.mem_append.mp m with m | m
      · obtain ⟨n, ys, h1, h2⟩ := hb23 b m
        exact ⟨n, ys, sB h1 (by simp only [List.mem_cons, List.not_mem_nil, or_false, not_or] at n; exact n.2.2.2), h2⟩
      · rw [List.mem_singleton.mp m]
        refine ⟨by simp only [List.mem_cons, List.not_mem_nil, or_false, not_or]; exact ⟨nc4.1, nc4.2, nca, ncb⟩, _, sB ec4 ncb, by rw [List.length_drop]; omega, fun z m => hz z (List.mem_of_mem_drop m)⟩
  obtain ⟨p14, p15, W1, bs, rfl, G19, W19, dv19, emk19, eaw19, ebh19, rW, lW, sW, lbs, hbs⟩ := h
  rw [Int.toNat_natCast] at W19 rW lW lbs
  have hd1 : cn * (1 + ac) + cn * (mo - ac) = cn * (1 + mo) := by rw [← Nat.mul_add]; congr 1; omega
  -- the phrase
  refine ⟨_, rfl, _, rfl, mk, _, 0, _, rfl, rfl, SqL.of emk19, atI_nat (j := 0) rfl, by show 1 ≤ sizeLine; decide, fun c5 hc5 => ?_⟩
  have u4 := Go.new (T := T) (M := []) (o := .lst [V.str m0]) hc5
  refine ⟨aw, c5, _, _, rfl, rfl, u4.lst eaw19 (nn _), upd_same, by rw [List.length_map, sizeLine_eq]; simp only [List.length_cons, List.length_nil]; omega, fun c6 hc6 => ?_⟩
  have u5 := Go.new (T := T) (M := []) (o := .lst (W1.map kV ++ [V.str m0])) hc6
  have u45 := u4.trans u5
  have ec6 : upd (upd H19 c5 (.lst [V.str m0])) c6 (.lst (W1.map kV ++ [V.str m0])) c6 = some (.lst ((W1 ++ oneW m0).map kV)) := by rw [upd_same, List.map_append]; rfl
  have W20 := W19.go u45
  have G20 := G19.trans (u45.of0 (M := [a, l]))
  have dv20 := dv19.go (u45.of0 (M := bh :: aw :: [a, l]))
  have ebh20 := u45.lst ebh19 (nn _)
  have nc6 : c6 ∉ [a, l] := up (W19.go u4) hc6
  have nc6b : c6 ≠ bh := fun e => by rw [e, u4.lst ebh19 (nn _)] at hc6; cases hc6
  have hb20 : ∀ b ∈ bs, b ∉ [a, l] ∧ ∃ zs : List Int, _ = some (HO.lst (zs.map V.int)) ∧ zs.length = mo - ac ∧ ∀ z ∈ zs, z.natAbs ≤ 3 := fun b m => by
    obtain ⟨n, ys, h1, h2⟩ := hbs b m
    exact ⟨by simp only [List.mem_cons, List.not_mem_nil, or_false, not_or] at n ⊢; exact ⟨n.1, n.2.1⟩, ys, u45.lst h1 (nn _), h2⟩
  clear u4 u5 u45
  generalize upd (upd H19 c5 (.lst [V.str m0])) c6 (.lst (W1.map kV ++ [V.str m0])) = H20 at *
  refine ⟨_, rfl, _, rfl, by omega, by omega, fun sm hsm => ?_⟩
  have nsm := W20.ne hsm
  have u3 := Go.new (T := T) (M := []) (o := .lst []) hsm
  refine lc_it (walk_range (lo := 0) (n := ((en : Nat) : Int).toNat)) (fun j H' => Go T [a, l, sm] H20 H' ∧ WellAt a l H' (k + 2000 + j) ∧ ∃ zs : List Int, H' sm = some (.lst (zs.map V.int)) ∧ zs.length = j ∧ ∀ z ∈ zs, z.natAbs ≤ 3) ⟨u3.of0, (W20.go u3).up (by omega), [], upd_same, rfl, (fun z m => by cases m)⟩ (fun _ _ _ _ => trivial) (fun j v H5 H6 hj h y => ?_) (fun H21 h => ?_)
  · obtain ⟨g5, w5, zs, ez, lz, hz⟩ := h
    obtain ⟨rfl, ey⟩ := y
    rw [Int.toNat_natCast] at hj
    refine ⟨rfl, _, rfl, a, l, _, 5, rfl, by decide, by decide, by omega, w5, g5.tb (G20.tb ht), fun d H7 d0 d1 w7 g7 t7 => ?_⟩
    have ez7 := g7.lst ez (nin ⟨fun e => nsm.1 e, fun e => nsm.2 e⟩)
    refine ⟨_, _, rfl, rfl, _, ez7, by rw [List.length_map, sizeLine_eq]; omega, ?_, (w7.set nsm).up (by omega), zs ++ [d - 2], ?_, by rw [List.length_append, lz] <;> rfl, fun z m => ?_⟩
    · exact (g5.trans (g7.more (fun b hb => by simp only [List.mem_cons, List.not_mem_nil, or_false] at hb ⊢; rcases hb with rfl | rfl <;> simp))).trans (Go.set ez7 (fun _ z => by cases z) (by simp))
    · rw [upd_same, List.map_append]
      rfl
    · rcases List.mem_append.mp m with m | m
      · exact hz z m
      · rw [List.mem_singleton.mp m]
        omega
  obtain ⟨g20, W21, zs, ez, lz, hz⟩ := h
  rw [Int.toNat_natCast] at W21 lz
  have nM : ∀ {p : Addr} {o : HO}, H20 p = some o → p ∉ [a, l] → p ∉ [a, l, sm] := fun {p xs} e n m => by
    simp only [List.mem_cons, List.not_mem_nil, or_false, not_or] at n m
    rcases m with m | m | m
    · exact n.1 m
    · exact n.2 m
    · rw [m, hsm] at e
      cases e
  have G21 : Go T [a, l] H H21 := ⟨fun b o e n t => g20.gr _ _ (G20.gr b o e n t) (nM (G20.gr b o e n t) n) t, fun b e => G20.al _ (g20.al _ e), fun t => g20.tb (G20.tb t), fun t => g20.lm (G20.lm t)⟩
  have dv21 : Dv (bh :: aw :: [a, l]) H21 (.ref fa) (.tuple ks) := dv20.map fun b o e n t => ⟨g20.gr _ _ e (nM e (fun m => n (List.mem_cons_of_mem _ (List.mem_cons_of_mem _ m)))) t, n⟩
  have ec6' := g20.lst ec6 (nM ec6 nc6)
  have ebh21 := g20.lst ebh20 (nM ebh20 (nin nbh))
  refine ⟨c6, sm, _, _, rfl, rfl, ec6', ez, by rw [List.length_map, List.length_map, List.length_append, List.length_singleton, sizeLine_eq]; omega, fun ph hph => ?_⟩
  have u8 := Go.new (T := T) (M := []) (o := .lst ((W1 ++ oneW m0).map kV ++ zs.map V.int)) hph
  have eph : upd H21 ph (.lst ((W1 ++ oneW m0).map kV ++ zs.map V.int)) ph = some (.lst (((W1 ++ oneW m0) ++ intsW zs).map kV)) := by
    rw [upd_same, List.map_append (l₁ := W1 ++ oneW m0), List.map_map]
    rfl
  have nph := W21.ne hph
  have hph0 : H ph = none := G21.al _ hph
  have npb : bh ≠ ph := fun e => by rw [e, hph] at ebh21; cases ebh21
  have W22 := W21.go u8
  have G22 := G21.trans (u8.of0 (M := [a, l]))
  have dv22 := (dv21.hide hph).go (u8.of0 (M := ph :: bh :: aw :: [a, l]))
  have ebh22 := u8.lst ebh21 (nn _)
  have hb22 : ∀ b ∈ bs, b ≠ ph ∧ ∃ zs : List Int, _ = some (HO.lst (zs.map V.int)) ∧ zs.length = mo - ac ∧ ∀ z ∈ zs, z.natAbs ≤ 3 := fun b m => by
    obtain ⟨n, ys, h1, h2⟩ := hb20 b m
    have h3 := g20.lst h1 (nM h1 n)
    exact ⟨(fun e => by rw [e, hph] at h3; cases h3), ys, u8.lst h3 (nn _), h2⟩
  have rW2 : run ks [t] ((W1 ++ oneW m0) ++ intsW zs) = some (nums (cn * (mo - ac))) := by
    rw [List.append_assoc]
    refine run_app rW (run_of ok0 ?_)
    rw [nx0, ← lz]
    exact run_ints _ _
  have lW2 : ((W1 ++ oneW m0) ++ intsW zs).length = cn * (1 + ac) + 1 + en := by
    rw [List.length_append, List.length_append, List.length_map, List.length_singleton, lW, lz]
  have sW2 : smallW bigInt ((W1 ++ oneW m0) ++ intsW zs) := fun z m => by
    rcases List.mem_append.mp m with m | m
    · rcases List.mem_append.mp m with m | m
      · exact sW z m
      · rw [List.mem_singleton] at m
        cases m
    · obtain ⟨y, hy, e⟩ := List.mem_map.mp m
      cases e
      exact small2 _ (hz _ hy)
  generalize ((W1 ++ oneW m0) ++ intsW zs) = W2 at *
  generalize upd H21 ph (.lst ((W1 ++ oneW m0).map kV ++ zs.map V.int)) = H22 at *
  refine ⟨_, rfl, _, rfl, by omega, by omega, ?_⟩
  refine for_it (walk_range (lo := 0) (n := ((cn : Nat) : Int).toNat)) (fun i σ H' => ∃ (p14 p15 : Option V) (W3 : List Key), σ = [some (.ref a), some (.int sz), some (.int sp), some (.bl lk), some (.ref mk), some (.str t), some (.int (en : Int)), some (.int (mo : Int)), some (.int (ac : Int)), some (.ref p4), some (.ref fa), some (.int (cn : Int)), some (.ref aw), some (.ref bh), p14, p15, some (.ref ph), none] ∧ Go T [a, l] H H' ∧ WellAt a l H' (k + 3000) ∧ Dv (ph :: bh :: aw :: [a, l]) H' (.ref fa) (.tuple ks) ∧ H' bh = some (.lst (bs.map V.ref)) ∧ H' ph = some (.lst (W3.map kV)) ∧ run ks [t] W3 = some (nums ((cn - i) * (mo - ac))) ∧ W3.length = cn * (1 + ac) + 1 + en + i * (mo - ac) ∧ smallW bigInt W3 ∧ ∀ b ∈ bs, b ≠ ph ∧ ∃ zs : List Int, H' b = some (.lst (zs.map V.int)) ∧ zs.length = mo - ac ∧ ∀ z ∈ zs, z.natAbs ≤ 3)
    ⟨p14, p15, W2, rfl, G22, W22.up (by omega), dv22, ebh22, eph, by rw [Nat.sub_zero]; exact rW2, by rw [lW2]; omega, sW2, hb22⟩ (fun _ _ _ _ _ => trivial) (fun i x σ H23a H23 hi h y => ?_) (fun σ H23 h => ?_)
  · obtain ⟨p14, p15, W3, rfl, G23, W23, dv23, ebh23, eph23, rW3, lW3, sW3, hb23⟩ := h
    obtain ⟨rfl, ey⟩ := y
    have ey2 : x = V.int (i : Int) := by rw [ey]; show V.int (0 + (i : Int)) = _; rw [Int.zero_add]
    clear ey
    subst ey2
    rw [Int.toNat_natCast] at hi
    have eb := List.getElem?_eq_getElem (show cn - 1 - i < bs.length by omega)
    generalize bs[cn - 1 - i] = b at eb
    obtain ⟨nbp, ys, hb1, hb2, hb3⟩ := hb23 b (List.mem_of_getElem? eb)
    have hdi : i * (mo - ac) ≤ cn * (mo - ac) := Nat.mul_le_mul_right _ (by omega)
    refine ⟨_, rfl, .inl ⟨rfl, _, SqL.of eph23⟩, _, rfl, _, rfl, _, _, rfl, rfl, _, rfl, _, _, rfl, rfl, bh, _, _, .ref b, rfl, rfl, SqL.of ebh23, ?_, ph, b, _, _, rfl, rfl, eph23, hb1, by rw [List.length_map, List.length_map, lW3, hb2, sizeLine_eq]; omega, ?_⟩
    · rw [show (cn : Int) - 1 - (i : Int) = ((cn - 1 - i : Nat) : Int) from by omega]
      exact atI_nat (by rw [List.getElem?_map, eb] <;> rfl)
    have eW3 : W3.map kV ++ ys.map V.int = (W3 ++ intsW ys).map kV := by
      rw [List.map_append, List.map_map]
      rfl
    rw [eW3]
    refine ⟨_, _, W3 ++ ys.map .inl, rfl, G23.over hph0 eph23 (fun _ z => by cases z), W23.set nph, dv23.go (Go.set (T := T) (M := ph :: bh :: aw :: [a, l]) eph23 (fun _ z => by cases z) (by simp)), by rw [upd_ne npb]; exact ebh23, upd_same, ?_, ?_, ?_, fun b' m => ?_⟩
    · refine run_app rW3 ?_
      have e1 : (cn - i) * (mo - ac) = ys.length + (cn - (i + 1)) * (mo - ac) := by
        rw [hb2, show cn - i = (cn - (i + 1)) + 1 from by omega, Nat.succ_mul, Nat.add_comm]
      rw [e1, nums_add]
      exact run_ints _ _
    · rw [List.length_append, List.length_map, lW3, hb2, Nat.succ_mul]
      omega
    · intro z m
      rcases List.mem_append.mp m with m | m
      · exact sW3 z m
      · obtain ⟨y, hy, e⟩ := List.mem_map.mp m
        cases e
        exact small2 _ (hb3 _ hy)
    · obtain ⟨n, ys', h1, h2⟩ := hb23 b' m
      exact ⟨n, ys', by rw [upd_ne n]; exact h1, h2⟩
  · obtain ⟨p14, p15, W3, rfl, G23, W23, dv23, ebh23, eph23, rW3, lW3, sW3, hb23⟩ := h
    rw [Int.toNat_natCast] at rW3 lW3
    rw [Nat.sub_self, Nat.zero_mul] at rW3
    refine ⟨_, rfl, _, rfl, .inl ⟨ph, _, rfl, SqL.of eph23, fun r1 hr1 => ?_⟩⟩
    have x1 := Go.new (T := T) (M := []) (o := .tup (W3.map kV)) hr1
    have nr1 := up W23 hr1
    refine ⟨by show 2 ≤ sizeLine; decide, fun r2 hr2 => ?_⟩
    have x2 := Go.new (T := T) (M := []) (o := .tup [V.ref fa, .ref r1]) hr2
    have x12 := x1.trans x2
    obtain ⟨ms, rest, hms, hms2⟩ := hk1
    have dvF : Dv [a, l] H23 (.ref fa) (.tuple ks) := dv23.less fun b m => List.mem_cons_of_mem _ (List.mem_cons_of_mem _ (List.mem_cons_of_mem _ m))
    exact q r2 (.ref fa) (.ref r1) ks t ms W3 m0 en rest _ upd_same (up (W23.go x1) hr2) (dvF.go x12.of0) hms dok kok (.tup (x2.tup upd_same (nn _)) nr1 (words_dv _)) rW3 (by rw [lW3]; omega) sW3 hms2 (by omega) ok0 nx0 ((W23.go x12).up (by omega)) (G23.trans x12.of0) ((G23.trans (x12.of0 (M := [a, l]))).tb ht)
end
end K2
set_option Elab.async false
set_option linter.all false
set_option maxRecDepth 100000
set_option maxHeartbeats 8000000
namespace K2
open PySem PySem.Spec PyProof.Rows L2 GxR NdefX GA SL
variable [SL.LamT]
section
variable {P : Program} {w : World} {K : PySem.W.Frag} {mg : Str → Option Value} {base : Heap} {f c CK CN CT CR : Addr} {fd : FuncData} {T : List Addr}
theorem ok_law_name (F : Fun K "_law_name" "_law_name" s_law_name f fd) (B : Bl mg) (Fd : Fnn P w K mg base CX0 1 "_law_draw" ["well", "many"] (sp_draw T)) : FnOk P w K mg base CX0 2 f fd ["well", "taken", "high"] (sp_name T) := by
  have nd := sc_law_name.nd
  refine F.ok sc_law_name (fun vs H Q E h => ?_) (fun cdv A outer s H vs Q E hr h => ?_)
  · obtain ⟨_, _, _, _, _, rfl, _⟩ := h
    rfl
  obtain ⟨a, l, t, k, xs, rfl, hk, W, ta, tl, et, hx, lx, ht, q⟩ := h
  have hu : (A.deeper (envOfC "_law_name" (defScope s_law_name) s.heap.objs.size f cdv)).units < cLine := by
    have := hr.un
    omega
  refine ⟨_, (pss_cons (ps_set (i := 3) nd rfl (Or.inl rfl) pe_str)
    (pss_cons (ps_set (i := 4) nd rfl (Or.inr rfl) (pe_op op_add_str (pe_op op_add_str (pv 3) (pe_upper (pv 3))) pe_str))
    (pss_cons (ps_set (i := 5) nd rfl (Or.inr rfl) (pe_ix ix_str (pv 3) (pe_fn Fd hr (by decide) pass0 (pa_cons (pv 0) (pa_cons pe_int pa_nil))) (fun _ _ => rfl)))
    (pss_cons (ps_set (i := 6) nd rfl (Or.inl rfl) (pe_join pe_str (pe_lc (own := [("k", 10)]) (g := gName 10) (tt := tYes)  rfl nd (pi_range1 rfl B.range (pa_cons (pe_fn Fd hr (by decide) pass0 (pa_cons (pv 0) (pa_cons (pe_ix ix_list (pe_lst (pa_cons pe_int (pa_cons pe_int (pa_cons pe_int pa_nil)))) (pe_fn Fd hr (by decide) pass0 (pa_cons (pv 0) (pa_cons pe_int pa_nil))) (fun _ _ => rfl)) pa_nil))) pa_nil)) (blkOk_by (own := [("k", 10)]) (N := ["well", "taken", "high", "low", "signs", "head", "body", "old", "at", "found", "k"]) (sc := defScope s_law_name) (by decide +kernel))
        (fun _ _ _ _ _ => (pg_name (i := 10) nd rfl (Or.inl rfl))) (fun _ _ _ _ _ => pts_nil) (fun _ _ _ _ _ => (pe_ix ix_str (pv 4) (pe_fn Fd hr (by decide) pass0 (pa_cons (pv 0) (pa_cons pe_int pa_nil))) (fun _ _ => rfl))))))
    (pss_cons (ps_if (PW.pt (pw_and (pt_cmpR (op_neNil hu) (pv 1) (pe_lst pa_nil) (nomark _)) (pw_and1 (pt_cmpR op_eq (pe_fn Fd hr (by decide) pass0 (pa_cons (pv 0) (pa_cons pe_int pa_nil))) pe_int (nomark _))))) (pss_cons (ps_set (i := 7) nd rfl (Or.inl rfl) (pe_ix ix_list (pv 1) (pe_fn Fd hr (by decide) pass0 (pa_cons (pv 0) (pa_cons (pe_lenq B (pv 1)) pa_nil))) (fun _ _ => rfl)))
    (pss_cons (ps_set (i := 8) nd rfl (Or.inl rfl) (pe_op op_add pe_int (pe_fn Fd hr (by decide) pass0 (pa_cons (pv 0) (pa_cons (pe_lens B (pv 7)) pa_nil)))))
    (pss_cons (ps_set (i := 5) nd rfl (Or.inr rfl) (pe_lower (pe_ix ix_str (pv 7) pe_int (fun _ _ => rfl))))
    (pss_one (ps_set (i := 6) nd rfl (Or.inl rfl) (pe_slice sl_str (pe_op op_add_str (pe_op op_add_str (pe_slice sl_str (pv 7) po_none (po_some (pv 8))) (pe_ix ix_list (pe_lst (pa_cons pe_str (pa_cons (pe_ix ix_str (pv 4) (pe_fn Fd hr (by decide) pass0 (pa_cons (pv 0) (pa_cons pe_int pa_nil))) (fun _ _ => rfl)) pa_nil))) (pe_fn Fd hr (by decide) pass0 (pa_cons (pv 0) (pa_cons pe_int pa_nil))) (fun _ _ => rfl))) (pe_slice sl_str (pv 7) (po_some (pe_op op_add (pv 8) (pe_fn Fd hr (by decide) pass0 (pa_cons (pv 0) (pa_cons pe_int pa_nil))))) po_none)) (po_some pe_int) (po_some pe_int))))))) pss_nil)
    (pss_cons (ps_if (pt_val (pv 2)) (pss_one (ps_set (i := 5) nd rfl (Or.inr rfl) (pe_upper (pv 5)))) pss_nil)
    (pss_cons (ps_set (i := 9) nd rfl (Or.inl rfl) (pe_op op_add_str (pv 5) (pv 6)))
    (pss_cons (ps_if (PW.pt (pw_or (pt_cmpR op_in_seq (pv 9) (pv 1) rfl) (pw_or1 (pt_cmpR op_in_seq (pv 9) (pe_tup (pa_cons pe_str (pa_cons pe_str (pa_cons pe_str pa_nil)))) rfl)))) (pss_one (ps_set (i := 9) nd rfl (Or.inl rfl) (pe_ix ix_list (pe_lc (own := [("k", 10)]) (g := gName 10) (tt := (tTest (tOp (rIn K true) (tOp rCatS (tVar 5) (tCB rStrI (tCons (tVar 10) tNil))) (tVar 1)))) (te := tOp rCatS (tVar 5) (tCB rStrI (tCons (tVar 10) tNil))) rfl nd (pi_range1 rfl B.range (pa_cons pe_int pa_nil)) (blkOk_by (own := [("k", 10)]) (N := ["well", "taken", "high", "low", "signs", "head", "body", "old", "at", "found", "k"]) (sc := defScope s_law_name) (by decide +kernel))
        (fun _ _ _ _ _ => (pg_name (i := 10) nd rfl (Or.inl rfl))) (fun _ _ _ _ _ => pts_one (pt_cmpR op_notIn_seq (pe_op op_add_str (pv 5) (pe_strI B (pv 10))) (pv 1) rfl)) (fun _ _ _ _ _ => (pe_op op_add_str (pv 5) (pe_strI B (pv 10))))) pe_int (fun _ _ => rfl)))) pss_nil)
    (pss_one (ps_ret (pv 9))))))))))), ?_⟩
  have nn : ∀ b : Addr, b ∉ ([] : List Addr) := fun b => List.not_mem_nil
  have eS : (low26 ++ up26) ++ "0123456789" = an62 := rfl
  have a26 : ∀ c ∈ low26.cps.toList, loC c = true := List.all_eq_true.mp (by decide +kernel)
  have a62 : an an62 = true := by decide +kernel
  refine ⟨_, rfl, _, rfl, ⟨_, rfl⟩, low26, rfl, rfl, by decide +kernel, ?_⟩
  rw [upper26]
  refine ⟨low26, up26, rfl, rfl, by decide +kernel, low26 ++ up26, "0123456789", rfl, rfl, by decide +kernel, ?_⟩
  refine ⟨_, rfl, _, rfl, a, l, k, 26, rfl, by decide, by decide, by omega, W, ht, fun i1 H1 i10 i11 W1 g1 t1 => ?_⟩
  obtain ⟨h0, eh0, mh0⟩ := at_ok (xs := low26.cps.toList) i10 (by exact i11)
  refine ⟨low26, i1, h0, rfl, rfl, by decide +kernel, eh0, ?_⟩
  refine ⟨⟨_, rfl⟩, _, rfl, by show 3 ≤ sizeLine; decide, fun p1 hp1 => ?_⟩
  have gp1 := Go.new (T := T) (M := [a, l]) (o := .lst [.int 2, .int 4, .int 10]) hp1
  have gp1' := Go.new (T := T) (M := []) (o := .lst [.int 2, .int 4, .int 10]) hp1
  refine ⟨_, rfl, a, l, k + 1, 3, rfl, by decide, by decide, by omega, W1.go gp1', gp1.tb t1, fun i2 H2 i20 i21 W2 g2 t2 => ?_⟩
  obtain ⟨m, em, m0, m1⟩ := at3 i20 i21
  refine ⟨p1, _, i2, _, rfl, rfl, SqL.of (g2.lst upd_same (nin (W1.ne hp1))), em, a, l, k + 1 + 1, m, rfl, by omega, by omega, by omega, W2, t2, fun i3 H3 i30 i31 W3 g3 t3 => ?_⟩
  have G3 : Go T [a, l] H H3 := ((g1.trans gp1).trans g2).trans g3
  refine ⟨i3, rfl, by omega, by omega, fun D hD => ?_⟩
  have nD : D ∉ [a, l] := nin (W3.ne hD)
  have gD := Go.new (T := T) (M := []) (o := .lst []) hD
  refine lc_it (walk_range (lo := 0) (n := i3.toNat)) (fun i H' => Go T [a, l] H3 H' ∧ WellAt a l H' (k + 3 + i) ∧ ∃ ys : List Str, H' D = some (.lst (ys.map V.str)) ∧ ys.length = i ∧ ∀ y ∈ ys, y.length ≤ 1 ∧ an y = true) ⟨Go.new hD, (W3.go gD).up (by omega), [], upd_same, rfl, by simp⟩ (fun _ _ _ _ => trivial) (fun i x H4 H5 hi h y => ?_) (fun H4 h => ?_)
  · obtain ⟨gg, W4, ys, ey, ly, hy⟩ := h
    obtain ⟨rfl, rfl⟩ := y
    refine ⟨rfl, _, rfl, _, rfl, a, l, k + 3 + i, 62, rfl, by decide, by decide, by omega, W4, gg.tb t3, fun i5 H5 j0 j1 W5 g5 t5 => ?_⟩
    obtain ⟨c5, ec5, mc5⟩ := at_ok (xs := an62.cps.toList) j0 (by exact j1)
    have e5 := g5.lst ey nD
    refine ⟨an62, i5, c5, rfl, rfl, by decide +kernel, ec5, ys.map V.str, e5, by rw [List.length_map, sizeLine_eq]; omega, (gg.trans g5).over hD e5 (fun _ z => by cases z), ?_, ys ++ [⟨#[c5]⟩], by rw [upd_same, List.map_append] <;> rfl, by rw [List.length_append, ly] <;> rfl, fun y hy' => ?_⟩
    · obtain ⟨ns, s1, c1, w1, w2, w3, w4, w5, w6, w7⟩ := W5
      have n1 : a ≠ D := fun z => nD (by simp [z])
      have n2 : l ≠ D := fun z => nD (by simp [z])
      exact ⟨ns, s1, c1, w1, by rw [upd_ne n1]; exact w2, by rw [upd_ne n2]; exact w3, w4, w5, w6, by omega⟩
    · rcases List.mem_append.mp hy' with z | z
      · exact hy y z
      · rw [List.mem_singleton.mp z]
        exact ⟨Nat.le_refl _, an_one a62 mc5⟩
  obtain ⟨gg, W4, ys, ey, ly, hy⟩ := h
  have hj := join_an hy
  have G4 := G3.trans gg
  have t4 := gg.tb t3
  have sm : (ys.map (fun x : Str => x.length)).sum ≤ ys.length := by
    clear ey ly hj
    induction ys with
    | nil => simp
    | cons y r ih =>
      have h1 := (hy y List.mem_cons_self).1
      have h2 := ih fun z hz => hy z (List.mem_cons_of_mem _ hz)
      rw [List.map_cons, List.sum_cons, List.length_cons]
      omega
  refine ⟨⟨#[]⟩, D, ys, rfl, rfl, .inl (SqL.of ey), by show _ + _ * 0 ≤ _; omega, ?_⟩
  rw [SL.join_nil]
  have W4 : WellAt a l H4 (k + 13) := W4.up (by omega)
  have eT4 : H4 t = some (.lst (xs.map V.str)) := G4.lst et (nin ⟨ta, tl⟩)
  refine ⟨_, rfl, by show 0 ≤ sizeLine; omega, fun p2 hp2 => ?_⟩
  have gq := Go.new (T := T) (M := []) (o := .lst []) hp2
  have G5 : Go T [a, l] H (upd H4 p2 (.lst [])) := G4.trans gq.of0
  have eT5 := gq.lst eT4 (nn _)
  have W5 := W4.go gq
  have hbd : an (Str.join ⟨#[]⟩ ys) = true ∧ (Str.join ⟨#[]⟩ ys).length ≤ 9 := ⟨hj.2, by omega⟩
  have hhd : low1 (⟨#[h0]⟩ : Str) := ⟨h0, rfl, a26 h0 mh0⟩
  refine ⟨t, p2, xs.map V.str, rfl, rfl, .inl ⟨SqL.of eT5, SqL.of upd_same⟩, _, rfl, ?_⟩
  by_cases hne : xs = []
  · rw [show (xs.map V.str).isEmpty = true by rw [hne] <;> rfl]
    refine iteF (iteF ?_)
    refine ⟨_, rfl, _, rfl, iteT ?_⟩
    have l2 : ((Str.join ⟨#[]⟩ ys)).length ≤ 9 := (hbd).2
    have lh : ((⟨#[h0]⟩ : Str)).length = 1 := (hhd).len
    have hu1 : high1 (Txt.upper (⟨#[h0]⟩ : Str)) := up_low hhd
    have lu := hu1.len
    refine ⟨_, rfl, ⟨_, rfl⟩, (⟨#[h0]⟩ : Str), rfl, rfl, by rw [lh]; decide, ?_⟩
    generalize Txt.upper (⟨#[h0]⟩ : Str) = U at hu1 lu ⊢
    refine ⟨_, rfl, _, rfl, U, (Str.join ⟨#[]⟩ ys), rfl, rfl, by rw [sizeLine_eq]; omega, ?_⟩
    refine ⟨_, rfl, _, rfl, t, _, rfl, .inl (SqL.of eT5), rfl, flat_strs _, _, rfl, ?_⟩
    rw [inV_strs]
    by_cases k1 : U ++ (Str.join ⟨#[]⟩ ys) ∈ xs
    · rw [decide_eq_true k1]
      refine iteT ?_
      refine ⟨400, rfl, by decide, by decide, fun D9 hD9 => lc_pick (T := T) (hd := U) (xs := xs) (t := t) eT5 lx hu1 hD9 (fun _ => rfl) (fun _ => rfl) (fun _ => rfl) (fun _ => rfl) (fun H9 y9 ys9 g9 e9 hy9 hn9 => ?_)⟩
      exact ⟨D9, _, 0, .str y9, rfl, rfl, SqL.of e9, atI_nat (j := 0) rfl, _, rfl, q y9 H9 hy9 hn9 (((W5).go g9).up (by omega)) ((G5).trans g9.of0) (((G5).trans g9.of0).tb ht)⟩
    · rw [decide_eq_false k1]
      refine iteF ?_
      refine ⟨_, rfl, by show 3 ≤ sizeLine; decide, fun p8 hp8 => ⟨p8, ([("fun" : Str), "kind", "number"]).map V.str, rfl, .inr (SqT.of upd_same), rfl, flat_strs _, _, rfl, ?_⟩⟩
      have g8 := Go.new (T := T) (M := []) (o := .tup [.str "fun", .str "kind", .str "number"]) hp8
      have e8 := g8.lst eT5 (nn _)
      have W8 := (W5).go g8
      have G8 := (G5).trans g8.of0
      rw [inV_strs]
      by_cases k2 : U ++ (Str.join ⟨#[]⟩ ys) ∈ [("fun" : Str), "kind", "number"]
      · rw [decide_eq_true k2]
        refine iteT ?_
        refine ⟨400, rfl, by decide, by decide, fun D9 hD9 => lc_pick (T := T) (hd := U) (xs := xs) (t := t) e8 lx hu1 hD9 (fun _ => rfl) (fun _ => rfl) (fun _ => rfl) (fun _ => rfl) (fun H9 y9 ys9 g9 e9 hy9 hn9 => ?_)⟩
        exact ⟨D9, _, 0, .str y9, rfl, rfl, SqL.of e9, atI_nat (j := 0) rfl, _, rfl, q y9 H9 hy9 hn9 (((W8).go g9).up (by omega)) ((G8).trans g9.of0) (((G8).trans g9.of0).tb ht)⟩
      · rw [decide_eq_false k2]
        refine iteF ?_
        exact ⟨_, rfl, q _ _ (high_mk hu1 (hbd).1 l2) k1 (W8.up (by omega)) G8 (G8.tb ht)⟩
  · rw [show (xs.map V.str).isEmpty = false by cases xs with | nil => exact absurd rfl hne | cons _ _ => rfl]
    refine iteT ?_
    refine ⟨_, rfl, a, l, k + 13, 2, rfl, by decide, by decide, by omega, W5, G5.tb ht, fun i6 H6 j0 j1 W6 g6 t6 => ⟨rfl, _, rfl, ?_⟩⟩
    have G6 := G5.trans g6
    have eT6 : H6 t = some (.lst (xs.map V.str)) := G6.lst et (nin ⟨ta, tl⟩)
    by_cases h6 : i6 = 0
    · refine if_true_of (decide_eq_true (by rw [h6])) ?_
      have xpos : 0 < xs.length := List.length_pos_iff.mpr hne
      refine ⟨_, rfl, _, rfl, _, rfl, t, _, rfl, .inl (SqL.of eT6), a, l, k + 13 + 1, _, rfl, by rw [List.length_map]; omega, by rw [List.length_map]; omega, by omega, W6, t6, fun i7 H7 j70 j71 W7 g7 t7 => ?_⟩
      obtain ⟨vo, eo, mo⟩ := at_ok j70 j71
      obtain ⟨old, hold, rfl⟩ := List.mem_map.mp mo
      have ox := high_parts (hx old hold)
      have oo := (hx old hold).old
      have G7 := G6.trans g7
      have eT7 : H7 t = some (.lst (xs.map V.str)) := G7.lst et (nin ⟨ta, tl⟩)
      refine ⟨t, _, i7, _, rfl, rfl, SqL.of eT7, eo, ?_⟩
      have lo : old.length ≤ sizeLine := by rw [sizeLine_eq]; have := oo.2.2; omega
      refine ⟨_, rfl, _, rfl, old, rfl, lo, a, l, k + 13 + 1 + 1, _, rfl, by have := oo.2.1; omega, by have := oo.2.2; omega, by omega, W7, t7, fun i8 H8 j80 j81 W8 g8 t8 => ⟨_, _, rfl, rfl, ?_⟩⟩
      obtain ⟨c0, r0, e0⟩ := cons_of_len oo.2.1
      have a0 : asc (⟨#[c0]⟩ : Str) = true := asc_one oo.1 (by rw [e0]; exact List.mem_cons_self)
      refine ⟨_, rfl, old, 0, c0, rfl, rfl, lo, (by rw [e0]; exact atI_nat (j := 0) rfl), ⟨_, rfl⟩, ⟨#[c0]⟩, rfl, rfl, (show 1 ≤ 5592405 by decide), ?_⟩
      obtain ⟨c0', r0', e0', hc0⟩ := ox.2.2.2
      have ec : c0' = c0 := by rw [e0'] at e0; cases e0; rfl
      rw [ec] at hc0
      have hlo := lo_high hc0
      refine ⟨_, rfl, _, rfl, _, rfl, old, rfl, lo, _, rfl, _, rfl, a, l, k + 13 + 1 + 1 + 1, 62, rfl, by decide, by decide, by omega, W8, t8, fun i9 H9 j90 j91 W9 g9 t9 => ?_⟩
      obtain ⟨c9, ec9, mc9⟩ := at_ok (xs := an62.cps.toList) j90 (by exact j91)
      refine ⟨an62, i9, c9, rfl, rfl, by decide +kernel, ec9, by show 2 ≤ sizeLine; decide, fun p9 hp9 => ?_⟩
      have gp9 := Go.new (T := T) (M := []) (o := .lst [.str "", .str ⟨#[c9]⟩]) hp9
      refine ⟨_, rfl, a, l, k + 13 + 1 + 1 + 1 + 1, 2, rfl, by decide, by decide, by omega, W9.go gp9, gp9.tb t9, fun i10 H10 j100 j101 W10 g10 t10 => ?_⟩
      obtain ⟨z, ez, az, lz⟩ := at2 (p := fun z => an z = true ∧ z.length ≤ 1) j100 j101 (x := "") (y := ⟨#[c9]⟩) ⟨rfl, by decide⟩ ⟨an_one a62 mc9, Nat.le_refl _⟩
      refine ⟨p9, _, i10, _, rfl, rfl, SqL.of (g10.lst upd_same (nin (W9.ne hp9))), ez, ?_⟩
      have lc1 := len_cut old none (some (1 + i8))
      refine ⟨_, _, rfl, rfl, by rw [sizeLine_eq]; have := oo.2.2; omega, ?_⟩
      refine ⟨_, rfl, _, rfl, _, rfl, a, l, k + 13 + 1 + 1 + 1 + 1 + 1, 2, rfl, by decide, by decide, by omega, W10, t10, fun i11 H11 j110 j111 W11 g11 t11 => ⟨_, _, rfl, rfl, _, rfl, old, rfl, lo, ?_⟩⟩
      have lc2 := len_cut old (some (1 + i8 + i11)) none
      have lc3 : (cutS old none (some (1 + i8)) ++ z).length ≤ 12 := by rw [strLen_append]; have := oo.2.2; omega
      have lc4 : ((cutS old none (some (1 + i8)) ++ z) ++ cutS old (some (1 + i8 + i11)) none).length ≤ 23 := by rw [strLen_append]; have := oo.2.2; omega
      refine ⟨_, _, rfl, rfl, by rw [sizeLine_eq]; have := oo.2.2; omega, _, rfl, _, rfl, _, rfl, by rw [sizeLine_eq]; omega, ?_⟩
      have G11 := (((((G7.trans g8).trans g9).trans gp9.of0).trans g10).trans g11)
      have eT11 : H11 t = some (.lst (xs.map V.str)) := G11.lst et (nin ⟨ta, tl⟩)
      have hbd2 : an (cutS ((cutS old none (some (1 + i8)) ++ z) ++ cutS old (some (1 + i8 + i11)) none) (some 1) (some 10)) = true ∧ (cutS ((cutS old none (some (1 + i8)) ++ z) ++ cutS old (some (1 + i8 + i11)) none) (some 1) (some 10)).length ≤ 9 :=
        ⟨an_cut (an_add (an_add (an_cut ox.1 _ _) az) (an_cut ox.1 _ _)) _ _, by have := len_cut9 ((cutS old none (some (1 + i8)) ++ z) ++ cutS old (some (1 + i8 + i11)) none); omega⟩
      have hhd2 : low1 (Txt.lower ⟨#[c0]⟩) := hlo
      generalize Txt.lower ⟨#[c0]⟩ = X at hhd2 ⊢
      generalize cutS ((cutS old none (some (1 + i8)) ++ z) ++ cutS old (some (1 + i8 + i11)) none) (some 1) (some 10) = Y at hbd2 ⊢
      refine ⟨_, rfl, _, rfl, iteT ?_⟩
      have l2 : (Y).length ≤ 9 := (hbd2).2
      have lh : (X).length = 1 := (hhd2).len
      have hu1 : high1 (Txt.upper X) := up_low hhd2
      have lu := hu1.len
      refine ⟨_, rfl, ⟨_, rfl⟩, X, rfl, rfl, by rw [lh]; decide, ?_⟩
      generalize Txt.upper X = U at hu1 lu ⊢
      refine ⟨_, rfl, _, rfl, U, Y, rfl, rfl, by rw [sizeLine_eq]; omega, ?_⟩
      refine ⟨_, rfl, _, rfl, t, _, rfl, .inl (SqL.of eT11), rfl, flat_strs _, _, rfl, ?_⟩
      rw [inV_strs]
      by_cases k1 : U ++ Y ∈ xs
      · rw [decide_eq_true k1]
        refine iteT ?_
        refine ⟨400, rfl, by decide, by decide, fun D9 hD9 => lc_pick (T := T) (hd := U) (xs := xs) (t := t) eT11 lx hu1 hD9 (fun _ => rfl) (fun _ => rfl) (fun _ => rfl) (fun _ => rfl) (fun H9 y9 ys9 g9 e9 hy9 hn9 => ?_)⟩
        exact ⟨D9, _, 0, .str y9, rfl, rfl, SqL.of e9, atI_nat (j := 0) rfl, _, rfl, q y9 H9 hy9 hn9 (((W11).go g9).up (by omega)) ((G11).trans g9.of0) (((G11).trans g9.of0).tb ht)⟩
      · rw [decide_eq_false k1]
        refine iteF ?_
        refine ⟨_, rfl, by show 3 ≤ sizeLine; decide, fun p8 hp8 => ⟨p8, ([("fun" : Str), "kind", "number"]).map V.str, rfl, .inr (SqT.of upd_same), rfl, flat_strs _, _, rfl, ?_⟩⟩
        have g8 := Go.new (T := T) (M := []) (o := .tup [.str "fun", .str "kind", .str "number"]) hp8
        have e8 := g8.lst eT11 (nn _)
        have W8 := (W11).go g8
        have G8 := (G11).trans g8.of0
        rw [inV_strs]
        by_cases k2 : U ++ Y ∈ [("fun" : Str), "kind", "number"]
        · rw [decide_eq_true k2]
          refine iteT ?_
          refine ⟨400, rfl, by decide, by decide, fun D9 hD9 => lc_pick (T := T) (hd := U) (xs := xs) (t := t) e8 lx hu1 hD9 (fun _ => rfl) (fun _ => rfl) (fun _ => rfl) (fun _ => rfl) (fun H9 y9 ys9 g9 e9 hy9 hn9 => ?_)⟩
          exact ⟨D9, _, 0, .str y9, rfl, rfl, SqL.of e9, atI_nat (j := 0) rfl, _, rfl, q y9 H9 hy9 hn9 (((W8).go g9).up (by omega)) ((G8).trans g9.of0) (((G8).trans g9.of0).tb ht)⟩
        · rw [decide_eq_false k2]
          refine iteF ?_
          exact ⟨_, rfl, q _ _ (high_mk hu1 (hbd2).1 l2) k1 (W8.up (by omega)) G8 (G8.tb ht)⟩
    · refine if_false_of (decide_eq_false fun z => h6 (V.int.inj z)) ?_
      refine ⟨_, rfl, _, rfl, iteT ?_⟩
      have l2 : ((Str.join ⟨#[]⟩ ys)).length ≤ 9 := (hbd).2
      have lh : ((⟨#[h0]⟩ : Str)).length = 1 := (hhd).len
      have hu1 : high1 (Txt.upper (⟨#[h0]⟩ : Str)) := up_low hhd
      have lu := hu1.len
      refine ⟨_, rfl, ⟨_, rfl⟩, (⟨#[h0]⟩ : Str), rfl, rfl, by rw [lh]; decide, ?_⟩
      generalize Txt.upper (⟨#[h0]⟩ : Str) = U at hu1 lu ⊢
      refine ⟨_, rfl, _, rfl, U, (Str.join ⟨#[]⟩ ys), rfl, rfl, by rw [sizeLine_eq]; omega, ?_⟩
      refine ⟨_, rfl, _, rfl, t, _, rfl, .inl (SqL.of eT6), rfl, flat_strs _, _, rfl, ?_⟩
      rw [inV_strs]
      by_cases k1 : U ++ (Str.join ⟨#[]⟩ ys) ∈ xs
      · rw [decide_eq_true k1]
        refine iteT ?_
        refine ⟨400, rfl, by decide, by decide, fun D9 hD9 => lc_pick (T := T) (hd := U) (xs := xs) (t := t) eT6 lx hu1 hD9 (fun _ => rfl) (fun _ => rfl) (fun _ => rfl) (fun _ => rfl) (fun H9 y9 ys9 g9 e9 hy9 hn9 => ?_)⟩
        exact ⟨D9, _, 0, .str y9, rfl, rfl, SqL.of e9, atI_nat (j := 0) rfl, _, rfl, q y9 H9 hy9 hn9 (((W6).go g9).up (by omega)) ((G6).trans g9.of0) (((G6).trans g9.of0).tb ht)⟩
      · rw [decide_eq_false k1]
        refine iteF ?_
        refine ⟨_, rfl, by show 3 ≤ sizeLine; decide, fun p8 hp8 => ⟨p8, ([("fun" : Str), "kind", "number"]).map V.str, rfl, .inr (SqT.of upd_same), rfl, flat_strs _, _, rfl, ?_⟩⟩
        have g8 := Go.new (T := T) (M := []) (o := .tup [.str "fun", .str "kind", .str "number"]) hp8
        have e8 := g8.lst eT6 (nn _)
        have W8 := (W6).go g8
        have G8 := (G6).trans g8.of0
        rw [inV_strs]
        by_cases k2 : U ++ (Str.join ⟨#[]⟩ ys) ∈ [("fun" : Str), "kind", "number"]
        · rw [decide_eq_true k2]
          refine iteT ?_
          refine ⟨400, rfl, by decide, by decide, fun D9 hD9 => lc_pick (T := T) (hd := U) (xs := xs) (t := t) e8 lx hu1 hD9 (fun _ => rfl) (fun _ => rfl) (fun _ => rfl) (fun _ => rfl) (fun H9 y9 ys9 g9 e9 hy9 hn9 => ?_)⟩
          exact ⟨D9, _, 0, .str y9, rfl, rfl, SqL.of e9, atI_nat (j := 0) rfl, _, rfl, q y9 H9 hy9 hn9 (((W8).go g9).up (by omega)) ((G8).trans g9.of0) (((G8).trans g9.of0).tb ht)⟩
        · rw [decide_eq_false k2]
          refine iteF ?_
          exact ⟨_, rfl, q _ _ (high_mk hu1 (hbd).1 l2) k1 (W8.up (by omega)) G8 (G8.tb ht)⟩
end
end K2
set_option Elab.async false
set_option linter.all false
set_option maxRecDepth 100000
set_option maxHeartbeats 4000000
/-! k02: how great the values are; pools of values -/
namespace K2
open PySem PySem.Spec PyProof.Rows L2 GxR NdefX GA SL RZ
variable [SL.LamT]
theorem int_wt {z : Int} (h : z.natAbs ≤ bigInt) : wt (.int z) ≤ 1925 := by
  simp only [wt]
  have : z.natAbs.log2 < 1920 := by
    by_cases c : z.natAbs = 0
    · rw [c]; decide
    · refine (Nat.log2_lt c).mpr (Nat.lt_of_le_of_lt h ?_)
      unfold bigInt
      decide +kernel
  have := int_text_len_1921 this
  omega
theorem all_bd2 {B D N : Nat} : ∀ {ls : List PyData}, (∀ d ∈ ls, wt d ≤ B ∧ nice N d = true ∧ d.depth ≤ D) → wtAll ls ≤ (B + 2) * ls.length ∧ niceAll N ls = true ∧ PyData.depthAll ls ≤ D
  | [], _ => ⟨by simp [wtAll], rfl, by simp [PyData.depthAll]⟩
  | x :: r, h => by
    have ih := all_bd2 fun y hy => h y (List.mem_cons_of_mem _ hy)
    have hx := h x List.mem_cons_self
    refine ⟨?_, ?_, ?_⟩
    · have e : (B + 2) * (r.length + 1) = (B + 2) * r.length + (B + 2) := Nat.mul_succ _ _
      rw [List.length_cons, e]
      simp only [wtAll]
      have := hx.1
      have := ih.1
      omega
    · simp only [niceAll]
      rw [hx.2.1, ih.2.1] <;> rfl
    · simp only [PyData.depthAll]
      have := hx.2.2
      have := ih.2.2
      omega
theorem cutD_all {ds : List PyData} {i : Int} (h : (ds.length : Int) ≤ i) : SL.cutD ds none (some i) = ds := by
  obtain ⟨j, rfl⟩ : ∃ j : Nat, i = (j : Int) := ⟨i.toNat, by omega⟩
  unfold SL.cutD
  rw [HT.sIx_none, HT.sIx_nat, List.drop_zero, Nat.sub_zero, Nat.min_eq_right (by omega), List.take_length]
theorem cutD_up {ds : List PyData} {i : Int} (h : 1 ≤ i) : SL.cutD ds none (some i) = ds.take i.toNat := by
  by_cases c : (ds.length : Int) ≤ i
  · rw [cutD_all c, List.take_of_length_le (by omega)]
  · have e : i = ((i.toNat : Nat) : Int) := by omega
    conv => lhs; rw [e]
    rw [cutD_lo (by omega)]

def NB : Nat := (bigInt * 1000000000 + 1000000000000000000000000000000) * 1000000000 + 1000000000000000000000000000000
/-- what _law_value_right takes -/
def good (d : PyData) : Prop := nice NB d = true ∧ wt d ≤ 3000000 ∧ d.depth ≤ 50
theorem small_good {d : PyData} (h : d = .tuple [] ∨ d = .none ∨ d = .int 0) : good d := by
  have e : ∀ d : PyData, (nice 0 d && decide (wt d ≤ 2000) && decide (d.depth ≤ 9)) = true → good d := fun d h => by
    simp only [Bool.and_eq_true, decide_eq_true_eq] at h
    exact ⟨nice_mono (Nat.zero_le _) h.1.1, by omega, by omega⟩
  rcases h with rfl | rfl | rfl
  · exact e _ (by decide +kernel)
  · exact e _ (by decide +kernel)
  · exact e _ (by decide +kernel)
theorem both_good {ks : List PyData} {d : PyData} (hd : drawnOk (.tuple ks)) (h : good d) : nice NB (.tuple [.tuple ks, d]) = true ∧ wt (.tuple [.tuple ks, d]) ≤ 4000000 ∧ (PyData.tuple [.tuple ks, d]).depth ≤ 100 ∧ wt (.tuple ks) ≤ 4000000 ∧ wt d ≤ 4000000 := by
  obtain ⟨_, _, _, w, n, dp⟩ := hd
  obtain ⟨h1, h2, h3⟩ := h
  refine ⟨?_, ?_, ?_, by omega, by omega⟩
  · have n2 : nice NB (.tuple ks) = true := nice_mono (Nat.zero_le _) n
    have e : nice NB (.tuple [.tuple ks, d]) = (nice NB (.tuple ks) && (nice NB d && true)) := by simp only [nice, niceAll]
    rw [e, n2, h1] <;> rfl
  · rw [wt_pair]
    omega
  · have e : (PyData.tuple [.tuple ks, d]).depth ≤ 60 + 1 := depth_tup.mpr fun x hx => by
      simp only [List.mem_cons, List.not_mem_nil, or_false] at hx
      rcases hx with rfl | rfl
      · omega
      · omega
    omega
/-- what stands in a tree's words -/
def wG (d : PyData) : Prop := wt d ≤ 1930 ∧ nice bigInt d = true ∧ d.depth ≤ 0
def phr (n : Nat) (d : PyData) : Prop := ∃ ds, d = .tuple ds ∧ ds.length ≤ n ∧ ∀ e ∈ ds, wG e
theorem word_wG {ws : List Key} (h : ∀ x, .inr x ∈ ws → nmOk x) (hs : smallW bigInt ws) : ∀ e ∈ ws.map kD, wG e := fun e me => by
  obtain ⟨w, mw, rfl⟩ := List.mem_map.mp me
  cases w with
  | inl z =>
    have hz := hs z mw
    refine ⟨?_, ?_, ?_⟩
    · have := int_wt hz
      show wt (.int z) ≤ 1930
      omega
    · show nice bigInt (.int z) = true
      simp only [nice, decide_eq_true_eq]
      exact hz
    · show (PyData.int z).depth ≤ 0
      simp [PyData.depth]
  | inr x =>
    obtain ⟨h1, h2, h3⟩ := nmOk.old (h x mw)
    refine ⟨?_, ?_, ?_⟩
    · show wt (.str x) ≤ 1930
      simp only [wt]
      omega
    · show nice bigInt (.str x) = true
      simpa only [nice] using h1
    · show (PyData.str x).depth ≤ 0
      simp [PyData.depth]
theorem phr_bd {n : Nat} {d : PyData} (h : phr n d) : nice bigInt d = true ∧ wt d ≤ 1932 * n + 4 ∧ d.depth ≤ 1 := by
  obtain ⟨ds, rfl, hl, hd⟩ := h
  obtain ⟨h1, h2, h3⟩ := all_bd2 (B := 1930) (D := 0) (N := bigInt) (ls := ds) hd
  refine ⟨by simp only [nice]; exact h2, ?_, ?_⟩
  · rw [wt_tupl]
    have := Nat.mul_le_mul_left 1932 hl
    omega
  · simp only [PyData.depth]
    omega
theorem phr_good {n : Nat} {d : PyData} (h : phr n d) (hn : n ≤ 1000) : good d := by
  obtain ⟨h1, h2, h3⟩ := phr_bd h
  exact ⟨nice_mono (by unfold NB bigInt; decide +kernel) h1, by omega, by omega⟩
theorem phr_goodL {n : Nat} {ds : List PyData} (h : phr n (.tuple ds)) (hn : n ≤ 1000) : good (.list ds) := by
  obtain ⟨h1, h2, h3⟩ := phr_good h hn
  refine ⟨by simpa only [nice] using h1, ?_, ?_⟩
  · rw [wt_tupl] at h2
    rw [wt_lst]
    exact h2
  · simpa only [PyData.depth] using h3
theorem phr_sub {n m : Nat} {ds es : List PyData} (h : phr n (.tuple ds)) (s : ∀ e ∈ es, e ∈ ds) (hl : es.length ≤ m) : phr m (.tuple es) := by
  obtain ⟨ds', e, _, hd⟩ := h
  cases e
  exact ⟨es, rfl, hl, fun e me => hd e (s e me)⟩
theorem phr_cut {n : Nat} {ds : List PyData} {lo hi : Option Int} (h : phr n (.tuple ds)) : phr n (.tuple (SL.cutD ds lo hi)) := by
  obtain ⟨ds', e, l, _⟩ := id h
  cases e
  exact phr_sub h (fun e me => SL.cutD_mem me) (Nat.le_trans (SL.cutD_len _ _ _) l)
theorem phr_cat {n m : Nat} {ds es : List PyData} (h : phr n (.tuple ds)) (k : phr m (.tuple es)) : phr (n + m) (.tuple (ds ++ es)) := by
  obtain ⟨_, e, l1, h1⟩ := h
  cases e
  obtain ⟨_, e, l2, h2⟩ := k
  cases e
  exact ⟨_, rfl, by rw [List.length_append]; omega, fun e me => (List.mem_append.mp me).elim (h1 e) (h2 e)⟩
theorem phr_twice {n : Nat} {ds : List PyData} (h : phr n (.tuple ds)) : phr (n + n) (.tuple (List.replicate (2 : Int).toNat ds).flatten) := by
  have e : (List.replicate (2 : Int).toNat ds).flatten = ds ++ ds := by
    show (List.replicate 2 ds).flatten = ds ++ ds
    simp [List.replicate]
  rw [e]
  exact phr_cat h h
theorem phr_up {n m : Nat} {d : PyData} (h : phr n d) (hn : n ≤ m) : phr m d := by
  obtain ⟨ds, e, l, hd⟩ := h
  exact ⟨ds, e, by omega, hd⟩
theorem phr_nil : phr 0 (.tuple []) := ⟨[], rfl, Nat.le_refl _, fun _ m => by cases m⟩
theorem wG_int {z : Int} (h : z.natAbs ≤ bigInt) : wG (.int z) := word_wG (ws := [.inl z]) (fun x m => by simp at m) (fun z' m => by simp at m; rw [m]; exact h) _ (by simp [kD])
theorem wG_str {x : Str} (h : asc x = true ∧ x.length ≤ 11) : wG (.str x) := by
  refine ⟨?_, ?_, ?_⟩
  · simp only [wt]
    omega
  · simpa only [nice] using h.1
  · simp [PyData.depth]
theorem wG_good {d : PyData} (h : wG d) : good d := ⟨nice_mono (by unfold NB bigInt; decide +kernel) h.2.1, by have := h.1; omega, by have := h.2.2; omega⟩
theorem phr_one {d : PyData} (h : wG d) : phr 1 (.tuple [d]) := ⟨[d], rfl, Nat.le_refl _, fun e m => by rw [List.mem_singleton.mp m]; exact h⟩
/-- a bent one, and that bent again -/
theorem near1 {n : Nat} {d d' : PyData} (h : phr n d) (hn : n ≤ 150) (k : nearOk bigInt d d') : nice (bigInt * 1000000000 + 1000000000000000000000000000000) d' = true ∧ wt d' ≤ 900000 ∧ d'.depth ≤ 4 ∧ good d' := by
  obtain ⟨h1, h2, h3⟩ := phr_bd h
  obtain ⟨k1, k2, k3⟩ := k
  exact ⟨k1, by omega, by omega, nice_mono (by unfold NB; omega) k1, by omega, by omega⟩
theorem near2 {d d' : PyData} (h : wt d ≤ 900000 ∧ d.depth ≤ 4) (k : nearOk (bigInt * 1000000000 + 1000000000000000000000000000000) d d') : good d' := by
  obtain ⟨k1, k2, k3⟩ := k
  exact ⟨k1, by omega, by omega⟩
/-- since H0: what was laid, in its sequence -/
structure Wk (T : List Addr) (a l : Addr) (k : Int) (H0 H : Hp) (vs : List V) (ds : List PyData) : Prop where
  go : Go T [a, l] H0 H
  tb : Tabs T H
  cup : WellAt a l H k
  dv : DvAll [a, l] H vs ds
section
variable {T : List Addr} {a l p : Addr} {k k' : Int} {H0 H H' : Hp} {vs xs : List V} {ds es : List PyData} {v : V} {d : PyData}
theorem Wk.step (w : Wk T a l k H0 H vs ds) (g : Go T [] H H') : Wk T a l k H0 H' vs ds := ⟨w.go.trans g.of0, g.tb w.tb, w.cup.go g, w.dv.go g.of0⟩
theorem Wk.put (w : Wk T a l k H0 H vs ds) (h : Dv [a, l] H v d) : Wk T a l k H0 H (vs ++ [v]) (ds ++ [d]) := ⟨w.go, w.tb, w.cup, w.dv.append (.cons h .nil)⟩
theorem Wk.call (w : Wk T a l k H0 H vs ds) (W : WellAt a l H' k') (g : Go T [a, l] H H') (t : Tabs T H') : Wk T a l k' H0 H' vs ds := ⟨w.go.trans g, t, W, w.dv.go g⟩
theorem Wk.start (W : WellAt a l H k) (t : Tabs T H) : Wk T a l k H H [] [] := ⟨Go.refl, t, W, .nil⟩
theorem Wk.fresh (w : Wk T a l k H0 H vs ds) : ∀ r, H r = none → r ∉ [a, l] := fun r hr => nin (w.cup.ne hr)
theorem Wk.tup (w : Wk T a l k H0 H vs ds) (hp : H p = none) (h : DvAll [a, l] H xs es) : Wk T a l k H0 (upd H p (.tup xs)) (vs ++ [.ref p]) (ds ++ [.tuple es]) :=
  (w.step (Go.new hp)).put (.tup upd_same (w.fresh p hp) (h.go (Go.new (T := T) (M := []) hp).of0))
theorem Wk.lst (w : Wk T a l k H0 H vs ds) (hp : H p = none) (h : DvAll [a, l] H xs es) : Wk T a l k H0 (upd H p (.lst xs)) (vs ++ [.ref p]) (ds ++ [.list es]) :=
  (w.step (Go.new hp)).put (.lst upd_same (w.fresh p hp) (h.go (Go.new (T := T) (M := []) hp).of0))
end
/-! slices, sums and multiples of tuples, as data -/
section
variable {K : PySem.W.Frag} {T M : List Addr} {H : Hp} {v1 v2 v : V} {d1 d2 ds : List PyData} {Q : VK}
theorem cat_dv (h1 : Dv M H v1 (.tuple d1)) (h2 : Dv M H v2 (.tuple d2)) (hl : d1.length + d2.length ≤ 16777216) (fresh : ∀ r, H r = none → r ∉ M)
    (k : ∀ u H', Go T [] H H' → Dv M H' u (.tuple (d1 ++ d2)) → Q u H') : rCatA K v1 v2 H Q := by
  obtain ⟨p, xs, rfl, ep, np, dx⟩ := dv_tup h1
  obtain ⟨q, ys, rfl, eq, nq, dy⟩ := dv_tup h2
  have hx := dx.length
  have hy := dy.length
  refine cat_ok (T := T) (M := M) ep eq np nq (by omega) fresh fun r H' er nr g => ?_
  exact k _ H' g (.tup er nr ((dx.go g.of0).append (dy.go g.of0)))
theorem sl_dv {lo hi : Option Int} (h : Dv M H v (.tuple ds)) (fresh : ∀ r, H r = none → r ∉ M) (k : ∀ u H', Go T [] H H' → Dv M H' u (.tuple (SL.cutD ds lo hi)) → Q u H') : rSlA K v lo hi H Q := by
  obtain ⟨p, xs, rfl, ep, np, dx⟩ := dv_tup h
  refine sl_ok (T := T) (M := M) ep np fresh fun r H' er nr g => ?_
  exact k _ H' g (.tup er nr ((dx.go g.of0).cutD lo hi))
theorem twice_dv (h : Dv M H v (.tuple ds)) (hl : ds.length ≤ 2000000) (fresh : ∀ r, H r = none → r ∉ M) (k : ∀ u H', Go T [] H H' → Dv M H' u (.tuple (List.replicate (2 : Int).toNat ds).flatten) → Q u H') : rTimes K v (.int 2) H Q := by
  obtain ⟨p, xs, rfl, ep, np, dx⟩ := dv_tup h
  have lx := dx.length
  refine times_ok (T := T) (M := M) (j := 2) ep np (by decide) (by decide) (by omega) fresh fun r H' er nr g => ?_
  exact k _ H' g (.tup er nr (DvAll.rep (dx.go g.of0) _))
end
def VInv (T : List Addr) (a l : Addr) (m : Nat) (k : Int) (z : V) (H : Hp) : Prop := ∃ (p : Addr) (vs : List V) (ds : List PyData), z = .ref p ∧ H p = some (.lst vs) ∧ p ∉ [a, l] ∧ DvAll [a, l] H vs ds ∧ (∀ d ∈ ds, good d) ∧ vs.length ≤ m ∧ WellAt a l H k ∧ Tabs T H
theorem VInv.go {T : List Addr} {a l : Addr} {m : Nat} {k k' : Int} {z : V} {H H' : Hp} (h : VInv T a l m k z H) (g : Go T [a, l] H H') (w : WellAt a l H' k') : VInv T a l m k' z H' := by
  obtain ⟨p, vs, ds, e, h1, h2, h3, h4, h5, _, h7⟩ := h
  exact ⟨p, vs, ds, e, g.lst h1 h2, h2, h3.go g, h4, h5, w, g.tb h7⟩
theorem VInv.up {T : List Addr} {a l : Addr} {m m' : Nat} {k k' : Int} {z : V} {H : Hp} (h : VInv T a l m k z H) (hm : m ≤ m') (hk : k ≤ k') : VInv T a l m' k' z H := by
  obtain ⟨p, vs, ds, e, h1, h2, h3, h4, h5, h6, h7⟩ := h
  exact ⟨p, vs, ds, e, h1, h2, h3, h4, by omega, h6.up hk, h7⟩
/-- values + [..] -/
theorem VInv.cat {T : List Addr} {a l : Addr} {m j : Nat} {k : Int} {z : V} {H : Hp} {o : Addr} {us : List V} {es : List PyData} {Q : VK} (h : VInv T a l m k z H) (ho : H o = some (.lst us)) (hu : DvAll [a, l] H us es) (he : ∀ d ∈ es, good d) (hl : us.length ≤ j) (hm : m + j ≤ 1000)
    (q : ∀ r H', VInv T a l (m + j) k (.ref r) H' → Go T [] H H' → Q (.ref r) H') : rCat z (.ref o) H Q := by
  obtain ⟨p, vs, ds, rfl, h1, h2, h3, h4, h5, h6, h7⟩ := h
  refine ⟨p, o, vs, us, rfl, rfl, h1, ho, by rw [sizeLine_eq]; omega, fun r hr => ?_⟩
  have g := Go.new (T := T) (M := []) (o := .lst (vs ++ us)) hr
  refine q r _ ⟨r, _, _, rfl, upd_same, nin (h6.ne hr), (h3.append hu).go (g.of0 : Go T [a, l] H _), fun d hd => ?_, by rw [List.length_append]; omega, h6.go g, g.tb h7⟩ g
  exact (List.mem_append.mp hd).elim (h4 d) (he d)
theorem ok_law_bent {P : Program} {w : World} {K : PySem.W.Frag} {mg : Str → Option Value} {base : Heap} {f : Addr} {fd : FuncData} {T : List Addr} (F : Fun K "_law_bent" "_law_bent" s_law_bent f fd) (hm : mg "_law_bent" = some (.ref f)) (hb : Binds K fd ["well", "value"] []) (B : Bl mg)
    (Fd : Fnn P w K mg base CX0 1 "_law_draw" ["well", "many"] (sp_draw T)) (dep : Nat) : FnOk P w K mg base CX0 (dep + 3) f fd ["well", "value"] (sp_bent T dep) := by
  induction dep using Nat.strongRecOn with
  | ind dep ih =>
    refine ok_law_bent_step dep F B Fd ⟨f, fd, ⟨?_, ?_⟩, hm, F.kp, hb⟩
    · rintro vs H Q E ⟨j, hj, h⟩
      exact (ih j hj).len vs H Q E h
    · rintro A outer s H args us vs Q E hr env hbt hv ⟨j, hj, h⟩
      exact (ih j hj).run A outer s H args us vs Q E (hr.mono (by omega)) env hbt hv h
end K2
set_option Elab.async false
set_option linter.all false
set_option maxRecDepth 100000
set_option maxHeartbeats 8000000
namespace K2
open PySem PySem.Spec PyProof.Rows L2 GxR NdefX GA SL RZ
variable [SL.LamT]
abbrev s_law : Stmt := top 56
abbrev NLw : List Str := ["script", "well", "turn", "family", "pool", "trees", "title", "makers", "good", "tree", "values", "k", "base", "bent", "long", "short", "value"]
theorem sc_law : FnScope NLw ["script"] (defScope s_law) := ⟨rfl, rfl, rfl, by decide +kernel, rfl, by decide +kernel, by decide +kernel⟩
def sp_law (K : PySem.W.Frag) (T : List Addr) : Sp := fun vs H Q _ => ∃ (b : Addr) (ns : List Int), vs = [.ref b] ∧ SqL K H b (ns.map V.int) ∧ ns.length ≤ 63 ∧ Tabs T H ∧ Lams T H ∧ ∀ H', Q (.bl true) H'
theorem run_good {ks : List PyData} (hk : kindsB (.tuple ks) = true) {ws : List Key} {s t : List Str} (h : run ks s ws = some t) : ∀ x, .inr x ∈ ws → nmOk x := fun x hx => by
  obtain ⟨kd, p, m, hm, rfl⟩ := name_row (run_names h hx)
  have hmk := rows_maker hk hm
  obtain ⟨y, fs, rfl, _, _⟩ := maker_parts hmk
  simp only [makerB, Bool.and_eq_true] at hmk
  exact hmk.1.1.2
theorem not_lists {a l p : Addr} {H : Hp} {k : Int} {xs : List V} (W : WellAt a l H k) (h : H p = some (.tup xs)) : p ∉ [a, l] := by
  obtain ⟨ns, s, c, w1, w2, w3, _⟩ := W
  intro m
  rcases List.mem_cons.mp m with e | m
  · rw [e, w2] at h
    cases h
  · rw [List.mem_singleton.mp m, w3] at h
    cases h
theorem treesDv {a l : Addr} {H : Hp} {k : Int} (W : WellAt a l H k) : ∀ {L : List (Addr × List Key)}, (∀ e ∈ L, H e.1 = some (.tup (e.2.map kV))) → DvAll [a, l] H (treesV L) (L.map fun e => .tuple (e.2.map kD))
  | [], _ => .nil
  | e :: r, h => .cons (.tup (h e List.mem_cons_self) (not_lists W (h e List.mem_cons_self)) (words_dv _)) (treesDv W fun x m => h x (List.mem_cons_of_mem _ m))
theorem PoolAt.go {T M : List Addr} {H H' : Hp} {sd : Addr} {ks : List PyData} {ps : List (Str × Addr)} {G : Pool} {n : Nat} (h : PoolAt M H sd ks ps G n) (g : Go T M H H') (hM : ∀ b ∈ M, ∃ ys, H b = some (.lst ys)) : PoolAt M H' sd ks ps G n :=
  ⟨g.gr _ _ h.d h.dm (fun _ z => by cases z), h.dm, h.f, fun tp m => ⟨g.lst (h.l tp m).1 (h.l tp m).2, (h.l tp m).2⟩, h.t.st (ST.go g hM), h.g⟩
theorem PoolAt.go0 {T M : List Addr} {H H' : Hp} {sd : Addr} {ks : List PyData} {ps : List (Str × Addr)} {G : Pool} {n : Nat} (h : PoolAt M H sd ks ps G n) (g : Go T [] H H') : PoolAt M H' sd ks ps G n :=
  ⟨g.gr _ _ h.d List.not_mem_nil (fun _ z => by cases z), h.dm, h.f, fun tp m => ⟨g.lst (h.l tp m).1 List.not_mem_nil, (h.l tp m).2⟩, h.t.st (ST.go0 g), h.g⟩
theorem wlists {a l : Addr} {H : Hp} {k : Int} (W : WellAt a l H k) : ∀ b ∈ [a, l], ∃ ys, H b = some (.lst ys) := fun b hb => by
  obtain ⟨ns, s, c, w1, w2, w3, _⟩ := W
  rcases List.mem_cons.mp hb with rfl | hb
  · exact ⟨_, w2⟩
  · rw [List.mem_singleton.mp hb]
    exact ⟨_, w3⟩
theorem at2i {i : Nat} (h : i < 2) (x y : Int) : ∃ m : Int, atI [V.int x, V.int y] (0 + (i : Int)) = some (.int m) ∧ (m = x ∨ m = y) := by
  have : i = 0 ∨ i = 1 := by omega
  rcases this with rfl | rfl
  · exact ⟨x, rfl, .inl rfl⟩
  · exact ⟨y, rfl, .inr rfl⟩
/-- None, or a tree of the kind -/
def GoodAt (ks : List PyData) (t : Str) (M : List Addr) (H : Hp) (gv : V) (gd : PyData) : Prop := (gv = .non ∧ gd = .none) ∨ (gv ≠ .non ∧ Dv M H gv gd ∧ treeB ks t gd = true ∧ phr 120 gd)
theorem GoodAt.go {ks : List PyData} {t : Str} {T M : List Addr} {H H' : Hp} {gv : V} {gd : PyData} (h : GoodAt ks t M H gv gd) (g : Go T M H H') : GoodAt ks t M H' gv gd := h.imp id fun ⟨a, b, c⟩ => ⟨a, b.go g, c⟩
theorem GoodAt.dv {ks : List PyData} {t : Str} {M : List Addr} {H : Hp} {gv : V} {gd : PyData} (h : GoodAt ks t M H gv gd) : Dv M H gv gd := by
  rcases h with ⟨rfl, rfl⟩ | ⟨_, h, _⟩
  · exact .non
  · exact h
theorem GoodAt.good {ks : List PyData} {t : Str} {M : List Addr} {H : Hp} {gv : V} {gd : PyData} (h : GoodAt ks t M H gv gd) : good gd := by
  rcases h with ⟨_, rfl⟩ | ⟨_, _, _, h⟩
  · exact small_good (.inr (.inl rfl))
  · exact phr_good h (by decide)
theorem GoodAt.v {ks : List PyData} {t : Str} {M : List Addr} {H : Hp} {gv : V} {gd : PyData} (h : GoodAt ks t M H gv gd) : goodV ks t H gv := by
  rcases h with ⟨rfl, _⟩ | ⟨h1, h2, h3, _⟩
  · exact .inl rfl
  · exact .inr ⟨gd, h2.less (by simp), h3, h1⟩
section
variable {P : Program} {w : World} {K : PySem.W.Frag} {mg : Str → Option Value} {base : Heap} {f c : Addr} {fd : FuncData} {T : List Addr}
theorem ok_law (F : FunT K "law" "law" s_law f fd c) (B : Bl mg) (Fw : Fnn P w K mg base CX0 1 "_law_well" ["script"] (sp_well K T)) (Fd : Fnn P w K mg base CX0 1 "_law_draw" ["well", "many"] (sp_draw T)) (Fk : Fnn P w K mg base CX0 3 "_law_kinds" ["well", "most"] (sp_kindsL T))
    (Fp : Fnn P w K mg base CX0 3 "_law_pool" ["well", "family", "count", "most"] (sp_pool T)) (Fb : Fnn P w K mg base CX0 15 "_law_bent" ["well", "value"] (sp_bent T 12)) (Fi : Fnn P w K mg base CX0 2 "_law_integer" ["well"] (sp_integer T)) (Ft : Fnn P w K mg base CX0 14 "_law_titles_right" ["well", "family", "value"] (sp_titles T))
    (Fc : Fnn P w K mg base CX0 3 "_law_chain" ["well", "size", "spare", "linked"] (sp_chain T)) (Fv : Fng P w K mg base 16 "_law_value_right" ["family", "title", "value", "good"] (sp_value T)) : FnG P w K mg base 17 f fd ["script"] (sp_law K T) := by
  have nd := sc_law.nd
  refine F.okG sc_law (fun vs H Q h => ?_) (fun A outer s H vs Q hG hr h => ?_)
  · obtain ⟨_, _, rfl, _⟩ := h
    rfl
  obtain ⟨b, ns, rfl, hb, hl, ht, hLm, q⟩ := h
  have nn : ∀ b : Addr, b ∉ ([] : List Addr) := fun b => List.not_mem_nil
  have hu : (A.deeper (envOfC "law" (defScope s_law) s.heap.objs.size f (.ref c))).units + 1 < cLine := by
    have := hr.un
    omega
  have hu0 : (A.deeper (envOfC "law" (defScope s_law) s.heap.objs.size f (.ref c))).units < cLine := by omega
  refine ⟨_, PSs.nox (pss_cons (ps_set (i := 1) nd rfl (.inl rfl) (pe_fn Fw hr (by decide) pass0 (pa_cons (pv 0) pa_nil)))
    (pss_cons (ps_for PassesOwn.never rfl (pi_range1 rfl B.range (pa_cons pe_int pa_nil)) (pg_name (i := 2) nd rfl (Or.inl rfl)) (pss_cons (ps_set (i := 3) nd rfl (.inr rfl) (pe_fn Fk hr (by decide) pass0 (pa_cons (pv 1) (pa_cons (pe_ix ix_list (pe_lst (pa_cons pe_int (pa_cons pe_int pa_nil))) (pv 2) (fun _ _ => rfl)) pa_nil))))
    (pss_cons (ps_set (i := 4) nd rfl (.inl rfl) (pe_fn Fp hr (by decide) pass0 (pa_cons (pv 1) (pa_cons (pv 3) (pa_cons pe_int (pa_cons pe_int pa_nil))))))
    (pss_cons (ps_set (i := 5) nd rfl (.inl rfl) (pe_lst pa_nil))
    (pss_cons (ps_for PassesOwn.never rfl (pi_tup (pv 3)) (pg_tup rfl (pgs_cons (pg_name (i := 6) nd rfl (Or.inr rfl)) (pgs_cons (pg_name (i := 7) nd rfl (Or.inl rfl)) pgs_nil))) (pss_one (ps_set (i := 5) nd rfl (.inl rfl) (pe_op op_cat (pv 5) (pe_slice sl_list (pe_dget hu (pv 4) (pv 6) (fun _ _ => rfl)) (po_some (pe_un un_neg pe_int)) po_none)))))
    (pss_cons (ps_set (i := 5) nd rfl (.inl rfl) (pe_op op_cat (pv 5) (pe_lst (pa_cons (pe_tup pa_nil) pa_nil))))
    (pss_cons (ps_for PassesOwn.never rfl (pi_tup (pv 3)) (pg_tup rfl (pgs_cons (pg_name (i := 6) nd rfl (Or.inr rfl)) (pgs_cons (pg_name (i := 7) nd rfl (Or.inl rfl)) pgs_nil))) (pss_cons (ps_set (i := 8) nd rfl (.inr rfl) pe_non)
    (C8.pss_cut (ps_if (pt_cmpR (op_neNil hu0) (pe_dget hu (pv 4) (pv 6) (fun _ _ => rfl)) (pe_lst pa_nil) (nomark _)) (pss_one (ps_set (i := 8) nd rfl (.inr rfl) (pe_ix ix_list (pe_dget hu (pv 4) (pv 6) (fun _ _ => rfl)) (pe_fn Fd hr (by decide) pass0 (pa_cons (pv 1) (pa_cons (pe_lenq B (pe_dget hu (pv 4) (pv 6) (fun _ _ => rfl))) pa_nil))) (fun _ _ => rfl)))) pss_nil)
    (pss_cons (ps_set (i := 9) nd rfl (.inl rfl) (pe_ix ix_list (pv 5) (pe_fn Fd hr (by decide) pass0 (pa_cons (pv 1) (pa_cons (pe_lenq B (pv 5)) pa_nil))) (fun _ _ => rfl)))
    (pss_cons (ps_set (i := 10) nd rfl (.inl rfl) (pe_lst (pa_cons (pv 9) (pa_cons (pv 8) (pa_cons (pe_toList B (pv 9)) (pa_cons (pe_op op_catA (pv 9) (pe_slice sl_tupA (pv 9) po_none (po_some pe_int))) (pa_cons (pe_op op_catA (pv 9) (pe_ix ix_list (pv 5) pe_int (fun _ _ => rfl))) (pa_cons (pe_slice sl_tupA (pv 9) (po_some pe_int) po_none) (pa_cons (pe_slice sl_tupA (pv 9) po_none (po_some (pe_un un_neg pe_int))) (pa_cons (pe_tup pa_nil) (pa_cons pe_non (pa_cons (pe_op op_times (pv 9) pe_int) pa_nil))))))))))))
    (pss_cons (ps_for PassesOwn.never rfl (pi_range1 rfl B.range (pa_cons pe_int pa_nil)) (pg_name (i := 11) nd rfl (Or.inl rfl)) (pss_cons (ps_set (i := 12) nd rfl (.inl rfl) (pe_ix ix_list (pe_lst (pa_cons (pv 9) (pa_cons (pv 8) (pa_cons (pv 9) pa_nil)))) (pe_fn Fd hr (by decide) pass0 (pa_cons (pv 1) (pa_cons pe_int pa_nil))) (fun _ _ => rfl)))
    (pss_cons (ps_set (i := 13) nd rfl (.inl rfl) (pe_fn Fb hr (by decide) pass0 (pa_cons (pv 1) (pa_cons (pe_ix ix_list (pe_lst (pa_cons (pv 12) (pa_cons (pv 9) pa_nil))) (pe_toInt B (pe_cmpR op_isN1 (pv 12) pe_non (nomark _))) (fun _ _ => rfl)) pa_nil))))
    (pss_one (ps_set (i := 10) nd rfl (.inl rfl) (pe_op op_cat (pv 10) (pe_lst (pa_cons (pv 13) (pa_cons (pe_fn Fb hr (by decide) pass0 (pa_cons (pv 1) (pa_cons (pv 13) pa_nil))) pa_nil)))))))))
    (pss_cons (ps_set (i := 10) nd rfl (.inl rfl) (pe_op op_cat (pv 10) (pe_lst (pa_cons (pe_tup (pa_cons pe_int pa_nil)) (pa_cons (pe_tup (pa_cons (pe_fn Fi hr (by decide) pass0 (pa_cons (pv 1) pa_nil)) pa_nil)) (pa_cons (pe_tup (pa_cons pe_str pa_nil)) (pa_cons (pe_tup (pa_cons (pv 6) pa_nil)) (pa_cons (pv 6) pa_nil))))))))
    (pss_one (ps_if (pt_not (pt_val (pe_allL rfl B (pe_lc (own := [("value", 16)]) (g := gName 16) (tt := tYes) (te := tCall (sp_value T) [] E0 (tCons (tVar 3) (tCons (tVar 6) (tCons (tVar 16) (tCons (tVar 8) tNil))))) rfl nd (pi_list (pv 10)) (blkOk_by (own := [("value", 16)]) (N := NLw) (sc := defScope s_law) (by decide +kernel)) (fun _ _ _ _ _ => pg_name (i := 16) nd rfl (.inl rfl)) (fun _ _ _ _ _ => pts_nil) (fun _ _ _ _ _ => (pe_fnG Fv hG hr (by decide) (pa_cons (pv 3) (pa_cons (pv 6) (pa_cons (pv 16) (pa_cons (pv 8) pa_nil)))))))))) (pss_one (ps_ret pe_bl)) pss_nil)))))))))
    (pss_one (ps_if (pt_not (pt_val (pe_fn Ft hr (by decide) pass0 (pa_cons (pv 1) (pa_cons (pv 3) (pa_cons (pe_ix ix_list (pv 5) (pe_fn Fd hr (by decide) pass0 (pa_cons (pv 1) (pa_cons (pe_lenq B (pv 5)) pa_nil))) (fun _ _ => rfl)) pa_nil)))))) (pss_one (ps_ret pe_bl)) pss_nil)))))))))
    (pss_cons (ps_asg (pe_fn Fc hr (by decide) pass0 (pa_cons (pv 1) (pa_cons pe_int (pa_cons pe_int (pa_cons pe_bl pa_nil))))) (pg_tup rfl (pgs_cons (pg_name (i := 3) nd rfl (Or.inr rfl)) (pgs_cons (pg_name (i := 14) nd rfl (Or.inl rfl)) pgs_nil))))
    (pss_cons (ps_set (i := 15) nd rfl (.inr rfl) (pe_op op_catA (pe_tup (pa_cons (pe_ix ix_tup (pe_ix ix_tup (pe_ix ix_tup (pe_ix ix_tup (pv 3) pe_int (fun _ _ => rfl)) pe_int (fun _ _ => rfl)) pe_int (fun _ _ => rfl)) pe_int (fun _ _ => rfl)) pa_nil)) (pe_op op_times0 (pe_tup (pa_cons pe_int pa_nil)) (pe_lenq B (pe_ix ix_tup (pe_ix ix_tup (pe_ix ix_tup (pe_ix ix_tup (pv 3) pe_int (fun _ _ => rfl)) pe_int (fun _ _ => rfl)) pe_int (fun _ _ => rfl)) pe_int (fun _ _ => rfl))))))
    (pss_cons (ps_set (i := 10) nd rfl (.inl rfl) (pe_lst (pa_cons (pv 14) (pa_cons (pe_op op_catA (pv 14) (pe_tup (pa_cons pe_int pa_nil))) (pa_cons (pe_slice sl_tupA (pv 14) (po_some pe_int) po_none) (pa_cons (pe_slice sl_tupA (pv 14) po_none (po_some pe_int)) (pa_cons (pe_slice sl_tupA (pv 14) po_none (po_some pe_int)) (pa_cons (pe_toList B (pv 14)) (pa_cons (pv 15) pa_nil)))))))))
    (pss_one (ps_ret (pe_allL rfl B (pe_lc (own := [("value", 16)]) (g := gName 16) (tt := tYes) (te := tCall (sp_value T) [] E0 (tCons (tVar 3) (tCons (tOp (rIxT K) (tOp (rIxT K) (tVar 3) (tC (.int 0))) (tC (.int 0))) (tCons (tVar 16) (tCons (tVar 15) tNil))))) rfl nd (pi_list (pv 10)) (blkOk_by (own := [("value", 16)]) (N := NLw) (sc := defScope s_law) (by decide +kernel)) (fun _ _ _ _ _ => pg_name (i := 16) nd rfl (.inl rfl)) (fun _ _ _ _ _ => pts_nil) (fun _ _ _ _ _ => (pe_fnG Fv hG hr (by decide) (pa_cons (pv 3) (pa_cons (pe_ix ix_tup (pe_ix ix_tup (pv 3) pe_int (fun _ _ => rfl)) pe_int (fun _ _ => rfl)) (pa_cons (pv 16) (pa_cons (pv 15) pa_nil))))))))))))))), ?_⟩
  have up : ∀ {a l p : Addr} {H' : Hp} {k' : Int}, WellAt a l H' k' → H' p = none → p ∉ [a, l] := fun w h => nin (w.ne h)
  have eline := sizeLine_eq
  refine ⟨_, rfl, b, ns, rfl, hb, by omega, ht, fun a l H1 ha hl' W1 g1 t1 => ?_⟩
  have L1 := g1.lm hLm
  refine ⟨2, rfl, by decide, by decide, ?_⟩
  refine for_it (walk_range (lo := 0) (n := (2 : Int).toNat)) (fun i σ H' => ∃ p2 p3 p4 p5 p6 p7 p8 p9 p10 p11 p12 p13 : Option V, σ = [some (.ref b), some (.ref a), p2, p3, p4, p5, p6, p7, p8, p9, p10, p11, p12, p13, none, none, none] ∧ WellAt a l H' (60000 * ((i : Nat) : Int)) ∧ Tabs T H' ∧ Lams T H')
    ⟨_, _, _, _, _, _, _, _, _, _, _, _, rfl, W1.up (by omega), t1, L1⟩ (fun _ _ _ _ _ => trivial) (fun i x σ H2a H2 hi h y => ?_) (fun σ H2 h => ?_)
  · obtain ⟨p2, p3, p4, p5, p6, p7, p8, p9, p10, p11, p12, p13, rfl, W2, t2, L2⟩ := h
    obtain ⟨rfl, rfl⟩ := y
    have hi : i < 2 := hi
    obtain ⟨m, em, hm⟩ := at2i hi 2 6
    refine ⟨_, rfl, by show 2 ≤ sizeLine; decide, fun q1 hq1 => ?_⟩
    have v1 := Go.new (T := T) (M := []) (o := .lst [V.int 2, .int 6]) hq1
    refine ⟨_, rfl, q1, _, _, _, rfl, rfl, SqL.of upd_same, em, a, l, _, m, rfl, by omega, by omega, by omega, W2.go v1, v1.tb t2, fun v3 dd3 H3 dv3 ok3 kB3 W3 g3 t3 => ?_⟩
    have L3 := g3.lm (v1.lm L2)
    obtain ⟨xk, rk, rfl, hw3, _⟩ := id ok3
    generalize xk :: rk = ks at *
    refine ⟨_, rfl, _, rfl, a, l, _, 12, 60, v3, ks, rfl, by decide, by decide, by decide, by omega, W3, dv3, kB3, t3, fun sd ps G H5 hsd0 hP W5 g5 t5 => ?_⟩
    have L5 := g5.lm L3
    obtain ⟨_, hkb, hk6⟩ := kinds_names kB3
    have dv5 := dv3.go g5
    refine ⟨by show 0 ≤ sizeLine; omega, fun e0 he0 => ?_⟩
    have u0 := Go.new (T := T) (M := []) (o := .lst []) he0
    have P6 := hP.go0 u0
    have W6 := (W5.go u0).up (j := 60000 * ((i : Nat) : Int) + 20000) (by omega)
    have t6 := u0.tb t5
    have L6 := u0.lm L5
    have dv6 := dv5.go u0.of0
    have ee6 := upd_same (H := H5) (a := e0) (o := .lst [])
    have ne0 := up W5 he0
    generalize upd H5 e0 (.lst []) = H6 at *
    obtain ⟨fa, xs, rfl, efa6, nfa, dx6⟩ := dv_tup dv6
    have lx := dx6.length
    refine ⟨_, rfl, fa, rfl, ⟨_, SqT.of efa6⟩, ?_⟩
    -- a title of the kinds, at any later heap
    have title : ∀ {H' : Hp} {j : Nat} {x : V}, Go T [a, l] H6 H' → xs[j]? = some x → ∃ (tt : Str) (kp : Addr) (vy : V) (pl : Addr), x = .ref kp ∧ H' kp = some (.tup [.str tt, vy]) ∧ tt ∈ ks.map titleOf ∧ nmOk tt ∧ H' pl = some (.lst (treesV (G tt))) ∧ pl ∉ [a, l] ∧ DGet H' sd (.str tt) (some (.ref pl)) ∧ PoolAt [a, l] H' sd ks ps G 256 := fun {H' j x} g ex => by
      obtain ⟨kk, ekk, hkk⟩ := (dx6.go g).get ex
      obtain ⟨tt, ms, rfl, _, _, _⟩ := kind_parts (hkb kk (List.mem_of_getElem? ekk))
      have htt : tt ∈ ks.map titleOf := List.mem_map.mpr ⟨_, List.mem_of_getElem? ekk, rfl⟩
      obtain ⟨kp, vx, vy, rfl, ekp, _, hvx, _⟩ := dv_pair hkk
      cases hvx
      have P7 := P6.go g (wlists W6)
      have hpf : tt ∈ ps.map Prod.fst := by rw [P7.f]; exact htt
      obtain ⟨pl, hpl1, hpl2⟩ := dictP_some hpf
      have dg := DGet.k (k := (Sum.inr tt : Key)) P7.d
      rw [hpl2] at dg
      have hnm : nmOk tt := by
        have hxk := hkb _ (List.mem_of_getElem? ekk)
        simp only [kindB, Bool.and_eq_true] at hxk
        exact hxk.1.1.2
      exact ⟨tt, kp, vy, pl, rfl, ekp, htt, hnm, (P7.l _ hpl1).1, (P7.l _ hpl1).2, dg, P7⟩
    have trees : ∀ {H' : Hp} {k' : Int} (tt : Str), PoolAt [a, l] H' sd ks ps G 256 → WellAt a l H' k' → DvAll [a, l] H' (treesV (G tt)) ((G tt).map fun e => .tuple (e.2.map kD)) ∧ (∀ d ∈ (G tt).map (fun e => PyData.tuple (e.2.map kD)), phr 120 d) ∧ (G tt).length ≤ 256 := fun {H' k'} tt P W => by
      obtain ⟨gdt, lG⟩ := P.g tt
      refine ⟨treesDv W fun e me => P.t tt e me, fun d md => ?_, lG⟩
      obtain ⟨e, me, rfl⟩ := List.mem_map.mp md
      obtain ⟨h1, h2, h3, _⟩ := gdt e me
      exact ⟨_, rfl, by rw [List.length_map]; exact h2, word_wG (run_good kB3 h1) h3⟩
    refine for_it (n := xs.length) walk_tup (fun j σ H' => ∃ (p6 p7 : Option V) (tp : Addr) (tvs : List V) (tds : List PyData), σ = [some (.ref b), some (.ref a), some (.int (0 + (i : Int))), some (.ref fa), some (.ref sd), some (.ref tp), p6, p7, p8, p9, p10, p11, p12, p13, none, none, none] ∧ Go T [a, l] H6 H' ∧ WellAt a l H' (60000 * ((i : Nat) : Int) + 20000) ∧ H' tp = some (.lst tvs) ∧ tp ∉ [a, l] ∧ DvAll [a, l] H' tvs tds ∧ (∀ d ∈ tds, phr 120 d) ∧ tvs.length ≤ 256 * j)
      ⟨_, _, e0, [], [], rfl, Go.refl, W6, ee6, ne0, .nil, (fun d m => by cases m), Nat.zero_le _⟩ (fun j σ H' _ ⟨_, _, _, _, _, _, g, _⟩ => SqT.of (g.tup efa6 nfa)) (fun j x σ H7 H8 hj h y => ?_) (fun σ H7 h => ?_)
    · obtain ⟨p6, p7, tp, tvs, tds, rfl, G7, W7, eT, nT, dT, hT, lT⟩ := h
      obtain ⟨rfl, ex⟩ := y
      obtain ⟨tt, kp, vy, pl, rfl, ekp, htt, hnm, epl, npl, dg, P7⟩ := title G7 ex
      obtain ⟨dtr, gtr, lG⟩ := trees tt P7 W7
      refine ⟨kp, _, rfl, SqT.of ekp, rfl, _, _, rfl, _, _, rfl, rfl, ?_⟩
      refine ⟨_, rfl, _, rfl, _, rfl, sd, .ref pl, rfl, dg, ?_⟩
      refine ⟨_, rfl, _, rfl, pl, _, rfl, SqL.of epl, fun s1 hs1 => ?_⟩
      have n1 := Go.new (T := T) (M := []) (o := .lst (cutV (treesV (G tt)) (some (-1 * 6)) none)) hs1
      have lc1 := cutV_len (treesV (G tt)) (some (-6)) none
      have lT2 : (treesV (G tt)).length = (G tt).length := List.length_map _
      refine ⟨tp, s1, _, _, rfl, rfl, (Go.new (T := T) (M := []) hs1).lst eT (nn _), upd_same, by rw [eline]; omega, fun r hr => ?_⟩
      have n2 := Go.new (T := T) (M := []) (o := .lst (tvs ++ cutV (treesV (G tt)) (some (-6)) none)) hr
      have n12 := (Go.new (T := T) (M := []) (o := .lst (cutV (treesV (G tt)) (some (-6)) none)) hs1).trans n2
      refine ⟨_, _, r, _, _, rfl, G7.trans n12.of0, W7.go n12, upd_same, up (W7.go (Go.new (T := T) (M := []) hs1)) hr, (dT.append (dtr.cutD _ _)).go n12.of0, fun d md => ?_, by rw [List.length_append]; omega⟩
      rcases List.mem_append.mp md with md | md
      · exact hT d md
      · exact gtr d (SL.cutD_mem md)
    obtain ⟨p6, p7, tp, tvs, tds, rfl, G7, W7, eT, nT, dT, hT, lT⟩ := h
    -- and the empty one
    have t7 := G7.tb t6
    have L7 := G7.lm L6
    refine ⟨_, rfl, by show 0 ≤ sizeLine; omega, fun e1 he1 => ⟨by show 1 ≤ sizeLine; omega, fun e2 he2 => ?_⟩⟩
    have n1 := Go.new (T := T) (M := []) (o := .tup []) he1
    have n2 := Go.new (T := T) (M := []) (o := .lst [V.ref e1]) he2
    have n12 := n1.trans n2
    refine ⟨tp, e2, _, _, rfl, rfl, n12.lst eT (nn _), upd_same, by rw [eline]; show tvs.length + 1 ≤ _; omega, fun tq htq => ?_⟩
    have n3 := Go.new (T := T) (M := []) (o := .lst (tvs ++ [V.ref e1])) htq
    have n13 := n12.trans n3
    have G8 := G7.trans (n13.of0 (M := [a, l]))
    have W8 := W7.go n13
    have t8 := n13.tb t7
    have L8 := n13.lm L7
    have eT8 := upd_same (H := upd (upd H7 e1 (.tup [])) e2 (.lst [V.ref e1])) (a := tq) (o := .lst (tvs ++ [V.ref e1]))
    have nT8 := up (W7.go n12) htq
    have dT8 : DvAll [a, l] (upd (upd (upd H7 e1 (.tup [])) e2 (.lst [V.ref e1])) tq (.lst (tvs ++ [V.ref e1]))) (tvs ++ [V.ref e1]) (tds ++ [.tuple []]) := (dT.go n13.of0).append (.cons (.tup ((n2.trans n3).tup upd_same (nn _)) (up W7 he1) .nil) .nil)
    have hT8 : ∀ d ∈ tds ++ [.tuple []], phr 120 d := fun d md => by
      rcases List.mem_append.mp md with md | md
      · exact hT d md
      · rw [List.mem_singleton.mp md]
        exact phr_up phr_nil (by decide)
    have lT8 : 1 ≤ (tvs ++ [V.ref e1]).length ∧ (tvs ++ [V.ref e1]).length ≤ 2000 := by
      rw [List.length_append]
      show 1 ≤ tvs.length + 1 ∧ tvs.length + 1 ≤ 2000
      omega
    generalize upd (upd (upd H7 e1 (.tup [])) e2 (.lst [V.ref e1])) tq (.lst (tvs ++ [V.ref e1])) = H8 at *
    generalize tvs ++ [V.ref e1] = tvs8 at *
    generalize tds ++ [PyData.tuple []] = tds8 at *
    clear n1 n2 n12 n3 n13 eT nT dT hT lT
    have efa8 := G8.tup efa6 nfa
    refine ⟨_, rfl, fa, rfl, ⟨_, SqT.of efa8⟩, ?_⟩
    refine for_it (n := xs.length) walk_tup (fun j σ H' => ∃ p6 p7 p8 p9 p10 p11 p12 p13 : Option V, σ = [some (.ref b), some (.ref a), some (.int (0 + (i : Int))), some (.ref fa), some (.ref sd), some (.ref tq), p6, p7, p8, p9, p10, p11, p12, p13, none, none, none] ∧ Go T [a, l] H8 H' ∧ WellAt a l H' (60000 * ((i : Nat) : Int) + 20000 + 4000 * ((j : Nat) : Int)))
      ⟨_, _, _, _, _, _, _, _, rfl, Go.refl, W8.up (by omega)⟩ (fun j σ H' _ ⟨_, _, _, _, _, _, _, _, _, g, _⟩ => SqT.of (g.tup efa8 nfa)) (fun j x σ H9 H10 hj h y => ?_) (fun σ H9 h => ?_)
    · obtain ⟨p6, p7, p8, p9, p10, p11, p12, p13, rfl, G9, W9⟩ := h
      obtain ⟨rfl, ex⟩ := y
      obtain ⟨tt, kp, vy, pl, rfl, ekp, htt, hnm, epl, npl, dg, P9⟩ := title (G8.trans G9) ex
      refine ⟨kp, _, rfl, SqT.of ekp, rfl, _, _, rfl, _, _, rfl, rfl, ?_⟩
      refine ⟨fun σ H' => ∃ (gv : V) (gd : PyData), σ = [some (.ref b), some (.ref a), some (.int (0 + (i : Int))), some (.ref fa), some (.ref sd), some (.ref tq), some (.str tt), some vy, some gv, p9, p10, p11, p12, p13, none, none, none] ∧ Go T [a, l] H8 H' ∧ WellAt a l H' (60000 * ((i : Nat) : Int) + 20000 + 4000 * ((j : Nat) : Int) + 1) ∧ GoodAt ks tt [a, l] H' gv gd, ?_, fun σ H11 hmid => ?_⟩
      · refine ⟨_, rfl, _, rfl, sd, .ref pl, rfl, dg, Nat.zero_le _, fun e2 he2 => ?_⟩
        have n1 := Go.new (T := T) (M := []) (o := .lst []) he2
        refine ⟨pl, e2, _, rfl, rfl, .inl ⟨SqL.of (n1.lst epl (nn _)), SqL.of upd_same⟩, _, rfl, ?_⟩
        have G11 := (G8.trans G9).trans (n1.of0 (M := [a, l]))
        obtain ⟨tt', kp', vy', pl', e', ekp', _, _, epl', npl', dg', P11⟩ := title G11 ex
        cases e'
        rw [n1.tup ekp (nn _)] at ekp'
        cases ekp'
        have W11 := W9.go n1
        by_cases hG0 : G tt = []
        · refine if_false_of (by rw [hG0]; rfl) ?_
          exact ⟨.non, .none, rfl, G9.trans n1.of0, W11.up (by omega), .inl ⟨rfl, rfl⟩⟩
        · have lT : (treesV (G tt)).length = (G tt).length := List.length_map _
          have lp : 1 ≤ (G tt).length := by
            cases hG : G tt with
            | nil => exact absurd hG hG0
            | cons _ _ => simp
          refine if_true_of (by cases hG : G tt with
            | nil => exact absurd hG hG0
            | cons _ _ => rfl) ?_
          have lG := (trees tt P11 W11).2.2
          refine ⟨_, rfl, _, rfl, sd, .ref pl', rfl, dg', _, rfl, _, rfl, _, rfl, sd, .ref pl', rfl, dg', pl', _, rfl, .inl (SqL.of epl'), a, l, _, _, rfl, by rw [lT]; omega, by rw [lT]; omega, by omega, W11, n1.tb (G9.tb t8), fun i1 H12 i10 i11 W12 g12 t12 => ?_⟩
          obtain ⟨tt2, kp2, vy2, pl2, e2', ekp2, _, _, epl2, npl2, dg2, P12⟩ := title (G11.trans g12) ex
          have epl12 := g12.lst epl' npl'
          obtain ⟨dtr, gtr, _⟩ := trees tt P12 W12
          obtain ⟨gv, gd, eg, mg, hg⟩ := at_dv dtr i10 i11
          obtain ⟨e, me, egd⟩ := List.mem_map.mp mg
          obtain ⟨gdt, _⟩ := P12.g tt
          obtain ⟨h1, h2, h3, _⟩ := gdt e me
          refine ⟨pl', _, i1, gv, rfl, rfl, SqL.of epl12, eg, ?_⟩
          refine ⟨gv, gd, rfl, (G9.trans n1.of0).trans g12, W12.up (by omega), .inr ⟨fun z => ?_, hg, by rw [← egd]; exact treeB_of h1 (by omega), gtr gd mg⟩⟩
          rw [z, ← egd] at hg
          cases hg
      obtain ⟨gv, gd, rfl, G11, W11, hgood⟩ := hmid
      have t11 := (G11.tb t8)
      have eT11 := G11.lst eT8 nT8
      refine ⟨_, rfl, _, rfl, _, rfl, tq, _, rfl, .inl (SqL.of eT11), a, l, _, _, rfl, by omega, by omega, by omega, W11, t11, fun i2 H12 i20 i21 W12 g12 t12 => ?_⟩
      have G12 := G11.trans g12
      have eT12 := G12.lst eT8 nT8
      obtain ⟨tv, td, etv, mtd, htv⟩ := at_dv (dT8.go G12) i20 i21
      have ptd := hT8 td mtd
      refine ⟨tq, _, i2, tv, rfl, rfl, SqL.of eT12, etv, ?_⟩
      obtain ⟨ds, rfl, lds, _⟩ := id ptd
      have hgood12 := hgood.go g12
      -- ten values
      have w2 : Wk T a l _ H12 H12 [tv, gv] [.tuple ds, gd] := ⟨Go.refl, t12, W12, .cons htv (.cons hgood12.dv .nil)⟩
      obtain ⟨pt, txs, rfl, ept, npt, dtx⟩ := dv_tup htv
      refine ⟨_, rfl, _, rfl, _, rfl, pt, txs, rfl, .inr (SqT.of ept), fun l1 hl1 => ?_⟩
      have w3 := w2.lst hl1 dtx
      have hd3 : Dv [a, l] (upd H12 l1 (.lst txs)) (V.ref pt) (.tuple ds) := by cases w3.dv with | cons h _ => exact h
      refine ⟨_, rfl, _, rfl, _, rfl, ?_⟩
      try unfold tNoPart
      refine sl_dv (T := T) hd3 w3.fresh fun u4a K4a g4a d4a => ?_
      have w4a := (w3.step g4a)
      refine cat_dv (T := T) (hd3.go g4a.of0) d4a (by have := SL.cutD_len ds none (some 1); omega) w4a.fresh fun u4 K4 g4 d4 => ?_
      have w4 := (w4a.step g4).put d4
      have hd4 := (hd3.go g4a.of0).go g4.of0
      have eT4 : K4 tq = some (.lst tvs8) := (G12.trans w4.go).lst eT8 nT8
      obtain ⟨z0, zd, ez0, mz0, hz0⟩ := at_dv (dT8.go (G12.trans w4.go)) (show (0 : Int) ≤ 0 by decide) (by omega)
      have pz := hT8 zd mz0
      obtain ⟨zs, rfl, lzs, _⟩ := id pz
      refine ⟨_, rfl, _, rfl, tq, _, 0, z0, rfl, rfl, SqL.of eT4, ez0, ?_⟩
      refine cat_dv (T := T) hd4 hz0 (by omega) w4.fresh fun u5 K5 g5' d5 => ?_
      have w5 := (w4.step g5').put d5
      have hd5 := hd4.go g5'.of0
      refine ⟨_, rfl, _, rfl, ?_⟩
      try unfold tNoPart
      refine sl_dv (T := T) hd5 w5.fresh fun u6 K6 g6 d6 => ?_
      have w6 := (w5.step g6).put d6
      have hd6 := hd5.go g6.of0
      refine ⟨_, rfl, _, rfl, _, rfl, ?_⟩
      try unfold tNoPart
      refine sl_dv (T := T) hd6 w6.fresh fun u7 K7 g7 d7 => ?_
      have w7 := (w6.step g7).put d7
      have hd7 := hd6.go g7.of0
      refine ⟨by show 0 ≤ sizeLine; omega, fun e8 he8 => ?_⟩
      have w8 := (w7.tup he8 (xs := []) (es := []) .nil).put (v := .non) (d := .none) .non
      have hd8 := hd7.go (Go.new (T := T) (M := []) (o := .tup []) he8).of0
      refine ⟨_, rfl, ?_⟩
      try unfold tC
      refine twice_dv (T := T) hd8 (by omega) w8.fresh fun u10 K10 g10 d10 => ?_
      have w10 := (w8.step g10).put d10
      refine ⟨by show 10 ≤ sizeLine; decide, fun vp hvp => ?_⟩
      have n11 := Go.new (T := T) (M := []) (o := .lst [V.ref pt, gv, .ref l1, u4, u5, u6, u7, .ref e8, .non, u10]) hvp
      have w11 := w10.step n11
      have nvp := w10.fresh vp hvp
      have goods : ∀ d ∈ [PyData.tuple ds, gd, .list ds, .tuple (ds ++ SL.cutD ds none (some 1)), .tuple (ds ++ zs), .tuple (SL.cutD ds (some 1) none), .tuple (SL.cutD ds none (some (-1))), .tuple [], .none, .tuple (List.replicate (2 : Int).toNat ds).flatten], good d := fun d hd => by
        simp only [List.mem_cons, List.not_mem_nil, or_false] at hd
        rcases hd with rfl | rfl | rfl | rfl | rfl | rfl | rfl | rfl | rfl | rfl
        · exact phr_good ptd (by decide)
        · exact hgood.good
        · exact phr_goodL ptd (by decide)
        · exact phr_good (phr_cat ptd (phr_cut ptd)) (by decide)
        · exact phr_good (phr_cat ptd pz) (by decide)
        · exact phr_good (phr_cut ptd) (by decide)
        · exact phr_good (phr_cut ptd) (by decide)
        · exact small_good (.inl rfl)
        · exact small_good (.inr (.inl rfl))
        · exact phr_good (phr_twice ptd) (by decide)
      have vI : VInv T a l 10 (60000 * ((i : Nat) : Int) + 20000 + 4000 * ((j : Nat) : Int) + 2) (.ref vp) (upd K10 vp (.lst [V.ref pt, gv, .ref l1, u4, u5, u6, u7, .ref e8, .non, u10])) := ⟨vp, _, _, rfl, upd_same, nvp, w11.dv, goods, by show 10 ≤ 10; decide, w11.cup.up (by omega), w11.tb⟩
      have GV := G12.trans w11.go
      have htvV := htv.go w11.go
      have hgV := hgood12.go w11.go
      generalize upd K10 vp (.lst [V.ref pt, gv, .ref l1, u4, u5, u6, u7, .ref e8, .non, u10]) = HV at *
      clear w2 w3 w4a w4 w5 w6 w7 w8 w10 w11 hd3 hd4 hd5 hd6 hd7 hd8 d4a d4 d5 d6 d7 d10 g4a g4 g5' g6 g7 g10 n11 goods hvp hl1 he8 eT4 hz0
      refine ⟨6, rfl, by decide, by decide, ?_⟩
      refine for_it (walk_range (lo := 0) (n := (6 : Int).toNat)) (fun jj σ H' => ∃ (z : V) (p11 p12 p13 : Option V), σ = [some (.ref b), some (.ref a), some (.int (0 + (i : Int))), some (.ref fa), some (.ref sd), some (.ref tq), some (.str tt), some vy, some gv, some (.ref pt), some z, p11, p12, p13, none, none, none] ∧ VInv T a l (10 + 2 * jj) (60000 * ((i : Nat) : Int) + 20000 + 4000 * ((j : Nat) : Int) + 2 + 300 * ((jj : Nat) : Int)) z H' ∧ Go T [a, l] HV H')
        ⟨_, _, _, _, rfl, vI.up (by omega) (by omega), Go.refl⟩ (fun _ _ _ _ _ => trivial) (fun jj x σ H13a H13 hjj h y => ?_) (fun σ H13 h => ?_)
      · obtain ⟨z, p11, p12, p13, rfl, vJ, gJ⟩ := h
        obtain ⟨rfl, rfl⟩ := y
        have hjj : jj < 6 := hjj
        obtain ⟨_, _, _, _, _, _, _, _, _, WJ, tJ⟩ := id vJ
        have htJ := htvV.go gJ
        have hgJ := hgV.go gJ
        refine ⟨_, rfl, _, rfl, _, rfl, by show 3 ≤ sizeLine; decide, fun o1 ho1 => ?_⟩
        have n1 := Go.new (T := T) (M := []) (o := .lst [V.ref pt, gv, .ref pt]) ho1
        have no1 := up WJ ho1
        refine ⟨_, rfl, a, l, _, 3, rfl, by decide, by decide, by omega, WJ.go n1, n1.tb tJ, fun i3 H14 i30 i31 W14 g14 t14 => ?_⟩
        have dJ : DvAll [a, l] H14 [V.ref pt, gv, .ref pt] [.tuple ds, gd, .tuple ds] := ((DvAll.cons htJ (.cons hgJ.dv (.cons htJ .nil))).go n1.of0).go g14
        obtain ⟨bv, bd, eb, mb, hbv⟩ := at_dv dJ i30 i31
        refine ⟨o1, _, i3, bv, rfl, rfl, SqL.of (g14.lst upd_same no1), eb, ?_⟩
        refine ⟨_, rfl, _, rfl, _, rfl, by show 2 ≤ sizeLine; decide, fun o2 ho2 => ?_⟩
        have n2 := Go.new (T := T) (M := []) (o := .lst [bv, V.ref pt]) ho2
        have g14' : Go T [a, l] H13 (upd H14 o2 (.lst [bv, V.ref pt])) := (n1.of0.trans g14).trans n2.of0
        obtain ⟨cv, cd, ecv, hcv, pcd⟩ : ∃ cv cd, atI [bv, V.ref pt] (if decide (bv = .non) = true then 1 else 0) = some cv ∧ Dv [a, l] (upd H14 o2 (.lst [bv, V.ref pt])) cv cd ∧ phr 120 cd := by
          by_cases hbn : bv = .non
          · rw [if_pos (decide_eq_true hbn)]
            exact ⟨_, _, atI_nat (j := 1) rfl, htJ.go g14', ptd⟩
          · rw [if_neg (by simp [hbn])]
            refine ⟨bv, bd, atI_nat (j := 0) rfl, hbv.go n2.of0, ?_⟩
            simp only [List.mem_cons, List.not_mem_nil, or_false] at mb
            rcases mb with rfl | rfl | rfl
            · exact ptd
            · rcases hgood with ⟨_, rfl⟩ | ⟨_, _, _, h⟩
              · cases hbv
                exact absurd rfl hbn
              · exact h
            · exact ptd
        refine ⟨_, rfl, rfl, .inr ⟨_, rfl, ?_⟩⟩
        refine ⟨o2, _, _, cv, rfl, rfl, SqL.of upd_same, ecv, ?_⟩
        obtain ⟨c1, c2, c3⟩ := phr_bd pcd
        refine ⟨a, l, 60000 * ((i : Nat) : Int) + 20000 + 4000 * ((j : Nat) : Int) + 2 + 300 * ((jj : Nat) : Int) + 1, cv, cd, bigInt, rfl, by omega, W14.go n2, hcv, c1, by unfold bigInt; decide +kernel, by omega, by omega, n2.tb t14, fun v15 d15 H15 dv15 nr15 W15 g15 t15 => ?_⟩
        obtain ⟨e1, e2, e3, e4⟩ := near1 pcd (by decide) nr15
        refine ⟨_, rfl, _, rfl, _, rfl, _, rfl, a, l, 60000 * ((i : Nat) : Int) + 20000 + 4000 * ((j : Nat) : Int) + 2 + 300 * ((jj : Nat) : Int) + 131, v15, d15, bigInt * 1000000000 + 1000000000000000000000000000000, rfl, by omega, W15.up (by omega), dv15, e1, by unfold bigInt; decide +kernel, by omega, by omega, t15, fun v17 d17 H17 dv17 nr17 W17 g17 t17 => ?_⟩
        have e5 := near2 ⟨e2, e3⟩ nr17
        refine ⟨by show 2 ≤ sizeLine; decide, fun o3 ho3 => ?_⟩
        have n3 := Go.new (T := T) (M := []) (o := .lst [v15, v17]) ho3
        have gA : Go T [a, l] H13 (upd H17 o3 (.lst [v15, v17])) := ((g14'.trans g15).trans g17).trans n3.of0
        refine VInv.cat (m := 10 + 2 * jj) (j := 2) (k := 60000 * ((i : Nat) : Int) + 20000 + 4000 * ((j : Nat) : Int) + 2 + 300 * ((jj : Nat) : Int) + 261) (vJ.go gA ((W17.go n3).up (by omega))) upd_same (DvAll.cons ((dv15.go g17).go n3.of0) (.cons (dv17.go n3.of0) .nil)) (fun d hd => ?_) (by show 2 ≤ 2; decide) (by omega) fun r H' v g => ?_
        · simp only [List.mem_cons, List.not_mem_nil, or_false] at hd
          rcases hd with rfl | rfl
          · exact e4
          · exact e5
        · exact ⟨_, _, _, _, rfl, v.up (by omega) (by omega), (gJ.trans gA).trans g.of0⟩
      obtain ⟨z, p11, p12, p13, rfl, vJ, gJ⟩ := h
      obtain ⟨_, _, _, _, _, _, _, _, _, WJ, tJ⟩ := id vJ
      -- five more
      refine ⟨_, rfl, by show 1 ≤ sizeLine; omega, fun x1 hx1 => ?_⟩
      have n1 := Go.new (T := T) (M := []) (o := .tup [V.int 7]) hx1
      refine ⟨_, rfl, a, l, _, rfl, by omega, WJ.go n1, n1.tb tJ, fun iz H21 hiz W21 g21 t21 => ?_⟩
      have w1 : Wk T a l _ H13 _ [V.ref x1] [.tuple [.int 7]] := ⟨n1.of0, n1.tb tJ, WJ.go n1, .cons (.tup upd_same (up WJ hx1) (.cons (.int 7) .nil)) .nil⟩
      have w2 := w1.call W21 g21 t21
      refine ⟨by show 1 ≤ sizeLine; omega, fun x2 hx2 => ?_⟩
      have w3 := w2.tup hx2 (xs := [V.int iz]) (es := [.int iz]) (.cons (.int _) .nil)
      refine ⟨by show 1 ≤ sizeLine; omega, fun x3 hx3 => ?_⟩
      have w4 := w3.tup hx3 (xs := [V.str "number"]) (es := [.str "number"]) (.cons (.str _) .nil)
      refine ⟨_, rfl, by show 1 ≤ sizeLine; omega, fun x4 hx4 => ?_⟩
      have w5 := (w4.tup hx4 (xs := [V.str tt]) (es := [.str tt]) (.cons (.str _) .nil)).put (v := .str tt) (d := .str tt) (.str _)
      refine ⟨_, rfl, by show 5 ≤ sizeLine; omega, fun x5 hx5 => ?_⟩
      have n6 := Go.new (T := T) (M := []) (o := .lst [V.ref x1, .ref x2, .ref x3, .ref x4, .str tt]) hx5
      have w6 := w5.step n6
      have hasc := nmOk.old hnm
      refine VInv.cat (m := 10 + 2 * (6 : Int).toNat) (j := 5) (vJ.go w6.go w6.cup) upd_same w6.dv (fun d hd => ?_) (by show 5 ≤ 5; decide) (by decide) fun vr HW vW gW => ?_
      · simp only [List.nil_append, List.cons_append, List.mem_cons, List.not_mem_nil, or_false] at hd
        rcases hd with rfl | rfl | rfl | rfl | rfl
        · exact phr_good (phr_one (wG_int (by decide +kernel))) (by decide)
        · exact phr_good (phr_one (wG_int hiz)) (by decide)
        · exact phr_good (phr_one (wG_str (by decide +kernel))) (by decide)
        · exact phr_good (phr_one (wG_str ⟨hasc.1, hasc.2.2⟩)) (by decide)
        · exact wG_good (wG_str ⟨hasc.1, hasc.2.2⟩)
      have gW13 := w6.go.trans gW.of0
      obtain ⟨p, vs, vds, e, evs, nvs, dvs, gds, lvs, WW, tW⟩ := id vW
      cases e
      have GW := (GV.trans gJ).trans gW13
      have hgW := (hgV.go gJ).go gW13
      have dvW := ((dx6.go G8).go GW)
      have efaW := GW.tup efa8 nfa
      have LW := GW.lm L8
      refine ⟨_, rfl, vr, rfl, ⟨_, SqL.of evs⟩, fun D3 hD3 => ?_⟩
      refine lc_map (T := T) (fun _ => V.bl true) (walk_list (xs := vs)) (fun H' g' => SqL.of (g'.lst evs (nn _))) tW Go.refl hD3 (by rw [eline]; have : (6 : Int).toNat = 6 := rfl; omega) (fun jj v H22 H23 R hjj g22 t22 y hR => ?_) (fun H22 g22 t22 ed22 => ?_)
      · obtain ⟨rfl, ey⟩ := y
        obtain ⟨vd, evd, hvd⟩ := dvs.get ey
        obtain ⟨b1, b2, b3, b4, b5⟩ := both_good ok3 (gds vd (List.mem_of_getElem? evd))
        have dk := (Dv.tup efaW (nn _) (DvAll.less (M' := []) dvW (by simp))).go g22
        exact ⟨rfl, _, rfl, _, rfl, _, rfl, _, rfl, .ref fa, v, gv, ks, tt, vd, NB, rfl, ⟨dk, kB3, by omega, t22, htt⟩, (hvd.less (by simp)).go g22, (hgW.v).go g22, g22.lm LW, b1, by unfold NB bigInt; decide +kernel, b2, b3, fun H24 g24 t24 => hR H24 g24⟩
      · have em : (List.range vs.length).map (fun _ : Nat => V.bl true) = (List.replicate vs.length true).map V.bl := by
          rw [List.map_replicate, List.map_const', List.length_range]
        rw [em] at ed22
        refine ⟨D3, List.replicate vs.length true, rfl, SqL.of ed22, _, rfl, ?_⟩
        have ea : (List.replicate vs.length true).all id = true := by simp
        rw [ea]
        refine iteF ?_
        exact ⟨_, _, _, _, _, _, _, _, rfl, GW.trans g22.of0, (WW.go g22).up (by have : (6 : Int).toNat = 6 := rfl; omega)⟩
    obtain ⟨p6, p7, p8, p9, p10, p11, p12, p13, rfl, G9, W9⟩ := h
    have t9 := G9.tb t8
    have eT9 := G9.lst eT8 nT8
    refine ⟨_, rfl, _, rfl, _, rfl, _, rfl, _, rfl, tq, _, rfl, .inl (SqL.of eT9), a, l, _, _, rfl, by omega, by omega, by omega, W9, t9, fun i2 H12 i20 i21 W12 g12 t12 => ?_⟩
    have G12 := G9.trans g12
    obtain ⟨tv, td, etv, mtd, htv⟩ := at_dv (dT8.go G12) i20 i21
    have dvW := (dx6.go G8).go G12
    refine ⟨tq, _, i2, tv, rfl, rfl, SqL.of (G12.lst eT8 nT8), etv, .ref a, .ref fa, tv, ks, td, rfl, Dv.tup (G12.tup efa8 nfa) (nn _) (DvAll.less (M' := []) dvW (by simp)), kB3, by omega, htv.less (by simp), t12, fun H13 g13 t13 => ⟨_, rfl, iteF ?_⟩⟩
    exact ⟨_, _, _, _, _, _, _, _, _, _, _, _, rfl, (W12.go g13).up (by omega), t13, g13.lm (G12.lm L8)⟩
  obtain ⟨p2, p3, p4, p5, p6, p7, p8, p9, p10, p11, p12, p13, rfl, W2, t2, L2⟩ := h
  refine ⟨_, rfl, a, l, _, 400, 3, false, rfl, ⟨rfl, rfl, rfl⟩, by omega, W2, t2, fun r0 fv pv' ks t ms ws m0 n rest H3 er nr dfv eks dok kB dpv hT hl4 hs hms hn2 okm nxm W3 g3 t3 => ?_⟩
  refine ⟨r0, _, rfl, SqT.of er, rfl, _, _, rfl, _, _, rfl, rfl, ?_⟩
  subst hms
  subst eks
  have L3 := g3.lm L2
  obtain ⟨fa, xs, rfl, efa, nfa, dx⟩ := dv_tup dfv
  obtain ⟨x0, xr, rfl⟩ : ∃ x r, xs = x :: r := by
    cases dx with | cons _ _ => exact ⟨_, _, rfl⟩
  have h0 : Dv [a, l] H3 x0 (.tuple [.str t, .tuple (.tuple [.str m0, .tuple ((nums n).map .str)] :: rest)]) := by cases dx with | cons h _ => exact h
  obtain ⟨kp, vx, vy, rfl, ekp, nkp, hvx, hvy⟩ := dv_pair h0
  cases hvx
  obtain ⟨ma, mxs, rfl, ema, nma, dma⟩ := dv_tup hvy
  obtain ⟨y0, yr, rfl⟩ : ∃ x r, mxs = x :: r := by
    cases dma with | cons _ _ => exact ⟨_, _, rfl⟩
  have h1 : Dv [a, l] H3 y0 (.tuple [.str m0, .tuple ((nums n).map .str)]) := by cases dma with | cons h _ => exact h
  obtain ⟨mp, vm, vf, rfl, emp, nmp, hvm, hvf⟩ := dv_pair h1
  cases hvm
  obtain ⟨fl, fxs, rfl, efl, nfl, dfl⟩ := dv_tup hvf
  have lfl := dfl.length
  rw [List.length_map, nums_len] at lfl
  have htt : t ∈ [PyData.tuple [.str t, .tuple (.tuple [.str m0, .tuple ((nums n).map .str)] :: rest)]].map titleOf := List.mem_cons_self
  have dv3 : Dv [a, l] H3 (.ref fa) _ := Dv.tup efa nfa dx
  generalize eks : [PyData.tuple [.str t, .tuple (.tuple [.str m0, .tuple ((nums n).map .str)] :: rest)]] = ks at *
  obtain ⟨xk, rk, _, hwk, _⟩ := id dok
  -- the least tree
  refine ⟨_, rfl, fa, _, 0, _, rfl, rfl, SqT.of efa, atI_nat (j := 0) rfl, kp, _, 1, _, rfl, rfl, SqT.of ekp, atI_nat (j := 1) rfl, ma, _, 0, _, rfl, rfl, SqT.of ema, atI_nat (j := 0) rfl, mp, _, 0, _, rfl, rfl, SqT.of emp, atI_nat (j := 0) rfl, by show 1 ≤ sizeLine; omega, fun s1 hs1 => ?_⟩
  have z0 : Wk T a l (60000 * 2 + 10000) H3 H3 [pv'] [.tuple (ws.map kD)] := ⟨Go.refl, t3, W3.up (by have : (2 : Int).toNat = 2 := rfl; omega), .cons dpv .nil⟩
  have z1 := z0.tup hs1 (xs := [V.str m0]) (es := [.str m0]) (.cons (.str _) .nil)
  have n1 := Go.new (T := T) (M := []) (o := .tup [V.str m0]) hs1
  refine ⟨by show 1 ≤ sizeLine; omega, fun s2 hs2 => ?_⟩
  have n2 := Go.new (T := T) (M := []) (o := .tup [V.int 1]) hs2
  have n12 := n1.trans n2
  have z2 := z1.step n2
  refine ⟨_, rfl, fa, _, 0, _, rfl, rfl, SqT.of (n12.tup efa (nn _)), atI_nat (j := 0) rfl, kp, _, 1, _, rfl, rfl, SqT.of (n12.tup ekp (nn _)), atI_nat (j := 1) rfl, ma, _, 0, _, rfl, rfl, SqT.of (n12.tup ema (nn _)), atI_nat (j := 0) rfl, mp, _, 1, _, rfl, rfl, SqT.of (n12.tup emp (nn _)), atI_nat (j := 1) rfl, fl, _, rfl, .inr (SqT.of (n12.tup efl (nn _))), ?_⟩
  refine times0_ok (T := T) (M := [a, l]) upd_same (z1.fresh s2 hs2) (by omega) (by omega) z2.fresh fun s3 K3 f3 m3 g3' => ?_
  rw [lfl, show ((n : Int)).toNat = n by omega] at f3
  have z3 := z2.step g3'
  have ds1 : Dv [a, l] K3 (.ref s1) (.tuple [.str m0]) := by cases z3.dv with | cons _ h => cases h with | cons h _ => exact h
  have rep_dv : ∀ k : Nat, DvAll [a, l] K3 (List.replicate k (V.int 1)) (List.replicate k (.int 1)) := fun k => by
    induction k with
    | zero => exact .nil
    | succ k ih => exact .cons (.int 1) ih
  refine cat_dv (T := T) ds1 (.tup f3 m3 (rep_dv n)) (by rw [List.length_replicate]; show 1 + n ≤ _; omega) z3.fresh fun sh K4 g4 dsh => ?_
  have z4 := z3.step g4
  have ews : [PyData.str m0] ++ List.replicate n (.int 1) = (((.inr m0 : Key) :: (List.replicate n (1 : Int)).map .inl).map kD) := by
    rw [List.map_cons, List.map_map, List.map_replicate] <;> rfl
  rw [ews] at dsh
  have hsh : isT ks t ((.inr m0 : Key) :: (List.replicate n (1 : Int)).map .inl) := by
    refine run_of okm ?_
    rw [nxm]
    have := run_ints (ks := ks) [] (List.replicate n (1 : Int))
    rw [List.length_replicate] at this
    exact this
  have lsh : ((.inr m0 : Key) :: (List.replicate n (1 : Int)).map .inl).length ≤ 3 := by
    rw [List.length_cons, List.length_map, List.length_replicate]
    omega
  have psh : phr 120 (.tuple (((.inr m0 : Key) :: (List.replicate n (1 : Int)).map .inl).map kD)) := ⟨_, rfl, by rw [List.length_map]; omega, word_wG (run_good kB hsh) (fun z hz => by
    have : z = 1 := by
      simp only [List.mem_cons, List.mem_map, List.mem_replicate] at hz
      rcases hz with hz | ⟨_, ⟨_, rfl⟩, hz⟩
      · cases hz
      · exact (Sum.inl.inj hz).symm
    rw [this]
    decide +kernel)⟩
  have plong : phr 410 (.tuple (ws.map kD)) := ⟨_, rfl, by rw [List.length_map]; exact hl4, word_wG (run_good kB hT) hs⟩
  have hshort : GoodAt ks t [a, l] K4 sh (.tuple (((.inr m0 : Key) :: (List.replicate n (1 : Int)).map .inl).map kD)) := .inr ⟨fun z => (by rw [z] at dsh; cases dsh), dsh, treeB_of hsh (by omega), psh⟩
  generalize ((.inr m0 : Key) :: (List.replicate n (1 : Int)).map .inl).map kD = sds at *
  have lws : (ws.map kD).length ≤ 410 := by rw [List.length_map]; exact hl4
  generalize ws.map kD = lds at *
  have w0 : Wk T a l (60000 * 2 + 10000) K4 K4 [pv', sh] [.tuple lds, .tuple sds] := ⟨Go.refl, z4.tb, z4.cup, .cons (by cases z4.dv with | cons h _ => exact h) (.cons dsh .nil)⟩
  have dl0 : Dv [a, l] K4 pv' (.tuple lds) := by cases w0.dv with | cons h _ => exact h
  refine ⟨_, rfl, _, rfl, by show 1 ≤ sizeLine; omega, fun c1 hc1 => ?_⟩
  have c1n := Go.new (T := T) (M := []) (o := .tup [V.int 0]) hc1
  have w1 := w0.step c1n
  have dl1 := dl0.go c1n.of0
  refine cat_dv (T := T) dl1 (.tup upd_same (w0.fresh c1 hc1) (.cons (.int 0) .nil)) (by show lds.length + 1 ≤ _; omega) w1.fresh fun u2 K5 g5 d5 => ?_
  have w2 := (w1.step g5).put d5
  have dl2 := dl1.go g5.of0
  refine ⟨_, rfl, _, rfl, ?_⟩
  try unfold tNoPart
  refine sl_dv (T := T) dl2 w2.fresh fun u3 K6 g6 d6 => ?_
  have w3 := (w2.step g6).put d6
  have dl3 := dl2.go g6.of0
  refine ⟨_, rfl, _, rfl, ?_⟩
  try unfold tNoPart
  refine sl_dv (T := T) dl3 w3.fresh fun u4 K7 g7 d7 => ?_
  have w4 := (w3.step g7).put d7
  have dl4 := dl3.go g7.of0
  refine ⟨_, rfl, _, rfl, ?_⟩
  try unfold tNoPart
  refine sl_dv (T := T) dl4 w4.fresh fun u5 K8 g8 d8 => ?_
  have w5 := (w4.step g8).put d8
  have dl5 := dl4.go g8.of0
  obtain ⟨lp, lxs, rfl, elp, nlp, dlx⟩ := dv_tup dl5
  refine ⟨_, rfl, lp, lxs, rfl, .inr (SqT.of elp), fun l6 hl6 => ?_⟩
  have w6 := w5.lst hl6 dlx
  refine ⟨_, rfl, by show 7 ≤ sizeLine; decide, fun vp hvp => ?_⟩
  have nv := Go.new (T := T) (M := []) (o := .lst [V.ref lp, u2, u3, u4, u5, .ref l6, sh]) hvp
  have w7 := w6.step nv
  have evs := upd_same (H := upd K8 l6 (.lst lxs)) (a := vp) (o := .lst [V.ref lp, u2, u3, u4, u5, .ref l6, sh])
  have dvs : DvAll [a, l] (upd (upd K8 l6 (.lst lxs)) vp (.lst [V.ref lp, u2, u3, u4, u5, .ref l6, sh])) [V.ref lp, u2, u3, u4, u5, .ref l6, sh] [.tuple lds, .tuple (lds ++ [.int 0]), .tuple (SL.cutD lds (some 1) none), .tuple (SL.cutD lds none (some 400)), .tuple (SL.cutD lds none (some 401)), .list lds, .tuple sds] := by
    cases w7.dv with
    | cons a1 r => cases r with
      | cons a2 r => cases r with
        | cons a3 r => cases r with
          | cons a4 r => cases r with
            | cons a5 r => cases r with
              | cons a6 r => cases r with
                | cons a7 _ => exact .cons a1 (.cons a3 (.cons a4 (.cons a5 (.cons a6 (.cons a7 (.cons a2 .nil))))))
  have gds : ∀ d ∈ [PyData.tuple lds, .tuple (lds ++ [.int 0]), .tuple (SL.cutD lds (some 1) none), .tuple (SL.cutD lds none (some 400)), .tuple (SL.cutD lds none (some 401)), .list lds, .tuple sds], good d := fun d hd => by
    simp only [List.mem_cons, List.not_mem_nil, or_false] at hd
    rcases hd with rfl | rfl | rfl | rfl | rfl | rfl | rfl
    · exact phr_good plong (by decide)
    · exact phr_good (phr_cat plong (phr_one (wG_int (by decide +kernel)))) (by decide)
    · exact phr_good (phr_cut plong) (by decide)
    · exact phr_good (phr_cut plong) (by decide)
    · exact phr_good (phr_cut plong) (by decide)
    · exact phr_goodL plong (by decide)
    · exact phr_good psh (by decide)
  have GK : Go T [a, l] H3 K4 := z4.go
  have GW := GK.trans w7.go
  have LW := GW.lm L3
  have tW := w7.tb
  have hgW := hshort.go w7.go
  have dkW := dv3.go GW
  have efaW := GW.tup efa nfa
  have ekpW := GW.tup ekp nkp
  generalize upd (upd K8 l6 (.lst lxs)) vp (.lst [V.ref lp, u2, u3, u4, u5, .ref l6, sh]) = HW at *
  refine ⟨_, rfl, vp, rfl, ⟨_, SqL.of evs⟩, fun D3 hD3 => ?_⟩
  refine lc_map (T := T) (fun _ => V.bl true) (walk_list (xs := [V.ref lp, u2, u3, u4, u5, .ref l6, sh])) (fun H' g' => SqL.of (g'.lst evs (nn _))) tW Go.refl hD3 (by show 7 ≤ sizeLine; decide) (fun jj v H22 H23 R hjj g22 t22 y hR => ?_) (fun H22 g22 t22 ed22 => ?_)
  · obtain ⟨rfl, ey⟩ := y
    obtain ⟨vd, evd, hvd⟩ := dvs.get ey
    obtain ⟨b1, b2, b3, b4, b5⟩ := both_good dok (gds vd (List.mem_of_getElem? evd))
    have dk := (Dv.less (M' := []) dkW (by simp)).go g22
    exact ⟨rfl, _, rfl, _, rfl, fa, _, 0, _, rfl, rfl, SqT.of (g22.tup efaW (nn _)), atI_nat (j := 0) rfl, kp, _, 0, _, rfl, rfl, SqT.of (g22.tup ekpW (nn _)), atI_nat (j := 0) rfl, _, rfl, _, rfl, .ref fa, v, sh, ks, t, vd, NB, rfl, ⟨dk, kB, by omega, t22, htt⟩, (hvd.less (by simp)).go g22, (hgW.v).go g22, g22.lm LW, b1, by unfold NB bigInt; decide +kernel, b2, b3, fun H24 g24 t24 => hR H24 g24⟩
  · refine ⟨D3, [true, true, true, true, true, true, true], rfl, SqL.of ed22, ?_⟩
    exact q _
end
end K2
set_option Elab.async false
set_option linter.all false
set_option maxRecDepth 100000
set_option maxHeartbeats 2000000
namespace SL
open PySem PySem.Spec PyProof.Rows L2 GxR NdefX GA
variable [SL.LamT]
/-- the top's name x is the def st -/
def IsDef (K : PySem.W.Frag) (x : Str) (st : Stmt) : Prop := ∃ (f : Addr) (fd : FuncData), PySem.W.nsIn K mainGlobals x = some (some (.ref f)) ∧ Fun K x x st f fd
/-- .. its code object at c -/
def IsDefC (K : PySem.W.Frag) (x : Str) (st : Stmt) : Prop := ∃ (f c : Addr) (fd : FuncData), PySem.W.nsIn K mainGlobals x = some (some (.ref f)) ∧ FunT K x x st f fd c
/-- .. and its table, not of the written part -/
def IsDefT (K : PySem.W.Frag) (x : Str) (st : Stmt) : Prop := ∃ (f c Q : Addr) (fd : FuncData), PySem.W.nsIn K mainGlobals x = some (some (.ref f)) ∧ FunT K x x st f fd c ∧ PySem.W.tabIn K x = some (c, Q) ∧ K.lookup Q = none
section
variable {K : PySem.W.Frag} {x : Str} {st : Stmt} {f c Q : Addr} {oc kV dc pm cdv ct : Value} {od an : Option Addr} {sl : Array (Option Value)}
theorem isDef (a : PySem.W.nsIn K mainGlobals x = some (some (.ref f))) (l : K.lookup f = some ⟨oc, od, .func (PySem.W.fnOf x x (defArgs st) (defBody st) (defScope st) .none kV dc pm an cdv ct), sl⟩) (h : PySem.W.codeIn K cdv x = true) (k : PySem.W.keepIn K (.ref f) = true) : IsDef K x st :=
  ⟨f, _, a, fun_mk l h k⟩
theorem isDefC (a : PySem.W.nsIn K mainGlobals x = some (some (.ref f))) (l : K.lookup f = some ⟨oc, od, .func (PySem.W.fnOf x x (defArgs st) (defBody st) (defScope st) .none kV dc pm an (.ref c) ct), sl⟩) (h : PySem.W.codeIn K (.ref c) x = true) (k : PySem.W.keepIn K (.ref f) = true) : IsDefC K x st :=
  ⟨f, c, _, a, ⟨oc, od, kV, dc, pm, an, ct, sl, rfl, l, h⟩, k⟩
theorem isDefT {cc : Value} {cd : Option Addr} {vs : Array Value} {csl : Array (Option Value)} (a : PySem.W.nsIn K mainGlobals x = some (some (.ref f))) (l : K.lookup f = some ⟨oc, od, .func (PySem.W.fnOf x x (defArgs st) (defBody st) (defScope st) .none kV dc pm an (.ref c) ct), sl⟩) (h : PySem.W.codeIn K (.ref c) x = true) (k : PySem.W.keepIn K (.ref f) = true)
    (m : K.lookup c = some ⟨cc, cd, .fields vs, csl⟩) (v : (vs[11]? : Option Value) = some (.ref Q)) (n : K.lookup Q = none) : IsDefT K x st := by
  refine ⟨f, c, Q, _, a, ⟨⟨oc, od, kV, dc, pm, an, ct, sl, rfl, l, h⟩, k⟩, ?_, n⟩
  unfold PySem.W.tabIn
  rw [a]
  simp only [l, PySem.W.fnOf, m, v]
theorem Fun.kwb {fd : FuncData} {ps : List Str} (F : Fun K x x st f fd)
    (h : ∀ (kV doc pm : Value) (an : Option Addr) (cdv ct : Value) (us : List Value), us.length = ps.length → bindArgs (PySem.W.fnOf x x (defArgs st) (defBody st) (defScope st) .none kV doc pm an cdv ct) ⟨[], ps.zip us⟩ = pure (ps.zip us)) (s : Shared) (us : List Value) (_ : K.In s.heap) (hl : us.length = ps.length) : BindsTo s fd ⟨[], ps.zip us⟩ (ps.zip us) := by
  obtain ⟨oc, od, kV, doc, pm, an, cdv, ct, osl, rfl, _, _⟩ := F.ex
  exact .of_eq (h kV doc pm an cdv ct us hl)
/-- whether an error of the class at S is taken by «except C» -/
theorem exmOf {S C : Addr} {b : Bool} (h1 : PySem.W.subIn K (.ref C) (.type "BaseException") = some true) (h2 : PySem.W.isClsIn K C = true) (h3 : PySem.W.typeIn K (.ref C) = some (.type "type")) (h4 : PySem.W.subIn K (.ref S) (.ref C) = some b) : PySem.W.exmOne K (.ref S) (.ref C) = some b := by
  have z : (PySem.W.clsIn K C).isSome = true := h2
  unfold PySem.W.exmOne PySem.W.kitCls
  simp [h1, h3, h4, z]
theorem hasInt {x : Str} {i : Int} {t : Tok} (h : PySem.W.nsIn K mainGlobals x = some (some (.int i t))) : ∃ t, PySem.W.nsIn K mainGlobals x = some (some (.int i t)) := ⟨t, h⟩

end
end SL
set_option Elab.async false
set_option linter.all false
set_option maxRecDepth 100000
set_option maxHeartbeats 2000000
namespace K2
open PySem PySem.Spec PyProof.Rows L2 GxR NdefX GA SL RZ
theorem isKept {K : PySem.W.Frag} {x : Str} {xs : List V} {a : Addr} {od : Option Addr} {its : Array Value} {n : Nat} {sl : Array (Option Value)} (h : PySem.W.nsIn K mainGlobals x = some (some (.ref a))) (l : K.lookup a = some ⟨.type "tuple", od, .seq its n, sl⟩) (z : its.size ≤ sizeLine) (v : Vals xs its.toList) :
    ∃ a, PySem.W.nsIn K mainGlobals x = some (some (.ref a)) ∧ Kt K a xs := ⟨a, h, _, its, n, l, rfl, rfl, z, v⟩
/-- what the top has written, as far as the proof asks it -/
structure Top0 (K : PySem.W.Frag) (CK CN CB CG CT : Addr) : Prop where
  qn : ((["_is_maker_alone", "_is_kind_alone", "is_kinds", "rows_of"] : List Str).map fun x => (PySem.W.tabIn K x).map (·.2)).Nodup
  blt : ∀ x ∈ (["isinstance", "len", "all", "any", "set", "range", "tuple", "list", "int", "str", "bool", "repr", "sum", "min", "max", "enumerate", "sorted", "abs", "zip", "reversed"] : List Str), PySem.W.nsIn K mainGlobals x = some none
  kept : ∃ a, PySem.W.nsIn K mainGlobals "WORDS_KEPT" = some (some (.ref a)) ∧ Kt K a [.str "fun", .str "kind", .str "number"]
  longest : ∃ t, PySem.W.nsIn K mainGlobals "LONGEST_NAME" = some (some (.int 10 t))
  kinds : ∃ t, PySem.W.nsIn K mainGlobals "MOST_KINDS" = some (some (.int 6 t))
  makers : ∃ t, PySem.W.nsIn K mainGlobals "MOST_MAKERS" = some (some (.int 6 t))
  fields : ∃ t, PySem.W.nsIn K mainGlobals "MOST_FIELDS" = some (some (.int 4 t))
  words : ∃ t, PySem.W.nsIn K mainGlobals "MOST_WORDS" = some (some (.int 400 t))
  rows : ∃ t, PySem.W.nsIn K mainGlobals "MOST_ROWS" = some (some (.int 96 t))
  gK : PySem.W.nsIn K mainGlobals "BadKinds" = some (some (.ref CK))
  xK : PySem.W.excIn K CK [.type "ValueError", .type "Exception", .type "BaseException", .type "object"] "ValueError.__new__" = true
  kK : PySem.W.keepIn K (.ref CK) = true
  bK : PySem.W.subIn K (.ref CK) (.type "BaseException") = some true
  tK : PySem.W.typeIn K (.ref CK) = some (.type "type")
  gN : PySem.W.nsIn K mainGlobals "BadKind" = some (some (.ref CN))
  xN : PySem.W.excIn K CN [.type "ValueError", .type "Exception", .type "BaseException", .type "object"] "ValueError.__new__" = true
  kN : PySem.W.keepIn K (.ref CN) = true
  bN : PySem.W.subIn K (.ref CN) (.type "BaseException") = some true
  tN : PySem.W.typeIn K (.ref CN) = some (.type "type")
  gB : PySem.W.nsIn K mainGlobals "BadTree" = some (some (.ref CB))
  xB : PySem.W.excIn K CB [.type "ValueError", .type "Exception", .type "BaseException", .type "object"] "ValueError.__new__" = true
  kB : PySem.W.keepIn K (.ref CB) = true
  bB : PySem.W.subIn K (.ref CB) (.type "BaseException") = some true
  tB : PySem.W.typeIn K (.ref CB) = some (.type "type")
  gG : PySem.W.nsIn K mainGlobals "TooGreat" = some (some (.ref CG))
  xG : PySem.W.excIn K CG [.type "ValueError", .type "Exception", .type "BaseException", .type "object"] "ValueError.__new__" = true
  kG : PySem.W.keepIn K (.ref CG) = true
  bG : PySem.W.subIn K (.ref CG) (.type "BaseException") = some true
  tG : PySem.W.typeIn K (.ref CG) = some (.type "type")
  gT : PySem.W.nsIn K mainGlobals "TreeError" = some (some (.ref CT))
  bT : PySem.W.subIn K (.ref CT) (.type "BaseException") = some true
  tT : PySem.W.typeIn K (.ref CT) = some (.type "type")
  iN : PySem.W.isClsIn K CN = true
  iK : PySem.W.isClsIn K CK = true
  iB : PySem.W.isClsIn K CB = true
  iG : PySem.W.isClsIn K CG = true
  sNN : PySem.W.subIn K (.ref CN) (.ref CN) = some true
  sKK : PySem.W.subIn K (.ref CK) (.ref CK) = some true
  sKN : PySem.W.subIn K (.ref CK) (.ref CN) = some false
  sBB : PySem.W.subIn K (.ref CB) (.ref CB) = some true
  sGG : PySem.W.subIn K (.ref CG) (.ref CG) = some true
  sGB : PySem.W.subIn K (.ref CG) (.ref CB) = some false
  d_tp : IsDef K "is_tuple" s_is_tuple
  d_rn : IsDef K "is_run" s_is_run
  d_nm : IsDef K "is_name" s_is_name
  d_hi : IsDef K "is_high" s_is_high
  d_un : IsDef K "_are_unlike" s_are_unlike
  d_ma : IsDefT K "_is_maker_alone" s_is_maker_alone
  d_ka : IsDefT K "_is_kind_alone" s_is_kind_alone
  d_ks : IsDefT K "is_kinds" s_is_kinds
  d_in : IsDef K "is_integer" s_is_integer
  d_dk : IsDef K "demand_kinds" s_demand_kinds
  d_dn : IsDef K "demand_kind" s_demand_kind
  d_mo : IsDef K "makers_of" s_makers_of
  d_ko : IsDef K "kind_of" s_kind_of
  d_fo : IsDef K "fields_of" s_fields_of
  d_iw : IsDef K "_is_word" s_is_word
  d_it : IsDef K "is_tree" s_is_tree
  d_dt : IsDef K "demand_tree" s_demand_tree
  d_rk : IsDef K "_rank" s_rank
  d_pl : IsDef K "place_in_sequence" s_place
  d_ah : IsDef K "ahead" s_ahead
  d_po : IsDef K "_parts_of" s_parts
  d_am : IsDef K "_place_among_kinds" s_among
  d_ix : IsDef K "_indexed" s_indexed
  d_as : IsDef K "_as_rows" s_as_rows
  d_ro : IsDefT K "rows_of" s_rows_of
  d_lw : IsDef K "_law_well" s_law_well
  d_lr : IsDef K "_law_draw" s_law_draw
  d_la : IsDef K "_law_name" s_law_name
  d_lf : IsDef K "_law_kinds" s_law_kinds
  d_lt : IsDef K "_law_table" s_law_table
  d_lg : IsDef K "_law_integer" s_law_integer
  d_lp : IsDef K "_law_pool" s_law_pool
  d_lb : IsDef K "_law_bent" s_law_bent
  d_lx : IsDef K "_law_is_tree" s_law_is_tree
  d_lc : IsDef K "_law_chain" s_law_chain
  d_ls : IsDef K "_law_said" s_law_said
  d_ld : IsDef K "_law_door" s_law_door
  d_li : IsDef K "_law_is" s_law_is
  d_lv : IsDefC K "_law_value_right" s_law_value_right
  d_tr : IsDefC K "_law_titles_right" s_law_titles
  d_lo : IsDefC K "law" s_law
theorem tabOf {K : PySem.W.Frag} {x : Str} {st : Stmt} {f c Q : Addr} {oc : Value} {od : Option Addr} {kV dc pm ct : Value} {an : Option Addr} {sl csl : Array (Option Value)} {cc : Value} {cd : Option Addr} {vs : Array Value} (a : PySem.W.nsIn K mainGlobals x = some (some (.ref f))) (l : K.lookup f = some ⟨oc, od, .func (PySem.W.fnOf x x (defArgs st) (defBody st) (defScope st) .none kV dc pm an (.ref c) ct), sl⟩)
    (m : K.lookup c = some ⟨cc, cd, .fields vs, csl⟩) (v : (vs[11]? : Option Value) = some (.ref Q)) : PySem.W.tabIn K x = some (c, Q) := by
  unfold PySem.W.tabIn
  rw [a]
  simp only [l, PySem.W.fnOf, m, v]
theorem qnOf {K : PySem.W.Frag} {c1 c2 c3 c4 q1 q2 q3 q4 : Addr} (h1 : PySem.W.tabIn K "_is_maker_alone" = some (c1, q1)) (h2 : PySem.W.tabIn K "_is_kind_alone" = some (c2, q2)) (h3 : PySem.W.tabIn K "is_kinds" = some (c3, q3)) (h4 : PySem.W.tabIn K "rows_of" = some (c4, q4)) (nd : [q1, q2, q3, q4].Nodup) :
    ((["_is_maker_alone", "_is_kind_alone", "is_kinds", "rows_of"] : List Str).map fun x => (PySem.W.tabIn K x).map (·.2)).Nodup := by
  simp only [List.map_cons, List.map_nil, h1, h2, h3, h4, Option.map_some]
  have e : [some q1, some q2, some q3, some q4] = [q1, q2, q3, q4].map some := rfl
  rw [e]
  exact List.Pairwise.map some (fun a b h e => h (Option.some.inj e)) nd
theorem lamUn {l : List (Addr × Str)} (h : (l.map (·.1)).Nodup) : ∀ p ∈ l, ∀ p' ∈ l, p.1 = p'.1 → p.2 = p'.2 := by
  induction l with
  | nil => intro p hp; cases hp
  | cons x r ih =>
    rw [List.map_cons, List.nodup_cons] at h
    intro p hp p' hp' e
    rcases List.mem_cons.mp hp with h1 | h1 <;> rcases List.mem_cons.mp hp' with h2 | h2
    · rw [h1, h2]
    · exact absurd (List.mem_map.mpr ⟨p', h2, by rw [← e, h1]⟩) h.1
    · exact absurd (List.mem_map.mpr ⟨p, h1, by rw [e, h2]⟩) h.1
    · exact ih h.2 p h1 p' h2 e
theorem all_mk {P : Program} {w : World} {K : PySem.W.Frag} {h : Heap} {mg : Str → Option Value} {fa CK CN CB CG CT : Addr} (X : K.In h) (G : h.Ns mainGlobals mg) (hfa : mg "law" = some (.ref fa)) (Z : Top0 K CK CN CB CG CT)
    (tb : ∀ x ∈ (["_is_maker_alone", "_is_kind_alone", "is_kinds", "rows_of"] : List Str), ∀ c Q : Addr, PySem.W.tabIn K x = some (c, Q) → PySem.W.CodeHd h c Q ∧ h.get? Q = some tblO) :
    ∃ (fd : FuncData) (cs : List (Addr × Addr)) (sp : Sp), (∀ p ∈ cs, h.get? p.2 = some tblO ∧ K.lookup p.2 = none ∧ PySem.W.CodeHd h p.1 p.2) ∧ (∀ (t : Shared) (v : Value), BindsTo t fd ⟨[v], []⟩ [("script", v)]) ∧
      (∀ (H : Hp) (a : Addr) (ns : List Int), ns.length ≤ 63 → (∀ p ∈ cs, H p.2 = some (.tbl #[])) → SqL K H a (ns.map V.int) → sp [.ref a] H (fun v _ => v = .bl true) E0) ∧
      ∀ base : Heap, K.In base → base.Ns mainGlobals mg → (∃ o, base.get? sysModules = some o) → (∀ p ∈ cs, GxR.TabB base mg p.1 p.2) → FnG P w K mg base 17 fa fd ["script"] sp := by
  obtain ⟨f_tp, g_tp, a_tp, F_tp⟩ := Z.d_tp
  obtain ⟨f_rn, g_rn, a_rn, F_rn⟩ := Z.d_rn
  obtain ⟨f_nm, g_nm, a_nm, F_nm⟩ := Z.d_nm
  obtain ⟨f_hi, g_hi, a_hi, F_hi⟩ := Z.d_hi
  obtain ⟨f_un, g_un, a_un, F_un⟩ := Z.d_un
  obtain ⟨f_ma, c_ma, q_ma, g_ma, a_ma, F_ma, i_ma, n_ma⟩ := Z.d_ma
  have h_ma := tb "_is_maker_alone" (by simp) _ _ i_ma
  obtain ⟨f_ka, c_ka, q_ka, g_ka, a_ka, F_ka, i_ka, n_ka⟩ := Z.d_ka
  have h_ka := tb "_is_kind_alone" (by simp) _ _ i_ka
  obtain ⟨f_ks, c_ks, q_ks, g_ks, a_ks, F_ks, i_ks, n_ks⟩ := Z.d_ks
  have h_ks := tb "is_kinds" (by simp) _ _ i_ks
  obtain ⟨f_in, g_in, a_in, F_in⟩ := Z.d_in
  obtain ⟨f_dk, g_dk, a_dk, F_dk⟩ := Z.d_dk
  obtain ⟨f_dn, g_dn, a_dn, F_dn⟩ := Z.d_dn
  obtain ⟨f_mo, g_mo, a_mo, F_mo⟩ := Z.d_mo
  obtain ⟨f_ko, g_ko, a_ko, F_ko⟩ := Z.d_ko
  obtain ⟨f_fo, g_fo, a_fo, F_fo⟩ := Z.d_fo
  obtain ⟨f_iw, g_iw, a_iw, F_iw⟩ := Z.d_iw
  obtain ⟨f_it, g_it, a_it, F_it⟩ := Z.d_it
  obtain ⟨f_dt, g_dt, a_dt, F_dt⟩ := Z.d_dt
  obtain ⟨f_rk, g_rk, a_rk, F_rk⟩ := Z.d_rk
  obtain ⟨f_pl, g_pl, a_pl, F_pl⟩ := Z.d_pl
  obtain ⟨f_ah, g_ah, a_ah, F_ah⟩ := Z.d_ah
  obtain ⟨f_po, g_po, a_po, F_po⟩ := Z.d_po
  obtain ⟨f_am, g_am, a_am, F_am⟩ := Z.d_am
  obtain ⟨f_ix, g_ix, a_ix, F_ix⟩ := Z.d_ix
  obtain ⟨f_as, g_as, a_as, F_as⟩ := Z.d_as
  obtain ⟨f_ro, c_ro, q_ro, g_ro, a_ro, F_ro, i_ro, n_ro⟩ := Z.d_ro
  have h_ro := tb "rows_of" (by simp) _ _ i_ro
  obtain ⟨f_lw, g_lw, a_lw, F_lw⟩ := Z.d_lw
  obtain ⟨f_lr, g_lr, a_lr, F_lr⟩ := Z.d_lr
  obtain ⟨f_la, g_la, a_la, F_la⟩ := Z.d_la
  obtain ⟨f_lf, g_lf, a_lf, F_lf⟩ := Z.d_lf
  obtain ⟨f_lt, g_lt, a_lt, F_lt⟩ := Z.d_lt
  obtain ⟨f_lg, g_lg, a_lg, F_lg⟩ := Z.d_lg
  obtain ⟨f_lp, g_lp, a_lp, F_lp⟩ := Z.d_lp
  obtain ⟨f_lb, g_lb, a_lb, F_lb⟩ := Z.d_lb
  obtain ⟨f_lx, g_lx, a_lx, F_lx⟩ := Z.d_lx
  obtain ⟨f_lc, g_lc, a_lc, F_lc⟩ := Z.d_lc
  obtain ⟨f_ls, g_ls, a_ls, F_ls⟩ := Z.d_ls
  obtain ⟨f_ld, g_ld, a_ld, F_ld⟩ := Z.d_ld
  obtain ⟨f_li, g_li, a_li, F_li⟩ := Z.d_li
  obtain ⟨f_lv, c_lv, g_lv, a_lv, F_lv⟩ := Z.d_lv
  obtain ⟨f_tr, c_tr, g_tr, a_tr, F_tr⟩ := Z.d_tr
  obtain ⟨f_lo, c_lo, g_lo, a_lo, F_lo⟩ := Z.d_lo
  have hqn := Z.qn
  simp only [List.map_cons, List.map_nil, i_ma, i_ka, i_ks, i_ro, Option.map_some] at hqn
  have hqn2 : [q_ma, q_ka, q_ks, q_ro].Nodup := by
    have e : [some q_ma, some q_ka, some q_ks, some q_ro] = [q_ma, q_ka, q_ks, q_ro].map some := rfl
    rw [e] at hqn
    exact (List.pairwise_map.mp hqn).imp fun h e => h (by rw [e])
  have qne_ro : q_ro ∉ [q_ma, q_ka, q_ks] := by
    clear hqn
    simp only [List.nodup_cons, List.mem_cons, List.not_mem_nil, or_false, not_or] at hqn2 ⊢
    grind
  have hql : ([(q_ro, (("rows_of" : Str) ++ ".<locals>.") ++ "<lambda>")].map (·.1)).Nodup := by
    clear hqn
    simp only [List.map_cons, List.map_nil, List.nodup_cons, List.mem_cons, List.not_mem_nil, or_false, not_or] at hqn2 ⊢
    grind
  letI LT : SL.LamT := ⟨[(q_ro, (("rows_of" : Str) ++ ".<locals>.") ++ "<lambda>")], lamUn hql⟩
  have hro : (q_ro, (("rows_of" : Str) ++ ".<locals>.") ++ "<lambda>") ∈ SL.LamT.l := by show _ ∈ [(q_ro, (("rows_of" : Str) ++ ".<locals>.") ++ "<lambda>")]; simp
  have e := hfa.symm.trans (PySem.W.mg_of X G a_lo)
  cases e
  have no : ∀ x ∈ (["isinstance", "len", "all", "any", "set", "range", "tuple", "list", "int", "str", "bool", "repr", "sum", "min", "max", "enumerate", "sorted", "abs", "zip", "reversed"] : List Str), mg x = none := fun x hx => PySem.W.mg_none_of X G (Z.blt x hx)
  have B : Bl mg := ⟨no "isinstance" (by simp), no "len" (by simp), no "all" (by simp), no "any" (by simp), no "set" (by simp), no "range" (by simp), no "tuple" (by simp), no "list" (by simp), no "int" (by simp), no "str" (by simp), no "bool" (by simp), no "repr" (by simp)⟩
  have int1 : ∀ {x : Str} {i : Int}, (∃ t, PySem.W.nsIn K mainGlobals x = some (some (.int i t))) → ∃ t, mg x = some (.int i t) := fun ⟨t, ht⟩ => ⟨t, PySem.W.mg_of X G ht⟩
  have C : Cn K mg := ⟨int1 Z.longest, let ⟨a, h1, h2⟩ := Z.kept; ⟨a, PySem.W.mg_of X G h1, h2⟩, int1 Z.kinds, int1 Z.makers, int1 Z.fields, int1 Z.words, int1 Z.rows⟩
  have XK : Xc K mg "BadKinds" CK := ⟨PySem.W.mg_of X G Z.gK, Z.xK, Z.kK, Z.bK, Z.tK⟩
  have XN : Xc K mg "BadKind" CN := ⟨PySem.W.mg_of X G Z.gN, Z.xN, Z.kN, Z.bN, Z.tN⟩
  have XB : Xc K mg "BadTree" CB := ⟨PySem.W.mg_of X G Z.gB, Z.xB, Z.kB, Z.bB, Z.tB⟩
  have XG : Xc K mg "TooGreat" CG := ⟨PySem.W.mg_of X G Z.gG, Z.xG, Z.kG, Z.bG, Z.tG⟩
  have hgT : mg "TreeError" = some (.ref CT) := PySem.W.mg_of X G Z.gT
  have hNN : PySem.W.exmOne K (.ref CN) (.ref CN) = some true := exmOf Z.bN Z.iN Z.tN Z.sNN
  have hKK : PySem.W.exmOne K (.ref CK) (.ref CK) = some true := exmOf Z.bK Z.iK Z.tK Z.sKK
  have hKN : PySem.W.exmOne K (.ref CK) (.ref CN) = some false := exmOf Z.bN Z.iN Z.tN Z.sKN
  have hBB : PySem.W.exmOne K (.ref CB) (.ref CB) = some true := exmOf Z.bB Z.iB Z.tB Z.sBB
  have hGG : PySem.W.exmOne K (.ref CG) (.ref CG) = some true := exmOf Z.bG Z.iG Z.tG Z.sGG
  have hGB : PySem.W.exmOne K (.ref CG) (.ref CB) = some false := exmOf Z.bB Z.iB Z.tB Z.sGB
  have b_tp : Binds K g_tp ["thing", "least", "most"] [] := (F_tp).binds fun _ _ _ _ _ _ us hl => match us, hl with | [_, _, _], _ => rfl
  have b_rn : Binds K g_rn ["text"] [] := (F_rn).binds fun _ _ _ _ _ _ us hl => match us, hl with | [_], _ => rfl
  have b_nm : Binds K g_nm ["thing"] [] := (F_nm).binds fun _ _ _ _ _ _ us hl => match us, hl with | [_], _ => rfl
  have b_hi : Binds K g_hi ["thing"] [] := (F_hi).binds fun _ _ _ _ _ _ us hl => match us, hl with | [_], _ => rfl
  have b_un : Binds K g_un ["names"] [] := (F_un).binds fun _ _ _ _ _ _ us hl => match us, hl with | [_], _ => rfl
  have b_ma : Binds K g_ma ["thing"] [] := (F_ma.fn).binds fun _ _ _ _ _ _ us hl => match us, hl with | [_], _ => rfl
  have b_ka : Binds K g_ka ["thing"] [] := (F_ka.fn).binds fun _ _ _ _ _ _ us hl => match us, hl with | [_], _ => rfl
  have b_ks : Binds K g_ks ["thing"] [] := (F_ks.fn).binds fun _ _ _ _ _ _ us hl => match us, hl with | [_], _ => rfl
  have b_in : Binds K g_in ["thing"] [] := (F_in).binds fun _ _ _ _ _ _ us hl => match us, hl with | [_], _ => rfl
  have b_dk : Binds K g_dk ["kinds"] [] := (F_dk).binds fun _ _ _ _ _ _ us hl => match us, hl with | [_], _ => rfl
  have b_dn : Binds K g_dn ["kinds", "kind"] [] := (F_dn).binds fun _ _ _ _ _ _ us hl => match us, hl with | [_, _], _ => rfl
  have b_mo : Binds K g_mo ["kinds"] [] := (F_mo).binds fun _ _ _ _ _ _ us hl => match us, hl with | [_], _ => rfl
  have b_ko : Binds K g_ko ["makers", "maker"] [] := (F_ko).binds fun _ _ _ _ _ _ us hl => match us, hl with | [_, _], _ => rfl
  have b_fo : Binds K g_fo ["makers", "maker"] [] := (F_fo).binds fun _ _ _ _ _ _ us hl => match us, hl with | [_, _], _ => rfl
  have b_iw : Binds K g_iw ["makers", "field", "word"] [] := (F_iw).binds fun _ _ _ _ _ _ us hl => match us, hl with | [_, _, _], _ => rfl
  have b_it : Binds K g_it ["kinds", "kind", "thing"] [] := (F_it).binds fun _ _ _ _ _ _ us hl => match us, hl with | [_, _, _], _ => rfl
  have b_dt : Binds K g_dt ["kinds", "kind", "words"] [] := (F_dt).binds fun _ _ _ _ _ _ us hl => match us, hl with | [_, _, _], _ => rfl
  have b_rk : Binds K g_rk ["number"] [] := (F_rk).binds fun _ _ _ _ _ _ us hl => match us, hl with | [_], _ => rfl
  have b_pl : Binds K g_pl ["makers", "words"] [] := (F_pl).binds fun _ _ _ _ _ _ us hl => match us, hl with | [_, _], _ => rfl
  have b_ah : Binds K g_ah ["kinds", "kind", "one", "other"] [] := (F_ah).binds fun _ _ _ _ _ _ us hl => match us, hl with | [_, _, _, _], _ => rfl
  have b_po : Binds K g_po ["makers", "words"] [] := (F_po).binds fun _ _ _ _ _ _ us hl => match us, hl with | [_, _], _ => rfl
  have b_am : Binds K g_am ["makers", "names", "words"] [] := (F_am).binds fun _ _ _ _ _ _ us hl => match us, hl with | [_, _, _], _ => rfl
  have b_ix : Binds K g_ix ["index", "entries"] [] := (F_ix).binds fun _ _ _ _ _ _ us hl => match us, hl with | [_, _], _ => rfl
  have b_as : Binds K g_as ["parts", "order"] [] := (F_as).binds fun _ _ _ _ _ _ us hl => match us, hl with | [_, _], _ => rfl
  have b_ro : Binds K g_ro ["kinds", "kind", "words"] [] := (F_ro.fn).binds fun _ _ _ _ _ _ us hl => match us, hl with | [_, _, _], _ => rfl
  have b_lw : Binds K g_lw ["script"] [] := (F_lw).binds fun _ _ _ _ _ _ us hl => match us, hl with | [_], _ => rfl
  have b_lr : Binds K g_lr ["well", "many"] [] := (F_lr).binds fun _ _ _ _ _ _ us hl => match us, hl with | [_, _], _ => rfl
  have b_la : Binds K g_la ["well", "taken", "high"] [] := (F_la).binds fun _ _ _ _ _ _ us hl => match us, hl with | [_, _, _], _ => rfl
  have b_lf : Binds K g_lf ["well", "most"] [] := (F_lf).binds fun _ _ _ _ _ _ us hl => match us, hl with | [_, _], _ => rfl
  have b_lt : Binds K g_lt ["family"] [] := (F_lt).binds fun _ _ _ _ _ _ us hl => match us, hl with | [_], _ => rfl
  have b_lg : Binds K g_lg ["well"] [] := (F_lg).binds fun _ _ _ _ _ _ us hl => match us, hl with | [_], _ => rfl
  have b_lp : Binds K g_lp ["well", "family", "count", "most"] [] := (F_lp).binds fun _ _ _ _ _ _ us hl => match us, hl with | [_, _, _, _], _ => rfl
  have b_lb : Binds K g_lb ["well", "value"] [] := (F_lb).binds fun _ _ _ _ _ _ us hl => match us, hl with | [_, _], _ => rfl
  have b_lx : Binds K g_lx ["table", "title", "value"] [] := (F_lx).binds fun _ _ _ _ _ _ us hl => match us, hl with | [_, _, _], _ => rfl
  have b_lc : Binds K g_lc ["well", "size", "spare", "linked"] [] := (F_lc).binds fun _ _ _ _ _ _ us hl => match us, hl with | [_, _, _, _], _ => rfl
  have b_ls : Binds K g_ls ["family", "title", "value"] [] := (F_ls).binds fun _ _ _ _ _ _ us hl => match us, hl with | [_, _, _], _ => rfl
  have b_ld : Binds K g_ld ["door", "family", "title", "value", "good"] [] := (F_ld).binds fun _ _ _ _ _ _ us hl => match us, hl with | [_, _, _, _, _], _ => rfl
  have b_li : Binds K g_li ["found", "due"] [] := (F_li).binds fun _ _ _ _ _ _ us hl => match us, hl with | [_, _], _ => rfl
  have b_lv : Binds K g_lv ["family", "title", "value", "good"] [] := (F_lv.fn).binds fun _ _ _ _ _ _ us hl => match us, hl with | [_, _, _, _], _ => rfl
  have b_tr : Binds K g_tr ["well", "family", "value"] [] := (F_tr.fn).binds fun _ _ _ _ _ _ us hl => match us, hl with | [_, _, _], _ => rfl
  have b_lo : Binds K g_lo ["script"] [] := (F_lo.fn).binds fun _ _ _ _ _ _ us hl => match us, hl with | [_], _ => rfl
  refine ⟨g_lo, [(c_ma, q_ma), (c_ka, q_ka), (c_ks, q_ks), (c_ro, q_ro)], sp_law K [q_ma, q_ka, q_ks], fun p hp => ?_, fun t v => ?_, fun H a ns hl ht hS => ?_, fun base _ _ hS0 TB => ?_⟩
  · simp only [List.mem_cons, List.not_mem_nil, or_false] at hp
    rcases hp with rfl | rfl | rfl | rfl
    · exact ⟨h_ma.2, n_ma, h_ma.1⟩
    · exact ⟨h_ka.2, n_ka, h_ka.1⟩
    · exact ⟨h_ks.2, n_ks, h_ks.1⟩
    · exact ⟨h_ro.2, n_ro, h_ro.1⟩
  · obtain ⟨_, _, _, _, _, _, _, _, rfl, _, _⟩ := F_lo.ex
    exact .of_eq rfl
  · refine ⟨a, ns, rfl, hS, hl, fun Q hQ => ?_, fun p hp => ?_, fun _ => rfl⟩
    rotate_left
    · have hp : p ∈ [(q_ro, (("rows_of" : Str) ++ ".<locals>.") ++ "<lambda>")] := hp
      simp only [List.mem_cons, List.not_mem_nil, or_false] at hp
      rcases hp with rfl
      · exact ⟨qne_ro, LamX.TabS.nil (ht (c_ro, _) (by simp))⟩
    have e : H Q = some (.tbl #[]) := by
      simp only [List.mem_cons, List.not_mem_nil, or_false] at hQ
      rcases hQ with rfl | rfl | rfl
      · exact ht (c_ma, _) (by simp)
      · exact ht (c_ka, _) (by simp)
      · exact ht (c_ks, _) (by simp)
    exact ⟨#[], e, True.intro⟩
  have tma : GxR.TabB base mg c_ma q_ma := TB (c_ma, q_ma) (by simp)
  have tka : GxR.TabB base mg c_ka q_ka := TB (c_ka, q_ka) (by simp)
  have tks : GxR.TabB base mg c_ks q_ks := TB (c_ks, q_ks) (by simp)
  have tro : GxR.TabB base mg c_ro q_ro := TB (c_ro, q_ro) (by simp)
  have lro : LamX.TabB base mg c_ro q_ro := ⟨tro.code, tro.bm, tro.gP⟩
  have O_tp : FnOk P w K mg base CX0 1 f_tp g_tp ["thing", "least", "most"] sp_is_tuple := ok_is_tuple F_tp B
  have N_tp : Fnn P w K mg base CX0 1 "is_tuple" ["thing", "least", "most"] sp_is_tuple := ⟨f_tp, g_tp, O_tp, PySem.W.mg_of X G a_tp, F_tp.kp, b_tp⟩
  have O_rn : FnOk P w K mg base CX0 1 f_rn g_rn ["text"] sp_is_run := ok_is_run F_rn
  have N_rn : Fnn P w K mg base CX0 1 "is_run" ["text"] sp_is_run := ⟨f_rn, g_rn, O_rn, PySem.W.mg_of X G a_rn, F_rn.kp, b_rn⟩
  have O_nm : FnOk P w K mg base CX0 2 f_nm g_nm ["thing"] sp_is_name := ok_is_name F_nm B C N_rn
  have N_nm : Fnn P w K mg base CX0 2 "is_name" ["thing"] sp_is_name := ⟨f_nm, g_nm, O_nm, PySem.W.mg_of X G a_nm, F_nm.kp, b_nm⟩
  have O_hi : FnOk P w K mg base CX0 3 f_hi g_hi ["thing"] sp_is_high := ok_is_high F_hi N_nm
  have N_hi : Fnn P w K mg base CX0 3 "is_high" ["thing"] sp_is_high := ⟨f_hi, g_hi, O_hi, PySem.W.mg_of X G a_hi, F_hi.kp, b_hi⟩
  have O_un : FnOk P w K mg base CX0 1 f_un g_un ["names"] (sp_are_unlike K) := ok_are_unlike F_un B
  have N_un : Fnn P w K mg base CX0 1 "_are_unlike" ["names"] (sp_are_unlike K) := ⟨f_un, g_un, O_un, PySem.W.mg_of X G a_un, F_un.kp, b_un⟩
  have O_ma : FnOk P w K mg base CX0 5 f_ma g_ma ["thing"] (sp_look [q_ma, q_ka, q_ks] makerB) := ok_maker_alone F_ma B C tma (by simp) N_tp N_hi
  have N_ma : Fnn P w K mg base CX0 5 "_is_maker_alone" ["thing"] (sp_look [q_ma, q_ka, q_ks] makerB) := ⟨f_ma, g_ma, O_ma, PySem.W.mg_of X G a_ma, F_ma.kp, b_ma⟩
  have O_ka : FnOk P w K mg base CX0 7 f_ka g_ka ["thing"] (sp_look [q_ma, q_ka, q_ks] kindB) := ok_kind_alone F_ka B C tka (by simp) N_tp N_hi N_ma
  have N_ka : Fnn P w K mg base CX0 7 "_is_kind_alone" ["thing"] (sp_look [q_ma, q_ka, q_ks] kindB) := ⟨f_ka, g_ka, O_ka, PySem.W.mg_of X G a_ka, F_ka.kp, b_ka⟩
  have O_ks : FnOk P w K mg base CX0 9 f_ks g_ks ["thing"] (sp_look [q_ma, q_ka, q_ks] kindsB) := ok_is_kinds F_ks B C tks (by simp) N_tp N_un N_ka
  have N_ks : Fnn P w K mg base CX0 9 "is_kinds" ["thing"] (sp_look [q_ma, q_ka, q_ks] kindsB) := ⟨f_ks, g_ks, O_ks, PySem.W.mg_of X G a_ks, F_ks.kp, b_ks⟩
  have O_in : FnOk P w K mg base CX0 1 f_in g_in ["thing"] sp_is_integer := ok_is_integer F_in B
  have N_in : Fnn P w K mg base CX0 1 "is_integer" ["thing"] sp_is_integer := ⟨f_in, g_in, O_in, PySem.W.mg_of X G a_in, F_in.kp, b_in⟩
  have O_dk : FnOk P w K mg base (L2.CX P w) 10 f_dk g_dk ["kinds"] (sp_demand_kindsX [q_ma, q_ka, q_ks] CK) := ok_demand_kindsX F_dk XK N_ks
  have N_dk : Fnn P w K mg base (L2.CX P w) 10 "demand_kinds" ["kinds"] (sp_demand_kindsX [q_ma, q_ka, q_ks] CK) := ⟨f_dk, g_dk, O_dk, PySem.W.mg_of X G a_dk, F_dk.kp, b_dk⟩
  have O_dn : FnOk P w K mg base (L2.CX P w) 11 f_dn g_dn ["kinds", "kind"] (sp_demand_kindX [q_ma, q_ka, q_ks] CK CN) := ok_demand_kindX F_dn B XN N_dk
  have N_dn : Fnn P w K mg base (L2.CX P w) 11 "demand_kind" ["kinds", "kind"] (sp_demand_kindX [q_ma, q_ka, q_ks] CK CN) := ⟨f_dn, g_dn, O_dn, PySem.W.mg_of X G a_dn, F_dn.kp, b_dn⟩
  have O_mo : FnOk P w K mg base CX0 1 f_mo g_mo ["kinds"] (sp_makers_of [q_ma, q_ka, q_ks]) := ok_makers_of F_mo (no "enumerate" (by simp))
  have N_mo : Fnn P w K mg base CX0 1 "makers_of" ["kinds"] (sp_makers_of [q_ma, q_ka, q_ks]) := ⟨f_mo, g_mo, O_mo, PySem.W.mg_of X G a_mo, F_mo.kp, b_mo⟩
  have O_ko : FnOk P w K mg base CX0 1 f_ko g_ko ["makers", "maker"] sp_kind_of := ok_kind_of F_ko
  have N_ko : Fnn P w K mg base CX0 1 "kind_of" ["makers", "maker"] sp_kind_of := ⟨f_ko, g_ko, O_ko, PySem.W.mg_of X G a_ko, F_ko.kp, b_ko⟩
  have O_fo : FnOk P w K mg base CX0 1 f_fo g_fo ["makers", "maker"] sp_fields_of := ok_fields_of F_fo
  have N_fo : Fnn P w K mg base CX0 1 "fields_of" ["makers", "maker"] sp_fields_of := ⟨f_fo, g_fo, O_fo, PySem.W.mg_of X G a_fo, F_fo.kp, b_fo⟩
  have O_iw : FnOk P w K mg base CX0 2 f_iw g_iw ["makers", "field", "word"] sp_is_word := ok_is_word F_iw B N_in N_ko
  have N_iw : Fnn P w K mg base CX0 2 "_is_word" ["makers", "field", "word"] sp_is_word := ⟨f_iw, g_iw, O_iw, PySem.W.mg_of X G a_iw, F_iw.kp, b_iw⟩
  have O_it : FnOk P w K mg base (L2.CX P w) 12 f_it g_it ["kinds", "kind", "thing"] (sp_is_treeX [q_ma, q_ka, q_ks] CK CN) := ok_is_treeX F_it B C.words N_dn N_tp N_mo N_iw N_fo
  have N_it : Fnn P w K mg base (L2.CX P w) 12 "is_tree" ["kinds", "kind", "thing"] (sp_is_treeX [q_ma, q_ka, q_ks] CK CN) := ⟨f_it, g_it, O_it, PySem.W.mg_of X G a_it, F_it.kp, b_it⟩
  have OG_it : FnOk P w K mg base CX0 12 f_it g_it ["kinds", "kind", "thing"] (sp_is_treeG [q_ma, q_ka, q_ks]) := FnOk.wk (FnOk.to0 O_it) fun _ _ _ _ h => treeG_of h
  have NG_it : Fnn P w K mg base CX0 12 "is_tree" ["kinds", "kind", "thing"] (sp_is_treeG [q_ma, q_ka, q_ks]) := ⟨f_it, g_it, OG_it, PySem.W.mg_of X G a_it, F_it.kp, b_it⟩
  have WG_it : Fnw P w K mg base CX0 12 "is_tree" ["kinds", "kind", "thing"] (sp_is_treeG [q_ma, q_ka, q_ks]) := ⟨f_it, g_it, OG_it, PySem.W.mg_of X G a_it, F_it.kp, Fun.kwb (F_it) fun _ _ _ _ _ _ us hl => match us, hl with | [_, _, _], _ => rfl⟩
  have O_dt : FnOk P w K mg base (L2.CX P w) 13 f_dt g_dt ["kinds", "kind", "words"] (sp_demand_treeX [q_ma, q_ka, q_ks] CB) := ok_demand_treeX F_dt XB NG_it
  have N_dt : Fnn P w K mg base (L2.CX P w) 13 "demand_tree" ["kinds", "kind", "words"] (sp_demand_treeX [q_ma, q_ka, q_ks] CB) := ⟨f_dt, g_dt, O_dt, PySem.W.mg_of X G a_dt, F_dt.kp, b_dt⟩
  have NG_dt : Fnn P w K mg base CX0 13 "demand_tree" ["kinds", "kind", "words"] (sp_demand_tree [q_ma, q_ka, q_ks]) := ⟨f_dt, g_dt, FnOk.wk (FnOk.to0 O_dt) fun _ _ _ _ h => demand_of h, PySem.W.mg_of X G a_dt, F_dt.kp, b_dt⟩
  have O_rk : FnOk P w K mg base CX0 1 f_rk g_rk ["number"] sp_rankG := ok_rank F_rk
  have N_rk : Fnn P w K mg base CX0 1 "_rank" ["number"] sp_rankG := ⟨f_rk, g_rk, O_rk, PySem.W.mg_of X G a_rk, F_rk.kp, b_rk⟩
  have O_pl : FnOk P w K mg base CX0 2 f_pl g_pl ["makers", "words"] (sp_place [q_ma, q_ka, q_ks]) := ok_place F_pl B N_rk
  have N_pl : Fnn P w K mg base CX0 2 "place_in_sequence" ["makers", "words"] (sp_place [q_ma, q_ka, q_ks]) := ⟨f_pl, g_pl, O_pl, PySem.W.mg_of X G a_pl, F_pl.kp, b_pl⟩
  have O_ah : FnOk P w K mg base (L2.CX P w) 14 f_ah g_ah ["kinds", "kind", "one", "other"] (sp_aheadX [q_ma, q_ka, q_ks] CB) := ok_aheadX F_ah N_dt N_mo N_pl
  have N_ah : Fnn P w K mg base (L2.CX P w) 14 "ahead" ["kinds", "kind", "one", "other"] (sp_aheadX [q_ma, q_ka, q_ks] CB) := ⟨f_ah, g_ah, O_ah, PySem.W.mg_of X G a_ah, F_ah.kp, b_ah⟩
  have W_ah : Fnw P w K mg base (L2.CX P w) 14 "ahead" ["kinds", "kind", "one", "other"] (sp_aheadX [q_ma, q_ka, q_ks] CB) := ⟨f_ah, g_ah, O_ah, PySem.W.mg_of X G a_ah, F_ah.kp, Fun.kwb (F_ah) fun _ _ _ _ _ _ us hl => match us, hl with | [_, _, _, _], _ => rfl⟩
  have O_po : FnOk P w K mg base CX0 2 f_po g_po ["makers", "words"] (sp_parts [q_ma, q_ka, q_ks]) := ok_parts F_po B (no "reversed" (by simp)) N_fo
  have N_po : Fnn P w K mg base CX0 2 "_parts_of" ["makers", "words"] (sp_parts [q_ma, q_ka, q_ks]) := ⟨f_po, g_po, O_po, PySem.W.mg_of X G a_po, F_po.kp, b_po⟩
  have O_am : FnOk P w K mg base CX0 3 f_am g_am ["makers", "names", "words"] (sp_among [q_ma, q_ka, q_ks]) := ok_among F_am N_pl N_ko
  have N_am : Fnn P w K mg base CX0 3 "_place_among_kinds" ["makers", "names", "words"] (sp_among [q_ma, q_ka, q_ks]) := ⟨f_am, g_am, O_am, PySem.W.mg_of X G a_am, F_am.kp, b_am⟩
  have O_ix : FnOk P w K mg base CX0 1 f_ix g_ix ["index", "entries"] (sp_indexed [q_ma, q_ka, q_ks]) := ok_indexed F_ix B
  have N_ix : Fnn P w K mg base CX0 1 "_indexed" ["index", "entries"] (sp_indexed [q_ma, q_ka, q_ks]) := ⟨f_ix, g_ix, O_ix, PySem.W.mg_of X G a_ix, F_ix.kp, b_ix⟩
  have O_as : FnOk P w K mg base CX0 2 f_as g_as ["parts", "order"] (sp_as_rows [q_ma, q_ka, q_ks]) := ok_as_rows F_as B (no "enumerate" (by simp)) N_ix
  have N_as : Fnn P w K mg base CX0 2 "_as_rows" ["parts", "order"] (sp_as_rows [q_ma, q_ka, q_ks]) := ⟨f_as, g_as, O_as, PySem.W.mg_of X G a_as, F_as.kp, b_as⟩
  have O_ro : FnOk P w K mg base (L2.CX P w) 14 f_ro g_ro ["kinds", "kind", "words"] (sp_rows_ofX [q_ma, q_ka, q_ks] CG CB) := ok_rows_ofX (ok_rows_of F_ro B C (no "sorted" (by simp)) XG lro hro NG_dt N_mo N_po N_am N_as) (ok_rows_ofB F_ro N_dt)
  have N_ro : Fnn P w K mg base (L2.CX P w) 14 "rows_of" ["kinds", "kind", "words"] (sp_rows_ofX [q_ma, q_ka, q_ks] CG CB) := ⟨f_ro, g_ro, O_ro, PySem.W.mg_of X G a_ro, F_ro.kp, b_ro⟩
  have W_ro : Fnw P w K mg base (L2.CX P w) 14 "rows_of" ["kinds", "kind", "words"] (sp_rows_ofX [q_ma, q_ka, q_ks] CG CB) := ⟨f_ro, g_ro, O_ro, PySem.W.mg_of X G a_ro, F_ro.kp, Fun.kwb (F_ro.fn) fun _ _ _ _ _ _ us hl => match us, hl with | [_, _, _], _ => rfl⟩
  have O_lw : FnOk P w K mg base CX0 1 f_lw g_lw ["script"] (sp_well K [q_ma, q_ka, q_ks]) := ok_law_well F_lw B
  have N_lw : Fnn P w K mg base CX0 1 "_law_well" ["script"] (sp_well K [q_ma, q_ka, q_ks]) := ⟨f_lw, g_lw, O_lw, PySem.W.mg_of X G a_lw, F_lw.kp, b_lw⟩
  have O_lr : FnOk P w K mg base CX0 1 f_lr g_lr ["well", "many"] (sp_draw [q_ma, q_ka, q_ks]) := ok_law_draw F_lr B
  have N_lr : Fnn P w K mg base CX0 1 "_law_draw" ["well", "many"] (sp_draw [q_ma, q_ka, q_ks]) := ⟨f_lr, g_lr, O_lr, PySem.W.mg_of X G a_lr, F_lr.kp, b_lr⟩
  have O_la : FnOk P w K mg base CX0 2 f_la g_la ["well", "taken", "high"] (sp_name [q_ma, q_ka, q_ks]) := ok_law_name F_la B N_lr
  have N_la : Fnn P w K mg base CX0 2 "_law_name" ["well", "taken", "high"] (sp_name [q_ma, q_ka, q_ks]) := ⟨f_la, g_la, O_la, PySem.W.mg_of X G a_la, F_la.kp, b_la⟩
  have O_lf : FnOk P w K mg base CX0 3 f_lf g_lf ["well", "most"] (sp_kindsL [q_ma, q_ka, q_ks]) := ok_law_kinds F_lf B N_lr N_la
  have N_lf : Fnn P w K mg base CX0 3 "_law_kinds" ["well", "most"] (sp_kindsL [q_ma, q_ka, q_ks]) := ⟨f_lf, g_lf, O_lf, PySem.W.mg_of X G a_lf, F_lf.kp, b_lf⟩
  have O_lt : FnOk P w K mg base CX0 1 f_lt g_lt ["family"] (sp_makers_of [q_ma, q_ka, q_ks]) := ok_law_table F_lt B
  have N_lt : Fnn P w K mg base CX0 1 "_law_table" ["family"] (sp_makers_of [q_ma, q_ka, q_ks]) := ⟨f_lt, g_lt, O_lt, PySem.W.mg_of X G a_lt, F_lt.kp, b_lt⟩
  have O_lg : FnOk P w K mg base CX0 2 f_lg g_lg ["well"] (sp_integer [q_ma, q_ka, q_ks]) := ok_law_integer F_lg B N_lr
  have N_lg : Fnn P w K mg base CX0 2 "_law_integer" ["well"] (sp_integer [q_ma, q_ka, q_ks]) := ⟨f_lg, g_lg, O_lg, PySem.W.mg_of X G a_lg, F_lg.kp, b_lg⟩
  have O_lp : FnOk P w K mg base CX0 3 f_lp g_lp ["well", "family", "count", "most"] (sp_pool [q_ma, q_ka, q_ks]) := ok_law_pool F_lp B (no "min" (by simp)) N_lr N_lg
  have N_lp : Fnn P w K mg base CX0 3 "_law_pool" ["well", "family", "count", "most"] (sp_pool [q_ma, q_ka, q_ks]) := ⟨f_lp, g_lp, O_lp, PySem.W.mg_of X G a_lp, F_lp.kp, b_lp⟩
  have O_lb : FnOk P w K mg base CX0 15 f_lb g_lb ["well", "value"] (sp_bent [q_ma, q_ka, q_ks] 12) := ok_law_bent F_lb (PySem.W.mg_of X G a_lb) b_lb B N_lr 12
  have N_lb : Fnn P w K mg base CX0 15 "_law_bent" ["well", "value"] (sp_bent [q_ma, q_ka, q_ks] 12) := ⟨f_lb, g_lb, O_lb, PySem.W.mg_of X G a_lb, F_lb.kp, b_lb⟩
  have O_lx : FnOk P w K mg base CX0 1 f_lx g_lx ["table", "title", "value"] (sp_law_is_tree [q_ma, q_ka, q_ks]) := ok_law_is_tree F_lx B
  have N_lx : Fnn P w K mg base CX0 1 "_law_is_tree" ["table", "title", "value"] (sp_law_is_tree [q_ma, q_ka, q_ks]) := ⟨f_lx, g_lx, O_lx, PySem.W.mg_of X G a_lx, F_lx.kp, b_lx⟩
  have O_lc : FnOk P w K mg base CX0 3 f_lc g_lc ["well", "size", "spare", "linked"] (sp_chain [q_ma, q_ka, q_ks]) := ok_law_chain F_lc B (no "max" (by simp)) N_lr N_la
  have N_lc : Fnn P w K mg base CX0 3 "_law_chain" ["well", "size", "spare", "linked"] (sp_chain [q_ma, q_ka, q_ks]) := ⟨f_lc, g_lc, O_lc, PySem.W.mg_of X G a_lc, F_lc.kp, b_lc⟩
  have O_ls : FnOk P w K mg base CX0 13 f_ls g_ls ["family", "title", "value"] (sp_said [q_ma, q_ka, q_ks]) := ok_law_said F_ls XN XK hgT hNN hKK hKN N_it
  have N_ls : Fnn P w K mg base CX0 13 "_law_said" ["family", "title", "value"] (sp_said [q_ma, q_ka, q_ks]) := ⟨f_ls, g_ls, O_ls, PySem.W.mg_of X G a_ls, F_ls.kp, b_ls⟩
  have O_ld : FnOk P w K mg base CX0 15 f_ld g_ld ["door", "family", "title", "value", "good"] (sp_door [q_ma, q_ka, q_ks]) := ok_law_door F_ld XB XG hgT hBB hGG hGB N_ah W_ah W_ro
  have N_ld : Fnn P w K mg base CX0 15 "_law_door" ["door", "family", "title", "value", "good"] (sp_door [q_ma, q_ka, q_ks]) := ⟨f_ld, g_ld, O_ld, PySem.W.mg_of X G a_ld, F_ld.kp, b_ld⟩
  have O_li : FnOk P w K mg base CX0 1 f_li g_li ["found", "due"] sp_law_is := ok_law_is F_li B
  have N_li : Fnn P w K mg base CX0 1 "_law_is" ["found", "due"] sp_law_is := ⟨f_li, g_li, O_li, PySem.W.mg_of X G a_li, F_li.kp, b_li⟩
  have V_lv : Fng P w K mg base 16 "_law_value_right" ["family", "title", "value", "good"] (sp_value [q_ma, q_ka, q_ks]) := ⟨f_lv, g_lv, ok_law_value_right F_lv B hS0 N_lt N_lx NG_it WG_it N_li N_ld, PySem.W.mg_of X G a_lv, F_lv.kp, b_lv⟩
  have O_tr : FnOk P w K mg base CX0 14 f_tr g_tr ["well", "family", "value"] (sp_titles [q_ma, q_ka, q_ks]) := ok_law_titles F_tr B N_lt N_lx N_ls N_li
  have N_tr : Fnn P w K mg base CX0 14 "_law_titles_right" ["well", "family", "value"] (sp_titles [q_ma, q_ka, q_ks]) := ⟨f_tr, g_tr, O_tr, PySem.W.mg_of X G a_tr, F_tr.kp, b_tr⟩
  exact ok_law F_lo B N_lw N_lr N_lf N_lp N_lb N_lg N_tr N_lc V_lv
end K2
set_option Elab.async false
open PySem PySem.W PyProof.Rows
set_option maxRecDepth 100000 in
set_option maxHeartbeats 0 in
theorem PySem.Challenge.cw_sameontrees_k02_trees_judged_holds : PySem.Challenge.rw_sameontrees_k02_trees_judged.Holds := by
  w_on; o_law; k_head; (case hw => w_witness2)
  k_fill
  letI : SL.LamT := ⟨[], fun p hp => by cases hp⟩
  refine SL.walkG (l := PySem.Challenge.rw_sameontrees_k02_trees_judged) (n := 63) (k := 17) (x := "script") rfl (by decide) rfl (by first | rfl | decide +kernel | kernel_rfl) ⟨rfl, by decide, by decide⟩ (fun w h Y => by first | exact kIn_of Y | exact km_in_of Y) ?F
  case F =>
    intro w mg fa h KX G hmg tb
    refine' K2.all_mk KX G hmg ?Z (fun x hx c Q hc => ?tab)
    case tab =>
      simp only [List.mem_cons, List.not_mem_nil, or_false] at hx
      rcases hx with rfl | rfl | rfl | rfl
      · exact tb _ _ _ _ rfl hc
      · exact tb _ _ _ _ rfl hc
      · exact tb _ _ _ _ rfl hc
      · exact tb _ _ _ _ rfl hc
    case Z =>
      refine' ⟨?qn, ?blt, K2.isKept ?kepta ?keptl ?kepts ?keptv, SL.hasInt ?longest, SL.hasInt ?kinds, SL.hasInt ?makers, SL.hasInt ?fields, SL.hasInt ?words, SL.hasInt ?rows, ?gK, ?xK, ?kK, ?bK, ?tK, ?gN, ?xN, ?kN, ?bN, ?tN, ?gB, ?xB, ?kB, ?bB, ?tB, ?gG, ?xG, ?kG, ?bG, ?tG, ?gT, ?bT, ?tT, ?iN, ?iK, ?iB, ?iG, ?sNN, ?sKK, ?sKN, ?sBB, ?sGG, ?sGB, ?d_tp, ?d_rn, ?d_nm, ?d_hi, ?d_un, ?d_ma, ?d_ka, ?d_ks, ?d_in, ?d_dk, ?d_dn, ?d_mo, ?d_ko, ?d_fo, ?d_iw, ?d_it, ?d_dt, ?d_rk, ?d_pl, ?d_ah, ?d_po, ?d_am, ?d_ix, ?d_as, ?d_ro, ?d_lw, ?d_lr, ?d_la, ?d_lf, ?d_lt, ?d_lg, ?d_lp, ?d_lb, ?d_lx, ?d_lc, ?d_ls, ?d_ld, ?d_li, ?d_lv, ?d_tr, ?d_lo⟩
      case qn =>
        refine' K2.qnOf (K2.tabOf (st := K2.s_is_maker_alone) ?qa1 ?ql1 ?qm1 ?qv1) (K2.tabOf (st := K2.s_is_kind_alone) ?qa2 ?ql2 ?qm2 ?qv2) (K2.tabOf (st := K2.s_is_kinds) ?qa3 ?ql3 ?qm3 ?qv3) (K2.tabOf (st := K2.s_rows_of) ?qa4 ?ql4 ?qm4 ?qv4) ?qnd
        (case qa1 => k_is)
        (case ql1 => k_is)
        (case qm1 => k_is)
        (case qv1 => first | rfl)
        (case qa2 => k_is)
        (case ql2 => k_is)
        (case qm2 => k_is)
        (case qv2 => first | rfl)
        (case qa3 => k_is)
        (case ql3 => k_is)
        (case qm3 => k_is)
        (case qv3 => first | rfl)
        (case qa4 => k_is)
        (case ql4 => k_is)
        (case qm4 => k_is)
        (case qv4 => first | rfl)
        (case qnd => first | decide)
      (case blt => intro x hx; simp only [List.mem_cons, List.not_mem_nil, or_false] at hx; (rcases hx with rfl | rfl | rfl | rfl | rfl | rfl | rfl | rfl | rfl | rfl | rfl | rfl | rfl | rfl | rfl | rfl | rfl | rfl | rfl | rfl <;> k_is))
      (case kepta => k_is)
      (case keptl => k_is)
      (case kepts => first | (show _ ≤ sizeLine; decide) | decide +kernel)
      (case keptv => first | exact .cons ⟨_, rfl⟩ (.cons ⟨_, rfl⟩ (.cons ⟨_, rfl⟩ .nil)))
      (case longest => k_is)
      (case kinds => k_is)
      (case makers => k_is)
      (case fields => k_is)
      (case words => k_is)
      (case rows => k_is)
      (case gK => k_is)
      (case xK => first | k_exc)
      (case kK => k_is)
      (case bK => k_is)
      (case tK => k_is)
      (case gN => k_is)
      (case xN => first | k_exc)
      (case kN => k_is)
      (case bN => k_is)
      (case tN => k_is)
      (case gB => k_is)
      (case xB => first | k_exc)
      (case kB => k_is)
      (case bB => k_is)
      (case tB => k_is)
      (case gG => k_is)
      (case xG => first | k_exc)
      (case kG => k_is)
      (case bG => k_is)
      (case tG => k_is)
      (case gT => k_is)
      (case bT => k_is)
      (case tT => k_is)
      (case iN => k_is)
      (case iK => k_is)
      (case iB => k_is)
      (case iG => k_is)
      (case sNN => first | rfl | k_is)
      (case sKK => first | rfl | k_is)
      (case sKN => first | rfl | k_is)
      (case sBB => first | rfl | k_is)
      (case sGG => first | rfl | k_is)
      (case sGB => first | rfl | k_is)
      case d_tp =>
        refine' SL.isDef ?a ?l ?h ?k
        (case a => k_is)
        (case l => k_is)
        (case h => k_is)
        (case k => k_is)
      case d_rn =>
        refine' SL.isDef ?a ?l ?h ?k
        (case a => k_is)
        (case l => k_is)
        (case h => k_is)
        (case k => k_is)
      case d_nm =>
        refine' SL.isDef ?a ?l ?h ?k
        (case a => k_is)
        (case l => k_is)
        (case h => k_is)
        (case k => k_is)
      case d_hi =>
        refine' SL.isDef ?a ?l ?h ?k
        (case a => k_is)
        (case l => k_is)
        (case h => k_is)
        (case k => k_is)
      case d_un =>
        refine' SL.isDef ?a ?l ?h ?k
        (case a => k_is)
        (case l => k_is)
        (case h => k_is)
        (case k => k_is)
      case d_ma =>
        refine' SL.isDefT ?a ?l ?h ?k ?m ?v ?n
        (case a => k_is)
        (case l => k_is)
        (case h => k_is)
        (case k => k_is)
        (case m => k_is)
        (case v => first | rfl)
        (case n => first | kernel_rfl)
      case d_ka =>
        refine' SL.isDefT ?a ?l ?h ?k ?m ?v ?n
        (case a => k_is)
        (case l => k_is)
        (case h => k_is)
        (case k => k_is)
        (case m => k_is)
        (case v => first | rfl)
        (case n => first | kernel_rfl)
      case d_ks =>
        refine' SL.isDefT ?a ?l ?h ?k ?m ?v ?n
        (case a => k_is)
        (case l => k_is)
        (case h => k_is)
        (case k => k_is)
        (case m => k_is)
        (case v => first | rfl)
        (case n => first | kernel_rfl)
      case d_in =>
        refine' SL.isDef ?a ?l ?h ?k
        (case a => k_is)
        (case l => k_is)
        (case h => k_is)
        (case k => k_is)
      case d_dk =>
        refine' SL.isDef ?a ?l ?h ?k
        (case a => k_is)
        (case l => k_is)
        (case h => k_is)
        (case k => k_is)
      case d_dn =>
        refine' SL.isDef ?a ?l ?h ?k
        (case a => k_is)
        (case l => k_is)
        (case h => k_is)
        (case k => k_is)
      case d_mo =>
        refine' SL.isDef ?a ?l ?h ?k
        (case a => k_is)
        (case l => k_is)
        (case h => k_is)
        (case k => k_is)
      case d_ko =>
        refine' SL.isDef ?a ?l ?h ?k
        (case a => k_is)
        (case l => k_is)
        (case h => k_is)
        (case k => k_is)
      case d_fo =>
        refine' SL.isDef ?a ?l ?h ?k
        (case a => k_is)
        (case l => k_is)
        (case h => k_is)
        (case k => k_is)
      case d_iw =>
        refine' SL.isDef ?a ?l ?h ?k
        (case a => k_is)
        (case l => k_is)
        (case h => k_is)
        (case k => k_is)
      case d_it =>
        refine' SL.isDef ?a ?l ?h ?k
        (case a => k_is)
        (case l => k_is)
        (case h => k_is)
        (case k => k_is)
      case d_dt =>
        refine' SL.isDef ?a ?l ?h ?k
        (case a => k_is)
        (case l => k_is)
        (case h => k_is)
        (case k => k_is)
      case d_rk =>
        refine' SL.isDef ?a ?l ?h ?k
        (case a => k_is)
        (case l => k_is)
        (case h => k_is)
        (case k => k_is)
      case d_pl =>
        refine' SL.isDef ?a ?l ?h ?k
        (case a => k_is)
        (case l => k_is)
        (case h => k_is)
        (case k => k_is)
      case d_ah =>
        refine' SL.isDef ?a ?l ?h ?k
        (case a => k_is)
        (case l => k_is)
        (case h => k_is)
        (case k => k_is)
      case d_po =>
        refine' SL.isDef ?a ?l ?h ?k
        (case a => k_is)
        (case l => k_is)
        (case h => k_is)
        (case k => k_is)
      case d_am =>
        refine' SL.isDef ?a ?l ?h ?k
        (case a => k_is)
        (case l => k_is)
        (case h => k_is)
        (case k => k_is)
      case d_ix =>
        refine' SL.isDef ?a ?l ?h ?k
        (case a => k_is)
        (case l => k_is)
        (case h => k_is)
        (case k => k_is)
      case d_as =>
        refine' SL.isDef ?a ?l ?h ?k
        (case a => k_is)
        (case l => k_is)
        (case h => k_is)
        (case k => k_is)
      case d_ro =>
        refine' SL.isDefT ?a ?l ?h ?k ?m ?v ?n
        (case a => k_is)
        (case l => k_is)
        (case h => k_is)
        (case k => k_is)
        (case m => k_is)
        (case v => first | rfl)
        (case n => first | kernel_rfl)
      case d_lw =>
        refine' SL.isDef ?a ?l ?h ?k
        (case a => k_is)
        (case l => k_is)
        (case h => k_is)
        (case k => k_is)
      case d_lr =>
        refine' SL.isDef ?a ?l ?h ?k
        (case a => k_is)
        (case l => k_is)
        (case h => k_is)
        (case k => k_is)
      case d_la =>
        refine' SL.isDef ?a ?l ?h ?k
        (case a => k_is)
        (case l => k_is)
        (case h => k_is)
        (case k => k_is)
      case d_lf =>
        refine' SL.isDef ?a ?l ?h ?k
        (case a => k_is)
        (case l => k_is)
        (case h => k_is)
        (case k => k_is)
      case d_lt =>
        refine' SL.isDef ?a ?l ?h ?k
        (case a => k_is)
        (case l => k_is)
        (case h => k_is)
        (case k => k_is)
      case d_lg =>
        refine' SL.isDef ?a ?l ?h ?k
        (case a => k_is)
        (case l => k_is)
        (case h => k_is)
        (case k => k_is)
      case d_lp =>
        refine' SL.isDef ?a ?l ?h ?k
        (case a => k_is)
        (case l => k_is)
        (case h => k_is)
        (case k => k_is)
      case d_lb =>
        refine' SL.isDef ?a ?l ?h ?k
        (case a => k_is)
        (case l => k_is)
        (case h => k_is)
        (case k => k_is)
      case d_lx =>
        refine' SL.isDef ?a ?l ?h ?k
        (case a => k_is)
        (case l => k_is)
        (case h => k_is)
        (case k => k_is)
      case d_lc =>
        refine' SL.isDef ?a ?l ?h ?k
        (case a => k_is)
        (case l => k_is)
        (case h => k_is)
        (case k => k_is)
      case d_ls =>
        refine' SL.isDef ?a ?l ?h ?k
        (case a => k_is)
        (case l => k_is)
        (case h => k_is)
        (case k => k_is)
      case d_ld =>
        refine' SL.isDef ?a ?l ?h ?k
        (case a => k_is)
        (case l => k_is)
        (case h => k_is)
        (case k => k_is)
      case d_li =>
        refine' SL.isDef ?a ?l ?h ?k
        (case a => k_is)
        (case l => k_is)
        (case h => k_is)
        (case k => k_is)
      case d_lv =>
        refine' SL.isDefC ?a ?l ?h ?k
        (case a => k_is)
        (case l => k_is)
        (case h => k_is)
        (case k => k_is)
      case d_tr =>
        refine' SL.isDefC ?a ?l ?h ?k
        (case a => k_is)
        (case l => k_is)
        (case h => k_is)
        (case k => k_is)
      case d_lo =>
        refine' SL.isDefC ?a ?l ?h ?k
        (case a => k_is)
        (case l => k_is)
        (case h => k_is)
        (case k => k_is)
