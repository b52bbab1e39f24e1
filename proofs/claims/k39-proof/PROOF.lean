import PyProof.Rows.All
import Wide.All
import OpenK.AllK
import Wide.FinOn
import HandS.ForExc
import HandS.ForMost
import HandS.AnyAll
import HandS.Nested
import HandS.GenOver
import HandS.IsInst
import HandS.TupAny
import HandS.TupMul
import HandS.Strs
import HandS.Sort
import HandS.StrMore
import HandS.Walk
import HandS.ExcOwn
import HandS.TryMany
import HandS.Iter
import HandS.Steps
import HandS.SetBool
import HandS.SetKeys
import PyProof.SetRoads
import HandS.Zip
import KE.KDictZip
import PyProof.FactsAll.object_0
import HandS.Star
import HandS.Gcd
import PyProof.ReprRoads
import PyProof.ReprLen
import PyProof.StrLawsRepr
import PyProof.NeKinds
import PyProof.Rows.StrFin3
import PyProof.Rows.StrClose
import PyProof.Rows.StrGather
import HandS.Text
import PyProof.Rows.IntBool
import PyProof.Rows.RuleB_bool
import PyProof.CallStr
import PyProof.PureInt
import PyProof.FactsAll.bool_2
import HandS.HeadWalk
import KE.KNestM
import KE.GoesMore
import PyProof.EnumMake
import HandS.DictComp
import HandS.More
import PyProof.AutoSeq1
import PyProof.NoPylong
import HandS.Wide
import HandS.TryOnly
import HandS.Conv
import HandS.Dict
import HandS.Codes
import PySem.Challenge.RW_sameontrees_k39_whole_made_or_apart
set_option Elab.async false
set_option linter.all false
set_option maxRecDepth 100000
set_option maxHeartbeats 2000000
/-! own rules, 1: a generator expression that all or any consumes, whatever its element does -/
namespace GA
open PySem PySem.Spec PyProof.Rows L2 GxR NdefX

/-- the frame of a generator expression as a context; fp: the walked iterator's records; s, H: where its frame was made -/
@[reducible] def gcx (X : Cx) (N : List Str) (scope : Scope) (cl : List (Str × Addr)) (code : Value) (C : Addr) (A : Around) (fp : List Addr) (s : Shared) (H : Hp) (pn : List (Addr × Obj)) : Cx :=
  { X with A := A, N := N, s_0 := s, H_0 := H, env := genEnv scope cl C code builtinsNs X.env, outer := X.stack, stack := genEnv scope cl C code builtinsNs X.env :: X.stack,
           ex := fp, calm := true, fn := fun _ => false, pn := pn, xe := fun _ _ => False }

/-- a generator expression's scope: the captured names first, then its own -/
structure GSc (N fr : List Str) (sc : Scope) : Prop where
  kind : sc.kind = .function
  co : sc.isCoroutine = false
  nd : N.Nodup
  pre : N.take fr.length = fr
  dot : sc.names.lookup (".0" : Str) = some NameKind.local
  nocell : ∀ y ∈ sc.names, y.2 ≠ .cell
  free : ∀ y ∈ sc.names, y.2 = .free → y.1 ∈ fr
  frk : ∀ x ∈ fr, sc.names.lookup x = some .free
  frm : ∀ y ∈ fr, (y, NameKind.free) ∈ sc.names
def gscB (N fr : List Str) (sc : Scope) : Bool :=
  decide (sc.kind = .function) && !sc.isCoroutine && decide N.Nodup && decide (N.take fr.length = fr) && decide (sc.names.lookup (".0" : Str) = some NameKind.local) && sc.names.all (fun y => !decide (y.2 = .cell)) &&
    sc.names.all (fun y => !decide (y.2 = .free) || decide (y.1 ∈ fr)) && fr.all (fun x => decide (sc.names.lookup x = some .free)) && fr.all fun y => decide ((y, NameKind.free) ∈ sc.names)
theorem gsc_by {N fr : List Str} {sc : Scope} (h : gscB N fr sc = true) : GSc N fr sc := by
  unfold gscB at h
  simp only [Bool.and_eq_true, Bool.not_eq_true', decide_eq_true_eq, List.all_eq_true, Bool.or_eq_true, decide_eq_false_iff_not] at h
  obtain ⟨⟨⟨⟨⟨⟨⟨⟨h1, h2⟩, h3⟩, h4⟩, h5⟩, h6⟩, h7⟩, h8⟩, h9⟩ := h
  exact ⟨h1, h2, h3, h4, h5, h6, fun y hy e => (h7 y hy).elim (fun z => absurd e z) id, h8, h9⟩

section
variable {X : Cx} {pins : List (Addr × Obj)} {σ : L2.St} {H H' : Hp} {s s' : Shared}

theorem not_stk (I : Inv X pins σ H s) {b : Addr} (h1 : b ≠ X.env.locals) (h2 : b ∉ X.fs) : b ∉ frs X.stack := fun z =>
  (List.mem_cons.mp (I.stkSub b z)).elim h1 h2

theorem inv_gcx {N fr : List Str} {scope : Scope} {cl : List (Str × Addr)} {js : List Nat} {code : Value} {C : Addr} {A : Around} {fp : List Addr} {pn : List (Addr × Obj)} {m : Str → Option Value}
    (I : Inv X pins σ H s) (S : GSc N fr scope) (cp : Caps X cl fr js) (hA : A.handled = none) (hfr : A.frames = some (genEnv scope cl C code builtinsNs X.env :: X.stack))
    (hfp : ∀ b ∈ fp, FpOk X pins H b) (hfl : ∀ b ∈ fp, b < s.heap.objs.size) (hC : s.heap.objs.size ≤ C) (hns : s'.heap.Ns C m) (hos : s'.os = s.os) (hb : AllBare s'.gens) (un : Un (frs X.stack) fp H H' s.heap s'.heap)
    (hok : HOk X.prog X.w H' s'.heap) (hfC : H' C = none)
    (hpn : ∀ p ∈ pn, s'.heap.get? p.1 = some p.2 ∧ H' p.1 = none ∧ p.1 ≠ C ∧ p.1 ∉ frs X.stack ∧ ∀ v, p.2.data ≠ .cell v) :
    Inv (gcx X N scope cl code C A fp s H pn) [] (startF N [] (js.map (slotAt σ))) H' s' := by
  have CA := cells_of I cp
  have ltc : ∀ y c, cl.lookup y = some c → c < s.heap.objs.size := fun y c e => by
    obtain ⟨_, v, o, ho, _⟩ := CA.all y c e
    exact Heap.lt_size ho
  have cfp : ∀ y c, cl.lookup y = some c → c ∉ fp := fun y c e z => (hfp c z).2.2.2.2.1 y c (cp.sub y c e) rfl
  have cellK : ∀ y c, cl.lookup y = some c → ∀ v, s.heap.IsCell c v → s'.heap.IsCell c v := fun y c e v ⟨o, ho, hd⟩ => by
    obtain ⟨sl, q⟩ := un.any ho (CA.all y c e).1 (cfp y c e)
    exact ⟨_, q, hd⟩
  have hgk : ∀ y, (gcx X N scope cl code C A fp s H pn).env.kindOf y = scope.names.lookup y := fun y => rfl
  refine ⟨⟨I.ok.mod, S.kind, I.ok.glob, rfl, hC, CA.inj, fun y hy => ?_, fun y c z _ => ?_, fun _ => hA, hfr, .inr ⟨rfl, rfl⟩, fun b hb => ⟨fun z => ?_, fun y c e z => ?_⟩, I.bs, Nat.le_trans I.ok.bsz I.sz, fun b o e hb => ?_, fun b hb => ?_, I.stack, I.stkFree⟩,
    hos, hb, un, ⟨m, hns, fun i y v e1 e2 e3 => ?_⟩, fun y c e => ?_, hfC, fun y c e => ?_, fun p hp => ?_, hok, ?_⟩
  · rw [hgk] at hy
    rcases hy with hy | hy
    · exact absurd rfl (S.nocell _ (PySem.mem_of_lookup hy))
    · obtain ⟨i, hi⟩ := List.mem_iff_getElem?.mp (S.free _ (PySem.mem_of_lookup hy) rfl)
      obtain ⟨c, hc, _⟩ := CA.has i y hi
      exact ⟨c, hc⟩
  · exact absurd z Bool.false_ne_true
  · have h1 := hfl b hb
    have z' : b = C := z
    rw [z'] at h1
    exact absurd (Nat.lt_of_lt_of_le h1 hC) (Nat.lt_irrefl _)
  · have h2 := ltc y c e
    exact cfp y c e (by rw [show c = b from z]; exact hb)
  · have h1 := (I.ok.bs b o e).1
    rcases (hfp b hb).2.2.2.1 with h2 | h2
    · exact I.ok.noex b o e h2
    · exact absurd (Nat.lt_of_lt_of_le (Heap.lt_size h1) h2) (Nat.lt_irrefl _)
  · exact not_stk I (hfp b hb).2.1 (hfp b hb).2.2.1
  · have e1 : N[i]? = some y := e1
    have clen := CA.len
    rw [List.length_map] at clen
    unfold startF at e2
    rw [List.map_nil, List.nil_append] at e2
    by_cases h2 : i < fr.length
    · have hq : fr[i]? = some y := by
        rw [← S.pre, List.getElem?_take_of_lt h2]
        exact e1
      rw [List.getElem?_append_left (by rw [List.length_map]; omega)] at e2
      obtain ⟨c, hc, hv⟩ := CA.has i y hq
      obtain ⟨u, ru, hu⟩ := hv v e2
      exact ⟨u, ru, .inr ⟨.inr (S.frk y (List.mem_of_getElem? hq)), c, hc, cellK y c hc _ hu⟩⟩
    · rw [List.getElem?_append_right (by rw [List.length_map]; omega), List.getElem?_replicate] at e2
      split at e2 <;> cases e2
  · obtain ⟨v, z⟩ := (CA.all y c e).2
    exact ⟨v, cellK y c e v z⟩
  · obtain ⟨n, v, o, ho, _⟩ := CA.all y c e
    exact un.free c o ho n (cfp y c e)
  · rw [List.append_nil] at hp
    exact hpn p hp
  · have clen := CA.len
    have hpl := congrArg List.length S.pre
    simp only [List.length_take] at hpl
    unfold startF
    show _ = N.length
    simp only [List.length_append, List.length_map, List.length_replicate, List.length_nil, List.map_nil]
    rw [List.length_map] at clen
    omega
end
end GA
set_option Elab.async false
set_option linter.all false
set_option maxRecDepth 100000
set_option maxHeartbeats 2000000
namespace GA
open PySem PySem.Spec PyProof.Rows L2 GxR NdefX

section
variable {A : Around} {elt tg iter : Expr} {scope : Scope} {gpos : Pos} {it acc : Value} {cenv : Env} {ifs : List Expr}
abbrev gexp (elt tg iter : Expr) (scope : Scope) (gpos : Pos) : Expr := .GeneratorExp elt [⟨tg, iter, [], 0⟩] scope gpos
abbrev gloop (elt tg iter : Expr) (scope : Scope) (gpos : Pos) (it : Value) (cenv : Env) : Code := .compLoop (gexp elt tg iter scope gpos) 0 it .none cenv
abbrev gstart (elt tg iter : Expr) (scope : Scope) (gpos : Pos) (it : Value) (cenv : Env) : Code := .compStart (gexp elt tg iter scope gpos) 0 it .none cenv
theorem overL_hd : (A.over (gloop elt tg iter scope gpos it cenv) []).handled = A.handled := rfl
theorem overL_fr {l : List Env} (h : A.frames = some l) : (A.over (gloop elt tg iter scope gpos it cenv) []).frames = some (cenv :: l) := by
  show pushEnvs [cenv] (pushEnvs [] A.frames) = _
  rw [h] <;> rfl
theorem overL_dp : (A.over (gloop elt tg iter scope gpos it cenv) []).depth = A.depth + 1 := by
  show A.depth + 0 + 1 = _
  omega
theorem overL_un : (A.over (gloop elt tg iter scope gpos it cenv) []).units = A.units + 3 := by
  show A.units + 0 + 3 = _
  omega
theorem roomL {k : Nat} (r : Room (k + 1) A) : Room k ((A.in1.in1).over (gloop elt tg iter scope gpos it cenv) []) :=
  ⟨r.hd, by have := r.dp; rw [overL_dp]; show A.depth + 1 + 3 * k + 5 < _; omega, by have := r.un; rw [overL_un]; show A.units + 1 + 1 + 3 + 16 * k + 200 < _; omega⟩
end

/-- the turns of a generator expression, in its own frame: W an invariant over turn, measure, slots and heap; Qe: behind its end; K: what is known of what is handed out -/
def GTurn (J : It) (g : TG) (te : TE) (W : Nat → Nat → L2.St → Hp → Prop) (Qe : Hp → Prop) (K : Nat → Nat → L2.St → V → Hp → Prop) : Prop :=
  ∀ i m σ H, W i m σ H → (J.stop i H ∧ Qe H) ∨ (J.go i H ∧ 0 < m ∧ ∀ x H', J.yld i H x H' → g x σ H' fun σ2 H2 => te σ2 H2 fun r H3 => K i m σ2 r H3)

section
variable {X : Cx} {N : List Str} {elt tg iter : Expr} {scope : Scope} {gpos : Pos} {cl : List (Str × Addr)} {code : Value} {C it ga : Addr} {go : Obj} {fp : List Addr} {s2 : Shared} {H2 : Hp} {J : It} {g : TG} {te : TE}
  {W : Nat → Nat → L2.St → Hp → Prop} {Qe : Hp → Prop} {K : Nat → Nat → L2.St → V → Hp → Prop} {tn : Nat → Heap → Prop}
abbrev cenvOf (X : Cx) (scope : Scope) (cl : List (Str × Addr)) (code : Value) (C : Addr) : Env := genEnv scope cl C code builtinsNs X.env
/-- the running frame's context -/
abbrev gX (X : Cx) (N : List Str) (elt tg iter : Expr) (scope : Scope) (gpos : Pos) (cl : List (Str × Addr)) (code : Value) (C it : Addr) (fp : List Addr) (s2 : Shared) (H2 : Hp) (pn : List (Addr × Obj)) : Cx :=
  gcx X N scope cl code C ((X.A.in1.in1).over (gloop elt tg iter scope gpos (.ref it) (cenvOf X scope cl code C)) []) fp s2 H2 pn
def gEnd (Xg : Cx) (fp : List Addr) (Qe : Hp → Prop) : Nat → Shared → Shared → Prop := fun _ _ s => ∃ σ H, Inv Xg [] σ H s ∧ (∀ b ∈ fp, H b = none) ∧ Qe H
def gYld (Xg : Cx) (fp : List Addr) (tn : Nat → Heap → Prop) (W : Nat → Nat → L2.St → Hp → Prop) (K : Nat → Nat → L2.St → V → Hp → Prop) : Protocol := fun _ _ v s kap =>
  ∃ i m σ H r, RelV r v ∧ Inv Xg [] σ H s ∧ tn (i + 1) s.heap ∧ (∀ b ∈ fp, H b = none) ∧ K i m σ r H ∧
    ∀ m' s'', m' < m → W (i + 1) m' σ H → s''.heap = s.heap → s''.os = s.os → AllBare s''.gens → kap (.send .none) s''

theorem fpOk_g {pins : List (Addr × Obj)} {σ : L2.St} {H : Hp} {s : Shared} {pn : List (Addr × Obj)} (I : Inv (gX X N elt tg iter scope gpos cl code C it fp s2 H2 pn) pins σ H s) (hn : ∀ b ∈ fp, H b = none) (hp : ∀ b ∈ fp, ∀ p ∈ pn ++ pins, p.1 ≠ b) :
    ∀ b ∈ fp, FpOk (gX X N elt tg iter scope gpos cl code C it fp s2 H2 pn) pins H b := fun b hb =>
  ⟨hn b hb, (I.ok.exf b hb).1, I.ok.exfs b hb, .inl hb, (I.ok.exf b hb).2, hp b hb⟩

theorem inv_awake {pins : List (Addr × Obj)} {σ : L2.St} {H : Hp} {s s' : Shared} (I : Inv X pins σ H s) (h1 : s'.heap = s.heap) (h2 : s'.os = s.os) (h3 : AllBare s'.gens) : Inv X pins σ H s' := by
  refine Inv.call' (ch := []) I h2 ?_ ?_ h3 (fun b z => absurd z (by simp))
  · rw [h1]; exact Un.refl
  · rw [h1]; exact I.hok

theorem seg_gloop (hg : PG (gX X N elt tg iter scope gpos cl code C it fp s2 H2 [(ga, go)]) tg g) (he : PE (gX X N elt tg iter scope gpos cl code C it fp s2 H2 [(ga, go)]) elt te)
    (T : Turn X.prog X.w X.K tg J fp it tn) (hfp : ga ∉ fp) (hco : scope.isCoroutine = false) (turn : GTurn J g te W Qe K) :
    ∀ (n m i : Nat) (s₀ s : Shared) (σ : L2.St) (H : Hp), m ≤ n → W i m σ H → Inv (gX X N elt tg iter scope gpos cl code C it fp s2 H2 [(ga, go)]) [] σ H s → tn i s.heap → (∀ b ∈ fp, H b = none) →
      Seg (model X.prog X.w) X.A.in1.in1 (fun n s₀ r s₁ => r = .ok .next ∧ gEnd (gX X N elt tg iter scope gpos cl code C it fp s2 H2 [(ga, go)]) fp Qe n s₀ s₁) (gYld (gX X N elt tg iter scope gpos cl code C it fp s2 H2 [(ga, go)]) fp tn W K) n s₀
        (gloop elt tg iter scope gpos (.ref it) (cenvOf X scope cl code C)) ((model X.prog X.w).den (gloop elt tg iter scope gpos (.ref it) (cenvOf X scope cl code C))) [] s := by
  intro n
  have pne : ∀ pins : List (Addr × Obj), (∀ p ∈ pins, p.1 ∈ fp → False) → ∀ b ∈ fp, ∀ p ∈ [(ga, go)] ++ pins, p.1 ≠ b := fun pins hp b hb p h e => by
    rcases List.mem_append.mp h with h | h
    · rw [List.mem_singleton.mp h] at e
      exact hfp (by rw [show ga = b from e]; exact hb)
    · exact hp p h (by rw [e]; exact hb)
  induction n with
  | zero =>
    intro m i s₀ s σ H hm hw I hst hn
    show Seg _ _ _ _ _ s₀ _ ((compTurn (gexp elt tg iter scope gpos) 0 (.ref it) .none (cenvOf X scope cl code C)).onRaise (leaving (cenvOf X scope cl code C))) [] s
    rw [compTurn_gen, Sem.onRaise_eq_wrap]
    refine seg_bind_wrap (wpAny_standAt ?_)
    rcases turn i m σ H hw with ⟨st, q⟩ | ⟨_, hm0, _⟩
    · refine seg_bind_wrap (wpAny_mono (T.done (gX X N elt tg iter scope gpos cl code C it fp s2 H2 [(ga, go)]) rfl rfl rfl rfl i [] s σ H (fun _ _ => False) I (fpOk_g I hn (pne [] fun _ h => by simp at h)) hst st) (fun r s' ⟨hr, I'⟩ => ?_) fun _ _ e => e.elim)
      subst hr
      exact seg_end (.ok .next) ⟨rfl, σ, H, I', hn, q⟩
    · omega
  | succ n ih =>
    intro m i s₀ s σ H hm hw I hst hn
    show Seg _ _ _ _ _ s₀ _ ((compTurn (gexp elt tg iter scope gpos) 0 (.ref it) .none (cenvOf X scope cl code C)).onRaise (leaving (cenvOf X scope cl code C))) [] s
    rw [compTurn_gen, Sem.onRaise_eq_wrap]
    refine seg_bind_wrap (wpAny_standAt ?_)
    have ok0 := fpOk_g I hn (pne [] fun _ h => by simp at h)
    rcases turn i m σ H hw with ⟨st, q⟩ | ⟨hgo, hm0, hstep⟩
    · refine seg_bind_wrap (wpAny_mono (T.done (gX X N elt tg iter scope gpos cl code C it fp s2 H2 [(ga, go)]) rfl rfl rfl rfl i [] s σ H (fun _ _ => False) I ok0 hst st) (fun r s' ⟨hr, I'⟩ => ?_) fun _ _ e => e.elim)
      subst hr
      exact seg_end (.ok .next) ⟨rfl, σ, H, I', hn, q⟩
    · refine seg_bind_wrap (wpAny_mono (T.item (gX X N elt tg iter scope gpos cl code C it fp s2 H2 [(ga, go)]) rfl rfl rfl rfl i [] s σ H (fun _ _ => False) I ok0 hst hgo) (fun r s3 ⟨u, hr, h3⟩ => ?_) fun _ _ e => e.elim)
      subst hr
      refine seg_bind_wrap (wpAny_mono h3 (fun _ s4 ⟨x, H4, I4, r4, y4, st4, n4⟩ => ?_) fun _ _ e => e.elim)
      have I4' := I4.pinned (fpOk_g I4 n4 (pne [] fun _ h => by simp at h)) (T.obj _ _ st4)
      refine seg_bind_wrap (wpAny_mono (hg.run _ s4 σ H4 x u _ I4' r4 (hstep x H4 y4)) (fun _ s5 ⟨σ5, H5, I5, q5⟩ => ?_) fun _ _ e => e.elim)
      simp only [List.forIn_nil]
      refine seg_bind_wrap (wpAny_pure ?_)
      simp only [if_true]
      have hy : ∀ v, yieldOut (cenvOf X scope cl code C) v = yieldValue v := fun v => by
        unfold yieldOut
        rw [show (cenvOf X scope cl code C).scope.isCoroutine = false from hco] <;> rfl
      simp only [hy]
      rw [Sem.bind_eq_wrap', Sem.bind_eq_wrap', Sem.wrap_wrap, Sem.wrap_wrap]
      refine seg_wrap (wpAny_mono (he.run _ s5 σ5 H5 _ I5 q5) (fun v s6 ⟨r, H6, I6, r6, q6⟩ => ?_) fun _ _ e => e.elim)
      have keepP : ∀ b ∈ fp, (∀ o, s4.heap.get? b = some o → s6.heap.get? b = some o) ∧ H6 b = none := fun b hb => by
        obtain ⟨o, e, d⟩ := T.obj _ _ st4 b hb
        have z := I6.pin (b, o) (List.mem_append_right _ (List.mem_append_right _ (mem_pinsAt hb e)))
        exact ⟨fun o' e' => by rw [e] at e'; cases e'; exact z.1, z.2.1⟩
      have st6 := T.keep _ _ s6.heap st4 fun b hb o e => (keepP b hb).1 o e
      have J6 : Inv (gX X N elt tg iter scope gpos cl code C it fp s2 H2 [(ga, go)]) [] σ5 H6 s6 := I6.unpinned (pins := [])
      refine seg_at (seg_yield rfl rfl rfl ⟨i, m, σ5, H6, r, r6, J6, st6, fun b hb => (keepP b hb).2, q6, fun m' s'' hlt hw' e1 e2 e3 => ?_⟩)
      refine seg_again rfl (ih m' (i + 1) s'' s'' σ5 H6 (by omega) hw' (inv_awake J6 e1 e2 e3) (by rw [e1]; exact st6) fun b hb => (keepP b hb).2)
end
end GA
set_option Elab.async false
set_option linter.all false
set_option maxRecDepth 100000
set_option maxHeartbeats 2000000
namespace GA
open PySem PySem.Spec PyProof.Rows L2 GxR NdefX
open GenW

theorem allBare_set {s : Shared} {g : Nat} {x : GenState} (h : AllBare s.gens) (hx : x.bare = true) : AllBare (s.setGen g x).gens := fun y hy => by
  have hy : y ∈ s.gens.setIfInBounds g x := hy
  rcases Array.mem_or_eq_of_mem_setIfInBounds hy with z | z
  · exact h y z
  · rw [z]; exact hx
theorem setGen_at {s : Shared} {g : Nat} {x : GenState} (h : g + 1 ≤ (s.setGen g x).gens.size) : (s.setGen g x).gens[g]? = some x := by
  rw [setGen_size] at h
  have hlt : g < s.gens.size := h
  simp [Shared.setGen, hlt]

section
variable {X : Cx} {N : List Str} {elt tg iter : Expr} {scope : Scope} {gpos : Pos} {cl : List (Str × Addr)} {code : Value} {C it ga : Addr} {go : Obj} {fp : List Addr} {s2 : Shared} {H2 : Hp} {J : It} {g : TG} {te : TE}
  {W : Nat → Nat → L2.St → Hp → Prop} {Qe : Hp → Prop} {K : Nat → Nat → L2.St → V → Hp → Prop} {tn : Nat → Heap → Prop}

theorem seg_gstart (hg : PG (gX X N elt tg iter scope gpos cl code C it fp s2 H2 [(ga, go)]) tg g) (he : PE (gX X N elt tg iter scope gpos cl code C it fp s2 H2 [(ga, go)]) elt te)
    (T : Turn X.prog X.w X.K tg J fp it tn) (hfp : ga ∉ fp) (hco : scope.isCoroutine = false) (turn : GTurn J g te W Qe K) (n m : Nat) (s₀ s : Shared) (σ : L2.St) (H : Hp) (hm : m ≤ n) (hw : W 0 m σ H)
    (I : Inv (gX X N elt tg iter scope gpos cl code C it fp s2 H2 [(ga, go)]) [] σ H s) (hst : tn 0 s.heap) (hn : ∀ b ∈ fp, H b = none) :
    Seg (model X.prog X.w) X.A.in1.in1 (fun n s₀ r s₁ => r = .ok .next ∧ gEnd (gX X N elt tg iter scope gpos cl code C it fp s2 H2 [(ga, go)]) fp Qe n s₀ s₁) (gYld (gX X N elt tg iter scope gpos cl code C it fp s2 H2 [(ga, go)]) fp tn W K) n s₀
      (gstart elt tg iter scope gpos (.ref it) (cenvOf X scope cl code C)) ((model X.prog X.w).den (gstart elt tg iter scope gpos (.ref it) (cenvOf X scope cl code C))) [] s := by
  have loop := seg_gloop hg he T hfp hco turn n m 0 s₀ s σ H hm hw I hst hn
  show Seg _ _ _ _ _ s₀ _ ((compStart (gexp elt tg iter scope gpos) 0 (.ref it) .none (cenvOf X scope cl code C)).onRaise (leaving (cenvOf X scope cl code C))) [] s
  unfold compStart
  rw [Sem.onRaise_eq_wrap]
  show Seg _ _ _ _ _ s₀ _ ((ask >>= _).wrap _ _ _ _) [] s
  refine seg_bind_wrap (wpAny_askSetting ?_)
  split
  · exact seg_again rfl loop
  · refine seg_bind_wrap (wpAny_rule ?_)
    show Seg _ _ _ _ _ s₀ _ ((standAt iter.pos >>= _).wrap _ _ _ _) [] s
    exact seg_bind_wrap (wpAny_standAt (seg_bind_wrap (T.self _ 0 s _ _ hst (seg_again rfl loop))))

/-- a generator that stands ready, in the state s: it will go on from the turn i -/
def GSt (X Xg : Cx) (fp : List Addr) (tn : Nat → Heap → Prop) (W : Nat → Nat → L2.St → Hp → Prop) (Qe : Hp → Prop) (K : Nat → Nat → L2.St → V → Hp → Prop) (gn n : Nat) (H : Hp) (s : Shared) : Prop :=
  ∃ σ gs, Inv Xg [] σ H s ∧ (∀ b ∈ fp, H b = none) ∧ s.gens[gn]? = some gs ∧ ∀ s'', s''.heap = s.heap → s''.os = s.os → AllBare s''.gens →
    gs.Goes (model X.prog X.w) X.A.in1.in1 (fun n s₀ r s₁ => r = .ok .next ∧ gEnd Xg fp Qe n s₀ s₁) (gYld Xg fp tn W K) n (.send .none) s''

/-- what all and any ask of an item: stop: the truth at which they end -/
def KB (stop : Bool) (W : Nat → Nat → L2.St → Hp → Prop) (Qb : Bool → Hp → Prop) : Nat → Nat → L2.St → V → Hp → Prop := fun i m σ r H =>
  ∃ b, r = .bl b ∧ if b = stop then Qb stop H else ∃ m', m' < m ∧ W (i + 1) m' σ H

theorem g_next {stop : Bool} {gn : Nat} {Qb : Bool → Hp → Prop} {Q : Option Value → Shared → Prop} {E : Value → Shared → Prop} {n : Nat} {H : Hp} {s : Shared} {k : Nat} {pn : List (Addr × Obj)}
    (hr : Room k X.A) (hgo : ∀ s : Shared, s.heap.get? ga = some go → s.heap.IsGen ga gn) (hpn : pn = [(ga, go)])
    (st : GSt X (gX X N elt tg iter scope gpos cl code C it fp s2 H2 pn) fp tn W (Qb (!stop)) (KB stop W Qb) gn n H s)
    (hend : ∀ σ H' s', Inv (gX X N elt tg iter scope gpos cl code C it fp s2 H2 pn) [] σ H' s' → (∀ b ∈ fp, H' b = none) → Qb (!stop) H' → Q none s')
    (hstop : ∀ σ H' s', Inv (gX X N elt tg iter scope gpos cl code C it fp s2 H2 pn) [] σ H' s' → (∀ b ∈ fp, H' b = none) → Qb stop H' → Q (some (.bool stop)) s')
    (hgoon : ∀ m H' s', n = m + 1 → GSt X (gX X N elt tg iter scope gpos cl code C it fp s2 H2 pn) fp tn W (Qb (!stop)) (KB stop W Qb) gn m H' s' → Q (some (.bool (!stop))) s') :
    wpAny (model X.prog X.w) X.A.in1 (pyNext (.ref ga)) Q E s := by
  subst hpn
  obtain ⟨σ, gs, I, hn, hgs, goes⟩ := st
  have hlt : gn + 1 ≤ s.gens.size := by
    rcases Nat.lt_or_ge gn s.gens.size with h | h
    · exact h
    · rw [Array.getElem?_eq_none h] at hgs; cases hgs
  have hpin := (I.pin (ga, go) (List.mem_append_left _ (List.mem_singleton.mpr rfl))).1
  refine wpAny_gsz (n := gn + 1) hlt ?_
  refine wpAny_pyNext_genexpQ (Y := gYld (gX X N elt tg iter scope gpos cl code C it fp s2 H2 [(ga, go)]) fp tn W (KB stop W Qb)) (P := gEnd (gX X N elt tg iter scope gpos cl code C it fp s2 H2 [(ga, go)]) fp (Qb (!stop))) (n := n) hr.hd I.nolimit hr.depth (hgo s hpin) hgs (goes _ rfl rfl (allBare_set I.bare rfl)) (fun v s₁ gs' hb hv => ?_) (fun s₁ hp h' hk => ?_)
  · obtain ⟨i, m, σ', H', r, rv, J', st', n', ⟨b, eb, kb⟩, kap⟩ := hv
    subst eb
    obtain rfl : v = Value.bool b := rv
    have J2 : Inv (gX X N elt tg iter scope gpos cl code C it fp s2 H2 [(ga, go)]) [] σ' H' (s₁.setGen gn gs') := inv_awake J' rfl rfl (allBare_set J'.bare hb)
    intro hsz
    by_cases e : b = stop
    · subst e
      rw [if_pos rfl] at kb
      exact hstop σ' H' _ J2 n' kb
    · rw [if_neg e] at kb
      have eb : b = !stop := by cases b <;> cases stop <;> simp_all
      subst eb
      obtain ⟨m', hm', w'⟩ := kb
      cases n with
      | zero => exact (kap m' s₁ hm' w' rfl rfl J'.bare).elim
      | succ n0 =>
        exact hgoon n0 H' _ rfl ⟨σ', gs', J2, n', setGen_at hsz, fun s'' e1 e2 e3 => kap m' s'' hm' w' e1 e2 e3⟩
  · obtain ⟨σ', H', J', n', q⟩ := hp
    intro _
    have J2 : Inv (gX X N elt tg iter scope gpos cl code C it fp s2 H2 [(ga, go)]) [] σ' H' (s₁.setGen gn .finished) := inv_awake J' rfl rfl (allBare_set J'.bare rfl)
    exact hend σ' H' _ (J2.kept (t' := s₁.toks) hk) n' q

theorem all_loop {gn : Nat} {Qb : Bool → Hp → Prop} {k : Nat} {pn : List (Addr × Obj)} {R : Result → Shared → Prop}
    (hr : Room k X.A) (hgo : ∀ s : Shared, s.heap.get? ga = some go → s.heap.IsGen ga gn) (hpn : pn = [(ga, go)])
    (hR : ∀ b σ H' s', Inv (gX X N elt tg iter scope gpos cl code C it fp s2 H2 pn) [] σ H' s' → (∀ b ∈ fp, H' b = none) → Qb b H' → R (.ok (.ret (.bool b))) s') :
    ∀ (n : Nat) (H : Hp) (s : Shared), GSt X (gX X N elt tg iter scope gpos cl code C it fp s2 H2 pn) fp tn W (Qb true) (KB false W Qb) gn n H s → codeAny (model X.prog X.w) X.A (.builtin "all.loop" ⟨[.ref ga], []⟩) R s := by
  intro n
  induction n with
  | zero =>
    intro H s st
    refine codeAny_builtin F.entry_all_loop ?_
    rw [Around.under_plainId F.plain_all_loop _]
    show wpAny _ X.A.in1 (pyNext (.ref ga) >>= _) _ _ s
    refine wpAny_bind (g_next (stop := false) hr hgo hpn st (fun σ H' s' J n' q => ?_) (fun σ H' s' J n' q => ?_) (fun m H' s' e => by omega))
    · exact wpAny_bind (wpAny_rule (wpAny_pure (hR true σ H' s' J n' q)))
    · refine wpAny_bind (wpAny_holding (wpAny_truthy_bool ?_))
      refine wpAny_bind (wpAny_letGo ?_)
      simp only [Bool.false_eq_true, if_false]
      exact wpAny_bind (wpAny_rule (wpAny_pure (hR false σ H' s' J n' q)))
  | succ n ih =>
    intro H s st
    refine codeAny_builtin F.entry_all_loop ?_
    rw [Around.under_plainId F.plain_all_loop _]
    show wpAny _ X.A.in1 (pyNext (.ref ga) >>= _) _ _ s
    refine wpAny_bind (g_next (stop := false) hr hgo hpn st (fun σ H' s' J n' q => ?_) (fun σ H' s' J n' q => ?_) (fun m H' s' e st' => ?_))
    · exact wpAny_bind (wpAny_rule (wpAny_pure (hR true σ H' s' J n' q)))
    · refine wpAny_bind (wpAny_holding (wpAny_truthy_bool ?_))
      refine wpAny_bind (wpAny_letGo ?_)
      simp only [Bool.false_eq_true, if_false]
      exact wpAny_bind (wpAny_rule (wpAny_pure (hR false σ H' s' J n' q)))
    · have e' : m = n := by omega
      subst e'
      refine wpAny_bind (wpAny_holding (wpAny_truthy_bool ?_))
      refine wpAny_bind (wpAny_letGo ?_)
      simp only [Bool.not_false, if_true]
      exact wpAny_pure ⟨plainId_quiet F.plain_all_loop _, ih H' s' st'⟩

theorem any_loop {gn : Nat} {Qb : Bool → Hp → Prop} {k : Nat} {pn : List (Addr × Obj)} {R : Result → Shared → Prop}
    (hr : Room k X.A) (hgo : ∀ s : Shared, s.heap.get? ga = some go → s.heap.IsGen ga gn) (hpn : pn = [(ga, go)])
    (hR : ∀ b σ H' s', Inv (gX X N elt tg iter scope gpos cl code C it fp s2 H2 pn) [] σ H' s' → (∀ b ∈ fp, H' b = none) → Qb b H' → R (.ok (.ret (.bool b))) s') :
    ∀ (n : Nat) (H : Hp) (s : Shared), GSt X (gX X N elt tg iter scope gpos cl code C it fp s2 H2 pn) fp tn W (Qb false) (KB true W Qb) gn n H s → codeAny (model X.prog X.w) X.A (.builtin "any.loop" ⟨[.ref ga], []⟩) R s := by
  intro n
  induction n with
  | zero =>
    intro H s st
    refine codeAny_builtin F.entry_any_loop ?_
    rw [Around.under_plainId F.plain_any_loop _]
    show wpAny _ X.A.in1 (pyNext (.ref ga) >>= _) _ _ s
    refine wpAny_bind (g_next (stop := true) hr hgo hpn st (fun σ H' s' J n' q => ?_) (fun σ H' s' J n' q => ?_) (fun m H' s' e => by omega))
    · exact wpAny_bind (wpAny_rule (wpAny_pure (hR false σ H' s' J n' q)))
    · refine wpAny_bind (wpAny_holding (wpAny_truthy_bool ?_))
      refine wpAny_bind (wpAny_letGo ?_)
      simp only [if_true]
      exact wpAny_bind (wpAny_rule (wpAny_pure (hR true σ H' s' J n' q)))
  | succ n ih =>
    intro H s st
    refine codeAny_builtin F.entry_any_loop ?_
    rw [Around.under_plainId F.plain_any_loop _]
    show wpAny _ X.A.in1 (pyNext (.ref ga) >>= _) _ _ s
    refine wpAny_bind (g_next (stop := true) hr hgo hpn st (fun σ H' s' J n' q => ?_) (fun σ H' s' J n' q => ?_) (fun m H' s' e st' => ?_))
    · exact wpAny_bind (wpAny_rule (wpAny_pure (hR false σ H' s' J n' q)))
    · refine wpAny_bind (wpAny_holding (wpAny_truthy_bool ?_))
      refine wpAny_bind (wpAny_letGo ?_)
      simp only [if_true]
      exact wpAny_bind (wpAny_rule (wpAny_pure (hR true σ H' s' J n' q)))
    · have e' : m = n := by omega
      subst e'
      refine wpAny_bind (wpAny_holding (wpAny_truthy_bool ?_))
      refine wpAny_bind (wpAny_letGo ?_)
      simp only [Bool.not_true, Bool.false_eq_true, if_false]
      exact wpAny_pure ⟨plainId_quiet F.plain_any_loop _, ih H' s' st'⟩
end
end GA
set_option Elab.async false
set_option linter.all false
set_option maxRecDepth 100000
set_option maxHeartbeats 2000000
namespace GA
open PySem PySem.Spec PyProof.Rows L2 GxR NdefX
open GenW

/-- the reading of all(elt for tg in iter), any(..): stop: the truth that ends it -/
def tGen (P : Addr) (wi : TI) (g : TG) (te : TE) (N : List Str) (js : List Nat) (stop : Bool) : TE := fun σ H Q =>
  wi σ H fun J H1 => TabG H1 P ∧ ∀ H2, Tabbed P H1 H2 → ∃ W, (∃ m, W 0 m (startF N [] (js.map (slotAt σ))) H2) ∧ GTurn J g te W (fun H' => Q (.bl (!stop)) H') (KB stop W fun b H' => Q (.bl b) H')

section
variable {X : Cx} {N fr : List Str} {js : List Nat} {elt tg iter : Expr} {scope : Scope} {gpos : Pos} {g : TG} {te : TE} {wi : TI} {c P : Addr} {k : Nat} {stop : Bool}

theorem gen_made {pins : List (Addr × Obj)} {σ : L2.St} {H : Hp} {s : Shared} {Q : VK} {Q' : Value → Shared → Prop} (hr : Room (k + 1) X.A) (TB : TabB X.base X.mg c P) (hcode : X.env.code = .ref c) (S : GSc N fr scope)
    (hfree : ∀ y ∈ fr, X.env.scope.names.lookup y = some .cell ∨ X.env.scope.names.lookup y = some .free) (hjs : js.map (fun j => X.N[j]?) = fr.map some)
    (hi : PI X tg iter wi) (hg : ∀ code C it fp s2 H2 pn, PG (gX X N elt tg iter scope gpos (cloFrom X.env.cells scope.names []) code C it fp s2 H2 pn) tg g)
    (he : ∀ code C it fp s2 H2 pn, Room k (gX X N elt tg iter scope gpos (cloFrom X.env.cells scope.names []) code C it fp s2 H2 pn).A → PE (gX X N elt tg iter scope gpos (cloFrom X.env.cells scope.names []) code C it fp s2 H2 pn) elt te)
    (hs : ∀ v, genFold iter X.env v = pure v) (I : Inv X pins σ H s) (h : tGen P wi g te N js stop σ H Q)
    (hQ : ∀ (code : Value) (C it ga : Addr) (go : Obj) (gn n : Nat) (fp : List Addr) (tn : Nat → Heap → Prop) (s2 s5 : Shared) (H2 H5 : Hp) (W : Nat → Nat → L2.St → Hp → Prop),
      (∀ s : Shared, s.heap.get? ga = some go → s.heap.IsGen ga gn) → s5.heap.get? ga = some go →
      GSt X (gX X N elt tg iter scope gpos (cloFrom X.env.cells scope.names []) code C it fp s2 H2 [(ga, go)]) fp tn W (fun H' => Q (.bl (!stop)) H') (KB stop W fun b H' => Q (.bl b) H') gn n H5 s5 →
      (∀ σ' H' s', Inv (gX X N elt tg iter scope gpos (cloFrom X.env.cells scope.names []) code C it fp s2 H2 [(ga, go)]) [] σ' H' s' → Inv X pins σ H' s') → Q' (.ref ga) s5) :
    wpAny (model X.prog X.w) X.A (eval (gexp elt tg iter scope gpos) X.env) Q' X.xe s := by
  have hcl : ∀ y ∈ scope.names, y.2 = .free → ∃ c, X.env.cells.lookup y.1 = some c := fun y hy e => (hfree y.1 (S.free y hy e)).elim (fun z => I.ok.has _ (.inl z)) fun z => I.ok.has _ (.inr z)
  refine wpAny_GeneratorExp_make S.co (closure_ok hcl) S.nocell S.dot S.kind hr.depth ?_ hs
  refine thn (hi.run pins s σ H _ I h) fun xv s1 h1 => thn h1 fun itv s2 h2 => ?_
  obtain ⟨it, fp, tn, J, H2, rfl, I2, T, st2, f2, ⟨ps, hP, ht⟩, q2⟩ := h2
  have hPs : s2.heap.get? P = some { cls := .none, data := .fields ps } := I2.hok P _ hP
  have cd : PySem.W.CodeHd s2.heap c P := TB.code.keeps I2.bk
  have fpo : ∀ b ∈ fp, ∃ o, s2.heap.get? b = some o ∧ ∀ v, o.data ≠ .cell v := T.obj 0 _ st2
  have fpP : ∀ b ∈ fp, b ≠ P := fun b hb z => by
    have := (f2 b hb).1
    rw [z, hP] at this
    cases this
  refine ⟨I2.nolimit, ?_⟩
  have cont : ∀ (cv : Value) (h3 : Heap) (tk : Nat) (ps' : Array Value), Heap.ExtBut P s2.heap h3 → s2.heap.objs.size ≤ h3.objs.size → h3.get? P = some { cls := .none, data := .fields ps' } → (∃ more, ps' = ps ++ more) → TriplesOk ps'.toList →
      wpAny (model X.prog X.w) X.A (builtinsFor X.env.globals X.env.builtins) (fun bi s₄ =>
        ∀ h', (h'.Ns s₄.heap.objs.size fun y => if y = (".0" : Str) then some (Value.ref it) else none) → Heap.SameBut s₄.heap.objs.size (s₄.heap.push { cls := .type "frame", data := .dict #[] }) h' →
          Q' (.ref h'.objs.size) { s₄ with
            gens := s₄.gens.push (.fresh (gstart elt tg iter scope gpos (.ref it) (genEnv scope (cloFrom X.env.cells scope.names []) s₄.heap.objs.size cv bi X.env))),
            toks := s₄.toks + 1 + 1 + 1,
            heap := h'.push { cls := .type "generator", data := .fields #[.int s₄.gens.size 0, .str "<genexpr>" (s₄.toks + 1), .str (X.env.qual ++ "<genexpr>") (s₄.toks + 1 + 1)] } }) X.xe { s2 with heap := h3, toks := tk } := by
    intro cv h3 tk ps' hx hsz hP3 hmore ht3
    obtain ⟨bm, ob, e1, e2, e3, e4, e5, e6, e7, e8⟩ := TB.bm
    have keep3 : ∀ b u, b ≠ P → s2.heap.get? b = some u → h3.get? b = some u := fun b u hb e => hx b u hb e
    refine wpAny_builtinsFor (m := X.mg) (by rw [I2.ok.glob]; exact (I2.mod.glob.keeps I2.bk).extBut hx TB.gP) e1 e2 (keep3 _ _ e4 (I2.bk _ _ e5)) e6 e7 e8 ?_
    intro h' hns hsb
    obtain ⟨more, em⟩ := hmore
    have hC : s2.heap.objs.size ≤ h3.objs.size := hsz
    have sz' : h'.objs.size = h3.objs.size + 1 := by rw [hsb.1, Heap.size_push]
    have keep' : ∀ b u, h3.get? b = some u → h'.get? b = some u := fun b u e => hsb.extBut b u (Nat.ne_of_lt (Heap.lt_size e)) (Heap.get?_push_of_some _ e)
    generalize hgo : ({ cls := .type "generator", data := .fields #[.int ({ s2 with heap := h3, toks := tk } : Shared).gens.size 0, .str "<genexpr>" (({ s2 with heap := h3, toks := tk } : Shared).toks + 1), .str (X.env.qual ++ "<genexpr>") (({ s2 with heap := h3, toks := tk } : Shared).toks + 1 + 1)] } : Obj) = go
    have gens : ∀ s : Shared, s.heap.get? h'.objs.size = some go → s.heap.IsGen h'.objs.size s2.gens.size := fun s e => by
      rw [← hgo] at e
      exact ⟨_, _, _, e, rfl, rfl, rfl⟩
    have hgat : (h'.push go).get? h'.objs.size = some go := Heap.get?_push_size _ (by rw [← hgo]; rfl)
    have keep5 : ∀ b u, b ≠ P → s2.heap.get? b = some u → (h'.push go).get? b = some u := fun b u hb e => Heap.get?_push_of_some _ (keep' b u (keep3 b u hb e))
    have hP5 : (h'.push go).get? P = some { cls := .none, data := .fields ps' } := Heap.get?_push_of_some _ (keep' _ _ hP3)
    have hPlt : P < s2.heap.objs.size := Heap.lt_size hPs
    -- the caller's invariant at the end of the making
    have J : Inv X pins σ (upd H2 P (.tbl (ps ++ more))) { s2 with heap := h'.push go, gens := s2.gens.push (.fresh (gstart elt tg iter scope gpos (.ref it) (cenvOf X scope (cloFrom X.env.cells scope.names []) cv h3.objs.size))), drawn := s2.drawn, toks := tk + 1 + 1 + 1 } :=
      inv_tab (more := more) I2 hP (fun b u hb e => keep5 b u hb e) (by rw [← em]; exact hP5) (I2.bare.push rfl)
    have tb5 : Tabbed P H2 (upd H2 P (.tbl (ps ++ more))) := ⟨⟨ps ++ more, upd_same, by rw [← em]; exact ht3⟩, fun b hb => upd_ne hb⟩
    obtain ⟨W, ⟨m, w0⟩, turn⟩ := q2 _ tb5
    have fpn : ∀ b ∈ fp, upd H2 P (.tbl (ps ++ more)) b = none := fun b hb => by rw [upd_ne (fpP b hb)]; exact (f2 b hb).1
    have fpl : ∀ b ∈ fp, b < s2.heap.objs.size := fun b hb => by
      obtain ⟨o, e, _⟩ := fpo b hb
      exact Heap.lt_size e
    have un5 : Un (frs X.stack) fp H2 (upd H2 P (.tbl (ps ++ more))) s2.heap (h'.push go) := by
      have nP : ∀ b u, H2 b = some u → (∀ q, u ≠ .tbl q) → b ≠ P := fun b u e q z => by
        rw [z, hP] at e
        exact q ps (Option.some.inj e).symm
      have nN : ∀ b, H2 b = none → b ≠ P := fun b e z => by
        rw [z, hP] at e
        cases e
      refine ⟨fun b o e n _ _ => keep5 b o (nN b n) e, fun b o e n _ _ => ⟨o.slots, keep5 b o (nN b n) e⟩, fun b o e n _ => by rw [upd_ne (nN b n)]; exact n, fun b o e _ => ?_, fun b xs e => by rw [upd_ne (nP b _ e (fun q z => by cases z))]; exact e,
        fun b o u e => by rw [upd_ne (nP b _ e (fun q z => by cases z))]; exact e, fun b qs e => ?_⟩
      · by_cases hb : b = P
        · rw [hb]; exact ⟨_, hP5⟩
        · exact ⟨o, keep5 b o hb e⟩
      · by_cases hb : b = P
        · rw [hb, hP] at e
          cases e
          rw [hb, upd_same]
          exact ⟨more, rfl⟩
        · rw [upd_ne hb, e]
          exact ⟨#[], by simp⟩
    have hCn : ∀ b : Addr, s2.heap.objs.size ≤ b → b ≠ P := fun b hb z => by
      rw [z] at hb
      exact Nat.lt_irrefl _ (Nat.lt_of_lt_of_le hPlt hb)
    have hC5 : upd H2 P (.tbl (ps ++ more)) h3.objs.size = none := by rw [upd_ne (hCn _ hC)]; exact I2.hok.fresh hC
    have hga : s2.heap.objs.size ≤ h'.objs.size := by rw [sz']; exact Nat.le_succ_of_le hC
    have cp : Caps X (cloFrom X.env.cells scope.names []) fr js := Caps.made I2.ok (fun y hy e => hfree y.1 (S.free y hy e)) S.frm hjs
    have IG : Inv (gX X N elt tg iter scope gpos (cloFrom X.env.cells scope.names []) cv h3.objs.size it fp s2 H2 [(h'.objs.size, go)]) [] (startF N [] (js.map (slotAt σ))) (upd H2 P (.tbl (ps ++ more)))
        { s2 with heap := h'.push go, gens := s2.gens.push (.fresh (gstart elt tg iter scope gpos (.ref it) (cenvOf X scope (cloFrom X.env.cells scope.names []) cv h3.objs.size))), drawn := s2.drawn, toks := tk + 1 + 1 + 1 } := by
      refine inv_gcx (m := fun y => if y = (".0" : Str) then some (Value.ref it) else none) I2 S cp hr.hd (overL_fr I2.ok.frames) f2 fpl hC (hns.push _) rfl J.bare un5 J.hok hC5 fun p hp => ?_
      rw [List.mem_singleton.mp hp]
      refine ⟨hgat, ?_, ?_, fun z => ?_, fun v z => ?_⟩
      · rw [upd_ne (hCn _ hga)]; exact I2.hok.fresh hga
      · intro z
        have z' : h'.objs.size = h3.objs.size := z
        omega
      · have z' : h'.objs.size ∈ frs X.stack := z
        exact not_stk I2 (Nat.ne_of_gt (Nat.lt_of_lt_of_le I2.lt hga)) (I2.nofs hga) z'
      · have z' : go.data = .cell v := z
        rw [← hgo] at z'
        cases z'
    have gaf : h'.objs.size ∉ fp := fun z => Nat.lt_irrefl _ (Nat.lt_of_lt_of_le (fpl _ z) hga)
    have st5 : tn 0 (h'.push go) := T.keep 0 _ _ st2 fun b hb o e => keep5 b o (fpP b hb) e
    refine hQ cv h3.objs.size it h'.objs.size go s2.gens.size m fp tn s2 _ H2 _ W gens hgat ⟨_, _, IG, fpn, Array.getElem?_push_size .., fun s'' x1 x2 x3 => ⟨rfl, ?_⟩⟩ fun σ' H' s' Ig => ?_
    · have r5 : Room k (gX X N elt tg iter scope gpos (cloFrom X.env.cells scope.names []) cv h3.objs.size it fp s2 H2 [(h'.objs.size, go)]).A := roomL hr
      exact seg_gstart (hg _ _ _ _ _ _ _) (he _ _ _ _ _ _ _ r5) T gaf S.co turn m m s'' s'' _ _ (Nat.le_refl _) w0 (inv_awake IG x1 x2 x3) (by rw [x1]; exact st5) fpn
    · refine Inv.call' (ch := fp) I2 Ig.os Ig.base Ig.hok Ig.bare fun b hb => ?_
      obtain ⟨g1, g2, g3, g4, g5, g6⟩ := f2 b hb
      exact ⟨g4, g2, g5, g6⟩
  cases hf : codeAmong gpos ps.toList with
  | none =>
    refine wpAny_genexprCodeX hcode (cd.code hPs ht) (cd.tab hPs) hf fun c' h' tk hx hge hlt hco' _ htab' _ => ?_
    obtain ⟨o1, vs, f1, tf, fl, tg, inF, tx, tt, op, _, _, _, _, _, _, _, _, _, htr, _⟩ := hco'
    exact cont _ h' tk _ hx (Nat.le_trans hge (Nat.le_of_lt hlt)) htab'.2 ⟨_, rfl⟩ htr
  | some cv =>
    refine wpAny_genexprCode_hit hcode (cd.code hPs ht) hf ?_
    exact cont cv s2.heap s2.toks ps (Heap.ExtBut.refl _ _) (Nat.le_refl _) hPs ⟨#[], by simp⟩ ht

/-- all(elt for tg in iter) -/
theorem pe_all {p pos : Pos} (hr : Room (k + 1) X.A) (hgl : Gl X "all") (hm : X.mg "all" = none) (TB : TabB X.base X.mg c P) (hcode : X.env.code = .ref c) (S : GSc N fr scope)
    (hfree : ∀ y ∈ fr, X.env.scope.names.lookup y = some .cell ∨ X.env.scope.names.lookup y = some .free) (hjs : js.map (fun j => X.N[j]?) = fr.map some)
    (hi : PI X tg iter wi) (hg : ∀ code C it fp s2 H2 pn, PG (gX X N elt tg iter scope gpos (cloFrom X.env.cells scope.names []) code C it fp s2 H2 pn) tg g)
    (he : ∀ code C it fp s2 H2 pn, Room k (gX X N elt tg iter scope gpos (cloFrom X.env.cells scope.names []) code C it fp s2 H2 pn).A → PE (gX X N elt tg iter scope gpos (cloFrom X.env.cells scope.names []) code C it fp s2 H2 pn) elt te)
    (hs : ∀ v, genFold iter X.env v = pure v := by intro _; rfl) (hse : starEach [gexp elt tg iter scope gpos] X.env = (false, eval (gexp elt tg iter scope gpos) X.env) :: starEach [] X.env := by rfl) :
    PE X (.Call (.Name "all" p) [gexp elt tg iter scope gpos] [] pos) (tGen P wi g te N js false) := by
  refine ⟨fun pins s σ H Q I h => ?_⟩
  refine wpAny_Call_Name_kw (ld_blt I hgl hm (by decide +kernel : bootBuiltins "all" = some (.builtin "all")) ?_)
  refine PyProof.Rows.callWith_builtin1 ?_ hse (by rfl)
  rw [hse]
  show wpAny _ _ (spliced ((false, eval (gexp elt tg iter scope gpos) X.env) :: backTo pos (starEach [] X.env))) _ _ s
  refine Calls.spliced_cons (gen_made (stop := false) hr TB hcode S hfree hjs hi hg he hs I h fun code C it ga go gn n fp tn s2 s5 H2 H5 W hgo hga st lv => ?_)
  refine Calls.spliced_nil ?_
  refine call_function_tree F.kind_all F.plain_all F.entry_all (F.args_all1 _) ?_
  unfold Builtin.«all»
  refine wpAny_bind (m := oneArg "all" _) (wpAny_pure ?_)
  refine wpAny_bind (wpAny_pyIter_gen (hgo s5 hga) ?_)
  refine wpAny_pure ⟨plainId_quiet F.plain_all_loop _, ?_⟩
  exact all_loop (Qb := fun b H' => Q (.bl b) H') hr hgo rfl (fun b σ' H' s' Ig _ q => ⟨.bl b, H', lv σ' H' s' Ig, rfl, q⟩) n H5 s5 st

/-- any(elt for tg in iter) -/
theorem pe_any {p pos : Pos} (hr : Room (k + 1) X.A) (hgl : Gl X "any") (hm : X.mg "any" = none) (TB : TabB X.base X.mg c P) (hcode : X.env.code = .ref c) (S : GSc N fr scope)
    (hfree : ∀ y ∈ fr, X.env.scope.names.lookup y = some .cell ∨ X.env.scope.names.lookup y = some .free) (hjs : js.map (fun j => X.N[j]?) = fr.map some)
    (hi : PI X tg iter wi) (hg : ∀ code C it fp s2 H2 pn, PG (gX X N elt tg iter scope gpos (cloFrom X.env.cells scope.names []) code C it fp s2 H2 pn) tg g)
    (he : ∀ code C it fp s2 H2 pn, Room k (gX X N elt tg iter scope gpos (cloFrom X.env.cells scope.names []) code C it fp s2 H2 pn).A → PE (gX X N elt tg iter scope gpos (cloFrom X.env.cells scope.names []) code C it fp s2 H2 pn) elt te)
    (hs : ∀ v, genFold iter X.env v = pure v := by intro _; rfl) (hse : starEach [gexp elt tg iter scope gpos] X.env = (false, eval (gexp elt tg iter scope gpos) X.env) :: starEach [] X.env := by rfl) :
    PE X (.Call (.Name "any" p) [gexp elt tg iter scope gpos] [] pos) (tGen P wi g te N js true) := by
  refine ⟨fun pins s σ H Q I h => ?_⟩
  refine wpAny_Call_Name_kw (ld_blt I hgl hm boot_any ?_)
  refine PyProof.Rows.callWith_builtin1 ?_ hse (by rfl)
  rw [hse]
  show wpAny _ _ (spliced ((false, eval (gexp elt tg iter scope gpos) X.env) :: backTo pos (starEach [] X.env))) _ _ s
  refine Calls.spliced_cons (gen_made (stop := true) hr TB hcode S hfree hjs hi hg he hs I h fun code C it ga go gn n fp tn s2 s5 H2 H5 W hgo hga st lv => ?_)
  refine Calls.spliced_nil ?_
  refine call_function_tree F.kind_any F.plain_any F.entry_any (F.args_any1 _) ?_
  unfold Builtin.«any»
  refine wpAny_bind (m := oneArg "any" _) (wpAny_pure ?_)
  refine wpAny_bind (wpAny_pyIter_gen (hgo s5 hga) ?_)
  refine wpAny_pure ⟨plainId_quiet F.plain_any_loop _, ?_⟩
  exact any_loop (Qb := fun b H' => Q (.bl b) H') hr hgo rfl (fun b σ' H' s' Ig _ q => ⟨.bl b, H', lv σ' H' s' Ig, rfl, q⟩) n H5 s5 st
end
end GA
set_option Elab.async false
set_option linter.all false
set_option maxRecDepth 100000
set_option maxHeartbeats 2000000
/-! own words, 2: heaps that go on, data at any depth with empty dicts, isinstance of data -/
namespace SL
open PySem PySem.Spec PyProof.Rows L2 GxR NdefX GA

/-- the code tables that the law's defs have -/
def Tabs (T : List Addr) (H : Hp) : Prop := ∀ P ∈ T, TabG H P
/-- from H on: what was tracked stands but at M; the tables grow -/
structure Go (T M : List Addr) (H H' : Hp) : Prop where
  gr : ∀ b o, H b = some o → b ∉ M → (∀ ps, o ≠ .tbl ps) → H' b = some o
  al : ∀ b, H' b = none → H b = none
  tb : Tabs T H → Tabs T H'
section
variable {T M M' : List Addr} {H H1 H2 : Hp} {p : Addr} {o : HO}
theorem Go.refl : Go T M H H := ⟨fun _ _ e _ _ => e, fun _ e => e, fun t => t⟩
theorem Go.trans (a : Go T M H H1) (b : Go T M H1 H2) : Go T M H H2 := ⟨fun c o e n t => b.gr c o (a.gr c o e n t) n t, fun c e => a.al c (b.al c e), fun t => b.tb (a.tb t)⟩
theorem Go.more (a : Go T M H H1) (h : ∀ b ∈ M, b ∈ M') : Go T M' H H1 := ⟨fun c o e n t => a.gr c o e (fun z => n (h c z)) t, a.al, a.tb⟩
theorem Go.of0 (a : Go T [] H H1) : Go T M H H1 := a.more fun _ h => by simp at h
theorem Tabs.new (t : Tabs T H) (h : H p = none) : Tabs T (upd H p o) := fun P hP => by
  obtain ⟨ps, e, r⟩ := t P hP
  exact ⟨ps, by rw [upd_ne (ne_of_none e h)]; exact e, r⟩
theorem Go.new (h : H p = none) : Go T M H (upd H p o) := ⟨fun b u e _ _ => by rw [upd_ne (ne_of_none e h)]; exact e, fun b e => upd_none e, fun t => t.new h⟩
theorem Go.set {u : HO} (h : H p = some u) (hu : ∀ ps, u ≠ .tbl ps) (hm : p ∈ M) : Go T M H (upd H p o) :=
  ⟨fun b v e n _ => by rw [upd_ne (fun z => n (by rw [z]; exact hm))]; exact e, fun b e => upd_none e, fun t P hP => by
    obtain ⟨ps, e, r⟩ := t P hP
    exact ⟨ps, by rw [upd_ne (ne_of e h (fun z => hu ps z.symm))]; exact e, r⟩⟩
theorem Go.tbd {P : Addr} (t : TabG H P) (x : Tabbed P H H1) : Go T M H H1 := by
  obtain ⟨ps, e, r⟩ := t
  refine ⟨fun b o hb _ hn => ?_, fun b hb => ?_, fun z Q hQ => ?_⟩
  · by_cases h : b = P
    · rw [h, e] at hb
      exact absurd (Option.some.inj hb).symm (hn ps)
    · rw [x.2 b h]; exact hb
  · by_cases h : b = P
    · obtain ⟨ps', e', _⟩ := x.1
      rw [h, e'] at hb
      cases hb
    · rw [← x.2 b h]; exact hb
  · by_cases h : Q = P
    · rw [h]; exact x.1
    · obtain ⟨qs, e1, e2⟩ := z Q hQ
      exact ⟨qs, by rw [x.2 Q h]; exact e1, e2⟩
theorem Go.over {u : HO} (g : Go T M H H1) (n : H p = none) (e : H1 p = some u) (hu : ∀ ps, u ≠ .tbl ps) : Go T M H (upd H1 p o) :=
  ⟨fun b v h m t => by rw [upd_ne (ne_of_none h n)]; exact g.gr b v h m t, fun b h => g.al b (upd_none h), fun t => (Go.set (M := [p]) e hu (by simp)).tb (g.tb t)⟩
theorem Go.lst {xs : List V} {a : Addr} (g : Go T M H H1) (h : H a = some (.lst xs)) (n : a ∉ M) : H1 a = some (.lst xs) := g.gr a _ h n fun _ z => by cases z
theorem Go.tup {xs : List V} {a : Addr} (g : Go T M H H1) (h : H a = some (.tup xs)) (n : a ∉ M) : H1 a = some (.tup xs) := g.gr a _ h n fun _ z => by cases z
theorem Go.sqT {K : PySem.W.Frag} {xs : List V} {a : Addr} (g : Go T [] H H1) (h : SqT K H a xs) : SqT K H1 a xs := by
  rcases h with (h | ⟨o, h⟩) | h
  · exact .inl (.inl (g.gr a _ h (by simp) fun _ z => by cases z))
  · exact .inl (.inr ⟨o, g.gr a _ h (by simp) fun _ z => by cases z⟩)
  · exact .inr h
theorem Go.sqL {K : PySem.W.Frag} {xs : List V} {a : Addr} (g : Go T [] H H1) (h : SqL K H a xs) : SqL K H1 a xs := by
  rcases h with (h | ⟨o, h⟩) | h
  · exact .inl (.inl (g.gr a _ h (by simp) fun _ z => by cases z))
  · exact .inl (.inr ⟨o, g.gr a _ h (by simp) fun _ z => by cases z⟩)
  · exact .inr h
end

mutual
/-- the value v bears the data d; none of it stands at M -/
inductive Dv (M : List Addr) (H : Hp) : V → PyData → Prop
  | non : Dv M H .non .none
  | bl (b : Bool) : Dv M H (.bl b) (.bool b)
  | int (i : Int) : Dv M H (.int i) (.int i)
  | str (x : Str) : Dv M H (.str x) (.str x)
  | lst {a : Addr} {xs : List V} {ds : List PyData} : H a = some (.lst xs) → a ∉ M → DvAll M H xs ds → Dv M H (.ref a) (.list ds)
  | tup {a : Addr} {xs : List V} {ds : List PyData} : H a = some (.tup xs) → a ∉ M → DvAll M H xs ds → Dv M H (.ref a) (.tuple ds)
  | dct {a : Addr} : H a = some (.dK []) → a ∉ M → Dv M H (.ref a) (.dict [])
inductive DvAll (M : List Addr) (H : Hp) : List V → List PyData → Prop
  | nil : DvAll M H [] []
  | cons {v : V} {vs : List V} {d : PyData} {ds : List PyData} : Dv M H v d → DvAll M H vs ds → DvAll M H (v :: vs) (d :: ds)
end
section
variable {T M M' : List Addr} {H H1 H2 : Hp} {p : Addr} {o : HO}
mutual
theorem Dv.map (g : ∀ b o, H b = some o → b ∉ M → (∀ ps, o ≠ .tbl ps) → H1 b = some o ∧ b ∉ M') : ∀ {v : V} {d : PyData}, Dv M H v d → Dv M' H1 v d
  | _, _, .non => .non
  | _, _, .bl b => .bl b
  | _, _, .int i => .int i
  | _, _, .str x => .str x
  | _, _, .lst e n r => .lst (g _ _ e n fun _ z => by cases z).1 (g _ _ e n fun _ z => by cases z).2 (DvAll.map g r)
  | _, _, .tup e n r => .tup (g _ _ e n fun _ z => by cases z).1 (g _ _ e n fun _ z => by cases z).2 (DvAll.map g r)
  | _, _, .dct e n => .dct (g _ _ e n fun _ z => by cases z).1 (g _ _ e n fun _ z => by cases z).2
theorem DvAll.map (g : ∀ b o, H b = some o → b ∉ M → (∀ ps, o ≠ .tbl ps) → H1 b = some o ∧ b ∉ M') : ∀ {vs : List V} {ds : List PyData}, DvAll M H vs ds → DvAll M' H1 vs ds
  | _, _, .nil => .nil
  | _, _, .cons h t => .cons (Dv.map g h) (DvAll.map g t)
end
theorem Dv.go {v : V} {d : PyData} (h : Dv M H v d) (g : Go T M H H1) : Dv M H1 v d := h.map fun b o e n t => ⟨g.gr b o e n t, n⟩
theorem DvAll.go {v : List V} {d : List PyData} (h : DvAll M H v d) (g : Go T M H H1) : DvAll M H1 v d := h.map fun b o e n t => ⟨g.gr b o e n t, n⟩
theorem Dv.less {v : V} {d : PyData} (h : Dv M H v d) (s : ∀ b ∈ M', b ∈ M) : Dv M' H v d := h.map fun b o e n _ => ⟨e, fun z => n (s b z)⟩
theorem DvAll.less {v : List V} {d : List PyData} (h : DvAll M H v d) (s : ∀ b ∈ M', b ∈ M) : DvAll M' H v d := h.map fun b o e n _ => ⟨e, fun z => n (s b z)⟩
/-- a new object is kept apart from now on -/
theorem Dv.hide {v : V} {d : PyData} (h : Dv M H v d) (hp : H p = none) : Dv (p :: M) H v d := h.map fun b o e n _ => ⟨e, fun z => (List.mem_cons.mp z).elim (fun y => by rw [y, hp] at e; cases e) n⟩
theorem DvAll.hide {v : List V} {d : List PyData} (h : DvAll M H v d) (hp : H p = none) : DvAll (p :: M) H v d := h.map fun b o e n _ => ⟨e, fun z => (List.mem_cons.mp z).elim (fun y => by rw [y, hp] at e; cases e) n⟩

theorem DvAll.length : ∀ {xs : List V} {ds : List PyData}, DvAll M H xs ds → xs.length = ds.length
  | _, _, .nil => rfl
  | _, _, .cons _ t => by rw [List.length_cons, List.length_cons, DvAll.length t]
theorem DvAll.append : ∀ {xs ys : List V} {ds es : List PyData}, DvAll M H xs ds → DvAll M H ys es → DvAll M H (xs ++ ys) (ds ++ es)
  | _, _, _, _, .nil, s => s
  | _, _, _, _, .cons r t, s => .cons r (DvAll.append t s)
theorem DvAll.take : ∀ {xs : List V} {ds : List PyData} (n : Nat), DvAll M H xs ds → DvAll M H (xs.take n) (ds.take n)
  | _, _, 0, _ => .nil
  | _, _, _ + 1, .nil => .nil
  | _, _, n + 1, .cons r t => .cons r (DvAll.take n t)
theorem DvAll.drop : ∀ {xs : List V} {ds : List PyData} (n : Nat), DvAll M H xs ds → DvAll M H (xs.drop n) (ds.drop n)
  | _, _, 0, r => r
  | _, _, _ + 1, .nil => .nil
  | _, _, n + 1, .cons _ t => DvAll.drop n t
theorem DvAll.get : ∀ {xs : List V} {ds : List PyData} {i : Nat} {x : V}, DvAll M H xs ds → xs[i]? = some x → ∃ d, ds[i]? = some d ∧ Dv M H x d
  | _, _, _, _, .nil, e => by simp at e
  | _, _, 0, _, .cons r _, e => by simp at e; subst e; exact ⟨_, rfl, r⟩
  | _, _, i + 1, x, .cons _ t, e => by
    obtain ⟨u, h1, h2⟩ := DvAll.get (i := i) (x := x) t (by simpa using e)
    exact ⟨u, by simpa using h1, h2⟩
theorem DvAll.getD : ∀ {xs : List V} {ds : List PyData} {i : Nat} {d : PyData}, DvAll M H xs ds → ds[i]? = some d → ∃ x, xs[i]? = some x ∧ Dv M H x d
  | _, _, _, _, .nil, e => by simp at e
  | _, _, 0, _, .cons r _, e => by simp at e; subst e; exact ⟨_, rfl, r⟩
  | _, _, i + 1, x, .cons _ t, e => by
    obtain ⟨u, h1, h2⟩ := DvAll.getD (i := i) (d := x) t (by simpa using e)
    exact ⟨u, by simpa using h1, h2⟩
theorem DvAll.strs : ∀ (xs : List Str), DvAll M H (xs.map V.str) (xs.map PyData.str)
  | [] => .nil
  | x :: r => .cons (.str x) (DvAll.strs r)
theorem DvAll.of_strs : ∀ {vs : List V} {xs : List Str}, DvAll M H vs (xs.map PyData.str) → vs = xs.map V.str
  | [], [], _ => rfl
  | _ :: _, _ :: _, .cons h t => by
    cases h
    rw [DvAll.of_strs t] <;> rfl
theorem DvAll.ints : ∀ (xs : List Int), DvAll M H (xs.map V.int) (xs.map PyData.int)
  | [] => .nil
  | x :: r => .cons (.int x) (DvAll.ints r)
/-- the slices' bounds -/
theorem DvAll.cut {xs : List V} {ds : List PyData} (h : DvAll M H xs ds) (lo hi : Option Int) : DvAll M H (cutV xs lo hi) ((ds.drop (HT.sIx ds.length 0 lo)).take (HT.sIx ds.length ds.length hi - HT.sIx ds.length 0 lo)) := by
  unfold cutV
  rw [h.length]
  exact (h.drop _).take _
end

/-! ### isinstance -/
def tyN : PyData → String
  | .none => "NoneType"
  | .bool _ => "bool"
  | .int _ => "int"
  | .str _ => "str"
  | .list _ => "list"
  | .tuple _ => "tuple"
  | .dict _ => "dict"
section
variable {K : PySem.W.Frag} {M : List Addr} {H : Hp} {v : V} {d : PyData} {Q : VK}
theorem Dv.ty (h : Dv M H v d) : TyX K H v (.type (tyN d)) := by
  cases h with
  | non => exact .base .non
  | bl b => exact .base (.bl b)
  | int i => exact .base (.int i)
  | str x => exact .base (.str x)
  | lst e _ _ => exact .base (.lst e)
  | tup e _ _ => exact .base (.tup e)
  | dct e _ => exact .base (.dK e)
def isTuple : PyData → Bool
  | .tuple _ => true
  | _ => false
def isStr : PyData → Bool
  | .str _ => true
  | _ => false
def isInt : PyData → Bool
  | .int _ => true
  | .bool _ => true
  | _ => false
def isBool : PyData → Bool
  | .bool _ => true
  | _ => false
theorem isi_of {T : String} {b : Bool} (h : Dv M H v d) (k : kitB (tyN d) T = some b) (q : Q (.bl b) H) : rIsi K [v, .ty T] H Q := ⟨v, .ty T, _, .type T, b, rfl, .ty T, h.ty, kit_ty k, q⟩
theorem isi_tuple (h : Dv M H v d) (q : Q (.bl (isTuple d)) H) : rIsi K [v, .ty "tuple"] H Q := by
  refine isi_of h ?_ q
  cases d <;> first
    | exact (by decide +kernel : kitB "NoneType" "tuple" = some false)
    | exact (by decide +kernel : kitB "bool" "tuple" = some false)
    | exact (by decide +kernel : kitB "int" "tuple" = some false)
    | exact (by decide +kernel : kitB "str" "tuple" = some false)
    | exact (by decide +kernel : kitB "list" "tuple" = some false)
    | exact (by decide +kernel : kitB "tuple" "tuple" = some true)
    | exact (by decide +kernel : kitB "dict" "tuple" = some false)
theorem isi_str (h : Dv M H v d) (q : Q (.bl (isStr d)) H) : rIsi K [v, .ty "str"] H Q := by
  refine isi_of h ?_ q
  cases d <;> first
    | exact (by decide +kernel : kitB "NoneType" "str" = some false)
    | exact (by decide +kernel : kitB "bool" "str" = some false)
    | exact (by decide +kernel : kitB "int" "str" = some false)
    | exact (by decide +kernel : kitB "str" "str" = some true)
    | exact (by decide +kernel : kitB "list" "str" = some false)
    | exact (by decide +kernel : kitB "tuple" "str" = some false)
    | exact (by decide +kernel : kitB "dict" "str" = some false)
theorem isi_int (h : Dv M H v d) (q : Q (.bl (isInt d)) H) : rIsi K [v, .ty "int"] H Q := by
  refine isi_of h ?_ q
  cases d <;> first
    | exact (by decide +kernel : kitB "NoneType" "int" = some false)
    | exact (by decide +kernel : kitB "bool" "int" = some true)
    | exact (by decide +kernel : kitB "int" "int" = some true)
    | exact (by decide +kernel : kitB "str" "int" = some false)
    | exact (by decide +kernel : kitB "list" "int" = some false)
    | exact (by decide +kernel : kitB "tuple" "int" = some false)
    | exact (by decide +kernel : kitB "dict" "int" = some false)
theorem isi_bool (h : Dv M H v d) (q : Q (.bl (isBool d)) H) : rIsi K [v, .ty "bool"] H Q := by
  refine isi_of h ?_ q
  cases d <;> first
    | exact (by decide +kernel : kitB "NoneType" "bool" = some false)
    | exact (by decide +kernel : kitB "bool" "bool" = some true)
    | exact (by decide +kernel : kitB "int" "bool" = some false)
    | exact (by decide +kernel : kitB "str" "bool" = some false)
    | exact (by decide +kernel : kitB "list" "bool" = some false)
    | exact (by decide +kernel : kitB "tuple" "bool" = some false)
    | exact (by decide +kernel : kitB "dict" "bool" = some false)
end
end SL
set_option Elab.async false
set_option linter.all false
set_option maxRecDepth 100000
set_option maxHeartbeats 2000000
/-! own words, 3: a def as its callers know it; the built-ins' names -/
namespace SL
open PySem PySem.Spec PyProof.Rows L2 GxR NdefX GA

/-- a def as its callers know it -/
structure Fnn (P : Program) (w : World) (K : PySem.W.Frag) (mg : Str → Option Value) (base : Heap) (CX : CXT) (k : Nat) (x : Str) (ps : List Str) (sp : Sp) : Prop where
  ex : ∃ (f : Addr) (fd : FuncData), FnOk P w K mg base CX k f fd ps sp ∧ mg x = some (.ref f) ∧ PySem.W.keepIn K (.ref f) = true ∧ Binds K fd ps []
/-- .. and by keywords -/
structure Fnk (P : Program) (w : World) (K : PySem.W.Frag) (mg : Str → Option Value) (base : Heap) (CX : CXT) (k : Nat) (x : Str) (ps ks : List Str) (g : List V → List V → List V) (sp : Sp) : Prop where
  ex : ∃ (f : Addr) (fd : FuncData) (gu : List Value → List Value → List Value), FnOk P w K mg base CX k f fd ps sp ∧ mg x = some (.ref f) ∧ PySem.W.keepIn K (.ref f) = true ∧ KBinds K fd ps ks gu g
section
variable {X : Cx} {CX : CXT} {k j : Nat} {x : Str} {ps ks : List Str} {sp : Sp} {e : Expr} {es : List Expr} {t tk : TA} {p pos : Pos} {E : XK}
theorem pe_fn (F : Fnn X.prog X.w X.K X.mg X.base CX k x ps sp) (hr : Room j X.A) (hk : k ≤ j) (hx : Passes CX X E) (ha : PA X (e :: es) t) (hg : Gl X x := by rfl) (hdb : (x == ("__debug__" : Str)) = false := by decide)
    (he : starEach (e :: es) X.env = (false, eval e X.env) :: starEach es X.env := by rfl) (hpl : (backTo pos (starEach es X.env)).any (·.1) = false := by rfl) : PE X (.Call (.Name x p) (e :: es) [] pos) (tCall sp [] E t) := by
  obtain ⟨f, fd, G, m, kp, b⟩ := F.ex
  exact pe_call G (hr.mono hk) hg m kp b .nil hx ha hdb he hpl
theorem pe_fn0 (F : Fnn X.prog X.w X.K X.mg X.base CX k x ps sp) (hr : Room j X.A) (hk : k ≤ j) (hx : Passes CX X E) (hg : Gl X x := by rfl) (hdb : (x == ("__debug__" : Str)) = false := by decide) : PE X (.Call (.Name x p) [] [] pos) (tCall sp [] E tNil) := by
  obtain ⟨f, fd, G, m, kp, b⟩ := F.ex
  exact pe_call0 G (hr.mono hk) hg m kp b .nil hx hdb
end

/-- no module name hides a built-in that is used -/
structure Bl (mg : Str → Option Value) : Prop where
  isinst : mg "isinstance" = none
  len : mg "len" = none
  all : mg "all" = none
  any : mg "any" = none
  set : mg "set" = none
  range : mg "range" = none
  tuple : mg "tuple" = none
  list : mg "list" = none
  int : mg "int" = none
  str : mg "str" = none
  bool : mg "bool" = none
  repr : mg "repr" = none
section
variable {X : Cx} {a : Expr} {ta : TE} {p q pos : Pos}
/-- isinstance(a, T) of data -/
def rIsiD (T : String) (g : PyData → Bool) : List V → Hp → VK → Prop := fun xs H Q => ∃ (x : V) (M : List Addr) (d : PyData), xs = [x, .ty T] ∧ Dv M H x d ∧ Q (.bl (g d)) H
theorem call_isi_tuple : CallR X (.builtin "isinstance") (rIsiD "tuple" isTuple) := fun pins s σ H xs us Q I r ⟨x, M, d, e, h, q⟩ => call_isi pins s σ H xs us Q I r (by rw [e]; exact isi_tuple h q)
theorem call_isi_str : CallR X (.builtin "isinstance") (rIsiD "str" isStr) := fun pins s σ H xs us Q I r ⟨x, M, d, e, h, q⟩ => call_isi pins s σ H xs us Q I r (by rw [e]; exact isi_str h q)
theorem call_isi_int : CallR X (.builtin "isinstance") (rIsiD "int" isInt) := fun pins s σ H xs us Q I r ⟨x, M, d, e, h, q⟩ => call_isi pins s σ H xs us Q I r (by rw [e]; exact isi_int h q)
theorem call_isi_bool : CallR X (.builtin "isinstance") (rIsiD "bool" isBool) := fun pins s σ H xs us Q I r ⟨x, M, d, e, h, q⟩ => call_isi pins s σ H xs us Q I r (by rw [e]; exact isi_bool h q)
theorem pe_isi_tuple (B : Bl X.mg) (ha : PE X a ta) (h1 : Gl X "isinstance" := by rfl) (h2 : Gl X "tuple" := by rfl)
    (he : starEach (a :: [.Name "tuple" q]) X.env = (false, eval a X.env) :: starEach [.Name "tuple" q] X.env := by rfl) : PE X (.Call (.Name "isinstance" p) [a, .Name "tuple" q] [] pos) (tCB (rIsiD "tuple" isTuple) (tCons ta (tCons (tC (.ty "tuple")) tNil))) :=
  pe_callB call_isi_tuple h1 B.isinst (by decide +kernel) (pa_cons ha (pa_cons (pe_bltn (v := .ty "tuple") h2 B.tuple (by decide +kernel) rfl) pa_nil) he) (by decide) (by decide) he
theorem pe_isi_str (B : Bl X.mg) (ha : PE X a ta) (h1 : Gl X "isinstance" := by rfl) (h2 : Gl X "str" := by rfl)
    (he : starEach (a :: [.Name "str" q]) X.env = (false, eval a X.env) :: starEach [.Name "str" q] X.env := by rfl) : PE X (.Call (.Name "isinstance" p) [a, .Name "str" q] [] pos) (tCB (rIsiD "str" isStr) (tCons ta (tCons (tC (.ty "str")) tNil))) :=
  pe_callB call_isi_str h1 B.isinst (by decide +kernel) (pa_cons ha (pa_cons (pe_bltn (v := .ty "str") h2 B.str (by decide +kernel) rfl) pa_nil) he) (by decide) (by decide) he
theorem pe_isi_int (B : Bl X.mg) (ha : PE X a ta) (h1 : Gl X "isinstance" := by rfl) (h2 : Gl X "int" := by rfl)
    (he : starEach (a :: [.Name "int" q]) X.env = (false, eval a X.env) :: starEach [.Name "int" q] X.env := by rfl) : PE X (.Call (.Name "isinstance" p) [a, .Name "int" q] [] pos) (tCB (rIsiD "int" isInt) (tCons ta (tCons (tC (.ty "int")) tNil))) :=
  pe_callB call_isi_int h1 B.isinst (by decide +kernel) (pa_cons ha (pa_cons (pe_bltn (v := .ty "int") h2 B.int (by decide +kernel) rfl) pa_nil) he) (by decide) (by decide) he
theorem pe_isi_bool (B : Bl X.mg) (ha : PE X a ta) (h1 : Gl X "isinstance" := by rfl) (h2 : Gl X "bool" := by rfl)
    (he : starEach (a :: [.Name "bool" q]) X.env = (false, eval a X.env) :: starEach [.Name "bool" q] X.env := by rfl) : PE X (.Call (.Name "isinstance" p) [a, .Name "bool" q] [] pos) (tCB (rIsiD "bool" isBool) (tCons ta (tCons (tC (.ty "bool")) tNil))) :=
  pe_callB call_isi_bool h1 B.isinst (by decide +kernel) (pa_cons ha (pa_cons (pe_bltn (v := .ty "bool") h2 B.bool (by decide +kernel) rfl) pa_nil) he) (by decide) (by decide) he
/-- len of a list or tuple; of a text -/
theorem pe_lenq (B : Bl X.mg) (ha : PE X a ta) (h1 : Gl X "len" := by rfl) (he : starEach (a :: []) X.env = (false, eval a X.env) :: starEach [] X.env := by rfl) : PE X (.Call (.Name "len" p) [a] [] pos) (tCB (fun xs H Q => ∃ p ys, xs = [.ref p] ∧ (SqL X.K H p ys ∨ SqT X.K H p ys) ∧ Q (.int ys.length) H) (tCons ta tNil)) :=
  pe_callB call_len_seq h1 B.len PySem.boot_len (pa_cons ha pa_nil he) (by decide) (by decide) he
theorem pe_lens (B : Bl X.mg) (ha : PE X a ta) (h1 : Gl X "len" := by rfl) (he : starEach (a :: []) X.env = (false, eval a X.env) :: starEach [] X.env := by rfl) : PE X (.Call (.Name "len" p) [a] [] pos) (tCB (fun xs H Q => ∃ z, xs = [.str z] ∧ z.length ≤ sizeLine ∧ Q (.int z.length) H) (tCons ta tNil)) :=
  pe_callB call_len_str h1 B.len PySem.boot_len (pa_cons ha pa_nil he) (by decide) (by decide) he
end
theorem if_true_of {c : Bool} {A B : Prop} (hc : c = true) (h : A) : if c = true then A else B := by
  rw [if_pos hc]
  exact h
theorem if_false_of {c : Bool} {A B : Prop} (hc : c = false) (h : B) : if c = true then A else B := by
  rw [hc, if_neg Bool.false_ne_true]
  exact h
theorem sz {n : Nat} (h : n ≤ 16777216) : n ≤ sizeLine := by rw [sizeLine_eq]; exact h
end SL
set_option Elab.async false
set_option linter.all false
set_option maxRecDepth 100000
set_option maxHeartbeats 4000000
/-! own words, 4: how many unlike texts a list has: len(set(xs)) -/
namespace SL
open PySem PySem.Spec PyProof.Rows L2 GxR NdefX GA

def uniq (l : List Str) : List Str := l.foldl (fun acc x => if x ∈ acc then acc else acc ++ [x]) []
theorem uniq_snoc (l : List Str) (x : Str) : uniq (l ++ [x]) = if x ∈ uniq l then uniq l else uniq l ++ [x] := by
  unfold uniq
  rw [List.foldl_append] <;> rfl
theorem mem_uniq {x : Str} : ∀ {l : List Str}, x ∈ uniq l ↔ x ∈ l := by
  have key : ∀ (l : List Str) (acc : List Str), x ∈ l.foldl (fun acc x => if x ∈ acc then acc else acc ++ [x]) acc ↔ x ∈ acc ∨ x ∈ l := by
    intro l
    induction l with
    | nil => intro acc; simp
    | cons y r ih =>
      intro acc
      rw [List.foldl_cons, ih]
      by_cases h : y ∈ acc
      · rw [if_pos h]
        constructor
        · rintro (h1 | h1)
          · exact .inl h1
          · exact .inr (List.mem_cons_of_mem _ h1)
        · rintro (h1 | h1)
          · exact .inl h1
          · rcases List.mem_cons.mp h1 with rfl | h1
            · exact .inl h
            · exact .inr h1
      · rw [if_neg h, List.mem_append, List.mem_singleton, List.mem_cons]
        constructor
        · rintro ((h1 | h1) | h1)
          · exact .inl h1
          · exact .inr (.inl h1)
          · exact .inr (.inr h1)
        · rintro (h1 | h1 | h1)
          · exact .inl (.inl h1)
          · exact .inl (.inr h1)
          · exact .inr h1
  intro l
  have := key l []
  simpa [uniq] using this
theorem uniq_le : ∀ l : List Str, (uniq l).length ≤ l.length := by
  have key : ∀ (l acc : List Str), (l.foldl (fun acc x => if x ∈ acc then acc else acc ++ [x]) acc).length ≤ acc.length + l.length := by
    intro l
    induction l with
    | nil => intro acc; simp
    | cons y r ih =>
      intro acc
      rw [List.foldl_cons]
      refine Nat.le_trans (ih _) ?_
      split
      · simp only [List.length_cons]; omega
      · simp only [List.length_append, List.length_cons, List.length_nil]; omega
  intro l
  simpa [uniq] using key l []
theorem nodup_uniq : ∀ l : List Str, (uniq l).Nodup := by
  have key : ∀ (l acc : List Str), acc.Nodup → (l.foldl (fun acc x => if x ∈ acc then acc else acc ++ [x]) acc).Nodup := by
    intro l
    induction l with
    | nil => intro acc h; exact h
    | cons y r ih =>
      intro acc h
      rw [List.foldl_cons]
      refine ih _ ?_
      split
      · exact h
      · rename_i hn
        refine List.nodup_append.mpr ⟨h, by simp, fun a ha b hb => ?_⟩
        rw [List.mem_singleton.mp hb]
        exact fun e => hn (e ▸ ha)
  intro l
  exact key l [] (by simp)
/-- all are unlike exactly if as many are counted -/
theorem uniq_len {l : List Str} : (uniq l).length = l.length ↔ l.Nodup := by
  have key : ∀ (l acc : List Str), acc.Nodup → ((l.foldl (fun acc x => if x ∈ acc then acc else acc ++ [x]) acc).length = acc.length + l.length ↔ (acc ++ l).Nodup) := by
    intro l
    induction l with
    | nil => intro acc h; simpa using h
    | cons y r ih =>
      intro acc h
      rw [List.foldl_cons]
      by_cases hy : y ∈ acc
      · rw [if_pos hy]
        have z : (r.foldl (fun acc x => if x ∈ acc then acc else acc ++ [x]) acc).length ≤ acc.length + r.length := by
          have key2 : ∀ (l acc : List Str), (l.foldl (fun acc x => if x ∈ acc then acc else acc ++ [x]) acc).length ≤ acc.length + l.length := by
            intro l
            induction l with
            | nil => intro acc; simp
            | cons y r ih =>
              intro acc
              rw [List.foldl_cons]
              refine Nat.le_trans (ih _) ?_
              split
              · simp only [List.length_cons]; omega
              · simp only [List.length_append, List.length_cons, List.length_nil]; omega
          exact key2 r acc
        constructor
        · intro e
          rw [List.length_cons] at e
          omega
        · intro nd
          have := (List.nodup_append.mp nd).2.2 y hy y List.mem_cons_self
          exact absurd rfl this
      · rw [if_neg hy]
        have nd' : (acc ++ [y]).Nodup := List.nodup_append.mpr ⟨h, by simp, fun a ha b hb => by rw [List.mem_singleton.mp hb]; exact fun e => hy (e ▸ ha)⟩
        have := ih (acc ++ [y]) nd'
        rw [List.length_append, List.length_singleton, List.append_assoc, List.singleton_append] at this
        rw [List.length_cons, ← this]
        constructor <;> intro e <;> omega
  have := key l [] (by simp)
  simpa [uniq] using this

section
variable {prog : Program} {w : World} {A : Around} {R : Result → Shared → Prop} {I : Addr} {fp wr : List Addr} {G : Array GenState → Array GenState → Prop} {n : Nat} {P : Nat → Value → Prop} {St : Nat → Shared → Prop}
/-- each text of the walk is put into the set at S -/
theorem loop_strs (W : WalksS prog w A.in1 I fp wr G n P St) (S : Addr) (hSf : S ∉ fp) (xs : List Str) (hsz : xs.length = n) (hn1 : n + 2 < scanBound)
    (hval : ∀ i v, P i v → ∃ t, v = .str (xs.getD i Str.empty) t) :
    ∀ (k i : Nat) (s : Shared), n - i = k → i ≤ n → St i s →
      s.heap.SetOf (PySem.strKind prog w) S (fun q => decide (q ∈ xs.take i)) (uniq (xs.take i)).length →
      (∀ s', Moved (S :: wr) G s s' → s'.heap.SetOf (PySem.strKind prog w) S (fun q => decide (q ∈ xs)) (uniq xs).length → R (.ok (.ret .none)) s') →
      codeAny (model prog w) A (.builtin "set.update.loop" ⟨[.ref S, .ref I], []⟩) R s := by
  have hSw : S ∉ wr := fun h => hSf (W.sub _ h)
  have up : ∀ b ∈ wr, b ∈ S :: wr := fun b hb => List.mem_cons_of_mem _ hb
  have still : ∀ {s s' : Shared} {q : Str → Bool} {m : Nat}, Moved wr G s s' → s.heap.SetOf (PySem.strKind prog w) S q m → s'.heap.SetOf (PySem.strKind prog w) S q m := fun hm ⟨o, es, ep, t, ho, r⟩ => ⟨o, es, ep, t, hm.heap S _ hSw ho, r⟩
  intro k
  induction k with
  | zero =>
    intro i s hk hi hst hS hR
    have hin : i = n := by omega
    subst hin
    rw [List.take_of_length_le (by omega)] at hS
    refine codeAny_builtin PyProof.Rows.F.entry_set_update_loop ?_
    rw [Around.under_plainId PyProof.Rows.F.plain_set_update_loop _]
    show wpAny _ A.in1 (pyNext (.ref I) >>= _) _ _ s
    exact wpAny_bind (W.done s _ _ hst fun s' hm => wpAny_pure (hR s' (hm.mono up) (still hm hS)))
  | succ k ih =>
    intro i s hk hi hst hS hR
    have hlt : i < n := by omega
    have hlx : i < xs.length := by omega
    refine codeAny_builtin PyProof.Rows.F.entry_set_update_loop ?_
    rw [Around.under_plainId PyProof.Rows.F.plain_set_update_loop _]
    show wpAny _ A.in1 (pyNext (.ref I) >>= _) _ _ s
    refine wpAny_bind (W.item i s _ _ hlt hst fun v s' hP hst' hm => ?_)
    obtain ⟨t, rfl⟩ := hval i v hP
    have hS' := still hm hS
    show wpAny _ A.in1 (holding [Value.str (xs.getD i Str.empty) t] (setAdd S (.str (xs.getD i Str.empty) t)) >>= _) _ _ s'
    refine wpAny_bind (wpAny_holding ?_)
    unfold setAdd
    refine wpAny_holding (wpAny_bind ((PySem.strKind prog w).pyHash (k := xs.getD i Str.empty) (strKind_is _ _ _ _) ?_))
    have hcnt : (uniq (xs.take i)).length + 1 < scanBound := by
      have := uniq_le (xs.take i)
      rw [List.length_take] at this
      omega
    refine wpAny_setAddHashed_of (knd := PySem.strKind prog w) (s := { s' with toks := s'.toks + 1 }) (strKind_is _ _ _ _) rfl hS' hcnt fun h' hsb hS2 => ?_
    have et : xs.take (i + 1) = xs.take i ++ [xs.getD i Str.empty] := by
      rw [List.take_add_one, List.getD_eq_getElem?_getD, List.getElem?_eq_getElem hlx] <;> rfl
    have hSi : h'.SetOf (PySem.strKind prog w) S (fun q => decide (q ∈ xs.take (i + 1))) (uniq (xs.take (i + 1))).length := by
      refine SetOf_congr hS2 (fun q => ?_) ?_
      · rw [et]
        simp [List.mem_append]
      · rw [et, uniq_snoc]
        by_cases hm2 : xs.getD i Str.empty ∈ xs.take i
        · rw [if_pos (mem_uniq.mpr hm2), if_pos (decide_eq_true hm2)]
        · rw [if_neg (fun z => hm2 (mem_uniq.mp z)), if_neg (by simpa using hm2), List.length_append, List.length_singleton]
    refine wpAny_pure ⟨plainId_quiet PyProof.Rows.F.plain_set_update_loop _, ih (i + 1) _ (by omega) hlt (W.frame _ s' _ _ hst' (Nat.le_succ _) fun b hb o e => ?_) hSi fun s'' hm'' hS'' => ?_⟩
    · rw [hsb.2 b (fun h : b = S => hSf (by rw [← h]; exact hb))]; exact e
    · refine hR s'' (Moved.trans W.gtrans ((hm.mono up).then_heap (Nat.le_succ _) fun b o hb e => ?_) hm'') hS''
      rw [hsb.2 b (fun h : b = S => hb (by rw [h]; exact List.mem_cons_self))]; exact e
end

section
variable {prog : Program} {w : World} {A : Around} {E : Value → Shared → Prop} {s : Shared}
theorem set_of_strs {l : Addr} {items : Array Value} {xs : List Str} {Q : Value → Shared → Prop}
    (hh : A.handled = none) (hl : s.heap.IsList l items) (hi : PyProof.Rows.StrsAre items.toList xs) (hn1 : xs.length + 2 < scanBound)
    (h : ∀ (h' : Heap) (tk : Nat), h'.SetOf (PySem.strKind prog w) s.heap.objs.size (fun q => decide (q ∈ xs)) (uniq xs).length →
      (∀ b o, b < s.heap.objs.size → s.heap.get? b = some o → h'.get? b = some o) → Q (.ref s.heap.objs.size) { s with heap := h', toks := tk }) :
    wpAny (model prog w) A (call (.type "set") [.ref l]) Q E s := by
  obtain ⟨c, tl, hmro⟩ := PySem.F.called_set.mro
  have hmade := PySem.F.called_set.made
  have hsub := PySem.F.called_set.sub
  refine wpAny_call (codeAny_of_tree ?_)
  show wpAny _ _ (callAny (.type "set") _) _ _ _
  refine wpAny_pure ⟨Code.quiet_builtin _ (by decide +kernel), codeAny_builtin PySem.F.entry_type_call ?_⟩
  rw [Around.under_plain (weight_type_call_type "set" [.ref l] []) rfl]
  have h1 := PySem.F.called_set.notType
  have h2 := PySem.F.called_set.canCreate
  have hct := PySem.F.typeCall_set_1 (.ref l)
  repeat (any_goals (first | assumption | wp_step))
  refine codeAny_mono (code_set_new_1 (.ref l) (E := E) (Q₁ := fun obj s₁ => ∃ led : Bool, obj = .ref s.heap.objs.size ∧ s₁ = { s with heap := s.heap.push { cls := .type "set", dict := none, data := .set #[] 0 (.fresh 0 0 led) } }) fun led => ⟨led, rfl, rfl⟩) fun r s₁ hr => ?_
  cases r with
  | error e => exact hr
  | ok fl =>
    cases fl with
    | ret obj =>
      obtain ⟨led, rfl, rfl⟩ := hr
      generalize hso : ({ cls := .type "set", dict := none, data := .set #[] 0 (.fresh 0 0 led) } : Obj) = so
      have hS : (s.heap.push so).get? s.heap.objs.size = some so := Heap.get?_push_size _ (by rw [← hso] <;> rfl)
      have hT : Shared.TypeIs { s with heap := s.heap.push so } (.ref s.heap.objs.size) "set" := ⟨_, hS, by rw [← hso]⟩
      have hli := PySem.F.called_set.init.lookup
      have hbi := PySem.F.called_set.init.bind (.ref s.heap.objs.size)
      repeat (any_goals (first | assumption | wp_step))
      refine codeAny_mono (codeAny_call_builtin (R := wants (fun r s₂ => r = .none ∧ ∃ h' tk, s₂ = { s with heap := h', toks := tk } ∧
          h'.SetOf (PySem.strKind prog w) s.heap.objs.size (fun q => decide (q ∈ xs)) (uniq xs).length ∧
          (∀ b o, b < s.heap.objs.size → s.heap.get? b = some o → h'.get? b = some o)) E) PySem.F.called_set.init.plain PySem.F.entry_set_init (check_set_init_1 hT ?_)) fun r₂ s₂ hr₂ => ?_
      · obtain ⟨ol, hol, hcl, nl, hdl⟩ := hl
        obtain ⟨ocls, odict, odata, oslots⟩ := ol
        simp only at hcl hdl
        subst hcl; subst hdl
        subst hso
        have hol' : (s.heap.push { cls := .type "set", dict := none, data := .set #[] 0 (.fresh 0 0 led) }).get? l = some { cls := .type "list", dict := odict, data := .seq items nl, slots := oslots } := Heap.get?_push_of_some _ hol
        have hsls := PySem.F.sub_list_set
        have hslf := PySem.F.sub_list_frozenset
        have hne : (Value.type "list" == Value.type "dict") = false := by decide
        have hl1 : (s.heap.push { cls := .type "set", dict := none, data := .set #[] 0 (.fresh 0 0 led) }).IsList l items := ⟨_, hol', rfl, nl, rfl⟩
        unfold Builtin.«set.__init__» noKeywords Builtin.Frozenset.updateFrom
        generalize hPI : pyIter = PI
        wp_walk
        subst hPI
        refine wpAny_pyIter_list hl1 ?_
        refine wpAny_bind (wpAny_runValue ?_)
        have hlS : l < s.heap.objs.size := Heap.lt_size hol
        have hh3 : A.in1.in1.in1.handled = none := by simp [hh]
        have szp : ∀ o : Obj, (s.heap.push o).objs.size = s.heap.objs.size + 1 := fun o => Heap.size_push ..
        have hneI : l ≠ (s.heap.push { cls := .type "set", dict := none, data := .set #[] 0 (.fresh 0 0 led) }).objs.size := by
          rw [szp]; exact Nat.ne_of_lt (Nat.lt_succ_of_lt hlS)
        have hSf : s.heap.objs.size ∉ [(s.heap.push { cls := .type "set", dict := none, data := .set #[] 0 (.fresh 0 0 led) }).objs.size, l] := by
          rw [szp]; simp only [List.mem_cons, List.not_mem_nil, or_false, not_or]
          exact ⟨Nat.ne_of_lt (Nat.lt_succ_self _), Nat.ne_of_gt hlS⟩
        have hsz : xs.length = items.size := by rw [← StrsAre.len_eq hi, Array.length_toList]
        have hval : ∀ (i : Nat) (v : Value), items[i]? = some v → ∃ t, v = .str (xs.getD i Str.empty) t := fun i v hv => SS.strs_at hi i v (by rw [Array.getElem?_toList]; exact hv)
        refine loop_strs ((Walks.list hh3 _ l hneI items).toS) s.heap.objs.size
          hSf xs hsz (by rw [← hsz]; exact hn1) hval (items.size - 0) 0 _ (by omega) (Nat.zero_le _)
          ⟨⟨_, Heap.get?_push_size _ rfl, rfl, rfl⟩, (hl1.push _)⟩ ?hS0 ?hR
        case hS0 =>
          have hget : ((s.heap.push { cls := .type "set", dict := none, data := .set #[] 0 (.fresh 0 0 led) }).push { cls := .type "list_iterator", data := .fields #[.ref l, .int 0 0] }).get? s.heap.objs.size
              = some { cls := .type "set", dict := none, data := .set #[] 0 (.fresh 0 0 led) } := Heap.get?_push_of_some _ hS
          exact PyProof.Rows.SetOf_congr ((PyProof.Rows.setObjOf_fresh (knd := PySem.strKind prog w) led).setOf hget (by unfold scanBound; omega)) (fun _ => by simp) rfl
        case hR =>
          intro s' hm hS'
          obtain ⟨h', g', d', tk', os'⟩ := s'
          have eg : g' = s.gens := hm.gens
          have ed : d' = s.drawn := hm.drawn
          have eo : os' = s.os := hm.os
          subst eg; subst ed; subst eo
          show wpAny _ _ _ _ _ _
          refine wpAny_pure ?_
          show wpAny _ _ (ret Value.none) _ _ _
          refine wpAny_pure ⟨rfl, h', tk', rfl, hS', fun b o hb e => ?_⟩
          have hb1 : b ≠ s.heap.objs.size := Nat.ne_of_lt hb
          have hb2 : b ≠ (s.heap.push { cls := .type "set", dict := none, data := .set #[] 0 (.fresh 0 0 led) }).objs.size := by
            rw [szp]; exact Nat.ne_of_lt (Nat.lt_succ_of_lt hb)
          exact hm.heap b o (by simp only [List.mem_cons, List.not_mem_nil, or_false, not_or]; exact ⟨hb1, hb2⟩) (Heap.get?_push_of_some _ (Heap.get?_push_of_some _ e))
      · cases r₂ with
        | error e => exact hr₂
        | ok fl₂ =>
          cases fl₂ with
          | ret r =>
            obtain ⟨rfl, h', tk, rfl, hS', hk'⟩ := hr₂
            repeat (any_goals (first | assumption | wp_step))
            exact h _ _ hS' hk'
          | _ => exact hr₂.elim
    | _ => exact hr.elim
end

section
variable {X : Cx} {a : Expr} {ta : TE} {p p2 q pos : Pos}
/-- len(set(xs)), xs a list of texts -/
def tLenU (K : PySem.W.Frag) (ta : TE) : TE := fun σ H Q => ta σ H fun x H1 => ∃ (l : Addr) (xs : List Str), x = .ref l ∧ SqL K H1 l (xs.map V.str) ∧ xs.length ≤ 4000 ∧ Q (.int (uniq xs).length) H1
theorem pe_lenU (B : Bl X.mg) (ha : PE X a ta) (hc : X.calm = true := by rfl) (hg : Gl X "len" := by rfl) (hg2 : Gl X "set" := by rfl)
    (na : starEach [a] X.env = (false, eval a X.env) :: starEach [] X.env := by rfl) : PE X (.Call (.Name "len" p) [.Call (.Name "set" p2) [a] [] q] [] pos) (tLenU X.K ta) := by
  refine ⟨fun pins s σ H Q I h => ?_⟩
  refine Call_ (ld_blt I hg B.len boot_len ?_)
  refine PyProof.Rows.callWith_builtin1 (PyProof.Rows.args_cons ?_ rfl) rfl rfl
  refine Call_ (ld_blt I hg2 B.set boot_set ?_)
  refine PyProof.Rows.callWith_type1 (PyProof.Rows.args_cons (thn (ha.run pins s σ H _ I h) fun v s1 ⟨x, H1, I1, r1, l, xs, ex, hq, h1, q1⟩ => PyProof.Rows.args_nil ?_) na) na rfl
  subst ex
  cases r1
  obtain ⟨its, r, pl, hz⟩ := I1.list hq
  refine set_of_strs (I1.ok.hd hc) pl.isList (by simpa using strsAre_of r) (by unfold scanBound; omega) fun h' tk hS hk => ?_
  refine PyProof.Rows.args_nil ?_
  have hle := uniq_le xs
  obtain ⟨o, es, ep, t, ho, hex, hd, _, _, _, hf, hn⟩ := hS
  have I2 : Inv X pins σ H1 { s1 with heap := h', toks := tk } := I1.kept fun b o e => hk b o (Heap.lt_size e) e
  refine call_len_set ho hex hd hf (by rw [hn] <;> omega) ⟨.int (uniq xs).length, H1, I2.tok _, ⟨_, by rw [hn]⟩, q1⟩
end
end SL
set_option Elab.async false
set_option linter.all false
set_option maxRecDepth 100000
set_option maxHeartbeats 2000000
/-! own words, 5: the size of data (no less than its repr's), kinds as data -/
namespace SL
open PySem PySem.Spec PyProof.Rows L2 GxR NdefX GA
mutual
/-- no less than the signs of the repr -/
def wt : PyData → Nat
  | .none => 4
  | .bool _ => 5
  | .int i => (Str.ofString (toString i)).length + 4
  | .str x => 12 * x.length + 4
  | .list xs => wtAll xs + 4
  | .tuple xs => wtAll xs + 4
  | .dict kvs => 4 + 16777217 * kvs.length
def wtAll : List PyData → Nat
  | [] => 0
  | x :: xs => wt x + 2 + wtAll xs
end
theorem wtAll_append : ∀ (xs ys : List PyData), wtAll (xs ++ ys) = wtAll xs + wtAll ys
  | [], ys => by simp [wtAll]
  | x :: xs, ys => by
    have := wtAll_append xs ys
    simp only [List.cons_append, wtAll]
    omega
theorem wtAll_len : ∀ (xs : List PyData), 2 * xs.length ≤ wtAll xs
  | [] => by simp [wtAll]
  | x :: xs => by
    have := wtAll_len xs
    simp only [List.length_cons, wtAll]
    omega
theorem wtAll_take (xs : List PyData) (n : Nat) : wtAll (xs.take n) ≤ wtAll xs := by
  have := wtAll_append (xs.take n) (xs.drop n)
  rw [List.take_append_drop] at this
  omega
theorem wtAll_drop (xs : List PyData) (n : Nat) : wtAll (xs.drop n) ≤ wtAll xs := by
  have := wtAll_append (xs.take n) (xs.drop n)
  rw [List.take_append_drop] at this
  omega
theorem wt_get : ∀ {xs : List PyData} {i : Nat} {d : PyData}, xs[i]? = some d → wt d + 2 ≤ wtAll xs
  | [], _, _, h => by simp at h
  | x :: xs, 0, d, h => by
    simp at h
    subst h
    simp only [wtAll]
    omega
  | x :: xs, i + 1, d, h => by
    have := wt_get (xs := xs) (i := i) (d := d) (by simpa using h)
    simp only [wtAll]
    omega
theorem wt_mem {xs : List PyData} {d : PyData} (h : d ∈ xs) : wt d + 2 ≤ wtAll xs := by
  obtain ⟨i, hi⟩ := List.mem_iff_getElem?.mp h
  exact wt_get hi

/-! ### names as the document has them -/
def upC (c : Nat) : Bool := decide (65 ≤ c) && decide (c ≤ 90)
def loC (c : Nat) : Bool := decide (97 ≤ c) && decide (c ≤ 122)
def diC (c : Nat) : Bool := decide (48 ≤ c) && decide (c ≤ 57)
def anC (c : Nat) : Bool := upC c || loC c || diC c
def kept (x : Str) : Bool := decide (x = "fun") || decide (x = "kind") || decide (x = "number")
/-- a name -/
def nameS (x : Str) : Bool := decide (1 ≤ x.length) && decide (x.length ≤ 10) && x.cps.toList.all anC && (match x.cps.toList with | c :: _ => upC c || loC c | [] => false) && !kept x
def highS (x : Str) : Bool := nameS x && (match x.cps.toList with | c :: _ => upC c | [] => false)
def lowS (x : Str) : Bool := nameS x && (match x.cps.toList with | c :: _ => loC c | [] => false)
def highD : PyData → Bool
  | .str x => highS x
  | _ => false
/-! ### kinds -/
def tupB (d : PyData) (l m : Int) : Bool := match d with
  | .tuple xs => decide (l ≤ (xs.length : Int)) && decide ((xs.length : Int) ≤ m)
  | _ => false
def fstD : PyData → PyData
  | .tuple (a :: _) => a
  | _ => .none
def sndD : PyData → PyData
  | .tuple (_ :: b :: _) => b
  | _ => .none
def itemsD : PyData → List PyData
  | .tuple l => l
  | _ => []
def strD : PyData → Str
  | .str x => x
  | _ => Str.empty
def makerB (d : PyData) : Bool := tupB d 2 2 && highD (fstD d) && tupB (sndD d) 0 4 && (itemsD (sndD d)).all isStr
def kindB (d : PyData) : Bool := tupB d 2 2 && highD (fstD d) && tupB (sndD d) 1 6 && (itemsD (sndD d)).all makerB
def titlesD (d : PyData) : List PyData := (itemsD d).map fstD
def makersD (d : PyData) : List PyData := (itemsD d).flatMap fun k => itemsD (sndD k)
def mnamesD (d : PyData) : List PyData := (makersD d).map fstD
def fieldsD (d : PyData) : List PyData := (makersD d).flatMap fun m => itemsD (sndD m)
def unl (l : List PyData) : Bool := decide ((l.map strD).Nodup)
def fieldOk (d : PyData) (f : PyData) : Bool := decide (strD f = "number") || decide (strD f ∈ (titlesD d).map strD)
/-- kinds -/
def kindsB (d : PyData) : Bool := tupB d 1 6 && (itemsD d).all kindB && unl (titlesD d) && unl (mnamesD d) && (fieldsD d).all (fieldOk d)
theorem tup2 {d : PyData} (h : tupB d 2 2 = true) : ∃ x y, d = .tuple [x, y] := by
  cases d with
  | tuple xs =>
    simp only [tupB, Bool.and_eq_true, decide_eq_true_eq] at h
    match xs, h with
    | [x, y], _ => exact ⟨x, y, rfl⟩
    | [], h => simp at h
    | [_], h => simp at h
    | _ :: _ :: _ :: r, h => simp only [List.length_cons] at h; omega
  | _ => simp [tupB] at h
theorem tupOf {d : PyData} {l m : Int} (h : tupB d l m = true) : ∃ xs, d = .tuple xs ∧ l ≤ (xs.length : Int) ∧ (xs.length : Int) ≤ m := by
  cases d with
  | tuple xs =>
    simp only [tupB, Bool.and_eq_true, decide_eq_true_eq] at h
    exact ⟨xs, rfl, h.1, h.2⟩
  | _ => simp [tupB] at h
theorem dv_pair {M : List Addr} {H : Hp} {v : V} {x y : PyData} (h : Dv M H v (.tuple [x, y])) : ∃ a vx vy, v = .ref a ∧ H a = some (.tup [vx, vy]) ∧ a ∉ M ∧ Dv M H vx x ∧ Dv M H vy y := by
  cases h with
  | tup e n r =>
    cases r with
    | cons h1 r =>
      cases r with
      | cons h2 r =>
        cases r
        exact ⟨_, _, _, rfl, e, n, h1, h2⟩
theorem dv_tup {M : List Addr} {H : Hp} {v : V} {xs : List PyData} (h : Dv M H v (.tuple xs)) : ∃ a vs, v = .ref a ∧ H a = some (.tup vs) ∧ a ∉ M ∧ DvAll M H vs xs := by
  cases h with
  | tup e n r => exact ⟨_, _, rfl, e, n, r⟩
theorem wt_pair (x y : PyData) : wt (.tuple [x, y]) = wt x + wt y + 8 := by
  simp only [wt, wtAll]
  omega
theorem wt_tup (xs : List PyData) : wt (.tuple xs) = wtAll xs + 4 := by simp only [wt]
end SL
set_option Elab.async false
set_option linter.all false
set_option maxRecDepth 100000
set_option maxHeartbeats 2000000
/-! own words, 6: signs below 128 -/
namespace SL
open PySem PySem.Spec PyProof.Rows L2 GxR NdefX GA
theorem sign_tab : (List.range 128).all (fun c => (Unicode.isAlnum c == anC c) && (Unicode.isAlpha c == (upC c || loC c)) && ((Unicode.isUpper c && !(Unicode.isLower c || Unicode.isTitle c)) == upC c) && ((Unicode.isLower c && !(Unicode.isUpper c || Unicode.isTitle c)) == loC c)) = true := by decide +kernel
theorem sign_at {c : Nat} (h : c < 128) : Unicode.isAlnum c = anC c ∧ Unicode.isAlpha c = (upC c || loC c) ∧ (Unicode.isUpper c && !(Unicode.isLower c || Unicode.isTitle c)) = upC c ∧ (Unicode.isLower c && !(Unicode.isUpper c || Unicode.isTitle c)) = loC c := by
  have := List.all_eq_true.mp sign_tab c (List.mem_range.mpr h)
  simp only [Bool.and_eq_true, beq_iff_eq] at this
  obtain ⟨⟨⟨h1, h2⟩, h3⟩, h4⟩ := this
  exact ⟨h1, h2, h3, h4⟩
theorem anC_lt {c : Nat} (h : anC c = true) : c < 128 := by
  unfold anC upC loC diC at h
  simp only [Bool.or_eq_true, Bool.and_eq_true, decide_eq_true_eq] at h
  omega
theorem run_iff (x : Str) : (Txt.isascii x && Txt.isalnum x) = (decide (1 ≤ x.length) && x.cps.toList.all anC) := by
  unfold Txt.isascii Txt.isalnum
  rw [Bool.eq_iff_iff]
  simp only [Bool.and_eq_true, Array.all_eq_true_iff_forall_mem, decide_eq_true_eq, List.all_eq_true, Array.mem_toList_iff]
  constructor
  · rintro ⟨h1, h2, h3⟩
    exact ⟨by have : x.length > 0 := h2; omega, fun c hc => by rw [← (sign_at (h1 c hc)).1]; exact h3 c hc⟩
  · rintro ⟨h1, h2⟩
    exact ⟨fun c hc => anC_lt (h2 c hc), by show x.length > 0; omega, fun c hc => by rw [(sign_at (anC_lt (h2 c hc))).1]; exact h2 c hc⟩
theorem alpha1 {c : Nat} (h : c < 128) : Txt.isalpha ⟨#[c]⟩ = (upC c || loC c) := by
  unfold Txt.isalpha
  rw [← (sign_at h).2.1]
  simp [Str.length]
theorem upper1 {c : Nat} (h : c < 128) : Txt.isupper ⟨#[c]⟩ = upC c := by
  unfold Txt.isupper
  rw [← (sign_at h).2.2.1]
  simp
theorem lower1 {c : Nat} (h : c < 128) : Txt.islower ⟨#[c]⟩ = loC c := by
  unfold Txt.islower
  rw [← (sign_at h).2.2.2]
  simp
theorem inV_strs (x : Str) : ∀ l : List Str, inV (.str x) (l.map V.str) = decide (x ∈ l)
  | [] => rfl
  | y :: r => by
    have ih := inV_strs x r
    unfold inV at ih ⊢
    rw [List.map_cons, List.any_cons, ih]
    have e : eqV (.str y) (.str x) = decide (x = y) := by
      unfold eqV
      first
        | (by_cases h : x = y
           · subst h; simp
           · simp [h, Ne.symm h])
    rw [e]
    by_cases h : x = y
    · subst h; simp
    · simp [h]
theorem goQ {Q : VK} {H : Hp} {b c : Bool} (q : Q (.bl b) H) (e : b = c) : Q (.bl c) H := by rw [← e]; exact q
theorem cons_of_len {x : Str} (h : 1 ≤ x.length) : ∃ c r, x.cps.toList = c :: r := by
  have e : x.length = x.cps.toList.length := by simp [Str.length]
  cases q : x.cps.toList with
  | nil => rw [e, q] at h; simp at h
  | cons c r => exact ⟨c, r, rfl⟩
end SL
set_option Elab.async false
set_option linter.all false
set_option maxRecDepth 100000
set_option maxHeartbeats 2000000
/-! own words, 7: a def whose code object is known -/
namespace SL
open PySem PySem.Spec PyProof.Rows L2 GxR NdefX GA
/-- a def of the top whose code object stands at c -/
structure FunT (K : PySem.W.Frag) (x qual : Str) (st : Stmt) (f : Addr) (fd : FuncData) (c : Addr) : Prop where
  ex : ∃ (oc : Value) (od : Option Addr) (kV doc pm : Value) (an : Option Addr) (ct : Value) (osl : Array (Option Value)),
    fd = PySem.W.fnOf x qual (defArgs st) (defBody st) (defScope st) .none kV doc pm an (.ref c) ct ∧ K.lookup f = some ⟨oc, od, .func fd, osl⟩ ∧ PySem.W.codeIn K (.ref c) qual = true
  kp : PySem.W.keepIn K (.ref f) = true
section
variable {P : Program} {w : World} {K : PySem.W.Frag} {mg : Str → Option Value} {base : Heap} {x qual : Str} {st : Stmt} {f c : Addr} {fd : FuncData} {N ps : List Str} {k : Nat} {sp : Sp}
theorem FunT.fn (F : FunT K x qual st f fd c) : Fun K x qual st f fd := by
  obtain ⟨oc, od, kV, doc, pm, an, ct, osl, e, l, h⟩ := F.ex
  exact ⟨⟨oc, od, kV, doc, pm, an, _, ct, osl, e, l, h⟩, F.kp⟩
theorem FunT.ok (F : FunT K x qual st f fd c) (S : FnScope N ps (defScope st)) (len : ∀ vs H Q E, sp vs H Q E → vs.length = ps.length)
    (hbody : ∀ (A : Around) (outer : List Env) (s : Shared) (H : Hp) (vs : List V) (Q : VK) (E : XK), Room k (A.deeper (envOfC qual (defScope st) s.heap.objs.size f (.ref c))) → sp vs H Q E →
      ∃ t, PSs (cxOf CX0 P w K mg base N qual (defScope st) f (.ref c) A outer s H E).nox (defBody st) t ∧ t { nx := fun _ H' => Q .non H', rt := Q } (start N vs) H) : FnOk P w K mg base CX0 (k + 1) f fd ps sp := by
  obtain ⟨oc, od, kV, doc, pm, an, ct, osl, rfl, lk, hcd⟩ := F.ex
  refine fn_of lk hcd S len fun A outer s H vs Q E hr hsp => ?_
  obtain ⟨t, h, q⟩ := hbody A outer s H vs Q E hr hsp
  exact ⟨t, h.nox, q⟩
theorem FunT.okX (F : FunT K x qual st f fd c) (S : FnScope N ps (defScope st)) (len : ∀ vs H Q E, sp vs H Q E → vs.length = ps.length)
    (hbody : ∀ (A : Around) (outer : List Env) (s : Shared) (H : Hp) (vs : List V) (Q : VK) (E : XK), Room k (A.deeper (envOfC qual (defScope st) s.heap.objs.size f (.ref c))) → sp vs H Q E →
      ∃ t, PSs (cxOf (L2.CX P w) P w K mg base N qual (defScope st) f (.ref c) A outer s H E) (defBody st) t ∧ t { nx := fun _ H' => Q .non H', rt := Q } (start N vs) H) : FnOk P w K mg base (L2.CX P w) (k + 1) f fd ps sp := by
  obtain ⟨oc, od, kV, doc, pm, an, ct, osl, rfl, lk, hcd⟩ := F.ex
  exact fn_of lk hcd S len hbody
end
section
variable {X : Cx} {T M : List Addr} {H : Hp} {K : PySem.W.Frag} {P a : Addr} {xs : List V} {ds : List PyData}
/-- the reading of all(test(x) for x in t), t a tuple of data, x in the slot j: b the truth of each -/
theorem all_tup {te : TE} {σ0 : L2.St} {Q : VK} {b : PyData → Bool} {j : Nat} (hx : H a = some (.tup xs)) (ha : a ∉ M) (hd : DvAll M H xs ds) (ht : Tabs T H) (hP : P ∈ T)
    (hb : ∀ (x : V) (d : PyData) (H' : Hp) (R : VK), d ∈ ds → Dv M H' x d → Go T M H H' → Tabs T H' → (∀ H'' , Go T M H' H'' → Tabs T H'' → R (.bl (b d)) H'') → te (σ0.set j (some x)) H' R)
    (hq : ∀ H', Go T M H H' → Tabs T H' → Q (.bl (ds.all b)) H') :
    TabG H P ∧ ∀ H2, Tabbed P H H2 → ∃ W, (∃ m, W 0 m σ0 H2) ∧ GTurn (Itt K a) (gName j) te W (fun H' => Q (.bl (!false)) H') (KB false W fun b H' => Q (.bl b) H') := by
  refine ⟨ht P hP, fun H2 tb => ?_⟩
  have hl := hd.length
  have g2 : Go T M H H2 := Go.tbd (ht P hP) tb
  refine ⟨fun i m σ H' => m = xs.length - i ∧ i ≤ xs.length ∧ Go T M H H' ∧ Tabs T H' ∧ (∀ v, σ.set j v = σ0.set j v) ∧ (ds.take i).all b = true, ⟨xs.length, rfl, Nat.zero_le _, g2, g2.tb ht, fun _ => rfl, by simp⟩, ?_⟩
  rintro i m σ H' ⟨rfl, hi, gg, tt, hs, hall⟩
  have hx' : SqT K H' a xs := SqT.of (gg.tup hx ha)
  by_cases hlt : i < xs.length
  · refine .inr ⟨⟨xs, xs[i], hx', by simp [hlt]⟩, by omega, fun x H'' y => ?_⟩
    obtain ⟨e, y⟩ := y
    subst e
    have ex : xs[i]? = some x := y xs hx'
    obtain ⟨d, ed, hv⟩ := hd.get ex
    show te (σ.set j (some x)) H'' _
    rw [hs]
    refine hb x d H'' _ (List.mem_of_getElem? ed) (hv.go gg) gg tt fun H3 g3 t3 => ?_
    refine ⟨b d, rfl, ?_⟩
    have et : ds.take (i + 1) = ds.take i ++ [d] := by rw [List.take_add_one, ed] <;> rfl
    cases c : b d with
    | true =>
      rw [if_neg (by simp)]
      exact ⟨xs.length - (i + 1), by omega, rfl, hlt, gg.trans g3, t3, fun v => by rw [List.set_set], by rw [et, List.all_append, hall]; simp [c]⟩
    | false =>
      rw [if_pos rfl]
      have : ds.all b = false := by
        rw [List.all_eq_false]
        exact ⟨d, List.mem_of_getElem? ed, by rw [c]; simp⟩
      rw [← this]
      exact hq H3 (gg.trans g3) t3
  · have e : i = xs.length := by omega
    subst e
    rw [hl, List.take_length] at hall
    refine .inl ⟨⟨xs, hx', Nat.le_refl _⟩, ?_⟩
    have := hq H' gg tt
    rw [hall] at this
    exact this
/-- .. over a list of data -/
theorem all_lst {te : TE} {σ0 : L2.St} {Q : VK} {b : PyData → Bool} {j : Nat} (hx : H a = some (.lst xs)) (ha : a ∉ M) (hd : DvAll M H xs ds) (ht : Tabs T H) (hP : P ∈ T)
    (hb : ∀ (x : V) (d : PyData) (H' : Hp) (R : VK), d ∈ ds → Dv M H' x d → Go T M H H' → Tabs T H' → (∀ H'' , Go T M H' H'' → Tabs T H'' → R (.bl (b d)) H'') → te (σ0.set j (some x)) H' R)
    (hq : ∀ H', Go T M H H' → Tabs T H' → Q (.bl (ds.all b)) H') :
    TabG H P ∧ ∀ H2, Tabbed P H H2 → ∃ W, (∃ m, W 0 m σ0 H2) ∧ GTurn (Itl K a) (gName j) te W (fun H' => Q (.bl (!false)) H') (KB false W fun b H' => Q (.bl b) H') := by
  refine ⟨ht P hP, fun H2 tb => ?_⟩
  have hl := hd.length
  have g2 : Go T M H H2 := Go.tbd (ht P hP) tb
  refine ⟨fun i m σ H' => m = xs.length - i ∧ i ≤ xs.length ∧ Go T M H H' ∧ Tabs T H' ∧ (∀ v, σ.set j v = σ0.set j v) ∧ (ds.take i).all b = true, ⟨xs.length, rfl, Nat.zero_le _, g2, g2.tb ht, fun _ => rfl, by simp⟩, ?_⟩
  rintro i m σ H' ⟨rfl, hi, gg, tt, hs, hall⟩
  have hx' : SqL K H' a xs := SqL.of (gg.lst hx ha)
  by_cases hlt : i < xs.length
  · refine .inr ⟨⟨xs, xs[i], hx', by simp [hlt]⟩, by omega, fun x H'' y => ?_⟩
    obtain ⟨e, y⟩ := y
    subst e
    have ex : xs[i]? = some x := y xs hx'
    obtain ⟨d, ed, hv⟩ := hd.get ex
    show te (σ.set j (some x)) H'' _
    rw [hs]
    refine hb x d H'' _ (List.mem_of_getElem? ed) (hv.go gg) gg tt fun H3 g3 t3 => ?_
    refine ⟨b d, rfl, ?_⟩
    have et : ds.take (i + 1) = ds.take i ++ [d] := by rw [List.take_add_one, ed] <;> rfl
    cases c : b d with
    | true =>
      rw [if_neg (by simp)]
      exact ⟨xs.length - (i + 1), by omega, rfl, hlt, gg.trans g3, t3, fun v => by rw [List.set_set], by rw [et, List.all_append, hall]; simp [c]⟩
    | false =>
      rw [if_pos rfl]
      have : ds.all b = false := by
        rw [List.all_eq_false]
        exact ⟨d, List.mem_of_getElem? ed, by rw [c]; simp⟩
      rw [← this]
      exact hq H3 (gg.trans g3) t3
  · have e : i = xs.length := by omega
    subst e
    rw [hl, List.take_length] at hall
    refine .inl ⟨⟨xs, hx', Nat.le_refl _⟩, ?_⟩
    have := hq H' gg tt
    rw [hall] at this
    exact this
end
end SL
set_option Elab.async false
set_option linter.all false
set_option maxRecDepth 100000
set_option maxHeartbeats 2000000
/-! own words, 8: comprehensions over data of pairs -/
namespace SL
open PySem PySem.Spec PyProof.Rows L2 GxR NdefX GA
section
variable {T M : List Addr} {H0 H1 : Hp} {K : PySem.W.Frag} {J : It} {G : Hp → Prop} {xs : List V} {ds : List PyData} {D : Addr} {Qd : Hp → Prop} {σ : L2.St}
theorem iteYes {A B : Prop} (h : A) : if true = true then A else B := by rw [if_pos rfl]; exact h
theorem dv_two {M : List Addr} {H : Hp} {v : V} {x y : PyData} (h : Dv M H v (.tuple [x, y])) : ∃ a vx vy, v = .ref a ∧ H a = some (.tup [vx, vy]) ∧ a ∉ M ∧ Dv M H vx x ∧ Dv M H vy y := dv_pair h
/-- [x for x, _ in pairs] -/
theorem lc_fst {i j : Nat} {vs : List Nat} (w : Walk J xs.length G (YAt xs)) (hG : ∀ H', Go T M H0 H' → G H') (hd : DvAll M H0 xs ds) (hp : ∀ d ∈ ds, ∃ x y, d = .tuple [x, y]) (g1 : Go T M H0 H1) (hD : H1 D = none) (hn : xs.length ≤ sizeLine)
    (hw : ∀ v1 v2, wipe (((wipe σ vs).set i (some v1)).set j (some v2)) vs = wipe σ vs) (hv : ∀ v1 v2, (((wipe σ vs).set i (some v1)).set j (some v2))[i]? = some (some v1))
    (hq : ∀ H' acc, Go T M H0 H' → H' D = some (.lst acc) → DvAll M H0 acc (ds.map fstD) → Qd H') :
    ∃ W : Nat → Nat → Hp → Prop, (∃ m, W 0 m (upd H1 D (.lst []))) ∧ ∀ i' m H, W i' m H →
      (J.stop i' H ∧ Qd H) ∨ (J.go i' H ∧ ∃ Nx : Hp → Prop, (∀ H', Nx H' → ∃ m', m' < m ∧ W (i' + 1) m' H') ∧ ∀ x H', J.yld i' H x H' → gTup K 2 (gCons (gName i) (gCons (gName j) gNil)) x (wipe σ vs) H' fun σ2 H2 => wipe σ2 vs = wipe σ vs ∧ tYes σ2 H2 fun b H3 =>
        if b = true then tVar i σ2 H3 fun y H4 => ∃ acc, H4 D = some (.lst acc) ∧ acc.length < sizeLine ∧ Nx (upd H4 D (.lst (acc ++ [y]))) else Nx H3) := by
  have hD0 : H0 D = none := g1.al D hD
  refine lc_it w (fun n H' => Go T M H0 H' ∧ ∃ acc, H' D = some (.lst acc) ∧ acc.length = n ∧ DvAll M H0 acc ((ds.take n).map fstD)) ⟨g1.trans (Go.new hD), [], upd_same, rfl, .nil⟩ (fun n H' _ h => hG H' h.1) (fun n x H' H'' hlt h y => ?_) (fun H' h => ?_)
  · obtain ⟨gg, acc, ea, el, da⟩ := h
    obtain ⟨rfl, ex⟩ := y
    obtain ⟨d, ed, hx⟩ := hd.get ex
    obtain ⟨p, q, rfl⟩ := hp d (List.mem_of_getElem? ed)
    obtain ⟨a, vx, vy, rfl, e, na, hx, hy⟩ := dv_pair hx
    refine ⟨a, _, rfl, SqT.of (gg.tup e na), rfl, _, _, rfl, _, _, rfl, rfl, ?_⟩
    refine ⟨hw vx vy, ?_⟩
    unfold tYes
    show if true = true then _ else _
    rw [if_pos rfl]
    refine ⟨vx, hv vx vy, acc, ea, by omega, gg.over hD0 ea (fun _ z => by cases z), acc ++ [vx], upd_same, by rw [List.length_append, el] <;> rfl, ?_⟩
    have : ds.take (n + 1) = ds.take n ++ [.tuple [p, q]] := by rw [List.take_add_one, ed] <;> rfl
    rw [this, List.map_append]
    exact da.append (.cons hx .nil)
  · obtain ⟨gg, acc, ea, el, da⟩ := h
    rw [hd.length, List.take_length] at da
    exact hq H' acc gg ea da
theorem sndD_pair (x y : PyData) : sndD (.tuple [x, y]) = y := rfl
/-- [x for _, own in pairs for x in own] -/
theorem lc2_snd {i j k : Nat} {vs vs1 : List Nat} {c : Nat} (w : Walk J xs.length G (YAt xs)) (hG : ∀ H', Go T M H0 H' → G H') (hd : DvAll M H0 xs ds) (hp : ∀ d ∈ ds, ∃ x l, d = .tuple [x, .tuple l] ∧ l.length ≤ c) (g1 : Go T M H0 H1) (hD : H1 D = none) (hn : xs.length * c ≤ sizeLine)
    (hw : ∀ v1 v2, wipe (((wipe σ vs).set i (some v1)).set j (some v2)) vs = wipe σ vs) (hv : ∀ v1 v2, (((wipe σ vs).set i (some v1)).set j (some v2))[j]? = some (some v2))
    (hw1 : ∀ v1 v2 v3, wipe ((wipe (((wipe σ vs).set i (some v1)).set j (some v2)) vs1).set k (some v3)) vs1 = wipe (((wipe σ vs).set i (some v1)).set j (some v2)) vs1)
    (hv1 : ∀ v1 v2 v3, ((wipe (((wipe σ vs).set i (some v1)).set j (some v2)) vs1).set k (some v3))[k]? = some (some v3))
    (hq : ∀ H' acc, Go T M H0 H' → H' D = some (.lst acc) → DvAll M H0 acc (ds.flatMap fun d => itemsD (sndD d)) → Qd H') :
    ∃ W : Nat → Nat → Hp → Prop, (∃ m, W 0 m (upd H1 D (.lst []))) ∧ ∀ i' m H, W i' m H →
  (J.stop i' H ∧ Qd H) ∨ (J.go i' H ∧ ∃ Nx : Hp → Prop, (∀ H', Nx H' → ∃ m', m' < m ∧ W (i' + 1) m' H') ∧ ∀ x H', J.yld i' H x H' → gTup K 2 (gCons (gName i) (gCons (gName j) gNil)) x (wipe σ vs) H' fun σ2 H2 => wipe σ2 vs = wipe σ vs ∧ tYes σ2 H2 fun b H3 =>
    if b = true then iTup K (tVar j) σ2 H3 fun J1 H4 => ∃ W1 : Nat → Nat → Hp → Prop, (∃ m, W1 0 m H4) ∧ ∀ j' k' H, W1 j' k' H →
      (J1.stop j' H ∧ Nx H) ∨ (J1.go j' H ∧ ∃ Nx1 : Hp → Prop, (∀ H', Nx1 H' → ∃ k'', k'' < k' ∧ W1 (j' + 1) k'' H') ∧ ∀ x H', J1.yld j' H x H' → gName k x (wipe σ2 vs1) H' fun σ3 H5 => wipe σ3 vs1 = wipe σ2 vs1 ∧ tYes σ3 H5 fun b H6 =>
        if b = true then tVar k σ3 H6 fun y H7 => ∃ acc, H7 D = some (.lst acc) ∧ acc.length < sizeLine ∧ Nx1 (upd H7 D (.lst (acc ++ [y]))) else Nx1 H6)
    else Nx H3) := by
  have hD0 : H0 D = none := g1.al D hD
  have hl0 := hd.length
  refine ⟨fun n m H' => m = xs.length - n ∧ n ≤ xs.length ∧ Go T M H0 H' ∧ ∃ acc, H' D = some (.lst acc) ∧ acc.length ≤ n * c ∧ DvAll M H0 acc ((ds.take n).flatMap fun d => itemsD (sndD d)), ⟨xs.length, rfl, Nat.zero_le _, g1.trans (Go.new hD), [], upd_same, by simp, .nil⟩, ?_⟩
  rintro n m H' ⟨rfl, hi, gg, acc, ea, el, da⟩
  by_cases hlt : n < xs.length
  · refine .inr ⟨w.goes n H' hlt (hG H' gg), fun H2 => Go T M H0 H2 ∧ ∃ acc, H2 D = some (.lst acc) ∧ acc.length ≤ (n + 1) * c ∧ DvAll M H0 acc ((ds.take (n + 1)).flatMap fun d => itemsD (sndD d)), fun H2 h2 => ⟨xs.length - (n + 1), by omega, rfl, hlt, h2⟩, fun x H2 y => ?_⟩
    obtain ⟨rfl, ex⟩ := w.yields n H' x H2 hlt (hG H' gg) y
    obtain ⟨d, ed, hx⟩ := hd.get ex
    obtain ⟨p, l, rfl, hc⟩ := hp d (List.mem_of_getElem? ed)
    obtain ⟨a, vx, vy, rfl, e, na, hx, hy⟩ := dv_pair hx
    obtain ⟨b, ws, rfl, eb, nb, hws⟩ := dv_tup hy
    have hl1 := hws.length
    have et : ds.take (n + 1) = ds.take n ++ [.tuple [p, .tuple l]] := by rw [List.take_add_one, ed] <;> rfl
    have em : (n + 1) * c = n * c + c := Nat.succ_mul n c
    have ec : (n + 1) * c ≤ xs.length * c := Nat.mul_le_mul_right c hlt
    refine ⟨a, _, rfl, SqT.of (gg.tup e na), rfl, _, _, rfl, _, _, rfl, rfl, ?_⟩
    refine ⟨hw _ _, ?_⟩
    unfold tYes
    show if true = true then _ else _
    rw [if_pos rfl]
    refine ⟨_, hv _ _, b, rfl, ⟨_, SqT.of (gg.tup eb nb)⟩, ?_⟩
    refine ⟨fun r m' H3 => m' = ws.length - r ∧ r ≤ ws.length ∧ Go T M H0 H3 ∧ ∃ acc, H3 D = some (.lst acc) ∧ acc.length ≤ n * c + r ∧ DvAll M H0 acc (((ds.take n).flatMap fun d => itemsD (sndD d)) ++ l.take r), ⟨ws.length, rfl, Nat.zero_le _, gg, acc, ea, by omega, by rw [List.take_zero, List.append_nil]; exact da⟩, ?_⟩
    rintro r m' H3 ⟨rfl, hr, g3, acc3, ea3, el3, da3⟩
    have sq : SqT K H3 b ws := SqT.of (g3.tup eb nb)
    by_cases hlt2 : r < ws.length
    · refine .inr ⟨⟨ws, ws[r], sq, by simp [hlt2]⟩, fun H4 => Go T M H0 H4 ∧ ∃ acc, H4 D = some (.lst acc) ∧ acc.length ≤ n * c + (r + 1) ∧ DvAll M H0 acc (((ds.take n).flatMap fun d => itemsD (sndD d)) ++ l.take (r + 1)), fun H4 h4 => ⟨ws.length - (r + 1), by omega, rfl, hlt2, h4⟩, fun x' H4 y' => ?_⟩
      obtain ⟨rfl, y'⟩ := y'
      have ex' := y' ws sq
      obtain ⟨d', ed', hx'⟩ := hws.get ex'
      refine ⟨hw1 _ _ x', ?_⟩
      show if true = true then _ else _
      rw [if_pos rfl]
      refine ⟨x', hv1 _ _ x', acc3, ea3, by omega, g3.over hD0 ea3 (fun _ z => by cases z), acc3 ++ [x'], upd_same, by rw [List.length_append, List.length_singleton]; omega, ?_⟩
      have et' : l.take (r + 1) = l.take r ++ [d'] := by rw [List.take_add_one, ed'] <;> rfl
      rw [et', ← List.append_assoc]
      exact da3.append (.cons hx' .nil)
    · have e : r = ws.length := by omega
      subst e
      refine .inl ⟨⟨ws, sq, Nat.le_refl _⟩, g3, acc3, ea3, by omega, ?_⟩
      rw [hl1, List.take_length] at da3
      have ef : ([PyData.tuple [p, .tuple l]] : List PyData).flatMap (fun d => itemsD (sndD d)) = l := List.append_nil l
      rw [et, List.flatMap_append, ef]
      exact da3
  · have e : n = xs.length := by omega
    subst e
    rw [hl0, List.take_length] at da
    exact .inl ⟨w.stops H' (hG H' gg), hq H' acc gg ea da⟩
/-- all(test(x) for x in source), x in the slot j; b the truth of each -/
theorem all_it {te : TE} {σ0 : L2.St} {S : Hp → Prop} {Z : Bool → Hp → Prop} {b : PyData → Bool} {j : Nat} {P : Addr} {H : Hp} (w : Walk J xs.length G (YAt xs)) (hG : ∀ H', Go T M H H' → G H') (hd : DvAll M H xs ds) (ht : Tabs T H) (hP : P ∈ T)
    (hb : ∀ (x : V) (d : PyData) (H' : Hp) (R : VK), d ∈ ds → Dv M H' x d → Go T M H H' → Tabs T H' → (∀ H'' , Go T M H' H'' → Tabs T H'' → R (.bl (b d)) H'') → te (σ0.set j (some x)) H' R)
    (hS : ∀ H', Go T M H H' → Tabs T H' → ds.all b = true → S H') (hZ : ∀ H', Go T M H H' → Tabs T H' → ds.all b = false → Z false H') :
    TabG H P ∧ ∀ H2, Tabbed P H H2 → ∃ W, (∃ m, W 0 m σ0 H2) ∧ GTurn J (gName j) te W S (KB false W Z) := by
  refine ⟨ht P hP, fun H2 tb => ?_⟩
  have hl := hd.length
  have g2 : Go T M H H2 := Go.tbd (ht P hP) tb
  refine ⟨fun i m σ H' => m = xs.length - i ∧ i ≤ xs.length ∧ Go T M H H' ∧ Tabs T H' ∧ (∀ v, σ.set j v = σ0.set j v) ∧ (ds.take i).all b = true, ⟨xs.length, rfl, Nat.zero_le _, g2, g2.tb ht, fun _ => rfl, by simp⟩, ?_⟩
  rintro i m σ H' ⟨rfl, hi, gg, tt, hs, hall⟩
  by_cases hlt : i < xs.length
  · refine .inr ⟨w.goes i H' hlt (hG H' gg), by omega, fun x H'' y => ?_⟩
    obtain ⟨rfl, ex⟩ := w.yields i H' x H'' hlt (hG H' gg) y
    obtain ⟨d, ed, hv⟩ := hd.get ex
    show te (σ.set j (some x)) H'' _
    rw [hs]
    refine hb x d H'' _ (List.mem_of_getElem? ed) (hv.go gg) gg tt fun H3 g3 t3 => ?_
    refine ⟨b d, rfl, ?_⟩
    have et : ds.take (i + 1) = ds.take i ++ [d] := by rw [List.take_add_one, ed] <;> rfl
    cases c : b d with
    | true =>
      rw [if_neg (by simp)]
      exact ⟨xs.length - (i + 1), by omega, rfl, hlt, gg.trans g3, t3, fun v => by rw [List.set_set], by rw [et, List.all_append, hall]; simp [c]⟩
    | false =>
      rw [if_pos rfl]
      refine hZ H3 (gg.trans g3) t3 ?_
      rw [List.all_eq_false]
      exact ⟨d, List.mem_of_getElem? ed, by rw [c]; simp⟩
  · have e : i = xs.length := by omega
    subst e
    rw [hl, List.take_length] at hall
    exact .inl ⟨w.stops H' (hG H' gg), hS H' gg tt hall⟩
end
end SL
set_option Elab.async false
set_option linter.all false
set_option maxRecDepth 100000
set_option maxHeartbeats 2000000
/-! own words, 9: calls with keywords alone; calls whose exception the slots' wish takes -/
namespace SL
open PySem PySem.Spec PyProof.Rows L2 GxR NdefX GA
/-- a def as it is called by all its keywords, in its parameters' order -/
structure Fnw (P : Program) (w : World) (K : PySem.W.Frag) (mg : Str → Option Value) (base : Heap) (CX : CXT) (k : Nat) (x : Str) (ps : List Str) (sp : Sp) : Prop where
  ex : ∃ (f : Addr) (fd : FuncData), FnOk P w K mg base CX k f fd ps sp ∧ mg x = some (.ref f) ∧ PySem.W.keepIn K (.ref f) = true ∧ ∀ (s : Shared) (ws : List Value), K.In s.heap → ws.length = ps.length → BindsTo s fd ⟨[], ps.zip ws⟩ (ps.zip ws)
section
variable {X : Cx} {CX : CXT} {k j : Nat} {x : Str} {ps : List Str} {sp : Sp} {e : Expr} {es : List Expr} {kws : List Keyword} {t tk : TA} {p pos : Pos} {E : L2.St → XK} {f : Addr} {fd : FuncData}
theorem run_fw {pins : List (Addr × Obj)} {σ : L2.St} {H : Hp} {s : Shared} {Q : VK} {us : List Value} {vs : List V} (F : FnOk X.prog X.w X.K X.mg X.base CX k f fd ps sp) (hr : Room k X.A)
    (hb : ∀ (s : Shared) (ws : List Value), X.K.In s.heap → ws.length = ps.length → BindsTo s fd ⟨[], ps.zip ws⟩ (ps.zip ws)) (hx : PassesAt CX X σ (E σ))
    (I : Inv X pins σ H s) (r : Vals vs us) (h : sp vs H Q (E σ)) : wpAny (model X.prog X.w) X.A (call (.ref f) [] (ps.zip us)) (EP X pins σ Q) X.xe s := by
  have hl : us.length = ps.length := by rw [← r.length]; exact F.len _ _ _ _ h
  refine wpAny_call (codeAny_mono (F.run X.A X.stack s H ⟨[], ps.zip us⟩ us vs Q (E σ) hr I.env0 (hb s us I.kIn hl) r h) fun r s' hq => ?_)
  cases r with
  | error e => exact hx pins H s e s' I hq
  | ok fl =>
    cases fl with
    | ret u => exact I.after hq
    | next => exact False.elim hq
    | brk => exact False.elim hq
    | cont => exact False.elim hq
/-- f(k = v, ..) -/
theorem pe_kw (F : Fnw X.prog X.w X.K X.mg X.base CX k x ps sp) (hr : Room j X.A) (hk : k ≤ j) (hx : ∀ σ, PassesAt CX X σ (E σ)) (hkw : PK X kws tk) (hg : Gl X x := by rfl)
    (hall : (backToKw pos (keywordEach kws X.env)).all (·.1.isSome) = true := by rfl) (hks : (backToKw pos (keywordEach kws X.env)).filterMap (·.1) = ps := by rfl) (hdb : (x == ("__debug__" : Str)) = false := by decide)
    (hpl : ((backTo pos (starEach [] X.env)).any (·.1) || (backToKw pos (keywordEach kws X.env)).any (·.1.isNone)) = false := by rfl) :
    PE X (.Call (.Name x p) [] kws pos) (tCallS sp E tk) := by
  obtain ⟨f, fd, G, m, kp, b⟩ := F.ex
  refine ⟨fun pins s σ H Q I h => ?_⟩
  refine wpAny_Call_Name_kw (ld_glob I hg m ?_ hdb)
  refine PySem.W.callWith_KW0 (h₀ := X.base) I.ok.mod.kin kp hall ?_ hpl
  refine thn (hkw.run pos pins s σ H _ I h) fun ws s2 ⟨zs, H2, I2, rz, q2⟩ => ⟨I2.kIn, ?_⟩
  rw [hks]
  exact run_fw G (hr.mono hk) b (hx σ) I2 rz q2
/-- f(e, ..), an exception of which is the slots' own wish -/
theorem pe_fnS (F : Fnn X.prog X.w X.K X.mg X.base CX k x ps sp) (hr : Room j X.A) (hk : k ≤ j) (hx : ∀ σ, PassesAt CX X σ (E σ)) (ha : PA X (e :: es) t) (hg : Gl X x := by rfl) (hdb : (x == ("__debug__" : Str)) = false := by decide)
    (he : starEach (e :: es) X.env = (false, eval e X.env) :: starEach es X.env := by rfl) (hpl : (backTo pos (starEach es X.env)).any (·.1) = false := by rfl) : PE X (.Call (.Name x p) (e :: es) [] pos) (tCallS sp E t) := by
  obtain ⟨f, fd, G, m, kp, b⟩ := F.ex
  exact pe_callS G (hr.mono hk) hg m kp b hx ha hdb he hpl
theorem pass0S {X : Cx} (σ : L2.St) : PassesAt CX0 X σ E0 := fun pins H s e s' I c => pass0 pins σ H s e s' I c
end
end SL
set_option Elab.async false
set_option linter.all false
set_option maxRecDepth 100000
set_option maxHeartbeats 2000000
/-! own words, 10: not in range(..); range(..) as a value; int(..); all(list); the reading of a list of truths -/
namespace SL
open PySem PySem.Spec PyProof.Rows L2 GxR NdefX GA
section
variable {X : Cx} {a b : Expr} {ta tb : TE} {p pos : Pos}
def rNotRng : R2 := fun x y H Q => ∃ i r lo hi, x = V.int i ∧ y = V.ref r ∧ H r = some (.rng lo hi) ∧ Q (.bl (!decide (lo ≤ i ∧ i < hi))) H
theorem op_outside : OpR X (compareOp .NotIn) rNotRng := by
  intro pins s σ H x y v u Q I rx ry h
  obtain ⟨i, r, lo, hi, rfl, rfl, hr, q⟩ := h
  obtain ⟨k, rfl⟩ := rx
  obtain rfl : u = Value.ref r := ry
  obtain ⟨t1, t2, t3, ho⟩ := I.hok r _ hr
  show wpAny _ _ (do return Value.bool (!(← contains (Value.ref r) (Value.int i k)))) _ _ s
  refine wpAny_bind (wpAny_contains_slot (T := "range") ⟨_, ho, rfl⟩ F.slot_range_contains (call_meets F.slot_range_contains ⟨_, ho, rfl⟩ F.entry_range_contains (F.args_range_contains_2 _ _) (q_contains r lo hi i t1 t2 t3 k) ⟨ho, ?_⟩))
  refine wpAny_truthy_bool (wpAny_pure ⟨.bl _, H, I, rfl, ?_⟩)
  rw [place1]
  exact q
def rRng : List V → Hp → VK → Prop := fun vs H Q => ∃ i j, vs = [V.int i, V.int j] ∧ ∀ p, H p = none → Q (.ref p) (upd H p (.rng i j))
theorem pe_rng (B : Bl X.mg) (ha : PE X a ta) (hb : PE X b tb) (h1 : Gl X "range" := by rfl) (he : starEach (a :: [b]) X.env = (false, eval a X.env) :: starEach [b] X.env := by rfl)
    (he2 : starEach (b :: []) X.env = (false, eval b X.env) :: starEach [] X.env := by rfl) (hpl : (backTo pos (starEach [b] X.env)).any (·.1) = false := by rfl) : PE X (.Call (.Name "range" p) [a, b] [] pos) (tCB rRng (tCons ta (tCons tb tNil))) :=
  pe_callTy cr_range2 h1 B.range (by decide +kernel) (pa_cons ha (pa_cons hb pa_nil he2) he) (by decide) (by decide) he hpl
def rInt : List V → Hp → VK → Prop := fun xs H Q => (∃ i, xs = [.int i] ∧ Q (.int i) H) ∨ ∃ k, xs = [.bl k] ∧ Q (.int (if k then 1 else 0)) H
theorem pe_toInt (B : Bl X.mg) (ha : PE X a ta) (h1 : Gl X "int" := by rfl) (he : starEach (a :: []) X.env = (false, eval a X.env) :: starEach [] X.env := by rfl) : PE X (.Call (.Name "int" p) [a] [] pos) (tCB rInt (tCons ta tNil)) :=
  pe_callTy call_int1 h1 B.int (by decide +kernel) (pa_cons ha pa_nil he) (by decide) (by decide) he
def rLst (K : PySem.W.Frag) : List V → Hp → VK → Prop := fun xs H Q => ∃ p ys, xs = [.ref p] ∧ (SqL K H p ys ∨ SqT K H p ys) ∧ ∀ l, H l = none → Q (.ref l) (upd H l (.lst ys))
theorem pe_toList (B : Bl X.mg) (ha : PE X a ta) (h1 : Gl X "list" := by rfl) (he : starEach (a :: []) X.env = (false, eval a X.env) :: starEach [] X.env := by rfl) : PE X (.Call (.Name "list" p) [a] [] pos) (tCB (rLst X.K) (tCons ta tNil)) :=
  pe_callTy call_list_of h1 B.list (by decide +kernel) (pa_cons ha pa_nil he) (by decide) (by decide) he
theorem pe_allL (hc : X.calm = true) (B : Bl X.mg) (ha : PE X a ta) (h1 : Gl X "all" := by rfl) (he : starEach (a :: []) X.env = (false, eval a X.env) :: starEach [] X.env := by rfl) : PE X (.Call (.Name "all" p) [a] [] pos) (tCB (rAll X.K) (tCons ta tNil)) :=
  pe_callB (cr_all hc) h1 B.all (by decide +kernel) (pa_cons ha pa_nil he) (by decide) (by decide) he
end
section
variable {T : List Addr} {H0 H1 : Hp} {J : It} {n : Nat} {G : Hp → Prop} {Y : Nat → Hp → V → Hp → Prop} {D : Addr} {Qd : Hp → Prop} {σ : L2.St} {g : TG} {te : TE} {vs : List Nat}
/-- [te for g in J]: f i the i-th value; what is made meanwhile stays -/
theorem lc_map (f : Nat → V) (w : Walk J n G Y) (hG : ∀ H', Go T [] H0 H' → G H') (ht : Tabs T H0) (g1 : Go T [] H0 H1) (hD : H1 D = none) (hn : n ≤ sizeLine)
    (hs : ∀ i x H' H'' (R : VK), i < n → Go T [] H0 H' → Tabs T H' → Y i H' x H'' → (∀ H3, Go T [] H' H3 → R (f i) H3) → g x (wipe σ vs) H'' fun σ2 H2 => wipe σ2 vs = wipe σ vs ∧ te σ2 H2 R)
    (hq : ∀ H', Go T [] H0 H' → Tabs T H' → H' D = some (.lst ((List.range n).map f)) → Qd H') :
    ∃ W : Nat → Nat → Hp → Prop, (∃ m, W 0 m (upd H1 D (.lst []))) ∧ ∀ i' m H, W i' m H →
      (J.stop i' H ∧ Qd H) ∨ (J.go i' H ∧ ∃ Nx : Hp → Prop, (∀ H', Nx H' → ∃ m', m' < m ∧ W (i' + 1) m' H') ∧ ∀ x H', J.yld i' H x H' → g x (wipe σ vs) H' fun σ2 H2 => wipe σ2 vs = wipe σ vs ∧ tYes σ2 H2 fun b H3 =>
        if b = true then te σ2 H3 fun y H4 => ∃ acc, H4 D = some (.lst acc) ∧ acc.length < sizeLine ∧ Nx (upd H4 D (.lst (acc ++ [y]))) else Nx H3) := by
  have hD0 : H0 D = none := g1.al D hD
  refine lc_it w (fun i H' => Go T [] H0 H' ∧ H' D = some (.lst ((List.range i).map f))) ⟨g1.trans (Go.new hD), upd_same⟩ (fun i H' _ h => hG H' h.1) (fun i x H' H'' hlt h y => ?_) (fun H' h => hq H' h.1 (h.1.tb ht) h.2)
  obtain ⟨gg, e⟩ := h
  refine hs i x H' H'' _ hlt gg (gg.tb ht) y fun H3 g3 => ?_
  have e3 := g3.lst e List.not_mem_nil
  refine ⟨_, e3, by rw [List.length_map, List.length_range]; omega, (gg.trans g3).over hD0 e3 (fun _ z => by cases z), ?_⟩
  rw [upd_same, List.range_succ, List.map_append] <;> rfl
end
theorem map_range_get {α β : Type} {xs : List α} {f : Nat → β} {g : α → β} (h : ∀ i x, xs[i]? = some x → f i = g x) : (List.range xs.length).map f = xs.map g := by
  apply List.ext_getElem?
  intro i
  rw [List.getElem?_map, List.getElem?_map]
  by_cases hi : i < xs.length
  · rw [List.getElem?_range hi, List.getElem?_eq_getElem hi]
    exact congrArg some (h i _ (List.getElem?_eq_getElem hi))
  · rw [List.getElem?_eq_none (by simpa using hi), List.getElem?_eq_none (by simpa using hi)] <;> rfl
end SL
set_option Elab.async false
set_option linter.all false
set_option maxRecDepth 100000
set_option maxHeartbeats 4000000
/-! own words, 30: {e for x in xs}, e an int or a text; len of such a set -/
namespace SL
open PySem PySem.Spec PyProof.Rows L2 GxR NdefX GA PpSet
section
variable {X : Cx}
/-- the reading: D the new set -/
def tScK (P : Program) (w : World) (wi : TI) (g : TG) (tt : TT) (te : TE) (vs : List Nat) : TE := fun σ H Q => wi σ H fun J H1 => ∀ D, H1 D = none → ∃ W : Nat → Nat → Hp → Prop, (∃ m, W 0 m (upd H1 D (SetK P w D (fun _ => false) 0))) ∧ ∀ i m H, W i m H →
  (J.stop i H ∧ Q (.ref D) H) ∨ (J.go i H ∧ ∃ Nx : Hp → Prop, (∀ H', Nx H' → ∃ m', m' < m ∧ W (i + 1) m' H') ∧ ∀ x H', J.yld i H x H' → g x (wipe σ vs) H' fun σ2 H2 => wipe σ2 vs = wipe σ vs ∧ tt σ2 H2 fun b H3 =>
    if b = true then te σ2 H3 fun y H4 => rSAddK P w (.ref D) [y] H4 fun _ H5 => Nx H5 else Nx H3)
theorem setK_fresh {H : Hp} {s : Shared} : ObjOk X.prog X.w H (s.heap.push { cls := .type "set", dict := none, data := .set #[] 0 (.fresh 0 0 (!X.w.params.followText "set-order")) }) s.heap.objs.size (SetK X.prog X.w s.heap.objs.size (fun _ => false) 0) :=
  setK_new ⟨_, #[], 0, _, Heap.get?_push_size _ rfl, ⟨rfl, rfl, rfl⟩, rfl, (fun e he => by simp at he), (fun k => by simp), (by decide), (by rfl), rfl⟩
theorem pe_scK {elt tg iter : Expr} {ifs : List Expr} {scope : Scope} {own : List (Str × Nat)} {pos : Pos} {wi : TI} {g : TG} {tt : TT} {te : TE} (hc : X.calm = true) (hN : X.N.Nodup) (hi : PI X tg iter wi) (ok : BlkOk X.N X.env.scope scope own)
    (hg : ∀ (s : Shared) (H : Hp) (C : Addr) (cl : List (Str × Addr)) (fp : List Addr), PG (X.blk s H scope (compEnvC scope cl C X.env) fp) tg g) (ht : ∀ (s : Shared) (H : Hp) (C : Addr) (cl : List (Str × Addr)) (fp : List Addr), PTs (X.blk s H scope (compEnvC scope cl C X.env) fp) ifs tt)
    (he : ∀ (s : Shared) (H : Hp) (C : Addr) (cl : List (Str × Addr)) (fp : List Addr), PE (X.blk s H scope (compEnvC scope cl C X.env) fp) elt te) (hs : ∀ x, foldedSetIterable iter X.env x = pure x := by intro _; rfl) :
    PE X (.SetComp elt [⟨tg, iter, ifs, 0⟩] scope pos) (tScK X.prog X.w wi g tt te (own.map (·.2))) := by
  refine ⟨fun pins s σ H Q I h => ?_⟩
  rw [eval_SetComp]
  refine wpAny_comprehension_free (use := none) rfl hs (closure_ok fun y hy e => (ok.free y hy e).elim (fun k => I.ok.has _ (.inl k)) fun k => I.ok.has _ (.inr k)) ok.kind (fun y hy e => by rw [ok.uniq y hy, e])
    (thn (hi.run pins s σ H _ I h) fun xv s1 hx => thn hx fun itv s2 h2 => ?_)
  obtain ⟨it, fp, tn, J, H2, rfl, I2, T, st2, f2, q⟩ := h2
  refine newSet_ok (newEnv_comp ?_)
  obtain ⟨W, ⟨m0, w0⟩, turn⟩ := q s2.heap.objs.size (I2.hok.fresh (Nat.le_refl _))
  have mk : ∀ S : Shared, S = { s2 with heap := s2.heap.push { cls := .type "set", dict := none, data := .set #[] 0 (.fresh 0 0 (!X.w.params.followText "set-order")) } } → Inv X pins σ (upd H2 s2.heap.objs.size (SetK X.prog X.w s2.heap.objs.size (fun _ => false) 0)) S := fun S e => by
    rw [e]
    exact I2.laid (t' := s2.toks) (fun b o z => Heap.get?_push_of_some _ z) (Nat.le_refl _) setK_fresh
  generalize hs3 : ({ s2 with heap := s2.heap.push { cls := .type "set", dict := none, data := .set #[] 0 (.fresh 0 0 (!X.w.params.followText "set-order")) } } : Shared) = s3 at mk
  have I3 := mk s3 rfl
  have h3 : s3.heap = s2.heap.push { cls := .type "set", dict := none, data := .set #[] 0 (.fresh 0 0 (!X.w.params.followText "set-order")) } := by rw [← hs3]
  have low : ∀ b ∈ fp, b < s2.heap.objs.size := fun b hb => let ⟨o, e, _⟩ := T.obj _ _ st2 b hb; Heap.lt_size e
  have f3 : ∀ b ∈ fp, FpOk X pins (upd H2 s2.heap.objs.size (SetK X.prog X.w s2.heap.objs.size (fun _ => false) 0)) b ∧ b < s3.heap.objs.size := fun b hb =>
    ⟨⟨by rw [upd_ne (Nat.ne_of_lt (low b hb))]; exact (f2 b hb).1, (f2 b hb).2⟩, by rw [h3, Heap.size_push]; exact Nat.lt_succ_of_lt (low b hb)⟩
  have st3 : tn 0 s3.heap := T.keep _ _ _ st2 fun b _ o e => by rw [h3]; exact Heap.get?_push_of_some _ e
  generalize upd H2 s2.heap.objs.size (SetK X.prog X.w s2.heap.objs.size (fun _ => false) 0) = H3 at I3 f3 w0
  generalize s2.heap.objs.size = D at *
  have I4 := block_start I3 ok hN f3
  have pg := hg s3 H3 s3.heap.objs.size (cellsFrom (s3.heap.objs.size + 1) scope.names (cloFrom X.env.cells scope.names [])) fp
  have pt := ht s3 H3 s3.heap.objs.size (cellsFrom (s3.heap.objs.size + 1) scope.names (cloFrom X.env.cells scope.names [])) fp
  have pe := he s3 H3 s3.heap.objs.size (cellsFrom (s3.heap.objs.size + 1) scope.names (cloFrom X.env.cells scope.names [])) fp
  show codeAny _ _ (.compStart (.SetComp elt [⟨tg, iter, ifs, 0⟩] scope pos) 0 (.ref it) (.ref D) (compEnvC scope (cellsFrom (s3.heap.objs.size + 1) scope.names (cloFrom X.env.cells scope.names [])) s3.heap.objs.size X.env)) (compPost (model X.prog X.w) X.A X.xe none (EP X pins σ Q) (.ref D) s3.heap.objs.size) { s3 with heap := pushCells (s3.heap.push { cls := .type "dict", data := .dict #[] }) scope.names }
  generalize hce : compEnvC scope (cellsFrom (s3.heap.objs.size + 1) scope.names (cloFrom X.env.cells scope.names [])) s3.heap.objs.size X.env = ce at I4 pg pt pe ⊢
  have cL : ce.locals = s3.heap.objs.size := by rw [← hce]; rfl
  generalize hs4 : ({ s3 with heap := pushCells (s3.heap.push { cls := .type "dict", data := .dict #[] }) scope.names } : Shared) = s4 at I4 ⊢
  have st4 : tn 0 s4.heap := T.keep _ _ _ st3 fun b _ o e => by rw [← hs4]; exact pushCells_keeps _ _ _ _ (Heap.get?_push_of_some _ e)
  have stat : ∀ {σ' : L2.St} {H' : Hp} {s' : Shared}, Inv (X.blk s3 H3 scope ce fp) [] σ' H' s' → (∀ b ∈ fp, H' b = none) → ∀ b ∈ fp, FpOk (X.blk s3 H3 scope ce fp) [] H' b := fun {σ' H' s'} I' hn b hb =>
    ⟨hn b hb, (I'.ok.exf b hb).1, I'.ok.exfs b hb, .inl hb, (I'.ok.exf b hb).2, fun p hp => absurd (show p ∈ ([] : List (Addr × Obj)) ++ [] from hp) (by simp)⟩
  have loop : codeAny (model X.prog X.w) X.A (.compLoop (.SetComp elt [⟨tg, iter, ifs, 0⟩] scope pos) 0 (.ref it) (.ref D) ce) (compPost (model X.prog X.w) X.A X.xe none (EP X pins σ Q) (.ref D) s3.heap.objs.size) s4 := by
    refine compLoopS_any (fun n s' => ∃ i H', Inv (X.blk s3 H3 scope ce fp) [] (wipe σ (own.map (·.2))) H' s' ∧ tn i s'.heap ∧ (∀ b ∈ fp, H' b = none) ∧ W i n H') ?_ m0 ⟨0, H3, I4, st4, fun b hb => (f3 b hb).1.1, w0⟩
    rintro n s5 ⟨i, H5, I5, st5, n5, w5⟩
    rcases turn i n H5 w5 with ⟨stop, qq⟩ | ⟨go, Nx, hNx, step⟩
    · refine thnF (T.done (X.blk s3 H3 scope ce fp) rfl rfl rfl hc i [] s5 _ H5 (fun _ _ => False) I5 (stat I5 n5) st5 stop) fun r s6 ⟨hr, I6⟩ => ?_
      subst hr
      have I7 : Inv X pins σ H5 s6 := I3.call' (ch := fp) I6.os I6.base I6.hok I6.bare fun b hb => ⟨(f3 b hb).1.2.2.2.1, (f3 b hb).1.2.1, (f3 b hb).1.2.2.2.2.1, (f3 b hb).1.2.2.2.2.2⟩
      have nC : H5 s3.heap.objs.size = none := by
        have z : H5 ce.locals = none := I6.free
        rw [cL] at z
        exact z
      obtain ⟨m, hn, _⟩ := I6.loc
      have hn : s6.heap.Ns ce.locals m := hn
      rw [cL] at hn
      obtain ⟨f0, f1, f4, f5, f6, f7⟩ := I3.fpOk (b := s3.heap.objs.size) (Nat.le_refl _) nC
      exact ⟨m, hn, fun h'' sb => ⟨.ref D, H5, I7.turned (t' := s6.toks) (fun b o hb e => (sb.2 b hb).trans e) f0 f1 f5 f6 f7, rfl, qq⟩⟩
    · refine thnF (T.item (X.blk s3 H3 scope ce fp) rfl rfl rfl hc i [] s5 _ H5 (fun _ _ => False) I5 (stat I5 n5) st5 go) fun r s6 ⟨u, hr, h6⟩ => ?_
      subst hr
      refine thnF h6 fun _ s7 ⟨x, H7, I7, r7, y7, st7, n7⟩ => ?_
      refine thnF (pg.run _ s7 _ H7 x u _ (I7.pinned (stat I7 n7) (T.obj _ _ st7)) r7 (step x H7 y7)) fun _ s8 ⟨σ8, H8, I8, hw8, q8⟩ => ?_
      refine thnF (pt.run _ s8 σ8 H8 _ I8 q8) fun b s9 ⟨H9, I9, q9⟩ => ?_
      have fin : ∀ {s' : Shared} {H' : Hp}, Inv (X.blk s3 H3 scope ce fp) ([] ++ pinsAt fp s7.heap) σ8 H' s' → Nx H' → ∃ m, m < n ∧ ∃ i H', Inv (X.blk s3 H3 scope ce fp) [] (wipe σ (own.map (·.2))) H' s' ∧ tn i s'.heap ∧ (∀ b ∈ fp, H' b = none) ∧ W i m H' := fun {s' H'} I' nx => by
        obtain ⟨m', hm, w'⟩ := hNx H' nx
        have pin' : ∀ b ∈ fp, ∀ o, s7.heap.get? b = some o → s'.heap.get? b = some o ∧ H' b = none := fun b hb o e =>
          let z := I'.pin (b, o) (List.mem_append_right _ (List.mem_append_right _ (mem_pinsAt hb e)))
          ⟨z.1, z.2.1⟩
        refine ⟨m', hm, i + 1, H', (I'.unpinned (pins := [])).weak (by rw [← hw8, wipe_length]) (fun j v e => ?_), T.keep _ _ _ st7 fun b hb o e => (pin' b hb o e).1, fun b hb => ?_, w'⟩
        · rw [← hw8] at e
          exact (wipe_some e).1
        · obtain ⟨o, e, _⟩ := T.obj _ _ st7 b hb
          exact (pin' b hb o e).2
      cases b with
      | false => exact fin I9 q9
      | true =>
        refine thnF (pe.run _ s9 σ8 H9 _ I9 q9) fun z s10 ⟨yv, H10, I10, r10, q10⟩ => ?_
        exact thnF (mt_saddK (X := X.blk s3 H3 scope ce fp) _ s10 σ8 H10 (.ref D) [yv] (.ref D) [z] _ I10 rfl (.cons r10 .nil) q10) fun _ s11 ⟨_, H11, I11, _, q11⟩ => fin I11 q11
  exact codeAny_compStart_set loop (T.self X.A 0 _ _ _ st4 loop)
/-- len of a set of keys -/
def rLenK (P : Program) (w : World) : List V → Hp → VK → Prop := fun vs H Q => ∃ (a : Addr) (S : Key → Bool) (n : Nat), vs = [V.ref a] ∧ H a = some (SetK P w a S n) ∧ Q (.int (n : Int)) H
theorem cr_lenK : CallR X (.builtin "len") (rLenK X.prog X.w) := by
  intro pins s σ H vs us Q I r h
  obtain ⟨a, S, n, rfl, ha, q⟩ := h
  obtain ⟨u, rfl, ru⟩ := r.one
  cases ru
  obtain ⟨o, es, ep, t, ho, hex, hd, _, _, hsz, hf, hn⟩ := setK_get I ha
  subst hn
  have hb : scanBound ≤ 2 ^ 62 := by decide
  refine call_len_set ho hex hd hf (by omega) ⟨.int (es.size : Int), H, I.tok _, ⟨_, rfl⟩, q⟩
theorem pe_lenK {a : Expr} {ta : TE} {p pos : Pos} (B : Bl X.mg) (ha : PE X a ta) (h1 : Gl X "len" := by rfl) (he : starEach (a :: []) X.env = (false, eval a X.env) :: starEach [] X.env := by rfl) : PE X (.Call (.Name "len" p) [a] [] pos) (tCB (rLenK X.prog X.w) (tCons ta tNil)) :=
  pe_callB cr_lenK h1 B.len PySem.boot_len (pa_cons ha pa_nil he) (by decide) (by decide) he
end
instance keyMem (k : L2.Key) (l : List L2.Key) : Decidable (k ∈ l) := @List.instDecidableMemOfLawfulBEq L2.Key instBEqOfDecidableEq inferInstance k l
/-- how many keys of a list are unlike -/
def distR : List Key → Nat
  | [] => 0
  | k :: r => if k ∈ r then distR r else distR r + 1
def distK (l : List Key) : Nat := distR l.reverse
theorem distK_snoc (l : List Key) (k : Key) : distK (l ++ [k]) = if k ∈ l then distK l else distK l + 1 := by
  unfold distK
  rw [List.reverse_append]
  show (if k ∈ l.reverse then distR l.reverse else distR l.reverse + 1) = _
  simp only [List.mem_reverse]
theorem distR_le : ∀ l : List Key, distR l ≤ l.length
  | [] => Nat.le_refl _
  | k :: r => by
    have := distR_le r
    show (if k ∈ r then distR r else distR r + 1) ≤ r.length + 1
    split <;> omega
theorem distR_nodup : ∀ l : List Key, distR l = l.length ↔ l.Nodup
  | [] => by simp [distR]
  | k :: r => by
    have h1 := distR_le r
    have h2 := distR_nodup r
    show (if k ∈ r then distR r else distR r + 1) = r.length + 1 ↔ _
    rw [List.nodup_cons]
    by_cases c : k ∈ r
    · rw [if_pos c]
      exact ⟨fun e => by omega, fun e => absurd c e.1⟩
    · rw [if_neg c, ← h2]
      exact ⟨fun e => ⟨c, by omega⟩, fun e => by omega⟩
theorem distK_le (l : List Key) : distK l ≤ l.length := by
  have := distR_le l.reverse
  rw [List.length_reverse] at this
  exact this
theorem distK_nodup (l : List Key) : distK l = l.length ↔ l.Nodup := by
  unfold distK
  rw [← List.length_reverse (as := l), distR_nodup]
  exact (List.Perm.nodup_iff (List.reverse_perm l))
/-- at most one key -/
theorem distR_one : ∀ l : List Key, distR l ≤ 1 ↔ ∀ a ∈ l, ∀ b ∈ l, a = b
  | [] => by simp [distR]
  | k :: r => by
    have ih := distR_one r
    have e : distR (k :: r) = if k ∈ r then distR r else distR r + 1 := rfl
    rw [e]
    by_cases c : k ∈ r
    · rw [if_pos c, ih]
      refine ⟨fun h a ha b hb => ?_, fun h a ha b hb => h a (List.mem_cons_of_mem _ ha) b (List.mem_cons_of_mem _ hb)⟩
      have key : ∀ x, x ∈ k :: r → x ∈ r := fun x hx => (List.mem_cons.mp hx).elim (fun z => by rw [z]; exact c) id
      exact h a (key a ha) b (key b hb)
    · rw [if_neg c]
      refine ⟨fun h => ?_, fun h => ?_⟩
      · have hz : r = [] := by
          cases r with
          | nil => rfl
          | cons x r =>
            have : 1 ≤ distR (x :: r) := by
              clear ih h e c
              induction r generalizing x with
              | nil => show (if x ∈ [] then _ else _) ≥ 1; rw [if_neg (by simp)]; exact Nat.succ_le_succ (Nat.zero_le _)
              | cons y r ih =>
                have := ih y
                show 1 ≤ if x ∈ y :: r then distR (y :: r) else distR (y :: r) + 1
                split <;> omega
            omega
        subst hz
        intro a ha b hb
        rw [List.mem_singleton.mp ha, List.mem_singleton.mp hb]
      · cases r with
        | nil => exact Nat.le_refl _
        | cons x r => exact absurd (by rw [h k List.mem_cons_self x (List.mem_cons_of_mem _ List.mem_cons_self)]; exact List.mem_cons_self) c
theorem distK_one (l : List Key) : distK l ≤ 1 ↔ ∀ a ∈ l, ∀ b ∈ l, a = b := by
  unfold distK
  rw [distR_one]
  simp only [List.mem_reverse]
/-- the set of the keys of a list -/
def SetL (P : Program) (w : World) (D : Addr) (l : List Key) : HO := SetK P w D (fun k => decide (k ∈ l)) (distK l)
section
variable {P : Program} {pw : World} {T : List Addr} {H0 H1 : Hp} {J : It} {n : Nat} {G : Hp → Prop} {Y : Nat → Hp → V → Hp → Prop} {D : Addr} {Qd : Hp → Prop} {σ : L2.St} {g : TG} {te : TE} {vs : List Nat}
theorem SetL_nil : SetK P pw D (fun _ => false) 0 = SetL P pw D [] := by
  unfold SetL
  congr 1
theorem SetL_snoc (l : List Key) (k : Key) : SetK P pw D (fun j => decide (j ∈ l) || decide (j = k)) (if decide (k ∈ l) = true then distK l else distK l + 1) = SetL P pw D (l ++ [k]) := by
  unfold SetL
  rw [distK_snoc]
  congr 1
  · funext j
    rw [← Bool.decide_or]
    exact decide_eq_decide.mpr (by simp)
  · simp only [decide_eq_true_eq]
/-- {te for g in J}: f i the i-th key; what is made meanwhile stays -/
theorem sc_map (f : Nat → Key) (w : Walk J n G Y) (hG : ∀ H', Go T [] H0 H' → G H') (ht : Tabs T H0) (g1 : Go T [] H0 H1) (hD : H1 D = none) (hn : n + 1 < scanBound)
    (hs : ∀ i x H' H'' (R : VK), i < n → Go T [] H0 H' → Tabs T H' → Y i H' x H'' → (∀ H3, Go T [] H' H3 → R (kV (f i)) H3) → g x (wipe σ vs) H'' fun σ2 H2 => wipe σ2 vs = wipe σ vs ∧ te σ2 H2 R)
    (hq : ∀ H', Go T [] H0 H' → Tabs T H' → H' D = some (SetL P pw D ((List.range n).map f)) → Qd H') :
    ∃ W : Nat → Nat → Hp → Prop, (∃ m, W 0 m (upd H1 D (SetK P pw D (fun _ => false) 0))) ∧ ∀ i' m H, W i' m H →
      (J.stop i' H ∧ Qd H) ∨ (J.go i' H ∧ ∃ Nx : Hp → Prop, (∀ H', Nx H' → ∃ m', m' < m ∧ W (i' + 1) m' H') ∧ ∀ x H', J.yld i' H x H' → g x (wipe σ vs) H' fun σ2 H2 => wipe σ2 vs = wipe σ vs ∧ tYes σ2 H2 fun b H3 =>
        if b = true then te σ2 H3 fun y H4 => rSAddK P pw (.ref D) [y] H4 fun _ H5 => Nx H5 else Nx H3) := by
  have hD0 : H0 D = none := g1.al D hD
  refine ⟨fun i m H' => m = n - i ∧ i ≤ n ∧ Go T [] H0 H' ∧ H' D = some (SetL P pw D ((List.range i).map f)), ⟨n, rfl, Nat.zero_le _, g1.trans (Go.new hD), by rw [upd_same, SetL_nil] <;> rfl⟩, ?_⟩
  rintro i m H' ⟨rfl, hi, gg, e⟩
  have q := hG H' gg
  by_cases hlt : i < n
  · refine .inr ⟨w.goes i H' hlt q, fun H2 => Go T [] H0 H2 ∧ H2 D = some (SetL P pw D ((List.range (i + 1)).map f)), fun H2 h => ⟨n - (i + 1), by omega, rfl, hlt, h.1, h.2⟩, fun x H2 y => ?_⟩
    refine hs i x H' H2 _ hlt gg (gg.tb ht) (w.yields i H' x H2 hlt q y) fun H3 g3 => ?_
    have e3 : H3 D = some (SetL P pw D ((List.range i).map f)) := g3.gr D _ e List.not_mem_nil (fun ps z => by unfold SetL SetK at z; cases z)
    have hle := distK_le ((List.range i).map f)
    rw [List.length_map, List.length_range] at hle
    refine ⟨D, f i, _, _, rfl, rfl, e3, by omega, (gg.trans g3).over hD0 e3 (fun ps z => by unfold SetL SetK at z; cases z), ?_⟩
    rw [upd_same, SetL_snoc, List.range_succ, List.map_append]
    rfl
  · have ei : i = n := by omega
    subst ei
    exact .inl ⟨w.stops H' q, hq H' gg (gg.tb ht) e⟩
end
end SL
set_option Elab.async false
set_option linter.all false
set_option maxRecDepth 100000
set_option maxHeartbeats 4000000
/-! own words, 30: zip of any number of tuples, a name as target -/
namespace ZN
open PySem RZ
open PySem.Sem (wp)
abbrev IsZ (h : Heap) (z TI TO : Addr) (f0 : Value) (f1 : Bool) : Prop :=
  h.get? z = some { cls := .type "zip", dict := none, data := .fields #[f0, .bool f1, .bool false, .ref TI, .ref TO], slots := #[] }
abbrev IsTp (h : Heap) (T : Addr) (vs : List Value) : Prop := h.get? T = some { cls := .type "tuple", data := .seq vs.toArray }
/-- an iterator, its tuple, the tuple's items -/
abbrev Cell := Addr × Addr × Array Value
def refs (cs : List Cell) : List Value := cs.map fun c => .ref c.1
def at_ (k : Nat) (cs : List Cell) : List Value := cs.map fun c => c.2.2.getD k .none
structure Apart (z TI TO : Addr) (cs : List Cell) : Prop where
  TIz : TI ≠ z
  TOz : TO ≠ z
  TITO : TI ≠ TO
  nz : z ∉ cs.map (·.1)
  nI : TI ∉ cs.map (·.1)
  nO : TO ∉ cs.map (·.1)
  nd : (cs.map (·.1)).Nodup
  tz : ∀ c ∈ cs, c.2.1 ≠ z
  tO : ∀ c ∈ cs, c.2.1 ≠ TO
  ti : ∀ c ∈ cs, c.2.1 ∉ cs.map (·.1)
/-- what stays but z, TO and the iterators -/
def Keeps (z TO : Addr) (cs : List Cell) (h h' : Heap) : Prop := ∀ c o, c ≠ z → c ≠ TO → c ∉ cs.map (·.1) → h.get? c = some o → h'.get? c = some o
section
variable {prog : Program} {w : World} {A : Around} {E : Value → Shared → Prop} {s : Shared}
theorem alive {a : Addr} {Q : Option Obj → Shared → Prop} (h : Q (s.heap.get? a) s) : wpAny (model prog w) A (loadIfAlive a) Q E s := fun _ _ _ => h

theorem free_or {z TI TO : Addr} {f0 : Value} {f1 : Bool} {Q : Bool → Shared → Prop} (hz : IsZ s.heap z TI TO f0 f1) (h0 : f0 = .none ∨ ∃ a : Nat, f0 = rawInt a)
    (ht : Q true s) (hf : ∀ h', IsZ h' z TI TO f0 true → Heap.SameBut z s.heap h' → Q false { s with heap := h' }) :
    wpAny (model prog w) A (Builtin.SmallTypes.ownedTupleIsFree (.ref z)) Q E s := by
  unfold Builtin.SmallTypes.ownedTupleIsFree
  rcases h0 with rfl | ⟨a, rfl⟩
  · exact wpAny_bind (wpAny_field hz rfl (x := .none) rfl (wpAny_pure ht))
  · refine wpAny_bind (wpAny_field hz rfl (x := rawInt a) rfl ?_)
    show wpAny _ _ (loadIfAlive ((a : Int).toNat) >>= _) _ _ _
    rw [Int.toNat_natCast]
    refine wpAny_bind (alive ?_)
    cases s.heap.get? a with
    | none => exact wpAny_pure ht
    | some o =>
      simp only [Option.isNone_some, Bool.false_eq_true, if_false]
      refine wpAny_bind (wpAny_field hz rfl (x := .bool f1) rfl ?_)
      cases f1 with
      | true =>
        rw [if_neg (show ¬ ((Value.bool true != Value.bool true) = true) from Bool.false_ne_true)]
        exact wpAny_pure (hf s.heap hz (Heap.SameBut.refl _ _))
      | false =>
        rw [if_pos (show (Value.bool false != Value.bool true) = true from rfl)]
        exact wpAny_bind (wpAny_setField_rec hz (by simp) fun h₁ hz₁ hs₁ => wpAny_pure (hf h₁ hz₁ hs₁))

/-- how far the draws have come: pre drawn, rest still to be drawn -/
structure Far (s : Heap) (z TO : Addr) (cs pre rest : List Cell) (k : Nat) (h : Heap) : Prop where
  cut : cs = pre ++ rest
  size : h.objs.size = s.objs.size
  keep : Keeps z TO cs s h
  done : ∀ c ∈ pre, h.IsTupleIter c.1 c.2.1 (k + 1)
  todo : ∀ c ∈ rest, h.IsTupleIter c.1 c.2.1 k
theorem Far.turn {s0 h h' : Heap} {z TI TO : Addr} {cs pre rest : List Cell} {c : Cell} {k : Nat} (D : Apart z TI TO cs) (F : Far s0 z TO cs pre (c :: rest) k h) (hs : Heap.SameBut c.1 h h') (hi : h'.IsTupleIter c.1 c.2.1 (k + 1)) :
    Far s0 z TO cs (pre ++ [c]) rest k h' := by
  have nd := D.nd
  rw [F.cut, List.map_append, List.map_cons] at nd
  have hc : c ∈ cs := by rw [F.cut]; simp
  refine ⟨by rw [F.cut]; simp, hs.1.trans F.size, fun d o d1 d2 d3 e => hs.extBut _ _ (fun x => d3 (by rw [x]; exact List.mem_map_of_mem hc)) (F.keep d o d1 d2 d3 e), fun d hd => ?_, fun d hd => ?_⟩
  · rcases List.mem_append.mp hd with q | q
    · refine (F.done d q).extBut hs.extBut fun x => ?_
      exact (List.nodup_append.mp nd).2.2 _ (List.mem_map_of_mem q) _ (List.mem_cons_self ..) x
    · rw [List.mem_singleton.mp q]; exact hi
  · refine (F.todo d (List.mem_cons_of_mem _ hd)).extBut hs.extBut fun x => ?_
    have nd2 := (List.nodup_append.mp nd).2.1
    exact (List.nodup_cons.mp nd2).1 (x ▸ List.mem_map_of_mem hd)
theorem Far.write {s0 h h' : Heap} {z TI TO : Addr} {cs pre rest : List Cell} {k : Nat} {a : Addr} (D : Apart z TI TO cs) (F : Far s0 z TO cs pre rest k h) (ha : a = z ∨ a = TO) (hs : Heap.SameBut a h h') :
    Far s0 z TO cs pre rest k h' := by
  have na : a ∉ cs.map (·.1) := by rcases ha with x | x <;> rw [x]; exact D.nz; exact D.nO
  refine ⟨F.cut, hs.1.trans F.size, fun d o d1 d2 d3 e => hs.extBut _ _ (fun x => by rcases ha with y | y; exact d1 (x.trans y); exact d2 (x.trans y)) (F.keep d o d1 d2 d3 e), fun d hd => ?_, fun d hd => ?_⟩
  · exact (F.done d hd).extBut hs.extBut fun x => na (x ▸ List.mem_map_of_mem (by rw [F.cut]; simp [hd]))
  · exact (F.todo d hd).extBut hs.extBut fun x => na (x ▸ List.mem_map_of_mem (by rw [F.cut]; simp [hd]))

theorem updateSeq_tp {T : Addr} {vs : List Value} {x : Value} {k : Nat} {Q : Unit → Shared → Prop} (hT : IsTp s.heap T vs) (hsz : vs.length ≤ sizeLine)
    (h : ∀ h', IsTp h' T (vs.set k x) → Heap.SameBut T s.heap h' → Q () { s with heap := h' }) : wpAny (model prog w) A (updateSeq T (·.setIfInBounds k x)) Q E s := by
  refine wpAny_updateSeq hT rfl (h _ ?_ (Heap.SameBut.update ..)) (by simpa using hsz) (by simpa using Nat.le_succ_of_le hsz)
  show Heap.get? _ T = _
  rw [Heap.get?_update_self _ hT rfl]
  simp [Obj.mapSeq]
theorem at_len (k : Nat) (cs : List Cell) : (at_ k cs).length = cs.length := List.length_map ..
theorem at_snoc (k : Nat) (pre : List Cell) (c : Cell) : at_ k (pre ++ [c]) = at_ k pre ++ [c.2.2.getD k .none] := by simp [at_]
theorem set_next (k : Nat) (pre : List Cell) (c : Cell) (vs : List Value) (h : pre.length < vs.length) :
    (at_ k pre ++ vs.drop pre.length).set pre.length (c.2.2.getD k .none) = at_ k (pre ++ [c]) ++ vs.drop (pre ++ [c]).length := by
  rw [at_snoc, List.drop_eq_getElem_cons h, List.set_append_right _ _ (by rw [at_len] <;> exact Nat.le_refl _), at_len, Nat.sub_self, List.set_cons_zero, List.append_assoc]
  simp
theorem Far.tuple {s0 h : Heap} {z TI TO : Addr} {cs pre rest : List Cell} {k : Nat} (D : Apart z TI TO cs) (F : Far s0 z TO cs pre rest k h) {c : Cell} (hc : c ∈ cs) (hl : s0.IsTuple c.2.1 c.2.2) : h.IsTuple c.2.1 c.2.2 :=
  hl.at fun o e => F.keep _ o (D.tz c hc) (D.tO c hc) (D.ti c hc) e

/-- the next tuple of zip, no end in sight -/
theorem next_item {z TI TO : Addr} {cs : List Cell} {k : Nat} {f0 : Value} {f1 : Bool} {vs : List Value} {Q : Value → Shared → Prop} (D : Apart z TI TO cs) (hne : cs ≠ []) (hlen : cs.length ≤ sizeLine)
    (hz : IsZ s.heap z TI TO f0 f1) (h0 : f0 = .none ∨ ∃ a : Nat, f0 = rawInt a) (hTI : IsTp s.heap TI (refs cs)) (hTO : IsTp s.heap TO vs) (hvs : vs.length = cs.length)
    (hi : ∀ c ∈ cs, s.heap.IsTupleIter c.1 c.2.1 k) (hl : ∀ c ∈ cs, s.heap.IsTuple c.2.1 c.2.2) (hk : ∀ c ∈ cs, k < c.2.2.size)
    (hQ : ∀ h' f0' f1' vs', IsZ h' z TI TO f0' f1' → (f0' = .none ∨ ∃ a : Nat, f0' = rawInt a) → IsTp h' TO vs' → vs'.length = cs.length → (∀ c ∈ cs, h'.IsTupleIter c.1 c.2.1 (k + 1)) →
      IsTp h' s.heap.objs.size (at_ k cs) → h'.objs.size = s.heap.objs.size + 1 → Keeps z TO cs s.heap h' → Q (.ref s.heap.objs.size) { s with heap := h' }) :
    wpAny (model prog w) A (Builtin.«zip.__next__» ⟨[.ref z], []⟩) (fun fin s' => ∃ v, fin = .done (.ret v) ∧ Q v s') E s := by
  show wpAny _ _ (field (.ref z) 2 >>= _) _ _ _
  refine wpAny_bind (wpAny_field hz rfl (x := .bool false) rfl ?_)
  show wpAny _ _ (field (.ref z) 3 >>= _) _ _ _
  refine wpAny_bind (wpAny_field hz rfl (x := .ref TI) rfl ?_)
  refine wpAny_bind (wpAny_seqItems hTI rfl ?_)
  have he : (refs cs).toArray.isEmpty = false := by
    cases cs with
    | nil => exact absurd rfl hne
    | cons c cs => rfl
  simp only [he, Bool.false_eq_true, if_false]
  show wpAny _ _ (Builtin.SmallTypes.ownedTupleIsFree (.ref z) >>= _) _ _ _
  refine wpAny_bind (free_or hz h0 ?_ fun h₁ hz₁ hs₁ => ?_)
  · simp only [if_true]
    refine wpAny_bind (wpAny_rule ?_)
    refine wpAny_bind (wpAny_field hz rfl (x := .ref TO) rfl ?_)
    refine wpAny_bind (wpAny_setField_rec hz (by simp) fun h₁ hz₁ hs₁ => ?_)
    replace hz₁ : IsZ h₁ z TI TO .ellipsis f1 := hz₁
    refine wpAny_bind ?_
    refine wpAny_forIn_list _ (fun l b s' => ∃ pre rest h', Far s.heap z TO cs pre rest k h' ∧ l = (refs rest).zipIdx pre.length ∧ b.1 = none ∧ s' = { s with heap := h' } ∧ IsZ h' z TI TO .ellipsis f1 ∧ IsTp h' TO (at_ k pre ++ vs.drop pre.length)) _ ?_ ?_ _ _
      ⟨[], cs, h₁, ⟨rfl, hs₁.1, fun c o c1 _ _ e => hs₁.extBut _ _ c1 e, fun c hc => (List.not_mem_nil hc).elim, fun c hc => (hi c hc).extBut hs₁.extBut fun x => D.nz (x ▸ List.mem_map_of_mem hc)⟩, rfl, rfl, rfl, hz₁, hs₁.extBut _ _ D.TOz hTO⟩
    · rintro x l b s' ⟨pre, rest, h', F, el, eb, rfl, hz', hTO'⟩
      cases rest with
      | nil => cases el
      | cons c rest =>
        have hc : c ∈ cs := by rw [F.cut]; simp
        have hcs : c.1 ∈ cs.map (·.1) := List.mem_map_of_mem hc
        have ek : (refs (c :: rest)).zipIdx pre.length = (.ref c.1, pre.length) :: (refs rest).zipIdx (pre ++ [c]).length := by
          rw [List.length_append]; rfl
        rw [ek] at el
        injection el with e1 e2
        subst e1 e2
        refine wpAny_bind (wpAny_onRaise ?_)
        show wpAny _ _ (Builtin.SmallTypes.nextOf (.ref c.1) >>= _) _ _ _
        refine wpAny_bind (nextOf_tuple_item (s := { s with heap := h' }) (F.todo c (List.mem_cons_self ..)) (F.tuple D hc (hl c hc)) (x := c.2.2.getD k .none) (by simp [hk c hc]) fun h₂ hi₂ hs₂ => wpAny_pure ?_)
        have F₂ := F.turn D hs₂ hi₂
        have hz₂ : IsZ h₂ z TI TO .ellipsis f1 := hs₂.extBut _ _ (fun x => D.nz (x ▸ hcs)) hz'
        have hTO₂ : IsTp h₂ TO (at_ k pre ++ vs.drop pre.length) := hs₂.extBut _ _ (fun x => D.nO (x ▸ hcs)) hTO'
        have hlt : pre.length < vs.length := by rw [hvs, F.cut]; simp
        have hsz : (at_ k pre ++ vs.drop pre.length).length ≤ sizeLine := by
          rw [List.length_append, at_len, List.length_drop]; omega
        refine wpAny_bind (wpAny_seqItems (s := { s with heap := h₂ }) hTO₂ rfl ?_)
        refine wpAny_bind (updateSeq_tp (s := { s with heap := h₂ }) hTO₂ hsz fun h₃ hTO₃ hs₃ => ?_)
        rw [set_next k pre c vs hlt] at hTO₃
        refine wpAny_bind (wpAny_letGo (wpAny_pure ?_))
        exact ⟨_, rest, h₃, F₂.write D (.inr rfl) hs₃, rfl, rfl, rfl, hs₃.extBut _ _ (Ne.symm D.TOz) hz₂, hTO₃⟩
    · rintro ⟨b1, b2⟩ s' ⟨pre, rest, h', F, el, eb, rfl, hz', hTO'⟩
      cases rest with
      | cons c rest => cases el
      | nil =>
        simp only at eb
        subst eb
        have ep : pre = cs := by rw [F.cut]; simp
        subst ep
        rw [← hvs, List.drop_length, List.append_nil] at hTO'
        refine wpAny_bind (wpAny_seqItems (s := { s with heap := h' }) hTO' rfl ?_)
        refine wpAny_bind (wpAny_newTuple ?_ (by rw [List.toList_toArray, at_len]; exact hlen))
        show wpAny _ _ (Builtin.SmallTypes.ownedTupleHandOut (.ref z) (.ref h'.objs.size) >>= _) _ _ _
        refine wpAny_bind ?_
        unfold Builtin.SmallTypes.ownedTupleHandOut
        have hzlt : z < h'.objs.size := Heap.lt_size hz'
        have hz₆ : IsZ (h'.push { cls := .type "tuple", data := .seq (at_ k pre).toArray }) z TI TO .ellipsis f1 := Heap.get?_push_of_some _ hz'
        refine wpAny_bind (wpAny_setField_rec hz₆ (by simp) fun h₇ hz₇ hs₇ => ?_)
        replace hz₇ : IsZ h₇ z TI TO (rawInt h'.objs.size) f1 := hz₇
        refine wpAny_setField_rec hz₇ (by simp) fun h₈ hz₈ hs₈ => ?_
        replace hz₈ : IsZ h₈ z TI TO (rawInt h'.objs.size) false := hz₈
        have up : ∀ c o, c ≠ z → h'.get? c = some o → h₈.get? c = some o := fun c o c1 e => hs₈.extBut _ _ c1 (hs₇.extBut _ _ c1 (Heap.get?_push_of_some _ e))
        have hT₈ : IsTp h₈ h'.objs.size (at_ k pre) := hs₈.extBut _ _ (Nat.ne_of_gt hzlt) (hs₇.extBut _ _ (Nat.ne_of_gt hzlt) (Heap.get?_push_size _ rfl))
        have hz8 : h₈.objs.size = h'.objs.size + 1 := by rw [hs₈.1, hs₇.1, Heap.size_push]
        rw [F.size] at hz₈ hT₈ hz8
        refine wpAny_pure ⟨_, rfl, ?_⟩
        show Q (.ref h'.objs.size) _
        rw [F.size]
        exact hQ h₈ _ _ _ hz₈ (.inr ⟨_, rfl⟩) (up _ _ D.TOz hTO') (at_len ..) (fun c hc => (F.done c hc).at fun o e => up _ o (fun x => D.nz (x ▸ List.mem_map_of_mem hc)) e) hT₈ hz8 fun c o c1 c2 c3 e => up c o c1 (F.keep c o c1 c2 c3 e)
  · simp only [Bool.false_eq_true, if_false]
    refine wpAny_bind ?_
    refine MeetsSeq2.wpAny_forIn_array _ (fun l b s' => ∃ pre rest h', Far s.heap z TO cs pre rest k h' ∧ l = refs rest ∧ b.1 = none ∧ b.2 = (at_ k pre).toArray ∧ s' = { s with heap := h' } ∧ IsZ h' z TI TO f0 true ∧ IsTp h' TO vs) _ ?_ ?_ _ _
      ⟨[], cs, h₁, ⟨rfl, hs₁.1, fun c o c1 _ _ e => hs₁.extBut _ _ c1 e, fun c hc => (List.not_mem_nil hc).elim, fun c hc => (hi c hc).extBut hs₁.extBut fun x => D.nz (x ▸ List.mem_map_of_mem hc)⟩, rfl, rfl, rfl, rfl, hz₁, hs₁.extBut _ _ D.TOz hTO⟩
    · rintro x l b s' ⟨pre, rest, h', F, el, eb, eb2, rfl, hz', hTO'⟩
      cases rest with
      | nil => cases el
      | cons c rest =>
        have hc : c ∈ cs := by rw [F.cut]; simp
        have hcs : c.1 ∈ cs.map (·.1) := List.mem_map_of_mem hc
        injection el with e1 e2
        subst e1 e2
        refine wpAny_bind (wpAny_holding ?_)
        show wpAny _ _ (Builtin.SmallTypes.nextOf (.ref c.1) >>= _) _ _ _
        refine wpAny_bind (nextOf_tuple_item (s := { s with heap := h' }) (F.todo c (List.mem_cons_self ..)) (F.tuple D hc (hl c hc)) (x := c.2.2.getD k .none) (by simp [hk c hc]) fun h₂ hi₂ hs₂ => wpAny_pure ?_)
        have F₂ := F.turn D hs₂ hi₂
        refine wpAny_pure ⟨_, rest, h₂, F₂, rfl, rfl, ?_, rfl, hs₂.extBut _ _ (fun x => D.nz (x ▸ hcs)) hz', hs₂.extBut _ _ (fun x => D.nO (x ▸ hcs)) hTO'⟩
        show b.2.push _ = _
        rw [eb2, at_snoc, List.push_toArray]
    · rintro ⟨b1, b2⟩ s' ⟨pre, rest, h', F, el, eb, eb2, rfl, hz', hTO'⟩
      cases rest with
      | cons c rest => cases el
      | nil =>
        simp only at eb eb2
        subst eb eb2
        have ep : pre = cs := by rw [F.cut]; simp
        subst ep
        refine wpAny_bind (wpAny_newTuple ?_ (by rw [List.toList_toArray, at_len]; exact hlen))
        refine wpAny_pure ⟨_, rfl, ?_⟩
        show Q (.ref h'.objs.size) _
        have hT : IsTp (h'.push { cls := .type "tuple", data := .seq (at_ k pre).toArray }) h'.objs.size (at_ k pre) := Heap.get?_push_size _ rfl
        have hz4 : (h'.push { cls := .type "tuple", data := .seq (at_ k pre).toArray }).objs.size = h'.objs.size + 1 := Heap.size_push ..
        rw [F.size] at hT hz4 ⊢
        exact hQ _ _ _ _ (Heap.get?_push_of_some _ hz') h0 (Heap.get?_push_of_some _ hTO') hvs (fun c hc => (F.done c hc).at fun o e => Heap.get?_push_of_some _ e) hT hz4 fun c o c1 c2 c3 e => Heap.get?_push_of_some _ (F.keep c o c1 c2 c3 e)

/-- the end: a tuple, and so the first, has no more items; or there is none -/
theorem next_end {z TI TO : Addr} {cs : List Cell} {k : Nat} {f0 : Value} {f1 : Bool} {vs : List Value} {Q : Fin → Shared → Prop} (hh : A.handled = none) (D : Apart z TI TO cs)
    (hz : IsZ s.heap z TI TO f0 f1) (h0 : f0 = .none ∨ ∃ a : Nat, f0 = rawInt a) (hTI : IsTp s.heap TI (refs cs))
    (hi : ∀ c ∈ cs, s.heap.IsTupleIter c.1 c.2.1 k) (hl : ∀ c ∈ cs, s.heap.IsTuple c.2.1 c.2.2) (hk : ∀ c ∈ cs, c.2.2.size ≤ k) (hTO : IsTp s.heap TO vs)
    (hE : ∀ h' e, Keeps z TO cs s.heap h' → (∃ o, h'.get? e = some o ∧ o.cls = .type "StopIteration") → E (.ref e) { s with heap := h' }) :
    wpAny (model prog w) A (Builtin.«zip.__next__» ⟨[.ref z], []⟩) Q E s := by
  show wpAny _ _ (field (.ref z) 2 >>= _) _ _ _
  refine wpAny_bind (wpAny_field hz rfl (x := .bool false) rfl ?_)
  show wpAny _ _ (field (.ref z) 3 >>= _) _ _ _
  refine wpAny_bind (wpAny_field hz rfl (x := .ref TI) rfl ?_)
  refine wpAny_bind (wpAny_seqItems hTI rfl ?_)
  cases cs with
  | nil =>
    have he : (refs []).toArray.isEmpty = true := rfl
    simp only [he, if_true]
    refine wpAny_bind (wpAny_rule (wpAny_bind ?_))
    show wpAny _ _ (newExc (.type "StopIteration") [] >>= _) _ _ _
    refine wpAny_bind ?_
    simp only [newExc, newTuple]
    refine wpAny_bind (wpAny_newObj_type ?_ (by size_fits))
    refine wpAny_bind (m := firstArgMember _ _) (wpAny_of_eq (a := Value.none) (by first | rfl | (simp only [firstArgMember]; rfl)) ?_)
    refine wpAny_newObj_type ?_ (by size_fits)
    simp only [raiseNew]
    refine wpAny_bind (wpAny_handled ?_)
    first | rw [show A.in1.handled = none from hh] | rw [hh]
    refine wpAny_bind (wpAny_pure (wpAny_throw ?_))
    exact hE _ _ (fun c o _ _ _ e => Heap.get?_push_of_some _ (Heap.get?_push_of_some _ e)) ⟨_, Heap.get?_push_size _ rfl, rfl⟩
  | cons c cs =>
    have he : (refs (c :: cs)).toArray.isEmpty = false := rfl
    have hcs : c.1 ∈ (c :: cs).map (·.1) := List.mem_map_of_mem (List.mem_cons_self ..)
    have hc : c ∈ c :: cs := List.mem_cons_self ..
    simp only [he, Bool.false_eq_true, if_false]
    show wpAny _ _ (Builtin.SmallTypes.ownedTupleIsFree (.ref z) >>= _) _ _ _
    refine wpAny_bind (free_or hz h0 ?_ fun h₁ hz₁ hs₁ => ?_)
    · simp only [if_true]
      refine wpAny_bind (wpAny_rule ?_)
      refine wpAny_bind (wpAny_field hz rfl (x := .ref TO) rfl ?_)
      refine wpAny_bind (wpAny_setField_rec hz (by simp) fun h₁ hz₁ hs₁ => ?_)
      replace hz₁ : IsZ h₁ z TI TO .ellipsis f1 := hz₁
      refine wpAny_bind ?_
      simp only [refs, List.map_cons, List.zipIdx_cons, List.forIn_cons]
      refine wpAny_bind (wpAny_bind (wpAny_onRaise ?_))
      show wpAny _ _ (Builtin.SmallTypes.nextOf (.ref c.1) >>= _) _ _ _
      refine wpAny_bind (nextOf_tuple_end (s := { s with heap := h₁ }) hh ((hi c hc).extBut hs₁.extBut fun x => D.nz (x ▸ hcs)) ((hl c hc).extBut hs₁.extBut (D.tz c hc)) (by simpa using hk c hc) fun h₂ e hs₂ he => ?_)
      obtain ⟨oe, hoe, hce⟩ := he
      have hz₂ : IsZ h₂ z TI TO .ellipsis f1 := hs₂ _ _ (fun x => D.nz (x ▸ hcs)) hz₁
      have hez : e ≠ z := fun x => by subst x; rw [hz₂] at hoe; cases hoe; simp at hce
      refine wpAny_setField_rec hz₂ (by simp) fun h₃ _ hs₃ => hE h₃ e (fun d o d1 d2 d3 x => hs₃.extBut _ _ d1 (hs₂ _ _ (fun q => d3 (by rw [q]; exact hcs)) (hs₁.extBut _ _ d1 x))) ⟨oe, hs₃.extBut _ _ hez hoe, hce⟩
    · simp only [Bool.false_eq_true, if_false]
      refine wpAny_bind ?_
      rw [← Array.forIn_toList]
      simp only [refs, List.map_cons, List.toList_toArray, List.forIn_cons]
      refine wpAny_bind (wpAny_bind (wpAny_holding ?_))
      show wpAny _ _ (Builtin.SmallTypes.nextOf (.ref c.1) >>= _) _ _ _
      refine wpAny_bind (nextOf_tuple_end (s := { s with heap := h₁ }) hh ((hi c hc).extBut hs₁.extBut fun x => D.nz (x ▸ hcs)) ((hl c hc).extBut hs₁.extBut (D.tz c hc)) (by simpa using hk c hc) fun h₂ e hs₂ he => ?_)
      exact hE h₂ e (fun d o d1 d2 d3 x => hs₂ _ _ (fun q => d3 (by rw [q]; exact hcs)) (hs₁.extBut _ _ d1 x)) he
end
end ZN
set_option Elab.async false
set_option linter.all false
set_option maxRecDepth 100000
set_option maxHeartbeats 4000000
/-! own words, 31: the making of a zip of any number of tuples, its walk -/
namespace ZN
open PySem RZ
open PySem.Sem (wp)
theorem typeCall (xs : List Value) : checkTypeCall "zip" ⟨xs, []⟩ = pure () := by kernel_rfl
theorem newCall (xs : List Value) : checkBuiltinCall "zip.__new__" ⟨.type "zip" :: xs, []⟩ = pure () := by
  cases xs with
  | nil => kernel_rfl
  | cons x xs => kernel_rfl
theorem initArgs (a : Value) (xs : List Value) : argsOk "object.__init__" ⟨a :: xs, []⟩ := by
  unfold argsOk; rw [signature?_of (id := "object.__init__") (n := ['_', '_', 't', 'i', 'n', 'i', '_', '_']) (o := ['t', 'c', 'e', 'j', 'b', 'o']) (by kernel_rfl) F.owner_object]; kernel_rfl
/-- the cells of tuples, the iterators laid from m on -/
def cells : Nat → List (Addr × Array Value) → List Cell
  | _, [] => []
  | m, t :: r => (m, t) :: cells (m + 1) r
theorem cells_snoc : ∀ (m : Nat) (pre : List (Addr × Array Value)) (t : Addr × Array Value), cells m (pre ++ [t]) = cells m pre ++ [(m + pre.length, t)]
  | m, [], t => rfl
  | m, p :: pre, t => by
    show (m, p) :: cells (m + 1) (pre ++ [t]) = _
    rw [cells_snoc (m + 1) pre t]
    show (m, p) :: (cells (m + 1) pre ++ [(m + 1 + pre.length, t)]) = (m, p) :: (cells (m + 1) pre ++ [(m + (pre.length + 1), t)])
    rw [Nat.add_right_comm m 1, Nat.add_assoc m]
theorem cells_len : ∀ (m : Nat) (ts : List (Addr × Array Value)), (cells m ts).length = ts.length
  | _, [] => rfl
  | m, t :: r => by show (cells (m + 1) r).length + 1 = _; rw [cells_len (m + 1) r]; rfl
theorem cells_mem : ∀ {m : Nat} {ts : List (Addr × Array Value)} {c : Cell}, c ∈ cells m ts → m ≤ c.1 ∧ c.1 < m + ts.length ∧ c.2 ∈ ts
  | m, t :: r, c, h => by
    rcases List.mem_cons.mp h with rfl | h
    · exact ⟨Nat.le_refl _, by simp, List.mem_cons_self ..⟩
    · obtain ⟨a, b, d⟩ := cells_mem h
      refine ⟨Nat.le_of_succ_le a, ?_, List.mem_cons_of_mem _ d⟩
      show c.1 < m + (r.length + 1)
      rw [← Nat.add_assoc, Nat.add_right_comm]
      exact b
theorem cells_nd : ∀ (m : Nat) (ts : List (Addr × Array Value)), ((cells m ts).map (·.1)).Nodup
  | _, [] => List.nodup_nil
  | m, t :: r => by
    refine List.nodup_cons.mpr ⟨fun h => ?_, cells_nd (m + 1) r⟩
    obtain ⟨c, hc, e⟩ := List.mem_map.mp h
    have q := (cells_mem hc).1
    rw [e] at q
    exact absurd q (Nat.not_succ_le_self _)
theorem apart_new {m : Nat} {ts : List (Addr × Array Value)} (h : ∀ t ∈ ts, t.1 < m) : Apart (m + ts.length + 2) (m + ts.length) (m + ts.length + 1) (cells m ts) := by
  have lt : ∀ a, m + ts.length ≤ a → a ∉ (cells m ts).map (·.1) := fun a ha q => by
    obtain ⟨c, hc, rfl⟩ := List.mem_map.mp q
    exact absurd (cells_mem hc).2.1 (Nat.not_lt.mpr ha)
  have l0 : m + ts.length ≤ m + ts.length := Nat.le_refl _
  have l1 : m + ts.length ≤ m + ts.length + 1 := Nat.le_succ _
  have l2 : m + ts.length ≤ m + ts.length + 2 := Nat.le_add_right _ _
  refine ⟨Nat.ne_of_lt (by omega), Nat.ne_of_lt (by omega), Nat.ne_of_lt (by omega), lt _ l2, lt _ l0, lt _ l1, cells_nd .., fun c hc => ?_, fun c hc => ?_, fun c hc q => ?_⟩
  · exact Nat.ne_of_lt (Nat.lt_of_lt_of_le (h _ (cells_mem hc).2.2) (by omega))
  · exact Nat.ne_of_lt (Nat.lt_of_lt_of_le (h _ (cells_mem hc).2.2) (by omega))
  · obtain ⟨d, hd, e⟩ := List.mem_map.mp q
    have q1 := h _ (cells_mem hc).2.2
    have q2 := (cells_mem hd).1
    rw [e] at q2
    exact absurd q1 (Nat.not_lt.mpr q2)
/-- the zip as made -/
structure Made (s h : Heap) (ts : List (Addr × Array Value)) : Prop where
  z : IsZ h (s.objs.size + ts.length + 2) (s.objs.size + ts.length) (s.objs.size + ts.length + 1) .none false
  ti : IsTp h (s.objs.size + ts.length) (refs (cells s.objs.size ts))
  to : IsTp h (s.objs.size + ts.length + 1) (ts.map fun _ => .none)
  it : ∀ c ∈ cells s.objs.size ts, h.IsTupleIter c.1 c.2.1 0
  size : h.objs.size = s.objs.size + ts.length + 3
  keep : ∀ c o, s.get? c = some o → h.get? c = some o
theorem meets_new (ts : List (Addr × Array Value)) (hlen : ts.length ≤ 4000) :
    Meets (Builtin.«zip.__new__» ⟨.type "zip" :: ts.map fun t => .ref t.1, []⟩) (fun _ R s => (∀ t ∈ ts, s.heap.IsTuple t.1 t.2) ∧
      ∀ h', Made s.heap h' ts → R (.ok (.ret (.ref (s.heap.objs.size + ts.length + 2)))) { s with heap := h' }) :=
  .of_wp fun prog w A R s h => by
    obtain ⟨hp, g, d, tk, os⟩ := s; obtain ⟨hl, h⟩ := h
    have hsub := sub_zip
    wp_walk using wpAny_forIn_list _ (fun l (b : Array Value) s' => ∃ pre rest h', ts = pre ++ rest ∧ l = rest.map (fun t => Value.ref t.1) ∧ b = (refs (cells hp.objs.size pre)).toArray ∧ s' = ⟨h', g, d, tk, os⟩ ∧ h'.objs.size = hp.objs.size + pre.length ∧
      (∀ c ∈ cells hp.objs.size pre, h'.IsTupleIter c.1 c.2.1 0) ∧ ∀ c o, hp.get? c = some o → h'.get? c = some o) _
    case turn =>
      rintro x l b s' ⟨pre, rest, h', ec, el, rfl, rfl, hsz, hi, hk⟩
      cases rest with
      | nil => cases el
      | cons t rest =>
        injection el with e1 e2
        subst e1 e2
        refine wpAny_bind (wpAny_holding (wpAny_pyIter_tuple (items := t.2) ((hl t (by rw [ec]; simp)).at fun o e => hk _ o e) ?_))
        refine wpAny_pure ⟨pre ++ [t], rest, _, by rw [ec]; simp, rfl, ?_, rfl, ?_, ?_, ?_⟩
        · show ((refs (cells hp.objs.size pre)).toArray).push (.ref h'.objs.size) = _
          rw [cells_snoc, hsz]
          simp [refs]
        · show (Heap.push h' _).objs.size = _
          rw [Heap.size_push, hsz, List.length_append]; rfl
        · intro c hc
          rw [cells_snoc] at hc
          rcases List.mem_append.mp hc with q | q
          · exact (hi c q).at fun o e => Heap.get?_push_of_some _ e
          · rw [List.mem_singleton.mp q, ← hsz]
            exact ⟨_, Heap.get?_push_size _ rfl, rfl, rfl⟩
        · exact fun c o e => Heap.get?_push_of_some _ (hk c o e)
    case fin =>
      rintro b s' ⟨pre, rest, h', ec, el, rfl, rfl, hsz, hi, hk⟩
      cases rest with
      | cons t rest => cases el
      | nil =>
        have ep : ts = pre := by rw [ec]; simp
        subst ep
        refine wpAny_pure ?_
        have hln : (refs (cells hp.objs.size ts)).length = ts.length := by rw [refs, List.length_map, cells_len]
        refine wpAny_bind (wpAny_newTuple ?_ (by rw [List.toList_toArray, hln]; exact Nat.le_trans hlen (by decide)))
        refine wpAny_bind (wpAny_newTuple ?_ (by rw [List.length_map, List.toList_toArray, hln]; exact Nat.le_trans hlen (by decide)))
        refine wpAny_bind ?_
        unfold Builtin.SmallTypes.newRecord
        refine wpAny_newObj_type ?_ (by show 5 ≤ sizeLine + 2; decide)
        refine wpAny_pure ⟨_, rfl, ?_⟩
        simp only [List.toList_toArray]
        have en : (refs (cells hp.objs.size ts)).map (fun _ => Value.none) = ts.map fun _ => Value.none := by
          rw [List.map_const', List.map_const', hln]
        rw [en]
        let o1 : Obj := { cls := .type "tuple", data := .seq (refs (cells hp.objs.size ts)).toArray }
        let o2 : Obj := { cls := .type "tuple", data := .seq (ts.map fun _ => Value.none).toArray }
        let o3 : Obj := { cls := .type "zip", data := .fields #[.none, .bool false, .bool false, .ref h'.objs.size, .ref (h'.push o1).objs.size] }
        have z1 : (h'.push o1).objs.size = hp.objs.size + ts.length + 1 := by rw [Heap.size_push, hsz]
        have z2 : ((h'.push o1).push o2).objs.size = hp.objs.size + ts.length + 2 := by rw [Heap.size_push, z1]
        have z3 : (((h'.push o1).push o2).push o3).objs.size = hp.objs.size + ts.length + 3 := by rw [Heap.size_push, z2]
        have g3 : (((h'.push o1).push o2).push o3).get? ((h'.push o1).push o2).objs.size = some o3 := Heap.get?_push_size _ rfl
        have g2 : (((h'.push o1).push o2).push o3).get? (h'.push o1).objs.size = some o2 := Heap.get?_push_of_some _ (Heap.get?_push_size _ rfl)
        have g1 : (((h'.push o1).push o2).push o3).get? h'.objs.size = some o1 := Heap.get?_push_of_some _ (Heap.get?_push_of_some _ (Heap.get?_push_size _ rfl))
        have up : ∀ c o, h'.get? c = some o → (((h'.push o1).push o2).push o3).get? c = some o := fun c o e => Heap.get?_push_of_some _ (Heap.get?_push_of_some _ (Heap.get?_push_of_some _ e))
        show R (.ok (.ret (.ref ((h'.push o1).push o2).objs.size))) ⟨((h'.push o1).push o2).push o3, g, d, tk, os⟩
        have eo : o3 = { cls := .type "zip", data := .fields #[.none, .bool false, .bool false, .ref (hp.objs.size + ts.length), .ref (hp.objs.size + ts.length + 1)] } := by
          show ({ cls := .type "zip", data := .fields #[.none, .bool false, .bool false, .ref h'.objs.size, .ref (h'.push o1).objs.size] } : Obj) = _
          rw [z1, hsz]
        rw [z2] at g3
        rw [z1] at g2
        rw [hsz] at g1
        rw [z2]
        exact h _ ⟨g3.trans (congrArg some eo), g1, g2, fun c hc => (hi c hc).at fun o e => up _ o e, z3, fun c o e => up c o (hk c o e)⟩
    case h => exact ⟨[], ts, hp, rfl, rfl, rfl, rfl, rfl, fun c hc => (List.not_mem_nil hc).elim, fun _ _ e => e⟩
end ZN
set_option Elab.async false
set_option linter.all false
set_option maxRecDepth 100000
set_option maxHeartbeats 4000000
/-! own words, 32: zip(*x) walked by a name -/
namespace ZN
open PySem PySem.Spec PyProof.Rows L2 RZ
section
variable {prog : Program} {w : World} {A : Around} {E : Value → Shared → Prop} {s : Shared}
theorem call_zipN {ts : List (Addr × Array Value)} {Q : Value → Shared → Prop} (hlen : ts.length ≤ 4000) (hl : ∀ t ∈ ts, s.heap.IsTuple t.1 t.2)
    (h : ∀ h', Made s.heap h' ts → Q (.ref (s.heap.objs.size + ts.length + 2)) { s with heap := h' }) : wpAny (model prog w) A (call (.type "zip") (ts.map fun t => .ref t.1)) Q E s := by
  refine callType_new F.called_zip (by decide) (typeCall _) (newCall _) (fun obj => initArgs obj _) F.entry_zip_new (meets_new ts hlen) ⟨hl, fun h' M => ?_⟩
  exact ⟨⟨_, M.z, rfl⟩, h h' M⟩
theorem pyNext_item {z TI TO : Addr} {cs : List Cell} {k : Nat} {f0 : Value} {f1 : Bool} {vs : List Value} {Q : Option Value → Shared → Prop} (D : Apart z TI TO cs) (hne : cs ≠ []) (hlen : cs.length ≤ sizeLine)
    (hz : IsZ s.heap z TI TO f0 f1) (h0 : f0 = .none ∨ ∃ a : Nat, f0 = rawInt a) (hTI : IsTp s.heap TI (refs cs)) (hTO : IsTp s.heap TO vs) (hvs : vs.length = cs.length)
    (hi : ∀ c ∈ cs, s.heap.IsTupleIter c.1 c.2.1 k) (hl : ∀ c ∈ cs, s.heap.IsTuple c.2.1 c.2.2) (hk : ∀ c ∈ cs, k < c.2.2.size)
    (hQ : ∀ h' f0' f1' vs', IsZ h' z TI TO f0' f1' → (f0' = .none ∨ ∃ a : Nat, f0' = rawInt a) → IsTp h' TO vs' → vs'.length = cs.length → (∀ c ∈ cs, h'.IsTupleIter c.1 c.2.1 (k + 1)) →
      IsTp h' s.heap.objs.size (at_ k cs) → h'.objs.size = s.heap.objs.size + 1 → Keeps z TO cs s.heap h' → Q (some (.ref s.heap.objs.size)) { s with heap := h' }) :
    wpAny (model prog w) A (pyNext (.ref z)) Q E s := by
  have hT : s.TypeIs (.ref z) "zip" := ⟨_, hz, rfl⟩
  unfold pyNext
  exact wpAny_bind (wpAny_attempt (wpAny_callSpecial?_slot (name := Str.ofString "__next__") hT F.slot_zip_next
    (wpAny_call_entry F.slot_zip_next hT F.entry_zip_next
      (next_item D hne hlen hz h0 hTI hTO hvs hi hl hk fun h' a b c a1 a2 a3 a4 a5 a6 a7 a8 => wpAny_pure (hQ h' a b c a1 a2 a3 a4 a5 a6 a7 a8)) (F.args_zip_next_1 _))))
theorem pyNext_end {z TI TO : Addr} {cs : List Cell} {k : Nat} {f0 : Value} {f1 : Bool} {vs : List Value} {Q : Option Value → Shared → Prop} (hh : A.handled = none) (D : Apart z TI TO cs)
    (hz : IsZ s.heap z TI TO f0 f1) (h0 : f0 = .none ∨ ∃ a : Nat, f0 = rawInt a) (hTI : IsTp s.heap TI (refs cs))
    (hi : ∀ c ∈ cs, s.heap.IsTupleIter c.1 c.2.1 k) (hl : ∀ c ∈ cs, s.heap.IsTuple c.2.1 c.2.2) (hk : ∀ c ∈ cs, c.2.2.size ≤ k) (hTO : IsTp s.heap TO vs)
    (hQ : ∀ h', Keeps z TO cs s.heap h' → Q none { s with heap := h' }) : wpAny (model prog w) A (pyNext (.ref z)) Q E s := by
  have hT : s.TypeIs (.ref z) "zip" := ⟨_, hz, rfl⟩
  unfold pyNext
  refine wpAny_bind (wpAny_attempt (wpAny_callSpecial?_slot (name := Str.ofString "__next__") hT F.slot_zip_next
    (wpAny_call_entry F.slot_zip_next hT F.entry_zip_next (next_end hh D hz h0 hTI hi hl hk hTO fun h' e hk he => ?_) (F.args_zip_next_1 _))))
  obtain ⟨o, ho, hc⟩ := he
  refine wpAny_bind (wpAny_isInstance (T := "StopIteration") (b := true) ⟨o, ho, hc⟩ isSubtype_stop ?_)
  exact wpAny_pure (hQ _ hk)
theorem pyIter_z {z TI TO : Addr} {f0 : Value} {f1 : Bool} {Q : Value → Shared → Prop} (hz : IsZ s.heap z TI TO f0 f1) (h : Q (.ref z) s) : wpAny (model prog w) A (pyIter (.ref z)) Q E s := by
  have hT : s.TypeIs (.ref z) "zip" := ⟨_, hz, rfl⟩
  refine wpAny_pyIter_slot hT F.slot_zip_iter (wpAny_call_entry F.slot_zip_iter hT F.entry_zip_iter ?_ (F.args_zip_iter_1 _))
  show wpAny _ _ (ret (.ref z)) _ _ s
  exact wpAny_pure ⟨_, rfl, "zip", _, hT, F.slot_zip_next.lookup, h⟩
end

/-- iterators and tuples, and what the tuples hold -/
def withF (f : Addr → Array Value) (ps : List (Addr × Addr)) : List Cell := ps.map fun p => (p.1, p.2, f p.2)
theorem withF_1 (f : Addr → Array Value) (ps : List (Addr × Addr)) : (withF f ps).map (·.1) = ps.map (·.1) := by simp [withF]
theorem refs_withF (f : Addr → Array Value) (ps : List (Addr × Addr)) : refs (withF f ps) = ps.map fun p => Value.ref p.1 := by simp [refs, withF]
theorem at_withF (i : Nat) (f : Addr → Array Value) (ps : List (Addr × Addr)) : at_ i (withF f ps) = ps.map fun p => (f p.2).getD i .none := by simp [at_, withF]
theorem mem_withF {f : Addr → Array Value} {ps : List (Addr × Addr)} {c : Cell} (h : c ∈ withF f ps) : ∃ p ∈ ps, c = (p.1, p.2, f p.2) := by
  obtain ⟨p, hp, e⟩ := List.mem_map.mp h
  exact ⟨p, hp, e.symm⟩
theorem Apart.other {z TI TO : Addr} {ps : List (Addr × Addr)} {f : Addr → Array Value} (D : Apart z TI TO (withF f ps)) (g : Addr → Array Value) : Apart z TI TO (withF g ps) := by
  have e : (withF g ps).map (·.1) = (withF f ps).map (·.1) := by rw [withF_1, withF_1]
  refine ⟨D.TIz, D.TOz, D.TITO, by rw [e]; exact D.nz, by rw [e]; exact D.nI, by rw [e]; exact D.nO, by rw [e]; exact D.nd, fun c hc => ?_, fun c hc => ?_, fun c hc => ?_⟩
  · obtain ⟨p, hp, rfl⟩ := mem_withF hc
    exact D.tz (p.1, p.2, f p.2) (List.mem_map_of_mem hp)
  · obtain ⟨p, hp, rfl⟩ := mem_withF hc
    exact D.tO (p.1, p.2, f p.2) (List.mem_map_of_mem hp)
  · obtain ⟨p, hp, rfl⟩ := mem_withF hc
    rw [e]
    exact D.ti (p.1, p.2, f p.2) (List.mem_map_of_mem hp)
structure Walking (z TI TO : Addr) (ps : List (Addr × Addr)) (i : Nat) (h : Heap) : Prop where
  z : ∃ f0 f1, IsZ h z TI TO f0 f1 ∧ (f0 = .none ∨ ∃ a : Nat, f0 = rawInt a)
  ti : IsTp h TI (ps.map fun p => Value.ref p.1)
  to : ∃ vs, IsTp h TO vs ∧ vs.length = ps.length
  it : ∀ p ∈ ps, h.IsTupleIter p.1 p.2 i
/-- the tuples at as, as they stand at each turn, the items in new tuples -/
def ItzN (K : PySem.W.Frag) (as : List Addr) : It :=
  ⟨fun i H => as ≠ [] ∧ ∀ a ∈ as, ∃ xs x, SqT K H a xs ∧ xs[i]? = some x,
    fun i H v H' => ∃ (T : Addr) (vs : List V), v = .ref T ∧ H T = none ∧ H' = upd H T (.tup vs) ∧ vs.length = as.length ∧ ∀ (j : Nat) (a : Addr), as[j]? = some a → ∀ xs, SqT K H a xs → vs[j]? = xs[i]?,
    fun i H => ∀ a ∈ as, ∃ xs, SqT K H a xs ∧ xs.length ≤ i⟩
theorem vals_map {α : Type} {x : α → V} {u : α → Value} : ∀ {ps : List α}, (∀ p ∈ ps, RelV (x p) (u p)) → Vals (ps.map x) (ps.map u)
  | [], _ => .nil
  | p :: ps, h => .cons (h p (List.mem_cons_self ..)) (vals_map fun q hq => h q (List.mem_cons_of_mem _ hq))
theorem turn_zipN {P : Program} {w : World} {K : PySem.W.Frag} {n : Str} {np : Pos} {z TI TO : Addr} {ps : List (Addr × Addr)} (hlen : ps.length ≤ 4000) (D : Apart z TI TO (withF (fun _ => #[]) ps)) :
    Turn P w K (.Name n np) (ItzN K (ps.map (·.2))) (z :: TI :: TO :: ps.map (·.1)) z (Walking z TI TO ps) where
  mem := by simp
  obj := fun i h W c hc => by
    obtain ⟨⟨f0, f1, hz, _⟩, hTI, ⟨vs, hTO, _⟩, hi⟩ := W
    rcases List.mem_cons.mp hc with rfl | hc
    · exact ⟨_, hz, fun v q => nomatch q⟩
    rcases List.mem_cons.mp hc with rfl | hc
    · exact ⟨_, hTI, fun v q => nomatch q⟩
    rcases List.mem_cons.mp hc with rfl | hc
    · exact ⟨_, hTO, fun v q => nomatch q⟩
    obtain ⟨p, hp, rfl⟩ := List.mem_map.mp hc
    obtain ⟨o, e, _, d⟩ := hi p hp
    exact ⟨o, e, fun v q => by rw [d] at q; cases q⟩
  keep := fun i h h' W k => by
    obtain ⟨⟨f0, f1, hz, h0⟩, hTI, ⟨vs, hTO, hv⟩, hi⟩ := W
    exact ⟨⟨f0, f1, k z (by simp) _ hz, h0⟩, k TI (by simp) _ hTI, ⟨vs, k TO (by simp) _ hTO, hv⟩, fun p hp => (hi p hp).at fun o q => k p.1 (by simp; right; right; right; exact ⟨_, hp⟩) o q⟩
  item := by
    intro X hP hw hK hc i pins s σ H E I hf W hg
    subst hP hw hK
    obtain ⟨hne, hg⟩ := hg
    have key : ∀ a : Addr, ∃ y : List Value × V × Value, a ∈ ps.map (·.2) → (∃ xs, SqT X.K H a xs ∧ xs[i]? = some y.2.1) ∧ y.1[i]? = some y.2.2 ∧ RelV y.2.1 y.2.2 ∧ s.heap.IsTuple a y.1.toArray := by
      intro a
      by_cases ha : a ∈ ps.map (·.2)
      · obtain ⟨xs, x, hq, hx⟩ := hg a ha
        obtain ⟨its, rv, p, _⟩ := I.tuple hq
        obtain ⟨u, hu, ru⟩ := rv.get hx
        exact ⟨(its, x, u), fun _ => ⟨⟨xs, hq, hx⟩, hu, ru, p⟩⟩
      · exact ⟨([], .non, .none), fun q => absurd q ha⟩
    obtain ⟨f, hf2⟩ := Classical.axiomOfChoice key
    have hm : ∀ p ∈ ps, p.2 ∈ ps.map (·.2) := fun p hp => List.mem_map_of_mem hp
    obtain ⟨⟨f0, f1, hz, h0⟩, hTI, ⟨vs, hTO, hv⟩, hi⟩ := id W
    have D2 := D.other fun a => (f a).1.toArray
    have hgl : ∀ p ∈ ps, (f p.2).1.toArray.getD i .none = (f p.2).2.2 := fun p hp => by
      have q := (hf2 p.2 (hm p hp)).2.1
      simp [Array.getD_eq_getD_getElem?, q]
    have hlt : ∀ p ∈ ps, i < (f p.2).1.toArray.size := fun p hp => by
      obtain ⟨q, _⟩ := List.getElem?_eq_some_iff.mp (hf2 p.2 (hm p hp)).2.1
      simpa using q
    refine pyNext_item (k := i) D2 (fun q => ?_) (by rw [withF, List.length_map]; exact Nat.le_trans hlen (by decide)) hz h0 (by rw [refs_withF]; exact hTI) hTO (by rw [withF, List.length_map]; exact hv)
      (fun c hc => ?_) (fun c hc => ?_) (fun c hc => ?_) fun h' f0' f1' vs' hz' h0' hTO' hv' hi' hT hsz hk => ?_
    · have : ps = [] := by simpa [withF] using q
      exact hne (by rw [this]; rfl)
    · obtain ⟨p, hp, rfl⟩ := mem_withF hc
      exact hi p hp
    · obtain ⟨p, hp, rfl⟩ := mem_withF hc
      exact (hf2 p.2 (hm p hp)).2.2.2
    · obtain ⟨p, hp, rfl⟩ := mem_withF hc
      exact hlt p hp
    · have ea : at_ i (withF (fun a => (f a).1.toArray) ps) = ps.map fun p => (f p.2).2.2 := by
        rw [at_withF]
        exact List.map_congr_left hgl
      rw [ea] at hT
      have keeps : ∀ c o, c ∉ z :: TI :: TO :: ps.map (·.1) → s.heap.get? c = some o → h'.get? c = some o := fun c o hb q =>
        hk c o (fun e => hb (by simp [e])) (fun e => hb (by simp [e])) (by rw [withF_1]; exact fun e => hb (List.mem_cons_of_mem _ (List.mem_cons_of_mem _ (List.mem_cons_of_mem _ e)))) q
      have new : ObjOk X.prog X.w (upd H s.heap.objs.size (.tup (ps.map fun p => (f p.2).2.1))) h' s.heap.objs.size (.tup (ps.map fun p => (f p.2).2.1)) :=
        ⟨by rw [List.length_map]; exact Nat.le_trans hlen (by decide), ps.map fun p => (f p.2).2.2, vals_map fun p hp => (hf2 p.2 (hm p hp)).2.2.1, ⟨_, hT, rfl, _, rfl⟩⟩
      have I1 : Inv X pins σ (upd H s.heap.objs.size (.tup (ps.map fun p => (f p.2).2.1))) { s with heap := h' } :=
        I.turnedNew (t' := s.toks) (ch := z :: TI :: TO :: ps.map (·.1)) keeps hf (Nat.le_refl _) new
      refine ⟨_, rfl, wpAny_pure ⟨.ref s.heap.objs.size, _, I1, rfl, ⟨_, _, rfl, I.hok.fresh (Nat.le_refl _), rfl, by rw [List.length_map, List.length_map], fun j a ej xs hq => ?_⟩, ⟨⟨f0', f1', hz', h0'⟩, ?_, ⟨vs', hTO', ?_⟩, fun p hp => ?_⟩, fun c hcm => ?_⟩⟩
      · rw [List.getElem?_map] at ej ⊢
        cases ep : ps[j]? with
        | none => rw [ep] at ej; cases ej
        | some p =>
          rw [ep] at ej
          have e1 : p.2 = a := by simpa using ej
          have hp : p ∈ ps := List.mem_of_getElem? ep
          obtain ⟨⟨ys, hy, ey⟩, _⟩ := hf2 p.2 (hm p hp)
          rw [e1] at hy
          rw [I.tuple_inj hq hy]
          exact ey.symm
      · exact hk _ _ D.TIz D.TITO (by rw [withF_1]; have := D.nI; rwa [withF_1] at this) hTI
      · rw [hv', withF, List.length_map]
      · exact hi' (p.1, p.2, (f p.2).1.toArray) (List.mem_map_of_mem hp)
      · have hlt : c < s.heap.objs.size := by
          rcases List.mem_cons.mp hcm with rfl | hcm
          · exact Heap.lt_size hz
          rcases List.mem_cons.mp hcm with rfl | hcm
          · exact Heap.lt_size hTI
          rcases List.mem_cons.mp hcm with rfl | hcm
          · exact Heap.lt_size hTO
          obtain ⟨p, hp, rfl⟩ := List.mem_map.mp hcm
          obtain ⟨_, e1, _⟩ := hi p hp
          exact Heap.lt_size e1
        rw [upd_ne (Nat.ne_of_lt hlt)]
        exact (hf c hcm).1
  done := by
    intro X hP hw hK hc i pins s σ H E I hf W hg
    subst hP hw hK
    have key : ∀ a : Addr, ∃ y : Array Value, a ∈ ps.map (·.2) → y.size ≤ i ∧ s.heap.IsTuple a y := by
      intro a
      by_cases ha : a ∈ ps.map (·.2)
      · obtain ⟨xs, hq, hx⟩ := hg a ha
        obtain ⟨its, rv, p, _⟩ := I.tuple hq
        have hl := rv.length
        exact ⟨its.toArray, fun _ => ⟨by rw [List.size_toArray]; omega, p⟩⟩
      · exact ⟨#[], fun q => absurd q ha⟩
    obtain ⟨f, hf2⟩ := Classical.axiomOfChoice key
    have hm : ∀ p ∈ ps, p.2 ∈ ps.map (·.2) := fun p hp => List.mem_map_of_mem hp
    obtain ⟨⟨f0, f1, hz, h0⟩, hTI, ⟨vs, hTO, hv⟩, hi⟩ := id W
    refine pyNext_end (k := i) (I.ok.hd hc) (D.other f) hz h0 (by rw [refs_withF]; exact hTI) (fun c hc => ?_) (fun c hc => ?_) (fun c hc => ?_) hTO fun h' hk => ⟨rfl, I.turnedL (t' := s.toks) (ch := z :: TI :: TO :: ps.map (·.1)) (fun c o hb q =>
      hk c o (fun e => hb (by simp [e])) (fun e => hb (by simp [e])) (by rw [withF_1]; exact fun e => hb (List.mem_cons_of_mem _ (List.mem_cons_of_mem _ (List.mem_cons_of_mem _ e)))) q) hf⟩
    · obtain ⟨p, hp, rfl⟩ := mem_withF hc
      exact hi p hp
    · obtain ⟨p, hp, rfl⟩ := mem_withF hc
      exact (hf2 p.2 (hm p hp)).2
    · obtain ⟨p, hp, rfl⟩ := mem_withF hc
      exact (hf2 p.2 (hm p hp)).1
  self := fun A i s Q E W h => by
    obtain ⟨⟨f0, f1, hz, _⟩, _⟩ := W
    exact pyIter_z hz h
end ZN
set_option Elab.async false
set_option linter.all false
set_option maxRecDepth 100000
set_option maxHeartbeats 4000000
/-! own words, 33: zip(*x) as what a loop or a comprehension walks -/
namespace ZN
open PySem PySem.Spec PyProof.Rows L2 RZ StX
def pairs : Nat → List Addr → List (Addr × Addr)
  | _, [] => []
  | m, a :: r => (m, a) :: pairs (m + 1) r
theorem pairs_len : ∀ (m : Nat) (as : List Addr), (pairs m as).length = as.length
  | _, [] => rfl
  | m, a :: r => by show (pairs (m + 1) r).length + 1 = _; rw [pairs_len (m + 1) r]; rfl
theorem pairs_2 : ∀ (m : Nat) (as : List Addr), (pairs m as).map (·.2) = as
  | _, [] => rfl
  | m, a :: r => by show a :: (pairs (m + 1) r).map (·.2) = _; rw [pairs_2 (m + 1) r]
theorem cells_pairs (f : Addr → Array Value) : ∀ (m : Nat) (as : List Addr), cells m (as.map fun a => (a, f a)) = withF f (pairs m as)
  | _, [] => rfl
  | m, a :: r => by
    show (m, a, f a) :: cells (m + 1) (r.map fun a => (a, f a)) = (m, a, f a) :: withF f (pairs (m + 1) r)
    rw [cells_pairs f (m + 1) r]
theorem vals_refs : ∀ {as : List Addr} {us : List Value}, Vals (as.map V.ref) us → us = as.map Value.ref
  | [], _, .nil => rfl
  | a :: as, _, .cons r t => by
    obtain rfl : _ = Value.ref a := r
    rw [vals_refs t]; rfl
/-- zip(*x), x a tuple or a list of tuples -/
def iZipN (K : PySem.W.Frag) (te : TE) : TI := fun σ H R => te σ H fun y H1 => ∃ (a : Addr) (as : List Addr), y = V.ref a ∧ (SqT K H1 a (as.map V.ref) ∨ SqL K H1 a (as.map V.ref)) ∧ (∀ b ∈ as, ∃ xs, SqT K H1 b xs) ∧ as.length ≤ 4000 ∧ R (ItzN K as) H1
theorem pi_zipN {X : Cx} {e : Expr} {te : TE} {n : Str} {np p sp_ pos : Pos} (hg : Gl X "zip") (hm : X.mg "zip" = none) (he : PE X e te)
    (hst : starEach [.Starred e sp_] X.env = [(true, eval e X.env)] := by rfl) :
    PI X (.Name n np) (.Call (.Name "zip" p) [.Starred e sp_] [] pos) (iZipN X.K te) := by
  refine ⟨fun pins s σ H R I h => ?_⟩
  refine Call_ (ld_blt I hg hm PyProof.Rows.boot_zip ?_)
  rw [hst]
  refine PySem.W.ks_call (P := fun _ => True) rfl (fun h _ => ⟨.machine, .inr (.inl rfl), PySem.W.Looks.of_pure rfl⟩) (PySem.W.ks_lone (thn (he.run pins s σ H _ I h) fun v s1 ⟨y, H1, I1, ry, a, as, ey, hx, hb, hl, q⟩ => ?_))
  subst ey
  obtain rfl : v = Value.ref a := ry
  refine star_any I1 hx fun us s2 I2 rv => ⟨trivial, ?_⟩
  rw [vals_refs rv]
  have key : ∀ b : Addr, ∃ y : Array Value, b ∈ as → s2.heap.IsTuple b y := by
    intro b
    by_cases hm : b ∈ as
    · obtain ⟨xs, hq⟩ := hb b hm
      obtain ⟨its, rv, p, _⟩ := I2.tuple hq
      exact ⟨its.toArray, fun _ => p⟩
    · exact ⟨#[], fun q => absurd q hm⟩
  obtain ⟨f, hf⟩ := Classical.axiomOfChoice key
  have et : as.map Value.ref = (as.map fun b => (b, f b)).map fun t => Value.ref t.1 := by simp
  have ln : (as.map fun b => (b, f b)).length = as.length := List.length_map ..
  show wpAny _ _ (call (.type "zip") (as.map Value.ref)) _ _ _
  rw [et]
  refine call_zipN (by rw [ln]; exact hl) (fun t ht => ?_) fun h' M => ?_
  · obtain ⟨b, hb2, rfl⟩ := List.mem_map.mp ht
    exact hf b hb2
  · refine pyIter_z (s := { s2 with heap := h' }) M.z ?_
    have I3 : Inv X pins σ H1 { s2 with heap := h' } := I2.kept (t' := s2.toks) M.keep
    have D := apart_new (m := s2.heap.objs.size) (ts := as.map fun b => (b, f b)) fun t ht => by
      obtain ⟨b, hb2, rfl⟩ := List.mem_map.mp ht
      obtain ⟨o, ho, _⟩ := hf b hb2
      exact Heap.lt_size ho
    have ti := M.ti
    have it := M.it
    rw [cells_pairs] at D ti it
    have pl : (pairs s2.heap.objs.size as).length ≤ 4000 := by rw [pairs_len]; exact hl
    have T := turn_zipN (P := X.prog) (w := X.w) (K := X.K) (n := n) (np := np) pl (D.other fun _ => #[])
    rw [pairs_2] at T
    rw [refs_withF] at ti
    refine ⟨_, _, _, _, H1, rfl, I3, T, ⟨⟨_, _, M.z, .inl rfl⟩, ti, ⟨_, M.to, by rw [List.length_map, ln, pairs_len]⟩, fun p hp => it (p.1, p.2, f p.2) (List.mem_map_of_mem hp)⟩, fun c hc => ?_, q⟩
    have hle : s2.heap.objs.size ≤ c := by
      rcases List.mem_cons.mp hc with rfl | hc
      · exact Nat.le_trans (Nat.le_add_right _ _) (Nat.le_add_right _ _)
      rcases List.mem_cons.mp hc with rfl | hc
      · exact Nat.le_add_right _ _
      rcases List.mem_cons.mp hc with rfl | hc
      · exact Nat.le_trans (Nat.le_add_right _ _) (Nat.le_add_right _ _)
      rw [← withF_1 f, ← cells_pairs] at hc
      obtain ⟨d, hd, rfl⟩ := List.mem_map.mp hc
      exact (cells_mem hd).1
    exact I2.fpOk hle (I2.hok.fresh hle)
end ZN
set_option Elab.async false
set_option linter.all false
set_option maxRecDepth 100000
set_option maxHeartbeats 4000000
/-! own words, 34: math.lcm; what a walk of zip(*x) draws -/
namespace ZN
open PySem PySem.Spec PyProof.Rows L2 RZ
section
variable {X : Cx}
/-- lcm(a, b), both below 2 ^ 64, b not below 1 nor a -/
def rLcm : List V → Hp → VK → Prop := fun vs H Q => ∃ a b : Nat, vs = [.int a, .int b] ∧ a < 2 ^ 64 ∧ b < 2 ^ 64 ∧ Q (.int ((Nat.lcm a b : Nat) : Int)) H
theorem lcm_fits {a b : Nat} (ha : a < 2 ^ 64) (hb : b < 2 ^ 64) : (Nat.lcm a b).log2 < bitsLine := by
  by_cases h0 : Nat.lcm a b = 0
  · rw [h0]; decide
  · have h1 : Nat.lcm a b ≤ a * b := Nat.div_le_self _ _
    have h2 : a * b < 2 ^ 64 * 2 ^ 64 := Nat.mul_lt_mul'' ha hb
    have h3 : Nat.lcm a b < 2 ^ 128 := by
      rw [show (2 : Nat) ^ 128 = 2 ^ 64 * 2 ^ 64 from by decide]
      exact Nat.lt_of_le_of_lt h1 h2
    exact Nat.lt_trans ((Nat.log2_lt h0).mpr h3) (by decide)
theorem cr_lcm : CallR X (.builtin "math.lcm") rLcm := by
  intro pins s σ H vs us Q I r h
  obtain ⟨a, b, rfl, ha, hb, q⟩ := h
  obtain ⟨t, u, rfl⟩ := Vals.int2 r
  refine PySem.W.mg_lcm_v (c := ((Nat.lcm a b : Nat) : Int)) (by simpa using ha) (by simpa using hb) (by simp) (by simpa using lcm_fits ha hb) ?_
  exact ⟨.int _, H, I.tok _, ⟨_, rfl⟩, q⟩
end
/-- the column i of rows -/
def col (rows : List (List V)) (i : Nat) : List V := rows.map fun r => r.getD i .non
/-- what the walk of zip(*x) yields at turn i: the column i, as a new tuple -/
theorem yld_col {K : PySem.W.Frag} {as : List Addr} {rows : List (List V)} {i : Nat} {H H' : Hp} {v : V} (hl : as.length = rows.length) (hr : ∀ (j : Nat) (a : Addr) (r : List V), as[j]? = some a → rows[j]? = some r → SqT K H a r ∧ i < r.length)
    (h : (ItzN K as).yld i H v H') : ∃ T : Addr, v = .ref T ∧ H T = none ∧ H' = upd H T (.tup (col rows i)) := by
  obtain ⟨T, vs, rfl, hT, rfl, hn, hv⟩ := h
  refine ⟨T, rfl, hT, ?_⟩
  have e : vs = col rows i := by
    refine List.ext_getElem? fun j => ?_
    rw [col, List.getElem?_map]
    by_cases hj : j < as.length
    · have ea := List.getElem?_eq_getElem hj
      have er := List.getElem?_eq_getElem (show j < rows.length by omega)
      obtain ⟨q, hlt⟩ := hr j _ _ ea er
      rw [hv j _ ea _ q, er]
      simp [hlt]
    · rw [List.getElem?_eq_none (by omega), List.getElem?_eq_none (by omega)]
      rfl
  rw [e]
/-- the walk of zip(*x), x rows of one width -/
theorem walkZN {K : PySem.W.Frag} {as : List Addr} {rows : List (List V)} {n : Nat} (hl : as.length = rows.length) (hne : as ≠ []) (hw : ∀ r ∈ rows, r.length = n) :
    Walk (ItzN K as) n (fun H => ∀ (j : Nat) (a : Addr) (r : List V), as[j]? = some a → rows[j]? = some r → SqT K H a r) (fun i H v G => ∃ T : Addr, v = .ref T ∧ H T = none ∧ G = upd H T (.tup (col rows i))) := by
  have get : ∀ {H : Hp}, (∀ (j : Nat) (a : Addr) (r : List V), as[j]? = some a → rows[j]? = some r → SqT K H a r) → ∀ a ∈ as, ∃ r, SqT K H a r ∧ r.length = n := fun {H} q a ha => by
    obtain ⟨j, hj⟩ := List.mem_iff_getElem?.mp ha
    obtain ⟨hjl, _⟩ := List.getElem?_eq_some_iff.mp hj
    have er := List.getElem?_eq_getElem (show j < rows.length by omega)
    exact ⟨_, q j _ _ hj er, hw _ (List.getElem_mem _)⟩
  refine ⟨fun i H hi q => ⟨hne, fun a ha => ?_⟩, fun H q a ha => ?_, fun i H v G hi q z => ?_⟩
  · obtain ⟨r, h1, h2⟩ := get q a ha
    exact ⟨r, r[i], h1, List.getElem?_eq_getElem (by omega)⟩
  · obtain ⟨r, h1, h2⟩ := get q a ha
    exact ⟨r, h1, Nat.le_of_eq h2⟩
  · exact yld_col hl (fun j a r h1 h2 => ⟨q j a r h1 h2, by rw [hw r (List.mem_of_getElem? h2)]; exact hi⟩) z
/-- .. of no rows: nothing -/
theorem walkZN0 {K : PySem.W.Frag} : Walk (ItzN K []) 0 (fun H => True) (fun i H v G => False) :=
  ⟨fun i H hi => absurd hi (Nat.not_lt_zero _), fun H _ a ha => (List.not_mem_nil ha).elim, fun i H v G hi => absurd hi (Nat.not_lt_zero _)⟩
end ZN
set_option Elab.async false
set_option linter.all false
set_option maxRecDepth 100000
set_option maxHeartbeats 2000000
/-! own words, 11: how great data is; its repr; defs that are called with no guard about -/
namespace SL
open PySem PySem.Spec PyProof.Rows L2 GxR NdefX GA
def asc (x : Str) : Bool := x.cps.toList.all fun c => decide (c < 128)
mutual
/-- ints no greater than n, ascii texts, empty dicts -/
def nice (n : Nat) : PyData → Bool
  | .none => true
  | .bool _ => true
  | .int i => decide (i.natAbs ≤ n)
  | .str x => asc x
  | .list xs => niceAll n xs
  | .tuple xs => niceAll n xs
  | .dict kvs => kvs.isEmpty
def niceAll (n : Nat) : List PyData → Bool
  | [] => true
  | x :: xs => nice n x && niceAll n xs
end
theorem shown_repr (x : Str) (h : asc x = true) : (reprText x).length ≤ 10 * x.length + 2 := StrLaws.reprText_len x fun c hc => by
  have := List.all_eq_true.mp h c hc
  have := of_decide_eq_true this
  omega
mutual
theorem shown_le {n : Nat} : ∀ {d : PyData}, nice n d = true → d.shown.length ≤ wt d
  | .none, _ => by simp only [PyData.shown, wt]; decide
  | .bool b, _ => by cases b <;> simp only [PyData.shown, wt] <;> decide
  | .int i, _ => by
    simp only [PyData.shown, wt]
    exact Nat.le_add_right _ _
  | .str x, h => by
    have := shown_repr x (by simpa only [nice] using h)
    simp only [PyData.shown, wt]
    omega
  | .list xs, h => by
    have h1 := shownAll_le (xs := xs) (by simpa only [nice] using h)
    have h2 := listText_len_le (PyData.shownAll xs)
    simp only [PyData.shown, wt]
    omega
  | .tuple xs, h => by
    have h1 := shownAll_le (xs := xs) (by simpa only [nice] using h)
    have h2 := tupleText_len_le (PyData.shownAll xs)
    simp only [PyData.shown, wt]
    omega
  | .dict [], _ => by
    simp only [PyData.shown, PyData.shownKv, wt]
    decide +kernel
  | .dict (_ :: _), h => by simp [nice] at h
theorem shownAll_le {n : Nat} : ∀ {xs : List PyData}, niceAll n xs = true → ((PyData.shownAll xs).map (·.length)).sum + 2 * (PyData.shownAll xs).length ≤ wtAll xs
  | [], _ => by simp [PyData.shownAll, wtAll]
  | x :: xs, h => by
    simp only [niceAll, Bool.and_eq_true] at h
    have h1 := shown_le h.1
    have h2 := shownAll_le h.2
    simp only [PyData.shownAll, wtAll, List.map_cons, List.sum_cons, List.length_cons]
    omega
end
mutual
theorem showable_of {n : Nat} (hn : n.log2 < 1920) : ∀ {d : PyData}, nice n d = true → d.showable = true
  | .none, _ => by simp only [PyData.showable]
  | .bool b, _ => by simp only [PyData.showable]
  | .int i, h => by
    simp only [nice, decide_eq_true_eq] at h
    simp only [PyData.showable, decide_eq_true_eq]
    by_cases z : i.natAbs = 0
    · rw [z]; decide
    · have a1 := (Nat.le_log2 z).mp (Nat.le_refl i.natAbs.log2)
      have hz : n ≠ 0 := by omega
      have : i.natAbs.log2 ≤ n.log2 := (Nat.le_log2 hz).mpr (Nat.le_trans a1 h)
      omega
  | .str x, _ => by simp only [PyData.showable]
  | .list xs, h => by
    simp only [PyData.showable]
    exact showableAll_of hn (by simpa only [nice] using h)
  | .tuple xs, h => by
    simp only [PyData.showable]
    exact showableAll_of hn (by simpa only [nice] using h)
  | .dict [], _ => by simp only [PyData.showable, PyData.showableKv]
  | .dict (_ :: _), h => by simp [nice] at h
theorem showableAll_of {n : Nat} (hn : n.log2 < 1920) : ∀ {xs : List PyData}, niceAll n xs = true → PyData.showableAll xs = true
  | [], _ => by simp only [PyData.showableAll]
  | x :: xs, h => by
    simp only [niceAll, Bool.and_eq_true] at h
    simp only [PyData.showableAll, Bool.and_eq_true]
    exact ⟨showable_of hn h.1, showableAll_of hn h.2⟩
end
section
variable {P : Program} {w : World} {H : Hp} {h : Heap} {M : List Addr}
mutual
/-- what bears data is read as that data -/
theorem Dv.reads (ok : HOk P w H h) : ∀ {v : V} {d : PyData} {u : Value}, Dv M H v d → RelV v u → ∃ as, Reads h u d as ∧ ∀ b ∈ as, H b ≠ none
  | _, _, _, .non, r => ⟨[], by cases r; exact .none, by simp⟩
  | _, _, _, .bl b, r => ⟨[], by cases r; exact .bool b, by simp⟩
  | _, _, _, .int i, r => by
    obtain ⟨t, rfl⟩ := r
    exact ⟨[], .int i t, by simp⟩
  | _, _, _, .str x, r => by
    obtain ⟨t, rfl⟩ := r
    exact ⟨[], .str x t, by simp⟩
  | _, _, _, .lst (a := a) e n q, r => by
    cases r
    obtain ⟨z, its, k, rv, g⟩ := ok a _ e
    obtain ⟨as, r1, r2⟩ := DvAll.reads ok q rv
    refine ⟨a :: as, .list g rfl rfl (by simpa using r1), fun b hb => ?_⟩
    rcases List.mem_cons.mp hb with rfl | hb
    · rw [e]; simp
    · exact r2 b hb
  | _, _, _, .tup (a := a) e n q, r => by
    cases r
    obtain ⟨z, its, rv, t⟩ := ok a _ e
    obtain ⟨as, r1, r2⟩ := DvAll.reads ok q rv
    obtain ⟨o, g, c, k, dd⟩ := t
    exact ⟨as, .tuple g c dd (by simpa using r1), r2⟩
  | _, _, _, .dct (a := a) e n, r => by
    cases r
    obtain ⟨z, s, vs, kv, o, es, ep, g, x, dd, k1, k2, k3⟩ := ok a _ e
    cases kv
    have e0 : es.toList = [] := by
      generalize es.toList = l at k2
      cases k2
      rfl
    refine ⟨a :: [] ++ [], .dict g x.1 dd (by rw [e0]; exact .nil) (by rw [e0]; exact .nil), fun b hb => ?_⟩
    have : b = a := by simpa using hb
    rw [this, e]
    simp
theorem DvAll.reads (ok : HOk P w H h) : ∀ {vs : List V} {ds : List PyData} {us : List Value}, DvAll M H vs ds → Vals vs us → ∃ as, ReadsAll h us ds as ∧ ∀ b ∈ as, H b ≠ none
  | _, _, _, .nil, .nil => ⟨[], .nil, by simp⟩
  | _, _, _, .cons x y, .cons r s => by
    obtain ⟨as, r1, r2⟩ := Dv.reads ok x r
    obtain ⟨bs, s1, s2⟩ := DvAll.reads ok y s
    exact ⟨as ++ bs, .cons r1 s1, fun b hb => (List.mem_append.mp hb).elim (r2 b) (s2 b)⟩
end
end
end SL
namespace SL
open PySem PySem.Spec PyProof.Rows L2 GxR NdefX GA
/-- a def that is to be called where no collection is being shown -/
structure FnG (P : Program) (w : World) (K : PySem.W.Frag) (mg : Str → Option Value) (base : Heap) (k : Nat) (f : Addr) (fd : FuncData) (ps : List Str) (sp : Sp) : Prop where
  len : ∀ vs H Q, sp vs H Q E0 → vs.length = ps.length
  run : ∀ (A : Around) (outer : List Env) (s : Shared) (H : Hp) (args : Args) (us : List Value) (vs : List V) (Q : VK), A.guards = some [] → Room k A → Env0 P w K mg base A outer s H → BindsTo s fd args (ps.zip us) → Vals vs us → sp vs H Q E0 →
    codeAny (model P w) A (.call (.ref f) args) (CR CX0 outer P w H s Q E0) s
/-- as its callers know it -/
structure Fng (P : Program) (w : World) (K : PySem.W.Frag) (mg : Str → Option Value) (base : Heap) (k : Nat) (x : Str) (ps : List Str) (sp : Sp) : Prop where
  ex : ∃ (f : Addr) (fd : FuncData), FnG P w K mg base k f fd ps sp ∧ mg x = some (.ref f) ∧ PySem.W.keepIn K (.ref f) = true ∧ Binds K fd ps []
section
variable {P : Program} {w : World} {K : PySem.W.Frag} {mg : Str → Option Value} {base : Heap} {k : Nat} {f c : Addr} {N ps : List Str} {sp : Sp} {x qual : Str} {st : Stmt} {fd : FuncData}
theorem FunT.okG (F : FunT K x qual st f fd c) (S : FnScope N ps (defScope st)) (len : ∀ vs H Q, sp vs H Q E0 → vs.length = ps.length)
    (hbody : ∀ (A : Around) (outer : List Env) (s : Shared) (H : Hp) (vs : List V) (Q : VK), A.guards = some [] → Room k (A.deeper (envOfC qual (defScope st) s.heap.objs.size f (.ref c))) → sp vs H Q E0 →
      ∃ t, PSs (cxOf CX0 P w K mg base N qual (defScope st) f (.ref c) A outer s H E0) (defBody st) t ∧ t { nx := fun _ H' => Q .non H', rt := Q } (start N vs) H) : FnG P w K mg base (k + 1) f fd ps sp := by
  obtain ⟨oc, od, kV, doc, pm, an, ct, osl, rfl, lk, hcd⟩ := F.ex
  refine ⟨len, fun A outer s H args us vs Q hg room env0 bind rel want => ?_⟩
  have inK : K.In s.heap := env0.mod.kin.keeps fun b o e => (env0.bs b o e).1
  have noLim : s.heap.NoLimit := env0.mod.nolimit.keeps fun b o e => (env0.bs b o e).1
  have kinds : ∀ y ∈ ps.zip us, (defScope st).names.lookup y.1 = some .local ∨ ((defScope st).names.lookup y.1 = some .cell ∧ ((cellsFrom (s.heap.objs.size + 1) (defScope st).names []).lookup y.1).isSome = true) := by
    rintro ⟨n, v⟩ hy
    have := S.par n (List.of_mem_zip hy).1
    exact this.imp id fun q => ⟨q, PySem.W.cellsFrom_some _ _ _ (.inl q)⟩
  refine codeAny_call_function room.depth (inK _ _ lk) rfl S.co S.gen rfl (PySem.W.codeRec_of inK hcd) (bind _ _ _ _ ?_)
  refine wpAny_newFunctionEnv_cells S.kind kinds ?_
  rintro env rfl s1 made
  refine ⟨noLim.keeps made.toInCall.keep, codeAny_func ?_⟩
  obtain ⟨t, ht, hq⟩ := hbody A outer s H vs Q hg (room.deeper _) want
  have I := inv_start (CX := CX0) (E := E0) S room.hd env0 (len _ _ _ want) rel made
  refine wpAny_mono (ht.run [] s1 (start N vs) H _ I hq) ?_ fun _ _ z => z
  have done : ∀ {σ' : L2.St} {H' : Hp} {s' : Shared} {v : V} {u : Value}, Inv (cxOf CX0 P w K mg base N qual (defScope st) f (.ref c) A outer s H E0) [] σ' H' s' → RelV v u → Q v H' → CE outer P w H s Q u s' :=
    fun {_ H' _ v _} J rv q => ⟨v, H', J.os, J.bare, J.base, J.hok, rv, q⟩
  rintro (_ | _ | _ | u) s' hs
  all_goals first
    | (obtain ⟨v, σ', H', J, rv, q⟩ := hs; exact done J rv q)
    | (obtain ⟨σ', H', J, q⟩ := hs; exact done (v := V.non) (u := Value.none) J rfl q)
    | (obtain ⟨_, _, _, q⟩ := hs; exact q.elim)
end
section
variable {X : Cx} {k j : Nat} {x : Str} {ps : List Str} {sp : Sp} {e : Expr} {es : List Expr} {t : TA} {p pos : Pos}
theorem pe_fnG (F : Fng X.prog X.w X.K X.mg X.base k x ps sp) (hG : X.A.guards = some []) (hr : Room j X.A) (hk : k ≤ j) (ha : PA X (e :: es) t) (hg : Gl X x := by rfl) (hdb : (x == ("__debug__" : Str)) = false := by decide)
    (he : starEach (e :: es) X.env = (false, eval e X.env) :: starEach es X.env := by rfl) (hpl : (backTo pos (starEach es X.env)).any (·.1) = false := by rfl) : PE X (.Call (.Name x p) (e :: es) [] pos) (tCall sp [] E0 t) := by
  obtain ⟨f, fd, G, m, kp, b⟩ := F.ex
  refine ⟨fun pins s σ H Q I h => ?_⟩
  refine wpAny_Call_Name_kw (ld_glob I hg m ?_ hdb)
  refine PySem.W.callWith_K (h₀ := X.base) I.ok.mod.kin kp (thn (ha.run pos pins s σ H _ I h) fun us s1 ⟨vs, H1, I1, r, q⟩ => ⟨I1.kIn, ?_⟩) he hpl
  have q : sp vs H1 Q E0 := by
    have q' : sp (vs ++ []) H1 Q E0 := q
    rw [List.append_nil] at q'
    exact q'
  have hl : us.length = ps.length := by rw [← r.length]; exact G.len _ _ _ q
  have bb := b s1 us I1.kIn (by rw [List.append_nil]; exact hl)
  rw [List.append_nil] at bb
  refine wpAny_call (codeAny_mono (G.run X.A X.stack s1 H1 ⟨us, []⟩ us vs Q hG (hr.mono hk) I1.env0 bb r q) ?_)
  rintro (err | fl) s' hq
  · exact hq.elim
  · rcases fl with _ | _ | _ | u
    all_goals first
      | exact I1.after hq
      | exact hq.elim
end
end SL
set_option Elab.async false
set_option linter.all false
set_option maxRecDepth 100000
set_option maxHeartbeats 2000000
/-! own words, 12: repr of data -/
namespace SL
open PySem PySem.Spec PyProof.Rows L2 GxR NdefX GA
/-- repr(v), v bearing data -/
def rRepr : List V → Hp → VK → Prop := fun xs H Q => ∃ (v : V) (M : List Addr) (d : PyData) (n : Nat), xs = [v] ∧ Dv M H v d ∧ nice n d = true ∧ n.log2 < 1920 ∧ wt d ≤ 4000000 ∧ d.depth ≤ 100 ∧ Q (.str d.shown) H
section
variable {X : Cx} {k : Nat} {a : Expr} {ta : TE} {p pos : Pos}
theorem cr_repr (hG : X.A.guards = some []) (hr : Room k X.A) (hm : ∃ o, X.base.get? sysModules = some o) : CallR X (.builtin "repr") rRepr := by
  intro pins s σ H xs us Q I r h
  obtain ⟨v, M, d, n, rfl, hv, hn, hl, hw, hd, q⟩ := h
  obtain ⟨u, rfl, ru⟩ := vals1 r
  have hln := shown_le hn
  have hz : d.shown.length ≤ sizeLine := by rw [sizeLine_eq]; omega
  have hs := showable_of hl hn
  obtain ⟨o, ho⟩ := hm
  have hfree : H sysModules = none := (I.bs _ _ ho).2
  obtain ⟨as, rd, tr⟩ := hv.reads I.hok ru
  have hno : sysModules ∉ as := fun m => tr _ m hfree
  have fin : ∀ h' u' tk, (∀ b o, s.heap.get? b = some o → h'.get? b = some o) → EP X pins σ Q (.str d.shown u') { s with heap := h', toks := tk } := fun h' u' tk hk => ⟨.str d.shown, H, I.kept (t' := tk) hk, ⟨_, rfl⟩, q⟩
  cases rd with
  | none => exact PySem.P.repr_of_none (fin s.heap _ _ fun _ _ e => e)
  | bool b =>
    refine PySem.P.repr_of_bool ?_
    have := fin s.heap s.toks (s.toks + 1) fun _ _ e => e
    simpa only [PyData.shown] using this
  | int i t =>
    refine PySem.P.repr_of_int (by simpa only [PyData.showable, decide_eq_true_eq] using hs) ?_
    have := fin s.heap s.toks (s.toks + 1) fun _ _ e => e
    simpa only [PyData.shown] using this
  | str x t =>
    refine PySem.P.repr_of_str ?_ (by simpa only [PyData.shown] using hz)
    have := fin s.heap s.toks (s.toks + 1) fun _ _ e => e
    simpa only [PyData.shown] using this
  | list h1 h2 h3 h4 => exact repr_of_reads' (.list h1 h2 h3 h4) hs (fun _ => hno) hG (by have := hr.un; omega) (fun _ _ e => e) (fun h' u tk hk => fin h' u tk hk) hz
  | tuple h1 h2 h3 h4 => exact repr_of_reads' (.tuple h1 h2 h3 h4) hs (fun _ => hno) hG (by have := hr.un; omega) (fun _ _ e => e) (fun h' u tk hk => fin h' u tk hk) hz
  | dict h1 h2 h3 h4 h5 => exact repr_of_reads' (.dict h1 h2 h3 h4 h5) hs (fun _ => hno) hG (by have := hr.un; omega) (fun _ _ e => e) (fun h' u tk hk => fin h' u tk hk) hz
theorem pe_repr (B : Bl X.mg) (hG : X.A.guards = some []) (hr : Room k X.A) (hm : ∃ o, X.base.get? sysModules = some o) (ha : PE X a ta) (h1 : Gl X "repr" := by rfl) (he : starEach (a :: []) X.env = (false, eval a X.env) :: starEach [] X.env := by rfl) :
    PE X (.Call (.Name "repr" p) [a] [] pos) (tCB rRepr (tCons ta tNil)) := pe_callB (cr_repr hG hr hm) h1 B.repr (by decide +kernel) (pa_cons ha pa_nil he) (by decide) (by decide) he
end
end SL
set_option Elab.async false
set_option linter.all false
set_option maxRecDepth 100000
set_option maxHeartbeats 2000000
/-! own words, 13: xs != [], t != (), t * k -/
namespace SL
open PySem PySem.Spec PyProof.Rows L2 GxR NdefX GA
section
variable {X : Cx}
/-- xs != ys, ys empty -/
def rNeNil (K : PySem.W.Frag) : R2 := fun x y H Q => ∃ a b xs, x = .ref a ∧ y = .ref b ∧ ((SqL K H a xs ∧ SqL K H b []) ∨ (SqT K H a xs ∧ SqT K H b [])) ∧ Q (.bl (!xs.isEmpty)) H
theorem op_neNil (hu : X.A.units < cLine) : OpR X (compareOp .NotEq) (rNeNil X.K) := by
  intro pins s σ H x y v u Q I rx ry h
  obtain ⟨a, b, xs, rfl, rfl, h, q⟩ := h
  cases rx
  cases ry
  show wpAny _ _ (richCompare .NotEq (.ref a) (.ref b)) _ _ _
  have fin : EP X pins σ Q (.bool (!xs.isEmpty)) s := ⟨.bl _, H, I, rfl, q⟩
  rcases h with ⟨h1, h2⟩ | ⟨h1, h2⟩
  · obtain ⟨its, r, p, _⟩ := I.list h1
    obtain ⟨its2, r2, p2, _⟩ := I.list h2
    cases r2
    obtain ⟨o, n, g, c, _, dd⟩ := p
    obtain ⟨o2, n2, g2, c2, _, dd2⟩ := p2
    have l1 : s.heap.IsList a its.toArray := ⟨o, g, c, n, dd⟩
    have l2 : s.heap.IsList b ([] : List Value).toArray := ⟨o2, g2, c2, n2, dd2⟩
    cases r with
    | nil => exact PySem.SeqAt.RcNeAt.lists l1 l2 rfl hu (e := fun _ => true) (fun j hj _ => absurd hj (Nat.not_lt_zero _)) _ _ _ _ fin
    | cons _ _ => exact PySem.SeqAt.RcNeAt.lists_lengths l1 l2 rfl hu _ _ _ _ fin
  · obtain ⟨its, r, ⟨o, g, c, n, dd⟩, _⟩ := I.tuple h1
    obtain ⟨its2, r2, ⟨o2, g2, c2, n2, dd2⟩, _⟩ := I.tuple h2
    cases r2
    have l1 : s.heap.IsTuple a its.toArray := ⟨o, g, c, n, dd⟩
    have l2 : s.heap.IsTuple b ([] : List Value).toArray := ⟨o2, g2, c2, n2, dd2⟩
    refine PySem.SeqAt.RcNeAt.tuples l1 l2 hu (e := fun _ => true) (fun j _ hj => absurd hj (Nat.not_lt_zero _)) _ _ _ _ ?_
    cases r with
    | nil => exact fin
    | cons _ _ => simpa using fin
/-- t * k, k being 2 or 3; the empty tuple is itself -/
def rTimes (K : PySem.W.Frag) : R2 := fun x y H Q => ∃ l k xs, x = .ref l ∧ y = .int k ∧ SqT K H l xs ∧ 2 ≤ k ∧ k ≤ 3 ∧ xs.length ≤ 2000000 ∧ (xs = [] → Q (.ref l) H) ∧ (xs ≠ [] → ∀ p, H p = none → Q (.ref p) (upd H p (.tup (List.replicate k.toNat xs).flatten)))
theorem mul_nil (l : Addr) (n : Nat) (dd : Option Addr) (sl : Array (Option Value)) (x : Int) (u : Tok) (c0 : (decide (x < -(2 ^ 63)) || decide (x ≥ 2 ^ 63)) = false) :
    Meets (Builtin.«tuple.__mul__» ⟨[.ref l, .int x u], []⟩) (fun _ R s => s.heap.get? l = some { cls := .type "tuple", dict := dd, data := .seq #[] n, slots := sl } ∧ R (.ok (.ret (.ref l))) s) :=
  .of_wp fun prog w A R s h => by
    obtain ⟨hp, g, d, tk, os⟩ := s
    obtain ⟨hl, h⟩ := h
    have f1 := AutoSeq1.idx_int
    wp_walk using wpAny_loadPart' hl
    repeat (first
      | (refine wpAny_ite_false (decide_eq_false (by rw [c0]; exact Bool.false_ne_true)) ?_; wp_walk using wpAny_loadPart' hl))
    exact ⟨_, rfl, h⟩
theorem op_times : OpR X (binaryOp .Mult) (rTimes X.K) := by
  intro pins s σ H x y v u Q I rx ry h
  obtain ⟨l, k, xs, rfl, rfl, hT, k2, k3, hz, q0, q1⟩ := h
  cases rx
  obtain ⟨t, rfl⟩ := ry
  obtain ⟨its, r, ⟨⟨cls, dd, data, sl⟩, ho, hc, n, hd⟩, _⟩ := I.tuple hT
  simp only at hc hd
  subst hc hd
  have hle : its.length = xs.length := r.length.symm
  have c0 : (decide (k < -(2 ^ 63)) || decide (k ≥ 2 ^ 63)) = false := by
    rw [decide_eq_false (by omega), decide_eq_false (by omega)] <;> rfl
  refine wpAny_binaryOp_repeat_ref (T := "tuple") (U := "int") (by decide) ⟨_, ho, rfl⟩ (fun s' => typeIs_int s' k t) noFill_tuple_mul F.fills_int_mul F.slot_int_rmul repeat_tuple F.slot_int_index.lookup
    (call_meets F.slot_int_rmul (typeIs_int s k t) F.entry_int_rmul (F.args_int_rmul_2 _ _) (int_rmul_tuple k t l its.toArray n dd sl) ⟨ho, rfl, ⟨_, ho, rfl⟩, ?_⟩)
  by_cases hne : xs = []
  · subst hne
    cases r
    exact call_meets F.slot_tuple_mul ⟨_, ho, rfl⟩ F.entry_tuple_mul (F.args_tuple_mul_2 _ _) (mul_nil l n dd sl k t c0) ⟨ho, .ref l, H, I, rfl, q0 rfl⟩
  · have hi : its.toArray.isEmpty = false := by
      cases r with
      | nil => exact absurd rfl hne
      | cons _ _ => rfl
    have hsz0 : its.toArray.size = xs.length := by rw [List.size_toArray, hle]
    have hm : ((its.toArray.size : Nat) : Int) * k ≤ 6000000 := by
      rw [hsz0]
      have a1 : ((xs.length : Nat) : Int) * k ≤ 2000000 * k := Int.mul_le_mul_of_nonneg_right (by omega) (by omega)
      omega
    have lim : k.toNat * xs.length ≤ 3 * 2000000 := Nat.mul_le_mul (by omega) hz
    have flen : (List.replicate k.toNat its).flatten.length ≤ sizeLine := by
      rw [PyProof.Rows.lm_len_rep_flat, hle, sizeLine_eq]
      omega
    have c1 : (its.toArray.isEmpty || k == 1) = false := by
      rw [hi, Bool.false_or]
      exact beq_eq_false_iff_ne.mpr (by omega)
    have c2 : (decide (k ≤ 0) || its.toArray.isEmpty) = false := by
      rw [hi, Bool.or_false]
      exact decide_eq_false (by omega)
    have c4 : Builtin.Tuple.tupleTooMany (((its.toArray.size : Nat) : Int) * k) = false := by
      unfold Builtin.Tuple.tupleTooMany
      rw [sizeLine_eq]
      exact decide_eq_false (by omega)
    refine call_meets F.slot_tuple_mul ⟨_, ho, rfl⟩ F.entry_tuple_mul (F.args_tuple_mul_2 _ _) (tuple_mulW l its.toArray n dd sl k t c0 c1 c2 (by omega) c4 (by rw [size_rep, List.size_toArray]; exact flen)) ⟨ho, ?_⟩
    rw [size_rep]
    refine ⟨.ref s.heap.objs.size, _, I.laid (t' := s.toks) (o := .tup (List.replicate k.toNat xs).flatten) (fun b ob q => Heap.get?_push_of_some _ q) (Nat.le_refl _) ?_, rfl, q1 hne _ (I.hok.fresh (Nat.le_refl _))⟩
    exact ⟨by rw [PyProof.Rows.lm_len_rep_flat, sizeLine_eq]; omega, _, r.rep k.toNat, IsTup.new _ _⟩
end
end SL
set_option Elab.async false
set_option linter.all false
set_option maxRecDepth 100000
set_option maxHeartbeats 2000000
/-! own words, 14: ascii texts -/
namespace SL
open PySem PySem.Spec PyProof.Rows L2 GxR NdefX GA
theorem asc_mem {x : Str} (h : asc x = true) : ∀ c ∈ x.cps.toList, c < 128 := fun c hc => of_decide_eq_true (List.all_eq_true.mp h c hc)
theorem asc_of {x : Str} (h : ∀ c ∈ x.cps.toList, c < 128) : asc x = true := List.all_eq_true.mpr fun c hc => decide_eq_true (h c hc)
theorem cps_add (x y : Str) : (x ++ y).cps.toList = x.cps.toList ++ y.cps.toList := by
  show (x.cps ++ y.cps).toList = _
  simp
theorem asc_add {x y : Str} (h : asc x = true) (k : asc y = true) : asc (x ++ y) = true := asc_of fun c hc => by
  rw [cps_add] at hc
  exact (List.mem_append.mp hc).elim (asc_mem h c) (asc_mem k c)
theorem asc_one {x : Str} {c : Nat} (h : asc x = true) (hc : c ∈ x.cps.toList) : asc ⟨#[c]⟩ = true := asc_of fun d hd => by
  have : d = c := by simpa using hd
  rw [this]
  exact asc_mem h c hc
theorem cutS_list (z : Str) (lo hi : Option Int) : (cutS z lo hi).cps.toList = (z.cps.toList.drop (HT.sIx z.length 0 lo)).take (HT.sIx z.length z.length hi - HT.sIx z.length 0 lo) := by
  unfold cutS
  simp
theorem len_list (z : Str) : z.length = z.cps.toList.length := by simp [Str.length]
theorem asc_cut {z : Str} (h : asc z = true) (lo hi : Option Int) : asc (cutS z lo hi) = true := asc_of fun c hc => by
  rw [cutS_list] at hc
  exact asc_mem h c (List.mem_of_mem_drop (List.mem_of_mem_take hc))
theorem len_cut (z : Str) (lo hi : Option Int) : (cutS z lo hi).length ≤ z.length := by
  rw [len_list, cutS_list, List.length_take, List.length_drop, ← len_list]
  omega
/-- z[1:10] has nine signs at most -/
theorem len_cut9 (z : Str) : (cutS z (some 1) (some 10)).length ≤ 9 := by
  have a := HT.sIx_nat z.length 0 1
  have b := HT.sIx_nat z.length z.length 10
  have a : HT.sIx z.length 0 (some 1) = min 1 z.length := a
  have b : HT.sIx z.length z.length (some 10) = min 10 z.length := b
  rw [len_list, cutS_list, List.length_take, List.length_drop, a, b, ← len_list]
  omega
theorem up_len {x : Str} (h : asc x = true) : (Txt.upper x).length = x.length ∧ asc (Txt.upper x) = true := by
  rw [PyProof.Rows.upper_ascii (asc_mem h)]
  refine ⟨by simp [Str.length], asc_of fun c hc => ?_⟩
  have hc : c ∈ (x.cps.map up1).toList := hc
  rw [Array.toList_map] at hc
  obtain ⟨d, hd, rfl⟩ := List.mem_map.mp hc
  have := asc_mem h d hd
  unfold up1
  split <;> omega
theorem lo_len {x : Str} (h : asc x = true) : (Txt.lower x).length = x.length ∧ asc (Txt.lower x) = true := by
  rw [PyProof.Rows.lower_ascii (asc_mem h)]
  refine ⟨by simp [Str.length], asc_of fun c hc => ?_⟩
  have hc : c ∈ (x.cps.map lo1).toList := hc
  rw [Array.toList_map] at hc
  obtain ⟨d, hd, rfl⟩ := List.mem_map.mp hc
  have := asc_mem h d hd
  unfold lo1
  split <;> omega
theorem join_nil (ys : List Str) : Txt.join (⟨#[]⟩ : Str) ys = Str.join ⟨#[]⟩ ys := eq_of_beq (join_closes rfl)
/-- texts of one sign each, joined -/
theorem join_ones : ∀ {ys : List Str}, (∀ y ∈ ys, y.length ≤ 1 ∧ asc y = true) → (Str.join ⟨#[]⟩ ys).length ≤ ys.length ∧ asc (Str.join ⟨#[]⟩ ys) = true
  | [], _ => ⟨Nat.le_refl _, rfl⟩
  | y :: r, h => by
    have ih := join_ones fun z hz => h z (List.mem_cons_of_mem _ hz)
    have hy := h y List.mem_cons_self
    rw [show Str.join ⟨#[]⟩ (y :: r) = y ++ Str.join ⟨#[]⟩ r from join_nil_cons y r]
    refine ⟨?_, asc_add hy.2 ih.2⟩
    rw [strLen_append, List.length_cons]
    omega
theorem str_400 : (List.range 400).all (fun k : Nat => asc (Str.ofString (toString (k : Int))) && decide ((Str.ofString (toString (k : Int))).length ≤ 3)) = true := by decide +kernel
theorem str_100 : ((List.range 100).map fun k : Nat => Str.ofString (toString (k : Int))).Nodup := by decide +kernel
end SL
set_option Elab.async false
set_option linter.all false
set_option maxRecDepth 100000
set_option maxHeartbeats 2000000
/-! own words, 15: a, b, c = x, y, z with three local names -/
namespace SL
open PySem PySem.Spec PyProof.Rows L2 GxR NdefX GA
def tPar3 (i j k : Nat) (ta : TA) : TS := fun D σ H => ta σ H fun vs H1 => ∃ u v w, vs = [u, v, w] ∧ D.nx (((σ.set k (some w)).set j (some v)).set i (some u)) H1
theorem ps_par3 {X : Cx} {i j k : Nat} {x y z : Str} {a b c : Expr} {ta : TA} {px py pz pt pos : Pos} {kt k2 pt2} (hc : X.calm = true) (hN : X.N.Nodup) (hi : X.N[i]? = some x) (hj : X.N[j]? = some y) (hk : X.N[k]? = some z)
    (hx : X.env.scope.names.lookup x = some .local) (hy : X.env.scope.names.lookup y = some .local) (hz : X.env.scope.names.lookup z = some .local) (ha : PA X [a, b, c] ta)
    (hw : swappedStores [.Tuple [.Name x px, .Name y py, .Name z pz] kt pt] (.Tuple [a, b, c] k2 pt2) X.env = pure (some [x, y, z]))
    (hs : swapsWithSole [.Tuple [.Name x px, .Name y py, .Name z pz] kt pt] (.Tuple [a, b, c] k2 pt2) pos.line X.env = pure false := by rfl) :
    PS X (.Assign [.Tuple [.Name x px, .Name y py, .Name z pz] kt pt] (.Tuple [a, b, c] k2 pt2) pos) (tPar3 i j k ta) := by
  refine ⟨fun pins s σ H D I h => ?_⟩
  rw [exec_Assign_arm]
  refine wpAny_bind (wpAny_standAt ?_)
  rw [hs]
  refine wpAny_bind (wpAny_pure ?_)
  rw [if_neg (by decide)]
  refine wpAny_bind (Tuple_ (thn (ha.run _ pins s σ H _ I h) fun us s1 hh => ?_))
  obtain ⟨vs, H1, I1, r1, u, v, w, rfl, q1⟩ := hh
  obtain ⟨u1, u2, u3, rfl, ru, rv, rw'⟩ : ∃ u1 u2 u3, us = [u1, u2, u3] ∧ RelV u u1 ∧ RelV v u2 ∧ RelV w u3 := by
    rcases r1 with _ | ⟨p, _ | ⟨p2, _ | ⟨p3, r⟩⟩⟩
    cases r
    exact ⟨_, _, _, rfl, p, p2, p3⟩
  refine wpAny_newObj_type ?_ (by show 3 ≤ sizeLine; decide)
  have I2 : Inv X pins σ H1 { s1 with heap := s1.heap.push { cls := .type "tuple", data := .seq [u1, u2, u3].toArray } } := I1.kept (t' := s1.toks) fun b o e => Heap.get?_push_of_some _ e
  rw [hw]
  refine wpAny_bind (wpAny_pure ?_)
  show wpAny (model X.prog X.w) X.A (do rule "assign.swapped-stores"; let items ← unpackItems (.ref s1.heap.objs.size) 3 none; assignInOrder [fun v => bindName X.env z v, fun v => bindName X.env y v, fun v => bindName X.env x v] items.reverse; pure Flow.next) _ _ _
  refine wpAny_bind (wpAny_rule (wpAny_bind (unpackItems_tuple (items := #[u1, u2, u3]) (I.ok.hd hc) (IsTup.new s1.heap _) fun h' hx' => ?_)))
  have I3 := I2.kept (h' := h') (t' := s1.toks) fun b o e => hx' b o (Nat.ne_of_lt (Heap.lt_size e)) e
  show wpAny _ _ (assignInOrder [fun v => bindName X.env z v, fun v => bindName X.env y v, fun v => bindName X.env x v] [u3, u2, u1] >>= fun _ => pure Flow.next) _ _ _
  refine wpAny_bind (assignInOrder_cons (wpAny_bindName (store_ok I3 hN hk (.inl hz) rw' (fun s2 I4 => ?_) (.inr hz))))
  refine assignInOrder_cons (wpAny_bindName (store_ok I4 hN hj (.inl hy) rv (fun s3 I5 => ?_) (.inr hy)))
  refine assignInOrder_cons (wpAny_bindName (store_ok I5 hN hi (.inl hx) ru (fun s4 I6 => assignInOrder_nil (wpAny_pure ?_)) (.inr hx)))
  exact ⟨_, _, I6, q1⟩
end SL
set_option Elab.async false
set_option linter.all false
set_option maxRecDepth 100000
set_option maxHeartbeats 2000000
/-! own words, 16: +, -, * with a whole number or a truth on the left; str of these -/
namespace SL
open PySem PySem.Spec PyProof.Rows L2 GxR NdefX GA
/-- a whole number or a truth, and as a number -/
def numV (x : V) (i : Int) : Prop := x = .int i ∨ ∃ b, x = .bl b ∧ i = if b = true then 1 else 0
section
variable {X : Cx}
def rNumI (C : Int → Int → Prop) (g : Int → Int → Int) : R2 := fun x y H Q => ∃ i j, numV x i ∧ y = .int j ∧ C i j ∧ Q (.int (g i j)) H
theorem op_addB : OpR X (binaryOp .Add) (rNumI (fun _ _ => True) (· + ·)) := by
  intro pins s σ H x y v u Q I rx ry h
  obtain ⟨i, j, hx, rfl, _, q⟩ := h
  obtain ⟨t, rfl⟩ := ry
  have fin : EP X pins σ Q (.int (i + j) s.toks) { s with toks := s.toks + 1 } := ⟨.int (i + j), H, I.tok _, ⟨_, rfl⟩, q⟩
  rcases hx with rfl | ⟨b, rfl, rfl⟩
  · obtain ⟨t', rfl⟩ := rx
    exact add_int fin
  · cases rx
    exact IntBool.add_bool_int fin
theorem op_subB : OpR X (binaryOp .Sub) (rNumI (fun _ _ => True) (· - ·)) := by
  intro pins s σ H x y v u Q I rx ry h
  obtain ⟨i, j, hx, rfl, _, q⟩ := h
  obtain ⟨t, rfl⟩ := ry
  have fin : EP X pins σ Q (.int (i - j) s.toks) { s with toks := s.toks + 1 } := ⟨.int (i - j), H, I.tok _, ⟨_, rfl⟩, q⟩
  rcases hx with rfl | ⟨b, rfl, rfl⟩
  · obtain ⟨t', rfl⟩ := rx
    exact sub_int fin
  · cases rx
    exact IntBool.sub_bool_int fin
theorem op_mulB : OpR X (binaryOp .Mult) (rNumI CMul (· * ·)) := by
  intro pins s σ H x y v u Q I rx ry h
  obtain ⟨i, j, hx, rfl, hc, q⟩ := h
  obtain ⟨t, rfl⟩ := ry
  have fin : EP X pins σ Q (.int (i * j) s.toks) { s with toks := s.toks + 1 } := ⟨.int (i * j), H, I.tok _, ⟨_, rfl⟩, q⟩
  rcases hx with rfl | ⟨b, rfl, rfl⟩
  · obtain ⟨t', rfl⟩ := rx
    exact mul_int fin hc.ok
  · cases rx
    exact IntBool.mul_bool_int fin
theorem neg_bool {prog : Program} {w : World} {A : Around} {E : Value → Shared → Prop} {s : Shared} {b : Bool} {Q : Value → Shared → Prop} (h : Q (.int (-(if b = true then 1 else 0)) s.toks) { s with toks := s.toks + 1 }) : wpAny (model prog w) A (unaryOp .USub (.bool b)) Q E s := by
  refine unaryOp_gives (op := .USub) (PySem.typeIs_bool s b) rfl F.slot_bool_neg F.entry_int_neg (F.args_int_neg_1 _) (m := Made.int (-(if b = true then 1 else 0))) (by cases b <;> exact .of_eq rfl) h
def rNegB : V → Hp → VK → Prop := fun x H Q => ∃ i, numV x i ∧ Q (.int (-i)) H
theorem un_negB {X : Cx} : UnR X (unaryOp .USub) rNegB := by
  intro pins s σ H x v Q I rx h
  obtain ⟨i, hx, q⟩ := h
  have fin : EP X pins σ Q (.int (-i) s.toks) { s with toks := s.toks + 1 } := ⟨.int (-i), H, I.tok _, ⟨_, rfl⟩, q⟩
  rcases hx with rfl | ⟨b, rfl, rfl⟩
  · obtain ⟨t', rfl⟩ := rx
    exact neg_int fin
  · cases rx
    exact neg_bool fin
/-- str(x) of a whole number or a truth: some ascii text -/
def rStrN : List V → Hp → VK → Prop := fun xs H Q => (∃ i, xs = [.int i] ∧ i.natAbs.log2 < 1920 ∧ Q (.str (toString i)) H) ∨ ∃ b, xs = [.bl b] ∧ Q (.str (if b = true then "True" else "False")) H
theorem cr_strN : CallR X (.type "str") rStrN := by
  intro pins s σ H xs us Q I r h
  rcases h with ⟨i, rfl, hz, q⟩ | ⟨b, rfl, q⟩
  · exact call_str_int pins s σ H _ us Q I r ⟨i, rfl, hz, q⟩
  · obtain ⟨u, rfl, ru⟩ := vals1 r
    cases ru
    exact PySem.P.str_of_bool ⟨.str _, H, I.tok _, ⟨_, rfl⟩, q⟩
end
end SL
set_option Elab.async false
set_option linter.all false
set_option maxRecDepth 100000
set_option maxHeartbeats 2000000
/-! own words, 17: parts of data lists: ints, depth, slices -/
namespace SL
open PySem PySem.Spec PyProof.Rows L2 GxR NdefX GA
theorem niceAll_iff {n : Nat} : ∀ {xs : List PyData}, niceAll n xs = true ↔ ∀ d ∈ xs, nice n d = true
  | [] => by simp [niceAll]
  | x :: xs => by
    simp only [niceAll, Bool.and_eq_true, List.mem_cons, forall_eq_or_imp]
    exact and_congr Iff.rfl niceAll_iff
theorem depthAll_le {D : Nat} : ∀ {xs : List PyData}, PyData.depthAll xs ≤ D ↔ ∀ d ∈ xs, d.depth ≤ D
  | [] => by simp [PyData.depthAll]
  | x :: xs => by
    have ih := depthAll_le (D := D) (xs := xs)
    simp only [PyData.depthAll, List.mem_cons, forall_eq_or_imp]
    rw [← ih]
    omega
theorem nice_tup {n : Nat} {xs : List PyData} : nice n (.tuple xs) = true ↔ ∀ d ∈ xs, nice n d = true := by
  simp only [nice]
  exact niceAll_iff
theorem nice_lst {n : Nat} {xs : List PyData} : nice n (.list xs) = true ↔ ∀ d ∈ xs, nice n d = true := by
  simp only [nice]
  exact niceAll_iff
theorem depth_tup {D : Nat} {xs : List PyData} : (PyData.tuple xs).depth ≤ D + 1 ↔ ∀ d ∈ xs, d.depth ≤ D := by
  rw [← depthAll_le]
  simp only [PyData.depth]
  omega
theorem depth_lst {D : Nat} {xs : List PyData} : (PyData.list xs).depth ≤ D + 1 ↔ ∀ d ∈ xs, d.depth ≤ D := by
  rw [← depthAll_le]
  simp only [PyData.depth]
  omega
theorem wt_tupl (xs : List PyData) : wt (.tuple xs) = wtAll xs + 4 := by simp only [wt]
theorem wt_lst (xs : List PyData) : wt (.list xs) = wtAll xs + 4 := by simp only [wt]
/-- the slice of data -/
def cutD (ds : List PyData) (lo hi : Option Int) : List PyData := (ds.drop (HT.sIx ds.length 0 lo)).take (HT.sIx ds.length ds.length hi - HT.sIx ds.length 0 lo)
theorem cutD_mem {ds : List PyData} {lo hi : Option Int} {d : PyData} (h : d ∈ cutD ds lo hi) : d ∈ ds := List.mem_of_mem_drop (List.mem_of_mem_take h)
theorem cutD_wt (ds : List PyData) (lo hi : Option Int) : wtAll (cutD ds lo hi) ≤ wtAll ds := Nat.le_trans (wtAll_take _ _) (wtAll_drop _ _)
theorem cutD_len (ds : List PyData) (lo hi : Option Int) : (cutD ds lo hi).length ≤ ds.length := by
  unfold cutD
  rw [List.length_take, List.length_drop]
  omega
theorem DvAll.cutD {M : List Addr} {H : Hp} {xs : List V} {ds : List PyData} (h : DvAll M H xs ds) (lo hi : Option Int) : DvAll M H (cutV xs lo hi) (cutD ds lo hi) := h.cut lo hi
theorem rep_mem {n : Nat} {ds : List PyData} {d : PyData} (h : d ∈ (List.replicate n ds).flatten) : d ∈ ds := by
  obtain ⟨l, hl, hd⟩ := List.mem_flatten.mp h
  rw [(List.mem_replicate.mp hl).2] at hd
  exact hd
theorem DvAll.rep {M : List Addr} {H : Hp} {xs : List V} {ds : List PyData} (h : DvAll M H xs ds) : ∀ n : Nat, DvAll M H (List.replicate n xs).flatten (List.replicate n ds).flatten
  | 0 => .nil
  | n + 1 => by
    rw [List.replicate_succ, List.flatten_cons, List.replicate_succ, List.flatten_cons]
    exact h.append (DvAll.rep h n)
theorem rep_wt (ds : List PyData) : ∀ n : Nat, wtAll (List.replicate n ds).flatten = n * wtAll ds
  | 0 => by simp [wtAll]
  | n + 1 => by
    rw [List.replicate_succ, List.flatten_cons, wtAll_append, rep_wt ds n, Nat.succ_mul]
    omega
theorem cutD_lo {ds : List PyData} {i : Nat} (h : i ≤ ds.length) : cutD ds none (some (i : Int)) = ds.take i := by
  unfold cutD
  rw [HT.sIx_none, HT.sIx_nat, List.drop_zero, Nat.sub_zero, Nat.min_eq_left h]
theorem cutD_hi {ds : List PyData} {i : Nat} (h : i ≤ ds.length) : cutD ds (some (i : Int)) none = ds.drop i := by
  unfold cutD
  rw [HT.sIx_none, HT.sIx_nat, Nat.min_eq_left h]
  exact List.take_of_length_le (by rw [List.length_drop]; omega)
theorem wt_around {ds : List PyData} {i : Nat} {d : PyData} (h : ds[i]? = some d) : wtAll (ds.take i) + (wt d + 2 + wtAll (ds.drop (i + 1))) = wtAll ds := by
  have hi : i < ds.length := (List.getElem?_eq_some_iff.mp h).1
  have e : ds.drop i = d :: ds.drop (i + 1) := by
    rw [List.drop_eq_getElem_cons hi]
    congr 1
    exact (List.getElem?_eq_some_iff.mp h).2
  have w := wtAll_append (ds.take i) (ds.drop i)
  rw [List.take_append_drop, e] at w
  simp only [wtAll] at w
  omega
end SL
set_option Elab.async false
set_option linter.all false
set_option maxRecDepth 100000
set_option maxHeartbeats 2000000
/-! own words, 18: the law's def called where no guard is about, beside tables of code objects -/
namespace SL
open PySem PySem.Spec PyProof.Rows L2 GxR NdefX GA
abbrev scrO (us : List Value) : Obj := { cls := .type "list", data := .seq us.toArray }
abbrev tblO : Obj := { cls := .none, data := .fields #[] }
/-- where the law is called: the written part, the names, code objects cs with their empty tables, the script -/
structure Stand (K : PySem.W.Frag) (mg mb : Str → Option Value) (cs : List (Addr × Addr)) (s : Shared) (a : Addr) (us : List Value) (ns : List Int) : Prop where
  kin : K.In s.heap
  glo : s.heap.Ns mainGlobals mg
  blt : s.heap.Ns builtinsNs mb
  boot : ∀ y : Str, y ≠ "__name__" → mb y = bootBuiltins y
  lim : s.heap.NoLimit
  gens : s.gens = #[]
  tab : ∀ p ∈ cs, s.heap.get? p.2 = some tblO
  tabK : ∀ p ∈ cs, K.lookup p.2 = none
  code : ∀ p ∈ cs, PySem.W.CodeHd s.heap p.1 p.2
  bm : ∃ (m : Addr) (ob : Obj), mg "__builtins__" = some (.ref m) ∧ m ≠ builtinsNs ∧ s.heap.get? m = some ob ∧ ob.cls = .type "module" ∧ ob.dict = some builtinsNs ∧ ob.data = .plain
  scr : s.heap.get? a = some (scrO us)
  mods : ∃ m, s.heap.Ns sysModules m
  nums : IntsAre us ns
  short : ns.length ≤ sizeLine
/-- what is tracked there: the tables; the script, unless the top has written it -/
def trk0 (K : PySem.W.Frag) (cs : List (Addr × Addr)) (a : Addr) (us : List Value) (ns : List Int) : Hp := fun b =>
  if b ∈ cs.map (·.2) then some (.tbl #[]) else if b = a ∧ (K.lookup a).isNone = true then some (.frz (scrO us) (.lst (ns.map V.int))) else none
section
variable {P : Program} {w : World} {K : PySem.W.Frag} {mg mb : Str → Option Value} {cs : List (Addr × Addr)} {s : Shared} {a b : Addr} {us : List Value} {ns : List Int} {o : Obj} {u : HO}
theorem trk0_tab {p : Addr × Addr} (h : p ∈ cs) : trk0 K cs a us ns p.2 = some (.tbl #[]) := if_pos (List.mem_map_of_mem h)
theorem Stand.cases (S : Stand K mg mb cs s a us ns) (h : trk0 K cs a us ns b = some u) :
    (u = .tbl #[] ∧ s.heap.get? b = some tblO ∧ ∃ p ∈ cs, p.2 = b) ∨ (u = .frz (scrO us) (.lst (ns.map V.int)) ∧ b = a ∧ K.lookup a = none) := by
  unfold trk0 at h
  split at h
  · rename_i m
    obtain ⟨p, hp, e⟩ := List.mem_map.mp m
    cases h
    exact .inl ⟨rfl, by rw [← e]; exact S.tab p hp, p, hp, e⟩
  · split at h
    · rename_i m
      cases h
      exact .inr ⟨rfl, m.1, by simpa using m.2⟩
    · cases h
/-- what is neither a list nor a table is not tracked -/
theorem Stand.off (S : Stand K mg mb cs s a us ns) (e : s.heap.get? b = some o) (n1 : ∀ vs n, o.data ≠ .seq vs n) (n2 : o.data ≠ .fields #[]) : trk0 K cs a us ns b = none := by
  cases q : trk0 K cs a us ns b with
  | none => rfl
  | some u =>
    rcases S.cases q with ⟨_, e2, _⟩ | ⟨_, rfl, _⟩
    · rw [e] at e2
      cases e2
      exact absurd rfl n2
    · rw [S.scr] at e
      cases e
      exact absurd rfl (n1 _ _)
theorem Stand.base (S : Stand K mg mb cs s a us ns) (e : s.heap.get? b = some o) (n1 : ∀ vs n, o.data ≠ .seq vs n) (n2 : o.data ≠ .fields #[]) : (hidT s.heap (trk0 K cs a us ns)).get? b = some o := hidT_get e (S.off e n1 n2)
theorem Stand.named (S : Stand K mg mb cs s a us ns) {g : Addr} {m : Str → Option Value} (h : s.heap.Ns g m) : (hidT s.heap (trk0 K cs a us ns)).Ns g m := by
  obtain ⟨o, es, ep, e, d, r⟩ := h
  exact ⟨o, es, ep, S.base e (by rw [d]; intro _ _ z; cases z) (by rw [d]; intro z; cases z), d, r⟩
theorem Stand.kinB (S : Stand K mg mb cs s a us ns) : K.In (hidT s.heap (trk0 K cs a us ns)) := fun b o e => by
  refine hidT_get (S.kin b o e) ?_
  cases q : trk0 K cs a us ns b with
  | none => rfl
  | some u =>
    rcases S.cases q with ⟨_, _, p, hp, rfl⟩ | ⟨_, rfl, k⟩
    · rw [S.tabK p hp] at e
      cases e
    · rw [k] at e
      cases e
theorem Stand.mod (S : Stand K mg mb cs s a us ns) : L2.Mod K mg (hidT s.heap (trk0 K cs a us ns)) := by
  obtain ⟨mc, l1, l2⟩ := S.lim
  exact ⟨S.kinB, S.named S.glo, ⟨mb, S.named S.blt, S.boot⟩, mc, S.named l1, l2⟩
theorem Stand.tabB (S : Stand K mg mb cs s a us ns) {p : Addr × Addr} (hp : p ∈ cs) : GxR.TabB (hidT s.heap (trk0 K cs a us ns)) mg p.1 p.2 := by
  have ht := S.tab p hp
  refine ⟨?_, ?_, ?_⟩
  · obtain ⟨o, vs, file, tf, flags, tg, inF, text, tt, e, r1, r2, r3, r⟩ := S.code p hp
    refine ⟨o, vs, file, tf, flags, tg, inF, text, tt, S.base e (by rw [r2]; intro _ _ z; cases z) ?_, r1, r2, r3, r⟩
    rw [r2]
    intro z
    cases z
    simp at r3
  · obtain ⟨m, ob, b1, b2, b3, b4, b5, b6⟩ := S.bm
    refine ⟨m, ob, b1, b2, ?_, ?_, S.base b3 (by rw [b6]; intro _ _ z; cases z) (by rw [b6]; intro z; cases z), b4, b5, b6⟩
    · rintro rfl
      obtain ⟨o, es, ep, e, d, _⟩ := S.glo
      rw [b3] at e
      cases e
      rw [b6] at d
      cases d
    · rintro rfl
      rw [ht] at b3
      cases b3
      cases b6
  · intro z
    obtain ⟨o, es, ep, e, d, _⟩ := S.glo
    rw [z, ht] at e
    cases e
    cases d
theorem Stand.hok (S : Stand K mg mb cs s a us ns) : HOk P w (trk0 K cs a us ns) s.heap := fun b u h => by
  rcases S.cases h with ⟨rfl, e, _⟩ | ⟨rfl, rfl, _⟩
  · exact e
  · exact ⟨S.scr, by rw [List.length_map]; exact S.short, us, _, vals_ints S.nums, S.scr⟩
theorem Stand.sq (S : Stand K mg mb cs s a us ns) : SqL K (trk0 K cs a us ns) a (ns.map V.int) := by
  have na : a ∉ cs.map (·.2) := fun m => by
    obtain ⟨p, hp, e⟩ := List.mem_map.mp m
    have t := S.tab p hp
    rw [e, S.scr] at t
    cases t
  cases k : K.lookup a with
  | none => exact .inl (.inr ⟨scrO us, (if_neg na).trans (if_pos ⟨rfl, by rw [k] <;> rfl⟩)⟩)
  | some o =>
    have e := S.kin a o k
    rw [S.scr] at e
    cases e
    exact .inr ⟨_, us.toArray, _, k, rfl, rfl, rfl, by rw [List.size_toArray, S.nums.length]; exact S.short, by simpa using vals_ints S.nums⟩
theorem Stand.env (S : Stand K mg mb cs s a us ns) : Env0 P w K mg (hidT s.heap (trk0 K cs a us ns)) callerA [] s (trk0 K cs a us ns) where
  frames := rfl
  mod := S.mod
  bs := fun _ _ e => of_hidT e
  bsz := Nat.le_of_eq (hidT_size _ _)
  funs := trivial
  frf := fun _ h => absurd h List.not_mem_nil
  hok := S.hok
  bare := .of_eq S.gens
/-- what stood before stands behind the call, the tables grown -/
theorem Stand.old (S : Stand K mg mb cs s a us ns) {s' : Shared} {H' : Hp} (un : Un [] [] (trk0 K cs a us ns) H' s.heap s'.heap) (ok : HOk P w H' s'.heap) : OldK s.heap s'.heap := by
  have grown : ∀ p ∈ cs, ∃ more : Array Value, s'.heap.get? p.2 = some { cls := .none, data := .fields more } := fun p hp => by
    obtain ⟨more, e⟩ := un.tbls p.2 #[] (trk0_tab hp)
    exact ⟨_, ok _ _ e⟩
  have each : ∀ b o, s.heap.get? b = some o → s'.heap.get? b = some o ∨ ∃ p ∈ cs, p.2 = b := fun b o e => by
    cases q : trk0 K cs a us ns b with
    | none => exact .inl (un.keep b o e q List.not_mem_nil List.not_mem_nil)
    | some u =>
      rcases S.cases q with ⟨_, _, h⟩ | ⟨rfl, rfl, _⟩
      · exact .inr h
      · refine .inl ?_
        have k := (ok _ _ (un.frzs _ _ _ q)).1
        rw [S.scr] at e
        cases e
        exact k
  refine ⟨fun b o e => ?_, fun b o e => ?_⟩
  · rcases each b o e with h | ⟨p, hp, rfl⟩
    · exact .inl h
    · obtain ⟨more, hm⟩ := grown p hp
      rw [S.tab p hp] at e
      cases e
      exact .inr (.inl ⟨((S.code p hp).tab (S.tab p hp)).isCodeTable, rfl, #[], more, rfl, by rw [Array.empty_append]; exact hm⟩)
  · rcases each b o e with h | ⟨p, hp, rfl⟩
    · exact ⟨o, h⟩
    · obtain ⟨more, hm⟩ := grown p hp
      exact ⟨_, hm⟩
/-- the call gives True -/
theorem Stand.run (S : Stand K mg mb cs s a us ns) {k : Nat} {fa : Addr} {fd : FuncData} {x : Str} {sp : Sp} (hr : Room k callerA) (F : ∀ base : Heap, K.In base → base.Ns mainGlobals mg → (∃ o, base.get? sysModules = some o) → (∀ p ∈ cs, GxR.TabB base mg p.1 p.2) → FnG P w K mg base k fa fd [x] sp)
    (hb : ∀ (t : Shared) (v : Value), BindsTo t fd ⟨[v], []⟩ [(x, v)]) (hsp : ∀ H : Hp, (∀ p ∈ cs, H p.2 = some (.tbl #[])) → SqL K H a (ns.map V.int) → sp [.ref a] H (fun v _ => v = .bl true) E0) :
    codeAny (model P w) callerA (.call (.ref fa) ⟨[.ref a], []⟩) (fun r s' => r = .ok (.ret (.bool true)) ∧ OldK s.heap s'.heap ∧ s'.os = s.os ∧ AllBare s'.gens) s := by
  obtain ⟨m, hm⟩ := S.mods
  obtain ⟨ob, _, _, eb, _⟩ := S.named hm
  have G := F _ S.kinB (S.named S.glo) ⟨ob, eb⟩ fun p hp => S.tabB hp
  have go := G.run callerA [] s (trk0 K cs a us ns) ⟨[.ref a], []⟩ [.ref a] [.ref a] _ rfl hr S.env (hb s (.ref a)) (.cons rfl .nil) (hsp _ (fun _ hp => trk0_tab hp) S.sq)
  refine codeAny_mono go ?_
  rintro (err | fl) s' h
  · exact False.elim h
  · rcases fl with _ | _ | _ | v
    · exact False.elim h
    · exact False.elim h
    · exact False.elim h
    · obtain ⟨y, H', os, bare, un, ok, rel, rfl⟩ := h
      cases rel
      exact ⟨rfl, S.old un ok, os, bare⟩
end
/-- the law's row, once its def is shown to give True -/
theorem walkG {l : PySem.W.OpenLaw} {n k : Nat} {q : Program} {loose : List Str} {XP : (Str → Option Value) → Heap → Prop} {YP : World → Heap → Prop} {d : DefRec} {K : Params → PySem.W.Frag} {x : Str}
    (hn : l.most = some n) (hn2 : n ≤ sizeLine) (hdf : d.params.defaults = []) (hq : importsNone q = true) (hr : Room k callerA) (hY : ∀ (w : World) (h : Heap), YP w h → (K w.params).In h)
    (F : ∀ (w : World) (mg : Str → Option Value) (fa : Addr) (h : Heap), (K w.params).In h → h.Ns mainGlobals mg → mg d.name = some (.ref fa) →
      (∀ (e : DefRec) (y : Str) (c Q : Addr), (recsOf q).find? (fun r => r.name == y) = some e → PySem.W.tabIn (K w.params) y = some (c, Q) → PySem.W.CodeHd h c Q ∧ h.get? Q = some tblO) →
      ∃ (fd : FuncData) (cs : List (Addr × Addr)) (sp : Sp), (∀ p ∈ cs, h.get? p.2 = some tblO ∧ (K w.params).lookup p.2 = none ∧ PySem.W.CodeHd h p.1 p.2) ∧ (∀ (t : Shared) (v : Value), BindsTo t fd ⟨[v], []⟩ [(x, v)]) ∧
        (∀ (H : Hp) (a : Addr) (ns : List Int), ns.length ≤ n → (∀ p ∈ cs, H p.2 = some (.tbl #[])) → SqL (K w.params) H a (ns.map V.int) → sp [.ref a] H (fun v _ => v = .bl true) E0) ∧
        ∀ base : Heap, (K w.params).In base → base.Ns mainGlobals mg → (∃ o, base.get? sysModules = some o) → (∀ p ∈ cs, GxR.TabB base mg p.1 p.2) → FnG l.prog w (K w.params) mg base k fa fd [x] sp) :
    PySem.W.WalkO q loose XP YP l.row.toRowW d [] (fun f vs => PySem.call f vs) := by
  refine Att.attach_callB hn hdf fun w s₀ s₁ mg mb fa o pm cd doc a us ns G Y _ _ _ hmg hobj hints hlen _ hg => ?_
  have KX := hY w _ Y
  obtain ⟨fd, cs, sp, ht, hb, hsp, hF⟩ := F w mg fa _ KX G.T.g hmg fun e y c Q h1 h2 => PySem.W.tab_of G.T KX h1 h2
  obtain ⟨mm, hmm, _⟩ := (G.T.seer hq).mods
  have S : Stand (K w.params) mg mb cs s₁ a us ns := ⟨KX, G.T.g, G.T.b, G.T.builtins, G.T.nolimit, hg, fun p hp => (ht p hp).1, fun p hp => (ht p hp).2.1, fun p hp => (ht p hp).2.2, G.T.bmain, hobj, ⟨mm, hmm⟩, hints, Nat.le_trans hlen hn2⟩
  exact S.run hr hF hb fun H h1 h2 => hsp H a ns hlen h1 h2
end SL
set_option Elab.async false
set_option linter.all false
set_option maxRecDepth 100000
set_option maxHeartbeats 2000000
/-! own words, 19: enumerate of a tuple -/
namespace SL
open PySem PySem.Spec PyProof.Rows L2 GxR NdefX GA
open AutoSeq1 (wpAny_loadPart')
/-- the pairs of places and items of the tuple at a -/
def ItN (K : PySem.W.Frag) (a : Addr) : It where
  go := fun i H => ∃ xs x, SqT K H a xs ∧ xs[i]? = some x
  yld := fun i H v G => ∃ p x, v = .ref p ∧ H p = none ∧ G = upd H p (.tup [.int (i : Nat), x]) ∧ ∀ xs, SqT K H a xs → xs[i]? = some x
  stop := fun i H => ∃ xs, SqT K H a xs ∧ xs.length ≤ i
theorem enumT_new (a : Addr) (us : Array Value) (n : Nat) (dd : Option Addr) (ss : Array (Option Value)) :
    Meets (Builtin.«enumerate.__new__» ⟨[.type "enumerate", .ref a], []⟩) (fun _ G t => t.heap.get? a = some { cls := .type "tuple", dict := dd, data := .seq us n, slots := ss } ∧
      G (.ok (.ret (.ref (t.heap.push { cls := .type "tuple_iterator", data := .fields #[.ref a, .int 0 0] }).objs.size)))
        { t with heap := (t.heap.push { cls := .type "tuple_iterator", data := .fields #[.ref a, .int 0 0] }).push { cls := .type "enumerate", data := .fields #[.none, .bool false, .ref t.heap.objs.size, rawInt 0, .none, .none] } }) :=
  .of_wp fun pr wd ar G t z => by
    obtain ⟨hh, gg, dr, to, oo⟩ := t
    obtain ⟨ha, z⟩ := z
    have h1 := sub_enumerate
    have h2 : Heap.IsTuple (Shared.heap ⟨hh, gg, dr, to, oo⟩) a us := ⟨_, ha, rfl, n, rfl⟩
    wp_walk using wpAny_loadPart' ha
    refine wpAny_stack_any fun _ => wpAny_pure ?_
    split
    · rename_i c _ _ _ _ _
      by_cases e : (c == Value.type "enumerate") = true
      all_goals first
        | simp only [e]
        | skip
      all_goals
        wp_walk using wpAny_loadPart' ha, wpAny_pyIter_tuple h2
        exact ⟨_, rfl, z⟩
    · wp_walk using wpAny_loadPart' ha, wpAny_pyIter_tuple h2
      exact ⟨_, rfl, z⟩
section
variable {prog : Program} {w : World} {A : Around} {E : Value → Shared → Prop} {s : Shared}
theorem call_enumT {a : Addr} {us : Array Value} {Q : Value → Shared → Prop} (h : s.heap.IsTuple a us)
    (q : ∀ h', IsEnum h' (s.heap.objs.size + 1) s.heap.objs.size 0 .none → h'.IsTupleIter s.heap.objs.size a 0 → (∀ b o, s.heap.get? b = some o → h'.get? b = some o) → Q (.ref (s.heap.objs.size + 1)) { s with heap := h' }) :
    wpAny (model prog w) A (call (.type "enumerate") [.ref a]) Q E s := by
  obtain ⟨⟨c, dd, dt, ss⟩, g, e1, n, e2⟩ := h
  simp only at e1 e2
  subst e1 e2
  refine callType_new F.called_enumerate (by decide) (F.typeCall_enumerate_1 _) (F.newCall_enumerate_1 _) (fun z => F.args_object_init_2 z _) F.entry_enumerate_new (enumT_new a us n dd ss) ⟨g, ?_⟩
  obtain ⟨h1, eh⟩ : ∃ h1, h1 = s.heap.push { cls := .type "tuple_iterator", data := .fields #[.ref a, .int 0 0] } := ⟨_, rfl⟩
  have z1 : h1.objs.size = s.heap.objs.size + 1 := by rw [eh]; exact Heap.size_push ..
  have g1 : h1.get? s.heap.objs.size = some { cls := .type "tuple_iterator", data := .fields #[.ref a, .int 0 0] } := by rw [eh]; exact Heap.get?_push_size _ rfl
  have k1 : ∀ b o, s.heap.get? b = some o → h1.get? b = some o := fun b o x => by rw [eh]; exact Heap.get?_push_of_some _ x
  rw [← eh]
  show _ ∧ _
  rw [z1]
  have en := Heap.get?_push_size h1 (o := { cls := .type "enumerate", data := .fields #[.none, .bool false, .ref s.heap.objs.size, rawInt 0, .none, .none] }) rfl
  rw [z1] at en
  exact ⟨⟨_, en, rfl⟩, q _ en ⟨_, Heap.get?_push_of_some _ g1, rfl, rfl⟩ fun b o x => Heap.get?_push_of_some _ (k1 b o x)⟩
end
theorem turnN {P : Program} {w : World} {K : PySem.W.Frag} {elts : List Expr} {kk : Nat} {tpos : Pos} (a e it : Addr) :
    Turn P w K (.Tuple elts kk tpos) (ItN K a) [e, it] e (fun i h => (∃ old, IsEnum h e it ((i : Nat) : Int) old) ∧ h.IsTupleIter it a i ∧ e ≠ it) where
  mem := List.mem_cons_self
  obj := fun i h st b hb => by
    obtain ⟨⟨_, he⟩, ⟨o, ho, _, hd⟩, _⟩ := st
    rcases List.mem_cons.mp hb with rfl | hb
    · exact ⟨_, he, fun v z => nomatch z⟩
    · rw [List.mem_singleton.mp hb]
      exact ⟨o, ho, fun v z => by rw [hd] at z; cases z⟩
  keep := fun i h h' st k => by
    obtain ⟨⟨old, he⟩, hi, hne⟩ := st
    exact ⟨⟨old, k e List.mem_cons_self _ he⟩, hi.at fun o z => k it (by simp) o z, hne⟩
  item := by
    intro X hP hw hK hc i pins s σ H E I hf st hg
    subst hP hw hK
    obtain ⟨⟨old, he⟩, hit, hne⟩ := st
    obtain ⟨xs, x, hq, hx⟩ := hg
    obtain ⟨its, rv, pt, _⟩ := I.tuple hq
    obtain ⟨u, hu, ru⟩ := rv.get hx
    have tup : s.heap.IsTuple a its.toArray := by
      obtain ⟨o, g, c, n, d⟩ := pt
      exact ⟨o, g, c, n, d⟩
    have ai : a ≠ it := by
      rintro rfl
      obtain ⟨o, g, c, _⟩ := tup
      obtain ⟨o', g', c', _⟩ := hit
      rw [g] at g'
      cases g'
      rw [c] at c'
      exact absurd c' (by decide)
    have ae : e ∉ [it, a] := fun z => by
      rcases List.mem_cons.mp z with z | z
      · exact hne z
      · obtain ⟨o, g, c, _⟩ := tup
        rw [← List.mem_singleton.mp z, he] at g
        cases g
        have c' : Value.type "enumerate" = .type "tuple" := c
        exact absurd c' (by decide)
    have lte : e < s.heap.objs.size := Heap.lt_size he
    have lti : it < s.heap.objs.size := by
      obtain ⟨_, z, _⟩ := hit
      exact Heap.lt_size z
    have hi : i < its.toArray.size := by
      rw [List.size_toArray]
      exact (List.getElem?_eq_some_iff.mp hu).1
    refine wpAny_pyNext_enum_itemD (Draws.tuple (show X.A.in1.handled = none from I.ok.hd hc) it a ai its.toArray) he ⟨hit, tup⟩ hi hne ae fun v h' tk hv ho ⟨hit', _⟩ hT _ hk => ?_
    have ev : v = u := by
      have hv' : its[i]? = some v := by simpa using hv
      rw [hu] at hv'
      exact (Option.some.inj hv').symm
    subst ev
    refine ⟨_, rfl, wpAny_letOwnedTupleGo_enum (s := { s with heap := h', toks := tk + 1 }) ho fun h2 he2 sb => ?_⟩
    have onT : h2.get? s.heap.objs.size = some { cls := .type "tuple", data := .seq #[.int i tk, v] } := (sb.2 _ (Nat.ne_of_gt lte)).trans hT
    obtain ⟨G, eG⟩ : ∃ G, G = upd H s.heap.objs.size (.tup [.int (i : Nat), x]) := ⟨_, rfl⟩
    have fit : ObjOk X.prog X.w G h2 s.heap.objs.size (.tup [.int (i : Nat), x]) := ⟨by show 2 ≤ sizeLine; decide, [.int i tk, v], .cons ⟨_, rfl⟩ (.cons ru .nil), _, onT, rfl, _, rfl⟩
    have J : Inv X pins σ G { s with heap := h2, toks := tk + 1 } := by
      rw [eG] at fit ⊢
      refine I.turnedNew (ch := [e, it]) (fun b ob hb z => ?_) hf (Nat.le_refl _) fit
      have b1 : b ≠ e := fun y => hb (by simp [y])
      have b2 : b ≠ it := fun y => hb (by simp [y])
      exact (sb.2 b b1).trans (hk b ob b1 b2 z)
    refine ⟨.ref s.heap.objs.size, G, J, rfl, ⟨_, x, rfl, I.hok.fresh (Nat.le_refl _), eG, fun ys hy => by rw [I.tuple_inj hy hq]; exact hx⟩, ⟨⟨v, ?_⟩, hit'.at fun o z => (sb.2 it hne.symm).trans z, hne⟩, fun b hb => ?_⟩
    · have : ((i + 1 : Nat) : Int) = (i : Int) + 1 := by omega
      rw [this]
      exact he2
    · have lt : b < s.heap.objs.size := by
        rcases List.mem_cons.mp hb with rfl | hb
        · exact lte
        · rw [List.mem_singleton.mp hb]
          exact lti
      rw [eG, upd_ne (Nat.ne_of_lt lt)]
      exact (hf b hb).1
  done := by
    intro X hP hw hK hc i pins s σ H E I hf st hg
    subst hP hw hK
    obtain ⟨⟨old, he⟩, hit, hne⟩ := st
    obtain ⟨xs, hq, hx⟩ := hg
    obtain ⟨its, rv, pt, _⟩ := I.tuple hq
    have tup : s.heap.IsTuple a its.toArray := by
      obtain ⟨o, g, c, n, d⟩ := pt
      exact ⟨o, g, c, n, d⟩
    obtain ⟨f0, f1, _, f3, f4, f5⟩ := hf it (by simp)
    have none_ : its.toArray[i]? = none := by
      have hl := rv.length
      simp
      omega
    have D : Draws X.prog X.w X.A.in1 it [it, a] i (fun _ _ => True) (fun j h => j = i ∧ h.IsTupleIter it a i ∧ h.IsTuple a its.toArray) :=
      { live := fun _ _ z => let ⟨o, ho, _⟩ := z.2.1; ⟨o, ho⟩
        frame := fun _ _ _ z k => ⟨z.1, z.2.1.at fun o y => k it (by simp) o y, z.2.2.at fun o y => k a (by simp) o y⟩
        item := fun j s Q E lt z _ => absurd z.1 (Nat.ne_of_lt lt)
        done := fun s Q E z hE => wpAny_nextOf_tuple_end (show X.A.in1.handled = none from I.ok.hd hc) z.2.1 z.2.2 none_ hE }
    exact wpAny_pyNext_enum_endD D he ⟨rfl, hit, tup⟩ fun h' eb => ⟨rfl, I.turned (t' := s.toks) (fun b o hb z => eb b o hb z) f0 f1 f3 f4 f5⟩
  self := fun A i s Q E st h => by
    obtain ⟨⟨_, he⟩, _⟩ := st
    exact wpAny_pyIter_enum he h
def iEnumT (K : PySem.W.Frag) (ta : TA) : TI := fun σ H R => ta σ H fun vs G => ∃ a xs, vs = [.ref a] ∧ SqT K G a xs ∧ R (ItN K a) G
theorem pi_enumT {X : Cx} {e : Expr} {ta : TA} {p pos tpos : Pos} {elts : List Expr} {kk : Nat} (hm : X.mg "enumerate" = none) (ha : PA X [e] ta) (hg : Gl X "enumerate" := by rfl) (hs : starEach [e] X.env = [(false, eval e X.env)] := by rfl) :
    PI X (.Tuple elts kk tpos) (.Call (.Name "enumerate" p) [e] [] pos) (iEnumT X.K ta) := by
  constructor
  intro pins s σ H R I h
  refine Call_ (ld_blt I hg hm boot_enumerate (PyProof.Rows.callWith_type1 (thn (ha.run pos pins s σ H _ I h) fun us s1 z => ?_) hs rfl))
  obtain ⟨vs, H1, J, r1, a, xs, rfl, hq, q⟩ := z
  obtain ⟨u, rfl, ru⟩ := vals1 r1
  cases ru
  obtain ⟨its, _, ⟨o, g, c, n, d⟩, _⟩ := J.tuple hq
  refine call_enumT ⟨o, g, c, n, d⟩ fun h' he hit hk => wpAny_pyIter_enum he ?_
  have I2 : Inv X pins σ H1 { s1 with heap := h' } := J.kept (t' := s1.toks) hk
  refine ⟨s1.heap.objs.size + 1, [s1.heap.objs.size + 1, s1.heap.objs.size], _, _, H1, rfl, I2, turnN a (s1.heap.objs.size + 1) s1.heap.objs.size, ⟨⟨.none, he⟩, hit, Nat.succ_ne_self _⟩, fun b hb => ?_, q⟩
  have le : s1.heap.objs.size ≤ b := by
    rcases List.mem_cons.mp hb with rfl | hb
    · exact Nat.le_succ _
    · rw [List.mem_singleton.mp hb]
      exact Nat.le_refl _
  exact J.fpOk le (J.hok.fresh le)
/-- its walk -/
theorem walkN {K : PySem.W.Frag} {a : Addr} {xs : List V} : Walk (ItN K a) xs.length (fun H => SqT K H a xs) (fun i H v G => ∃ p x, v = .ref p ∧ H p = none ∧ G = upd H p (.tup [.int (i : Nat), x]) ∧ xs[i]? = some x) :=
  ⟨fun i _ hi q => ⟨xs, xs[i], q, by simp [hi]⟩, fun _ q => ⟨xs, q, Nat.le_refl _⟩, fun _ _ _ _ _ q ⟨p, x, e1, e2, e3, e4⟩ => ⟨p, x, e1, e2, e3, e4 xs q⟩⟩
end SL
set_option Elab.async false
set_option linter.all false
set_option maxRecDepth 100000
set_option maxHeartbeats 4000000
/-! own words, 20: a dict comprehension of two clauses without tests -/
namespace SL
open PySem PySem.Spec PyProof.Rows L2 GxR NdefX GA
abbrev two (kx vx t0 i0 t1 i1 : Expr) (sc : Scope) (pos : Pos) : Expr := .DictComp kx vx [⟨t0, i0, [], 0⟩, ⟨t1, i1, [], 0⟩] sc pos
section
variable {P : Program} {w : World} {A : Around} {R : Result → Shared → Prop} {s : Shared} {kx vx t0 i0 t1 i1 : Expr} {sc : Scope} {pos : Pos} {it : Value} {D : Addr} {env : Env}
abbrev Nv {α : Type} (P : Program) (w : World) (A : Around) (t : Sem α) (Q : α → Shared → Prop) (s : Shared) : Prop := wpAny (model P w) A t Q (fun _ _ => False) s
/-- the first clause's loop -/
theorem two_out (hs : ∀ x, foldedSetIterable i1 env x = pure x) (I : Nat → Shared → Prop)
    (turn : ∀ n s, I n s → Nv P w A (pyNext it) (fun r s1 => match r with
      | none => R (.ok .next) s1
      | some v => Nv P w A (letOwnedTupleGo t0 it v) (fun _ s2 => Nv P w A (assign t0 env v) (fun _ s3 => Nv P w A (eval i1 env) (fun x s4 => Nv P w A (pyIter x) (fun j s5 =>
          codeAny (model P w) A (.compStart (two kx vx t0 i0 t1 i1 sc pos) 1 j (.ref D) env) (fun r s' => match r with
            | .ok _ => ∃ m, m < n ∧ I m s'
            | .error _ => False) s5) s4) s3) s2) s1) s) (n : Nat) (h : I n s) : codeAny (model P w) A (.compLoop (two kx vx t0 i0 t1 i1 sc pos) 0 it (.ref D) env) R s := by
  refine codeAny_loop rfl I (fun n s hI => ?_) n h
  show wpAny _ A ((compTurn (two kx vx t0 i0 t1 i1 sc pos) 0 it (.ref D) env).onRaise (fun x => do noteFrame x env; theTreesLotGoes x)) _ _ s
  refine wpAny_noted ?_
  have e : compTurn (two kx vx t0 i0 t1 i1 sc pos) 0 it (.ref D) env = (do
      standAt i0.pos
      let r ← pyNext it
      match r with
      | none => pure (.done .next)
      | some v => do
        letOwnedTupleGo t0 it v
        assign t0 env v
        let ok ← forIn ([] : List Expr) true fun c r => if r = true then do let ok ← isTrue c env (eval c env); pure (ForInStep.yield ok) else pure (ForInStep.yield r)
        if ok = true then do
          let x ← eval i1 env
          standAt i1.pos
          let x ← foldedSetIterable i1 env x
          let _ ← runOwn (.compStart (two kx vx t0 i0 t1 i1 sc pos) 1 (← holding [x] (pyIter x)) (.ref D) env) env
          again (.compLoop (two kx vx t0 i0 t1 i1 sc pos) 0 it (.ref D) env)
        else again (.compLoop (two kx vx t0 i0 t1 i1 sc pos) 0 it (.ref D) env)) := by rfl
  rw [e]
  refine wpAny_bind (wpAny_standAt (wpAny_bind (thnF (turn n s hI) fun r s1 h1 => ?_)))
  cases r with
  | none => exact wpAny_pure h1
  | some v =>
    refine wpAny_bind (thnF h1 fun _ s2 h2 => wpAny_bind (thnF h2 fun _ s3 h3 => wpAny_bind (wpAny_tests_nil ?_)))
    rw [if_pos rfl]
    refine wpAny_bind (thnF h3 fun x s4 h4 => wpAny_bind (wpAny_standAt (wpAny_bind (wpAny_of_eq (hs x) (wpAny_bind (wpAny_holding (thnF h4 fun j s5 h5 => ?_)))))))
    refine wpAny_bind (wpAny_runOwn ?_)
    rw [Around.mark_none]
    refine codeAny_mono h5 fun r s' hr => ?_
    cases r with
    | ok f => exact wpAny_pure ⟨rfl, hr⟩
    | error e => exact hr.elim
/-- the second clause's loop -/
theorem two_in (I : Nat → Shared → Prop)
    (turn : ∀ n s, I n s → Nv P w A (pyNext it) (fun r s1 => match r with
      | none => R (.ok .next) s1
      | some v => Nv P w A (letOwnedTupleGo t1 it v) (fun _ s2 => Nv P w A (assign t1 env v) (fun _ s3 => Nv P w A (eval kx env) (fun u s4 => Nv P w A (eval vx env) (fun z s5 => Nv P w A (dictSet D u z) (fun _ s6 => ∃ m, m < n ∧ I m s6) s5) s4) s3) s2) s1) s)
    (n : Nat) (h : I n s) : codeAny (model P w) A (.compLoop (two kx vx t0 i0 t1 i1 sc pos) 1 it (.ref D) env) R s := by
  refine codeAny_loop rfl I (fun n s hI => ?_) n h
  show wpAny _ A ((compTurn (two kx vx t0 i0 t1 i1 sc pos) 1 it (.ref D) env).onRaise (fun x => do noteFrame x env; theTreesLotGoes x)) _ _ s
  refine wpAny_noted ?_
  have e : compTurn (two kx vx t0 i0 t1 i1 sc pos) 1 it (.ref D) env = (do
      standAt i1.pos
      let r ← pyNext it
      match r with
      | none => pure (.done .next)
      | some v => do
        letOwnedTupleGo t1 it v
        assign t1 env v
        let ok ← forIn ([] : List Expr) true fun c r => if r = true then do let ok ← isTrue c env (eval c env); pure (ForInStep.yield ok) else pure (ForInStep.yield r)
        if ok = true then do
          (do
            let u ← eval kx env
            let z ← holding [u] (eval vx env)
            standAt { kx.pos with endLine := vx.pos.endLine, endCol := vx.pos.endCol }
            holding [u, z] (dictSet D u z))
          again (.compLoop (two kx vx t0 i0 t1 i1 sc pos) 1 it (.ref D) env)
        else again (.compLoop (two kx vx t0 i0 t1 i1 sc pos) 1 it (.ref D) env)) := by rfl
  rw [e]
  refine wpAny_bind (wpAny_standAt (wpAny_bind (thnF (turn n s hI) fun r s1 h1 => ?_)))
  cases r with
  | none => exact wpAny_pure h1
  | some v =>
    refine wpAny_bind (thnF h1 fun _ s2 h2 => wpAny_bind (thnF h2 fun _ s3 h3 => wpAny_bind (wpAny_tests_nil ?_)))
    rw [if_pos rfl]
    refine wpAny_bind (wpAny_bind (thnF h3 fun u s4 h4 => wpAny_bind (wpAny_holding (thnF h4 fun z s5 h5 => wpAny_bind (wpAny_standAt (wpAny_holding (thnF h5 fun _ s6 h6 => wpAny_pure ⟨rfl, h6⟩)))))))
theorem two_start (h0 : codeAny (model P w) A (.compLoop (two kx vx t0 i0 t1 i1 sc pos) 1 it (.ref D) env) R s)
    (h : Nv P w A (pyIter it) (fun j s' => codeAny (model P w) A (.compLoop (two kx vx t0 i0 t1 i1 sc pos) 1 j (.ref D) env) R s') s) :
    codeAny (model P w) A (.compStart (two kx vx t0 i0 t1 i1 sc pos) 1 it (.ref D) env) R s := by
  refine codeAny_of_tree ?_
  show wpAny _ _ ((compStart (two kx vx t0 i0 t1 i1 sc pos) 1 it (.ref D) env).onRaise (fun x => do noteFrame x env; standAt theWindowsPlace)) _ _ s
  refine wpAny_notedAt ?_
  unfold compStart
  show wpAny _ _ (ask >>= _) _ _ s
  refine wpAny_bind (wpAny_askSetting (wpAny_ite ?_))
  split
  · first
      | exact wpAny_pure ⟨rfl, h0⟩
      | exact wpAny_bind (wpAny_pure (wpAny_pure ⟨rfl, h0⟩))
  · refine wpAny_bind (wpAny_rule ?_)
    first
      | exact wpAny_bind (wpAny_standAt (wpAny_bind (thnF h fun _ _ z => wpAny_pure ⟨rfl, z⟩)))
      | (show wpAny _ _ (standAt i1.pos >>= _) _ _ s; exact wpAny_bind (wpAny_standAt (wpAny_bind (thnF h fun _ _ z => wpAny_pure ⟨rfl, z⟩))))
end
section
/-- where a block's loop is: its iterator stands at its i-th turn, what is tracked is as W has it -/
def Sit (Y : Cx) (pins : List (Addr × Obj)) (σ : L2.St) (tn : Nat → Heap → Prop) (fp : List Addr) (W : Nat → Nat → Hp → Prop) (n : Nat) (s : Shared) : Prop := ∃ i H, Inv Y pins σ H s ∧ tn i s.heap ∧ (∀ b ∈ fp, H b = none) ∧ W i n H
/-- one turn of it, up to the store; Bd: what the store has to end in -/
theorem sit_turn {Y : Cx} {pins : List (Addr × Obj)} {σ : L2.St} {tg : Expr} {J : It} {fp : List Addr} {it : Addr} {tn : Nat → Heap → Prop} {g : TG} {W : Nat → Nat → Hp → Prop} {QQ : Hp → Prop} {Bd : (Hp → Prop) → L2.St → Hp → Prop} {vs : List Nat}
    (hc : Y.calm = true) (hx : Y.xe = fun _ _ => False) (T : Turn Y.prog Y.w Y.K tg J fp it tn) (pg : PG Y tg g) (stat : ∀ {σ' : L2.St} {H' : Hp} {s' : Shared}, Inv Y pins σ' H' s' → (∀ b ∈ fp, H' b = none) → ∀ b ∈ fp, FpOk Y pins H' b)
    (turn : ∀ i m H, W i m H → (J.stop i H ∧ QQ H) ∨ (J.go i H ∧ ∃ Nx : Hp → Prop, (∀ H', Nx H' → ∃ m', m' < m ∧ W (i + 1) m' H') ∧ ∀ x H', J.yld i H x H' → g x σ H' fun σ2 H2 => wipe σ2 vs = σ ∧ Bd Nx σ2 H2)) {n : Nat} {s : Shared} (h : Sit Y pins σ tn fp W n s) :
    Nv Y.prog Y.w Y.A (pyNext (.ref it)) (fun r s1 => match r with
      | none => ∃ H, Inv Y pins σ H s1 ∧ QQ H
      | some v => Nv Y.prog Y.w Y.A (letOwnedTupleGo tg (.ref it) v) (fun _ s2 => Nv Y.prog Y.w Y.A (assign tg Y.env v) (fun _ s3 => ∃ (Nx : Hp → Prop) (σ3 : L2.St) (H3 : Hp) (ps : List (Addr × Obj)), Inv Y (pins ++ ps) σ3 H3 s3 ∧ wipe σ3 vs = σ ∧ Bd Nx σ3 H3 ∧
          ∀ (σ' : L2.St) (H' : Hp) (s' : Shared), Inv Y (pins ++ ps) σ' H' s' → σ.length = σ'.length → (∀ (j : Nat) v, σ[j]? = some (some v) → σ'[j]? = some (some v)) → Nx H' → ∃ m, m < n ∧ Sit Y pins σ tn fp W m s') s2) s1) s := by
  obtain ⟨i, H, I, st, hn, hw⟩ := h
  rcases turn i n H hw with ⟨stop, q⟩ | ⟨go, Nx, hNx, step⟩
  · refine thnF (T.done Y rfl rfl rfl hc i pins s σ H (fun _ _ => False) I (stat I hn) st stop) fun r s1 ⟨e, I1⟩ => ?_
    subst e
    exact ⟨H, I1, q⟩
  · refine thnF (T.item Y rfl rfl rfl hc i pins s σ H (fun _ _ => False) I (stat I hn) st go) fun r s1 ⟨u, e, h1⟩ => ?_
    subst e
    refine thnF h1 fun _ s2 ⟨x, H2, I2, rx, y, st2, n2⟩ => ?_
    have run := pg.run _ s2 σ H2 x u _ (I2.pinned (stat I2 n2) (T.obj _ _ st2)) rx (step x H2 y)
    rw [hx] at run
    refine thnF run fun _ s3 ⟨σ3, H3, I3, hw3, b3⟩ => ⟨Nx, σ3, H3, pinsAt fp s2.heap, I3, hw3, b3, fun σ' H' s' I' hl hk nx => ?_⟩
    obtain ⟨m', lt, w'⟩ := hNx H' nx
    have held : ∀ b ∈ fp, ∀ o, s2.heap.get? b = some o → s'.heap.get? b = some o ∧ H' b = none := fun b hb o e => by
      have z := I'.pin (b, o) (List.mem_append_right _ (List.mem_append_right _ (mem_pinsAt hb e)))
      exact ⟨z.1, z.2.1⟩
    refine ⟨m', lt, i + 1, H', I'.unpinned.weak hl hk, T.keep _ _ _ st2 fun b hb o e => (held b hb o e).1, fun b hb => ?_, w'⟩
    obtain ⟨o, e, _⟩ := T.obj _ _ st2 b hb
    exact (held b hb o e).2
end
section
variable {X : Cx}
/-- {k: v for t0 in i0 for t1 in i1}: D is the new dict; vs: the block's names, vs1: those of the second target -/
def tDc2 (wi : TI) (g : TG) (wi1 : TI) (g1 : TG) (tk tv : TE) (vs vs1 : List Nat) : TE := fun σ H Q => wi σ H fun J H1 => ∀ D, H1 D = none → ∃ W : Nat → Nat → Hp → Prop, (∃ m, W 0 m (upd H1 D (.dK []))) ∧ ∀ i m H, W i m H →
  (J.stop i H ∧ Q (.ref D) H) ∨ (J.go i H ∧ ∃ Nx : Hp → Prop, (∀ H', Nx H' → ∃ m', m' < m ∧ W (i + 1) m' H') ∧ ∀ x H', J.yld i H x H' → g x (wipe σ vs) H' fun σ2 H2 => wipe σ2 vs = wipe σ vs ∧
    wi1 σ2 H2 fun J1 H3 => ∃ W1 : Nat → Nat → Hp → Prop, (∃ m1, W1 0 m1 H3) ∧ ∀ j k H, W1 j k H →
      (J1.stop j H ∧ Nx H) ∨ (J1.go j H ∧ ∃ Nx1 : Hp → Prop, (∀ H', Nx1 H' → ∃ k', k' < k ∧ W1 (j + 1) k' H') ∧ ∀ y H', J1.yld j H y H' → g1 y (wipe σ2 vs1) H' fun σ4 H4 => wipe σ4 vs1 = wipe σ2 vs1 ∧
        tk σ4 H4 fun u H5 => tv σ4 H5 fun z H6 => ∃ kvs key, u = kV key ∧ H6 D = some (.dK kvs) ∧ kvs.length < sizeLine ∧ Nx1 (upd H6 D (.dK (putK kvs key z)))))
theorem pe_dc2 {kx vx t0 i0 t1 i1 : Expr} {scope : Scope} {own : List (Str × Nat)} {vs1 : List Nat} {pos : Pos} {wi wi1 : TI} {g g1 : TG} {tk tv : TE} (hc : X.calm = true) (hN : X.N.Nodup) (hi : PI X t0 i0 wi) (ok : BlkOk X.N X.env.scope scope own) (hv : ∀ i ∈ vs1, i ∈ own.map (·.2))
    (hg : ∀ s H C cl fp, PG (X.blk s H scope (compEnvC scope cl C X.env) fp) t0 g) (hi1 : ∀ s H C cl fp, PI (X.blk s H scope (compEnvC scope cl C X.env) fp) t1 i1 wi1) (hg1 : ∀ s H C cl fp, PG (X.blk s H scope (compEnvC scope cl C X.env) fp) t1 g1)
    (hk : ∀ s H C cl fp, PE (X.blk s H scope (compEnvC scope cl C X.env) fp) kx tk) (he : ∀ s H C cl fp, PE (X.blk s H scope (compEnvC scope cl C X.env) fp) vx tv)
    (hs : ∀ x, foldedSetIterable i0 X.env x = pure x := by intro _; rfl) (hs1 : ∀ env x, foldedSetIterable i1 env x = pure x := by intro _ _; rfl) : PE X (.DictComp kx vx [⟨t0, i0, [], 0⟩, ⟨t1, i1, [], 0⟩] scope pos) (tDc2 wi g wi1 g1 tk tv (own.map (·.2)) vs1) := by
  constructor
  intro pins s σ H Q I h
  rw [arm_eval_DictComp]
  have hfree : ∀ y ∈ scope.names, y.2 = .free → ∃ c, X.env.cells.lookup y.1 = some c := fun y hy e => (ok.free y hy e).elim (fun k => I.ok.has _ (.inl k)) fun k => I.ok.has _ (.inr k)
  refine wpAny_comprehension_free rfl hs (closure_ok hfree) ok.kind (fun y hy e => by rw [ok.uniq y hy, e]) (thn (hi.run pins s σ H _ I h) fun xv s1 hx => thn hx fun itv s2 h2 => ?_)
  obtain ⟨it, fp, tn, J, H2, rfl, I2, T, st2, f2, q⟩ := h2
  refine wpAny_newObj_type (newEnv_comp ?_)
  obtain ⟨D, hD⟩ : ∃ D, D = s2.heap.objs.size := ⟨_, rfl⟩
  have hDn : H2 D = none := I2.hok.fresh (Nat.le_of_eq hD.symm)
  obtain ⟨W, ⟨m0, w0⟩, turn⟩ := q D hDn
  rw [← hD]
  obtain ⟨H3, hH3⟩ : ∃ H3, H3 = upd H2 D (.dK []) := ⟨_, rfl⟩
  obtain ⟨s3, hs3⟩ : ∃ s3 : Shared, s3 = { s2 with heap := s2.heap.push { cls := .type "dict", data := .dict #[] } } := ⟨_, rfl⟩
  have h3 : s3.heap = s2.heap.push { cls := .type "dict", data := .dict #[] } := by rw [hs3]
  have I3 : Inv X pins σ H3 s3 := by
    rw [hs3, hH3]
    refine I2.laid (t' := s2.toks) (fun b o e => Heap.get?_push_of_some _ e) (Nat.le_of_eq hD.symm) ?_
    rw [hD]
    exact dk_empty s2.heap I2.big
  have f3 : ∀ b ∈ fp, FpOk X pins H3 b ∧ b < s3.heap.objs.size := fun b hb => by
    obtain ⟨o, e, _⟩ := T.obj _ _ st2 b hb
    have lt := Heap.lt_size e
    refine ⟨⟨?_, (f2 b hb).2⟩, by rw [h3, Heap.size_push]; exact Nat.lt_succ_of_lt lt⟩
    rw [hH3, upd_ne (by rw [hD]; exact Nat.ne_of_lt lt)]
    exact (f2 b hb).1
  have st3 : tn 0 s3.heap := T.keep _ _ _ st2 fun b _ o e => by rw [h3]; exact Heap.get?_push_of_some _ e
  have I4 := block_start I3 ok hN f3
  rw [← hs3]
  rw [← hH3] at w0
  obtain ⟨ce, hce⟩ : ∃ ce, ce = compEnvC scope (cellsFrom (s3.heap.objs.size + 1) scope.names (cloFrom X.env.cells scope.names [])) s3.heap.objs.size X.env := ⟨_, rfl⟩
  have pg : PG (X.blk s3 H3 scope ce fp) t0 g := by rw [hce]; exact hg ..
  have pi1 : PI (X.blk s3 H3 scope ce fp) t1 i1 wi1 := by rw [hce]; exact hi1 ..
  have pg1 : PG (X.blk s3 H3 scope ce fp) t1 g1 := by rw [hce]; exact hg1 ..
  have pk : PE (X.blk s3 H3 scope ce fp) kx tk := by rw [hce]; exact hk ..
  have pv : PE (X.blk s3 H3 scope ce fp) vx tv := by rw [hce]; exact he ..
  have cL : ce.locals = s3.heap.objs.size := by rw [hce]; rfl
  rw [← hce] at I4
  show codeAny _ _ (.compStart (two kx vx t0 i0 t1 i1 scope pos) 0 (.ref it) (.ref D) (compEnvC scope (cellsFrom (s3.heap.objs.size + 1) scope.names (cloFrom X.env.cells scope.names [])) s3.heap.objs.size X.env)) _ _
  rw [← hce]
  obtain ⟨s4, hs4⟩ : ∃ s4 : Shared, s4 = { s3 with heap := pushCells (s3.heap.push { cls := .type "dict", data := .dict #[] }) scope.names } := ⟨_, rfl⟩
  rw [← hs4] at I4
  show codeAny _ _ _ _ { s3 with heap := pushCells (s3.heap.push { cls := .type "dict", data := .dict #[] }) scope.names }
  rw [← hs4]
  have st4 : tn 0 s4.heap := T.keep _ _ _ st3 fun b _ o e => by rw [hs4]; exact pushCells_keeps _ _ _ _ (Heap.get?_push_of_some _ e)
  have stat : ∀ {σ' : L2.St} {H' : Hp} {s' : Shared}, Inv (X.blk s3 H3 scope ce fp) [] σ' H' s' → (∀ b ∈ fp, H' b = none) → ∀ b ∈ fp, FpOk (X.blk s3 H3 scope ce fp) [] H' b := fun {σ' H' s'} J' hn b hb => by
    have z := J'.ok.exf b hb
    exact ⟨hn b hb, z.1, J'.ok.exfs b hb, .inl hb, fun x c e => z.2 x c e, fun p hp => by cases hp⟩
  have loop : codeAny (model X.prog X.w) X.A (.compLoop (two kx vx t0 i0 t1 i1 scope pos) 0 (.ref it) (.ref D) ce) (compPost (model X.prog X.w) X.A X.xe none (EP X pins σ Q) (.ref D) s3.heap.objs.size) s4 := by
    refine two_out (hs1 ce) (Sit (X.blk s3 H3 scope ce fp) [] (wipe σ (own.map (·.2))) tn fp W) (fun n s5 S5 => ?_) m0 ⟨0, H3, I4, st4, fun b hb => (f3 b hb).1.1, w0⟩
    refine thnF (sit_turn (Y := X.blk s3 H3 scope ce fp) (vs := own.map (·.2)) hc rfl T pg stat turn S5) fun r s6 h6 => ?_
    cases r with
    | none =>
      obtain ⟨H6, I6, qq⟩ := h6
      have I7 : Inv X pins σ H6 s6 := I3.call' (ch := fp) I6.os I6.base I6.hok I6.bare fun b hb => by
        obtain ⟨⟨_, g1, g2, g3, g4, g5⟩, _⟩ := f3 b hb
        exact ⟨g3, g1, g4, g5⟩
      have nC : H6 s3.heap.objs.size = none := by
        rw [← cL]
        exact I6.free
      obtain ⟨m, hn, _⟩ := I6.loc
      have hn : s6.heap.Ns ce.locals m := hn
      rw [cL] at hn
      obtain ⟨g0, g1, g2, g3, g4, g5⟩ := I3.fpOk (H' := H6) (Nat.le_refl _) nC
      exact ⟨m, hn, fun h'' sb => ⟨.ref D, H6, I7.turned (t' := s6.toks) (fun b o hb e => (sb.2 b hb).trans e) g0 g1 g3 g4 g5, rfl, qq⟩⟩
    | some v =>
      refine thnF h6 fun _ s7 h7 => thnF h7 fun _ s8 ⟨Nx, σ8, H8, ps, I8, hw8, b8, fin⟩ => ?_
      refine thnF (pi1.run _ s8 σ8 H8 _ I8 b8) fun x s9 hx9 => thnF hx9 fun j s10 ⟨it1, fp1, tn1, J1, H10, e1, I10, T1, st10, f10, W1, ⟨m1, w1⟩, turn1⟩ => ?_
      subst e1
      have l8 : (wipe σ (own.map (·.2))).length = σ8.length := by rw [← hw8, wipe_length]
      have loop1 : codeAny (model X.prog X.w) X.A (.compLoop (two kx vx t0 i0 t1 i1 scope pos) 1 (.ref it1) (.ref D) ce) (fun r s' => match r with
          | .ok _ => ∃ m, m < n ∧ Sit (X.blk s3 H3 scope ce fp) [] (wipe σ (own.map (·.2))) tn fp W m s'
          | .error _ => False) s10 := by
        refine two_in (Sit (X.blk s3 H3 scope ce fp) ([] ++ ps) (wipe σ8 vs1) tn1 fp1 W1) (fun k s11 S11 => ?_) m1 ⟨0, H10, I10.weak (wipe_length _ _) (fun _ _ e => (wipe_some e).1), st10, fun b hb => (f10 b hb).1, w1⟩
        refine thnF (sit_turn (Y := X.blk s3 H3 scope ce fp) (vs := vs1) hc rfl T1 pg1 (fun {_ _ _} _ hn b hb => ⟨hn b hb, (f10 b hb).2⟩) turn1 S11) fun r s12 h12 => ?_
        cases r with
        | none =>
          obtain ⟨H12, I12, nx⟩ := h12
          refine fin _ H12 s12 I12 (l8.trans (wipe_length σ8 vs1).symm) (fun j v e => ?_) nx
          rw [← hw8] at e
          obtain ⟨e2, e3⟩ := wipe_some e
          rw [wipe_out fun z => e3 (hv j z)]
          exact e2
        | some v1 =>
          refine thnF h12 fun _ s13 h13 => thnF h13 fun _ s14 ⟨Nx1, σ14, H14, ps1, I14, hw14, b14, fin1⟩ => ?_
          refine thnF (pk.run _ s14 σ14 H14 _ I14 b14) fun u s15 ⟨yk, H15, I15, r15, b15⟩ => thnF (pv.run _ s15 σ14 H15 _ I15 b15) fun z s16 ⟨yv, H16, I16, r16, kvs, key, ek, hD16, hz16, nx⟩ => ?_
          subst ek
          refine d_dictSet (X := X.blk s3 H3 scope ce fp) I16 hD16 hz16 r15 r16 fun s17 I17 => fin1 _ _ s17 I17 (by rw [← hw14, wipe_length]) (fun j v e => ?_) nx
          rw [← hw14] at e
          exact (wipe_some e).1
      exact two_start loop1 (T1.self X.A 0 _ _ _ st10 loop1)
  exact codeAny_compStart_dict loop (T.self X.A 0 _ _ _ st4 loop)
end
end SL
set_option Elab.async false
set_option linter.all false
set_option maxRecDepth 100000
set_option maxHeartbeats 4000000
/-! own words, 21: xs.extend(t), t a tuple; walks of zip over tuples -/
namespace SL
open PySem PySem.Spec PyProof.Rows L2 GxR NdefX GA RZ
set_option maxRecDepth 8000 in
theorem ext_tup (l b : Addr) (us vs : Array Value) (n n2 : Nat) (dd : Option Addr) (ss : Array (Option Value)) (c0 : ¬(!us.isEmpty && Builtin.List.listTooLong (us.size + vs.size)) = true) (c1 : us.size ≤ sizeLine) (c2 : us.size + vs.size ≤ sizeLine + 1) :
    Meets (Builtin.«list.extend» ⟨[.ref l, .ref b], []⟩) (fun _ G t => t.heap.get? l = some { cls := .type "list", dict := none, data := .seq us n, slots := #[] } ∧ t.heap.get? b = some { cls := .type "tuple", dict := dd, data := .seq vs n2, slots := ss } ∧
      G (.ok (.ret Value.none)) { t with heap := t.heap.update l (Obj.mapSeq fun x => x ++ vs), toks := t.toks }) :=
  .of_wp fun pr wd ar G t z => by
    obtain ⟨hh, gg, dr, to, oo⟩ := t
    obtain ⟨hl, hb, z⟩ := z
    have z1 := AutoSeq1.idx_int
    have z2 := AutoSeq1.sub_tuple_tuple
    have z3 := AutoSeq1.sub_list_list
    have z4 := AutoSeq1.sub_tuple_list
    have z5 := AutoSeq1.sub_list_tuple
    have zz : (us ++ vs).size ≤ sizeLine + 1 := by rw [Array.size_append]; exact c2
    wp_walk using (wpAny_updateSeq hl rfl (hz := c1) (_hz' := zz)), AutoSeq1.wpAny_loadPart' hl, AutoSeq1.wpAny_loadPart' hb
    exact ⟨_, rfl, z⟩
def rExtT (K : PySem.W.Frag) : V → List V → Hp → VK → Prop := fun x vs H Q => ∃ l b xs zs, x = .ref l ∧ vs = [.ref b] ∧ H l = some (.lst xs) ∧ SqT K H b zs ∧ xs.length + zs.length ≤ sizeLine ∧ Q .non (upd H l (.lst (xs ++ zs)))
theorem mt_extT {X : Cx} : MtM X "list.extend" (rExtT X.K) := by
  intro pins s σ H x vs v us Q I rx rv h
  obtain ⟨l, b, xs, zs, rfl, rfl, hl, hb, hz, q⟩ := h
  cases rx
  obtain ⟨u, rfl, ru⟩ := rv.one
  cases ru
  obtain ⟨_, its, n, r, el, e⟩ := I.lstM hl
  obtain ⟨its2, r2, ⟨⟨cls, dd, data, ss⟩, e2, hc, n2, hd⟩, _⟩ := I.tuple hb
  simp only at hc hd
  subst hc hd
  have l2 := r2.length
  have sz : its.toArray.size + its2.toArray.size ≤ sizeLine := by
    rw [List.size_toArray, List.size_toArray]
    omega
  have long : ¬(!its.toArray.isEmpty && Builtin.List.listTooLong (its.toArray.size + its2.toArray.size)) = true := by
    rw [notLongL sz, Bool.and_false]
    exact Bool.false_ne_true
  refine call_meets F.slot_list_extend ⟨_, e, rfl⟩ F.entry_list_extend (F.args_list_extend_2 _ _) (ext_tup l b its.toArray its2.toArray n n2 dd ss long (by rw [List.size_toArray]; omega) (by omega)) ⟨e, e2, ?_⟩
  refine ⟨.non, _, I.lset (its' := its ++ its2) hl e (by simp) (r.append r2) ?_, rfl, q⟩
  rw [List.length_append]
  omega
/-- the walk of zip over two tuples of one length -/
theorem walkZ {K : PySem.W.Frag} {a b : Addr} {xs ys : List V} (hl : xs.length = ys.length) : Walk (ItzT K a b) xs.length (fun H => SqT K H a xs ∧ SqT K H b ys) (fun i H v G => ∃ p x y, v = .ref p ∧ H p = none ∧ G = upd H p (.tup [x, y]) ∧ xs[i]? = some x ∧ ys[i]? = some y) := by
  refine ⟨fun i H hi q => ?_, fun H q => ⟨xs, ys, q.1, q.2, .inl (Nat.le_refl _)⟩, fun i H v G hi q z => ?_⟩
  · exact ⟨xs, ys, xs[i], ys[i]'(by omega), q.1, q.2, by simp [hi], by simp [show i < ys.length by omega]⟩
  · obtain ⟨p, x, y, e1, e2, e3, e4, e5⟩ := z
    exact ⟨p, x, y, e1, e2, e3, e4 xs q.1, e5 ys q.2⟩
end SL
set_option Elab.async false
set_option linter.all false
set_option maxRecDepth 100000
set_option maxHeartbeats 2000000
/-! own words, 22: x is True, x no truth -/
namespace SL
open PySem PySem.Spec PyProof.Rows L2 GxR NdefX GA RZ
def rIsTr : R2 := fun x y H Q => ∃ b, y = .bl b ∧ (∀ c, x ≠ .bl c) ∧ Q (.bl false) H
theorem op_isTr {X : Cx} : OpR X (compareOp .Is) rIsTr := by
  intro pins s σ H x y v u Q I rx ry h
  obtain ⟨b, rfl, hx, q⟩ := h
  have fin : ∀ e : Bool, e = false → wpAny (model X.prog X.w) X.A (pure (Value.bool e) : Sem Value) (EP X pins σ Q) X.xe s := fun e he => by
    subst he
    exact wpAny_pure ⟨.bl false, H, I, rfl, q⟩
  cases ry
  cases x with
  | bl c => exact absurd rfl (hx c)
  | non => cases rx; exact fin (Value.none == Value.bool b) rfl
  | int i => obtain ⟨t, rfl⟩ := rx; exact fin (Value.int i t == Value.bool b) rfl
  | str i => obtain ⟨t, rfl⟩ := rx; exact fin (Value.str i t == Value.bool b) rfl
  | byt i => obtain ⟨t, rfl⟩ := rx; exact fin (Value.bytes i t == Value.bool b) rfl
  | flt i => obtain ⟨t, rfl⟩ := rx; exact fin (Value.float i t == Value.bool b) rfl
  | ref a => cases rx; exact fin (Value.ref a == Value.bool b) rfl
  | ty n => cases rx; exact fin (Value.type n == Value.bool b) rfl
end SL
set_option Elab.async false
set_option linter.all false
set_option maxRecDepth 100000
set_option maxHeartbeats 2000000
/-! own words, 23: tuple + tuple -/
namespace SL
open PySem PySem.Spec PyProof.Rows L2 GxR NdefX GA RZ
theorem catT_ok {K : PySem.W.Frag} {T M : List Addr} {H : Hp} {p q : Addr} {xs ys : List V} {Q : VK} (hp : H p = some (.tup xs)) (hq : H q = some (.tup ys)) (np : p ∉ M) (nq : q ∉ M) (hl : xs.length + ys.length ≤ 16777216) (fresh : ∀ r, H r = none → r ∉ M)
    (k : ∀ r H', H' r = some (.tup (xs ++ ys)) → r ∉ M → Go T [] H H' → Q (.ref r) H') : rCatA K (.ref p) (.ref q) H Q := by
  refine ⟨p, q, xs, ys, rfl, rfl, SqT.of hp, SqT.of hq, sz hl, fun e => ?_, fun _ e => ?_, fun _ _ r hr => k r _ upd_same (fresh r hr) (Go.new hr)⟩
  · subst e
    exact k q H hq nq Go.refl
  · subst e
    exact k p H (by rw [List.append_nil]; exact hp) np Go.refl
end SL
set_option Elab.async false
set_option linter.all false
set_option maxRecDepth 100000
set_option maxHeartbeats 2000000
/-! own words, 24: isinstance(x, list) -/
namespace SL
open PySem PySem.Spec PyProof.Rows L2 GxR NdefX GA RZ
def isList : PyData → Bool
  | .list _ => true
  | _ => false
theorem isi_list {M : List Addr} {H : Hp} {K : PySem.W.Frag} {v : V} {d : PyData} {Q : VK} (h : Dv M H v d) (q : Q (.bl (isList d)) H) : rIsi K [v, .ty "list"] H Q := by
  refine isi_of h ?_ q
  cases d <;> first
    | exact (by decide +kernel : kitB "NoneType" "list" = some false)
    | exact (by decide +kernel : kitB "bool" "list" = some false)
    | exact (by decide +kernel : kitB "int" "list" = some false)
    | exact (by decide +kernel : kitB "str" "list" = some false)
    | exact (by decide +kernel : kitB "list" "list" = some true)
    | exact (by decide +kernel : kitB "tuple" "list" = some false)
    | exact (by decide +kernel : kitB "dict" "list" = some false)
section
variable {X : Cx} {a : Expr} {ta : TE} {p q pos : Pos}
theorem call_isi_list : CallR X (.builtin "isinstance") (rIsiD "list" isList) := fun pins s σ H xs us Q I r ⟨x, M, d, e, h, q⟩ => call_isi pins s σ H xs us Q I r (by rw [e]; exact isi_list h q)
theorem pe_isi_list (B : Bl X.mg) (ha : PE X a ta) (h1 : Gl X "isinstance" := by rfl) (h2 : Gl X "list" := by rfl)
    (he : starEach (a :: [.Name "list" q]) X.env = (false, eval a X.env) :: starEach [.Name "list" q] X.env := by rfl) : PE X (.Call (.Name "isinstance" p) [a, .Name "list" q] [] pos) (tCB (rIsiD "list" isList) (tCons ta (tCons (tC (.ty "list")) tNil))) :=
  pe_callB call_isi_list h1 B.isinst (by decide +kernel) (pa_cons ha (pa_cons (pe_bltn (v := .ty "list") h2 B.list (by decide +kernel) rfl) pa_nil) he) (by decide) (by decide) he
end
end SL
set_option Elab.async false
set_option linter.all false
set_option maxRecDepth 100000
set_option maxHeartbeats 2000000
/-! own words, 25: xs == []; what stays but lists -/
namespace SL
open PySem PySem.Spec PyProof.Rows L2 GxR NdefX GA RZ
section
variable {X : Cx}
def rEqNil (K : PySem.W.Frag) : R2 := fun x y H Q => ∃ a b xs, x = .ref a ∧ y = .ref b ∧ SqL K H a xs ∧ SqL K H b [] ∧ Q (.bl xs.isEmpty) H
theorem op_eqNil (hu : X.A.units < cLine) : OpR X (compareOp .Eq) (rEqNil X.K) := by
  intro pins s σ H x y v u Q I rx ry h
  obtain ⟨a, b, xs, rfl, rfl, h1, h2, q⟩ := h
  cases rx
  cases ry
  show wpAny _ _ (richCompare .Eq (.ref a) (.ref b)) _ _ _
  have fin : EP X pins σ Q (.bool xs.isEmpty) s := ⟨.bl _, H, I, rfl, q⟩
  obtain ⟨its, r, p, _⟩ := I.list h1
  obtain ⟨its2, r2, p2, _⟩ := I.list h2
  cases r2
  obtain ⟨o, n, g, c, _, dd⟩ := p
  obtain ⟨o2, n2, g2, c2, _, dd2⟩ := p2
  have l1 : s.heap.IsList a its.toArray := ⟨o, g, c, n, dd⟩
  have l2 : s.heap.IsList b ([] : List Value).toArray := ⟨o2, g2, c2, n2, dd2⟩
  cases r with
  | nil => exact PySem.SeqAt.RcAt.lists l1 l2 rfl hu (e := fun _ => true) (fun j hj _ => absurd hj (Nat.not_lt_zero _)) _ _ _ _ fin
  | cons _ _ => exact PySem.SeqAt.RcAt.lists_lengths l1 l2 rfl hu _ _ _ _ fin
end
/-- all stays but lists and tables -/
def ST (H H' : Hp) : Prop := ∀ p o, H p = some o → (∀ xs, o ≠ .lst xs) → (∀ ps, o ≠ .tbl ps) → H' p = some o
theorem ST.refl {H : Hp} : ST H H := fun _ _ e _ _ => e
theorem ST.trans {H H1 H2 : Hp} (a : ST H H1) (b : ST H1 H2) : ST H H2 := fun p o e l t => b p o (a p o e l t) l t
theorem ST.go {T M : List Addr} {H H' : Hp} (g : Go T M H H') (hM : ∀ b ∈ M, ∃ ys, H b = some (.lst ys)) : ST H H' := fun p o e l t => g.gr p o e (fun z => by obtain ⟨ys, ey⟩ := hM p z; rw [e] at ey; exact l ys (Option.some.inj ey)) t
theorem ST.go0 {T : List Addr} {H H' : Hp} (g : Go T [] H H') : ST H H' := ST.go g fun _ z => absurd z List.not_mem_nil
theorem ST.set {H : Hp} {p : Addr} {ys : List V} {o' : HO} (e : H p = some (.lst ys)) : ST H (upd H p o') := fun q o e' l _ => by
  by_cases c : q = p
  · subst c
    rw [e] at e'
    exact absurd (Option.some.inj e').symm (l ys)
  · rw [upd_ne c]
    exact e'
theorem ST.tup {H H' : Hp} (s : ST H H') {p : Addr} {xs : List V} (e : H p = some (.tup xs)) : H' p = some (.tup xs) := s p _ e (fun _ z => by cases z) (fun _ z => by cases z)
theorem ST.dk {H H' : Hp} (s : ST H H') {p : Addr} {kvs : List (Key × V)} (e : H p = some (.dK kvs)) : H' p = some (.dK kvs) := s p _ e (fun _ z => by cases z) (fun _ z => by cases z)
end SL
set_option Elab.async false
set_option linter.all false
set_option maxRecDepth 100000
set_option maxHeartbeats 2000000
namespace SL
open PySem PySem.Spec PyProof.Rows L2 GxR NdefX GA
/-- the top's name x is the def st -/
def IsDef (K : PySem.W.Frag) (x : Str) (st : Stmt) : Prop := ∃ (f : Addr) (fd : FuncData), PySem.W.nsIn K mainGlobals x = some (some (.ref f)) ∧ Fun K x x st f fd
/-- .. its code object at c -/
def IsDefC (K : PySem.W.Frag) (x : Str) (st : Stmt) : Prop := ∃ (f c : Addr) (fd : FuncData), PySem.W.nsIn K mainGlobals x = some (some (.ref f)) ∧ FunT K x x st f fd c
/-- .. and its table, not of the written part -/
def IsDefT (K : PySem.W.Frag) (x : Str) (st : Stmt) : Prop := ∃ (f c Q : Addr) (fd : FuncData), PySem.W.nsIn K mainGlobals x = some (some (.ref f)) ∧ FunT K x x st f fd c ∧ PySem.W.tabIn K x = some (c, Q) ∧ K.lookup Q = none
section
variable {K : PySem.W.Frag} {x : Str} {st : Stmt} {f c Q : Addr} {oc kV dc pm cdv ct : Value} {od an : Option Addr} {sl : Array (Option Value)}
theorem isDef (a : PySem.W.nsIn K mainGlobals x = some (some (.ref f))) (l : K.lookup f = some ⟨oc, od, .func (PySem.W.fnOf x x (defArgs st) (defBody st) (defScope st) .none kV dc pm an cdv ct), sl⟩) (h : PySem.W.codeIn K cdv x = true) (k : PySem.W.keepIn K (.ref f) = true) : IsDef K x st :=
  ⟨f, _, a, fun_mk l h k⟩
theorem isDefC (a : PySem.W.nsIn K mainGlobals x = some (some (.ref f))) (l : K.lookup f = some ⟨oc, od, .func (PySem.W.fnOf x x (defArgs st) (defBody st) (defScope st) .none kV dc pm an (.ref c) ct), sl⟩) (h : PySem.W.codeIn K (.ref c) x = true) (k : PySem.W.keepIn K (.ref f) = true) : IsDefC K x st :=
  ⟨f, c, _, a, ⟨oc, od, kV, dc, pm, an, ct, sl, rfl, l, h⟩, k⟩
theorem isDefT {cc : Value} {cd : Option Addr} {vs : Array Value} {csl : Array (Option Value)} (a : PySem.W.nsIn K mainGlobals x = some (some (.ref f))) (l : K.lookup f = some ⟨oc, od, .func (PySem.W.fnOf x x (defArgs st) (defBody st) (defScope st) .none kV dc pm an (.ref c) ct), sl⟩) (h : PySem.W.codeIn K (.ref c) x = true) (k : PySem.W.keepIn K (.ref f) = true)
    (m : K.lookup c = some ⟨cc, cd, .fields vs, csl⟩) (v : (vs[11]? : Option Value) = some (.ref Q)) (n : K.lookup Q = none) : IsDefT K x st := by
  refine ⟨f, c, Q, _, a, ⟨⟨oc, od, kV, dc, pm, an, ct, sl, rfl, l, h⟩, k⟩, ?_, n⟩
  unfold PySem.W.tabIn
  rw [a]
  simp only [l, PySem.W.fnOf, m, v]
theorem Fun.kwb {fd : FuncData} {ps : List Str} (F : Fun K x x st f fd)
    (h : ∀ (kV doc pm : Value) (an : Option Addr) (cdv ct : Value) (us : List Value), us.length = ps.length → bindArgs (PySem.W.fnOf x x (defArgs st) (defBody st) (defScope st) .none kV doc pm an cdv ct) ⟨[], ps.zip us⟩ = pure (ps.zip us)) (s : Shared) (us : List Value) (_ : K.In s.heap) (hl : us.length = ps.length) : BindsTo s fd ⟨[], ps.zip us⟩ (ps.zip us) := by
  obtain ⟨oc, od, kV, doc, pm, an, cdv, ct, osl, rfl, _, _⟩ := F.ex
  exact .of_eq (h kV doc pm an cdv ct us hl)
/-- whether an error of the class at S is taken by «except C» -/
theorem exmOf {S C : Addr} {b : Bool} (h1 : PySem.W.subIn K (.ref C) (.type "BaseException") = some true) (h2 : PySem.W.isClsIn K C = true) (h3 : PySem.W.typeIn K (.ref C) = some (.type "type")) (h4 : PySem.W.subIn K (.ref S) (.ref C) = some b) : PySem.W.exmOne K (.ref S) (.ref C) = some b := by
  have z : (PySem.W.clsIn K C).isSome = true := h2
  unfold PySem.W.exmOne PySem.W.kitCls
  simp [h1, h3, h4, z]
theorem hasInt {x : Str} {i : Int} {t : Tok} (h : PySem.W.nsIn K mainGlobals x = some (some (.int i t))) : ∃ t, PySem.W.nsIn K mainGlobals x = some (some (.int i t)) := ⟨t, h⟩

end
end SL
set_option Elab.async false
set_option linter.all false
set_option maxRecDepth 100000
set_option maxHeartbeats 2000000
/-! own words, 36: calls with keywords alone, in the parameters' order turned round -/
namespace SL
open PySem PySem.Spec PyProof.Rows L2 GxR NdefX GA
/-- a def as it is called by all its keywords, the last parameter's first -/
structure Fnr (P : Program) (w : World) (K : PySem.W.Frag) (mg : Str → Option Value) (base : Heap) (CX : CXT) (k : Nat) (x : Str) (ps : List Str) (sp : Sp) : Prop where
  ex : ∃ (f : Addr) (fd : FuncData), FnOk P w K mg base CX k f fd ps sp ∧ mg x = some (.ref f) ∧ PySem.W.keepIn K (.ref f) = true ∧ ∀ (s : Shared) (ws : List Value), K.In s.heap → ws.length = ps.length → BindsTo s fd ⟨[], ps.reverse.zip ws⟩ (ps.zip ws.reverse)
section
variable {X : Cx} {CX : CXT} {k j : Nat} {x : Str} {ps : List Str} {sp : Sp} {e : Expr} {es : List Expr} {kws : List Keyword} {t tk : TA} {p pos : Pos} {E : L2.St → XK} {f : Addr} {fd : FuncData}
def tCallR (sp : Sp) (E : L2.St → XK) (tk : TA) : TE := fun σ H Q => tk σ H fun vs H1 => sp vs.reverse H1 Q (E σ)
theorem run_fr {pins : List (Addr × Obj)} {σ : L2.St} {H : Hp} {s : Shared} {Q : VK} {us : List Value} {vs : List V} (F : FnOk X.prog X.w X.K X.mg X.base CX k f fd ps sp) (hr : Room k X.A)
    (hb : ∀ (s : Shared) (ws : List Value), X.K.In s.heap → ws.length = ps.length → BindsTo s fd ⟨[], ps.reverse.zip ws⟩ (ps.zip ws.reverse)) (hx : PassesAt CX X σ (E σ))
    (I : Inv X pins σ H s) (r : Vals vs us) (h : sp vs.reverse H Q (E σ)) : wpAny (model X.prog X.w) X.A (call (.ref f) [] (ps.reverse.zip us)) (EP X pins σ Q) X.xe s := by
  have hl : us.length = ps.length := by rw [← r.length, ← List.length_reverse]; exact F.len _ _ _ _ h
  refine wpAny_call (codeAny_mono (F.run X.A X.stack s H ⟨[], ps.reverse.zip us⟩ us.reverse vs.reverse Q (E σ) hr I.env0 (hb s us I.kIn hl) r.reverse h) fun r s' hq => ?_)
  cases r with
  | error e => exact hx pins H s e s' I hq
  | ok fl =>
    cases fl with
    | ret u => exact I.after hq
    | next => exact False.elim hq
    | brk => exact False.elim hq
    | cont => exact False.elim hq
/-- f(b = v, a = u) -/
theorem pe_kwR (F : Fnr X.prog X.w X.K X.mg X.base CX k x ps sp) (hr : Room j X.A) (hk : k ≤ j) (hx : ∀ σ, PassesAt CX X σ (E σ)) (hkw : PK X kws tk) (hg : Gl X x := by rfl)
    (hall : (backToKw pos (keywordEach kws X.env)).all (·.1.isSome) = true := by rfl) (hks : (backToKw pos (keywordEach kws X.env)).filterMap (·.1) = ps.reverse := by rfl) (hdb : (x == ("__debug__" : Str)) = false := by decide)
    (hpl : ((backTo pos (starEach [] X.env)).any (·.1) || (backToKw pos (keywordEach kws X.env)).any (·.1.isNone)) = false := by rfl) :
    PE X (.Call (.Name x p) [] kws pos) (tCallR sp E tk) := by
  obtain ⟨f, fd, G, m, kp, b⟩ := F.ex
  refine ⟨fun pins s σ H Q I h => ?_⟩
  refine wpAny_Call_Name_kw (ld_glob I hg m ?_ hdb)
  refine PySem.W.callWith_KW0 (h₀ := X.base) I.ok.mod.kin kp hall ?_ hpl
  refine thn (hkw.run pos pins s σ H _ I h) fun ws s2 ⟨zs, H2, I2, rz, q2⟩ => ⟨I2.kIn, ?_⟩
  rw [hks]
  exact run_fr G (hr.mono hk) b (hx σ) I2 rz q2
end
end SL
set_option Elab.async false
set_option linter.all false
set_option maxRecDepth 100000
set_option maxHeartbeats 2000000
/-! own words, 39: FnOk.toG; a def bound by its keywords turned round -/
namespace SL
open PySem PySem.Spec PyProof.Rows L2 GxR NdefX GA
section
variable {P : Program} {w : World} {K : PySem.W.Frag} {mg : Str → Option Value} {base : Heap} {k : Nat} {f : Addr} {ps : List Str} {sp : Sp} {x : Str} {st : Stmt} {fd : FuncData}
theorem FnOk.toG (h : FnOk P w K mg base CX0 k f fd ps sp) : FnG P w K mg base k f fd ps sp :=
  ⟨fun vs H Q => h.len vs H Q E0, fun A outer s H args us vs Q _ room env bind rel want => h.run A outer s H args us vs Q E0 room env bind rel want⟩
theorem Fun.kwr (F : Fun K x x st f fd)
    (h : ∀ (kV doc pm : Value) (an : Option Addr) (cdv ct : Value) (us : List Value), us.length = ps.length → bindArgs (PySem.W.fnOf x x (defArgs st) (defBody st) (defScope st) .none kV doc pm an cdv ct) ⟨[], ps.reverse.zip us⟩ = pure (ps.zip us.reverse)) (s : Shared) (us : List Value) (_ : K.In s.heap) (hl : us.length = ps.length) : BindsTo s fd ⟨[], ps.reverse.zip us⟩ (ps.zip us.reverse) := by
  obtain ⟨oc, od, kV, doc, pm, an, cdv, ct, osl, rfl, _, _⟩ := F.ex
  exact .of_eq (h kV doc pm an cdv ct us hl)
end
end SL
set_option Elab.async false
set_option linter.all false
set_option maxRecDepth 100000
set_option maxHeartbeats 4000000
/-! own words, 40: // and lcm of numbers of any size -/
namespace SL
open PySem PySem.Spec PyProof.Rows L2 GxR NdefX GA
/-- no module of the program's bears _pylong's name, and the stack has room -/
structure Seer (X : Cx) : Prop where
  base : X.base.NoSeer
  tree : X.prog.given.tree = none
  fr : ∃ env l, X.stack = env :: l ∧ env.scope.isGenerator = false ∧ env.scope.isCoroutine = false ∧ env.builtins = builtinsNs ∧ env.globals = mainGlobals
  dp : X.A.depth + 100 < recursionLimit
section
variable {X : Cx} {pins : List (Addr × Obj)} {σ : L2.St} {H : Hp} {s : Shared}
theorem Seer.at (S : Seer X) (I : Inv X pins σ H s) : SeerAt (model X.prog X.w) X.A s.heap := by
  obtain ⟨env, l, e, h1, h2, h3, h4⟩ := S.fr
  exact SeerAt.of (S.base.keeps I.bk) S.tree (I.ok.frames.trans (congrArg some e)) h1 h2 h3 h4
theorem Seer.room (S : Seer X) (I : Inv X pins σ H s) : PylongRoom (model X.prog X.w) X.A s := PylongRoom.of I.nolimit S.dp (S.at I)
theorem op_fdivP (S : Seer X) : OpR X (binaryOp .FloorDiv) (rI (fun _ j => j ≠ 0) fun i j => .int (i.fdiv j)) := by
  intro pins s σ H x y v u Q I rx ry h
  obtain ⟨i, j, rfl, rfl, hc, q⟩ := h
  obtain ⟨t, rfl⟩ := rx
  obtain ⟨t', rfl⟩ := ry
  exact floordiv_int hc ⟨.int _, H, I.tok _, ⟨_, rfl⟩, q⟩ (.inr (S.room I))
def InvRoom (M : Model) (A : Around) (s : Shared) : Prop :=
  ∀ (u : Nat) (n : Nat) (E : Value → Shared → Prop) (Q : Unit → Shared → Prop), Q () s → wpAny M { A with units := u } (Builtin.roomForPylongsInverse n) Q E s
theorem InvRoom.of {M : Model} {A : Around} (hl : s.heap.NoLimit) (hd : A.depth + Builtin.pylongFrames < recursionLimit) (hs : SeerAt M A s.heap) : InvRoom M A s := fun u n E Q h => by
  unfold Builtin.roomForPylongsInverse
  by_cases hb : n.log2 / 30 + 1 > 450
  · rw [if_pos hb]
    refine wpAny_bind (hs u s E _ rfl ?_)
    exact wpAny_pylongFrames (A := { A with units := u }) hl hd h
  · rw [if_neg hb]
    exact wpAny_pure h
theorem lcm_any {prog : Program} {w : World} {A : Around} {E : Value → Shared → Prop} {Q : Value → Shared → Prop} {a b : Int} {t u : Tok} (hr : InvRoom (model prog w) A s) (hz : (Nat.lcm a.natAbs b.natAbs).log2 < bitsLine)
    (h : Q (.int ((Nat.lcm a.natAbs b.natAbs : Nat) : Int) s.toks) { s with toks := s.toks + 1 }) : wpAny (model prog w) A (call (.builtin "math.lcm") [.int a t, .int b u]) Q E s := by
  refine PySem.Calls.call_function_entry PySem.W.MGF.kind_lcm PySem.W.MGF.plain_lcm PySem.W.MGF.entry_lcm (PySem.W.MGF.args_lcm _ _) ?_
  obtain ⟨hp, g, d, tk, os⟩ := s
  have e : Nat.lcm (Nat.lcm 1 a.natAbs) b.natAbs = Nat.lcm a.natAbs b.natAbs := by rw [Nat.lcm_one_left]
  have hz' : (((Nat.lcm (Nat.lcm 1 a.natAbs) b.natAbs : Nat) : Int)).natAbs.log2 < bitsLine := by
    rw [e]
    simpa using hz
  have hr' : ∀ n (E : Value → Shared → Prop) (Q : Unit → Shared → Prop), Q () ⟨hp, g, d, tk, os⟩ → wpAny (model prog w) A.in1 (Builtin.roomForPylongsInverse n) Q E ⟨hp, g, d, tk, os⟩ := fun n E Q q => hr A.in1.units n E Q q
  rw [← e] at h
  wp_walk using hr'
  exact ⟨_, rfl, h⟩
/-- lcm(a, b) of any two whole numbers -/
def rLcmP : List V → Hp → VK → Prop := fun vs H Q => ∃ a b : Int, vs = [.int a, .int b] ∧ a.natAbs.log2 + b.natAbs.log2 < 1000000 ∧ Q (.int ((Nat.lcm a.natAbs b.natAbs : Nat) : Int)) H
theorem lcm_bits {a b : Nat} (h : a.log2 + b.log2 < 1000000) : (Nat.lcm a b).log2 < bitsLine := by
  have hb : bitsLine = 134217728 := by decide
  by_cases h0 : Nat.lcm a b = 0
  · rw [h0]; decide
  · have h1 : Nat.lcm a b ≤ a * b := Nat.div_le_self _ _
    have ha : a < 2 ^ (a.log2 + 1) := Nat.lt_log2_self
    have hb2 : b < 2 ^ (b.log2 + 1) := Nat.lt_log2_self
    have h3 : Nat.lcm a b < 2 ^ 1000002 := by
      refine Nat.lt_of_le_of_lt h1 (Nat.lt_of_lt_of_le (Nat.mul_lt_mul'' ha hb2) ?_)
      rw [← Nat.pow_add]
      exact Nat.pow_le_pow_right (by decide) (by omega)
    rw [hb]
    exact Nat.lt_trans ((Nat.log2_lt h0).mpr h3) (by decide)
theorem cr_lcmP (S : Seer X) : CallR X (.builtin "math.lcm") rLcmP := by
  intro pins s σ H vs us Q I r h
  obtain ⟨a, b, rfl, hz, q⟩ := h
  obtain ⟨t, u, rfl⟩ := Vals.int2 r
  exact lcm_any (InvRoom.of I.nolimit S.dp (S.at I)) (lcm_bits hz) ⟨.int _, H, I.tok _, ⟨_, rfl⟩, q⟩
end
end SL
set_option Elab.async false
set_option linter.all false
set_option maxRecDepth 100000
set_option maxHeartbeats 2000000
/-! own words, 41: methods and makers as their callers know them -/
namespace SL
open PySem PySem.Spec PyProof.Rows L2 GxR NdefX GA
/-- a method of the class at C -/
structure Mth (P : Program) (w : World) (K : PySem.W.Frag) (mg : Str → Option Value) (base : Heap) (CX : CXT) (C : Addr) (k : Nat) (m : Str) (ps : List Str) (sp : Sp) : Prop where
  ex : ∃ (f : Addr) (fd : FuncData), FnOk P w K mg base CX k f fd ps sp ∧ Meth K C m f ∧ Binds K fd ps []
/-- the class itself -/
structure Mkr (P : Program) (w : World) (K : PySem.W.Frag) (mg : Str → Option Value) (base : Heap) (CX : CXT) (C : Addr) (k : Nat) (x : Str) (ps : List Str) (sp : Sp) : Prop where
  ex : ∃ (f : Addr) (fd : FuncData), FnOk P w K mg base CX k f fd ps sp ∧ Mk K C f ∧ mg x = some (.ref C) ∧ Binds K fd ps []
section
variable {X : Cx} {CX : CXT} {C : Addr} {k j : Nat} {x m : Str} {ps : List Str} {sp : Sp} {o e : Expr} {es : List Expr} {ta : TE} {t : TA} {p pos apos : Pos} {E : XK}
theorem pe_mth {pl : Sem Bool} (c : Cls X.K C) (M : Mth X.prog X.w X.K X.mg X.base CX C k m ps sp) (hr : Room j X.A) (hk : k ≤ j) (hx : Passes CX X E) (he : PE X o ta) (ha : PA X (e :: es) t)
    (hst : starEach (e :: es) X.env = (false, eval e X.env) :: starEach es X.env := by rfl) (hpl : (backTo pos (starEach es X.env)).any (·.1) = false := by rfl)
    (ht : eval (.Call (.Attribute o m apos) (e :: es) [] pos) X.env = (do
      let ov ← eval o X.env
      standAt apos.atName
      let (f, first) ← holding [ov] (getMethod ov m pl)
      callWith pos f first (backTo pos (starEach (e :: es) X.env)) (backToKw pos (keywordEach [] X.env))) := by rfl) :
    PE X (.Call (.Attribute o m apos) (e :: es) [] pos) (tMeth C m sp [] E ta t) := by
  obtain ⟨f, fd, F, hm, hb⟩ := M.ex
  exact pe_meth he c hm F (hr.mono hk) hb .nil hx ha hst hpl ht
theorem pe_mth0 {pl : Sem Bool} (c : Cls X.K C) (M : Mth X.prog X.w X.K X.mg X.base CX C k m ps sp) (hr : Room j X.A) (hk : k ≤ j) (hx : Passes CX X E) (he : PE X o ta)
    (ht : eval (.Call (.Attribute o m apos) [] [] pos) X.env = (do
      let ov ← eval o X.env
      standAt apos.atName
      let (f, first) ← holding [ov] (getMethod ov m pl)
      callWith pos f first (backTo pos (starEach [] X.env)) (backToKw pos (keywordEach [] X.env))) := by rfl) :
    PE X (.Call (.Attribute o m apos) [] [] pos) (tMeth C m sp [] E ta tNil) := by
  obtain ⟨f, fd, F, hm, hb⟩ := M.ex
  exact pe_meth0 he c hm F (hr.mono hk) hb .nil hx ht
theorem pe_mkC (M : Mkr X.prog X.w X.K X.mg X.base CX C k x ps sp) (hr : Room j X.A) (hk : k + 1 ≤ j) (hx : Passes CX X E) (ha : PA X (e :: es) t) (hg : Gl X x := by rfl) (hdb : (x == ("__debug__" : Str)) = false := by decide)
    (he : starEach (e :: es) X.env = (false, eval e X.env) :: starEach es X.env := by rfl) (hpl : (backTo pos (starEach es X.env)).any (·.1) = false := by rfl) : PE X (.Call (.Name x p) (e :: es) [] pos) (tMake C sp [] E t) := by
  obtain ⟨f, fd, F, M, hm, hb⟩ := M.ex
  exact pe_make M F (hr.mono hk) hg hm hb .nil hx ha hdb he hpl
theorem Seer.blk {s : Shared} {H : Hp} {scope : Scope} {cenv : Env} {fp : List Addr} (S : Seer X) : Seer (X.blk s H scope cenv fp) := ⟨S.base, S.tree, S.fr, S.dp⟩
theorem seer_mk {P : Program} {w : World} {K : PySem.W.Frag} {mg : Str → Option Value} {base : Heap} {N : List Str} {qual : Str} {scope : Scope} {f : Addr} {cd : Value} {A : Around} {outer : List Env} {s : Shared} {H : Hp} {E : XK} (hk : 32 ≤ k) (hN : base.NoSeer) (hT : P.given.tree = none)
    (hr : Room k (A.deeper (envOfC qual scope s.heap.objs.size f cd))) (hg : scope.isGenerator = false := by rfl) (hc : scope.isCoroutine = false := by rfl) : Seer (cxOf CX P w K mg base N qual scope f cd A outer s H E).nox :=
  ⟨hN, hT, ⟨_, _, rfl, hg, hc, rfl, rfl⟩, by
    have h := hr.dp
    show (A.deeper (envOfC qual scope s.heap.objs.size f cd)).depth + 100 < recursionLimit
    omega⟩
end
end SL
set_option Elab.async false
set_option linter.all false
set_option maxRecDepth 100000
set_option maxHeartbeats 4000000
/-! k41, the first defs: is_integer, is_tuple, is_ratio, ratio_of -/
namespace KN
open PySem PySem.Spec PyProof.Rows L2 GxR NdefX GA SL ZN
def top (i : Nat) : Stmt := PySem.Challenge.pw_sameontrees_k39_whole_made_or_apart.main.body.getD i (.Pass ⟨0, 0, 0, 0⟩)
abbrev s_is_integer : Stmt := top 3
abbrev s_is_tuple : Stmt := top 4
abbrev s_is_ratio : Stmt := top 5
abbrev s_ratio_of : Stmt := top 6
/-- the module's constants -/
structure Cn (mg : Str → Option Value) : Prop where
  gcd : mg "gcd" = some (.builtin "math.gcd")
  lcm : mg "lcm" = some (.builtin "math.lcm")
  entries : ∃ t, mg "MOST_ENTRIES" = some (.int 48 t)
def intB (e : PyData) : Bool := isInt e && !isBool e
def sp_is_integer : Sp := fun vs H Q _ => ∃ (M : List Addr) (v : V) (e : PyData), vs = [v] ∧ Dv M H v e ∧ Q (.bl (intB e)) H
theorem sc_is_integer : FnScope ["thing"] ["thing"] (defScope s_is_integer) := ⟨rfl, rfl, rfl, by decide +kernel, rfl, by decide +kernel, by decide +kernel⟩
def sp_is_tuple : Sp := fun vs H Q _ => ∃ (M : List Addr) (v : V) (d : PyData) (l m : Int), vs = [v, .int l, .int m] ∧ Dv M H v d ∧ Q (.bl (tupB d l m)) H
theorem sc_is_tuple : FnScope ["thing", "least", "most"] ["thing", "least", "most"] (defScope s_is_tuple) := ⟨rfl, rfl, rfl, by decide +kernel, rfl, by decide +kernel, by decide +kernel⟩
/-- a ratio in lowest terms -/
def Low (t b : Int) : Prop := 1 ≤ b ∧ Nat.gcd t.natAbs b.natAbs = 1
abbrev rat (t b : Int) : PyData := .tuple [.int t, .int b]
def sp_is_ratio : Sp := fun vs H Q _ => ∃ (M : List Addr) (v : V) (t b : Int), vs = [v] ∧ Dv M H v (rat t b) ∧ Low t b ∧ Q (.bl true) H
theorem sc_is_ratio : FnScope ["thing", "top", "bottom"] ["thing"] (defScope s_is_ratio) := ⟨rfl, rfl, rfl, by decide +kernel, rfl, by decide +kernel, by decide +kernel⟩
section
variable {P : Program} {w : World} {K : PySem.W.Frag} {mg : Str → Option Value} {base : Heap} {f : Addr} {fd : FuncData}
theorem ok_is_integer (F : Fun K "is_integer" "is_integer" s_is_integer f fd) (B : Bl mg) : FnOk P w K mg base CX0 1 f fd ["thing"] sp_is_integer := by
  refine F.ok sc_is_integer (fun vs H Q E h => ?_) (fun cdv A outer s H vs Q E hr h => ?_)
  · obtain ⟨_, _, _, rfl, _⟩ := h
    rfl
  obtain ⟨M, v, e, rfl, hv, q⟩ := h
  refine ⟨_, pss_one (ps_ret (pe_and (pe_isi_int B (pv 0)) (pe_one (pe_not (pe_isi_bool B (pv 0)))))), ?_⟩
  refine ⟨_, rfl, _, _, _, rfl, hv, _, rfl, ?_⟩
  unfold intB at q
  cases c1 : isInt e with
  | true =>
    rw [c1, Bool.true_and] at q
    exact iteT ⟨_, rfl, _, _, _, rfl, hv, _, rfl, q⟩
  | false =>
    rw [c1, Bool.false_and] at q
    exact iteF q
theorem ok_is_tuple (F : Fun K "is_tuple" "is_tuple" s_is_tuple f fd) (B : Bl mg) : FnOk P w K mg base CX0 1 f fd ["thing", "least", "most"] sp_is_tuple := by
  refine F.ok sc_is_tuple (fun vs H Q E h => ?_) (fun cdv A outer s H vs Q E hr h => ?_)
  · obtain ⟨_, _, _, _, _, rfl, _⟩ := h
    rfl
  obtain ⟨M, v, d, l, m, rfl, hv, q⟩ := h
  refine ⟨_, pss_one (ps_ret (pe_and (pe_isi_tuple B (pv 0)) (pe_one (pe_chain op_le op_le (pv 1) (pe_lenq B (pv 0)) (pv 2))))), ?_⟩
  refine ⟨_, rfl, _, _, _, rfl, hv, ?_⟩
  cases hv with
  | @tup a xs ds e n r =>
    refine ⟨_, rfl, iteT ?_⟩
    refine ⟨_, rfl, _, rfl, _, _, rfl, .inr (SqT.of e), _, _, rfl, rfl, _, rfl, ?_⟩
    have hl := r.length
    unfold tupB at q
    simp only [← hl] at q
    by_cases c : l ≤ (xs.length : Int)
    · rw [decide_eq_true c, Bool.true_and] at q
      refine if_true_of (decide_eq_true c) ?_
      exact ⟨_, rfl, _, _, rfl, rfl, q⟩
    · rw [decide_eq_false c, Bool.false_and] at q
      exact if_false_of (decide_eq_false c) q
  | _ => exact ⟨_, rfl, iteF q⟩
theorem ok_is_ratio (F : Fun K "is_ratio" "is_ratio" s_is_ratio f fd) (B : Bl mg) (C : Cn mg) (Ft : Fnn P w K mg base CX0 1 "is_tuple" ["thing", "least", "most"] sp_is_tuple) (Fi : Fnn P w K mg base CX0 1 "is_integer" ["thing"] sp_is_integer) :
    FnOk P w K mg base CX0 2 f fd ["thing"] sp_is_ratio := by
  refine F.ok sc_is_ratio (fun vs H Q E h => ?_) (fun cdv A outer s H vs Q E hr h => ?_)
  · obtain ⟨_, _, _, _, rfl, _⟩ := h
    rfl
  obtain ⟨M, v, t, b, rfl, hv, ⟨hb, hg⟩, q⟩ := h
  have nd := sc_is_ratio.nd
  refine ⟨_, pss_cons (ps_if (pt_not (pt_val (pe_fn Ft hr (by decide) pass0 (pa_cons (pv 0) (pa_cons pe_int (pa_cons pe_int pa_nil)))))) (pss_one (ps_ret pe_bl)) pss_nil)
    (pss_cons (ps_asg (pv 0) (pg_tup rfl (pgs_cons (pg_name (i := 1) nd rfl (.inl rfl)) (pgs_cons (pg_name (i := 2) nd rfl (.inl rfl)) pgs_nil))))
    (pss_one (ps_ret (pe_and (pe_fn Fi hr (by decide) pass0 (pa_cons (pv 1) pa_nil)) (pe_and (pe_fn Fi hr (by decide) pass0 (pa_cons (pv 2) pa_nil)) (pe_and (pe_cmpR op_ge (pv 2) pe_int (nomark _))
      (pe_one (pe_cmpR op_eq (pe_callBfun cr_gcd rfl C.gcd (pa_cons (pv 1) (pa_cons (pv 2) pa_nil))) pe_int (nomark _))))))))), ?_⟩
  obtain ⟨a, vx, vy, rfl, e, na, hx, hy⟩ := dv_pair hv
  cases hx
  cases hy
  refine ⟨_, rfl, M, _, _, 2, 2, rfl, hv, _, rfl, ?_⟩
  refine if_false_of rfl ?_
  refine ⟨_, rfl, a, _, rfl, SqT.of e, rfl, _, _, rfl, _, _, rfl, rfl, ?_⟩
  refine ⟨_, rfl, M, _, _, rfl, .int _, _, rfl, iteT ?_⟩
  refine ⟨_, rfl, M, _, _, rfl, .int _, _, rfl, iteT ?_⟩
  refine ⟨_, rfl, _, _, rfl, rfl, _, rfl, ?_⟩
  refine if_true_of (decide_eq_true hb) ?_
  refine ⟨_, rfl, _, rfl, t, b, rfl, rfl, ?_⟩
  rw [hg]
  exact q
end
end KN
set_option Elab.async false
set_option linter.all false
set_option maxRecDepth 100000
set_option maxHeartbeats 4000000
/-! k39: ratio_of, scaled -/
namespace KN
open PySem PySem.Spec PyProof.Rows L2 GxR NdefX GA SL ZN RZ
abbrev s_scaled : Stmt := top 7
/-- lowest terms, as both sides compute them -/
theorem low_of {t b : Int} (h : 0 < b) : (t / ((Nat.gcd t.natAbs b.natAbs : Nat) : Int), b / ((Nat.gcd t.natAbs b.natAbs : Nat) : Int)) = ((Rat.divInt t b).num, ((Rat.divInt t b).den : Int)) := by
  have e : Int.gcd b t = Nat.gcd t.natAbs b.natAbs := by
    show Nat.gcd b.natAbs t.natAbs = _
    exact Nat.gcd_comm ..
  rw [Rat.num_divInt, Rat.den_divInt, if_neg (by omega), e, Int.sign_eq_one_of_pos h, Int.one_mul]
  congr 1
  rw [Int.natCast_ediv, Int.natAbs_of_nonneg (by omega)]
/-- floor division by a divisor is the quotient -/
theorem fdiv_dvd {a b : Int} (h : b ∣ a) : a.fdiv b = a / b := Int.fdiv_eq_ediv_of_dvd h
theorem gcd_dvd_l (t b : Int) : ((Nat.gcd t.natAbs b.natAbs : Nat) : Int) ∣ t := Int.dvd_natAbs.mp (Int.natCast_dvd_natCast.mpr (Nat.gcd_dvd_left ..))
theorem gcd_dvd_r (t b : Int) : ((Nat.gcd t.natAbs b.natAbs : Nat) : Int) ∣ b := Int.dvd_natAbs.mp (Int.natCast_dvd_natCast.mpr (Nat.gcd_dvd_right ..))
/-- .. by either sign of the bottom -/
theorem low_any {t b : Int} (h : b ≠ 0) : (t.fdiv (if 0 < b then ((Nat.gcd t.natAbs b.natAbs : Nat) : Int) else -((Nat.gcd t.natAbs b.natAbs : Nat) : Int)), b.fdiv (if 0 < b then ((Nat.gcd t.natAbs b.natAbs : Nat) : Int) else -((Nat.gcd t.natAbs b.natAbs : Nat) : Int))) = ((Rat.divInt t b).num, ((Rat.divInt t b).den : Int)) := by
  by_cases c : 0 < b
  · rw [if_pos c, fdiv_dvd (gcd_dvd_l t b), fdiv_dvd (gcd_dvd_r t b)]
    exact low_of c
  · rw [if_neg c, fdiv_dvd (Int.neg_dvd.mpr (gcd_dvd_l t b)), fdiv_dvd (Int.neg_dvd.mpr (gcd_dvd_r t b))]
    have := low_of (t := -t) (b := -b) (by omega)
    rw [Rat.neg_divInt_neg, Int.natAbs_neg, Int.natAbs_neg] at this
    rw [← this, Int.ediv_neg, Int.ediv_neg, Int.neg_ediv_of_dvd (gcd_dvd_l t b), Int.neg_ediv_of_dvd (gcd_dvd_r t b)]
def sp_ratio_of : Sp := fun vs H Q _ => ∃ t b : Int, vs = [.int t, .int b] ∧ b ≠ 0 ∧ ∀ T, H T = none → Q (.ref T) (upd H T (.tup [.int (Rat.divInt t b).num, .int ((Rat.divInt t b).den : Int)]))
theorem sc_ratio_of : FnScope ["top", "bottom", "shared"] ["top", "bottom"] (defScope s_ratio_of) := ⟨rfl, rfl, rfl, by decide +kernel, rfl, by decide +kernel, by decide +kernel⟩
theorem sc_scaled : FnScope ["ratios", "bottom", "_", "part", "top"] ["ratios"] (defScope s_scaled) := ⟨rfl, rfl, rfl, by decide +kernel, rfl, by decide +kernel, by decide +kernel⟩
abbrev rowR (rs : List (Int × Int)) : PyData := .tuple (rs.map fun r => rat r.1 r.2)
/-- the least common multiple of the bottoms -/
def lcms (rs : List (Int × Int)) : Nat := (rs.map fun r => r.2.natAbs).foldl Nat.lcm 1
theorem lcms_snoc (rs : List (Int × Int)) (r : Int × Int) : lcms (rs ++ [r]) = Nat.lcm (lcms rs) r.2.natAbs := by
  unfold lcms
  rw [List.map_append, List.foldl_append]
  rfl
theorem foldl_dvd : ∀ (bs : List Nat) (a : Nat), a ∣ bs.foldl Nat.lcm a
  | [], a => Nat.dvd_refl a
  | b :: bs, a => Nat.dvd_trans (Nat.dvd_lcm_left a b) (foldl_dvd bs (Nat.lcm a b))
theorem foldl_dvd_mem : ∀ {bs : List Nat} {a b : Nat}, b ∈ bs → b ∣ bs.foldl Nat.lcm a
  | c :: bs, a, b, h => by
    rcases List.mem_cons.mp h with rfl | h
    · exact Nat.dvd_trans (Nat.dvd_lcm_right a b) (foldl_dvd bs _)
    · exact foldl_dvd_mem (bs := bs) (a := Nat.lcm a c) h
theorem foldl_pos : ∀ {bs : List Nat} {a : Nat}, 0 < a → (∀ b ∈ bs, 0 < b) → 0 < bs.foldl Nat.lcm a
  | [], a, h, _ => h
  | b :: bs, a, h, hb => foldl_pos (bs := bs) (a := Nat.lcm a b) (Nat.lcm_pos h (hb b (List.mem_cons_self ..))) fun c hc => hb c (List.mem_cons_of_mem _ hc)
theorem lcms_pos {rs : List (Int × Int)} (h : ∀ r ∈ rs, 1 ≤ r.2) : 0 < lcms rs := by
  refine foldl_pos (by decide) fun b hb => ?_
  obtain ⟨r, hr, rfl⟩ := List.mem_map.mp hb
  have := h r hr
  omega
theorem lcms_mem {rs : List (Int × Int)} {r : Int × Int} (h : r ∈ rs) : r.2.natAbs ∣ lcms rs := foldl_dvd_mem (List.mem_map_of_mem (f := fun r : Int × Int => r.2.natAbs) h)
theorem lcms_take (rs : List (Int × Int)) (i : Nat) : lcms (rs.take i) ∣ lcms rs := by
  have e : rs = rs.take i ++ rs.drop i := (List.take_append_drop i rs).symm
  rw [show lcms rs = lcms (rs.take i ++ rs.drop i) from congrArg lcms e]
  unfold lcms
  rw [List.map_append, List.foldl_append]
  exact foldl_dvd _ _
/-- the ratios over one bottom -/
def tops (rs : List (Int × Int)) : List Int := rs.map fun r => r.1 * ((lcms rs : Int) / r.2)
def sp_scaled (T : List Addr) : Sp := fun vs H Q _ => ∃ (M : List Addr) (v : V) (rs : List (Int × Int)), vs = [v] ∧ Dv M H v (rowR rs) ∧ rs.length ≤ 4000 ∧ (∀ r ∈ rs, 1 ≤ r.2) ∧ lcms rs < 2 ^ 9000 ∧ (∀ r ∈ rs, r.1.natAbs < 2 ^ 9000) ∧ Tabs T H ∧
  ∀ r l H', H r = none → H l = none → H' r = some (.tup [.ref l, .int (lcms rs : Nat)]) → H' l = some (.lst ((tops rs).map V.int)) → Go T [] H H' → Tabs T H' → Q (.ref r) H'
theorem log2_pow {n k : Nat} (h : n < 2 ^ k) (hk : 0 < k) : n.log2 < k := by
  by_cases h0 : n = 0
  · rw [h0]; simpa using hk
  · exact (Nat.log2_lt h0).mpr h
section
variable {P : Program} {w : World} {K : PySem.W.Frag} {mg : Str → Option Value} {base : Heap} {f : Addr} {fd : FuncData} {T : List Addr}
theorem ok_ratio_of (F : Fun K "ratio_of" "ratio_of" s_ratio_of f fd) (C : Cn mg) (hN : base.NoSeer) (hT : P.given.tree = none) : FnOk P w K mg base CX0 33 f fd ["top", "bottom"] sp_ratio_of := by
  refine F.ok sc_ratio_of (fun vs H Q E h => ?_) (fun cdv A outer s H vs Q E hr h => ?_)
  · obtain ⟨_, _, rfl, _⟩ := h
    rfl
  obtain ⟨t, b, rfl, h0, q⟩ := h
  have nd := sc_ratio_of.nd
  have S : Seer (cxOf CX0 P w K mg base ["top", "bottom", "shared"] "ratio_of" (defScope s_ratio_of) f cdv A outer s H E).nox := seer_mk (by decide) hN hT hr
  refine ⟨_, pss_cons (ps_set (i := 2) nd rfl (Or.inl rfl) (pe_ifExp (pt_cmpR op_gt (pv 1) pe_int (nomark _)) (pe_callBfun cr_gcd rfl C.gcd (pa_cons (pv 0) (pa_cons (pv 1) pa_nil))) (pe_un un_neg (pe_callBfun cr_gcd rfl C.gcd (pa_cons (pv 0) (pa_cons (pv 1) pa_nil))))))
    (pss_one (ps_ret (pe_tup (pa_cons (pe_op (op_fdivP S) (pv 0) (pv 2)) (pa_cons (pe_op (op_fdivP S) (pv 1) (pv 2)) pa_nil))))), ?_⟩
  obtain ⟨a1, a2⟩ := Prod.mk.inj (low_any (t := t) h0)
  have gp : 0 < Nat.gcd t.natAbs b.natAbs := Nat.gcd_pos_of_pos_right _ (Int.natAbs_pos.mpr h0)
  refine ⟨_, rfl, _, _, rfl, rfl, _, rfl, ?_⟩
  by_cases c : 0 < b
  · refine if_true_of (decide_eq_true c) ?_
    rw [if_pos c] at a1 a2
    refine ⟨_, rfl, _, rfl, t, b, rfl, ?_⟩
    refine ⟨_, rfl, _, rfl, _, _, rfl, rfl, (by omega), _, rfl, _, rfl, _, _, rfl, rfl, (by omega), ?_⟩
    refine ⟨by show 2 ≤ sizeLine; decide, fun T hT => ?_⟩
    have z := q T hT
    rw [← a1, ← a2] at z
    exact z
  · refine if_false_of (decide_eq_false c) ?_
    rw [if_neg c] at a1 a2
    refine ⟨_, rfl, _, rfl, t, b, rfl, _, rfl, ?_⟩
    refine ⟨_, rfl, _, rfl, _, _, rfl, rfl, (by omega), _, rfl, _, rfl, _, _, rfl, rfl, (by omega), ?_⟩
    refine ⟨by show 2 ≤ sizeLine; decide, fun T hT => ?_⟩
    have z := q T hT
    rw [← a1, ← a2] at z
    exact z
theorem ok_scaled (F : Fun K "scaled" "scaled" s_scaled f fd) (C : Cn mg) (hN : base.NoSeer) (hT : P.given.tree = none) : FnOk P w K mg base CX0 33 f fd ["ratios"] (sp_scaled T) := by
  refine F.ok sc_scaled (fun vs H Q E h => ?_) (fun cdv A outer s H vs Q E hr h => ?_)
  · obtain ⟨_, _, _, rfl, _⟩ := h
    rfl
  obtain ⟨M, v, rs, rfl, hv, hl, hb, hB, hN1, ht, q⟩ := h
  have nd := sc_scaled.nd
  have nn : ∀ b : Addr, b ∉ ([] : List Addr) := fun b => List.not_mem_nil
  have S : Seer (cxOf CX0 P w K mg base ["ratios", "bottom", "_", "part", "top"] "scaled" (defScope s_scaled) f cdv A outer s H E).nox := seer_mk (by decide) hN hT hr
  refine ⟨_, pss_cons (ps_set (i := 1) nd rfl (.inr rfl) pe_int)
    (pss_cons (ps_for PassesOwn.never rfl (pi_tup (pv 0)) (pg_tup rfl (pgs_cons (pg_name (i := 2) nd rfl (.inl rfl)) (pgs_cons (pg_name (i := 3) nd rfl (.inl rfl)) pgs_nil)))
      (pss_one (ps_set (i := 1) nd rfl (.inr rfl) (pe_callBfun (cr_lcmP S) rfl C.lcm (pa_cons (pv 1) (pa_cons (pv 3) pa_nil))))))
    (pss_one (ps_ret (pe_tup (pa_cons (pe_lc (own := [("top", 4), ("part", 3)]) (g := gTup K 2 (gCons (gName 4) (gCons (gName 3) gNil))) (tt := tYes) (te := tOp (rI CMulW fun i j => .int (i * j)) (tVar 4) (tOp (rI (fun _ j => j ≠ 0) fun i j => .int (i.fdiv j)) (tVar 1) (tVar 3))) rfl nd (pi_tup (pv 0))
        (blkOk_by (own := [("top", 4), ("part", 3)]) (N := ["ratios", "bottom", "_", "part", "top"]) (sc := defScope s_scaled) (by decide +kernel))
        (fun _ _ _ _ _ => pg_tup rfl (pgs_cons (pg_name (i := 4) nd rfl (.inl rfl)) (pgs_cons (pg_name (i := 3) nd rfl (.inl rfl)) pgs_nil))) (fun _ _ _ _ _ => pts_nil)
        (fun _ _ _ _ _ => pe_op op_mulW (pv 4) (pe_op (op_fdivP S.blk) (pv 1) (pv 3)))) (pa_cons (pv 1) pa_nil)))))), ?_⟩
  obtain ⟨a, xs, rfl, ea, _, dx⟩ := dv_tup hv
  have lx := dx.length
  rw [List.length_map] at lx
  refine ⟨_, rfl, a, rfl, ⟨_, SqT.of ea⟩, ?_⟩
  have p0 := lcms_pos hb
  refine for_it (n := xs.length) walk_tup (fun i σ H' => H' = H ∧ ∃ p2 p3, σ = [some (.ref a), some (.int (lcms (rs.take i) : Nat)), p2, p3, none]) ⟨rfl, none, none, rfl⟩
    (fun i σ H' _ ⟨e, _⟩ => by rw [e]; exact SqT.of ea) (fun i x σ H3 H4 hi h y => ?_) (fun σ H3 h => ?_)
  · obtain ⟨rfl, p2, p3, rfl⟩ := h
    obtain ⟨rfl, ex⟩ := y
    obtain ⟨d, ed, hx⟩ := dx.get ex
    rw [List.getElem?_map] at ed
    obtain ⟨⟨tp, bt⟩, er, rfl⟩ := Option.map_eq_some_iff.mp ed
    obtain ⟨r, vx, vy, rfl, er', nr, hvx, hvy⟩ := dv_pair hx
    cases hvx
    cases hvy
    have hm : (tp, bt) ∈ rs := List.mem_of_getElem? er
    have hb1 : 1 ≤ bt := hb _ hm
    have l1 : lcms (rs.take i) ≤ lcms rs := Nat.le_of_dvd p0 (lcms_take rs i)
    have l2 : bt.natAbs ≤ lcms rs := Nat.le_of_dvd p0 (lcms_mem hm)
    have e3 : lcms (rs.take (i + 1)) = Nat.lcm (lcms (rs.take i)) bt.natAbs := by
      rw [List.take_add_one, er]
      exact lcms_snoc _ _
    have z1 := log2_pow (Nat.lt_of_le_of_lt l1 hB) (by decide)
    have z2 := log2_pow (Nat.lt_of_le_of_lt l2 hB) (by decide)
    refine ⟨r, _, rfl, SqT.of er', rfl, _, _, rfl, _, _, rfl, rfl, ?_⟩
    refine ⟨_, rfl, _, rfl, _, _, rfl, (by show (lcms (rs.take i)).log2 + bt.natAbs.log2 < 1000000; omega), ?_⟩
    exact ⟨rfl, some (.int tp), some (.int bt), by rw [e3]; rfl⟩
  · obtain ⟨rfl, p2, p3, rfl⟩ := h
    rw [lx, List.take_length]
    refine ⟨_, rfl, a, rfl, ⟨_, SqT.of ea⟩, fun L hL => ?_⟩
    refine lc_map (T := T) (fun j => V.int ((tops rs).getD j 0)) (walk_tup (xs := xs)) (fun H' g' => SqT.of (g'.tup ea (nn _))) ht Go.refl hL (by rw [sizeLine_eq]; omega) (fun j v H6 H7 R hj g6 t6 y hR => ?_) (fun H6 g6 t6 ed6 => ?_)
    · obtain ⟨rfl, ey⟩ := y
      obtain ⟨d, ed, hx⟩ := (dx.go g6.of0).get ey
      rw [List.getElem?_map] at ed
      obtain ⟨⟨tp, bt⟩, er, rfl⟩ := Option.map_eq_some_iff.mp ed
      obtain ⟨r, vx, vy, rfl, er', nr, hvx, hvy⟩ := dv_pair hx
      cases hvx
      cases hvy
      have hm : (tp, bt) ∈ rs := List.mem_of_getElem? er
      have hb1 : 1 ≤ bt := hb _ hm
      have hdv : bt ∣ (lcms rs : Int) := Int.natAbs_dvd.mp (Int.natCast_dvd_natCast.mpr (lcms_mem hm))
      have d2 : ((lcms rs : Int) / bt).natAbs < 2 ^ 9000 := Nat.lt_of_le_of_lt (by have := Int.natAbs_ediv_le_natAbs (lcms rs : Int) bt; simpa using this) hB
      have et : (tops rs).getD j 0 = tp * ((lcms rs : Int).fdiv bt) := by
        rw [fdiv_dvd hdv, List.getD_eq_getElem?_getD, tops, List.getElem?_map, er]
        rfl
      rw [et] at hR
      refine ⟨r, _, rfl, SqT.of er', rfl, _, _, rfl, _, _, rfl, rfl, rfl, _, rfl, _, rfl, _, rfl, _, _, rfl, rfl, (by omega), _, _, rfl, rfl, wide_mul (hN1 _ hm) (by rw [fdiv_dvd hdv]; exact d2) (by decide) (by decide) (by decide), ?_⟩
      exact hR _ Go.refl
    · refine ⟨_, rfl, by show 2 ≤ sizeLine; decide, fun p hp => ?_⟩
      have u := Go.new (T := T) (M := []) (o := .tup [V.ref L, V.int (lcms rs : Nat)]) hp
      have em : (List.range xs.length).map (fun j => V.int ((tops rs).getD j 0)) = (tops rs).map V.int := by
        refine List.ext_getElem? fun j => ?_
        rw [List.getElem?_map, List.getElem?_map]
        have lt : (tops rs).length = xs.length := by rw [tops, List.length_map, lx]
        by_cases hj : j < xs.length
        · rw [List.getElem?_range hj, List.getElem?_eq_getElem (show j < (tops rs).length by omega)]
          simp [List.getD_eq_getElem?_getD, List.getElem?_eq_getElem (show j < (tops rs).length by omega)]
        · rw [List.getElem?_eq_none (by rw [List.length_range]; omega), List.getElem?_eq_none (by omega)]
          rfl
      rw [em] at ed6
      exact q p L _ (g6.al p hp) hL upd_same (u.lst ed6 (nn _)) (g6.trans u) ((g6.trans u).tb ht)
end
end KN
set_option Elab.async false
set_option linter.all false
set_option maxRecDepth 100000
set_option maxHeartbeats 4000000
namespace KN
open PySem PySem.Spec PyProof.Rows L2 GxR NdefX GA SL ZN RZ
/-- the walk of zip over two lists of one length -/
theorem walkZL {K : PySem.W.Frag} {a b : Addr} {xs ys : List V} (hl : xs.length = ys.length) : Walk (Itz K a b) xs.length (fun H => SqL K H a xs ∧ SqL K H b ys) (fun i H v G => ∃ p x y, v = .ref p ∧ H p = none ∧ G = upd H p (.tup [x, y]) ∧ xs[i]? = some x ∧ ys[i]? = some y) := by
  refine ⟨fun i H hi q => ?_, fun H q => ⟨xs, ys, q.1, q.2, .inl (Nat.le_refl _)⟩, fun i H v G hi q z => ?_⟩
  · exact ⟨xs, ys, xs[i], ys[i]'(by omega), q.1, q.2, by simp [hi], by simp [show i < ys.length by omega]⟩
  · obtain ⟨p, x, y, e1, e2, e3, e4, e5⟩ := z
    exact ⟨p, x, y, e1, e2, e3, e4 xs q.1, e5 ys q.2⟩
theorem of_ints {M : List Addr} {H : Hp} : ∀ {vs : List V} {zs : List Int}, DvAll M H vs (zs.map PyData.int) → vs = zs.map V.int
  | [], [], _ => rfl
  | _ :: _, _ :: _, .cons h t => by
    cases h
    rw [of_ints t] <;> rfl
def dot (ts os : List Int) : List Int := (List.range ts.length).map fun i => ts.getD i 0 * os.getD i 0
end KN
set_option Elab.async false
set_option linter.all false
set_option maxRecDepth 100000
set_option maxHeartbeats 4000000
/-! k41: is_vector -/
namespace KN
open PySem PySem.Spec PyProof.Rows L2 GxR NdefX GA SL ZN RZ
abbrev s_is_vector : Stmt := top 16
theorem sc_is_vector : FnScope ["thing"] ["thing"] (defScope s_is_vector) := ⟨rfl, rfl, rfl, by decide +kernel, rfl, by decide +kernel, by decide +kernel⟩
/-- ratios in lowest terms, at most 48 -/
def RowOk (rs : List (Int × Int)) : Prop := rs.length ≤ 48 ∧ ∀ r ∈ rs, Low r.1 r.2
def sp_is_vector (T : List Addr) : Sp := fun vs H Q _ => ∃ (M : List Addr) (v : V) (rs : List (Int × Int)), vs = [v] ∧ Dv M H v (rowR rs) ∧ RowOk rs ∧ Tabs T H ∧ ∀ H', Go T M H H' → Tabs T H' → Q (.bl true) H'
section
variable {P : Program} {w : World} {K : PySem.W.Frag} {mg : Str → Option Value} {base : Heap} {f c Pt : Addr} {fd : FuncData} {T : List Addr}
theorem ok_is_vector (F : FunT K "is_vector" "is_vector" s_is_vector f fd c) (B : Bl mg) (C : Cn mg) (TB : TabB base mg c Pt) (hP : Pt ∈ T) (Ft : Fnn P w K mg base CX0 1 "is_tuple" ["thing", "least", "most"] sp_is_tuple)
    (Fr : Fnn P w K mg base CX0 2 "is_ratio" ["thing"] sp_is_ratio) : FnOk P w K mg base CX0 4 f fd ["thing"] (sp_is_vector T) := by
  obtain ⟨te, mE⟩ := C.entries
  refine F.ok sc_is_vector (fun vs H Q E h => ?_) (fun A outer s H vs Q E hr h => ?_)
  · obtain ⟨_, _, _, rfl, _⟩ := h
    rfl
  obtain ⟨M, v, rs, rfl, hv, ⟨hl, hL⟩, ht, q⟩ := h
  have nd := sc_is_vector.nd
  refine ⟨_, pss_one (ps_ret (pe_and (pe_fn Ft hr (by decide) pass0 (pa_cons (pv 0) (pa_cons pe_int (pa_cons (pe_glob (v := .int 48) rfl mE ⟨_, rfl⟩) pa_nil))))
    (pe_one (pe_all (N := ["entry"]) (fr := []) (js := []) hr rfl B.all TB rfl (gsc_by (by decide +kernel)) (by simp) rfl (pi_tup (pv 0)) (fun _ _ _ _ _ _ _ => pg_name (i := 0) (show (["entry"] : List Str).Nodup by decide +kernel) rfl (.inl rfl))
      (fun _ _ _ _ _ _ _ hr' => pe_fn Fr hr' (by decide) pass0 (pa_cons (pv 0) pa_nil)))))), ?_⟩
  refine ⟨_, rfl, M, v, rowR rs, 0, 48, rfl, hv, _, rfl, ?_⟩
  have e1 : tupB (rowR rs) 0 48 = true := by
    simp only [tupB, rowR, List.length_map]
    rw [Bool.and_eq_true, decide_eq_true_eq, decide_eq_true_eq]
    omega
  rw [e1]
  refine iteT ?_
  obtain ⟨a, xs, rfl, ea, na, dx⟩ := dv_tup hv
  refine ⟨_, rfl, a, rfl, ⟨_, SqT.of ea⟩, all_tup (b := fun _ => true) ea na dx ht hP (fun x' d' H' R hd hv' g' t' hR => ?_) fun H' g t => ?_⟩
  · obtain ⟨r, hr2, rfl⟩ := List.mem_map.mp hd
    exact ⟨_, rfl, _, _, _, _, rfl, hv', hL r hr2, hR H' Go.refl t'⟩
  · have e2 : (rs.map fun r => rat r.1 r.2).all (fun _ => true) = true := List.all_eq_true.mpr fun _ _ => rfl
    rw [e2]
    exact q H' g t
end
end KN
set_option Elab.async false
set_option linter.all false
set_option maxRecDepth 100000
set_option maxHeartbeats 4000000
/-! k41: is_matrix -/
namespace KN
open PySem PySem.Spec PyProof.Rows L2 GxR NdefX GA SL ZN RZ
abbrev s_is_matrix : Stmt := top 17
theorem sc_is_matrix : FnScope ["thing", "row"] ["thing"] (defScope s_is_matrix) := ⟨rfl, rfl, rfl, by decide +kernel, rfl, by decide +kernel, by decide +kernel⟩
abbrev Mat := List (List (Int × Int))
abbrev matD (m : Mat) : PyData := .tuple (m.map rowR)
def MatOk (m : Mat) (n : Nat) : Prop := m.length ≤ 48 ∧ ∀ r ∈ m, r.length = n ∧ RowOk r
def sp_is_matrix (T : List Addr) : Sp := fun vs H Q _ => ∃ (v : V) (m : Mat) (n : Nat), vs = [v] ∧ Dv [] H v (matD m) ∧ MatOk m n ∧ Tabs T H ∧ ∀ H', Go T [] H H' → Tabs T H' → Q (.bl true) H'
section
variable {P : Program} {w : World} {K : PySem.W.Frag} {mg : Str → Option Value} {base : Heap} {f c Pt : Addr} {fd : FuncData} {T : List Addr}
theorem ok_is_matrix (F : FunT K "is_matrix" "is_matrix" s_is_matrix f fd c) (B : Bl mg) (C : Cn mg) (TB : TabB base mg c Pt) (hP : Pt ∈ T) (Ft : Fnn P w K mg base CX0 1 "is_tuple" ["thing", "least", "most"] sp_is_tuple)
    (Fv : Fnn P w K mg base CX0 4 "is_vector" ["thing"] (sp_is_vector T)) : FnOk P w K mg base CX0 6 f fd ["thing"] (sp_is_matrix T) := by
  obtain ⟨te, mE⟩ := C.entries
  refine F.ok sc_is_matrix (fun vs H Q E h => ?_) (fun A outer s H vs Q E hr h => ?_)
  · obtain ⟨_, _, _, rfl, _⟩ := h
    rfl
  obtain ⟨v, m, n, rfl, hv, ⟨hl, hR⟩, ht, q⟩ := h
  have nd := sc_is_matrix.nd
  have nn : ∀ b : Addr, b ∉ ([] : List Addr) := fun b => List.not_mem_nil
  refine ⟨_, pss_cons (ps_if (PW.pt (pw_or (pt_not (pt_val (pe_fn Ft hr (by decide) pass0 (pa_cons (pv 0) (pa_cons pe_int (pa_cons (pe_glob (v := .int 48) rfl mE ⟨_, rfl⟩) pa_nil)))))) (pw_or1 (pt_not (pt_val
      (pe_all (N := ["row"]) (fr := []) (js := []) hr rfl B.all TB rfl (gsc_by (by decide +kernel)) (by simp) rfl (pi_tup (pv 0)) (fun _ _ _ _ _ _ _ => pg_name (i := 0) (show (["row"] : List Str).Nodup by decide +kernel) rfl (.inl rfl))
        (fun _ _ _ _ _ _ _ hr' => pe_fn Fv hr' (by decide) pass0 (pa_cons (pv 0) pa_nil)))))))) (pss_one (ps_ret pe_bl)) pss_nil)
    (pss_one (ps_ret (pe_cmpR op_le (pe_lenK B (pe_scK (own := [("row", 1)]) (g := gName 1) (tt := tYes) (te := tCB (fun xs H Q => ∃ p ys, xs = [.ref p] ∧ (SqL K H p ys ∨ SqT K H p ys) ∧ Q (.int (ys.length : Nat)) H) (tCons (tVar 1) tNil)) rfl nd (pi_tup (pv 0))
        (blkOk_by (own := [("row", 1)]) (N := ["thing", "row"]) (sc := defScope s_is_matrix) (by decide +kernel))
        (fun _ _ _ _ _ => pg_name (i := 1) nd rfl (.inl rfl)) (fun _ _ _ _ _ => pts_nil) (fun _ _ _ _ _ => pe_lenq B (pv 1)))) pe_int (nomark _)))), ?_⟩
  refine ⟨_, rfl, [], v, matD m, 0, 48, rfl, hv, _, rfl, ?_⟩
  have e1 : tupB (matD m) 0 48 = true := by
    simp only [tupB, matD, List.length_map]
    rw [Bool.and_eq_true, decide_eq_true_eq, decide_eq_true_eq]
    omega
  rw [e1]
  refine iteF ?_
  obtain ⟨a, xs, rfl, ea, na, dx⟩ := dv_tup hv
  have lx := dx.length
  rw [List.length_map] at lx
  have main : ∀ Q2 : VK, (∀ H', Go T [] H H' → Tabs T H' → Q2 (.bl true) H') → tGen Pt (iTup K (tVar 0)) (gName 0) (tCall (sp_is_vector T) [] E0 (tCons (tVar 0) tNil)) ["row"] [] false (L2.start ["thing", "row"] [V.ref a]) H Q2 := fun Q2 hQ2 => by
    refine ⟨_, rfl, a, rfl, ⟨_, SqT.of ea⟩, all_tup (b := fun _ => true) ea na dx ht hP (fun x' d' H' R hd hv' g' t' hR' => ?_) fun H' g t => ?_⟩
    · obtain ⟨r, hr2, rfl⟩ := List.mem_map.mp hd
      exact ⟨_, rfl, _, _, _, rfl, hv', (hR r hr2).2, t', fun H2 g2 t2 => hR' H2 g2 t2⟩
    · have e2 : (m.map rowR).all (fun _ => true) = true := List.all_eq_true.mpr fun _ _ => rfl
      rw [e2]
      exact hQ2 H' g t
  have main2 : ∀ Qc : Bool → Hp → Prop, (∀ H', Go T [] H H' → Tabs T H' → Qc false H') → tNot (tB (tGen Pt (iTup K (tVar 0)) (gName 0) (tCall (sp_is_vector T) [] E0 (tCons (tVar 0) tNil)) ["row"] [] false)) (L2.start ["thing", "row"] [V.ref a]) H Qc :=
    fun Qc h => main (fun x H1 => ∃ c, x = V.bl c ∧ Qc (!c) H1) fun H' g t => ⟨_, rfl, h H' g t⟩
  refine main2 _ fun H' g t => ?_
  refine iteF ?_
  have ea' := g.tup ea (nn _)
  refine ⟨_, rfl, a, rfl, ⟨_, SqT.of ea'⟩, fun D hD => ?_⟩
  refine sc_map (T := T) (fun j => .inl (n : Int)) (walk_tup (xs := xs)) (fun H2 g2 => SqT.of (g2.tup ea' (nn _))) t Go.refl hD (by unfold scanBound; omega) (fun j v H6 H7 R hj g6 t6 y hR2 => ?_) (fun H6 g6 t6 ed6 => ?_)
  · obtain ⟨rfl, ey⟩ := y
    obtain ⟨d, ed, hx⟩ := ((dx.go g).go g6).get ey
    rw [List.getElem?_map] at ed
    obtain ⟨r, er, rfl⟩ := Option.map_eq_some_iff.mp ed
    obtain ⟨b, ys, rfl, eb, nb, dy⟩ := dv_tup hx
    have ly := dy.length
    rw [List.length_map, (hR r (List.mem_of_getElem? er)).1] at ly
    refine ⟨rfl, _, rfl, b, ys, rfl, .inr (SqT.of eb), ?_⟩
    rw [ly]
    exact hR2 _ Go.refl
  · refine ⟨D, _, _, rfl, ed6, _, _, rfl, rfl, ?_⟩
    have e3 : distK ((List.range xs.length).map fun _ => (Sum.inl (n : Int) : Key)) ≤ 1 := (distK_one _).mpr fun a ha b hb => by
      obtain ⟨_, _, rfl⟩ := List.mem_map.mp ha
      obtain ⟨_, _, rfl⟩ := List.mem_map.mp hb
      rfl
    have e4 : decide (((distK ((List.range xs.length).map fun _ => (Sum.inl (n : Int) : Key)) : Nat) : Int) ≤ 1) = true := decide_eq_true (by omega)
    show Q (V.bl (decide (((distK ((List.range xs.length).map fun _ => (Sum.inl (n : Int) : Key)) : Nat) : Int) ≤ 1))) H6
    rw [e4]
    exact q H6 (g.trans g6) t6
end
end KN
set_option Elab.async false
set_option linter.all false
set_option maxRecDepth 100000
set_option maxHeartbeats 4000000
/-! k41: demand_matrix, for matrices -/
namespace KN
open PySem PySem.Spec PyProof.Rows L2 GxR NdefX GA SL ZN RZ
/-- an own error class of the module -/
structure Xc (K : PySem.W.Frag) (mg : Str → Option Value) (x : Str) (C : Addr) : Prop where
  g : mg x = some (.ref C)
  x : PySem.W.excIn K C [.type "ValueError", .type "Exception", .type "BaseException", .type "object"] "ValueError.__new__" = true
  k : PySem.W.keepIn K (.ref C) = true
  b : PySem.W.subIn K (.ref C) (.type "BaseException") = some true
  t : PySem.W.typeIn K (.ref C) = some (.type "type")
theorem ps_raiseX {X : Cx} {W : WX} {C : Addr} {x m : Str} {j : Nat} {p p2 pos pos2 : Pos} (hc : X.calm = true) (T : Xc X.K X.mg x C) (tk : Takes X W) (hg : Gl X x := by rfl) (hdb : (x == ("__debug__" : Str)) = false := by decide) :
    PS X (.Raise (some (.Call (.Name x p) [.Constant (.str m) j p2] [] pos)) none pos2) (fun _ σ H => W (.ref C) none σ H) := ps_raise hc tk (pmk_own PySem.F.excBase_ValueError T.x T.g T.k (raises_own T.b T.t) hg hdb)
abbrev s_demand_matrix : Stmt := top 18
theorem sc_demand_matrix : FnScope ["rows"] ["rows"] (defScope s_demand_matrix) := ⟨rfl, rfl, rfl, by decide +kernel, rfl, by decide +kernel, by decide +kernel⟩
def sp_demand_matrix (T : List Addr) : Sp := fun vs H Q _ => ∃ (v : V) (m : Mat) (n : Nat), vs = [v] ∧ Dv [] H v (matD m) ∧ MatOk m n ∧ Tabs T H ∧ ∀ H', Go T [] H H' → Tabs T H' → Q .non H'
section
variable {P : Program} {w : World} {K : PySem.W.Frag} {mg : Str → Option Value} {base : Heap} {f CR : Addr} {fd : FuncData} {T : List Addr}
theorem ok_demand_matrix (F : Fun K "demand_matrix" "demand_matrix" s_demand_matrix f fd) (XR : Xc K mg "BadMatrix" CR) (Fi : Fnn P w K mg base CX0 6 "is_matrix" ["thing"] (sp_is_matrix T)) : FnOk P w K mg base CX0 7 f fd ["rows"] (sp_demand_matrix T) := by
  refine F.ok sc_demand_matrix (fun vs H Q E h => ?_) (fun cdv A outer s H vs Q E hr h => ?_)
  · obtain ⟨_, _, _, rfl, _⟩ := h
    rfl
  obtain ⟨v, m, n, rfl, hv, hm, ht, q⟩ := h
  refine ⟨_, pss_one (ps_if (pt_not (pt_val (pe_fn Fi hr (by decide) pass0 (pa_cons (pv 0) pa_nil)))) (pss_one (ps_raiseX rfl XR LamX.takes0)) pss_nil), ?_⟩
  exact ⟨_, rfl, v, m, n, rfl, hv, hm, ht, fun H' g t => ⟨_, rfl, iteF (q H' g t)⟩⟩
end
end KN
set_option Elab.async false
set_option linter.all false
set_option maxRecDepth 100000
set_option maxHeartbeats 4000000
/-! own words, 35: a list comprehension whose values are data, made meanwhile -/
namespace SL
open PySem PySem.Spec PyProof.Rows L2 GxR NdefX GA
section
variable {T M : List Addr} {H0 H1 : Hp} {J : It} {n : Nat} {G : Hp → Prop} {Y : Nat → Hp → V → Hp → Prop} {D : Addr} {Qd : Hp → Prop} {σ : L2.St} {g : TG} {te : TE} {vs : List Nat}
/-- [te for g in J]: F i the i-th value, as data that does not hold the list itself, nor what M names -/
theorem lc_dv (F : Nat → PyData) (w : Walk J n G Y) (hG : ∀ H', Go T [] H0 H' → G H') (ht : Tabs T H0) (g1 : Go T [] H0 H1) (hD : H1 D = none) (hn : n ≤ sizeLine)
    (hs : ∀ i x H' H'' (R : VK), i < n → Go T [] H0 H' → Tabs T H' → H' D ≠ none → Y i H' x H'' → (∀ v H3, Go T [] H' H3 → Dv (D :: M) H3 v (F i) → R v H3) → g x (wipe σ vs) H'' fun σ2 H2 => wipe σ2 vs = wipe σ vs ∧ te σ2 H2 R)
    (hq : ∀ H' ys, Go T [] H0 H' → Tabs T H' → H' D = some (.lst ys) → DvAll (D :: M) H' ys ((List.range n).map F) → Qd H') :
    ∃ W : Nat → Nat → Hp → Prop, (∃ m, W 0 m (upd H1 D (.lst []))) ∧ ∀ i' m H, W i' m H →
      (J.stop i' H ∧ Qd H) ∨ (J.go i' H ∧ ∃ Nx : Hp → Prop, (∀ H', Nx H' → ∃ m', m' < m ∧ W (i' + 1) m' H') ∧ ∀ x H', J.yld i' H x H' → g x (wipe σ vs) H' fun σ2 H2 => wipe σ2 vs = wipe σ vs ∧ tYes σ2 H2 fun b H3 =>
        if b = true then te σ2 H3 fun y H4 => ∃ acc, H4 D = some (.lst acc) ∧ acc.length < sizeLine ∧ Nx (upd H4 D (.lst (acc ++ [y]))) else Nx H3) := by
  have hD0 : H0 D = none := g1.al D hD
  refine lc_it w (fun i H' => Go T [] H0 H' ∧ ∃ ys, H' D = some (.lst ys) ∧ ys.length = i ∧ DvAll (D :: M) H' ys ((List.range i).map F)) ⟨g1.trans (Go.new hD), [], upd_same, rfl, .nil⟩ (fun i H' _ h => hG H' h.1) (fun i x H' H'' hlt h y => ?_)
    (fun H' ⟨gg, ys, e, _, da⟩ => hq H' ys gg (gg.tb ht) e da)
  obtain ⟨gg, ys, e, el, da⟩ := h
  refine hs i x H' H'' _ hlt gg (gg.tb ht) (by rw [e]; exact fun z => by cases z) y fun v H3 g3 dv => ?_
  have e3 := g3.lst e List.not_mem_nil
  have gs := Go.set (T := T) (M := D :: M) (o := .lst (ys ++ [v])) e3 (fun _ z => by cases z) (List.mem_cons_self ..)
  refine ⟨ys, e3, by omega, (gg.trans g3).over hD0 e3 (fun _ z => by cases z), ys ++ [v], upd_same, by rw [List.length_append, el] <;> rfl, ?_⟩
  rw [List.range_succ, List.map_append]
  exact DvAll.append ((da.go g3.of0).go gs) (.cons (dv.go gs) .nil)
end
end SL
set_option Elab.async false
set_option linter.all false
set_option maxRecDepth 100000
set_option maxHeartbeats 4000000
/-! own words, 42: a list comprehension with a test whose values are data; zip of two lists, the first the shorter -/
namespace SL
open PySem PySem.Spec PyProof.Rows L2 GxR NdefX GA RZ
section
variable {T M : List Addr} {H0 H1 : Hp} {J : It} {G : Hp → Prop} {Y : Nat → Hp → V → Hp → Prop} {D : Addr} {Qd : Hp → Prop} {σ : L2.St} {g : TG} {tt : TT} {te : TE} {vs : List Nat} {α : Type}
theorem lc_fdv (as : List α) (q : α → Bool) (F : α → PyData) (w : Walk J as.length G Y) (hG : ∀ H', Go T [] H0 H' → G H') (ht : Tabs T H0) (g1 : Go T [] H0 H1) (hD : H1 D = none) (hn : as.length ≤ sizeLine)
    (hs : ∀ i x a H' H'' (Rt : VK) (Rf : Hp → Prop), as[i]? = some a → Go T [] H0 H' → Tabs T H' → H' D ≠ none → Y i H' x H'' → (q a = true → ∀ v H3, Go T [] H' H3 → Dv (D :: M) H3 v (F a) → Rt v H3) → (q a = false → ∀ H3, Go T [] H' H3 → Rf H3) →
      g x (wipe σ vs) H'' fun σ2 H2 => wipe σ2 vs = wipe σ vs ∧ tt σ2 H2 fun b H3 => if b = true then te σ2 H3 Rt else Rf H3)
    (hq : ∀ H' ys, Go T [] H0 H' → Tabs T H' → H' D = some (.lst ys) → DvAll (D :: M) H' ys ((as.filter q).map F) → Qd H') :
    ∃ W : Nat → Nat → Hp → Prop, (∃ m, W 0 m (upd H1 D (.lst []))) ∧ ∀ i' m H, W i' m H →
      (J.stop i' H ∧ Qd H) ∨ (J.go i' H ∧ ∃ Nx : Hp → Prop, (∀ H', Nx H' → ∃ m', m' < m ∧ W (i' + 1) m' H') ∧ ∀ x H', J.yld i' H x H' → g x (wipe σ vs) H' fun σ2 H2 => wipe σ2 vs = wipe σ vs ∧ tt σ2 H2 fun b H3 =>
        if b = true then te σ2 H3 fun y H4 => ∃ acc, H4 D = some (.lst acc) ∧ acc.length < sizeLine ∧ Nx (upd H4 D (.lst (acc ++ [y]))) else Nx H3) := by
  have hD0 : H0 D = none := g1.al D hD
  refine lc_it w (fun i H' => Go T [] H0 H' ∧ ∃ ys, H' D = some (.lst ys) ∧ ys.length ≤ i ∧ DvAll (D :: M) H' ys (((as.take i).filter q).map F)) ⟨g1.trans (Go.new hD), [], upd_same, Nat.le_refl _, .nil⟩ (fun i H' _ h => hG H' h.1) (fun i x H' H'' hlt h y => ?_)
    (fun H' ⟨gg, ys, e, _, da⟩ => hq H' ys gg (gg.tb ht) e (by rwa [List.take_length] at da))
  obtain ⟨gg, ys, e, el, da⟩ := h
  have ea : as[i]? = some as[i] := List.getElem?_eq_getElem hlt
  generalize as[i] = a at ea
  have et : as.take (i + 1) = as.take i ++ [a] := by rw [List.take_add_one, ea] <;> rfl
  refine hs i x a H' H'' _ _ ea gg (gg.tb ht) (by rw [e]; exact fun z => by cases z) y (fun hqa v H3 g3 dv => ?_) fun hqa H3 g3 => ?_
  · have e3 := g3.lst e List.not_mem_nil
    have gs := Go.set (T := T) (M := D :: M) (o := .lst (ys ++ [v])) e3 (fun _ z => by cases z) (List.mem_cons_self ..)
    refine ⟨ys, e3, by omega, (gg.trans g3).over hD0 e3 (fun _ z => by cases z), ys ++ [v], upd_same, by rw [List.length_append]; show ys.length + 1 ≤ i + 1; omega, ?_⟩
    rw [et, List.filter_append, List.map_append, show [a].filter q = [a] by rw [List.filter_cons, if_pos hqa] <;> rfl]
    exact DvAll.append ((da.go g3.of0).go gs) (.cons (dv.go gs) .nil)
  · refine ⟨gg.trans g3, ys, g3.lst e List.not_mem_nil, by omega, ?_⟩
    rw [et, List.filter_append, show [a].filter q = [] by rw [List.filter_cons, if_neg (by rw [hqa]; simp)] <;> rfl, List.append_nil]
    exact da.go g3.of0
end
/-- the walk of zip over two lists, the first not the longer -/
theorem walkZS {K : PySem.W.Frag} {a b : Addr} {xs ys : List V} (hl : xs.length ≤ ys.length) : Walk (Itz K a b) xs.length (fun H => SqL K H a xs ∧ SqL K H b ys) (fun i H v G => ∃ p x y, v = .ref p ∧ H p = none ∧ G = upd H p (.tup [x, y]) ∧ xs[i]? = some x ∧ ys[i]? = some y) := by
  refine ⟨fun i H hi q => ?_, fun H q => ⟨xs, ys, q.1, q.2, .inl (Nat.le_refl _)⟩, fun i H v G hi q z => ?_⟩
  · exact ⟨xs, ys, xs[i], ys[i]'(by omega), q.1, q.2, by simp [hi], by simp [show i < ys.length by omega]⟩
  · obtain ⟨p, x, y, e1, e2, e3, e4, e5⟩ := z
    exact ⟨p, x, y, e1, e2, e3, e4 xs q.1, e5 ys q.2⟩
theorem Go.cut {T M M' : List Addr} {H H' : Hp} (g : Go T M' H H') (h : ∀ b ∈ M', b ∈ M ∨ H b = none) : Go T M H H' := ⟨fun b o e n t => g.gr b o e (fun z => (h b z).elim n fun w => by rw [e] at w; cases w) t, g.al, g.tb⟩
end SL
set_option Elab.async false
set_option linter.all false
set_option maxRecDepth 100000
set_option maxHeartbeats 4000000
/-! sums over the first n numbers; a small solution of few equations, by counting -/
namespace SQ
def sumN : Nat → (Nat → Int) → Int
  | 0, _ => 0
  | n + 1, f => sumN n f + f n
theorem sumN_congr {f g : Nat → Int} : ∀ {n : Nat}, (∀ i < n, f i = g i) → sumN n f = sumN n g
  | 0, _ => rfl
  | n + 1, h => by
    show sumN n f + f n = sumN n g + g n
    rw [sumN_congr (n := n) fun i hi => h i (by omega), h n (by omega)]
theorem sumN_zero : ∀ (n : Nat), sumN n (fun _ => 0) = 0
  | 0 => rfl
  | n + 1 => by show sumN n _ + 0 = 0; rw [sumN_zero n]; rfl
theorem sumN_zero' {f : Nat → Int} {n : Nat} (h : ∀ i < n, f i = 0) : sumN n f = 0 := (sumN_congr h).trans (sumN_zero n)
theorem sumN_add (f g : Nat → Int) : ∀ (n : Nat), sumN n (fun i => f i + g i) = sumN n f + sumN n g
  | 0 => rfl
  | n + 1 => by
    show sumN n _ + (f n + g n) = sumN n f + f n + (sumN n g + g n)
    rw [sumN_add f g n]
    omega
theorem sumN_mul (c : Int) (f : Nat → Int) : ∀ (n : Nat), sumN n (fun i => c * f i) = c * sumN n f
  | 0 => by show (0 : Int) = c * 0; rw [Int.mul_zero]
  | n + 1 => by
    show sumN n _ + c * f n = c * (sumN n f + f n)
    rw [sumN_mul c f n, Int.mul_add]
theorem sumN_sub (f g : Nat → Int) : ∀ (n : Nat), sumN n (fun i => f i - g i) = sumN n f - sumN n g
  | 0 => rfl
  | n + 1 => by
    show sumN n _ + (f n - g n) = sumN n f + f n - (sumN n g + g n)
    rw [sumN_sub f g n]
    omega
theorem sumN_swap (f : Nat → Nat → Int) : ∀ (n m : Nat), sumN n (fun i => sumN m (fun j => f i j)) = sumN m (fun j => sumN n (fun i => f i j))
  | 0, m => (sumN_zero m).symm
  | n + 1, m => by
    show sumN n _ + sumN m (fun j => f n j) = sumN m (fun j => sumN n (fun i => f i j) + f n j)
    rw [sumN_swap f n m, sumN_add]
theorem sumN_single {f : Nat → Int} {k : Nat} : ∀ {n : Nat}, (∀ i < n, i ≠ k → f i = 0) → k < n → sumN n f = f k
  | 0, _, h => absurd h (Nat.not_lt_zero _)
  | n + 1, h, hk => by
    show sumN n f + f n = f k
    by_cases e : k = n
    · subst e
      rw [sumN_zero' fun i hi => h i (by omega) (by omega), Int.zero_add]
    · rw [sumN_single (n := n) (fun i hi hn => h i (by omega) hn) (by omega), h n (by omega) (fun z => e z.symm), Int.add_zero]
theorem sumN_abs {f : Nat → Int} {B : Nat} : ∀ {n : Nat}, (∀ i < n, (f i).natAbs ≤ B) → (sumN n f).natAbs ≤ n * B
  | 0, _ => by simp [sumN]
  | n + 1, h => by
    have h1 := sumN_abs (n := n) fun i hi => h i (by omega)
    have h2 := h n (by omega)
    have h3 := Int.natAbs_add_le (sumN n f) (f n)
    show (sumN n f + f n).natAbs ≤ _
    rw [Nat.succ_mul]
    omega
theorem sumN_dvd {f : Nat → Int} {d : Int} : ∀ {n : Nat}, (∀ i < n, d ∣ f i) → d ∣ sumN n f
  | 0, _ => ⟨0, by rw [Int.mul_zero]; rfl⟩
  | n + 1, h => Int.dvd_add (sumN_dvd (n := n) fun i hi => h i (by omega)) (h n (by omega))
/-- more items than places -/
theorem pigeon : ∀ (n : Nat) (f : Nat → Nat), (∀ i ≤ n, f i < n) → ∃ i j, i < j ∧ j ≤ n ∧ f i = f j
  | 0, f, h => absurd (h 0 (Nat.le_refl _)) (Nat.not_lt_zero _)
  | n + 1, f, h => by
    by_cases c : ∃ i, i ≤ n ∧ f i = f (n + 1)
    · obtain ⟨i, hi, e⟩ := c
      exact ⟨i, n + 1, by omega, Nat.le_refl _, e⟩
    have c : ∀ i ≤ n, f i ≠ f (n + 1) := fun i hi e => c ⟨i, hi, e⟩
    obtain ⟨i, j, hij, hj, e⟩ := pigeon n (fun i => if f i = n then f (n + 1) else f i) fun i hi => by
      have h1 := h i (by omega)
      have h2 := h (n + 1) (Nat.le_refl _)
      have h3 := c i hi
      show (if f i = n then f (n + 1) else f i) < n
      split <;> omega
    refine ⟨i, j, hij, by omega, ?_⟩
    have ci := c i (by omega)
    have cj := c j hj
    have e : (if f i = n then f (n + 1) else f i) = if f j = n then f (n + 1) else f j := e
    split at e <;> split at e <;> omega
/-- digits -/
def dig (b : Nat) : Nat → Nat → Nat
  | 0, n => n % b
  | j + 1, n => dig b j (n / b)
theorem dig_lt {b : Nat} (hb : 0 < b) : ∀ (j n : Nat), dig b j n < b
  | 0, n => Nat.mod_lt _ hb
  | j + 1, n => dig_lt hb j (n / b)
theorem dig_inj {b : Nat} (hb : 0 < b) : ∀ (r n m : Nat), n < b ^ r → m < b ^ r → (∀ j < r, dig b j n = dig b j m) → n = m
  | 0, n, m, hn, hm, _ => by
    simp at hn hm
    omega
  | r + 1, n, m, hn, hm, h => by
    have e0 : n % b = m % b := h 0 (by omega)
    have e1 : n / b = m / b := dig_inj hb r _ _ (Nat.div_lt_of_lt_mul (by rw [Nat.mul_comm, ← Nat.pow_succ]; exact hn)) (Nat.div_lt_of_lt_mul (by rw [Nat.mul_comm, ← Nat.pow_succ]; exact hm)) fun j hj => h (j + 1) (by omega)
    rw [← Nat.div_add_mod n b, ← Nat.div_add_mod m b, e0, e1]
def code (M : Nat) : Nat → (Nat → Nat) → Nat
  | 0, _ => 0
  | k + 1, v => v 0 + M * code M k (fun i => v (i + 1))
theorem code_lt {M : Nat} : ∀ (k : Nat) (v : Nat → Nat), (∀ i < k, v i < M) → code M k v < M ^ k
  | 0, v, _ => by simp [code]
  | k + 1, v, h => by
    have h1 := code_lt k (fun i => v (i + 1)) fun i hi => h (i + 1) (by omega)
    have h0 := h 0 (by omega)
    show v 0 + M * code M k (fun i => v (i + 1)) < M ^ (k + 1)
    rw [Nat.pow_succ, Nat.mul_comm (M ^ k) M]
    have : M * (code M k (fun i => v (i + 1)) + 1) ≤ M * M ^ k := Nat.mul_le_mul (Nat.le_refl _) h1
    rw [Nat.mul_add, Nat.mul_one] at this
    omega
theorem code_inj {M : Nat} : ∀ (k : Nat) (v u : Nat → Nat), (∀ i < k, v i < M) → (∀ i < k, u i < M) → code M k v = code M k u → ∀ i < k, v i = u i
  | 0, v, u, _, _, _, i, hi => absurd hi (Nat.not_lt_zero _)
  | k + 1, v, u, hv, hu, e, i, hi => by
    have e : v 0 + M * code M k (fun i => v (i + 1)) = u 0 + M * code M k (fun i => u (i + 1)) := e
    have hv0 := hv 0 (by omega)
    have hu0 := hu 0 (by omega)
    have m1 : (v 0 + M * code M k (fun i => v (i + 1))) % M = v 0 := by rw [Nat.add_mul_mod_self_left, Nat.mod_eq_of_lt hv0]
    have m2 : (u 0 + M * code M k (fun i => u (i + 1))) % M = u 0 := by rw [Nat.add_mul_mod_self_left, Nat.mod_eq_of_lt hu0]
    have e0 : v 0 = u 0 := by rw [← m1, ← m2, e]
    have e1 : code M k (fun i => v (i + 1)) = code M k (fun i => u (i + 1)) := by
      rw [e0] at e
      have := Nat.add_left_cancel e
      exact Nat.eq_of_mul_eq_mul_left (by omega) this
    cases i with
    | zero => exact e0
    | succ i => exact code_inj k _ _ (fun j hj => hv (j + 1) (by omega)) (fun j hj => hu (j + 1) (by omega)) e1 i (by omega)
/-- m equations in m + 1 unknowns have a small solution -/
theorem siegel (m B : Nat) (hB : 1 ≤ B) (a : Nat → Nat → Int) (ha : ∀ k < m, ∀ j < m + 1, (a k j).natAbs ≤ B) :
    ∃ x : Nat → Int, (∃ j, j < m + 1 ∧ x j ≠ 0) ∧ (∀ j < m + 1, (x j).natAbs ≤ (2 * (m + 1) * B) ^ m) ∧ ∀ k < m, sumN (m + 1) (fun j => a k j * x j) = 0 := by
  obtain ⟨X, hX⟩ : ∃ X, X = (2 * (m + 1) * B) ^ m := ⟨_, rfl⟩
  obtain ⟨C, hC⟩ : ∃ C, C = (m + 1) * (B * X) := ⟨_, rfl⟩
  have hM : (2 * C + 1) ^ m < (X + 1) ^ (m + 1) := by
    have h1 : 2 * C + 1 ≤ 2 * (m + 1) * B * (X + 1) := by
      have e1 : 2 * C = 2 * (m + 1) * B * X := by rw [hC]; simp only [Nat.mul_assoc]
      have e2 : 1 ≤ 2 * (m + 1) * B := by
        have : 1 * 1 ≤ 2 * (m + 1) * B := Nat.mul_le_mul (by omega) hB
        omega
      rw [Nat.mul_add, Nat.mul_one, e1]
      omega
    have h2 := Nat.pow_le_pow_left h1 m
    rw [Nat.mul_pow, ← hX] at h2
    have h3 : X * (X + 1) ^ m < (X + 1) ^ (m + 1) := by
      rw [Nat.pow_succ, Nat.mul_comm ((X + 1) ^ m)]
      exact Nat.mul_lt_mul_of_pos_right (by omega) (Nat.pow_pos (by omega))
    omega
  obtain ⟨val, hval⟩ : ∃ val : Nat → Nat → Nat, val = fun n k => (sumN (m + 1) (fun j => a k j * (dig (X + 1) j n : Int)) + (C : Int)).toNat := ⟨_, rfl⟩
  have hbd : ∀ n k, k < m → (sumN (m + 1) (fun j => a k j * (dig (X + 1) j n : Int))).natAbs ≤ C := fun n k hk => by
    rw [hC]
    refine sumN_abs fun j hj => ?_
    rw [Int.natAbs_mul]
    have := dig_lt (b := X + 1) (by omega) j n
    exact Nat.mul_le_mul (ha k hk j hj) (by show dig (X + 1) j n ≤ X; omega)
  have hvl : ∀ n k, k < m → val n k < 2 * C + 1 := fun n k hk => by
    have := hbd n k hk
    rw [hval]
    show (_ + (C : Int)).toNat < _
    omega
  have big : ∀ i ≤ (X + 1) ^ (m + 1) - 1, code (2 * C + 1) m (val i) < (X + 1) ^ (m + 1) - 1 + 0 ∨ True := fun _ _ => .inr trivial
  obtain ⟨i, j, hij, hj, e⟩ := pigeon ((X + 1) ^ (m + 1) - 1) (fun n => code (2 * C + 1) m (val n)) fun i hi => by
    have := code_lt (M := 2 * C + 1) m (val i) (hvl i)
    show code (2 * C + 1) m (val i) < _
    omega
  have hpos : 0 < (X + 1) ^ (m + 1) := Nat.pow_pos (by omega)
  have ev := code_inj m (val i) (val j) (hvl i) (hvl j) e
  refine ⟨fun k => (dig (X + 1) k i : Int) - (dig (X + 1) k j : Int), ?_, fun k hk => ?_, fun k hk => ?_⟩
  · refine Classical.byContradiction fun hn => ?_
    have all : ∀ k < m + 1, dig (X + 1) k i = dig (X + 1) k j := fun k hk => by
      refine Classical.byContradiction fun hne => hn ⟨k, hk, fun z => hne ?_⟩
      have z : (dig (X + 1) k i : Int) - (dig (X + 1) k j : Int) = 0 := z
      omega
    have := dig_inj (b := X + 1) (by omega) (m + 1) i j (by omega) (by omega) all
    omega
  · have h1 := dig_lt (b := X + 1) (by omega) k i
    have h2 := dig_lt (b := X + 1) (by omega) k j
    rw [← hX]
    show ((dig (X + 1) k i : Int) - (dig (X + 1) k j : Int)).natAbs ≤ X
    omega
  · have e1 : (fun t => a k t * ((dig (X + 1) t i : Int) - (dig (X + 1) t j : Int))) = fun t => a k t * (dig (X + 1) t i : Int) - a k t * (dig (X + 1) t j : Int) := by
      funext t
      rw [Int.mul_sub]
    show sumN (m + 1) (fun t => a k t * ((dig (X + 1) t i : Int) - (dig (X + 1) t j : Int))) = 0
    rw [e1, sumN_sub]
    have h1 := hbd i k hk
    have h2 := hbd j k hk
    have h3 := ev k hk
    rw [hval] at h3
    have h3 : (sumN (m + 1) (fun t => a k t * (dig (X + 1) t i : Int)) + (C : Int)).toNat = (sumN (m + 1) (fun t => a k t * (dig (X + 1) t j : Int)) + (C : Int)).toNat := h3
    omega
end SQ
set_option Elab.async false
set_option linter.all false
set_option maxRecDepth 100000
set_option maxHeartbeats 4000000
/-! elimination over whole numbers: rows and what is left of a vector -/
namespace SQ
def ent (xs : List Int) (i : Nat) : Int := xs.getD i 0
def row (rs : List (List Int)) (i : Nat) : List Int := rs.getD i []
def piv (ps : List Nat) (k : Nat) : Nat := ps.getD k 0
theorem ent_get {xs : List Int} {i : Nat} (h : i < xs.length) : ent xs i = xs[i] := by
  rw [ent, List.getD_eq_getElem?_getD, List.getElem?_eq_getElem h] <;> rfl
theorem ent_ge {xs : List Int} {i : Nat} (h : xs.length ≤ i) : ent xs i = 0 := by
  rw [ent, List.getD_eq_getElem?_getD, List.getElem?_eq_none h] <;> rfl
theorem row_get {rs : List (List Int)} {i : Nat} (h : i < rs.length) : row rs i = rs[i] := by
  rw [row, List.getD_eq_getElem?_getD, List.getElem?_eq_getElem h] <;> rfl
theorem piv_get {ps : List Nat} {i : Nat} (h : i < ps.length) : piv ps i = ps[i] := by
  rw [piv, List.getD_eq_getElem?_getD, List.getElem?_eq_getElem h] <;> rfl
theorem ent_map {f : Int → Int} (h0 : f 0 = 0) (xs : List Int) (i : Nat) : ent (xs.map f) i = f (ent xs i) := by
  by_cases h : i < xs.length
  · rw [ent_get (by rw [List.length_map]; exact h), ent_get h, List.getElem_map]
  · rw [ent_ge (by rw [List.length_map]; omega), ent_ge (by omega), h0]
theorem ent_app_left {xs ys : List Int} {i : Nat} (h : i < xs.length) : ent (xs ++ ys) i = ent xs i := by
  rw [ent, ent, List.getD_eq_getElem?_getD, List.getD_eq_getElem?_getD, List.getElem?_append_left h]
theorem ent_app_right {xs ys : List Int} {i : Nat} (h : xs.length ≤ i) : ent (xs ++ ys) i = ent ys (i - xs.length) := by
  rw [ent, ent, List.getD_eq_getElem?_getD, List.getD_eq_getElem?_getD, List.getElem?_append_right h]
theorem ent_zip {f : Int → Int → Int} {xs ys : List Int} {i : Nat} (h : i < xs.length) (h2 : xs.length ≤ ys.length) : ent (List.zipWith f xs ys) i = f (ent xs i) (ent ys i) := by
  rw [ent_get (by rw [List.length_zipWith]; omega), ent_get h, ent_get (show i < ys.length by omega), List.getElem_zipWith]
theorem ent_ext {xs ys : List Int} (hl : xs.length = ys.length) (h : ∀ i < xs.length, ent xs i = ent ys i) : xs = ys := by
  refine List.ext_getElem hl fun i h1 h2 => ?_
  have := h i h1
  rwa [ent_get h1, ent_get h2] at this
/-! ### what is left of a vector -/
def usedOf (ps : List Nat) (rs : List (List Int)) (tops : List Int) : List (Nat × List Int) := (ps.zip rs).filter fun pr => decide (ent tops pr.1 ≠ 0)
def totOf (us : List (Nat × List Int)) : Nat := us.foldl (fun t pr => Nat.lcm t (ent pr.2 pr.1).natAbs) 1
def wtOf (tops : List Int) (tot : Int) (pr : Nat × List Int) : Int := ent tops pr.1 * (tot / ent pr.2 pr.1)
def stepOf (tops : List Int) (tot : Int) (rest : List Int) (pr : Nat × List Int) : List Int := List.zipWith (fun e o => e - wtOf tops tot pr * o) rest pr.2
def tot (ps : List Nat) (rs : List (List Int)) (tops : List Int) : Nat := totOf (usedOf ps rs tops)
def restOf (ps : List Nat) (rs : List (List Int)) (tops : List Int) : List Int := (usedOf ps rs tops).foldl (stepOf tops (tot ps rs tops)) (tops.map ((tot ps rs tops : Int) * ·))
theorem fold_dvd : ∀ (us : List (Nat × List Int)) (a : Nat), a ∣ us.foldl (fun t pr => Nat.lcm t (ent pr.2 pr.1).natAbs) a
  | [], a => Nat.dvd_refl a
  | u :: us, a => Nat.dvd_trans (Nat.dvd_lcm_left a _) (fold_dvd us _)
theorem fold_mem : ∀ {us : List (Nat × List Int)} {a : Nat} {u : Nat × List Int}, u ∈ us → (ent u.2 u.1).natAbs ∣ us.foldl (fun t pr => Nat.lcm t (ent pr.2 pr.1).natAbs) a
  | v :: us, a, u, h => by
    rcases List.mem_cons.mp h with rfl | h
    · exact Nat.dvd_trans (Nat.dvd_lcm_right a _) (fold_dvd us _)
    · exact fold_mem (us := us) (a := Nat.lcm a (ent v.2 v.1).natAbs) h
theorem fold_pos : ∀ {us : List (Nat × List Int)} {a : Nat}, 0 < a → (∀ u ∈ us, ent u.2 u.1 ≠ 0) → 0 < us.foldl (fun t pr => Nat.lcm t (ent pr.2 pr.1).natAbs) a
  | [], a, h, _ => h
  | u :: us, a, h, hu => fold_pos (us := us) (Nat.lcm_pos h (Int.natAbs_pos.mpr (hu u List.mem_cons_self))) fun v hv => hu v (List.mem_cons_of_mem _ hv)
theorem fold_le {D : Nat} : ∀ {us : List (Nat × List Int)} {a : Nat}, (∀ u ∈ us, (ent u.2 u.1).natAbs ≤ D) → us.foldl (fun t pr => Nat.lcm t (ent pr.2 pr.1).natAbs) a ≤ a * D ^ us.length
  | [], a, _ => by simp
  | u :: us, a, h => by
    have h1 := fold_le (D := D) (us := us) (a := Nat.lcm a (ent u.2 u.1).natAbs) fun v hv => h v (List.mem_cons_of_mem _ hv)
    have h2 : Nat.lcm a (ent u.2 u.1).natAbs ≤ a * D := Nat.le_trans (Nat.div_le_self _ _) (Nat.mul_le_mul (Nat.le_refl _) (h u List.mem_cons_self))
    refine Nat.le_trans h1 (Nat.le_trans (Nat.mul_le_mul h2 (Nat.le_refl _)) ?_)
    rw [List.length_cons, Nat.pow_succ, Nat.mul_assoc, Nat.mul_comm D]
    exact Nat.le_refl _
theorem step_len {tops : List Int} {t : Int} {rest : List Int} {pr : Nat × List Int} (h : rest.length ≤ pr.2.length) : (stepOf tops t rest pr).length = rest.length := by
  rw [stepOf, List.length_zipWith]
  omega
theorem fold_len {tops : List Int} {t : Int} : ∀ {us : List (Nat × List Int)} {rest : List Int}, (∀ u ∈ us, rest.length ≤ u.2.length) → (us.foldl (stepOf tops t) rest).length = rest.length
  | [], rest, _ => rfl
  | u :: us, rest, h => by
    have hl := step_len (tops := tops) (t := t) (h u List.mem_cons_self)
    have := fold_len (tops := tops) (t := t) (us := us) (rest := stepOf tops t rest u) fun v hv => by rw [hl]; exact h v (List.mem_cons_of_mem _ hv)
    rw [List.foldl_cons, this, hl]
theorem fold_ent {tops : List Int} {t : Int} {e : Nat} : ∀ {us : List (Nat × List Int)} {rest : List Int}, (∀ u ∈ us, rest.length ≤ u.2.length) → e < rest.length →
    ent (us.foldl (stepOf tops t) rest) e = ent rest e - (us.map fun u => wtOf tops t u * ent u.2 e).sum
  | [], rest, _, _ => by simp
  | u :: us, rest, h, he => by
    have hl := step_len (tops := tops) (t := t) (h u List.mem_cons_self)
    have := fold_ent (tops := tops) (t := t) (e := e) (us := us) (rest := stepOf tops t rest u) (fun v hv => by rw [hl]; exact h v (List.mem_cons_of_mem _ hv)) (by rw [hl]; exact he)
    rw [List.foldl_cons, this, stepOf, ent_zip he (h u List.mem_cons_self), List.map_cons, List.sum_cons]
    omega
theorem sum_filter {f : Nat × List Int → Int} {q : Nat × List Int → Bool} : ∀ {l : List (Nat × List Int)}, (∀ u ∈ l, q u = false → f u = 0) → ((l.filter q).map f).sum = (l.map f).sum
  | [], _ => rfl
  | u :: l, h => by
    have ih := sum_filter (f := f) (q := q) (l := l) fun v hv => h v (List.mem_cons_of_mem _ hv)
    rw [List.filter_cons]
    cases c : q u with
    | true => rw [if_pos rfl, List.map_cons, List.sum_cons, List.map_cons, List.sum_cons, ih]
    | false => rw [if_neg (by simp), List.map_cons, List.sum_cons, ih, h u List.mem_cons_self c, Int.zero_add]
theorem sum_zip {f : Nat × List Int → Int} : ∀ {ps : List Nat} {rs : List (List Int)}, ps.length = rs.length → ((ps.zip rs).map f).sum = sumN ps.length fun k => f (piv ps k, row rs k) := by
  intro ps rs h
  have key : ∀ n, n ≤ ps.length → (((ps.zip rs).take n).map f).sum = sumN n fun k => f (piv ps k, row rs k) := by
    intro n
    induction n with
    | zero => intro _; simp [sumN]
    | succ n ih =>
      intro hn
      have hz : n < (ps.zip rs).length := by rw [List.length_zip]; omega
      rw [List.take_add_one, List.getElem?_eq_getElem hz, List.map_append, List.sum_append, ih (by omega)]
      show _ + ([f (ps.zip rs)[n]] : List Int).sum = sumN n _ + f (piv ps n, row rs n)
      rw [List.getElem_zip, piv_get (by omega), row_get (by omega)]
      simp
  have := key ps.length (Nat.le_refl _)
  rwa [List.take_of_length_le (by rw [List.length_zip]; omega)] at this
/-- r rows stand for r vectors ts of the width w -/
structure Sp (w : Nat) (ts : List (List Int)) (ps : List Nat) (rs : List (List Int)) : Prop where
  lp : ps.length = ts.length
  lr : rs.length = ts.length
  lt : ∀ t ∈ ts, t.length = w
  lw : ∀ R ∈ rs, R.length = w + ts.length
  pw : ∀ p ∈ ps, p < w
  lin : ∀ i < ts.length, ∀ e < w, ent (row rs i) e = sumN ts.length fun j => ent (row rs i) (w + j) * ent (row ts j) e
  on : ∀ i < ts.length, ent (row rs i) (piv ps i) ≠ 0
  off : ∀ i < ts.length, ∀ k < ts.length, i ≠ k → ent (row rs i) (piv ps k) = 0
  prim : ∀ i < ts.length, ∀ d : Int, (∀ j < ts.length, d ∣ ent (row rs i) (w + j)) → d ∣ 1
  inj : ∀ x : Nat → Int, (∀ k < ts.length, sumN ts.length (fun j => x j * ent (row ts j) (piv ps k)) = 0) → ∀ j < ts.length, x j = 0
section
variable {w : Nat} {ts : List (List Int)} {ps : List Nat} {rs : List (List Int)} {tops : List Int}
theorem Sp.mem_zip (h : Sp w ts ps rs) {u : Nat × List Int} (hu : u ∈ ps.zip rs) : ∃ k < ts.length, u = (piv ps k, row rs k) := by
  obtain ⟨k, hk⟩ := List.mem_iff_getElem?.mp hu
  obtain ⟨hl, e⟩ := List.getElem?_eq_some_iff.mp hk
  have hl' := hl
  rw [List.length_zip, h.lp, h.lr, Nat.min_self] at hl'
  refine ⟨k, hl', ?_⟩
  rw [← e, List.getElem_zip, piv_get (by rw [h.lp]; exact hl'), row_get (by rw [h.lr]; exact hl')]
theorem Sp.row_len (h : Sp w ts ps rs) {k : Nat} (hk : k < ts.length) : (row rs k).length = w + ts.length := by
  rw [row_get (by rw [h.lr]; exact hk)]
  exact h.lw _ (List.getElem_mem _)
theorem Sp.piv_lt (h : Sp w ts ps rs) {k : Nat} (hk : k < ts.length) : piv ps k < w := by
  rw [piv_get (by rw [h.lp]; exact hk)]
  exact h.pw _ (List.getElem_mem _)
theorem Sp.ts_len (h : Sp w ts ps rs) {k : Nat} (hk : k < ts.length) : (row ts k).length = w := by
  rw [row_get hk]
  exact h.lt _ (List.getElem_mem _)
theorem Sp.tot_pos (h : Sp w ts ps rs) : 0 < tot ps rs tops := fold_pos (by decide) fun u hu => by
  obtain ⟨k, hk, rfl⟩ := h.mem_zip (List.mem_filter.mp hu).1
  exact h.on k hk
theorem Sp.rest_len (h : Sp w ts ps rs) (hl : tops.length ≤ w + ts.length) : (restOf ps rs tops).length = tops.length := by
  rw [restOf, fold_len, List.length_map]
  intro u hu
  obtain ⟨k, hk, rfl⟩ := h.mem_zip (List.mem_filter.mp hu).1
  rw [List.length_map, h.row_len hk]
  exact hl
/-- the weight of the k-th row -/
def wt (ps : List Nat) (rs : List (List Int)) (tops : List Int) (k : Nat) : Int := wtOf tops (tot ps rs tops) (piv ps k, row rs k)
theorem Sp.rest_ent (h : Sp w ts ps rs) (hl : tops.length ≤ w + ts.length) {e : Nat} (he : e < tops.length) :
    ent (restOf ps rs tops) e = tot ps rs tops * ent tops e - sumN ts.length fun k => wt ps rs tops k * ent (row rs k) e := by
  have hlen : ∀ u ∈ usedOf ps rs tops, (tops.map ((tot ps rs tops : Int) * ·)).length ≤ u.2.length := fun u hu => by
    obtain ⟨k, hk, rfl⟩ := h.mem_zip (List.mem_filter.mp hu).1
    rw [List.length_map, h.row_len hk]
    exact hl
  rw [restOf, fold_ent hlen (by rw [List.length_map]; exact he), ent_map (by rw [Int.mul_zero]), usedOf, sum_filter, sum_zip (by rw [h.lp, h.lr]), h.lp]
  · rfl
  · intro u hu hq
    have : ent tops u.1 = 0 := by simpa using hq
    unfold wtOf
    rw [this, Int.zero_mul, Int.zero_mul]
theorem Sp.rest_piv (h : Sp w ts ps rs) (hl : tops.length ≤ w + ts.length) (hw : w ≤ tops.length) {k : Nat} (hk : k < ts.length) : ent (restOf ps rs tops) (piv ps k) = 0 := by
  have hp := h.piv_lt hk
  rw [h.rest_ent hl (by omega), sumN_single (k := k) (fun i hi hn => by rw [h.off i hi k hk hn, Int.mul_zero]) hk]
  unfold wt wtOf
  by_cases c : ent tops (piv ps k) = 0
  · rw [c, Int.mul_zero, Int.zero_mul, Int.zero_mul]; rfl
  · have hm : (piv ps k, row rs k) ∈ usedOf ps rs tops := by
      refine List.mem_filter.mpr ⟨?_, by simpa using c⟩
      refine List.mem_iff_getElem?.mpr ⟨k, ?_⟩
      have hz : k < (ps.zip rs).length := by rw [List.length_zip, h.lp, h.lr]; omega
      rw [List.getElem?_eq_getElem hz, List.getElem_zip, piv_get (by rw [h.lp]; exact hk), row_get (by rw [h.lr]; exact hk)]
    have hd : (ent (row rs k) (piv ps k)) ∣ (tot ps rs tops : Int) := Int.natAbs_dvd.mp (Int.natCast_dvd_natCast.mpr (fold_mem (a := 1) hm))
    have e := Int.ediv_mul_cancel hd
    show (tot ps rs tops : Int) * ent tops (piv ps k) - ent tops (piv ps k) * ((tot ps rs tops : Int) / ent (row rs k) (piv ps k)) * ent (row rs k) (piv ps k) = 0
    rw [Int.mul_assoc, e, Int.mul_comm, Int.sub_self]
/-- a sum of the vectors that is 0 at all pivots is 0 -/
theorem Sp.zero (h : Sp w ts ps rs) {x : Nat → Int} (hx : ∀ k < ts.length, sumN ts.length (fun j => x j * ent (row ts j) (piv ps k)) = 0) (e : Nat) : sumN ts.length (fun j => x j * ent (row ts j) e) = 0 :=
  sumN_zero' fun j hj => by rw [h.inj x hx j hj, Int.zero_mul]
end
end SQ
set_option Elab.async false
set_option linter.all false
set_option maxRecDepth 100000
set_option maxHeartbeats 4000000
/-! elimination over whole numbers: a vector put in -/
namespace SQ
/-! ### without a common divisor -/
def gcdL (xs : List Int) : Nat := xs.foldl (fun g e => Nat.gcd g e.natAbs) 0
def prL (xs : List Int) : List Int := xs.map (· / (gcdL xs : Int))
theorem gfold_dvd : ∀ (xs : List Int) (a : Nat), xs.foldl (fun g e => Nat.gcd g e.natAbs) a ∣ a
  | [], a => Nat.dvd_refl a
  | x :: xs, a => Nat.dvd_trans (gfold_dvd xs _) (Nat.gcd_dvd_left a x.natAbs)
theorem gfold_mem : ∀ {xs : List Int} {a : Nat} {x : Int}, x ∈ xs → xs.foldl (fun g e => Nat.gcd g e.natAbs) a ∣ x.natAbs
  | y :: xs, a, x, h => by
    rcases List.mem_cons.mp h with rfl | h
    · exact Nat.dvd_trans (gfold_dvd xs _) (Nat.gcd_dvd_right a x.natAbs)
    · exact gfold_mem (xs := xs) (a := Nat.gcd a y.natAbs) h
theorem gfold_gr {d : Nat} : ∀ {xs : List Int} {a : Nat}, d ∣ a → (∀ x ∈ xs, d ∣ x.natAbs) → d ∣ xs.foldl (fun g e => Nat.gcd g e.natAbs) a
  | [], a, h, _ => h
  | x :: xs, a, h, hx => gfold_gr (xs := xs) (Nat.dvd_gcd h (hx x List.mem_cons_self)) fun y hy => hx y (List.mem_cons_of_mem _ hy)
theorem gcdL_dvd {xs : List Int} {x : Int} (h : x ∈ xs) : (gcdL xs : Int) ∣ x := Int.dvd_natAbs.mp (Int.natCast_dvd_natCast.mpr (gfold_mem (a := 0) h))
theorem gcdL_pos {xs : List Int} {x : Int} (h : x ∈ xs) (h0 : x ≠ 0) : 0 < gcdL xs := by
  have := gfold_mem (a := 0) h
  exact Nat.pos_of_dvd_of_pos this (Int.natAbs_pos.mpr h0)
theorem prL_len (xs : List Int) : (prL xs).length = xs.length := by rw [prL, List.length_map]
theorem ent_dvd (xs : List Int) (i : Nat) : (gcdL xs : Int) ∣ ent xs i := by
  by_cases h : i < xs.length
  · rw [ent_get h]; exact gcdL_dvd (List.getElem_mem _)
  · rw [ent_ge (by omega)]; exact ⟨0, by rw [Int.mul_zero]⟩
theorem prL_mul (xs : List Int) (i : Nat) : (gcdL xs : Int) * ent (prL xs) i = ent xs i := by
  rw [prL, ent_map (by rw [Int.zero_ediv])]
  exact Int.mul_ediv_cancel' (ent_dvd xs i)
theorem prL_prim {xs : List Int} (hp : 0 < gcdL xs) {d : Int} (h : ∀ i < xs.length, d ∣ ent (prL xs) i) : d ∣ 1 := by
  have h1 : (gcdL xs * d.natAbs) ∣ gcdL xs := gfold_gr (Nat.dvd_zero _) fun x hx => by
    obtain ⟨i, hi, rfl⟩ := List.getElem_of_mem hx
    have h2 := h i hi
    have h3 := prL_mul xs i
    rw [ent_get hi] at h3
    obtain ⟨c, hc⟩ := h2
    rw [hc] at h3
    rw [← h3, Int.natAbs_mul, Int.natAbs_mul]
    exact ⟨c.natAbs, by simp [Nat.mul_assoc]⟩
  obtain ⟨c, hc⟩ := h1
  have h4 : 1 = d.natAbs * c := by
    refine Nat.eq_of_mul_eq_mul_left hp ?_
    rw [Nat.mul_one, ← Nat.mul_assoc]
    exact hc
  exact Int.natAbs_dvd.mp ⟨(c : Int), by rw [← Int.natCast_mul, ← h4]; rfl⟩
/-! ### a row made 0 at a place by another -/
def elimOf (R fresh : List Int) (q : Nat) : List Int :=
  if ent R q = 0 then R else prL (List.zipWith (fun e o => ent (prL [ent fresh q, ent R q]) 0 * e - ent (prL [ent fresh q, ent R q]) 1 * o) R fresh)
/-- what the new row is -/
structure Elim (n : Nat) (q : Nat) (R fresh R' : List Int) : Prop where
  len : R'.length = n
  zero : ent R' q = 0
  eq : ∃ a b d : Int, a ≠ 0 ∧ d ≠ 0 ∧ ∀ e < n, d * ent R' e = a * ent R e - b * ent fresh e
theorem elim_of {n q : Nat} {R fresh : List Int} (h1 : R.length = n) (h2 : fresh.length = n) (hq : q < n) (hf : ent fresh q ≠ 0) (hne : ∃ e < n, ent R e ≠ 0 ∧ ent fresh e = 0) : Elim n q R fresh (elimOf R fresh q) ∧ (ent R q ≠ 0 → ∀ d : Int, (∀ e < n, d ∣ ent (elimOf R fresh q) e) → d ∣ 1) := by
  unfold elimOf
  by_cases c : ent R q = 0
  · rw [if_pos c]
    exact ⟨⟨h1, c, 1, 0, 1, by decide, by decide, fun e _ => by omega⟩, fun z => absurd c z⟩
  · rw [if_neg c]
    have p0 := prL_mul [ent fresh q, ent R q] 0
    have p1 := prL_mul [ent fresh q, ent R q] 1
    have e0 : ent [ent fresh q, ent R q] 0 = ent fresh q := rfl
    have e1 : ent [ent fresh q, ent R q] 1 = ent R q := rfl
    rw [e0] at p0
    rw [e1] at p1
    generalize ent (prL [ent fresh q, ent R q]) 0 = a at *
    generalize ent (prL [ent fresh q, ent R q]) 1 = b at *
    generalize (gcdL [ent fresh q, ent R q] : Int) = g at *
    have ha : a ≠ 0 := fun z => hf (by rw [← p0, z, Int.mul_zero])
    have hg : g ≠ 0 := fun z => hf (by rw [← p0, z, Int.zero_mul])
    have ez : ∀ e < n, ent (List.zipWith (fun e o => a * e - b * o) R fresh) e = a * ent R e - b * ent fresh e := fun e he => ent_zip (by omega) (by omega)
    have lz : (List.zipWith (fun e o => a * e - b * o) R fresh).length = n := by rw [List.length_zipWith]; omega
    generalize List.zipWith (fun e o => a * e - b * o) R fresh = Z at *
    have hZ : 0 < gcdL Z := by
      obtain ⟨e, he, r1, r2⟩ := hne
      have h3 := ez e he
      rw [r2, Int.mul_zero, Int.sub_zero] at h3
      refine gcdL_pos (x := ent Z e) ?_ (by rw [h3]; exact Int.mul_ne_zero ha r1)
      rw [ent_get (by omega)]
      exact List.getElem_mem _
    refine ⟨⟨by rw [prL_len]; exact lz, ?_, a, b, (gcdL Z : Int), ha, by omega, fun e he => by rw [prL_mul, ez e he]⟩, fun _ d hd => prL_prim hZ fun i hi => hd i (by omega)⟩
    have h4 := prL_mul Z q
    have h5 : g * (a * ent R q - b * ent fresh q) = 0 := by
      rw [Int.mul_sub, ← Int.mul_assoc, ← Int.mul_assoc, p0, p1, Int.mul_comm, Int.sub_self]
    rw [ez q hq] at h4
    have h6 : a * ent R q - b * ent fresh q = 0 := (Int.mul_eq_zero.mp h5).resolve_left hg
    rw [h6] at h4
    exact (Int.mul_eq_zero.mp h4).resolve_left (by omega)
section
variable {w : Nat} {ts : List (List Int)} {ps : List Nat} {rs : List (List Int)} {t : List Int}
/-- the vector with room for the weights -/
abbrev padOf (t : List Int) (r : Nat) : List Int := t ++ List.replicate r 0
theorem pad_len (t : List Int) (r : Nat) : (padOf t r).length = t.length + r := by simp
theorem pad_left {t : List Int} {r e : Nat} (h : e < t.length) : ent (padOf t r) e = ent t e := ent_app_left h
theorem pad_right {t : List Int} {r e : Nat} (h : t.length ≤ e) : ent (padOf t r) e = 0 := by
  rw [ent_app_right h]
  by_cases c : e - t.length < r
  · rw [ent_get (by simpa using c)]; simp
  · exact ent_ge (by simp; omega)
/-- total and rest of a vector with room -/
abbrev totP (ps : List Nat) (rs : List (List Int)) (t : List Int) : Nat := tot ps rs (padOf t rs.length)
abbrev restP (ps : List Nat) (rs : List (List Int)) (t : List Int) : List Int := restOf ps rs (padOf t rs.length)
theorem Sp.restP_len (h : Sp w ts ps rs) (ht : t.length = w) : (restP ps rs t).length = w + ts.length := by
  rw [restP, h.rest_len (by rw [pad_len, h.lr]; omega), pad_len, h.lr]
  omega
theorem Sp.restP_wt (h : Sp w ts ps rs) (ht : t.length = w) {j : Nat} (hj : j < ts.length) : ent (restP ps rs t) (w + j) = - sumN ts.length fun k => wt ps rs (padOf t rs.length) k * ent (row rs k) (w + j) := by
  rw [restP, h.rest_ent (by rw [pad_len, h.lr]; omega) (by rw [pad_len, h.lr]; omega), pad_right (by omega), Int.mul_zero, Int.zero_sub]
theorem Sp.restP_lin (h : Sp w ts ps rs) (ht : t.length = w) {e : Nat} (he : e < w) : ent (restP ps rs t) e = totP ps rs t * ent t e + sumN ts.length fun j => ent (restP ps rs t) (w + j) * ent (row ts j) e := by
  have h1 : sumN ts.length (fun j => ent (restP ps rs t) (w + j) * ent (row ts j) e) = - sumN ts.length fun k => wt ps rs (padOf t rs.length) k * ent (row rs k) e := by
    have e1 : sumN ts.length (fun k => wt ps rs (padOf t rs.length) k * ent (row rs k) e) = sumN ts.length fun j => sumN ts.length fun k => wt ps rs (padOf t rs.length) k * ent (row rs k) (w + j) * ent (row ts j) e := by
      rw [sumN_swap]
      refine sumN_congr fun k hk => ?_
      rw [h.lin k hk e he, ← sumN_mul]
      exact sumN_congr fun j _ => by rw [Int.mul_assoc]
    have e2 : sumN ts.length (fun j => ent (restP ps rs t) (w + j) * ent (row ts j) e) = sumN ts.length fun j => (-1) * sumN ts.length fun k => wt ps rs (padOf t rs.length) k * ent (row rs k) (w + j) * ent (row ts j) e := by
      refine sumN_congr fun j hj => ?_
      rw [h.restP_wt ht hj, ← sumN_mul, Int.neg_mul, Int.mul_comm, ← sumN_mul]
      have : sumN ts.length (fun i => ent (row ts j) e * (wt ps rs (padOf t rs.length) i * ent (row rs i) (w + j))) = sumN ts.length fun i => wt ps rs (padOf t rs.length) i * ent (row rs i) (w + j) * ent (row ts j) e := sumN_congr fun i _ => Int.mul_comm _ _
      rw [this, sumN_mul]
      omega
    rw [e2, sumN_mul, e1]
    omega
  rw [h1, restP, h.rest_ent (by rw [pad_len, h.lr]; omega) (by rw [pad_len]; omega), pad_left (by omega)]
  exact Int.sub_eq_add_neg
theorem Sp.restP_piv (h : Sp w ts ps rs) (ht : t.length = w) {k : Nat} (hk : k < ts.length) : ent (restP ps rs t) (piv ps k) = 0 := h.rest_piv (by rw [pad_len, h.lr]; omega) (by rw [pad_len]; omega) hk
/-- the row of the vector that is put in -/
def freshOf (ps : List Nat) (rs : List (List Int)) (t : List Int) : List Int := prL (restP ps rs t ++ [(totP ps rs t : Int)])
def putRows (ps : List Nat) (rs : List (List Int)) (t : List Int) (q : Nat) : List (List Int) := (rs.map fun R => elimOf (R ++ [0]) (freshOf ps rs t) q) ++ [freshOf ps rs t]
theorem row_app_left {xs ys : List (List Int)} {i : Nat} (h : i < xs.length) : row (xs ++ ys) i = row xs i := by
  rw [row, row, List.getD_eq_getElem?_getD, List.getD_eq_getElem?_getD, List.getElem?_append_left h]
theorem row_app_last {xs : List (List Int)} {y : List Int} : row (xs ++ [y]) xs.length = y := by
  rw [row, List.getD_eq_getElem?_getD, List.getElem?_append_right (Nat.le_refl _), Nat.sub_self]
  rfl
theorem piv_app_left {xs ys : List Nat} {i : Nat} (h : i < xs.length) : piv (xs ++ ys) i = piv xs i := by
  rw [piv, piv, List.getD_eq_getElem?_getD, List.getD_eq_getElem?_getD, List.getElem?_append_left h]
theorem piv_app_last {xs : List Nat} {y : Nat} : piv (xs ++ [y]) xs.length = y := by
  rw [piv, List.getD_eq_getElem?_getD, List.getElem?_append_right (Nat.le_refl _), Nat.sub_self]
  rfl
theorem Sp.nil (w : Nat) : Sp w [] [] [] where
  lp := rfl
  lr := rfl
  lt := fun t h => absurd h List.not_mem_nil
  lw := fun t h => absurd h List.not_mem_nil
  pw := fun t h => absurd h List.not_mem_nil
  lin := fun i hi => absurd hi (Nat.not_lt_zero _)
  on := fun i hi => absurd hi (Nat.not_lt_zero _)
  off := fun i hi => absurd hi (Nat.not_lt_zero _)
  prim := fun i hi => absurd hi (Nat.not_lt_zero _)
  inj := fun x _ i hi => absurd hi (Nat.not_lt_zero _)
theorem Sp.put (h : Sp w ts ps rs) (ht : t.length = w) {q : Nat} (hq : q < w) (hr : ent (restP ps rs t) q ≠ 0) : Sp w (ts ++ [t]) (ps ++ [q]) (putRows ps rs t q) := by
  obtain ⟨r, er⟩ : ∃ r, r = ts.length := ⟨_, rfl⟩
  have hlp := h.lp
  have hlr := h.lr
  have hn : (ts ++ [t]).length = r + 1 := by rw [List.length_append, er]; rfl
  have tp : (0 : Int) < totP ps rs t := Int.natCast_pos.mpr (h.tot_pos (tops := padOf t rs.length))
  -- the fresh row
  have lrest := h.restP_len ht
  have lE : (restP ps rs t ++ [(totP ps rs t : Int)]).length = w + r + 1 := by rw [List.length_append, lrest, er]; rfl
  have gpos : 0 < gcdL (restP ps rs t ++ [(totP ps rs t : Int)]) := gcdL_pos (x := (totP ps rs t : Int)) (by simp) (Int.ne_of_gt tp)
  obtain ⟨g, eg⟩ : ∃ g : Int, g = (gcdL (restP ps rs t ++ [(totP ps rs t : Int)]) : Int) := ⟨_, rfl⟩
  have g0 : g ≠ 0 := by omega
  have fl : (freshOf ps rs t).length = w + r + 1 := by rw [freshOf, prL_len, lE]
  have fe : ∀ e < w + r, g * ent (freshOf ps rs t) e = ent (restP ps rs t) e := fun e he => by rw [eg, freshOf, prL_mul, ent_app_left (by rw [lrest, ← er]; exact he)]
  have ft : g * ent (freshOf ps rs t) (w + r) = totP ps rs t := by
    rw [eg, freshOf, prL_mul, ent_app_right (by rw [lrest, ← er]; exact Nat.le_refl _), lrest, ← er, Nat.sub_self]
    rfl
  have fprim : ∀ d : Int, (∀ i < w + r + 1, d ∣ ent (freshOf ps rs t) i) → d ∣ 1 := fun d hd => prL_prim gpos fun i hi => hd i (by omega)
  have fpiv : ∀ k < r, ent (freshOf ps rs t) (piv ps k) = 0 := fun k hk => by
    have h1 := fe (piv ps k) (by have := h.piv_lt (er ▸ hk); omega)
    rw [h.restP_piv ht (er ▸ hk)] at h1
    exact (Int.mul_eq_zero.mp h1).resolve_left g0
  have fq : ent (freshOf ps rs t) q ≠ 0 := fun z => hr (by rw [← fe q (by omega), z, Int.mul_zero])
  have tsl : ∀ j < r, row (ts ++ [t]) j = row ts j := fun j hj => row_app_left (er ▸ hj)
  have tst : row (ts ++ [t]) r = t := by rw [er]; exact row_app_last
  have flin : ∀ e < w, ent (freshOf ps rs t) e = sumN (r + 1) fun j => ent (freshOf ps rs t) (w + j) * ent (row (ts ++ [t]) j) e := fun e he => by
    have h1 := h.restP_lin ht he
    refine Int.eq_of_mul_eq_mul_left g0 ?_
    rw [fe e (by omega), h1, ← sumN_mul]
    show _ = sumN r _ + g * (ent (freshOf ps rs t) (w + r) * ent (row (ts ++ [t]) r) e)
    rw [tst, ← Int.mul_assoc, ft, Int.add_comm, er]
    congr 1
    refine sumN_congr fun j hj => ?_
    rw [tsl j (by omega), ← Int.mul_assoc, fe (w + j) (by omega)]
  have pl : ∀ k < r, piv (ps ++ [q]) k = piv ps k := fun k hk => piv_app_left (by omega)
  have pt : piv (ps ++ [q]) r = q := by rw [er, ← hlp]; exact piv_app_last
  -- the old rows
  have rl : ∀ i < r, row (putRows ps rs t q) i = elimOf (row rs i ++ [0]) (freshOf ps rs t) q := fun i hi => by
    rw [putRows, row_app_left (by rw [List.length_map]; omega), row, List.getD_eq_getElem?_getD, List.getElem?_map, List.getElem?_eq_getElem (show i < rs.length by omega), row_get (by omega)]
    rfl
  have rt : row (putRows ps rs t q) r = freshOf ps rs t := by
    rw [putRows, er, ← hlr, show rs.length = (rs.map fun R => elimOf (R ++ [0]) (freshOf ps rs t) q).length from (List.length_map _).symm]
    exact row_app_last
  have R0l : ∀ i < r, (row rs i ++ [0]).length = w + r + 1 := fun i hi => by rw [List.length_append, h.row_len (er ▸ hi), er]; rfl
  have R0e : ∀ i < r, ∀ e < w + r, ent (row rs i ++ [0]) e = ent (row rs i) e := fun i hi e he => ent_app_left (by rw [h.row_len (er ▸ hi), ← er]; exact he)
  have R0t : ∀ i < r, ent (row rs i ++ [0]) (w + r) = 0 := fun i hi => by
    rw [ent_app_right (by rw [h.row_len (er ▸ hi), ← er]; exact Nat.le_refl _), h.row_len (er ▸ hi), ← er, Nat.sub_self]
    rfl
  have el : ∀ i < r, Elim (w + r + 1) q (row rs i ++ [0]) (freshOf ps rs t) (elimOf (row rs i ++ [0]) (freshOf ps rs t) q) ∧ (ent (row rs i ++ [0]) q ≠ 0 → ∀ d : Int, (∀ e < w + r + 1, d ∣ ent (elimOf (row rs i ++ [0]) (freshOf ps rs t) q) e) → d ∣ 1) := fun i hi =>
    elim_of (R0l i hi) fl (by omega) fq ⟨piv ps i, by have := h.piv_lt (er ▸ hi); omega, by rw [R0e i hi _ (by have := h.piv_lt (er ▸ hi); omega)]; exact h.on i (er ▸ hi), fpiv i hi⟩
  have elin : ∀ i < r, ∀ e < w, ent (elimOf (row rs i ++ [0]) (freshOf ps rs t) q) e = sumN (r + 1) fun j => ent (elimOf (row rs i ++ [0]) (freshOf ps rs t) q) (w + j) * ent (row (ts ++ [t]) j) e := fun i hi e he => by
    obtain ⟨⟨_, _, a, b, d, ha, hd, hE⟩, _⟩ := el i hi
    refine Int.eq_of_mul_eq_mul_left hd ?_
    rw [hE e (by omega), ← sumN_mul]
    have h2 : sumN (r + 1) (fun j => d * (ent (elimOf (row rs i ++ [0]) (freshOf ps rs t) q) (w + j) * ent (row (ts ++ [t]) j) e)) = sumN (r + 1) fun j => a * (ent (row rs i ++ [0]) (w + j) * ent (row (ts ++ [t]) j) e) - b * (ent (freshOf ps rs t) (w + j) * ent (row (ts ++ [t]) j) e) := by
      refine sumN_congr fun j hj => ?_
      rw [← Int.mul_assoc, hE (w + j) (by omega), Int.sub_mul, Int.mul_assoc, Int.mul_assoc]
    rw [h2, sumN_sub, sumN_mul, sumN_mul, ← flin e he]
    congr 2
    show _ = sumN r _ + ent (row rs i ++ [0]) (w + r) * _
    rw [R0t i hi, Int.zero_mul, Int.add_zero, R0e i hi e (by omega), h.lin i (er ▸ hi) e he, er]
    refine sumN_congr fun j hj => ?_
    rw [R0e i hi (w + j) (by omega), tsl j (by omega)]
  refine ⟨by rw [List.length_append, List.length_append, hlp]; rfl, by rw [putRows, List.length_append, List.length_append, List.length_map, hlr]; rfl, fun u hu => ?_, fun R hR => ?_, fun p hp => ?_, fun i hi e he => ?_, fun i hi => ?_, fun i hi k hk hik => ?_, fun i hi d hd => ?_, fun x hx => ?_⟩
  · rcases List.mem_append.mp hu with m | m
    · exact h.lt u m
    · rw [List.mem_singleton.mp m]; exact ht
  · rw [hn]
    rcases List.mem_append.mp hR with m | m
    · obtain ⟨R0, m0, rfl⟩ := List.mem_map.mp m
      obtain ⟨i, hi, rfl⟩ := List.getElem_of_mem m0
      have := (el i (by omega)).1.len
      rw [row_get (by omega)] at this
      exact this
    · rw [List.mem_singleton.mp m]; exact fl
  · rcases List.mem_append.mp hp with m | m
    · exact h.pw p m
    · rw [List.mem_singleton.mp m]; exact hq
  · rw [hn] at hi ⊢
    by_cases c : i < r
    · rw [rl i c]; exact elin i c e he
    · rw [show i = r by omega, rt]; exact flin e he
  · rw [hn] at hi
    by_cases c : i < r
    · obtain ⟨⟨_, _, a, b, d, ha, hd, hE⟩, _⟩ := el i c
      rw [rl i c, pl i c]
      intro z
      have h1 := hE (piv ps i) (by have := h.piv_lt (er ▸ c); omega)
      rw [z, fpiv i c, Int.mul_zero, Int.mul_zero, Int.sub_zero, R0e i c _ (by have := h.piv_lt (er ▸ c); omega)] at h1
      exact Int.mul_ne_zero ha (h.on i (er ▸ c)) h1.symm
    · rw [show i = r by omega, rt, pt]; exact fq
  · rw [hn] at hi hk
    by_cases c : i < r
    · by_cases c2 : k < r
      · obtain ⟨⟨_, _, a, b, d, ha, hd, hE⟩, _⟩ := el i c
        rw [rl i c, pl k c2]
        have h1 := hE (piv ps k) (by have := h.piv_lt (er ▸ c2); omega)
        rw [fpiv k c2, R0e i c _ (by have := h.piv_lt (er ▸ c2); omega), h.off i (er ▸ c) k (er ▸ c2) hik, Int.mul_zero, Int.mul_zero, Int.sub_self] at h1
        exact (Int.mul_eq_zero.mp h1).resolve_left hd
      · rw [rl i c, show k = r by omega, pt]; exact (el i c).1.zero
    · rw [show i = r by omega, rt, pl k (by omega)]; exact fpiv k (by omega)
  · rw [hn] at hi hd
    by_cases c : i < r
    · rw [rl i c] at hd
      have all : ∀ e < w + r + 1, d ∣ ent (elimOf (row rs i ++ [0]) (freshOf ps rs t) q) e := fun e he => by
        by_cases c2 : e < w
        · rw [elin i c e c2]
          exact sumN_dvd fun j hj => Int.dvd_mul_of_dvd_left (hd j hj)
        · have := hd (e - w) (by omega)
          rwa [show w + (e - w) = e by omega] at this
      by_cases c3 : ent (row rs i ++ [0]) q = 0
      · have ee : elimOf (row rs i ++ [0]) (freshOf ps rs t) q = row rs i ++ [0] := by rw [elimOf, if_pos c3]
        rw [ee] at all
        exact h.prim i (er ▸ c) d fun j hj => by
          have := all (w + j) (by omega)
          rwa [R0e i c _ (by omega)] at this
      · exact (el i c).2 c3 d all
    · rw [show i = r by omega, rt] at hd
      refine fprim d fun e he => ?_
      by_cases c2 : e < w
      · rw [flin e c2]
        exact sumN_dvd fun j hj => Int.dvd_mul_of_dvd_left (hd j hj)
      · have := hd (e - w) (by omega)
        rwa [show w + (e - w) = e by omega] at this
  · rw [hn] at hx ⊢
    have comb : ∀ e < w, (totP ps rs t : Int) * sumN (r + 1) (fun j => x j * ent (row (ts ++ [t]) j) e) = sumN r (fun j => (totP ps rs t * x j - x r * ent (restP ps rs t) (w + j)) * ent (row ts j) e) + x r * ent (restP ps rs t) e := fun e he => by
      have h1 := h.restP_lin ht he
      have h2 : sumN r (fun j => (totP ps rs t * x j - x r * ent (restP ps rs t) (w + j)) * ent (row ts j) e) = totP ps rs t * sumN r (fun j => x j * ent (row ts j) e) - x r * sumN r (fun j => ent (restP ps rs t) (w + j) * ent (row ts j) e) := by
        rw [← sumN_mul, ← sumN_mul, ← sumN_sub]
        refine sumN_congr fun j hj => ?_
        rw [Int.sub_mul, Int.mul_assoc, Int.mul_assoc]
      show (totP ps rs t : Int) * (sumN r (fun j => x j * ent (row (ts ++ [t]) j) e) + x r * ent (row (ts ++ [t]) r) e) = _
      rw [tst, sumN_congr (fun j hj => by rw [tsl j hj] : ∀ j < r, x j * ent (row (ts ++ [t]) j) e = x j * ent (row ts j) e), h2, h1, ← er, Int.mul_add, Int.mul_add, ← Int.mul_assoc, ← Int.mul_assoc, Int.mul_comm (x r) (totP ps rs t : Int)]
      omega
    have z1 : ∀ k < ts.length, sumN ts.length (fun j => (totP ps rs t * x j - x r * ent (restP ps rs t) (w + j)) * ent (row ts j) (piv ps k)) = 0 := fun k hk => by
      have h1 := comb (piv ps k) (h.piv_lt hk)
      have h2 := hx k (by omega)
      rw [pl k (by omega)] at h2
      rw [h2, Int.mul_zero, h.restP_piv ht hk, Int.mul_zero, Int.add_zero] at h1
      rw [← er]
      exact h1.symm
    have z2 := h.inj _ z1
    have z3 : x r = 0 := by
      have h1 := comb q hq
      have h2 := hx r (by omega)
      rw [pt] at h2
      rw [h2, Int.mul_zero, sumN_zero' (fun j hj => by rw [z2 j (by omega), Int.zero_mul]), Int.zero_add] at h1
      exact (Int.mul_eq_zero.mp h1.symm).resolve_right hr
    intro j hj
    by_cases c : j < r
    · have := z2 j (by omega)
      rw [z3, Int.zero_mul, Int.sub_zero] at this
      exact (Int.mul_eq_zero.mp this).resolve_left (by omega)
    · rw [show j = r by omega]; exact z3
end
end SQ
set_option Elab.async false
set_option linter.all false
set_option maxRecDepth 100000
set_option maxHeartbeats 4000000
/-! elimination over whole numbers: how great the numbers get; what is made -/
namespace SQ
section
variable {w : Nat} {ts : List (List Int)} {ps : List Nat} {rs : List (List Int)} {t : List Int} {B : Nat}
theorem Sp.bound (h : Sp w ts ps rs) (hB : 1 ≤ B) (hb : ∀ j < ts.length, ∀ e < w, (ent (row ts j) e).natAbs ≤ B) {i : Nat} (hi : i < ts.length) : ∀ j < ts.length, (ent (row rs i) (w + j)).natAbs ≤ (2 * ts.length * B) ^ (ts.length - 1) := by
  obtain ⟨m, em⟩ : ∃ m, ts.length = m + 1 := ⟨ts.length - 1, by omega⟩
  obtain ⟨x, ⟨j0, hj0, hx0⟩, hxb, hxe⟩ := siegel m B hB (fun k j => ent (row ts j) (piv ps (if k < i then k else k + 1))) fun k hk j hj => hb j (by omega) _ (h.piv_lt (by split <;> omega))
  have ze : ∀ k < ts.length, k ≠ i → sumN ts.length (fun j => x j * ent (row ts j) (piv ps k)) = 0 := fun k hk hki => by
    rw [em]
    by_cases c : k < i
    · have := hxe k (by omega)
      simp only [if_pos c] at this
      rw [← this]
      exact sumN_congr fun j _ => Int.mul_comm _ _
    · have := hxe (k - 1) (by omega)
      simp only [if_neg (show ¬ k - 1 < i by omega), show k - 1 + 1 = k by omega] at this
      rw [← this]
      exact sumN_congr fun j _ => Int.mul_comm _ _
  obtain ⟨c, ec⟩ : ∃ c, c = sumN ts.length (fun j => x j * ent (row ts j) (piv ps i)) := ⟨_, rfl⟩
  have hd := h.on i hi
  obtain ⟨d, ed⟩ : ∃ d, d = ent (row rs i) (piv ps i) := ⟨_, rfl⟩
  rw [← ed] at hd
  have hy := h.inj (fun j => d * x j - c * ent (row rs i) (w + j)) fun k hk => by
    have h1 : sumN ts.length (fun j => (d * x j - c * ent (row rs i) (w + j)) * ent (row ts j) (piv ps k)) = d * sumN ts.length (fun j => x j * ent (row ts j) (piv ps k)) - c * ent (row rs i) (piv ps k) := by
      rw [h.lin i hi _ (h.piv_lt hk), ← sumN_mul, ← sumN_mul, ← sumN_sub]
      refine sumN_congr fun j _ => ?_
      rw [Int.sub_mul, Int.mul_assoc, Int.mul_assoc]
    rw [h1]
    by_cases e : k = i
    · subst e
      rw [← ec, ← ed, Int.mul_comm, Int.sub_self]
    · rw [ze k hk e, h.off i hi k hk (fun z => e z.symm), Int.mul_zero, Int.mul_zero, Int.sub_self]
  have key : ∀ j < ts.length, d.natAbs * (x j).natAbs = c.natAbs * (ent (row rs i) (w + j)).natAbs := fun j hj => by
    have h1 := hy j hj
    rw [← Int.natAbs_mul, ← Int.natAbs_mul, show d * x j = c * ent (row rs i) (w + j) by omega]
  have hn : 0 < d.natAbs := Int.natAbs_pos.mpr hd
  have hc : 0 < c.natAbs := by
    refine Nat.pos_of_ne_zero fun z => ?_
    have h1 := key j0 (by omega)
    rw [z, Nat.zero_mul] at h1
    rcases Nat.mul_eq_zero.mp h1 with h2 | h2
    · omega
    · exact hx0 (by omega)
  obtain ⟨g, eg⟩ : ∃ g, g = Nat.gcd d.natAbs c.natAbs := ⟨_, rfl⟩
  have hg : 0 < g := by rw [eg]; exact Nat.gcd_pos_of_pos_left _ hn
  obtain ⟨a, ha⟩ : g ∣ d.natAbs := by rw [eg]; exact Nat.gcd_dvd_left ..
  obtain ⟨b, hb'⟩ : g ∣ c.natAbs := by rw [eg]; exact Nat.gcd_dvd_right ..
  have cop : Nat.Coprime a b := by
    have h1 : g * Nat.gcd a b = g * 1 := by rw [← Nat.gcd_mul_left, ← ha, ← hb', Nat.mul_one, eg]
    exact Nat.eq_of_mul_eq_mul_left hg h1
  have key2 : ∀ j < ts.length, a * (x j).natAbs = b * (ent (row rs i) (w + j)).natAbs := fun j hj => by
    have h1 := key j hj
    rw [ha, hb', Nat.mul_assoc, Nat.mul_assoc] at h1
    exact Nat.eq_of_mul_eq_mul_left hg h1
  have a1 : (a : Int) ∣ 1 := h.prim i hi a fun j hj => by
    have h1 : a ∣ b * (ent (row rs i) (w + j)).natAbs := ⟨_, (key2 j hj).symm⟩
    exact Int.dvd_natAbs.mp (Int.natCast_dvd_natCast.mpr (cop.dvd_of_dvd_mul_left h1))
  have a2 : a = 1 := by
    have : a ∣ 1 := Int.natCast_dvd_natCast.mp a1
    exact Nat.dvd_one.mp this
  have bp : 1 ≤ b := by
    refine Nat.pos_of_ne_zero fun z => ?_
    rw [z, Nat.mul_zero] at hb'
    omega
  intro j hj
  have h1 := key2 j hj
  rw [a2, Nat.one_mul] at h1
  have h2 := hxb j (by omega)
  have h3 : 1 * (ent (row rs i) (w + j)).natAbs ≤ b * (ent (row rs i) (w + j)).natAbs := Nat.mul_le_mul bp (Nat.le_refl _)
  rw [em]
  show _ ≤ (2 * (m + 1) * B) ^ m
  omega
theorem Sp.bound_all (h : Sp w ts ps rs) (hB : 1 ≤ B) (hb : ∀ j < ts.length, ∀ e < w, (ent (row ts j) e).natAbs ≤ B) {m : Nat} (hm : ts.length ≤ m) {i : Nat} (hi : i < ts.length) (e : Nat) : (ent (row rs i) e).natAbs ≤ (2 * m * B) ^ m := by
  obtain ⟨n, en⟩ : ∃ n, ts.length = n + 1 := ⟨ts.length - 1, by omega⟩
  have hp : 1 ≤ 2 * ts.length * B := by
    have : 1 * 1 ≤ 2 * ts.length * B := Nat.mul_le_mul (by omega) hB
    omega
  have up : (2 * ts.length * B) ^ ts.length ≤ (2 * m * B) ^ m := by
    have h1 : 2 * ts.length * B ≤ 2 * m * B := Nat.mul_le_mul (Nat.mul_le_mul (Nat.le_refl _) hm) (Nat.le_refl _)
    exact Nat.le_trans (Nat.pow_le_pow_left h1 _) (Nat.pow_le_pow_right (by omega) hm)
  have hb1 := h.bound hB hb hi
  have hX : (2 * ts.length * B) ^ ts.length = (2 * ts.length * B) ^ (ts.length - 1) * (2 * ts.length * B) := by rw [en]; rfl
  have s1 : ∀ j < ts.length, (ent (row rs i) (w + j)).natAbs ≤ (2 * ts.length * B) ^ ts.length := fun j hj => Nat.le_trans (hb1 j hj) (Nat.pow_le_pow_right hp (by omega))
  by_cases c : e < w
  · refine Nat.le_trans ?_ up
    rw [h.lin i hi e c]
    refine Nat.le_trans (sumN_abs (B := (2 * ts.length * B) ^ (ts.length - 1) * B) fun j hj => ?_) ?_
    · rw [Int.natAbs_mul]
      exact Nat.mul_le_mul (hb1 j hj) (hb j hj e c)
    · rw [hX, Nat.mul_comm ts.length, Nat.mul_assoc]
      refine Nat.mul_le_mul (Nat.le_refl _) ?_
      rw [Nat.mul_comm B]
      exact Nat.mul_le_mul (by omega) (Nat.le_refl _)
  · by_cases c2 : e < w + ts.length
    · have := s1 (e - w) (by omega)
      rw [show w + (e - w) = e by omega] at this
      exact Nat.le_trans this up
    · rw [ent_ge (by rw [h.row_len hi]; omega)]
      exact Nat.zero_le _
theorem Sp.tot_le (h : Sp w ts ps rs) {D : Nat} (hD : 1 ≤ D) (hd : ∀ i < ts.length, ∀ e, (ent (row rs i) e).natAbs ≤ D) (tops : List Int) : tot ps rs tops ≤ D ^ ts.length := by
  have h1 := fold_le (D := D) (us := usedOf ps rs tops) (a := 1) fun u hu => by
    obtain ⟨k, hk, rfl⟩ := h.mem_zip (List.mem_filter.mp hu).1
    exact hd k hk _
  rw [Nat.one_mul] at h1
  refine Nat.le_trans h1 (Nat.pow_le_pow_right hD ?_)
  refine Nat.le_trans (List.length_filter_le ..) ?_
  rw [List.length_zip, h.lp, h.lr]
  omega
/-- what is 0 within the width is made -/
theorem Sp.made (h : Sp w ts ps rs) (ht : t.length = w) (hz : ∀ e < w, ent (restP ps rs t) e = 0) {e : Nat} (he : e < w) : totP ps rs t * ent t e = sumN ts.length fun j => -ent (restP ps rs t) (w + j) * ent (row ts j) e := by
  have h1 := h.restP_lin ht he
  rw [hz e he] at h1
  have h2 : sumN ts.length (fun j => -ent (restP ps rs t) (w + j) * ent (row ts j) e) = - sumN ts.length fun j => ent (restP ps rs t) (w + j) * ent (row ts j) e := by
    have : sumN ts.length (fun j => -ent (restP ps rs t) (w + j) * ent (row ts j) e) = sumN ts.length fun j => (-1) * (ent (restP ps rs t) (w + j) * ent (row ts j) e) := sumN_congr fun j _ => by rw [Int.neg_mul]; omega
    rw [this, sumN_mul]
    omega
  rw [h2]
  have h3 : (totP ps rs t : Int) * ent t e + sumN ts.length (fun j => ent (restP ps rs t) (w + j) * ent (row ts j) e) = 0 := h1.symm
  omega
theorem Sp.piv_ne (h : Sp w ts ps rs) {i k : Nat} (hi : i < ts.length) (hk : k < ts.length) (hik : i ≠ k) : piv ps i ≠ piv ps k := fun z => by
  have h1 := h.off i hi k hk hik
  rw [← z] at h1
  exact h.on i hi h1
/-- as many as the width: all is made -/
theorem Sp.full (h : Sp w ts ps rs) (hw : ts.length = w) (ht : t.length = w) : ∀ e < w, ent (restP ps rs t) e = 0 := fun e he => by
  obtain ⟨i, j, hij, hj, e1⟩ := pigeon w (fun i => if i < w then piv ps i else e) fun i hi => by
    show (if i < w then piv ps i else e) < w
    split
    · exact h.piv_lt (by omega)
    · exact he
  have ei : (if i < w then piv ps i else e) = piv ps i := if_pos (by omega)
  have e1 : (if i < w then piv ps i else e) = if j < w then piv ps j else e := e1
  rw [ei] at e1
  by_cases c : j < w
  · rw [if_pos c] at e1
    exact absurd e1 (h.piv_ne (by omega) (by omega) (by omega))
  · rw [if_neg c] at e1
    rw [← e1]
    exact h.restP_piv ht (by omega)
theorem Sp.len_le (h : Sp w ts ps rs) : ts.length ≤ w := by
  refine Nat.le_of_not_lt fun c => ?_
  obtain ⟨i, j, hij, hj, e1⟩ := pigeon w (piv ps) fun i hi => h.piv_lt (by omega)
  exact h.piv_ne (by omega) (by omega) (by omega) e1
end
end SQ
set_option Elab.async false
set_option linter.all false
set_option maxRecDepth 100000
set_option maxHeartbeats 4000000
/-! elimination: weights and marks as ratios -/
namespace SQ
def sumQ : Nat → (Nat → Rat) → Rat
  | 0, _ => 0
  | n + 1, f => sumQ n f + f n
theorem sumQ_congr {f g : Nat → Rat} : ∀ {n : Nat}, (∀ i < n, f i = g i) → sumQ n f = sumQ n g
  | 0, _ => rfl
  | n + 1, h => by
    show sumQ n f + f n = sumQ n g + g n
    rw [sumQ_congr (n := n) fun i hi => h i (by omega), h n (by omega)]
theorem sumQ_zero : ∀ (n : Nat), sumQ n (fun _ => 0) = 0
  | 0 => rfl
  | n + 1 => by show sumQ n _ + 0 = 0; rw [sumQ_zero n, Rat.add_zero]
theorem sumQ_zero' {f : Nat → Rat} {n : Nat} (h : ∀ i < n, f i = 0) : sumQ n f = 0 := (sumQ_congr h).trans (sumQ_zero n)
theorem sumQ_add (f g : Nat → Rat) : ∀ (n : Nat), sumQ n (fun i => f i + g i) = sumQ n f + sumQ n g
  | 0 => (Rat.add_zero 0).symm
  | n + 1 => by
    show sumQ n _ + (f n + g n) = sumQ n f + f n + (sumQ n g + g n)
    rw [sumQ_add f g n]
    grind
theorem sumQ_mul (c : Rat) (f : Nat → Rat) : ∀ (n : Nat), sumQ n (fun i => c * f i) = c * sumQ n f
  | 0 => by show (0 : Rat) = c * 0; rw [Rat.mul_zero]
  | n + 1 => by
    show sumQ n _ + c * f n = c * (sumQ n f + f n)
    rw [sumQ_mul c f n, Rat.mul_add]
theorem sumQ_swap (f : Nat → Nat → Rat) : ∀ (n m : Nat), sumQ n (fun i => sumQ m (fun j => f i j)) = sumQ m (fun j => sumQ n (fun i => f i j))
  | 0, m => (sumQ_zero m).symm
  | n + 1, m => by
    show sumQ n _ + sumQ m (fun j => f n j) = sumQ m (fun j => sumQ n (fun i => f i j) + f n j)
    rw [sumQ_swap f n m, sumQ_add]
theorem sumQ_single {f : Nat → Rat} {k : Nat} : ∀ {n : Nat}, (∀ i < n, i ≠ k → f i = 0) → k < n → sumQ n f = f k
  | 0, _, h => absurd h (Nat.not_lt_zero _)
  | n + 1, h, hk => by
    show sumQ n f + f n = f k
    by_cases e : k = n
    · subst e
      rw [sumQ_zero' fun i hi => h i (by omega) (by omega), Rat.zero_add]
    · rw [sumQ_single (n := n) (fun i hi hn => h i (by omega) hn) (by omega), h n (by omega) (fun z => e z.symm), Rat.add_zero]
theorem sumN_cast (f : Nat → Int) : ∀ (n : Nat), ((sumN n f : Int) : Rat) = sumQ n fun i => (f i : Rat)
  | 0 => rfl
  | n + 1 => by
    show ((sumN n f + f n : Int) : Rat) = sumQ n _ + (f n : Rat)
    rw [Rat.intCast_add, sumN_cast f n]
theorem int_ne {z : Int} (h : z ≠ 0) : (z : Rat) ≠ 0 := fun e => h (by exact_mod_cast e)
theorem divInt_mul {a b : Int} (hb : b ≠ 0) : Rat.divInt a b * (b : Rat) = (a : Rat) := by
  rw [Rat.divInt_eq_div]
  exact Rat.div_mul_cancel (int_ne hb)
theorem mul_left_cancel' {c x y : Rat} (hc : c ≠ 0) (h : c * x = c * y) : x = y := by
  have h1 : c⁻¹ * (c * x) = c⁻¹ * (c * y) := by rw [h]
  rwa [← Rat.mul_assoc, ← Rat.mul_assoc, Rat.inv_mul_cancel c hc, Rat.one_mul, Rat.one_mul] at h1
section
variable {w : Nat} {ts : List (List Int)} {ps : List Nat} {rs : List (List Int)} {t : List Int}
/-- the weights: the vectors ts j over bs j make t over b -/
theorem Sp.weights (h : Sp w ts ps rs) (ht : t.length = w) (hz : ∀ e < w, ent (restP ps rs t) e = 0) {b : Int} (hb : b ≠ 0) {bs : Nat → Int} (hbs : ∀ j < ts.length, bs j ≠ 0) {e : Nat} (he : e < w) :
    sumQ ts.length (fun j => Rat.divInt (-ent (restP ps rs t) (w + j) * bs j) (totP ps rs t * b) * Rat.divInt (ent (row ts j) e) (bs j)) = Rat.divInt (ent t e) b := by
  have tp : (totP ps rs t : Int) ≠ 0 := Int.ne_of_gt (Int.natCast_pos.mpr (h.tot_pos (tops := padOf t rs.length)))
  have hc : (totP ps rs t : Int) * b ≠ 0 := Int.mul_ne_zero tp hb
  refine mul_left_cancel' (int_ne hc) ?_
  rw [← sumQ_mul]
  have h1 := h.made ht hz he
  have h2 : sumQ ts.length (fun j => (((totP ps rs t : Int) * b : Int) : Rat) * (Rat.divInt (-ent (restP ps rs t) (w + j) * bs j) (totP ps rs t * b) * Rat.divInt (ent (row ts j) e) (bs j))) = sumQ ts.length (fun j => ((-ent (restP ps rs t) (w + j) * ent (row ts j) e : Int) : Rat)) := by
    refine sumQ_congr fun j hj => ?_
    have e1 := divInt_mul (a := -ent (restP ps rs t) (w + j) * bs j) hc
    have e2 := divInt_mul (a := ent (row ts j) e) (hbs j hj)
    rw [Rat.intCast_mul] at e1
    have e3 : (((totP ps rs t : Int) * b : Int) : Rat) * (Rat.divInt (-ent (restP ps rs t) (w + j) * bs j) (totP ps rs t * b) * Rat.divInt (ent (row ts j) e) (bs j)) = (-ent (restP ps rs t) (w + j) : Int) * (Rat.divInt (ent (row ts j) e) (bs j) * (bs j : Rat)) := by grind
    rw [e3, e2, Rat.intCast_mul]
  rw [h2, ← sumN_cast, ← h1, Rat.intCast_mul, Rat.intCast_mul]
  have e4 := divInt_mul (a := ent t e) hb
  grind
/-- what the vectors have, as a sum of the rows -/
theorem Sp.of_rows (h : Sp w ts ps rs) {j : Nat} (hj : j < ts.length) {e : Nat} (he : e < w) : (tot ps rs (row ts j) : Int) * ent (row ts j) e = sumN ts.length fun k => wt ps rs (row ts j) k * ent (row rs k) e := by
  have hl := h.ts_len hj
  have e1 := fun {e : Nat} (he : e < w) => h.rest_ent (tops := row ts j) (by omega) (show e < (row ts j).length by omega)
  have key : ∀ e < w, ent (restOf ps rs (row ts j)) e = sumN ts.length fun i => ((if i = j then (tot ps rs (row ts j) : Int) else 0) - sumN ts.length fun k => wt ps rs (row ts j) k * ent (row rs k) (w + i)) * ent (row ts i) e := fun e he => by
    rw [e1 he]
    have h1 : sumN ts.length (fun k => wt ps rs (row ts j) k * ent (row rs k) e) = sumN ts.length fun i => (sumN ts.length fun k => wt ps rs (row ts j) k * ent (row rs k) (w + i)) * ent (row ts i) e := by
      have e2 : sumN ts.length (fun i => (sumN ts.length fun k => wt ps rs (row ts j) k * ent (row rs k) (w + i)) * ent (row ts i) e) = sumN ts.length fun i => sumN ts.length fun k => wt ps rs (row ts j) k * (ent (row rs k) (w + i) * ent (row ts i) e) := by
        refine sumN_congr fun i _ => ?_
        rw [Int.mul_comm, ← sumN_mul]
        refine sumN_congr fun k _ => ?_
        rw [Int.mul_comm, Int.mul_assoc]
      rw [e2, sumN_swap]
      refine sumN_congr fun k hk => ?_
      rw [h.lin k hk e he, sumN_mul]
    have h2 : sumN ts.length (fun i => (if i = j then (tot ps rs (row ts j) : Int) else 0) * ent (row ts i) e) = tot ps rs (row ts j) * ent (row ts j) e := by
      rw [sumN_single (k := j) (fun i _ hn => by rw [if_neg hn, Int.zero_mul]) hj, if_pos rfl]
    rw [h1, ← h2, ← sumN_sub]
    exact sumN_congr fun i _ => by rw [Int.sub_mul]
  have z := h.zero (x := fun i => (if i = j then (tot ps rs (row ts j) : Int) else 0) - sumN ts.length fun k => wt ps rs (row ts j) k * ent (row rs k) (w + i)) (fun k hk => by
    rw [← key _ (h.piv_lt hk)]
    exact h.rest_piv (by omega) (by omega) hk) e
  rw [← key e he, e1 he] at z
  omega
/-- a functional with values at the pivots and at one place more -/
structure Marks (w : Nat) (ts : List (List Int)) (ps : List Nat) (rs : List (List Int)) (t : List Int) (q : Nat) (b : Int) (L : (Nat → Int) → Rat) : Prop where
  eq : ∀ x : Nat → Int, L x = Rat.divInt (b * tot ps rs t) (ent (restOf ps rs t) q) * (x q : Rat) + sumQ ts.length fun k => Rat.divInt (-ent (row rs k) q * b * tot ps rs t) (ent (row rs k) (piv ps k) * ent (restOf ps rs t) q) * (x (piv ps k) : Rat)
theorem Sp.marks (h : Sp w ts ps rs) (ht : t.length = w) {q : Nat} (hq : q < w) (hr : ent (restOf ps rs t) q ≠ 0) {b : Int} {L : (Nat → Int) → Rat} (M : Marks w ts ps rs t q b L) : (∀ j < ts.length, L (ent (row ts j)) = 0) ∧ L (ent t) = (b : Rat) := by
  have tp : ∀ tops, (tot ps rs tops : Int) ≠ 0 := fun tops => Int.ne_of_gt (Int.natCast_pos.mpr h.tot_pos)
  -- L over sums
  have Lsum : ∀ (c : Nat → Int) (x y : Nat → Int) (d : Int), (∀ e < w, d * y e = x e + sumN ts.length fun k => c k * ent (row rs k) e) → (d : Rat) * L y = L x + sumQ ts.length fun k => (c k : Rat) * L (ent (row rs k)) := fun c x y d hE => by
    have at_ : ∀ e < w, (d : Rat) * (y e : Rat) = (x e : Rat) + sumQ ts.length fun k => (c k : Rat) * (ent (row rs k) e : Rat) := fun e he => by
      rw [← Rat.intCast_mul, hE e he, Rat.intCast_add, sumN_cast]
      congr 1
      exact sumQ_congr fun k _ => Rat.intCast_mul _ _
    rw [M.eq, M.eq, Rat.mul_add, ← sumQ_mul]
    have p1 : ∀ k, (d : Rat) * (Rat.divInt (-ent (row rs k) q * b * tot ps rs t) (ent (row rs k) (piv ps k) * ent (restOf ps rs t) q) * (y (piv ps k) : Rat)) = Rat.divInt (-ent (row rs k) q * b * tot ps rs t) (ent (row rs k) (piv ps k) * ent (restOf ps rs t) q) * ((d : Rat) * (y (piv ps k) : Rat)) := fun k => by grind
    have p2 : (d : Rat) * (Rat.divInt (b * tot ps rs t) (ent (restOf ps rs t) q) * (y q : Rat)) = Rat.divInt (b * tot ps rs t) (ent (restOf ps rs t) q) * ((d : Rat) * (y q : Rat)) := by grind
    have pS : sumQ ts.length (fun k => (d : Rat) * (Rat.divInt (-ent (row rs k) q * b * tot ps rs t) (ent (row rs k) (piv ps k) * ent (restOf ps rs t) q) * (y (piv ps k) : Rat))) = sumQ ts.length fun k => Rat.divInt (-ent (row rs k) q * b * tot ps rs t) (ent (row rs k) (piv ps k) * ent (restOf ps rs t) q) * ((x (piv ps k) : Rat) + sumQ ts.length fun i => (c i : Rat) * (ent (row rs i) (piv ps k) : Rat)) := sumQ_congr fun k hk => by rw [p1 k, at_ _ (h.piv_lt hk)]
    rw [p2, at_ q hq, pS]
    have p3 : (fun k => Rat.divInt (-ent (row rs k) q * b * tot ps rs t) (ent (row rs k) (piv ps k) * ent (restOf ps rs t) q) * ((x (piv ps k) : Rat) + sumQ ts.length fun i => (c i : Rat) * (ent (row rs i) (piv ps k) : Rat))) = fun k => Rat.divInt (-ent (row rs k) q * b * tot ps rs t) (ent (row rs k) (piv ps k) * ent (restOf ps rs t) q) * (x (piv ps k) : Rat) + Rat.divInt (-ent (row rs k) q * b * tot ps rs t) (ent (row rs k) (piv ps k) * ent (restOf ps rs t) q) * sumQ ts.length fun i => (c i : Rat) * (ent (row rs i) (piv ps k) : Rat) := by
      funext k
      rw [Rat.mul_add]
    rw [p3, sumQ_add, Rat.mul_add]
    have p4 : (sumQ ts.length fun k => (c k : Rat) * L (ent (row rs k))) = Rat.divInt (b * tot ps rs t) (ent (restOf ps rs t) q) * (sumQ ts.length fun k => (c k : Rat) * (ent (row rs k) q : Rat)) + sumQ ts.length fun k => Rat.divInt (-ent (row rs k) q * b * tot ps rs t) (ent (row rs k) (piv ps k) * ent (restOf ps rs t) q) * sumQ ts.length fun i => (c i : Rat) * (ent (row rs i) (piv ps k) : Rat) := by
      have q1 : ∀ i, (c i : Rat) * L (ent (row rs i)) = Rat.divInt (b * tot ps rs t) (ent (restOf ps rs t) q) * ((c i : Rat) * (ent (row rs i) q : Rat)) + sumQ ts.length fun k => Rat.divInt (-ent (row rs k) q * b * tot ps rs t) (ent (row rs k) (piv ps k) * ent (restOf ps rs t) q) * ((c i : Rat) * (ent (row rs i) (piv ps k) : Rat)) := fun i => by
        rw [M.eq, Rat.mul_add, ← sumQ_mul]
        congr 1
        · grind
        · exact sumQ_congr fun k _ => by grind
      rw [sumQ_congr (fun i _ => q1 i), sumQ_add, sumQ_mul, sumQ_swap]
      congr 1
      exact sumQ_congr fun k _ => sumQ_mul _ _ _
    rw [p4]
    grind
  have LR : ∀ i < ts.length, L (ent (row rs i)) = 0 := fun i hi => by
    rw [M.eq, sumQ_single (k := i) (fun k hk hn => by rw [h.off i hi k hk (fun z => hn z.symm)]; exact Rat.mul_zero _) hi]
    have hd := h.on i hi
    have e1 := divInt_mul (a := -ent (row rs i) q * b * tot ps rs t) (Int.mul_ne_zero hd hr)
    have e2 := divInt_mul (a := b * tot ps rs t) hr
    refine mul_left_cancel' (int_ne hr) ?_
    rw [Rat.intCast_mul] at e1
    rw [Rat.intCast_mul, Rat.intCast_mul, Rat.intCast_neg] at e1
    rw [Rat.intCast_mul] at e2
    grind
  have L0 : L (fun _ => 0) = 0 := by
    rw [M.eq]
    have z0 : ((0 : Int) : Rat) = 0 := rfl
    simp only [z0, Rat.mul_zero, sumQ_zero, Rat.add_zero]
  refine ⟨fun j hj => ?_, ?_⟩
  · have h1 := Lsum (fun k => wt ps rs (row ts j) k) (fun _ => 0) (ent (row ts j)) (tot ps rs (row ts j)) fun e he => by rw [h.of_rows hj he, Int.zero_add]
    rw [L0, sumQ_zero' (fun k hk => by rw [LR k hk, Rat.mul_zero]), Rat.add_zero] at h1
    exact (Rat.mul_eq_zero.mp h1).resolve_left (int_ne (tp _))
  · have h1 := Lsum (fun k => wt ps rs t k) (ent (restOf ps rs t)) (ent t) (tot ps rs t) fun e he => by
      have := h.rest_ent (tops := t) (by omega) (show e < t.length by omega)
      omega
    have h2 : L (ent (restOf ps rs t)) = ((b * tot ps rs t : Int) : Rat) := by
      rw [M.eq, sumQ_zero' (fun k hk => by rw [h.rest_piv (by omega) (by omega) hk]; exact Rat.mul_zero _), Rat.add_zero]
      exact divInt_mul hr
    rw [h2, sumQ_zero' (fun k hk => by rw [LR k hk, Rat.mul_zero]), Rat.add_zero] at h1
    refine mul_left_cancel' (int_ne (tp t)) ?_
    rw [h1, Rat.intCast_mul, Rat.mul_comm]
end
end SQ
set_option Elab.async false
set_option linter.all false
set_option maxRecDepth 100000
set_option maxHeartbeats 4000000
/-! k39: without_divisor -/
namespace KN
open PySem PySem.Spec PyProof.Rows L2 GxR NdefX GA SL ZN RZ
open SQ (ent gcdL prL)
abbrev zsD (xs : List Int) : PyData := .list (xs.map PyData.int)
theorem dv_ints {M : List Addr} {H : Hp} {v : V} {xs : List Int} (h : Dv M H v (zsD xs)) : ∃ a, v = .ref a ∧ H a = some (.lst (xs.map V.int)) ∧ a ∉ M := by
  cases h with
  | @lst a vs ds e n r =>
    rw [of_ints r] at e
    exact ⟨a, rfl, e, n⟩
theorem ints_dv {M : List Addr} {H : Hp} {a : Addr} {xs : List Int} (e : H a = some (.lst (xs.map V.int))) (n : a ∉ M) : Dv M H (.ref a) (zsD xs) := .lst e n (DvAll.ints xs)
theorem ints_of {n : Nat} {f : Nat → Int} {xs : List Int} (hl : xs.length = n) (h : ∀ i < n, ent xs i = f i) : (List.range n).map (fun i => PyData.int (f i)) = xs.map PyData.int := by
  refine List.ext_getElem (by simp [hl]) fun i h1 h2 => ?_
  rw [List.length_map, List.length_range] at h1
  rw [List.getElem_map, List.getElem_map, List.getElem_range, ← h i h1, SQ.ent_get (by omega)]
theorem at_ints {xs : List Int} {i : Nat} {x : V} (h : (xs.map V.int)[i]? = some x) : i < xs.length ∧ x = .int (ent xs i) := by
  rw [List.getElem?_map] at h
  obtain ⟨z, e, rfl⟩ := Option.map_eq_some_iff.mp h
  obtain ⟨hi, rfl⟩ := List.getElem?_eq_some_iff.mp e
  exact ⟨hi, by rw [SQ.ent_get hi]⟩
theorem get_ints {xs : List Int} {i : Nat} (h : i < xs.length) : (xs.map V.int)[i]? = some (.int (ent xs i)) := by
  rw [List.getElem?_map, List.getElem?_eq_getElem h, SQ.ent_get h]
  rfl
/-- the greatest common divisor of the first i -/
theorem gcdL_take {xs : List Int} {i : Nat} (h : i < xs.length) : gcdL (xs.take (i + 1)) = Nat.gcd (gcdL (xs.take i)) (ent xs i).natAbs := by
  unfold gcdL
  rw [List.take_add_one, List.getElem?_eq_getElem h, SQ.ent_get h, List.foldl_append]
  rfl
theorem gcdL_take_dvd (xs : List Int) (i : Nat) : gcdL xs ∣ gcdL (xs.take i) := by
  have e : xs = xs.take i ++ xs.drop i := (List.take_append_drop i xs).symm
  rw [show gcdL xs = gcdL (xs.take i ++ xs.drop i) from congrArg gcdL e]
  unfold gcdL
  rw [List.foldl_append]
  exact SQ.gfold_dvd _ _
theorem prL_one {xs : List Int} (h : gcdL xs = 1) : prL xs = xs := by
  unfold prL
  rw [h]
  simp
abbrev s_without_divisor : Stmt := top 20
theorem sc_without_divisor : FnScope ["entries", "shared", "entry"] ["entries"] (defScope s_without_divisor) := ⟨rfl, rfl, rfl, by decide +kernel, rfl, by decide +kernel, by decide +kernel⟩
def sp_without_divisor (T : List Addr) : Sp := fun vs H Q _ => ∃ (M : List Addr) (v : V) (xs : List Int), vs = [v] ∧ Dv M H v (zsD xs) ∧ xs.length ≤ 4000 ∧ 0 < gcdL xs ∧ (∀ b ∈ M, H b ≠ none) ∧ Tabs T H ∧
  ∀ u H', Go T [] H H' → Tabs T H' → Dv M H' u (zsD (prL xs)) → Q u H'
section
variable {P : Program} {w : World} {K : PySem.W.Frag} {mg : Str → Option Value} {base : Heap} {f : Addr} {fd : FuncData} {T : List Addr}
theorem ok_without_divisor (F : Fun K "without_divisor" "without_divisor" s_without_divisor f fd) (C : Cn mg) (hN : base.NoSeer) (hT : P.given.tree = none) : FnOk P w K mg base CX0 33 f fd ["entries"] (sp_without_divisor T) := by
  refine F.ok sc_without_divisor (fun vs H Q E h => ?_) (fun cdv A outer s H vs Q E hr h => ?_)
  · obtain ⟨_, _, _, rfl, _⟩ := h
    rfl
  obtain ⟨M, v, xs, rfl, hv, hl, hg, hM, ht, q⟩ := h
  have nd := sc_without_divisor.nd
  have nn : ∀ b : Addr, b ∉ ([] : List Addr) := fun b => List.not_mem_nil
  have S : Seer (cxOf CX0 P w K mg base ["entries", "shared", "entry"] "without_divisor" (defScope s_without_divisor) f cdv A outer s H E).nox := seer_mk (by decide) hN hT hr
  refine ⟨_, pss_cons (ps_set (i := 1) nd rfl (.inr rfl) pe_int)
    (pss_cons (ps_for PassesOwn.never rfl (pi_list (pv 0)) (pg_name (i := 2) nd rfl (.inl rfl))
      (pss_cons (ps_set (i := 1) nd rfl (.inr rfl) (pe_callBfun cr_gcd rfl C.gcd (pa_cons (pv 1) (pa_cons (pv 2) pa_nil))))
      (pss_one (ps_if (pt_cmpR op_eq (pv 1) pe_int (nomark _)) (pss_one (ps_ret (pv 0))) pss_nil))))
    (pss_one (ps_ret (pe_lc (own := [("entry", 2)]) (g := gName 2) (tt := tYes) (te := tOp (rI (fun _ j => j ≠ 0) fun i j => .int (i.fdiv j)) (tVar 2) (tVar 1)) rfl nd (pi_list (pv 0))
        (blkOk_by (own := [("entry", 2)]) (N := ["entries", "shared", "entry"]) (sc := defScope s_without_divisor) (by decide +kernel))
        (fun _ _ _ _ _ => pg_name (i := 2) nd rfl (.inl rfl)) (fun _ _ _ _ _ => pts_nil)
        (fun _ _ _ _ _ => pe_op (op_fdivP S.blk) (pv 2) (pv 1)))))), ?_⟩
  obtain ⟨a, rfl, ea, na⟩ := dv_ints hv
  refine ⟨_, rfl, a, rfl, ⟨_, SqL.of ea⟩, ?_⟩
  refine for_it (n := (xs.map V.int).length) walk_list (fun i σ H' => H' = H ∧ ∃ p2, σ = [some (.ref a), some (.int (gcdL (xs.take i) : Nat)), p2]) ⟨rfl, none, rfl⟩
    (fun i σ H' _ ⟨e, _⟩ => by rw [e]; exact SqL.of ea) (fun i x σ H3 H4 hi h y => ?_) (fun σ H3 h => ?_)
  · obtain ⟨rfl, p2, rfl⟩ := h
    obtain ⟨rfl, ex⟩ := y
    obtain ⟨hi, rfl⟩ := at_ints ex
    refine ⟨_, rfl, _, rfl, _, _, rfl, ?_⟩
    have e3 : ((Nat.gcd (gcdL (xs.take i) : Int).natAbs (ent xs i).natAbs : Nat) : Int) = (gcdL (xs.take (i + 1)) : Nat) := by
      rw [gcdL_take hi]
      rfl
    rw [e3]
    refine ⟨_, rfl, rfl, _, rfl, ?_⟩
    by_cases c : gcdL (xs.take (i + 1)) = 1
    · refine if_true_of (by simp [c]) ?_
      refine ⟨_, rfl, ?_⟩
      have c1 : gcdL xs = 1 := Nat.dvd_one.mp (c ▸ gcdL_take_dvd xs (i + 1))
      refine q _ _ Go.refl ht ?_
      rw [prL_one c1]
      exact hv
    · refine if_false_of (by simp; omega) ?_
      exact ⟨rfl, _, rfl⟩
  · obtain ⟨rfl, p2, rfl⟩ := h
    rw [List.length_map, List.take_length]
    refine ⟨_, rfl, a, rfl, ⟨_, SqL.of ea⟩, fun L hL => ?_⟩
    refine lc_dv (T := T) (M := M) (fun j => .int (ent (prL xs) j)) (walk_list (xs := xs.map V.int)) (fun H' g' => SqL.of (g'.lst ea (nn _))) ht Go.refl hL (by rw [sizeLine_eq, List.length_map]; omega) (fun j v H6 H7 R hj g6 t6 _ y hR => ?_) (fun H6 ys g6 t6 ed6 da => ?_)
    · obtain ⟨rfl, ey⟩ := y
      obtain ⟨hj, rfl⟩ := at_ints ey
      refine ⟨rfl, _, rfl, _, rfl, _, _, rfl, rfl, (by omega), ?_⟩
      refine hR _ _ Go.refl ?_
      rw [show ent (prL xs) j = (ent xs j).fdiv (gcdL xs : Nat) by
        rw [fdiv_dvd (SQ.ent_dvd xs j)]
        have := SQ.prL_mul xs j
        exact (Int.ediv_eq_of_eq_mul_right (by omega) this.symm).symm]
      exact .int _
    · refine q _ _ g6 t6 ?_
      rw [List.length_map, ints_of (SQ.prL_len xs) (fun i _ => rfl)] at da
      exact .lst ed6 (fun z => hM _ z hL) (da.less fun b hb => List.mem_cons_of_mem _ hb)
end
end KN
set_option Elab.async false
set_option linter.all false
set_option maxRecDepth 100000
set_option maxHeartbeats 4000000
/-! k39: _without_pivot -/
namespace KN
open PySem PySem.Spec PyProof.Rows L2 GxR NdefX GA SL ZN RZ
open SQ (ent gcdL prL elimOf)
/-- short enough numbers -/
def Sh (xs : List Int) : Prop := ∀ e, (ent xs e).natAbs < 2 ^ 9000
theorem prL_le (xs : List Int) (e : Nat) : (ent (prL xs) e).natAbs ≤ (ent xs e).natAbs := by
  rw [← SQ.prL_mul xs e, Int.natAbs_mul]
  by_cases h : ent xs e = 0
  · have := SQ.prL_mul xs e
    rw [h] at this
    rcases Int.mul_eq_zero.mp this with z | z
    · have hz : ent (prL xs) e = ent xs e / (gcdL xs : Int) := SQ.ent_map (by simp) xs e
      rw [hz, z, Int.ediv_zero]
      simp
    · rw [z]; simp
  · have : (gcdL xs : Int) ≠ 0 := fun z => h (by rw [← SQ.prL_mul xs e, z, Int.zero_mul])
    exact Nat.le_mul_of_pos_left _ (by omega)
theorem Sh.prL {xs : List Int} (h : Sh xs) : Sh (prL xs) := fun e => Nat.lt_of_le_of_lt (prL_le xs e) (h e)
theorem Sh.of {xs : List Int} (h : ∀ e < xs.length, (ent xs e).natAbs < 2 ^ 9000) : Sh xs := fun e => by
  by_cases c : e < xs.length
  · exact h e c
  · rw [SQ.ent_ge (by omega)]
    exact Nat.pow_pos (by decide)
theorem sh_mul {i j : Int} (h : i.natAbs < 2 ^ 9000) (h2 : j.natAbs < 2 ^ 9000) : CMulW i j := wide_mul h h2 (by decide) (by decide) (by decide)
abbrev s_without_pivot : Stmt := top 21
abbrev NW : List Str := ["row", "fresh", "pivot", "times", "less", "entry", "other"]
theorem sc_without_pivot : FnScope NW ["row", "fresh", "pivot"] (defScope s_without_pivot) := ⟨rfl, rfl, rfl, by decide +kernel, rfl, by decide +kernel, by decide +kernel⟩
/-- the sum that is 0 at the place -/
def sumOf (R fr : List Int) (q : Nat) : List Int := List.zipWith (fun e o => ent (prL [ent fr q, ent R q]) 0 * e - ent (prL [ent fr q, ent R q]) 1 * o) R fr
def sp_without_pivot (T : List Addr) : Sp := fun vs H Q _ => ∃ (M : List Addr) (v1 v2 : V) (R fr : List Int) (q : Nat), vs = [v1, v2, .int (q : Int)] ∧ Dv M H v1 (zsD R) ∧ Dv M H v2 (zsD fr) ∧ R.length = fr.length ∧ R.length ≤ 4000 ∧ q < R.length ∧ ent fr q ≠ 0 ∧ Sh R ∧ Sh fr ∧
  (ent R q ≠ 0 → 0 < gcdL (sumOf R fr q)) ∧ (∀ b ∈ M, H b ≠ none) ∧ Tabs T H ∧ ∀ u H', Go T [] H H' → Tabs T H' → Dv M H' u (zsD (elimOf R fr q)) → Q u H'
section
variable {P : Program} {w : World} {K : PySem.W.Frag} {mg : Str → Option Value} {base : Heap} {f : Addr} {fd : FuncData} {T : List Addr}
theorem ok_without_pivot (F : Fun K "_without_pivot" "_without_pivot" s_without_pivot f fd) (hz : mg "zip" = none) (Fw : Fnn P w K mg base CX0 33 "without_divisor" ["entries"] (sp_without_divisor T)) : FnOk P w K mg base CX0 34 f fd ["row", "fresh", "pivot"] (sp_without_pivot T) := by
  refine F.ok sc_without_pivot (fun vs H Q E h => ?_) (fun cdv A outer s H vs Q E hr h => ?_)
  · obtain ⟨_, _, _, _, _, _, rfl, _⟩ := h
    rfl
  obtain ⟨M, v1, v2, R, fr, k, rfl, hv1, hv2, hll, hl, hk, hf, hR, hF, hg, hM, ht, q⟩ := h
  have nd := sc_without_pivot.nd
  have nn : ∀ b : Addr, b ∉ ([] : List Addr) := fun b => List.not_mem_nil
  refine ⟨_, pss_cons (ps_if (pt_cmpR op_eq (pe_ix ix_list (pv 0) (pv 2) (fun _ _ => rfl)) pe_int (nomark _)) (pss_one (ps_ret (pv 0))) pss_nil)
    (pss_cons (ps_asg (pe_fn Fw hr (by decide) pass0 (pa_cons (pe_lst (pa_cons (pe_ix ix_list (pv 1) (pv 2) (fun _ _ => rfl)) (pa_cons (pe_ix ix_list (pv 0) (pv 2) (fun _ _ => rfl)) pa_nil))) pa_nil)) (pg_lst rfl (pgs_cons (pg_name (i := 3) nd rfl (.inr rfl)) (pgs_cons (pg_name (i := 4) nd rfl (.inr rfl)) pgs_nil))))
    (pss_one (ps_ret (pe_fn Fw hr (by decide) pass0 (pa_cons (pe_lc (own := [("entry", 5), ("other", 6)]) (g := gTup K 2 (gCons (gName 5) (gCons (gName 6) gNil))) (tt := tYes) (te := tOp (rI0 fun i j => .int (i - j)) (tOp (rI CMulW fun i j => .int (i * j)) (tVar 3) (tVar 5)) (tOp (rI CMulW fun i j => .int (i * j)) (tVar 4) (tVar 6))) rfl nd (pi_zipA rfl hz (pa_cons (pv 0) (pa_cons (pv 1) pa_nil)))
        (blkOk_by (own := [("entry", 5), ("other", 6)]) (N := NW) (sc := defScope s_without_pivot) (by decide +kernel))
        (fun _ _ _ _ _ => pg_tup rfl (pgs_cons (pg_name (i := 5) nd rfl (.inl rfl)) (pgs_cons (pg_name (i := 6) nd rfl (.inl rfl)) pgs_nil))) (fun _ _ _ _ _ => pts_nil)
        (fun _ _ _ _ _ => pe_op op_sub (pe_op op_mulW (pv 3) (pv 5)) (pe_op op_mulW (pv 4) (pv 6)))) pa_nil))))), ?_⟩
  obtain ⟨a, rfl, ea, na⟩ := dv_ints hv1
  obtain ⟨b, rfl, eb, nb⟩ := dv_ints hv2
  refine ⟨_, rfl, _, rfl, a, _, (k : Int), _, rfl, rfl, SqL.of ea, atI_nat (get_ints hk), rfl, _, rfl, ?_⟩
  by_cases c : ent R k = 0
  · refine if_true_of (by simp [c]) ?_
    refine ⟨_, rfl, q _ _ Go.refl ht ?_⟩
    unfold SQ.elimOf
    rw [if_pos c]
    exact hv1
  refine if_false_of (by simp [c]) ?_
  have eE : elimOf R fr k = prL (sumOf R fr k) := by
    unfold SQ.elimOf
    rw [if_neg c]
    rfl
  rw [eE] at q
  refine ⟨_, rfl, _, rfl, b, _, (k : Int), _, rfl, rfl, SqL.of eb, atI_nat (get_ints (by omega)), _, rfl, _, rfl, a, _, (k : Int), _, rfl, rfl, SqL.of ea, atI_nat (get_ints hk), ?_⟩
  refine ⟨by show 2 ≤ sizeLine; decide, fun L hL => ?_⟩
  have g0 := Go.new (T := T) (M := []) (o := .lst [V.int (ent fr k), V.int (ent R k)]) hL
  have gp : 0 < gcdL [ent fr k, ent R k] := SQ.gcdL_pos (x := ent fr k) (List.mem_cons_self ..) hf
  have hs : Sh [ent fr k, ent R k] := fun e => by
    match e with
    | 0 => exact hF k
    | 1 => exact hR k
    | e + 2 => exact Nat.pow_pos (by decide)
  refine ⟨M, _, [ent fr k, ent R k], rfl, ints_dv (a := L) upd_same (fun z => hM _ z hL), by show 2 ≤ 4000; decide, gp, (fun x hx z => hM x hx (g0.al x z)), g0.tb ht, fun u H1 g1 t1 hu => ?_⟩
  have g01 := g0.trans g1
  have lp : (prL [ent fr k, ent R k]).length = 2 := SQ.prL_len _
  have hsp := hs.prL
  unfold sumOf at q hg
  generalize prL [ent fr k, ent R k] = pr at *
  obtain ⟨p0, p1, rfl⟩ : ∃ x y, pr = [x, y] := by
    match pr, lp with
    | [x, y], _ => exact ⟨x, y, rfl⟩
  obtain ⟨l, rfl, el, nl⟩ := dv_ints hu
  refine ⟨l, _, rfl, SqL.of el, rfl, _, _, rfl, _, _, rfl, rfl, ?_⟩
  have ea1 := g01.lst ea (nn _)
  have eb1 := g01.lst eb (nn _)
  refine ⟨_, rfl, _, rfl, a, b, _, _, rfl, .inl ⟨SqL.of ea1, SqL.of eb1, fun D hD => ?_⟩⟩
  change ∀ u H', Go T [] H H' → Tabs T H' → Dv M H' u (zsD (prL (List.zipWith (fun e o => p0 * e - p1 * o) R fr))) → Q u H' at q
  change ent R k ≠ 0 → 0 < gcdL (List.zipWith (fun e o => p0 * e - p1 * o) R fr) at hg
  have lz : (List.zipWith (fun e o => p0 * e - p1 * o) R fr).length = R.length := by rw [List.length_zipWith]; omega
  refine lc_dv (T := T) (M := M) (fun j => .int (p0 * ent R j - p1 * ent fr j)) (walkZL (xs := R.map V.int) (ys := fr.map V.int) (by rw [List.length_map, List.length_map, hll])) (fun H' g' => ⟨SqL.of (g'.lst ea1 (nn _)), SqL.of (g'.lst eb1 (nn _))⟩) t1 Go.refl hD (by rw [List.length_map, sizeLine_eq]; omega) (fun j v H6 H7 Rt hj g6 t6 _ y hRt => ?_) (fun H6 ys g6 t6 ed6 da => ?_)
  · obtain ⟨p, x, y', rfl, hn, rfl, ex, ey⟩ := y
    obtain ⟨hj1, rfl⟩ := at_ints ex
    obtain ⟨hj2, rfl⟩ := at_ints ey
    refine ⟨p, _, rfl, SqT.of upd_same, rfl, _, _, rfl, _, _, rfl, rfl, rfl, _, rfl, _, rfl, _, _, rfl, rfl, sh_mul (hsp 0) (hR j), _, rfl, _, rfl, _, _, rfl, rfl, sh_mul (hsp 1) (hF j), _, _, rfl, rfl, ?_⟩
    exact hRt _ _ (Go.new hn) (.int _)
  · rw [List.length_map, ints_of (xs := List.zipWith (fun e o => p0 * e - p1 * o) R fr) lz (fun i hi => SQ.ent_zip hi (by omega))] at da
    have g6' := g01.trans g6
    refine ⟨M, _, _, rfl, .lst ed6 (fun z => hM _ z (g01.al _ hD)) (da.less fun x hx => List.mem_cons_of_mem _ hx), by rw [lz]; exact hl, hg c, (fun x hx z => hM x hx (g6'.al x z)), t6, fun u H8 g8 t8 hu8 => q u H8 (g6'.trans g8) t8 hu8⟩
end
end KN
set_option Elab.async false
set_option linter.all false
set_option maxRecDepth 100000
set_option maxHeartbeats 8000000
/-! k39: the class Span: _rest -/
namespace KN
open PySem PySem.Spec PyProof.Rows L2 GxR NdefX GA SL ZN RZ
open SQ (ent gcdL prL elimOf usedOf totOf tot wtOf stepOf restOf)
/-- the class as its methods need it -/
structure SpC (K : PySem.W.Frag) (C : Addr) : Prop where
  c : Cls K C
  w : NoAttr K C "width"
  p : NoAttr K C "pivots"
  r : NoAttr K C "rows"
  b : NoAttr K C "bottoms"
/-- the fields of an instance -/
abbrev spF (w : Nat) (lp lr lb : Addr) : List (Str × V) := [("width", .int (w : Int)), ("pivots", .ref lp), ("rows", .ref lr), ("bottoms", .ref lb)]
abbrev natV (ps : List Nat) : List V := ps.map fun k : Nat => V.int (k : Int)
/-- what stands at the instance; the rows are apart from Ex -/
structure SpanX (C : Addr) (H : Hp) (p lp lr lb : Addr) (w : Nat) (ps : List Nat) (rs : List (List Int)) (bs : List Int) (Ex : List Addr) : Prop where
  ob : ∃ dx, H p = some (.ins C dx (spF w lp lr lb))
  pv : H lp = some (.lst (natV ps))
  bt : H lb = some (.lst (bs.map V.int))
  ne : lp ≠ lb
  rw : ∃ rvs, H lr = some (.lst rvs) ∧ DvAll (p :: lp :: lb :: Ex) H rvs (rs.map zsD)
  rp : lr ≠ lp
  rb : lr ≠ lb
  rx : lr ∉ Ex
abbrev SpanAt (C : Addr) (H : Hp) (p lp lr lb : Addr) (w : Nat) (ps : List Nat) (rs : List (List Int)) (bs : List Int) : Prop := SpanX C H p lp lr lb w ps rs bs []
theorem SpanX.go {C : Addr} {H H' : Hp} {p lp lr lb : Addr} {w : Nat} {ps : List Nat} {rs : List (List Int)} {bs : List Int} {Ex : List Addr} {T : List Addr} (S : SpanX C H p lp lr lb w ps rs bs Ex) (g : Go T [] H H') : SpanX C H' p lp lr lb w ps rs bs Ex := by
  obtain ⟨dx, e⟩ := S.ob
  obtain ⟨rvs, er, dr⟩ := S.rw
  exact ⟨⟨dx, g.gr p _ e List.not_mem_nil fun _ z => by cases z⟩, g.lst S.pv List.not_mem_nil, g.lst S.bt List.not_mem_nil, S.ne, ⟨rvs, g.lst er List.not_mem_nil, dr.go g.of0⟩, S.rp, S.rb, S.rx⟩
theorem SpanX.drop {C : Addr} {H : Hp} {p lp lr lb : Addr} {w : Nat} {ps : List Nat} {rs : List (List Int)} {bs : List Int} {Ex : List Addr} (S : SpanX C H p lp lr lb w ps rs bs Ex) : SpanAt C H p lp lr lb w ps rs bs := by
  obtain ⟨rvs, er, dr⟩ := S.rw
  exact ⟨S.ob, S.pv, S.bt, S.ne, ⟨rvs, er, dr.less fun b hb => by simp only [List.mem_cons, List.not_mem_nil, or_false] at hb ⊢; rcases hb with h | h | h <;> simp [h]⟩, S.rp, S.rb, List.not_mem_nil⟩
/-- what Ex names may change -/
theorem SpanX.goX {C : Addr} {H H' : Hp} {p lp lr lb : Addr} {w : Nat} {ps : List Nat} {rs : List (List Int)} {bs : List Int} {Ex : List Addr} {T : List Addr} (S : SpanX C H p lp lr lb w ps rs bs Ex) (g : Go T Ex H H') (n1 : p ∉ Ex) (n2 : lp ∉ Ex) (n3 : lb ∉ Ex) : SpanX C H' p lp lr lb w ps rs bs Ex := by
  obtain ⟨dx, e⟩ := S.ob
  obtain ⟨rvs, er, dr⟩ := S.rw
  exact ⟨⟨dx, g.gr p _ e n1 fun _ z => by cases z⟩, g.lst S.pv n2, g.lst S.bt n3, S.ne, ⟨rvs, g.lst er S.rx, dr.go (g.more fun b hb => List.mem_cons_of_mem _ (List.mem_cons_of_mem _ (List.mem_cons_of_mem _ hb)))⟩, S.rp, S.rb, S.rx⟩
/-- new addresses may be put into Ex -/
theorem SpanX.hide {C : Addr} {H : Hp} {p lp lr lb D : Addr} {w : Nat} {ps : List Nat} {rs : List (List Int)} {bs : List Int} (S : SpanAt C H p lp lr lb w ps rs bs) (hD : H D = none) : SpanX C H p lp lr lb w ps rs bs [D] := by
  obtain ⟨rvs, er, dr⟩ := S.rw
  refine ⟨S.ob, S.pv, S.bt, S.ne, ⟨rvs, er, (dr.hide hD).less fun b hb => ?_⟩, S.rp, S.rb, fun z => ?_⟩
  · simp only [List.mem_cons, List.not_mem_nil, or_false] at hb ⊢
    rcases hb with h | h | h | h <;> simp [h]
  · rw [List.mem_singleton.mp z, hD] at er; cases er
/-- what the rows and the vector must be -/
structure Fit (ps : List Nat) (rs : List (List Int)) (tops : List Int) : Prop where
  lp : ps.length = rs.length
  n : ps.length ≤ 4000
  lt : tops.length ≤ 4000
  each : ∀ pr ∈ ps.zip rs, pr.1 < tops.length ∧ tops.length ≤ pr.2.length ∧ ent pr.2 pr.1 ≠ 0 ∧ Sh pr.2
  sh : Sh tops
  tot : tot ps rs tops < 2 ^ 200000
theorem used_sub {ps : List Nat} {rs : List (List Int)} {tops : List Int} {u : Nat × List Int} (h : u ∈ usedOf ps rs tops) : u ∈ ps.zip rs := (List.mem_filter.mp h).1
theorem totOf_snoc (us : List (Nat × List Int)) (u : Nat × List Int) : totOf (us ++ [u]) = Nat.lcm (totOf us) (ent u.2 u.1).natAbs := by
  unfold totOf
  rw [List.foldl_append]
  rfl
theorem totOf_take (us : List (Nat × List Int)) (i : Nat) : totOf (us.take i) ∣ totOf us := by
  have e : us = us.take i ++ us.drop i := (List.take_append_drop i us).symm
  rw [show totOf us = totOf (us.take i ++ us.drop i) from congrArg totOf e]
  unfold totOf
  rw [List.foldl_append]
  exact SQ.fold_dvd _ _
abbrev s_Span : Stmt := top 19
abbrev s_rest : Stmt := inClass s_Span 10
abbrev NR : List Str := ["self", "tops", "pivot", "row", "used", "total", "rest", "weight", "top", "entry", "other"]
theorem sc_rest : FnScope NR ["self", "tops"] (defScope s_rest) := ⟨rfl, rfl, rfl, by decide +kernel, rfl, by decide +kernel, by decide +kernel⟩
def sp_rest (T : List Addr) (C : Addr) : Sp := fun vs H Q _ => ∃ (p lp lr lb : Addr) (w : Nat) (ps : List Nat) (rs : List (List Int)) (bs : List Int) (M : List Addr) (v : V) (ts : List Int), vs = [.ref p, v] ∧ SpanAt C H p lp lr lb w ps rs bs ∧ Dv M H v (zsD ts) ∧ Fit ps rs ts ∧ Tabs T H ∧
  ∀ r l H', H r = none → H l = none → H' r = some (.tup [.int (tot ps rs ts : Nat), .ref l]) → H' l = some (.lst ((restOf ps rs ts).map V.int)) → Go T [] H H' → Tabs T H' → Q (.ref r) H'
section
variable {P : Program} {w : World} {K : PySem.W.Frag} {mg : Str → Option Value} {base : Heap} {f C : Addr} {fd : FuncData} {T : List Addr}
theorem ok_rest (F : Fun K "_rest" "Span._rest" s_rest f fd) (SC : SpC K C) (Cm : Cn mg) (hz : mg "zip" = none) (hN : base.NoSeer) (hT : P.given.tree = none) : FnOk P w K mg base CX0 33 f fd ["self", "tops"] (sp_rest T C) := by
  refine F.ok sc_rest (fun vs H Q E h => ?_) (fun cdv A outer s H vs Q E hr h => ?_)
  · obtain ⟨_, _, _, _, _, _, _, _, _, _, _, rfl, _⟩ := h
    rfl
  obtain ⟨p, lp, lr, lb, wd, ps, rs, bs, M, v, ts, rfl, hS, hv, hF, ht, q⟩ := h
  have nd := sc_rest.nd
  have nn : ∀ b : Addr, b ∉ ([] : List Addr) := fun b => List.not_mem_nil
  have S : Seer (cxOf CX0 P w K mg base NR "Span._rest" (defScope s_rest) f cdv A outer s H E).nox := seer_mk (by decide) hN hT hr
  refine ⟨_, pss_cons (ps_setLc (i := 4) (own := [("pivot", 2), ("row", 3)]) (g := gTup K 2 (gCons (gName 2) (gCons (gName 3) gNil))) (tt := tTest (tOp rNe (tOp (rIxL K) (tVar 1) (tVar 2)) (tC (.int 0)))) (te := tTup (tCons (tVar 2) (tCons (tVar 3) tNil))) rfl nd rfl rfl (sw_true rfl rfl rfl (by decide +kernel))
        (pi_zipA rfl hz (pa_cons (pe_fld (pv 0) rfl) (pa_cons (pe_fld (pv 0) rfl) pa_nil)))
        (blkOk_by (own := [("pivot", 2), ("row", 3)]) (N := NR) (sc := defScope s_rest) (by decide +kernel))
        (fun _ _ _ _ _ => pg_tup rfl (pgs_cons (pg_name (i := 2) nd rfl (.inl rfl)) (pgs_cons (pg_name (i := 3) nd rfl (.inl rfl)) pgs_nil)))
        (fun _ _ _ _ _ => pts_one (pt_cmpR op_ne (pe_ix ix_list (pv 1) (pv 2) (fun _ _ => rfl)) pe_int (nomark _)))
        (fun _ _ _ _ _ => pe_tup (pa_cons (pv 2) (pa_cons (pv 3) pa_nil))))
    (pss_cons (ps_set (i := 5) nd rfl (.inr rfl) pe_int)
    (pss_cons (ps_for PassesOwn.never rfl (pi_list (pv 4)) (pg_tup rfl (pgs_cons (pg_name (i := 2) nd rfl (.inl rfl)) (pgs_cons (pg_name (i := 3) nd rfl (.inl rfl)) pgs_nil)))
      (pss_one (ps_set (i := 5) nd rfl (.inr rfl) (pe_callBfun (cr_lcmP S) rfl Cm.lcm (pa_cons (pv 5) (pa_cons (pe_ix ix_list (pv 3) (pv 2) (fun _ _ => rfl)) pa_nil))))))
    (pss_cons (ps_setLc (i := 6) (own := [("top", 8)]) (g := gName 8) (tt := tYes) (te := tOp (rI CMulW fun i j => .int (i * j)) (tVar 5) (tVar 8)) rfl nd rfl rfl (sw_true rfl rfl rfl (by decide +kernel)) (pi_list (pv 1))
        (blkOk_by (own := [("top", 8)]) (N := NR) (sc := defScope s_rest) (by decide +kernel))
        (fun _ _ _ _ _ => pg_name (i := 8) nd rfl (.inl rfl)) (fun _ _ _ _ _ => pts_nil) (fun _ _ _ _ _ => pe_op op_mulW (pv 5) (pv 8)))
    (pss_cons (ps_for PassesOwn.never rfl (pi_list (pv 4)) (pg_tup rfl (pgs_cons (pg_name (i := 2) nd rfl (.inl rfl)) (pgs_cons (pg_name (i := 3) nd rfl (.inl rfl)) pgs_nil)))
      (pss_cons (ps_set (i := 7) nd rfl (.inr rfl) (pe_op op_mulW (pe_ix ix_list (pv 1) (pv 2) (fun _ _ => rfl)) (pe_op (op_fdivP S) (pv 5) (pe_ix ix_list (pv 3) (pv 2) (fun _ _ => rfl)))))
      (pss_one (ps_setLc (i := 6) (own := [("entry", 9), ("other", 10)]) (g := gTup K 2 (gCons (gName 9) (gCons (gName 10) gNil))) (tt := tYes) (te := tOp (rI0 fun i j => .int (i - j)) (tVar 9) (tOp (rI CMulW fun i j => .int (i * j)) (tVar 7) (tVar 10))) rfl nd rfl rfl (sw_true rfl rfl rfl (by decide +kernel)) (pi_zipA rfl hz (pa_cons (pv 6) (pa_cons (pv 3) pa_nil)))
        (blkOk_by (own := [("entry", 9), ("other", 10)]) (N := NR) (sc := defScope s_rest) (by decide +kernel))
        (fun _ _ _ _ _ => pg_tup rfl (pgs_cons (pg_name (i := 9) nd rfl (.inl rfl)) (pgs_cons (pg_name (i := 10) nd rfl (.inl rfl)) pgs_nil))) (fun _ _ _ _ _ => pts_nil)
        (fun _ _ _ _ _ => pe_op op_sub (pv 9) (pe_op op_mulW (pv 7) (pv 10)))))))
    (pss_one (ps_ret (pe_tup (pa_cons (pv 5) (pa_cons (pv 6) pa_nil))))))))), ?_⟩
  obtain ⟨dx, eP⟩ := hS.ob
  obtain ⟨rvs, er, dr⟩ := hS.rw
  have lrv := dr.length
  rw [List.length_map] at lrv
  obtain ⟨a, rfl, ea, na⟩ := dv_ints hv
  have hlp := hF.lp
  have lzip : (natV ps).length = (ps.zip rs).length := by rw [List.length_map, List.length_zip]; omega
  have wk := walkZL (K := K) (a := lp) (b := lr) (xs := natV ps) (ys := rvs) (by rw [List.length_map, lrv, hlp])
  rw [lzip] at wk
  refine ⟨_, rfl, p, C, dx, _, _, rfl, eP, SC.c, SC.p, rfl, _, rfl, p, C, dx, _, _, rfl, eP, SC.c, SC.r, rfl, lp, lr, _, _, rfl, .inl ⟨SqL.of hS.pv, SqL.of er, fun L hL => ?_⟩⟩
  refine lc_fdv (T := T) (M := [p, lp, lb]) (ps.zip rs) (fun pr => decide (ent ts pr.1 ≠ 0)) (fun pr => .tuple [.int (pr.1 : Int), zsD pr.2]) wk (fun H' g' => ⟨SqL.of (g'.lst hS.pv (nn _)), SqL.of (g'.lst er (nn _))⟩) ht Go.refl hL (by rw [sizeLine_eq, ← lzip, List.length_map]; have := hF.n; omega)
    (fun j v pr H6 H7 Rt Rf hpr g6 t6 hne y hRt hRf => ?_) (fun H6 ys g6 t6 ed6 da => ?_)
  · obtain ⟨z, x, y', rfl, hn, rfl, ex, ey⟩ := y
    have hm := List.mem_of_getElem? hpr
    obtain ⟨k, R⟩ := pr
    obtain ⟨b1, b2, b3, b4⟩ : k < ts.length ∧ ts.length ≤ R.length ∧ ent R k ≠ 0 ∧ Sh R := hF.each _ hm
    obtain ⟨hk, hR⟩ := List.getElem?_zip_eq_some.mp hpr
    have ex' : (natV ps)[j]? = some (.int (k : Int)) := by rw [List.getElem?_map, hk] <;> rfl
    rw [ex] at ex'
    cases ex'
    obtain ⟨d, ed, hy⟩ := ((dr.hide hL).go g6.of0).get ey
    rw [List.getElem?_map, hR] at ed
    cases ed
    have u := Go.new (T := T) (M := []) (o := .tup [.int (k : Int), y']) hn
    refine ⟨z, _, rfl, SqT.of upd_same, rfl, _, _, rfl, _, _, rfl, rfl, rfl, ?_⟩
    refine ⟨_, rfl, _, rfl, a, _, (k : Int), _, rfl, rfl, SqL.of ((g6.trans u).lst ea (nn _)), atI_nat (get_ints b1), rfl, _, rfl, ?_⟩
    by_cases c : ent ts k = 0
    · refine if_false_of (by simp [c]) ?_
      exact hRf (by simp [c]) _ u
    · refine if_true_of (by simp [c]) ?_
      refine ⟨_, rfl, _, rfl, by show 2 ≤ sizeLine; decide, fun t2 ht2 => ?_⟩
      have u2 := Go.new (T := T) (M := []) (o := .tup [.int (k : Int), y']) ht2
      refine hRt (by simp [c]) _ _ (u.trans u2) (.tup upd_same (fun z2 => ?_) (.cons (.int _) (.cons ((hy.go u.of0).go u2.of0) .nil)))
      have h6 := u.al _ ht2
      rcases List.mem_cons.mp z2 with e | e
      · rw [e] at h6; exact hne h6
      · have h0 := g6.al _ h6
        rcases List.mem_cons.mp e with e | e
        · rw [e, eP] at h0; cases h0
        rcases List.mem_cons.mp e with e | e
        · rw [e, hS.pv] at h0; cases h0
        · rw [List.mem_singleton.mp e, hS.bt] at h0; cases h0
  · change DvAll _ _ _ ((usedOf ps rs ts).map _) at da
    have hus : ∀ u ∈ usedOf ps rs ts, u.1 < ts.length ∧ ts.length ≤ u.2.length ∧ ent u.2 u.1 ≠ 0 ∧ Sh u.2 := fun u hu => hF.each u (used_sub hu)
    have eT : totOf (usedOf ps rs ts) = tot ps rs ts := rfl
    have hT2 : totOf (usedOf ps rs ts) < 2 ^ 200000 := hF.tot
    have p0 : 0 < totOf (usedOf ps rs ts) := SQ.fold_pos (by decide) fun u hu => (hus u hu).2.2.1
    have eR : restOf ps rs ts = (usedOf ps rs ts).foldl (stepOf ts (totOf (usedOf ps rs ts) : Int)) (ts.map ((totOf (usedOf ps rs ts) : Int) * ·)) := rfl
    rw [← eT, eR] at q
    generalize usedOf ps rs ts = us at *
    have lys := da.length
    rw [List.length_map] at lys
    have unp : ∀ {i : Nat} {x : V}, ys[i]? = some x → ∃ (k : Nat) (R : List Int) (r ra : Addr), us[i]? = some (k, R) ∧ x = .ref r ∧ H6 r = some (.tup [.int (k : Int), .ref ra]) ∧ H6 ra = some (.lst (R.map V.int)) := fun {i x} ex => by
      obtain ⟨d, ed, hx⟩ := da.get ex
      rw [List.getElem?_map] at ed
      obtain ⟨⟨k, R⟩, er, rfl⟩ := Option.map_eq_some_iff.mp ed
      obtain ⟨r, vx, vy, rfl, er', _, hvx, hvy⟩ := dv_pair hx
      cases hvx
      obtain ⟨ra, rfl, era, _⟩ := dv_ints hvy
      exact ⟨k, R, r, ra, er, rfl, er', era⟩
    refine ⟨_, rfl, L, rfl, ⟨_, SqL.of ed6⟩, ?_⟩
    refine for_it (n := ys.length) walk_list (fun i σ H' => H' = H6 ∧ ∃ p2 p3, σ = [some (.ref p), some (.ref a), p2, p3, some (.ref L), some (.int (totOf (us.take i) : Nat)), none, none, none, none, none]) ⟨rfl, none, none, rfl⟩
      (fun i σ H' _ ⟨e, _⟩ => by rw [e]; exact SqL.of ed6) (fun i x σ H3 H4 hi h y => ?_) (fun σ H3 h => ?_)
    · obtain ⟨rfl, p2, p3, rfl⟩ := h
      obtain ⟨rfl, ex⟩ := y
      obtain ⟨k, R, r, ra, eu, rfl, er', era⟩ := unp ex
      obtain ⟨b1, b2, b3, b4⟩ : k < ts.length ∧ ts.length ≤ R.length ∧ ent R k ≠ 0 ∧ Sh R := hus _ (List.mem_of_getElem? eu)
      have e3 : totOf (us.take (i + 1)) = Nat.lcm (totOf (us.take i)) (ent R k).natAbs := by
        rw [List.take_add_one, eu]
        exact totOf_snoc _ _
      have z1 : (totOf (us.take i)).log2 < 200000 := log2_pow (Nat.lt_of_le_of_lt (Nat.le_of_dvd p0 (totOf_take us i)) hT2) (by decide)
      have z2 : (ent R k).natAbs.log2 < 9000 := log2_pow (b4 k) (by decide)
      refine ⟨r, _, rfl, SqT.of er', rfl, _, _, rfl, _, _, rfl, rfl, ?_⟩
      refine ⟨_, rfl, _, rfl, _, rfl, ra, _, (k : Int), _, rfl, rfl, SqL.of era, atI_nat (get_ints (Nat.lt_of_lt_of_le b1 b2)), _, _, rfl, (Nat.lt_of_lt_of_le (Nat.add_lt_add z1 z2) (by decide)), ?_⟩
      exact ⟨rfl, _, _, by rw [e3]; rfl⟩
    · obtain ⟨rfl, p2, p3, rfl⟩ := h
      rw [lys, List.take_length]
      have ea6 := g6.lst ea (nn _)
      refine ⟨_, rfl, a, rfl, ⟨_, SqL.of ea6⟩, fun D hD => ?_⟩
      have lts := hF.lt
      refine lc_map (T := T) (fun j => V.int ((totOf us : Int) * ent ts j)) (walk_list (xs := ts.map V.int)) (fun H' g' => SqL.of (g'.lst ea6 (nn _))) t6 Go.refl hD (by rw [sizeLine_eq, List.length_map]; omega) (fun j v H7 H8 R hj g7 t7 y hR => ?_) (fun H7 g7 t7 ed7 => ?_)
      · obtain ⟨rfl, ey⟩ := y
        obtain ⟨hj, rfl⟩ := at_ints ey
        refine ⟨rfl, _, rfl, _, rfl, _, _, rfl, rfl, wide_mul (a := 200000) (by simpa using hT2) (hF.sh j) (by decide) (by decide) (by decide), ?_⟩
        exact hR _ Go.refl
      · have ed7' : H7 D = some (.lst ((ts.map ((totOf us : Int) * ·)).map V.int)) := by
          rw [ed7, List.length_map]
          congr 2
          refine List.ext_getElem (by simp) fun i h1 h2 => ?_
          rw [List.length_map, List.length_range] at h1
          simp [SQ.ent_get h1]
        clear ed7
        refine ⟨_, rfl, L, rfl, ⟨_, SqL.of (g7.lst ed6 (nn _))⟩, ?_⟩
        refine for_it (n := ys.length) walk_list (fun i σ H' => Go T [] H3 H' ∧ Tabs T H' ∧ ∃ p2 p3 p7 l, σ = [some (.ref p), some (.ref a), p2, p3, some (.ref L), some (.int (totOf us : Nat)), some (.ref l), p7, none, none, none] ∧ H l = none ∧
            H' l = some (.lst (((us.take i).foldl (stepOf ts (totOf us : Int)) (ts.map ((totOf us : Int) * ·))).map V.int))) ⟨g7, t7, p2, p3, none, D, rfl, g6.al _ hD, ed7'⟩
          (fun i σ H' _ ⟨g8, _⟩ => SqL.of (g8.lst ed6 (nn _))) (fun i x σ H8 H9 hi h y => ?_) (fun σ H8 h => ?_)
        · obtain ⟨g8, t8, p2, p3, p7, l, rfl, hl, el⟩ := h
          obtain ⟨rfl, ex⟩ := y
          obtain ⟨k, R, r, ra, eu, rfl, er', era⟩ := unp ex
          have er8 := g8.tup er' (nn _)
          have era8 := g8.lst era (nn _)
          have ea8 := g8.lst ea6 (nn _)
          obtain ⟨b1, b2, b3, b4⟩ : k < ts.length ∧ ts.length ≤ R.length ∧ ent R k ≠ 0 ∧ Sh R := hus _ (List.mem_of_getElem? eu)
          have e3 : (us.take (i + 1)).foldl (stepOf ts (totOf us : Int)) (ts.map ((totOf us : Int) * ·)) = stepOf ts (totOf us : Int) ((us.take i).foldl (stepOf ts (totOf us : Int)) (ts.map ((totOf us : Int) * ·))) (k, R) := by
            rw [List.take_add_one, eu, List.foldl_append]
            rfl
          have lr : ((us.take i).foldl (stepOf ts (totOf us : Int)) (ts.map ((totOf us : Int) * ·))).length = ts.length := by
            rw [SQ.fold_len fun u hu => by rw [List.length_map]; exact (hus u (List.mem_of_mem_take hu)).2.1, List.length_map]
          rw [e3]
          generalize (us.take i).foldl (stepOf ts (totOf us : Int)) (ts.map ((totOf us : Int) * ·)) = rest at *
          have dv : ent R k ∣ (totOf us : Int) := Int.natAbs_dvd.mp (Int.natCast_dvd_natCast.mpr (SQ.fold_mem (List.mem_of_getElem? eu)))
          have qb : ((totOf us : Int).fdiv (ent R k)).natAbs < 2 ^ 200000 := by
            rw [fdiv_dvd dv]
            exact Nat.lt_of_le_of_lt (by have := Int.natAbs_ediv_le_natAbs (totOf us : Int) (ent R k); simpa using this) hT2
          have wb : (ent ts k * (totOf us : Int).fdiv (ent R k)).natAbs < 2 ^ 209000 := by
            rw [Int.natAbs_mul]
            have := Nat.mul_lt_mul'' (hF.sh k) qb
            rw [← Nat.pow_add] at this
            exact this
          refine ⟨r, _, rfl, SqT.of er8, rfl, _, _, rfl, _, _, rfl, rfl, ?_⟩
          refine ⟨_, rfl, _, rfl, a, _, (k : Int), _, rfl, rfl, SqL.of ea8, atI_nat (get_ints b1), _, rfl, _, rfl, _, rfl, ra, _, (k : Int), _, rfl, rfl, SqL.of era8, atI_nat (get_ints (Nat.lt_of_lt_of_le b1 b2)), _, _, rfl, rfl, b3, _, _, rfl, rfl, wide_mul (hF.sh k) qb (by decide) (by decide) (by decide), ?_⟩
          refine ⟨_, rfl, _, rfl, l, ra, _, _, rfl, .inl ⟨SqL.of el, SqL.of era8, fun D2 hD2 => ?_⟩⟩
          refine lc_map (T := T) (fun j => V.int (ent rest j - ent ts k * (totOf us : Int).fdiv (ent R k) * ent R j)) (walkZS (xs := rest.map V.int) (ys := R.map V.int) (by rw [List.length_map, List.length_map, lr]; exact b2)) (fun H' g' => ⟨SqL.of (g'.lst el (nn _)), SqL.of (g'.lst era8 (nn _))⟩) t8 Go.refl hD2 (by rw [sizeLine_eq, List.length_map, lr]; exact Nat.le_trans lts (by decide)) (fun j v H10 H11 Rt hj g10 t10 y hRt => ?_) (fun H10 g10 t10 ed10 => ?_)
          · obtain ⟨z, x, y', rfl, hn, rfl, ex1, ey1⟩ := y
            obtain ⟨hj1, rfl⟩ := at_ints ex1
            obtain ⟨hj2, rfl⟩ := at_ints ey1
            refine ⟨z, _, rfl, SqT.of upd_same, rfl, _, _, rfl, _, _, rfl, rfl, rfl, _, rfl, _, rfl, _, rfl, _, _, rfl, rfl, wide_mul wb (b4 j) (by decide) (by decide) (by decide), _, _, rfl, rfl, ?_⟩
            exact hRt _ (Go.new hn)
          · refine ⟨g8.trans g10, t10, _, _, _, D2, rfl, g6.al _ (g8.al _ hD2), ?_⟩
            rw [ed10, List.length_map]
            congr 2
            refine List.ext_getElem (by simp [stepOf, lr, b2]) fun i h1 h2 => ?_
            rw [List.length_map, List.length_range] at h1
            have e5 := SQ.ent_zip (f := fun e o => e - wtOf ts (totOf us : Int) (k, R) * o) (xs := rest) (ys := R) h1 (by rw [lr]; exact b2)
            rw [List.getElem_map, List.getElem_range, List.getElem_map]
            rw [SQ.ent_get (by rw [List.length_zipWith]; exact Nat.lt_min.mpr ⟨h1, Nat.lt_of_lt_of_le (lr ▸ h1) b2⟩)] at e5
            refine congrArg V.int (Eq.trans ?_ e5.symm)
            show _ = ent rest i - (ent ts k * ((totOf us : Int) / ent R k)) * ent R i
            rw [fdiv_dvd dv]
        · obtain ⟨g8, t8, p2, p3, p7, l, rfl, hl, el⟩ := h
          rw [lys, List.take_length] at el
          refine ⟨_, rfl, _, rfl, by show 2 ≤ sizeLine; decide, fun r hr => ?_⟩
          have u := Go.new (T := T) (M := []) (o := .tup [V.int (totOf us : Nat), .ref l]) hr
          exact q r l _ (g6.al _ (g8.al _ hr)) hl upd_same (u.lst el (nn _)) ((g6.trans g8).trans u) (u.tb t8)
end
end KN
set_option Elab.async false
set_option linter.all false
set_option maxRecDepth 100000
set_option maxHeartbeats 4000000
/-! k39: the class Span: __init__, is_full, _first_place -/
namespace KN
open PySem PySem.Spec PyProof.Rows L2 GxR NdefX GA SL ZN RZ
open SQ (ent)
abbrev s_init : Stmt := inClass s_Span 0
abbrev s_full : Stmt := inClass s_Span 1
abbrev s_first : Stmt := inClass s_Span 11
theorem sc_init : FnScope ["self", "width"] ["self", "width"] (defScope s_init) := ⟨rfl, rfl, rfl, by decide +kernel, rfl, by decide +kernel, by decide +kernel⟩
theorem sc_full : FnScope ["self"] ["self"] (defScope s_full) := ⟨rfl, rfl, rfl, by decide +kernel, rfl, by decide +kernel, by decide +kernel⟩
theorem sc_first : FnScope ["self", "entries", "place"] ["self", "entries"] (defScope s_first) := ⟨rfl, rfl, rfl, by decide +kernel, rfl, by decide +kernel, by decide +kernel⟩
def sp_init (T : List Addr) (C : Addr) : Sp := fun vs H Q _ => ∃ (p dx : Addr) (w : Nat), vs = [.ref p, .int (w : Int)] ∧ H p = some (.ins C dx []) ∧ Tabs T H ∧ ∀ lp lr lb H', H lp = none → H lr = none → H lb = none → Go T [p] H H' → Tabs T H' → SpanAt C H' p lp lr lb w [] [] [] → Q .non H'
def sp_full (C : Addr) : Sp := fun vs H Q _ => ∃ (p lp lr lb : Addr) (w : Nat) (ps : List Nat) (rs : List (List Int)) (bs : List Int), vs = [.ref p] ∧ SpanAt C H p lp lr lb w ps rs bs ∧ Q (.bl (decide (ps.length = w))) H
def sp_first (C : Addr) : Sp := fun vs H Q _ => ∃ (p lp lr lb : Addr) (w : Nat) (ps : List Nat) (rs : List (List Int)) (bs : List Int) (M : List Addr) (v : V) (xs : List Int), vs = [.ref p, v] ∧ SpanAt C H p lp lr lb w ps rs bs ∧ Dv M H v (zsD xs) ∧ w ≤ xs.length ∧ w ≤ 4000 ∧
  (∀ q < w, ent xs q ≠ 0 → (∀ e < q, ent xs e = 0) → Q (.int (q : Int)) H) ∧ ((∀ e < w, ent xs e = 0) → Q .non H)
section
variable {P : Program} {w : World} {K : PySem.W.Frag} {mg : Str → Option Value} {base : Heap} {f C : Addr} {fd : FuncData} {T : List Addr}
theorem ok_init (F : Fun K "__init__" "Span.__init__" s_init f fd) (SC : SpC K C) : FnOk P w K mg base CX0 1 f fd ["self", "width"] (sp_init T C) := by
  refine F.ok sc_init (fun vs H Q E h => ?_) (fun cdv A outer s H vs Q E hr h => ?_)
  · obtain ⟨_, _, _, rfl, _⟩ := h
    rfl
  obtain ⟨p, dx, wd, rfl, eP, ht, q⟩ := h
  refine ⟨_, pss_cons (ps_fld (pv 0) (pv 1) rfl) (pss_cons (ps_fld (pv 0) (pe_lst pa_nil) rfl) (pss_cons (ps_fld (pv 0) (pe_lst pa_nil) rfl) (pss_one (ps_fld (pv 0) (pe_lst pa_nil) rfl)))), ?_⟩
  have hm : p ∈ [p] := List.mem_singleton.mpr rfl
  have m1 : ∀ {b : Addr} {H' : Hp} {o : HO}, H' b = none → H' p = some o → b ∉ [p] := fun h1 h2 z => by rw [List.mem_singleton.mp z, h2] at h1; cases h1
  refine ⟨_, rfl, _, rfl, p, C, dx, _, rfl, eP, SC.c, SC.w, by decide, ?_⟩
  have g1 := Go.set (T := T) (M := [p]) (o := .ins C dx (putF "width" (.int (wd : Int)) [])) eP (fun _ z => by cases z) hm
  have e1 : upd H p (.ins C dx (putF "width" (.int (wd : Int)) [])) p = some (.ins C dx (putF "width" (.int (wd : Int)) [])) := upd_same
  generalize upd H p (.ins C dx (putF "width" (.int (wd : Int)) [])) = H1 at g1 e1 ⊢
  refine ⟨by show 0 ≤ sizeLine; decide, fun lp hlp => ?_⟩
  have g2 := Go.new (T := T) (M := [p]) (o := .lst []) hlp
  have n1 := m1 hlp e1
  have u2 : upd H1 lp (.lst []) p = some (.ins C dx (putF "width" (.int (wd : Int)) [])) := by rw [upd_ne (fun z => n1 (by rw [← z]; exact hm))]; exact e1
  have l2 : upd H1 lp (.lst []) lp = some (.lst []) := upd_same
  generalize upd H1 lp (.lst []) = H2 at *
  refine ⟨_, rfl, p, C, dx, _, rfl, u2, SC.c, SC.p, by show (1 : Nat) < 1000; decide, ?_⟩
  have g3 := Go.set (T := T) (M := [p]) (o := .ins C dx (putF "pivots" (.ref lp) (putF "width" (.int (wd : Int)) []))) u2 (fun _ z => by cases z) hm
  have u3 : upd H2 p (.ins C dx (putF "pivots" (.ref lp) (putF "width" (.int (wd : Int)) []))) p = some (.ins C dx (putF "pivots" (.ref lp) (putF "width" (.int (wd : Int)) []))) := upd_same
  have l3 := g3.lst l2 n1
  generalize upd H2 p (.ins C dx (putF "pivots" (.ref lp) (putF "width" (.int (wd : Int)) []))) = H3 at g3 u3 l3 ⊢
  refine ⟨by show 0 ≤ sizeLine; decide, fun lr hlr => ?_⟩
  have g4 := Go.new (T := T) (M := [p]) (o := .lst []) hlr
  have n4 := m1 hlr u3
  have u4 : upd H3 lr (.lst []) p = some (.ins C dx (putF "pivots" (.ref lp) (putF "width" (.int (wd : Int)) []))) := by rw [upd_ne (fun z => n4 (by rw [← z]; exact hm))]; exact u3
  have r4 : upd H3 lr (.lst []) lr = some (.lst []) := upd_same
  have l4 := g4.lst l3 n1
  generalize upd H3 lr (.lst []) = H4 at g4 u4 l4 r4 ⊢
  refine ⟨_, rfl, p, C, dx, _, rfl, u4, SC.c, SC.r, by show (2 : Nat) < 1000; decide, ?_⟩
  have g5 := Go.set (T := T) (M := [p]) (o := .ins C dx (putF "rows" (.ref lr) (putF "pivots" (.ref lp) (putF "width" (.int (wd : Int)) [])))) u4 (fun _ z => by cases z) hm
  have u5 : upd H4 p (.ins C dx (putF "rows" (.ref lr) (putF "pivots" (.ref lp) (putF "width" (.int (wd : Int)) [])))) p = some (.ins C dx (putF "rows" (.ref lr) (putF "pivots" (.ref lp) (putF "width" (.int (wd : Int)) [])))) := upd_same
  have l5 := g5.lst l4 n1
  have r5 := g5.lst r4 n4
  generalize upd H4 p (.ins C dx (putF "rows" (.ref lr) (putF "pivots" (.ref lp) (putF "width" (.int (wd : Int)) [])))) = H5 at g5 u5 l5 r5 ⊢
  refine ⟨by show 0 ≤ sizeLine; decide, fun lb hlb => ?_⟩
  have g6 := Go.new (T := T) (M := [p]) (o := .lst []) hlb
  have n6 := m1 hlb u5
  have u6 : upd H5 lb (.lst []) p = some (.ins C dx (putF "rows" (.ref lr) (putF "pivots" (.ref lp) (putF "width" (.int (wd : Int)) [])))) := by rw [upd_ne (fun z => n6 (by rw [← z]; exact hm))]; exact u5
  have b6 : upd H5 lb (.lst []) lb = some (.lst []) := upd_same
  have l6 := g6.lst l5 n1
  have r6 := g6.lst r5 n4
  generalize upd H5 lb (.lst []) = H6 at g6 u6 l6 r6 b6 ⊢
  refine ⟨_, rfl, p, C, dx, _, rfl, u6, SC.c, SC.b, by show (3 : Nat) < 1000; decide, ?_⟩
  have g7 := Go.set (T := T) (M := [p]) (o := .ins C dx (putF "bottoms" (.ref lb) (putF "rows" (.ref lr) (putF "pivots" (.ref lp) (putF "width" (.int (wd : Int)) []))))) u6 (fun _ z => by cases z) hm
  have g17 := ((((((g1.trans g2).trans g3).trans g4).trans g5).trans g6).trans g7)
  have f1 : H lp = none := g1.al _ hlp
  have f2 : H lr = none := ((g1.trans g2).trans g3).al _ hlr
  have f3 : H lb = none := ((((g1.trans g2).trans g3).trans g4).trans g5).al _ hlb
  refine q lp lr lb _ f1 f2 f3 g17 (g17.tb ht) ⟨⟨dx, upd_same⟩, g7.lst l6 n1, g7.lst b6 n6, fun z => ?_, ⟨[], g7.lst r6 n4, .nil⟩, fun z => ?_, fun z => ?_, List.not_mem_nil⟩
  · rw [← z, l5] at hlb; cases hlb
  · rw [z, l3] at hlr; cases hlr
  · rw [← z, r5] at hlb; cases hlb
theorem ok_full (F : Fun K "is_full" "Span.is_full" s_full f fd) (SC : SpC K C) (B : Bl mg) : FnOk P w K mg base CX0 1 f fd ["self"] (sp_full C) := by
  refine F.ok sc_full (fun vs H Q E h => ?_) (fun cdv A outer s H vs Q E hr h => ?_)
  · obtain ⟨_, _, _, _, _, _, _, _, rfl, _⟩ := h
    rfl
  obtain ⟨p, lp, lr, lb, wd, ps, rs, bs, rfl, hS, q⟩ := h
  obtain ⟨dx, eP⟩ := hS.ob
  refine ⟨_, pss_one (ps_ret (pe_cmpR op_eq (pe_lenq B (pe_fld (pv 0) rfl)) (pe_fld (pv 0) rfl) (nomark _))), ?_⟩
  refine ⟨_, rfl, p, C, dx, _, _, rfl, eP, SC.c, SC.p, rfl, lp, _, rfl, .inl (SqL.of hS.pv), _, rfl, p, C, dx, _, _, rfl, eP, SC.c, SC.w, rfl, rfl, ?_⟩
  have e : decide (V.int (((natV ps).length : Nat) : Int) = V.int (wd : Int)) = decide (ps.length = wd) := by
    rw [List.length_map]
    refine decide_eq_decide.mpr ⟨fun z => ?_, fun z => by rw [z]⟩
    injection z with z
    omega
  rw [e]
  exact q
theorem ok_first (F : Fun K "_first_place" "Span._first_place" s_first f fd) (SC : SpC K C) (B : Bl mg) : FnOk P w K mg base CX0 1 f fd ["self", "entries"] (sp_first C) := by
  refine F.ok sc_first (fun vs H Q E h => ?_) (fun cdv A outer s H vs Q E hr h => ?_)
  · obtain ⟨_, _, _, _, _, _, _, _, _, _, _, rfl, _⟩ := h
    rfl
  have nd := sc_first.nd
  obtain ⟨p, lp, lr, lb, wd, ps, rs, bs, M, v, xs, rfl, hS, hv, hw, hw4, q1, q2⟩ := h
  obtain ⟨dx, eP⟩ := hS.ob
  refine ⟨_, pss_cons (ps_for PassesOwn.never rfl (pi_range1 (by rfl) B.range (pa_cons (pe_fld (pv 0) rfl) pa_nil)) (pg_name (i := 2) nd rfl (.inl rfl))
      (pss_one (ps_if (pt_cmpR op_ne (pe_ix ix_list (pv 1) (pv 2) (fun _ _ => rfl)) pe_int (nomark _)) (pss_one (ps_ret (pv 2))) pss_nil)))
    (pss_one (ps_ret pe_non)), ?_⟩
  obtain ⟨a, rfl, ea, na⟩ := dv_ints hv
  refine ⟨_, rfl, p, C, dx, _, _, rfl, eP, SC.c, SC.w, rfl, ?_⟩
  refine ⟨_, rfl, by omega, by omega, ?_⟩
  refine for_it (walk_range (lo := 0) (n := (((wd : Nat) : Int).toNat))) (fun k σ H' => H' = H ∧ (∀ e < k, ent xs e = 0) ∧ ∃ p2, σ = [some (.ref p), some (.ref a), p2]) ⟨rfl, fun e he => absurd he (Nat.not_lt_zero _), none, rfl⟩ (fun _ _ _ _ _ => trivial) (fun k x σ H3 H4 hk h y => ?_) (fun σ H3 h => ?_)
  · obtain ⟨rfl, hz, p2, rfl⟩ := h
    obtain ⟨rfl, ey⟩ := y
    have ey2 : x = V.int (k : Int) := by rw [ey]; show V.int (0 + (k : Int)) = _; rw [Int.zero_add]
    clear ey
    subst ey2
    rw [Int.toNat_natCast] at hk
    refine ⟨_, rfl, _, rfl, a, _, (k : Int), _, rfl, rfl, SqL.of ea, atI_nat (get_ints (by omega)), rfl, _, rfl, ?_⟩
    by_cases c : ent xs k = 0
    · refine if_false_of (by simp [c]) ?_
      refine ⟨rfl, fun e he => ?_, _, rfl⟩
      by_cases z : e = k
      · rw [z]; exact c
      · exact hz e (by omega)
    · refine if_true_of (by simp [c]) ?_
      exact ⟨_, rfl, q1 k hk c hz⟩
  · obtain ⟨rfl, hz, p2, rfl⟩ := h
    rw [Int.toNat_natCast] at hz
    exact q2 hz
end
end KN
set_option Elab.async false
set_option linter.all false
set_option maxRecDepth 100000
set_option maxHeartbeats 8000000
/-! k39: what stands in a span, and how great it is -/
namespace KN
open PySem PySem.Spec PyProof.Rows L2 GxR NdefX GA SL ZN RZ
open SQ (ent gcdL prL elimOf usedOf totOf tot wtOf stepOf restOf row piv padOf totP restP freshOf putRows)
structure Kp (w m B : Nat) (ts : List (List Int)) (ps : List Nat) (rs : List (List Int)) : Prop where
  sp : SQ.Sp w ts ps rs
  hB : 1 ≤ B
  b : ∀ j < ts.length, ∀ e < w, (ent (row ts j) e).natAbs ≤ B
  w48 : w ≤ 48
  m1 : 1 ≤ m
  wm : w ≤ m
  big : (2 * m * B) ^ m < 2 ^ 4000
section
variable {w m B : Nat} {ts : List (List Int)} {ps : List Nat} {rs : List (List Int)} {t : List Int}
theorem Kp.base (h : Kp w m B ts ps rs) : 1 ≤ 2 * m * B := by
  have : 1 * 1 ≤ 2 * m * B := Nat.mul_le_mul (by have := h.m1; omega) h.hB
  omega
theorem Kp.B_le (h : Kp w m B ts ps rs) : B ≤ (2 * m * B) ^ m := by
  have h1 : 2 * m * B ≤ (2 * m * B) ^ m := by
    have := Nat.pow_le_pow_right h.base h.m1
    rwa [Nat.pow_one] at this
  refine Nat.le_trans ?_ h1
  have : 1 * B ≤ 2 * m * B := Nat.mul_le_mul (by have := h.m1; omega) (Nat.le_refl _)
  omega
theorem pow4 {n : Nat} (h : n < 2 ^ 4000) : n < 2 ^ 9000 := Nat.lt_of_lt_of_le h (Nat.pow_le_pow_right (by decide) (by decide))
theorem Kp.rowB (h : Kp w m B ts ps rs) {i : Nat} (hi : i < ts.length) (e : Nat) : (ent (row rs i) e).natAbs < 2 ^ 4000 :=
  Nat.lt_of_le_of_lt (h.sp.bound_all h.hB h.b (Nat.le_trans h.sp.len_le h.wm) hi e) h.big
theorem Kp.totB (h : Kp w m B ts ps rs) (tops : List Int) : tot ps rs tops < 2 ^ 200000 := by
  have h1 := h.sp.tot_le (D := 2 ^ 4000) (Nat.pow_pos (by decide)) (fun i hi e => Nat.le_of_lt (h.rowB hi e)) tops
  refine Nat.lt_of_le_of_lt h1 ?_
  rw [← Nat.pow_mul]
  have := h.sp.len_le
  have := h.w48
  exact Nat.pow_lt_pow_right (by decide) (by omega)
theorem Kp.fit (h : Kp w m B ts ps rs) {tops : List Int} (l1 : w ≤ tops.length) (l2 : tops.length ≤ w + ts.length) (hb : ∀ e, (ent tops e).natAbs ≤ B) : Fit ps rs tops := by
  have hl := h.sp.len_le
  have hw := h.w48
  have h1 := h.sp.lp
  refine ⟨h1.trans h.sp.lr.symm, by omega, by omega, fun pr hpr => ?_, fun e => pow4 (Nat.lt_of_le_of_lt (Nat.le_trans (hb e) h.B_le) h.big), h.totB tops⟩
  obtain ⟨k, hk, rfl⟩ := h.sp.mem_zip hpr
  have := h.sp.piv_lt hk
  exact ⟨by show piv ps k < _; omega, by show _ ≤ (row rs k).length; rw [h.sp.row_len hk]; exact l2, h.sp.on k hk, fun e => pow4 (h.rowB hk e)⟩
theorem Kp.fitP (h : Kp w m B ts ps rs) (ht : t.length = w) (hb : ∀ e, (ent t e).natAbs ≤ B) : Fit ps rs (padOf t rs.length) := by
  refine h.fit (by rw [SQ.pad_len]; omega) (by rw [SQ.pad_len, h.sp.lr]; omega) fun e => ?_
  by_cases c : e < t.length
  · rw [SQ.pad_left c]; exact hb e
  · rw [SQ.pad_right (by omega)]; exact Nat.zero_le _
theorem Kp.put (h : Kp w m B ts ps rs) (ht : t.length = w) (hb : ∀ e, (ent t e).natAbs ≤ B) {q : Nat} (hq : q < w) (hr : ent (restP ps rs t) q ≠ 0) : Kp w m B (ts ++ [t]) (ps ++ [q]) (putRows ps rs t q) := by
  refine ⟨h.sp.put ht hq hr, h.hB, fun j hj e he => ?_, h.w48, h.m1, h.wm, h.big⟩
  rw [List.length_append] at hj
  by_cases c : j < ts.length
  · rw [SQ.row_app_left c]; exact h.b j c e he
  · have : j = ts.length := by have : j < ts.length + 1 := hj; omega
    rw [this, SQ.row_app_last]
    exact hb e
theorem Kp.fresh (h : Kp w m B ts ps rs) (ht : t.length = w) (hb : ∀ e, (ent t e).natAbs ≤ B) {q : Nat} (hq : q < w) (hr : ent (restP ps rs t) q ≠ 0) (e : Nat) : (ent (freshOf ps rs t) e).natAbs < 2 ^ 4000 := by
  have h2 := h.put ht hb hq hr
  have h3 := h2.rowB (i := ts.length) (by simp) e
  have e1 : row (putRows ps rs t q) ts.length = freshOf ps rs t := by
    unfold SQ.putRows
    have := SQ.row_app_last (xs := rs.map fun R => elimOf (R ++ [0]) (freshOf ps rs t) q) (y := freshOf ps rs t)
    rwa [List.length_map, h.sp.lr] at this
  rwa [e1] at h3
theorem Kp.fresh_len (h : Kp w m B ts ps rs) (ht : t.length = w) : (freshOf ps rs t).length = w + ts.length + 1 := by
  rw [SQ.freshOf, SQ.prL_len, List.length_append, h.sp.restP_len ht]
  rfl
theorem Kp.tot_pos (h : Kp w m B ts ps rs) : (0 : Int) < totP ps rs t := Int.natCast_pos.mpr (h.sp.tot_pos (tops := padOf t rs.length))
theorem Kp.gpos (h : Kp w m B ts ps rs) : 0 < gcdL (restP ps rs t ++ [(totP ps rs t : Int)]) := SQ.gcdL_pos (x := (totP ps rs t : Int)) (by simp) (Int.ne_of_gt h.tot_pos)
theorem Kp.fresh_ent (h : Kp w m B ts ps rs) (ht : t.length = w) {e : Nat} (he : e < w + ts.length) : (gcdL (restP ps rs t ++ [(totP ps rs t : Int)]) : Int) * ent (freshOf ps rs t) e = ent (restP ps rs t) e := by
  rw [SQ.freshOf, SQ.prL_mul, SQ.ent_app_left (by rw [h.sp.restP_len ht]; exact he)]
theorem Kp.fresh_q (h : Kp w m B ts ps rs) (ht : t.length = w) {q : Nat} (hq : q < w) (hr : ent (restP ps rs t) q ≠ 0) : ent (freshOf ps rs t) q ≠ 0 := fun z => by
  have := h.fresh_ent ht (e := q) (by omega)
  rw [z, Int.mul_zero] at this
  exact hr this.symm
/-- the sum that is made is not 0 -/
theorem sum_pos {R fr : List Int} {q e : Nat} (hl : R.length = fr.length) (he : e < R.length) (hR : ent R e ≠ 0) (hf : ent fr e = 0) (hq : ent fr q ≠ 0) : 0 < gcdL (sumOf R fr q) := by
  have hp : ent (prL [ent fr q, ent R q]) 0 ≠ 0 := fun z => by
    have := SQ.prL_mul [ent fr q, ent R q] 0
    rw [z, Int.mul_zero] at this
    exact hq this.symm
  have e1 : ent (sumOf R fr q) e = ent (prL [ent fr q, ent R q]) 0 * ent R e := by
    unfold sumOf
    have := SQ.ent_zip (f := fun e o => ent (prL [ent fr q, ent R q]) 0 * e - ent (prL [ent fr q, ent R q]) 1 * o) (xs := R) (ys := fr) he (by omega)
    rw [this, hf, Int.mul_zero, Int.sub_zero]
  have h1 : ent (sumOf R fr q) e ≠ 0 := by
    rw [e1]
    exact Int.mul_ne_zero hp hR
  have l : e < (sumOf R fr q).length := by
    unfold sumOf
    rw [List.length_zipWith]
    omega
  exact SQ.gcdL_pos (x := ent (sumOf R fr q) e) (by rw [SQ.ent_get l]; exact List.getElem_mem _) h1
theorem Kp.elim (h : Kp w m B ts ps rs) (ht : t.length = w) {q : Nat} (hq : q < w) (hr : ent (restP ps rs t) q ≠ 0) {i : Nat} (hi : i < ts.length) : 0 < gcdL (sumOf (row rs i ++ [0]) (freshOf ps rs t) q) := by
  have hl := h.sp.row_len hi
  have hp := h.sp.piv_lt hi
  refine sum_pos (e := piv ps i) (by rw [List.length_append, hl, h.fresh_len ht]; rfl) (by rw [List.length_append, hl]; omega) (by rw [SQ.ent_app_left (by omega)]; exact h.sp.on i hi) ?_ (h.fresh_q ht hq hr)
  have h1 := h.fresh_ent ht (e := piv ps i) (by omega)
  rw [h.sp.restP_piv ht hi] at h1
  have g := h.gpos (t := t)
  exact (Int.mul_eq_zero.mp h1).resolve_left (by omega)
end
end KN
set_option Elab.async false
set_option linter.all false
set_option maxRecDepth 100000
set_option maxHeartbeats 8000000
/-! k39: the class Span: put_scaled, put -/
namespace KN
open PySem PySem.Spec PyProof.Rows L2 GxR NdefX GA SL ZN RZ
open SQ (ent gcdL prL elimOf usedOf totOf tot wtOf stepOf restOf row piv padOf totP restP freshOf putRows)
abbrev s_put_scaled : Stmt := inClass s_Span 3
abbrev NPS : List Str := ["self", "tops", "bottom", "total", "rest", "pivot", "fresh", "row"]
theorem sc_put_scaled : FnScope NPS ["self", "tops", "bottom"] (defScope s_put_scaled) := ⟨rfl, rfl, rfl, by decide +kernel, rfl, by decide +kernel, by decide +kernel⟩
def sp_put_scaled (T : List Addr) (C : Addr) : Sp := fun vs H Q _ => ∃ (p lp lr lb : Addr) (w m B : Nat) (ts : List (List Int)) (ps : List Nat) (rs : List (List Int)) (bs : List Int) (Ex : List Addr) (v : V) (t : List Int) (b : Int), vs = [.ref p, v, .int b] ∧ SpanX C H p lp lr lb w ps rs bs Ex ∧ (∀ b ∈ Ex, H b ≠ none) ∧ Kp w m B ts ps rs ∧ Dv [] H v (zsD t) ∧ t.length = w ∧ (∀ e, (ent t e).natAbs ≤ B) ∧ bs.length ≤ 4000 ∧ Tabs T H ∧
  (∀ H', Go T [] H H' → Tabs T H' → (∀ e < w, ent (restP ps rs t) e = 0) → Q (.bl false) H') ∧
  (∀ lr' q H', H lr' = none → Go T [p, lp, lb] H H' → Tabs T H' → q < w → ent (restP ps rs t) q ≠ 0 → (∀ e < q, ent (restP ps rs t) e = 0) → SpanX C H' p lp lr' lb w (ps ++ [q]) (putRows ps rs t q) (bs ++ [b]) Ex → Q (.bl true) H')
section
variable {P : Program} {w : World} {K : PySem.W.Frag} {mg : Str → Option Value} {base : Heap} {f C : Addr} {fd : FuncData} {T : List Addr}
theorem ok_put_scaled (F : Fun K "put_scaled" "Span.put_scaled" s_put_scaled f fd) (SC : SpC K C) (B : Bl mg) (Mf : Mth P w K mg base CX0 C 2 "is_full" ["self"] (sp_full C)) (Mr : Mth P w K mg base CX0 C 33 "_rest" ["self", "tops"] (sp_rest T C)) (Mp : Mth P w K mg base CX0 C 1 "_first_place" ["self", "entries"] (sp_first C))
    (Fw : Fnn P w K mg base CX0 33 "without_divisor" ["entries"] (sp_without_divisor T)) (Fp : Fnn P w K mg base CX0 34 "_without_pivot" ["row", "fresh", "pivot"] (sp_without_pivot T)) : FnOk P w K mg base CX0 35 f fd ["self", "tops", "bottom"] (sp_put_scaled T C) := by
  refine F.ok sc_put_scaled (fun vs H Q E h => ?_) (fun cdv A outer s H vs Q E hr h => ?_)
  · obtain ⟨_, _, _, _, _, _, _, _, _, _, _, _, _, _, _, rfl, _⟩ := h
    rfl
  have nd := sc_put_scaled.nd
  have nn : ∀ b : Addr, b ∉ ([] : List Addr) := fun b => List.not_mem_nil
  obtain ⟨p, lp, lr, lb, wd, m, Bd, ts, ps, rs, bs, Ex, v, t, b, rfl, hX, hEx, hK, hv, hlt, hb, hbs, ht, q1, q2⟩ := h
  refine ⟨_, pss_cons (ps_if (pt_val (pe_mth0 SC.c Mf hr (by decide) pass0 (pv 0))) (pss_one (ps_ret pe_bl)) pss_nil)
    (pss_cons (ps_asg (pe_mth SC.c Mr hr (by decide) pass0 (pv 0) (pa_cons (pe_op op_cat (pv 1) (pe_op op_rep (pe_lst (pa_cons pe_int pa_nil)) (pe_lenq B (pe_fld (pv 0) rfl)))) pa_nil)) (pg_tup rfl (pgs_cons (pg_name (i := 3) nd rfl (.inl rfl)) (pgs_cons (pg_name (i := 4) nd rfl (.inl rfl)) pgs_nil))))
    (pss_cons (ps_set (i := 5) nd rfl (.inr rfl) (pe_mth SC.c Mp hr (by decide) pass0 (pv 0) (pa_cons (pv 4) pa_nil)))
    (pss_cons (ps_if (pt_cmpR op_isN (pv 5) pe_non (nomark _)) (pss_one (ps_ret pe_bl)) pss_nil)
    (pss_cons (ps_set (i := 6) nd rfl (.inr rfl) (pe_fn Fw hr (by decide) pass0 (pa_cons (pe_op op_cat (pv 4) (pe_lst (pa_cons (pv 3) pa_nil))) pa_nil)))
    (pss_cons (ps_fld (pv 0) (pe_op op_cat (pe_lc (own := [("row", 7)]) (g := gName 7) (tt := tYes) (te := tCall (sp_without_pivot T) [] E0 (tCons (tOp rCat (tVar 7) (tLst (tCons (tC (.int 0)) tNil))) (tCons (tVar 6) (tCons (tVar 5) tNil)))) rfl nd (pi_list (pe_fld (pv 0) rfl))
        (blkOk_by (own := [("row", 7)]) (N := NPS) (sc := defScope s_put_scaled) (by decide +kernel))
        (fun _ _ _ _ _ => pg_name (i := 7) nd rfl (.inl rfl)) (fun _ _ _ _ _ => pts_nil)
        (fun _ _ _ _ _ => pe_fn Fp hr (by decide) pass0 (pa_cons (pe_op op_cat (pv 7) (pe_lst (pa_cons pe_int pa_nil))) (pa_cons (pv 6) (pa_cons (pv 5) pa_nil))))) (pe_lst (pa_cons (pv 6) pa_nil))) rfl)
    (pss_cons (ps_expr (pe_bm PySem.F.plainAttrs_list PySem.F.slot_list_append PySem.F.type_list_append mt_append (pe_fld (pv 0) rfl) (pa_cons (pv 5) pa_nil)))
    (pss_cons (ps_expr (pe_bm PySem.F.plainAttrs_list PySem.F.slot_list_append PySem.F.type_list_append mt_append (pe_fld (pv 0) rfl) (pa_cons (pv 2) pa_nil)))
    (pss_one (ps_ret pe_bl))))))))), ?_⟩
  have hS := hX.drop
  obtain ⟨dx, eP⟩ := hS.ob
  obtain ⟨rvs, er, dr⟩ := hS.rw
  have lrv := dr.length
  rw [List.length_map] at lrv
  have hll := hK.sp.len_le
  have h48 := hK.w48
  have hlr := hK.sp.lr
  have hlp := hK.sp.lp
  refine ⟨_, rfl, p, dx, _, rfl, eP, rfl, p, lp, lr, lb, wd, ps, rs, bs, rfl, hS, _, rfl, ?_⟩
  by_cases c1 : ps.length = wd
  · refine if_true_of (decide_eq_true c1) ?_
    exact q1 H Go.refl ht (hK.sp.full (by omega) hlt)
  refine if_false_of (decide_eq_false c1) ?_
  obtain ⟨a, rfl, ea, na⟩ := dv_ints hv
  have fit := hK.fitP hlt hb
  refine ⟨_, rfl, p, dx, _, rfl, eP, rfl, _, rfl, by show 1 ≤ sizeLine; decide, fun z hz => ?_⟩
  have g1 := Go.new (T := T) (M := []) (o := .lst [V.int 0]) hz
  have ez : upd H z (.lst [V.int 0]) z = some (.lst [V.int 0]) := upd_same
  have S1 := hS.go g1
  have ea1 := g1.lst ea (nn _)
  have er1 := g1.lst er (nn _)
  have t1 := g1.tb ht
  generalize upd H z (.lst [V.int 0]) = H1 at *
  obtain ⟨dx1, eP1⟩ := S1.ob
  refine ⟨_, rfl, p, C, dx1, _, _, rfl, eP1, SC.c, SC.r, rfl, lr, _, rfl, .inl (SqL.of er1), z, _, _, rfl, rfl, ez, by omega, by omega, by rw [sizeLine_eq]; simp; omega, fun y hy => ?_⟩
  have g2 := Go.new (T := T) (M := []) (o := .lst (List.replicate (((rvs.length : Nat) : Int).toNat) [V.int 0]).flatten) hy
  have ey : upd H1 y (.lst (List.replicate (((rvs.length : Nat) : Int).toNat) [V.int 0]).flatten) y = some (.lst ((List.replicate rs.length (0 : Int)).map V.int)) := by
    rw [upd_same, Int.toNat_natCast, lrv]
    congr 2
    simp [List.flatten_replicate_singleton]
  have S2 := S1.go g2
  have ea2 := g2.lst ea1 (nn _)
  have t2 := g2.tb t1
  generalize upd H1 y (.lst (List.replicate (((rvs.length : Nat) : Int).toNat) [V.int 0]).flatten) = H2 at *
  refine ⟨a, y, _, _, rfl, rfl, ea2, ey, by rw [sizeLine_eq]; simp; omega, fun g hg => ?_⟩
  have g3 := Go.new (T := T) (M := []) (o := .lst (t.map V.int ++ (List.replicate rs.length (0 : Int)).map V.int)) hg
  have eg : upd H2 g (.lst (t.map V.int ++ (List.replicate rs.length (0 : Int)).map V.int)) g = some (.lst ((padOf t rs.length).map V.int)) := by
    rw [upd_same, ← List.map_append]
  have S3 := S2.go g3
  have t3 := g3.tb t2
  generalize upd H2 g (.lst (t.map V.int ++ (List.replicate rs.length (0 : Int)).map V.int)) = H3 at *
  refine ⟨p, lp, lr, lb, wd, ps, rs, bs, [], .ref g, padOf t rs.length, rfl, S3, ints_dv eg (nn _), fit, t3, fun r l H5 hr5 hl5 er5 el5 g5 t5 => ?_⟩
  have g05 := ((g1.trans g2).trans g3).trans g5
  have S5 := S3.go g5
  change H5 l = some (.lst ((restP ps rs t).map V.int)) at el5
  change H5 r = some (.tup [V.int (totP ps rs t : Nat), .ref l]) at er5
  obtain ⟨dx5, eP5⟩ := S5.ob
  have lrest := hK.sp.restP_len hlt
  refine ⟨r, _, rfl, SqT.of er5, rfl, _, _, rfl, _, _, rfl, rfl, ?_⟩
  refine ⟨_, rfl, p, dx5, _, rfl, eP5, rfl, _, rfl, p, lp, lr, lb, wd, ps, rs, bs, [], _, restP ps rs t, rfl, S5, ints_dv el5 (nn _), by omega, by omega, fun q hq hq0 hqf => ?_, fun hz0 => ?_⟩
  case refine_2 =>
    refine ⟨_, rfl, rfl, _, rfl, ?_⟩
    refine if_true_of (decide_eq_true rfl) ?_
    exact q1 _ g05 t5 hz0
  refine ⟨_, rfl, rfl, _, rfl, ?_⟩
  refine if_false_of (decide_eq_false fun z => by cases z) ?_
  refine ⟨_, rfl, _, rfl, by show 1 ≤ sizeLine; decide, fun z2 hz2 => ?_⟩
  have g6 := Go.new (T := T) (M := []) (o := .lst [V.int (totP ps rs t : Nat)]) hz2
  have ez2 : upd H5 z2 (.lst [V.int (totP ps rs t : Nat)]) z2 = some (.lst ([(totP ps rs t : Int)].map V.int)) := upd_same
  have S6 := S5.go g6
  have el6 := g6.lst el5 (nn _)
  have t6 := g6.tb t5
  generalize upd H5 z2 (.lst [V.int (totP ps rs t : Nat)]) = H6 at *
  refine ⟨l, z2, _, _, rfl, rfl, el6, ez2, by rw [sizeLine_eq]; simp; omega, fun g2' hg2 => ?_⟩
  have g7 := Go.new (T := T) (M := []) (o := .lst ((restP ps rs t).map V.int ++ [(totP ps rs t : Int)].map V.int)) hg2
  have eg2 : upd H6 g2' (.lst ((restP ps rs t).map V.int ++ [(totP ps rs t : Int)].map V.int)) g2' = some (.lst ((restP ps rs t ++ [(totP ps rs t : Int)]).map V.int)) := by
    rw [upd_same, ← List.map_append]
  have S7 := S6.go g7
  have t7 := g7.tb t6
  have al6 : ∀ b ∈ p :: lp :: lb :: Ex, H6 b ≠ none := fun b hb => by
    obtain ⟨dx6, eP6⟩ := S6.ob
    rcases List.mem_cons.mp hb with e | e
    · rw [e, eP6]; exact fun z => by cases z
    rcases List.mem_cons.mp e with e | e
    · rw [e, S6.pv]; exact fun z => by cases z
    rcases List.mem_cons.mp e with e | e
    · rw [e, S6.bt]; exact fun z => by cases z
    · exact fun z => hEx b e ((g05.trans g6).al _ z)
  have n7 : g2' ∉ p :: lp :: lb :: Ex := fun z => al6 _ z hg2
  have al7 : ∀ b ∈ p :: lp :: lb :: Ex, (upd H6 g2' (.lst ((restP ps rs t).map V.int ++ [(totP ps rs t : Int)].map V.int))) b ≠ none := fun b hb z => al6 b hb (g7.al b z)
  generalize upd H6 g2' (.lst ((restP ps rs t).map V.int ++ [(totP ps rs t : Int)].map V.int)) = H7 at *
  refine ⟨p :: lp :: lb :: Ex, _, restP ps rs t ++ [(totP ps rs t : Int)], rfl, ints_dv eg2 n7, by rw [List.length_append, lrest]; show _ + 1 ≤ 4000; omega, hK.gpos, al7, t7, fun u H8 g8 t8 hu => ?_⟩
  change Dv (p :: lp :: lb :: Ex) H8 u (zsD (freshOf ps rs t)) at hu
  have S8 := S7.go g8
  have g08 := ((g05.trans g6).trans g7).trans g8
  have al8 : ∀ b ∈ p :: lp :: lb :: Ex, H8 b ≠ none := fun b hb z => al7 b hb (g8.al b z)
  have lfr := hK.fresh_len hlt (t := t)
  have shF : Sh (freshOf ps rs t) := fun e => pow4 (hK.fresh hlt hb hq hq0 e)
  have fq := hK.fresh_q hlt hq hq0
  have hel := fun {i : Nat} (hi : i < ts.length) => hK.elim hlt hq hq0 hi
  have hrow := fun {i : Nat} (hi : i < ts.length) (e : Nat) => pow4 (hK.rowB hi e)
  have hrl := fun {i : Nat} (hi : i < ts.length) => hK.sp.row_len hi
  have q2' : ∀ lr' H', H lr' = none → Go T [p, lp, lb] H H' → Tabs T H' → SpanX C H' p lp lr' lb wd (ps ++ [q]) ((rs.map fun R => elimOf (R ++ [0]) (freshOf ps rs t) q) ++ [freshOf ps rs t]) (bs ++ [b]) Ex → Q (.bl true) H' := fun lr' H' h1 h2 h3 h4 => q2 lr' q H' h1 h2 h3 hq hq0 hqf h4
  generalize freshOf ps rs t = fr at *
  obtain ⟨dx8, eP8⟩ := S8.ob
  obtain ⟨rvs8, er8, dr8⟩ := (hX.go g08).rw
  have lrv8 := dr8.length
  rw [List.length_map] at lrv8
  refine ⟨_, rfl, p, C, dx8, _, _, rfl, eP8, SC.c, SC.r, rfl, lr, rfl, ⟨_, SqL.of er8⟩, fun D hD => ?_⟩
  refine lc_dv (T := T) (M := p :: lp :: lb :: Ex) (fun j => zsD (elimOf (row rs j ++ [0]) fr q)) (walk_list (xs := rvs8)) (fun H' g' => SqL.of (g'.lst er8 (nn _))) t8 Go.refl hD (by rw [sizeLine_eq]; omega) (fun j x H10 H11 Rt hj g10 t10 hne y hRt => ?_) (fun H10 ys g10 t10 ed10 da => ?_)
  · obtain ⟨rfl, ey⟩ := y
    obtain ⟨d, ed, hx⟩ := ((dr8.hide hD).go g10.of0).get ey
    have hj1 : j < ts.length := by omega
    rw [List.getElem?_map, List.getElem?_eq_getElem (show j < rs.length by omega)] at ed
    cases ed
    rw [← SQ.row_get (show j < rs.length by omega)] at hx
    obtain ⟨ra, rfl, era, nra⟩ := dv_ints hx
    have alD : ∀ b ∈ (D :: p :: lp :: lb :: Ex), H11 b ≠ none := fun b hb z => by
      rcases List.mem_cons.mp hb with e | e
      · rw [e] at z; exact hne z
      · exact al8 b e (g10.al b z)
    refine ⟨rfl, _, rfl, by show 1 ≤ sizeLine; decide, fun z3 hz3 => ?_⟩
    have g11 := Go.new (T := T) (M := []) (o := .lst [V.int 0]) hz3
    have ez3 : upd H11 z3 (.lst [V.int 0]) z3 = some (.lst ([(0 : Int)].map V.int)) := upd_same
    have era2 := g11.lst era (nn _)
    have al12 : ∀ b ∈ (D :: p :: lp :: lb :: Ex), upd H11 z3 (.lst [V.int 0]) b ≠ none := fun b hb z => alD b hb (g11.al b z)
    have hu12 := ((hu.hide hD).go g10.of0).go g11.of0
    have t12 := g11.tb t10
    generalize upd H11 z3 (.lst [V.int 0]) = H12 at *
    refine ⟨ra, z3, _, _, rfl, rfl, era2, ez3, by rw [sizeLine_eq]; simp; rw [hrl hj1]; omega, fun g4 hg4 => ?_⟩
    have g12 := Go.new (T := T) (M := []) (o := .lst ((row rs j).map V.int ++ [(0 : Int)].map V.int)) hg4
    have eg4 : upd H12 g4 (.lst ((row rs j).map V.int ++ [(0 : Int)].map V.int)) g4 = some (.lst ((row rs j ++ [0]).map V.int)) := by rw [upd_same, ← List.map_append]
    have n4 : g4 ∉ (D :: p :: lp :: lb :: Ex) := fun z => al12 _ z hg4
    have hu13 := hu12.go g12.of0
    have t13 := g12.tb t12
    have al13 : ∀ b ∈ (D :: p :: lp :: lb :: Ex), upd H12 g4 (.lst ((row rs j).map V.int ++ [(0 : Int)].map V.int)) b ≠ none := fun b hb z => al12 b hb (g12.al b z)
    generalize upd H12 g4 (.lst ((row rs j).map V.int ++ [(0 : Int)].map V.int)) = H13 at *
    have lR : (row rs j ++ [0]).length = wd + ts.length + 1 := by rw [List.length_append, hrl hj1]; rfl
    have shR : Sh (row rs j ++ [0]) := Sh.of fun e he => by
      by_cases c : e < (row rs j).length
      · rw [SQ.ent_app_left c]; exact hrow hj1 e
      · rw [SQ.ent_app_right (by omega)]
        have : e - (row rs j).length = 0 := by rw [lR] at he; rw [hrl hj1] at c ⊢; omega
        rw [this]
        exact Nat.pow_pos (by decide)
    refine ⟨_, rfl, _, rfl, (D :: p :: lp :: lb :: Ex), _, _, row rs j ++ [0], fr, q, rfl, ints_dv eg4 n4, hu13, by rw [lR, lfr], by rw [lR]; omega, by rw [lR]; omega, fq, shR, shF, fun _ => hel hj1, al13, t13, fun u2 H14 g14 t14 hu2 => ?_⟩
    exact hRt _ _ ((g11.trans g12).trans g14) hu2
  · have alD : ∀ b ∈ p :: lp :: lb :: Ex, H10 b ≠ none := fun b hb z => al8 b hb (g10.al b z)
    have eM : (List.range rvs8.length).map (fun j => zsD (elimOf (row rs j ++ [0]) fr q)) = (rs.map fun R => elimOf (R ++ [0]) fr q).map zsD := by
      refine List.ext_getElem (by simp; omega) fun i h1 h2 => ?_
      rw [List.length_map, List.length_range] at h1
      simp [SQ.row_get (show i < rs.length by omega)]
    rw [eM] at da
    have S10 := S8.go g10
    have hu10 := hu.go g10.of0
    have da := da.less (M' := p :: lp :: lb :: Ex) fun b hb => List.mem_cons_of_mem _ hb
    have lys := da.length
    rw [List.length_map, List.length_map] at lys
    have g010 := g08.trans g10
    refine ⟨_, rfl, by show 1 ≤ sizeLine; decide, fun z5 hz5 => ?_⟩
    have g11 := Go.new (T := T) (M := []) (o := .lst [u]) hz5
    have ez5 : upd H10 z5 (.lst [u]) z5 = some (.lst [u]) := upd_same
    have ed11 := g11.lst ed10 (nn _)
    have S11 := S10.go g11
    have da11 := da.go g11.of0
    have hu11 := hu10.go g11.of0
    have t11 := g11.tb t10
    have g011 := g010.trans g11
    have al11 : ∀ b ∈ p :: lp :: lb :: Ex, upd H10 z5 (.lst [u]) b ≠ none := fun b hb z => alD b hb (g11.al b z)
    generalize upd H10 z5 (.lst [u]) = H11 at *
    refine ⟨D, z5, _, _, rfl, rfl, ed11, ez5, by rw [sizeLine_eq]; simp; omega, fun lr' hlr' => ?_⟩
    have g12 := Go.new (T := T) (M := []) (o := .lst (ys ++ [u])) hlr'
    have e12 : upd H11 lr' (.lst (ys ++ [u])) lr' = some (.lst (ys ++ [u])) := upd_same
    have S12 := S11.go g12
    have da12 : DvAll (p :: lp :: lb :: Ex) (upd H11 lr' (.lst (ys ++ [u]))) (ys ++ [u]) (((rs.map fun R => elimOf (R ++ [0]) fr q) ++ [fr]).map zsD) := by
      rw [List.map_append]
      exact DvAll.append (da11.go g12.of0) (.cons (hu11.go g12.of0) .nil)
    have t12 := g12.tb t11
    have g012 := g011.trans g12
    have nlr : lr' ∉ p :: lp :: lb :: Ex := fun z => al11 _ z hlr'
    have hlr0 : H lr' = none := g011.al _ hlr'
    generalize upd H11 lr' (.lst (ys ++ [u])) = H12 at *
    obtain ⟨dx12, eP12⟩ := S12.ob
    have mp : p ∈ [p, lp, lb] := by simp
    have mlp : lp ∈ [p, lp, lb] := by simp
    have mlb : lb ∈ [p, lp, lb] := by simp
    have np1 : lp ≠ p := fun z => by have := S12.pv; rw [z, eP12] at this; cases this
    have np2 : lb ≠ p := fun z => by have := S12.bt; rw [z, eP12] at this; cases this
    refine ⟨_, rfl, p, C, dx12, _, rfl, eP12, SC.c, SC.r, by show (4 : Nat) < 1000; decide, ?_⟩
    have g13 := Go.set (T := T) (M := [p, lp, lb]) (o := .ins C dx12 (spF wd lp lr' lb)) eP12 (fun _ z => by cases z) mp
    have eP13 : upd H12 p (.ins C dx12 (spF wd lp lr' lb)) p = some (.ins C dx12 (spF wd lp lr' lb)) := upd_same
    have lp13 : upd H12 p (.ins C dx12 (spF wd lp lr' lb)) lp = some (.lst (natV ps)) := by rw [upd_ne np1]; exact S12.pv
    have lb13 : upd H12 p (.ins C dx12 (spF wd lp lr' lb)) lb = some (.lst (bs.map V.int)) := by rw [upd_ne np2]; exact S12.bt
    have sub : ∀ b ∈ [p, lp, lb], b ∈ p :: lp :: lb :: Ex := fun b hb => by simp only [List.mem_cons, List.not_mem_nil, or_false] at hb ⊢; rcases hb with h | h | h <;> simp [h]
    have nl3 : lr' ∉ [p, lp, lb] := fun z => nlr (sub _ z)
    have e13 := g13.lst e12 nl3
    have da13 := da12.go (g13.more sub)
    have t13 := g13.tb t12
    have g013 := g012.of0.trans g13
    have n12 : lp ≠ lb := S12.ne
    obtain ⟨H13, eH13⟩ : ∃ H13, H13 = upd H12 p (.ins C dx12 (spF wd lp lr' lb)) := ⟨_, rfl⟩
    rw [← eH13] at g13 eP13 lp13 lb13 e13 da13 t13 g013
    have go13 : ∀ (t : TS) (D : Ends) (σ : L2.St), t D σ H13 → t D σ (upd H12 p (.ins C dx12 (putF "rows" (.ref lr') (spF wd lp lr lb)))) := fun t D σ h => by rw [eH13] at h; exact h
    refine go13 _ _ _ ?_
    clear eH13 go13
    refine ⟨_, rfl, p, C, dx12, _, _, rfl, eP13, SC.c, SC.p, rfl, .inl ⟨rfl, _, SqL.of lp13⟩, _, rfl, lp, _, _, rfl, rfl, lp13, (by rw [sizeLine_eq, List.length_map]; omega), ?_⟩
    have g14 := Go.set (T := T) (M := [p, lp, lb]) (o := .lst (natV ps ++ [V.int (q : Int)])) lp13 (fun _ z => by cases z) mlp
    have lp14 : upd H13 lp (.lst (natV ps ++ [V.int (q : Int)])) lp = some (.lst (natV (ps ++ [q]))) := by rw [upd_same, show natV (ps ++ [q]) = natV ps ++ [V.int (q : Int)] from List.map_append ..]
    have eP14 : upd H13 lp (.lst (natV ps ++ [V.int (q : Int)])) p = some (.ins C dx12 (spF wd lp lr' lb)) := by rw [upd_ne np1.symm]; exact eP13
    have lb14 : upd H13 lp (.lst (natV ps ++ [V.int (q : Int)])) lb = some (.lst (bs.map V.int)) := by rw [upd_ne n12.symm]; exact lb13
    have e14 := g14.lst e13 nl3
    have da14 := da13.go (g14.more sub)
    have t14 := g14.tb t13
    have g014 := g013.trans g14
    generalize upd H13 lp (.lst (natV ps ++ [V.int (q : Int)])) = H14 at *
    refine ⟨_, rfl, p, C, dx12, _, _, rfl, eP14, SC.c, SC.b, rfl, .inl ⟨rfl, _, SqL.of lb14⟩, _, rfl, lb, _, _, rfl, rfl, lb14, (by rw [sizeLine_eq, List.length_map]; omega), ?_⟩
    have g15 := Go.set (T := T) (M := [p, lp, lb]) (o := .lst (bs.map V.int ++ [V.int b])) lb14 (fun _ z => by cases z) mlb
    exact q2' lr' _ hlr0 (g014.trans g15) (g15.tb t14) ⟨⟨dx12, by rw [upd_ne np2.symm]; exact eP14⟩, by rw [upd_ne n12]; exact lp14, by rw [upd_same, List.map_append] <;> rfl, n12, ⟨_, g15.lst e14 nl3, da14.go (g15.more sub)⟩, fun z => nl3 (by rw [z]; exact mlp), fun z => nl3 (by rw [z]; exact mlb), fun z => nlr (List.mem_cons_of_mem _ (List.mem_cons_of_mem _ (List.mem_cons_of_mem _ z)))⟩
end
end KN
set_option Elab.async false
set_option linter.all false
set_option maxRecDepth 100000
set_option maxHeartbeats 4000000
/-! elimination over whole numbers: how great the weights and the marks get -/
namespace SQ
theorem prim_le {n : Nat} {x y : Nat → Int} {d c : Int} (hd : d ≠ 0) (hx : ∃ j < n, x j ≠ 0) (he : ∀ j < n, d * x j = c * y j) (hp : ∀ g : Int, (∀ j < n, g ∣ y j) → g ∣ 1) : ∀ j < n, (y j).natAbs ≤ (x j).natAbs := by
  obtain ⟨j0, hj0, hx0⟩ := hx
  have key : ∀ j < n, d.natAbs * (x j).natAbs = c.natAbs * (y j).natAbs := fun j hj => by
    rw [← Int.natAbs_mul, ← Int.natAbs_mul, he j hj]
  have hn : 0 < d.natAbs := Int.natAbs_pos.mpr hd
  have hc : 0 < c.natAbs := by
    refine Nat.pos_of_ne_zero fun z => ?_
    have h1 := key j0 hj0
    rw [z, Nat.zero_mul] at h1
    rcases Nat.mul_eq_zero.mp h1 with h2 | h2
    · omega
    · exact hx0 (by omega)
  obtain ⟨g, eg⟩ : ∃ g, g = Nat.gcd d.natAbs c.natAbs := ⟨_, rfl⟩
  have hg : 0 < g := by rw [eg]; exact Nat.gcd_pos_of_pos_left _ hn
  obtain ⟨a, ha⟩ : g ∣ d.natAbs := by rw [eg]; exact Nat.gcd_dvd_left ..
  obtain ⟨b, hb'⟩ : g ∣ c.natAbs := by rw [eg]; exact Nat.gcd_dvd_right ..
  have cop : Nat.Coprime a b := by
    have h1 : g * Nat.gcd a b = g * 1 := by rw [← Nat.gcd_mul_left, ← ha, ← hb', Nat.mul_one, eg]
    exact Nat.eq_of_mul_eq_mul_left hg h1
  have key2 : ∀ j < n, a * (x j).natAbs = b * (y j).natAbs := fun j hj => by
    have h1 := key j hj
    rw [ha, hb', Nat.mul_assoc, Nat.mul_assoc] at h1
    exact Nat.eq_of_mul_eq_mul_left hg h1
  have a1 : (a : Int) ∣ 1 := hp a fun j hj => by
    have h1 : a ∣ b * (y j).natAbs := ⟨_, (key2 j hj).symm⟩
    exact Int.dvd_natAbs.mp (Int.natCast_dvd_natCast.mpr (cop.dvd_of_dvd_mul_left h1))
  have a2 : a = 1 := by
    have : a ∣ 1 := Int.natCast_dvd_natCast.mp a1
    exact Nat.dvd_one.mp this
  have bp : 1 ≤ b := by
    refine Nat.pos_of_ne_zero fun z => ?_
    rw [z, Nat.mul_zero] at hb'
    omega
  intro j hj
  have h1 := key2 j hj
  rw [a2, Nat.one_mul] at h1
  have h3 : 1 * (y j).natAbs ≤ b * (y j).natAbs := Nat.mul_le_mul bp (Nat.le_refl _)
  omega
section
variable {w : Nat} {ts : List (List Int)} {ps : List Nat} {rs : List (List Int)} {t : List Int} {B : Nat}
theorem Sp.tp (h : Sp w ts ps rs) : (0 : Int) < totP ps rs t := Int.natCast_pos.mpr (h.tot_pos (tops := padOf t rs.length))
theorem Sp.gp (h : Sp w ts ps rs) : 0 < gcdL (restP ps rs t ++ [(totP ps rs t : Int)]) := gcdL_pos (x := (totP ps rs t : Int)) (by simp) (Int.ne_of_gt h.tp)
theorem Sp.fresh_ent (h : Sp w ts ps rs) (ht : t.length = w) {e : Nat} (he : e < w + ts.length) : (gcdL (restP ps rs t ++ [(totP ps rs t : Int)]) : Int) * ent (freshOf ps rs t) e = ent (restP ps rs t) e := by
  rw [freshOf, prL_mul, ent_app_left (by rw [h.restP_len ht]; exact he)]
theorem Sp.fresh_tot (h : Sp w ts ps rs) (ht : t.length = w) : (gcdL (restP ps rs t ++ [(totP ps rs t : Int)]) : Int) * ent (freshOf ps rs t) (w + ts.length) = totP ps rs t := by
  rw [freshOf, prL_mul, ent_app_right (by rw [h.restP_len ht]; exact Nat.le_refl _), h.restP_len ht, Nat.sub_self]
  rfl
/-- the weights of what is made are short -/
theorem Sp.made_le (h : Sp w ts ps rs) (hB : 1 ≤ B) (hb : ∀ j < ts.length, ∀ e < w, (ent (row ts j) e).natAbs ≤ B) (ht : t.length = w) (htb : ∀ e < w, (ent t e).natAbs ≤ B) (hz : ∀ e < w, ent (restP ps rs t) e = 0) :
    ∀ j < ts.length + 1, (ent (freshOf ps rs t) (w + j)).natAbs ≤ (2 * (ts.length + 1) * B) ^ ts.length := by
  obtain ⟨x, hx0, hxb, hxe⟩ := siegel ts.length B hB (fun k j => if j < ts.length then ent (row ts j) (piv ps k) else ent t (piv ps k)) fun k hk j hj => by
    split
    · exact hb j (by assumption) _ (h.piv_lt hk)
    · exact htb _ (h.piv_lt hk)
  have hxe' : ∀ k < ts.length, sumN ts.length (fun j => x j * ent (row ts j) (piv ps k)) = -(x ts.length * ent t (piv ps k)) := fun k hk => by
    have h1 := hxe k hk
    have h2 : sumN (ts.length + 1) (fun j => (if j < ts.length then ent (row ts j) (piv ps k) else ent t (piv ps k)) * x j) = sumN ts.length (fun j => (if j < ts.length then ent (row ts j) (piv ps k) else ent t (piv ps k)) * x j) + (if ts.length < ts.length then ent (row ts ts.length) (piv ps k) else ent t (piv ps k)) * x ts.length := rfl
    have h1 : sumN (ts.length + 1) (fun j => (if j < ts.length then ent (row ts j) (piv ps k) else ent t (piv ps k)) * x j) = 0 := h1
    rw [h2, if_neg (Nat.lt_irrefl _)] at h1
    have h3 : sumN ts.length (fun j => (if j < ts.length then ent (row ts j) (piv ps k) else ent t (piv ps k)) * x j) = sumN ts.length (fun j => x j * ent (row ts j) (piv ps k)) := sumN_congr fun j hj => by rw [if_pos hj, Int.mul_comm]
    rw [h3, Int.mul_comm (ent t (piv ps k))] at h1
    omega
  have tp := h.tp (t := t)
  have gp := h.gp (t := t)
  have ft := h.fresh_tot ht
  have fe := fun {e : Nat} (he : e < w + ts.length) => h.fresh_ent ht he
  have hm := fun {e : Nat} (he : e < w) => h.made ht hz he
  have prm : ∀ g : Int, (∀ i < (restP ps rs t ++ [(totP ps rs t : Int)]).length, g ∣ ent (freshOf ps rs t) i) → g ∣ 1 := fun g hg => prL_prim gp hg
  have hlen : (restP ps rs t ++ [(totP ps rs t : Int)]).length = w + ts.length + 1 := by rw [List.length_append, h.restP_len ht]; rfl
  rw [hlen] at prm
  obtain ⟨G, eG⟩ : ∃ G : Int, G = (gcdL (restP ps rs t ++ [(totP ps rs t : Int)]) : Int) := ⟨_, rfl⟩
  obtain ⟨Tt, eT⟩ : ∃ Tt : Int, Tt = (totP ps rs t : Int) := ⟨_, rfl⟩
  rw [← eG] at ft fe
  have g0 : G ≠ 0 := by omega
  rw [← eT] at ft tp hm
  have hy := h.inj (fun j => Tt * x j - x ts.length * ent (restP ps rs t) (w + j)) fun k hk => by
    have hp := h.piv_lt hk
    have h1 : sumN ts.length (fun j => (Tt * x j - x ts.length * ent (restP ps rs t) (w + j)) * ent (row ts j) (piv ps k)) = Tt * sumN ts.length (fun j => x j * ent (row ts j) (piv ps k)) + x ts.length * sumN ts.length (fun j => -ent (restP ps rs t) (w + j) * ent (row ts j) (piv ps k)) := by
      rw [← sumN_mul, ← sumN_mul, ← sumN_add]
      refine sumN_congr fun j _ => ?_
      grind
    rw [h1, hxe' k hk, ← hm hp]
    grind
  refine prim_le (n := ts.length + 1) (x := x) (y := fun j => ent (freshOf ps rs t) (w + j)) (d := Tt) (c := x ts.length * G) (by omega) ?_ (fun j hj => ?_) (fun g hg => prm g fun i hi => ?_) |> fun z j hj => Nat.le_trans (z j hj) (hxb j hj)
  · obtain ⟨j, hj, hn⟩ := hx0
    exact ⟨j, hj, hn⟩
  · by_cases c : j < ts.length
    · have h1 := hy j c
      have h2 := fe (e := w + j) (by omega)
      show Tt * x j = x ts.length * G * ent (freshOf ps rs t) (w + j)
      rw [Int.mul_assoc, h2]
      omega
    · have : j = ts.length := by omega
      rw [this]
      show Tt * x ts.length = x ts.length * G * ent (freshOf ps rs t) (w + ts.length)
      rw [Int.mul_assoc, ft, Int.mul_comm]
  · by_cases c : i < w
    · have h2 := fe (e := i) (by omega)
      rw [hz i c] at h2
      rw [(Int.mul_eq_zero.mp h2).resolve_left g0]
      exact Int.dvd_zero g
    · have := hg (i - w) (by omega)
      rwa [show w + (i - w) = i by omega] at this
end
theorem divInt_le (a : Int) {b : Int} (hb : b ≠ 0) : (Rat.divInt a b).num.natAbs ≤ a.natAbs ∧ (Rat.divInt a b).den ≤ b.natAbs := by
  rw [Rat.num_divInt, Rat.den_divInt, if_neg hb]
  have e : Int.gcd b a = Nat.gcd b.natAbs a.natAbs := rfl
  have gpos : 0 < Nat.gcd b.natAbs a.natAbs := Nat.gcd_pos_of_pos_left _ (Int.natAbs_pos.mpr hb)
  refine ⟨?_, Nat.div_le_self _ _⟩
  rw [e]
  refine Nat.le_trans (Int.natAbs_ediv_le_natAbs _ _) ?_
  rw [Int.natAbs_mul]
  have : b.sign.natAbs ≤ 1 := by rw [Int.natAbs_sign]; split <;> omega
  calc b.sign.natAbs * a.natAbs ≤ 1 * a.natAbs := Nat.mul_le_mul this (Nat.le_refl _)
    _ = a.natAbs := Nat.one_mul _
theorem divInt_same {a b c d : Int} (hb : b ≠ 0) (hd : d ≠ 0) (h : a * d = c * b) : Rat.divInt a b = Rat.divInt c d := (Rat.divInt_eq_divInt_iff hb hd).mpr h
end SQ
set_option Elab.async false
set_option linter.all false
set_option maxRecDepth 100000
set_option maxHeartbeats 4000000
/-! ratios: sums of products, matrices -/
namespace KN
open PySem PySem.Spec PyProof.Rows L2 GxR NdefX GA SL ZN RZ
def prs (qs : List Rat) : List (Int × Int) := qs.map fun q => (q.num, (q.den : Int))
def dotQ : List Rat → List Rat → Rat
  | q :: qs, p :: ps => q * p + dotQ qs ps
  | _, _ => 0
def colQ (m : List (List Rat)) (k : Nat) : List Rat := m.map fun r => r.getD k 0
def prodQ (one other : List (List Rat)) (n : Nat) : List (List Rat) := one.map fun r => (List.range n).map fun k => dotQ r (colQ other k)
theorem dotQ_nil (ps : List Rat) : dotQ [] ps = 0 := by cases ps <;> rfl
theorem dotQ_snoc : ∀ {a b : List Rat} (x y : Rat), a.length = b.length → dotQ (a ++ [x]) (b ++ [y]) = dotQ a b + x * y
  | [], [], x, y, _ => by show x * y + 0 = 0 + x * y; rw [Rat.add_zero, Rat.zero_add]
  | p :: a, q :: b, x, y, h => by
    have := dotQ_snoc (a := a) (b := b) x y (by simpa using h)
    show p * q + dotQ (a ++ [x]) (b ++ [y]) = p * q + dotQ a b + x * y
    rw [this, Rat.add_assoc]
theorem dotQ_zero (n : Nat) : ∀ (l : List Nat) (c : List Rat), dotQ (l.map fun _ => 0) c = 0
  | [], c => dotQ_nil c
  | _ :: l, [] => rfl
  | _ :: l, x :: c => by
    show 0 * x + dotQ (l.map fun _ => 0) c = 0
    rw [dotQ_zero n l c, Rat.zero_mul, Rat.add_zero]
theorem dotQ_lin (x : Rat) (f g : Nat → Rat) : ∀ (l : List Nat) (c : List Rat), dotQ (l.map fun k => x * f k + g k) c = x * dotQ (l.map f) c + dotQ (l.map g) c
  | [], c => by rw [List.map_nil, List.map_nil, List.map_nil, dotQ_nil, Rat.mul_zero, Rat.add_zero]
  | k :: l, [] => by show (0 : Rat) = x * 0 + 0; rw [Rat.mul_zero, Rat.add_zero]
  | k :: l, y :: c => by
    show (x * f k + g k) * y + dotQ (l.map fun k => x * f k + g k) c = x * (f k * y + dotQ (l.map f) c) + (g k * y + dotQ (l.map g) c)
    rw [dotQ_lin x f g l c]
    grind
theorem range_getD (s : List Rat) : (List.range s.length).map (fun k => s.getD k 0) = s := by
  refine List.ext_getElem? fun j => ?_
  rw [List.getElem?_map]
  by_cases h : j < s.length
  · rw [List.getElem?_range h, List.getElem?_eq_getElem h]
    simp [List.getD_eq_getElem?_getD, List.getElem?_eq_getElem h]
  · rw [List.getElem?_eq_none (by simpa using h), List.getElem?_eq_none (by omega)]
    rfl
theorem dotQ_swap : ∀ (r : List Rat) (two : List (List Rat)) (c : List Rat) (n : Nat), c.length = n → (∀ s ∈ two, s.length = n) → r.length = two.length →
    dotQ ((List.range n).map fun k => dotQ r (colQ two k)) c = dotQ r (two.map fun s => dotQ s c)
  | [], [], c, n, _, _, _ => by
    have : ((List.range n).map fun k => dotQ [] (colQ [] k)) = (List.range n).map fun _ => 0 := rfl
    rw [this, dotQ_zero n]
    rfl
  | x :: r, s :: two, c, n, hc, hs, hl => by
    have ih := dotQ_swap r two c n hc (fun t ht => hs t (List.mem_cons_of_mem _ ht)) (by simpa using hl)
    show dotQ ((List.range n).map fun k => x * s.getD k 0 + dotQ r (colQ two k)) c = x * dotQ s c + dotQ r (two.map fun s => dotQ s c)
    rw [dotQ_lin x (fun k => s.getD k 0) (fun k => dotQ r (colQ two k)), ih]
    have hn := hs s List.mem_cons_self
    subst hn
    rw [range_getD]
theorem colQ_prod {two three : List (List Rat)} {n l : Nat} (h : l < n) : colQ (prodQ two three n) l = two.map fun s => dotQ s (colQ three l) := by
  unfold colQ prodQ
  rw [List.map_map]
  refine List.map_congr_left fun s _ => ?_
  simp [colQ, List.getD_eq_getElem?_getD, List.getElem?_map, List.getElem?_range h]
theorem prodQ_assoc {one two three : List (List Rat)} {n2 n3 : Nat} (h1 : ∀ r ∈ one, r.length = two.length) (h2 : ∀ s ∈ two, s.length = n2) (h3 : three.length = n2) :
    prodQ (prodQ one two n2) three n3 = prodQ one (prodQ two three n3) n3 := by
  unfold prodQ
  rw [List.map_map]
  refine List.map_congr_left fun r hr => ?_
  refine List.map_congr_left fun l hl => ?_
  have e := colQ_prod (two := two) (three := three) (List.mem_range.mp hl)
  unfold prodQ at e
  show dotQ ((List.range n2).map fun k => dotQ r (colQ two k)) (colQ three l) = _
  rw [e]
  exact dotQ_swap r two _ n2 (by unfold colQ; rw [List.length_map, h3]) h2 (h1 r hr)
theorem den_mul_self (q : Rat) : q * (q.den : Rat) = (q.num : Rat) := by
  have h : (q.den : Rat) ≠ 0 := by
    have := q.den_nz
    simpa using this
  have e : q = (q.num : Rat) / (q.den : Rat) := by
    rw [← Rat.mkRat_eq_div, Rat.mkRat_self]
  rw [show q * (q.den : Rat) = (q.num : Rat) / (q.den : Rat) * (q.den : Rat) from by rw [← e]]
  exact Rat.div_mul_cancel h

theorem foldl_lcm_dvd {D : Nat} : ∀ {bs : List Nat} {a : Nat}, a ∣ D → (∀ b ∈ bs, b ∣ D) → bs.foldl Nat.lcm a ∣ D
  | [], a, h, _ => h
  | b :: bs, a, h, hb => foldl_lcm_dvd (bs := bs) (a := Nat.lcm a b) (Nat.lcm_dvd h (hb b List.mem_cons_self)) fun c hc => hb c (List.mem_cons_of_mem _ hc)
theorem lcms_dvd {qs : List Rat} {D : Nat} (h : ∀ q ∈ qs, q.den ∣ D) : lcms (prs qs) ∣ D := by
  unfold lcms
  refine foldl_lcm_dvd (Nat.one_dvd D) fun b hb => ?_
  simp only [prs, List.mem_map] at hb
  obtain ⟨r, ⟨q, hq, rfl⟩, rfl⟩ := hb
  exact h q hq
theorem prs_pos {qs : List Rat} : ∀ r ∈ prs qs, 1 ≤ r.2 := fun r hr => by
  obtain ⟨q, _, rfl⟩ := List.mem_map.mp hr
  have := q.den_pos
  show 1 ≤ (q.den : Int)
  omega
theorem dot_cons (t o : Int) (ts os : List Int) : dot (t :: ts) (o :: os) = t * o :: dot ts os := by
  unfold dot
  rw [List.length_cons, List.range_succ_eq_map, List.map_cons, List.map_map]
  rfl
/-- entries over a common bottom -/
def over (L : Nat) (qs : List Rat) : List Int := qs.map fun q => q.num * ((L : Int) / (q.den : Int))
theorem tops_over (qs : List Rat) : tops (prs qs) = over (lcms (prs qs)) qs := by
  unfold tops over prs
  rw [List.map_map]
  rfl
theorem over_cast {L : Nat} {q : Rat} (h : q.den ∣ L) : ((q.num * ((L : Int) / (q.den : Int)) : Int) : Rat) = q * (L : Rat) := by
  obtain ⟨c, rfl⟩ := h
  have : (((q.den * c : Nat) : Int) / (q.den : Int)) = (c : Int) := by
    rw [Int.natCast_mul]
    exact Int.mul_ediv_cancel_left _ (by have := q.den_pos; omega)
  rw [this, Rat.intCast_mul, ← den_mul_self, Rat.natCast_mul, Rat.mul_assoc]
  rfl
theorem dot_over {L L' : Nat} : ∀ {qs ps : List Rat}, qs.length = ps.length → (∀ q ∈ qs, q.den ∣ L) → (∀ q ∈ ps, q.den ∣ L') → (((dot (over L qs) (over L' ps)).sum : Int) : Rat) = ((L * L' : Nat) : Rat) * dotQ qs ps
  | [], [], _, _, _ => by show ((0 : Int) : Rat) = _ * 0; rw [Rat.mul_zero]; rfl
  | q :: qs, p :: ps, h, h1, h2 => by
    have ih := dot_over (qs := qs) (ps := ps) (by simpa using h) (fun z m => h1 z (List.mem_cons_of_mem _ m)) (fun z m => h2 z (List.mem_cons_of_mem _ m))
    have e1 := over_cast (h1 q List.mem_cons_self)
    have e2 := over_cast (h2 p List.mem_cons_self)
    show (((dot (q.num * ((L : Int) / (q.den : Int)) :: over L qs) (p.num * ((L' : Int) / (p.den : Int)) :: over L' ps)).sum : Int) : Rat) = _ * (q * p + dotQ qs ps)
    rw [dot_cons, List.sum_cons, Rat.intCast_add, ih, Rat.intCast_mul, e1, e2, Rat.natCast_mul]
    grind
theorem divInt_dot {L L' : Nat} {qs ps : List Rat} (h : qs.length = ps.length) (h1 : ∀ q ∈ qs, q.den ∣ L) (h2 : ∀ q ∈ ps, q.den ∣ L') (h0 : 0 < L) (h0' : 0 < L') :
    Rat.divInt (dot (over L qs) (over L' ps)).sum ((L * L' : Nat) : Int) = dotQ qs ps := by
  have z : ((L * L' : Nat) : Rat) ≠ 0 := by
    have : L * L' ≠ 0 := Nat.ne_of_gt (Nat.mul_pos h0 h0')
    exact fun e => this (by exact_mod_cast e)
  rw [Rat.divInt_eq_div, dot_over h h1 h2]
  show ((L * L' : Nat) : Rat) * dotQ qs ps / ((L * L' : Nat) : Rat) = _
  rw [Rat.mul_comm, Rat.mul_div_cancel z]
/-- bounded: the bottom divides D, the top is at most N -/
def Bd (D N : Nat) (q : Rat) : Prop := q.den ∣ D ∧ q.num.natAbs ≤ N
theorem sum_le {B : Nat} : ∀ {l : List Int}, (∀ z ∈ l, z.natAbs ≤ B) → l.sum.natAbs ≤ l.length * B
  | [], _ => by simp
  | z :: l, h => by
    have h1 := h z List.mem_cons_self
    have h2 := sum_le (B := B) (l := l) fun y hy => h y (List.mem_cons_of_mem _ hy)
    have h3 := Int.natAbs_add_le z l.sum
    rw [List.sum_cons, List.length_cons, Nat.succ_mul]
    omega
theorem over_le {L N : Nat} {qs : List Rat} (h : ∀ q ∈ qs, q.num.natAbs ≤ N) : ∀ z ∈ over L qs, z.natAbs ≤ N * L := fun z hz => by
  obtain ⟨q, hq, rfl⟩ := List.mem_map.mp hz
  rw [Int.natAbs_mul]
  refine Nat.mul_le_mul (h q hq) ?_
  have := Int.natAbs_ediv_le_natAbs (L : Int) (q.den : Int)
  simpa using this
theorem dot_mem {ts os : List Int} {z : Int} (hl : ts.length = os.length) (h : z ∈ dot ts os) : ∃ t ∈ ts, ∃ o ∈ os, z = t * o := by
  obtain ⟨i, hi, rfl⟩ := List.mem_map.mp h
  have hi := List.mem_range.mp hi
  refine ⟨ts[i], List.getElem_mem _, os[i], List.getElem_mem _, ?_⟩
  simp [List.getD_eq_getElem?_getD, List.getElem?_eq_getElem hi, List.getElem?_eq_getElem (show i < os.length by omega)]
theorem dot_len (ts os : List Int) : (dot ts os).length = ts.length := by simp [dot]
theorem over_len (L : Nat) (qs : List Rat) : (over L qs).length = qs.length := by simp [over]
theorem dot_le {L L' N N' : Nat} {qs ps : List Rat} (h : qs.length = ps.length) (h1 : ∀ q ∈ qs, q.num.natAbs ≤ N) (h2 : ∀ q ∈ ps, q.num.natAbs ≤ N') : (dot (over L qs) (over L' ps)).sum.natAbs ≤ qs.length * ((N * L) * (N' * L')) := by
  have := sum_le (B := (N * L) * (N' * L')) (l := dot (over L qs) (over L' ps)) fun z hz => by
    obtain ⟨t, ht, o, ho, rfl⟩ := dot_mem (by rw [over_len, over_len, h]) hz
    rw [Int.natAbs_mul]
    exact Nat.mul_le_mul (over_le h1 t ht) (over_le h2 o ho)
  rwa [dot_len, over_len] at this
theorem dotQ_bd {D D' N N' : Nat} {qs ps : List Rat} (hD : 0 < D) (hD' : 0 < D') (h : qs.length = ps.length) (h1 : ∀ q ∈ qs, Bd D N q) (h2 : ∀ q ∈ ps, Bd D' N' q) : Bd (D * D') (qs.length * ((N * D) * (N' * D'))) (dotQ qs ps) := by
  have e := divInt_dot (L := D) (L' := D') h (fun q m => (h1 q m).1) (fun q m => (h2 q m).1) hD hD'
  have l := dot_le (L := D) (L' := D') h (fun q m => (h1 q m).2) (fun q m => (h2 q m).2)
  have p : (0 : Int) < ((D * D' : Nat) : Int) := by have := Nat.mul_pos hD hD'; omega
  have lo := low_of (t := (dot (over D qs) (over D' ps)).sum) p
  rw [e] at lo
  obtain ⟨a1, a2⟩ := Prod.mk.inj lo
  refine ⟨?_, ?_⟩
  · have : (((dotQ qs ps).den : Nat) : Int) ∣ ((D * D' : Nat) : Int) := by
      rw [← a2]
      exact Int.ediv_dvd_of_dvd (Int.natCast_dvd_natCast.mpr (by have := Nat.gcd_dvd_right (dot (over D qs) (over D' ps)).sum.natAbs ((D * D' : Nat) : Int).natAbs; rwa [show ((D * D' : Nat) : Int).natAbs = D * D' from rfl] at this))
    exact Int.natCast_dvd_natCast.mp this
  · rw [← a1]
    exact Nat.le_trans (Int.natAbs_ediv_le_natAbs _ _) l
/-- the sums of products as the law makes them -/
def totQ : List Rat → List Rat → Int × Int
  | qs, ps => (List.range qs.length).foldl (fun s k => if (qs.getD k 0).num ≠ 0 ∧ (ps.getD k 0).num ≠ 0 then (s.1 * ((qs.getD k 0).den * (ps.getD k 0).den) + (qs.getD k 0).num * (ps.getD k 0).num * s.2, s.2 * ((qs.getD k 0).den * (ps.getD k 0).den)) else s) (0, 1)
/-- a turn of it -/
structure Tot (B N k : Nat) (qs ps : List Rat) (t b : Int) : Prop where
  p : 0 < b
  e : Rat.divInt t b = dotQ (qs.take k) (ps.take k)
  b : b.natAbs ≤ B ^ k
  t : t.natAbs ≤ k * (N * B ^ k)
theorem Tot.zero {B N : Nat} {qs ps : List Rat} : Tot B N 0 qs ps 0 1 := ⟨by decide, by rw [List.take_zero, dotQ_nil, Rat.zero_divInt], by simp, by simp⟩
theorem Tot.skip {B N k : Nat} {qs ps : List Rat} {t b : Int} {q p : Rat} (h : Tot B N k qs ps t b) (hB : 0 < B) (hq : qs[k]? = some q) (hp : ps[k]? = some p) (z : q.num = 0 ∨ p.num = 0) : Tot B N (k + 1) qs ps t b := by
  have l1 := (List.getElem?_eq_some_iff.mp hq).1
  have l2 := (List.getElem?_eq_some_iff.mp hp).1
  have hpow : B ^ k ≤ B ^ (k + 1) := Nat.pow_le_pow_right hB (Nat.le_succ k)
  refine ⟨h.p, ?_, Nat.le_trans h.b hpow, Nat.le_trans h.t (Nat.mul_le_mul (Nat.le_succ k) (Nat.mul_le_mul (Nat.le_refl _) hpow))⟩
  rw [List.take_add_one, List.take_add_one, hq, hp]
  show _ = dotQ (qs.take k ++ [q]) (ps.take k ++ [p])
  rw [dotQ_snoc q p (by rw [List.length_take, List.length_take]; omega), h.e]
  have e : q * p = 0 := by
    rcases z with z | z
    · rw [Rat.num_eq_zero.mp z, Rat.zero_mul]
    · rw [Rat.num_eq_zero.mp z, Rat.mul_zero]
  rw [e, Rat.add_zero]
theorem Tot.next {B N k : Nat} {qs ps : List Rat} {t b : Int} {q p : Rat} (h : Tot B N k qs ps t b) (hB : 0 < B) (hq : qs[k]? = some q) (hp : ps[k]? = some p) (hb : q.den * p.den ≤ B) (hn : q.num.natAbs * p.num.natAbs ≤ N) :
    Tot B N (k + 1) qs ps (t * ((q.den : Int) * (p.den : Int)) + q.num * p.num * b) (b * ((q.den : Int) * (p.den : Int))) := by
  have l1 := (List.getElem?_eq_some_iff.mp hq).1
  have l2 := (List.getElem?_eq_some_iff.mp hp).1
  have d1 := q.den_pos
  have d2 := p.den_pos
  have dd : (0 : Int) < (q.den : Int) * (p.den : Int) := Int.mul_pos (by omega) (by omega)
  have nd : ((q.den : Int) * (p.den : Int)).natAbs = q.den * p.den := by rw [Int.natAbs_mul]; simp
  refine ⟨Int.mul_pos h.p dd, ?_, ?_, ?_⟩
  · rw [List.take_add_one, List.take_add_one, hq, hp]
    show _ = dotQ (qs.take k ++ [q]) (ps.take k ++ [p])
    rw [dotQ_snoc q p (by rw [List.length_take, List.length_take]; omega), ← h.e]
    have e : q * p = Rat.divInt (q.num * p.num) ((q.den : Int) * (p.den : Int)) := by
      rw [← Rat.divInt_mul_divInt, Rat.num_divInt_den, Rat.num_divInt_den]
    rw [e, Rat.divInt_add_divInt _ _ (by have := h.p; omega) (by omega)]
  · rw [Int.natAbs_mul, nd, Nat.pow_succ]
    exact Nat.mul_le_mul h.b hb
  · have h3 := Int.natAbs_add_le (t * ((q.den : Int) * (p.den : Int))) (q.num * p.num * b)
    rw [Int.natAbs_mul, nd, Int.natAbs_mul, Int.natAbs_mul] at h3
    have h4 : t.natAbs * (q.den * p.den) ≤ k * (N * B ^ k) * B := Nat.mul_le_mul h.t hb
    have h5 : q.num.natAbs * p.num.natAbs * b.natAbs ≤ N * B ^ k := Nat.mul_le_mul hn h.b
    have h6 : k * (N * B ^ k) * B = k * (N * B ^ (k + 1)) := by rw [Nat.pow_succ]; simp [Nat.mul_assoc]
    have h7 : N * B ^ k ≤ N * B ^ (k + 1) := Nat.mul_le_mul (Nat.le_refl _) (Nat.pow_le_pow_right hB (Nat.le_succ k))
    rw [Nat.succ_mul]
    omega
end KN
set_option Elab.async false
set_option linter.all false
set_option maxRecDepth 100000
set_option maxHeartbeats 8000000
/-! k39: the class Span: put, weights_of_scaled, weights -/
namespace KN
open PySem PySem.Spec PyProof.Rows L2 GxR NdefX GA SL ZN RZ
open SQ (ent gcdL prL elimOf usedOf totOf tot wtOf stepOf restOf row piv padOf totP restP freshOf putRows)
theorem cutV_from {xs : List V} {i : Nat} (h : i ≤ xs.length) : cutV xs (some (i : Int)) none = xs.drop i := by
  unfold cutV
  rw [HT.sIx_nat, HT.sIx_none, Nat.min_eq_left h]
  exact List.take_of_length_le (by rw [List.length_drop]; exact Nat.le_refl _)
section
variable {w m B : Nat} {ts : List (List Int)} {ps : List Nat} {rs : List (List Int)} {t : List Int}
theorem Kp.rest_lt (h : Kp w m B ts ps rs) (ht : t.length = w) (hb : ∀ e, (ent t e).natAbs ≤ B) (e : Nat) : (ent (restP ps rs t) e).natAbs < 2 ^ 220000 := by
  by_cases c : e < w + ts.length
  · have hT := h.totB (padOf t rs.length)
    have hF := h.fitP ht hb
    rw [SQ.restP, h.sp.rest_ent (by rw [SQ.pad_len, h.sp.lr]; omega) (by rw [SQ.pad_len, h.sp.lr]; omega)]
    refine Nat.lt_of_le_of_lt (Int.natAbs_sub_le _ _) ?_
    have a1 : ((tot ps rs (padOf t rs.length) : Int) * ent (padOf t rs.length) e).natAbs ≤ 2 ^ 209000 := by
      rw [Int.natAbs_mul]
      have := Nat.mul_le_mul (Nat.le_of_lt hT) (Nat.le_of_lt (hF.sh e))
      rw [← Nat.pow_add] at this
      exact this
    have a2 : (SQ.sumN ts.length fun k => SQ.wt ps rs (padOf t rs.length) k * ent (row rs k) e).natAbs ≤ ts.length * 2 ^ 218000 := by
      refine SQ.sumN_abs fun k hk => ?_
      rw [Int.natAbs_mul]
      have b1 : (SQ.wt ps rs (padOf t rs.length) k).natAbs ≤ 2 ^ 209000 := by
        show (ent (padOf t rs.length) (piv ps k) * ((tot ps rs (padOf t rs.length) : Int) / ent (row rs k) (piv ps k))).natAbs ≤ _
        rw [Int.natAbs_mul]
        have b2 : ((tot ps rs (padOf t rs.length) : Int) / ent (row rs k) (piv ps k)).natAbs ≤ 2 ^ 200000 := Nat.le_trans (by have := Int.natAbs_ediv_le_natAbs (tot ps rs (padOf t rs.length) : Int) (ent (row rs k) (piv ps k)); simpa using this) (Nat.le_of_lt hT)
        have := Nat.mul_le_mul (Nat.le_of_lt (hF.sh (piv ps k))) b2
        rw [← Nat.pow_add] at this
        exact this
      have b3 := Nat.le_of_lt (pow4 (h.rowB hk e))
      have := Nat.mul_le_mul b1 b3
      rw [← Nat.pow_add] at this
      exact this
    have l48 : ts.length ≤ 2 ^ 6 := by
      have := h.sp.len_le
      have := h.w48
      have : (2 : Nat) ^ 6 = 64 := rfl
      omega
    have a3 := Nat.mul_le_mul_right (2 ^ 218000) l48
    rw [← Nat.pow_add] at a3
    have a4 : (2 : Nat) ^ 209000 ≤ 2 ^ 218006 := Nat.pow_le_pow_right (by decide) (by decide)
    have a5 : (2 : Nat) ^ 218006 * 2 < 2 ^ 220000 := by
      rw [← Nat.pow_succ]
      exact Nat.pow_lt_pow_right (by decide) (by decide)
    exact Nat.lt_of_le_of_lt (Nat.add_le_add (Nat.le_trans a1 a4) (Nat.le_trans a2 a3)) (by rw [← Nat.mul_two]; exact a5)
  · rw [SQ.ent_ge (by rw [h.sp.restP_len ht]; omega)]
    exact Nat.pow_pos (by decide)
end
/-- the weights -/
def wtsQ (w : Nat) (ps : List Nat) (rs : List (List Int)) (bs t : List Int) (b : Int) : List Rat := (List.range bs.length).map fun j => Rat.divInt (-ent (restP ps rs t) (w + j) * ent bs j) (totP ps rs t * b)
abbrev rowQ (qs : List Rat) : PyData := rowR (prs qs)
abbrev s_weights_of : Stmt := inClass s_Span 6
abbrev NWT : List Str := ["self", "tops", "bottom", "total", "rest", "entry", "below"]
theorem sc_weights_of : FnScope NWT ["self", "tops", "bottom"] (defScope s_weights_of) := ⟨rfl, rfl, rfl, by decide +kernel, rfl, by decide +kernel, by decide +kernel⟩
def sp_weights_of (T : List Addr) (C : Addr) : Sp := fun vs H Q _ => ∃ (p lp lr lb : Addr) (w m B : Nat) (ts : List (List Int)) (ps : List Nat) (rs : List (List Int)) (bs : List Int) (M : List Addr) (v : V) (t : List Int) (b : Int), vs = [.ref p, v, .int b] ∧ SpanAt C H p lp lr lb w ps rs bs ∧ Kp w m B ts ps rs ∧ Dv M H v (zsD t) ∧ t.length = w ∧ (∀ e, (ent t e).natAbs ≤ B) ∧ bs.length = ts.length ∧ Sh bs ∧ 1 ≤ b ∧ b.natAbs < 2 ^ 9000 ∧ Tabs T H ∧
  (∀ q H', Go T [] H H' → Tabs T H' → q < w → ent (restP ps rs t) q ≠ 0 → Q .non H') ∧
  (∀ u H', Go T [] H H' → Tabs T H' → (∀ e < w, ent (restP ps rs t) e = 0) → Dv [] H' u (rowQ (wtsQ w ps rs bs t b)) → Q u H')
section
variable {P : Program} {w : World} {K : PySem.W.Frag} {mg : Str → Option Value} {base : Heap} {f C : Addr} {fd : FuncData} {T : List Addr}
theorem ok_weights_of (F : Fun K "weights_of_scaled" "Span.weights_of_scaled" s_weights_of f fd) (SC : SpC K C) (B : Bl mg) (hz : mg "zip" = none) (Mr : Mth P w K mg base CX0 C 33 "_rest" ["self", "tops"] (sp_rest T C)) (Mp : Mth P w K mg base CX0 C 1 "_first_place" ["self", "entries"] (sp_first C))
    (Fr : Fnn P w K mg base CX0 33 "ratio_of" ["top", "bottom"] sp_ratio_of) : FnOk P w K mg base CX0 34 f fd ["self", "tops", "bottom"] (sp_weights_of T C) := by
  refine F.ok sc_weights_of (fun vs H Q E h => ?_) (fun cdv A outer s H vs Q E hr h => ?_)
  · obtain ⟨_, _, _, _, _, _, _, _, _, _, _, _, _, _, _, rfl, _⟩ := h
    rfl
  have nd := sc_weights_of.nd
  have nn : ∀ b : Addr, b ∉ ([] : List Addr) := fun b => List.not_mem_nil
  obtain ⟨p, lp, lr, lb, wd, m, Bd, ts, ps, rs, bs, M, v, t, b, rfl, hS, hK, hv, hlt, hb, hbs, hsb, hb1, hb9, ht, q1, q2⟩ := h
  refine ⟨_, pss_cons (ps_asg (pe_mth SC.c Mr hr (by decide) pass0 (pv 0) (pa_cons (pe_op op_cat (pv 1) (pe_op op_rep (pe_lst (pa_cons pe_int pa_nil)) (pe_lenq B (pe_fld (pv 0) rfl)))) pa_nil)) (pg_tup rfl (pgs_cons (pg_name (i := 3) nd rfl (.inr rfl)) (pgs_cons (pg_name (i := 4) nd rfl (.inl rfl)) pgs_nil))))
    (pss_cons (ps_if (pt_cmpR op_notN (pe_mth SC.c Mp hr (by decide) pass0 (pv 0) (pa_cons (pv 4) pa_nil)) pe_non (nomark _)) (pss_one (ps_ret pe_non)) pss_nil)
    (pss_one (ps_ret (pe_tupleOf rfl B.tuple (pe_lc (own := [("entry", 5), ("below", 6)]) (g := gTup K 2 (gCons (gName 5) (gCons (gName 6) gNil))) (tt := tYes) rfl nd
        (pi_zipA rfl hz (pa_cons (pe_slice sl_list (pv 4) (po_some (pe_fld (pv 0) rfl)) po_none) (pa_cons (pe_fld (pv 0) rfl) pa_nil)))
        (blkOk_by (own := [("entry", 5), ("below", 6)]) (N := NWT) (sc := defScope s_weights_of) (by decide +kernel))
        (fun _ _ _ _ _ => pg_tup rfl (pgs_cons (pg_name (i := 5) nd rfl (.inl rfl)) (pgs_cons (pg_name (i := 6) nd rfl (.inl rfl)) pgs_nil))) (fun _ _ _ _ _ => pts_nil)
        (te := tCall sp_ratio_of [] E0 (tCons (tOp (rI CMulW fun i j => .int (i * j)) (tUn (rU fun i => .int (-i)) (tVar 5)) (tVar 6)) (tCons (tOp (rI CMulW fun i j => .int (i * j)) (tVar 3) (tVar 2)) tNil)))
        (fun _ _ _ _ _ => pe_fn Fr hr (by decide) pass0 (pa_cons (pe_op op_mulW (pe_un un_neg (pv 5)) (pv 6)) (pa_cons (pe_op op_mulW (pv 3) (pv 2)) pa_nil)))))))), ?_⟩
  obtain ⟨dx, eP⟩ := hS.ob
  obtain ⟨rvs, er, dr⟩ := hS.rw
  have lrv := dr.length
  rw [List.length_map] at lrv
  have hll := hK.sp.len_le
  have h48 := hK.w48
  have hlr := hK.sp.lr
  have hlp := hK.sp.lp
  obtain ⟨a, rfl, ea, na⟩ := dv_ints hv
  have fit := hK.fitP hlt hb
  refine ⟨_, rfl, p, dx, _, rfl, eP, rfl, _, rfl, by show 1 ≤ sizeLine; decide, fun z hz => ?_⟩
  have g1 := Go.new (T := T) (M := []) (o := .lst [V.int 0]) hz
  have ez : upd H z (.lst [V.int 0]) z = some (.lst [V.int 0]) := upd_same
  have S1 := hS.go g1
  have ea1 := g1.lst ea (nn _)
  have er1 := g1.lst er (nn _)
  have t1 := g1.tb ht
  generalize upd H z (.lst [V.int 0]) = H1 at *
  obtain ⟨dx1, eP1⟩ := S1.ob
  refine ⟨_, rfl, p, C, dx1, _, _, rfl, eP1, SC.c, SC.r, rfl, lr, _, rfl, .inl (SqL.of er1), z, _, _, rfl, rfl, ez, by omega, by omega, by rw [sizeLine_eq]; simp; omega, fun y hy => ?_⟩
  have g2 := Go.new (T := T) (M := []) (o := .lst (List.replicate (((rvs.length : Nat) : Int).toNat) [V.int 0]).flatten) hy
  have ey : upd H1 y (.lst (List.replicate (((rvs.length : Nat) : Int).toNat) [V.int 0]).flatten) y = some (.lst ((List.replicate rs.length (0 : Int)).map V.int)) := by
    rw [upd_same, Int.toNat_natCast, lrv]
    congr 2
    simp [List.flatten_replicate_singleton]
  have S2 := S1.go g2
  have ea2 := g2.lst ea1 (nn _)
  have t2 := g2.tb t1
  generalize upd H1 y (.lst (List.replicate (((rvs.length : Nat) : Int).toNat) [V.int 0]).flatten) = H2 at *
  refine ⟨a, y, _, _, rfl, rfl, ea2, ey, by rw [sizeLine_eq]; simp; omega, fun g hg => ?_⟩
  have g3 := Go.new (T := T) (M := []) (o := .lst (t.map V.int ++ (List.replicate rs.length (0 : Int)).map V.int)) hg
  have eg : upd H2 g (.lst (t.map V.int ++ (List.replicate rs.length (0 : Int)).map V.int)) g = some (.lst ((padOf t rs.length).map V.int)) := by
    rw [upd_same, ← List.map_append]
  have S3 := S2.go g3
  have t3 := g3.tb t2
  generalize upd H2 g (.lst (t.map V.int ++ (List.replicate rs.length (0 : Int)).map V.int)) = H3 at *
  refine ⟨p, lp, lr, lb, wd, ps, rs, bs, [], .ref g, padOf t rs.length, rfl, S3, ints_dv eg (nn _), fit, t3, fun r l H5 hr5 hl5 er5 el5 g5 t5 => ?_⟩
  have g05 := ((g1.trans g2).trans g3).trans g5
  have S5 := S3.go g5
  change H5 l = some (.lst ((restP ps rs t).map V.int)) at el5
  change H5 r = some (.tup [V.int (totP ps rs t : Nat), .ref l]) at er5
  obtain ⟨dx5, eP5⟩ := S5.ob
  have lrest := hK.sp.restP_len hlt
  refine ⟨r, _, rfl, SqT.of er5, rfl, _, _, rfl, _, _, rfl, rfl, ?_⟩
  refine ⟨_, rfl, p, dx5, _, rfl, eP5, rfl, _, rfl, p, lp, lr, lb, wd, ps, rs, bs, [], _, restP ps rs t, rfl, S5, ints_dv el5 (nn _), by omega, by omega, fun q hq hq0 _ => ?_, fun hz0 => ?_⟩
  case refine_1 =>
    refine ⟨rfl, _, rfl, ?_⟩
    refine if_true_of rfl ?_
    exact q1 _ _ g05 t5 hq hq0
  refine ⟨rfl, _, rfl, ?_⟩
  refine if_false_of rfl ?_
  have rlt := hK.rest_lt hlt hb
  have tlt : totP ps rs t < 2 ^ 200000 := hK.totB (padOf t rs.length)
  have tp := hK.tot_pos (t := t)
  have q2' : ∀ u H', Go T [] H H' → Tabs T H' → Dv [] H' u (rowQ (wtsQ wd ps rs bs t b)) → Q u H' := fun u H' h1 h2 h3 => q2 u H' h1 h2 hz0 h3
  unfold wtsQ at q2'
  generalize restP ps rs t = rest at *
  generalize totP ps rs t = ttl at *
  refine ⟨_, rfl, _, rfl, p, C, dx5, _, _, rfl, eP5, SC.c, SC.w, rfl, _, rfl, l, _, rfl, SqL.of el5, fun c hc => ?_⟩
  rw [cutV_from (by rw [List.length_map]; omega), ← List.map_drop]
  have g6 := Go.new (T := T) (M := []) (o := .lst ((rest.drop wd).map V.int)) hc
  have ec : upd H5 c (.lst ((rest.drop wd).map V.int)) c = some (.lst ((rest.drop wd).map V.int)) := upd_same
  have S6 := S5.go g6
  have t6 := g6.tb t5
  have g06 := g05.trans g6
  generalize upd H5 c (.lst ((rest.drop wd).map V.int)) = H6 at *
  obtain ⟨dx6, eP6⟩ := S6.ob
  refine ⟨_, rfl, p, C, dx6, _, _, rfl, eP6, SC.c, SC.b, rfl, c, lb, _, _, rfl, .inl ⟨SqL.of ec, SqL.of S6.bt, fun D hD => ?_⟩⟩
  have ld : (rest.drop wd).length = bs.length := by rw [List.length_drop]; omega
  have wk := walkZL (K := K) (a := c) (b := lb) (xs := (rest.drop wd).map V.int) (ys := bs.map V.int) (by rw [List.length_map, List.length_map, ld])
  rw [List.length_map, ld] at wk
  refine lc_dv (T := T) (M := []) (fun j => rat (Rat.divInt (-ent rest (wd + j) * ent bs j) (ttl * b)).num (Rat.divInt (-ent rest (wd + j) * ent bs j) (ttl * b)).den) wk (fun H' g' => ⟨SqL.of (g'.lst ec (nn _)), SqL.of (g'.lst S6.bt (nn _))⟩) t6 Go.refl hD (by rw [sizeLine_eq]; omega) (fun j x H10 H11 Rt hj g10 t10 hne y hRt => ?_) (fun H10 ys g10 t10 ed10 da => ?_)
  · obtain ⟨z', x', y', rfl, hn, rfl, ex, ey'⟩ := y
    obtain ⟨hj1, rfl⟩ := at_ints ex
    obtain ⟨hj2, rfl⟩ := at_ints ey'
    have e1 : ent (rest.drop wd) j = ent rest (wd + j) := by
      rw [SQ.ent_get hj1, List.getElem_drop, SQ.ent_get]
    rw [e1]
    have u := Go.new (T := T) (M := []) (o := .tup [V.int (ent rest (wd + j)), V.int (ent bs j)]) hn
    have nb : ∀ {H'' : Hp} {P' : Addr}, H'' D ≠ none → H'' P' = none → P' ∉ [D] := fun h1 h2 z => by rw [List.mem_singleton.mp z] at h2; exact h1 h2
    refine ⟨z', _, rfl, SqT.of upd_same, rfl, _, _, rfl, _, _, rfl, rfl, rfl, ?_⟩
    refine ⟨_, rfl, _, rfl, _, rfl, _, _, rfl, rfl, wide_mul (a := 220000) (b := 9000) (by rw [Int.natAbs_neg]; exact rlt _) (hsb _) (by decide) (by decide) (by decide), _, rfl, _, rfl, _, _, rfl, rfl, wide_mul (a := 200000) (b := 9000) (by simpa using tlt) hb9 (by decide) (by decide) (by decide), ?_⟩
    refine ⟨_, _, rfl, Int.mul_ne_zero (by omega) (by omega), fun P' hP' => ?_⟩
    have u2 := Go.new (T := T) (M := []) (o := .tup [V.int (Rat.divInt (-ent rest (wd + j) * ent bs j) (ttl * b)).num, V.int ((Rat.divInt (-ent rest (wd + j) * ent bs j) (ttl * b)).den : Int)]) hP'
    refine hRt _ _ (u.trans u2) (.tup upd_same (nb hne (u.al _ hP')) (.cons (.int _) (.cons (.int _) .nil)))
  · refine .inl ⟨D, ys, rfl, SqL.of ed10, fun R hR => ?_⟩
    have u := Go.new (T := T) (M := []) (o := .tup ys) hR
    refine q2' _ _ ((g06.trans g10).trans u) (u.tb t10) (.tup upd_same (nn _) ?_)
    have da := (da.less (M' := []) (by simp)).go u
    have e : (prs ((List.range bs.length).map fun j => Rat.divInt (-ent rest (wd + j) * ent bs j) (ttl * b))).map (fun r => rat r.1 r.2) = (List.range bs.length).map fun j => rat (Rat.divInt (-ent rest (wd + j) * ent bs j) (ttl * b)).num (Rat.divInt (-ent rest (wd + j) * ent bs j) (ttl * b)).den := by
      unfold prs
      rw [List.map_map, List.map_map]
      rfl
    rw [e]
    exact da
end
end KN
set_option Elab.async false
set_option linter.all false
set_option maxRecDepth 100000
set_option maxHeartbeats 4000000
/-! elimination over whole numbers: the marks -/
namespace SQ
section
variable {w : Nat} {ts : List (List Int)} {ps : List Nat} {rs : List (List Int)} {t : List Int} {B : Nat}
theorem Sp.used_pad (h : Sp w ts ps rs) (ht : t.length = w) (n : Nat) : usedOf ps rs (padOf t n) = usedOf ps rs t := by
  unfold usedOf
  refine List.filter_congr fun pr hpr => ?_
  have h1 := h.pw pr.1 (List.of_mem_zip hpr).1
  rw [pad_left (by omega)]
theorem Sp.tot_pad (h : Sp w ts ps rs) (ht : t.length = w) (n : Nat) : tot ps rs (padOf t n) = tot ps rs t := by
  unfold tot
  rw [h.used_pad ht]
theorem Sp.rest_pad (h : Sp w ts ps rs) (ht : t.length = w) {e : Nat} (he : e < w) : ent (restP ps rs t) e = ent (restOf ps rs t) e := by
  rw [restP, h.rest_ent (by rw [pad_len, h.lr]; omega) (by rw [pad_len]; omega), h.rest_ent (by omega) (by omega), h.tot_pad ht, pad_left (by omega)]
  congr 1
  refine sumN_congr fun k hk => ?_
  unfold wt wtOf
  rw [h.tot_pad ht, pad_left (by have := h.piv_lt hk; show piv ps k < _; omega)]
/-- the marks: at the place, then at the pivots -/
def mk0 (ps : List Nat) (rs : List (List Int)) (t : List Int) (q : Nat) (b : Int) : Rat := Rat.divInt (b * tot ps rs t) (ent (restOf ps rs t) q)
def mkP (ps : List Nat) (rs : List (List Int)) (t : List Int) (q : Nat) (b : Int) (k : Nat) : Rat := Rat.divInt (-ent (row rs k) q * b * tot ps rs t) (ent (row rs k) (piv ps k) * ent (restOf ps rs t) q)
def marksF (ps : List Nat) (rs : List (List Int)) (t : List Int) (q : Nat) (b : Int) : Nat → Nat → Rat
  | 0 => fun i => if i = q then mk0 ps rs t q b else 0
  | k + 1 => fun i => if i = piv ps k then mkP ps rs t q b k else marksF ps rs t q b k i
/-- where no mark has been put -/
theorem marksF_off (h : Sp w ts ps rs) (ht : t.length = w) {q : Nat} (hr : ent (restOf ps rs t) q ≠ 0) {b : Int} : ∀ {k : Nat}, k ≤ ts.length → ∀ i, i ≠ q → (∀ j < k, i ≠ piv ps j) → marksF ps rs t q b k i = 0
  | 0, _, i, h1, _ => if_neg h1
  | k + 1, hk, i, h1, h2 => by
    show (if i = piv ps k then _ else _) = _
    rw [if_neg (h2 k (by omega))]
    exact marksF_off h ht hr (by omega) i h1 fun j hj => h2 j (by omega)
theorem sumQ_upd {f g : Nat → Rat} {i : Nat} {v : Rat} : ∀ {n : Nat}, i < n → f i = 0 → sumQ n (fun j => (if j = i then v else f j) * g j) = sumQ n (fun j => f j * g j) + v * g i := by
  intro n hi h0
  have e : (fun j => (if j = i then v else f j) * g j) = fun j => f j * g j + (if j = i then v else 0) * g j := by
    funext j
    by_cases c : j = i
    · rw [if_pos c, if_pos c, c, h0, Rat.zero_mul, Rat.zero_add]
    · rw [if_neg c, if_neg c, Rat.zero_mul, Rat.add_zero]
  rw [e, sumQ_add, sumQ_single (f := fun j => (if j = i then v else 0) * g j) (k := i) (fun j _ hn => by rw [if_neg hn, Rat.zero_mul]) hi, if_pos rfl]
theorem marksF_sum (h : Sp w ts ps rs) (ht : t.length = w) {q : Nat} (hq : q < w) (hr : ent (restOf ps rs t) q ≠ 0) {b : Int} (g : Nat → Rat) : ∀ {k : Nat}, k ≤ ts.length → sumQ w (fun i => marksF ps rs t q b k i * g i) = mk0 ps rs t q b * g q + sumQ k (fun j => mkP ps rs t q b j * g (piv ps j))
  | 0, _ => by
    show _ = _ + 0
    rw [Rat.add_zero]
    have := sumQ_upd (f := fun _ => 0) (g := g) (i := q) (v := mk0 ps rs t q b) hq rfl
    have z : sumQ w (fun j => 0 * g j) = 0 := sumQ_zero' fun j _ => Rat.zero_mul _
    rw [z, Rat.zero_add] at this
    exact this
  | k + 1, hk => by
    have ih := marksF_sum h ht hq hr (b := b) g (k := k) (by omega)
    have nq : piv ps k ≠ q := fun z => by
      have := h.rest_piv (tops := t) (by omega) (by omega) (show k < ts.length by omega)
      rw [z] at this
      exact hr this
    have := sumQ_upd (f := marksF ps rs t q b k) (g := g) (i := piv ps k) (v := mkP ps rs t q b k) (h.piv_lt (by omega)) (marksF_off h ht hr (by omega) _ nq fun j hj => h.piv_ne (by omega) (by omega) (by omega))
    show sumQ w (fun i => (if i = piv ps k then mkP ps rs t q b k else marksF ps rs t q b k i) * g i) = _ + (sumQ k _ + _)
    rw [this, ih, Rat.add_assoc]
/-- the product with those put in is 0, with the vector its bottom -/
theorem Sp.marksOk (h : Sp w ts ps rs) (ht : t.length = w) {q : Nat} (hq : q < w) (hr : ent (restOf ps rs t) q ≠ 0) {b : Int} : (∀ j < ts.length, sumQ w (fun i => marksF ps rs t q b ts.length i * (ent (row ts j) i : Rat)) = 0) ∧ sumQ w (fun i => marksF ps rs t q b ts.length i * (ent t i : Rat)) = (b : Rat) :=
  h.marks ht hq hr (L := fun x => sumQ w (fun i => marksF ps rs t q b ts.length i * (x i : Rat))) ⟨fun x => marksF_sum h ht hq hr (fun i => (x i : Rat)) (Nat.le_refl _)⟩
/-- the marks are short: X a bound for the rows, the new one too -/
theorem Sp.marks_le (h : Sp w ts ps rs) (ht : t.length = w) {q : Nat} (hq : q < w) (hr : ent (restOf ps rs t) q ≠ 0) {b : Int} {X Y : Nat} (hX1 : 1 ≤ X) (hX : ∀ i < ts.length, ∀ e, (ent (row rs i) e).natAbs ≤ X) (hF : ∀ e, (ent (freshOf ps rs t) e).natAbs ≤ X) (hb : b.natAbs ≤ Y) (hY : 1 ≤ Y) :
    ∀ k ≤ ts.length, ∀ i, (marksF ps rs t q b k i).num.natAbs ≤ X * X * Y ∧ (marksF ps rs t q b k i).den ≤ X * X := by
  have gp := h.gp (t := t)
  have tp := h.tp (t := t)
  have fq := h.fresh_ent ht (e := q) (by omega)
  have ft := h.fresh_tot ht
  rw [h.rest_pad ht hq] at fq
  obtain ⟨G, eG⟩ : ∃ G : Int, G = (gcdL (restP ps rs t ++ [(totP ps rs t : Int)]) : Int) := ⟨_, rfl⟩
  rw [← eG] at fq ft
  rw [show totP ps rs t = tot ps rs t from h.tot_pad ht _] at ft
  have g0 : G ≠ 0 := by omega
  have f0 : ent (freshOf ps rs t) q ≠ 0 := fun z => by rw [z, Int.mul_zero] at fq; exact hr fq.symm
  have xx : X ≤ X * X := Nat.le_mul_of_pos_left X hX1
  have xy : X * Y ≤ X * X * Y := Nat.mul_le_mul_right Y xx
  have e0 : mk0 ps rs t q b = Rat.divInt (b * ent (freshOf ps rs t) (w + ts.length)) (ent (freshOf ps rs t) q) := by
    refine divInt_same hr f0 ?_
    rw [← ft, ← fq]
    grind
  have b0 : (mk0 ps rs t q b).num.natAbs ≤ X * X * Y ∧ (mk0 ps rs t q b).den ≤ X * X := by
    rw [e0]
    obtain ⟨h1, h2⟩ := divInt_le (b * ent (freshOf ps rs t) (w + ts.length)) f0
    refine ⟨Nat.le_trans h1 ?_, Nat.le_trans h2 (Nat.le_trans (hF q) xx)⟩
    rw [Int.natAbs_mul, Nat.mul_comm]
    exact Nat.le_trans (Nat.mul_le_mul (hF _) hb) xy
  intro k
  induction k with
  | zero =>
    intro _ i
    show (if i = q then _ else (0 : Rat)).num.natAbs ≤ _ ∧ (if i = q then _ else (0 : Rat)).den ≤ _
    by_cases c : i = q
    · rw [if_pos c]; exact b0
    · rw [if_neg c]; exact ⟨Nat.zero_le _, Nat.mul_le_mul hX1 hX1⟩
  | succ k ih =>
    intro hk i
    show (if i = piv ps k then mkP ps rs t q b k else marksF ps rs t q b k i).num.natAbs ≤ _ ∧ (if i = piv ps k then mkP ps rs t q b k else marksF ps rs t q b k i).den ≤ _
    by_cases c : i = piv ps k
    · rw [if_pos c]
      have rp := h.on k (by omega)
      have e1 : mkP ps rs t q b k = Rat.divInt (-ent (row rs k) q * b * ent (freshOf ps rs t) (w + ts.length)) (ent (row rs k) (piv ps k) * ent (freshOf ps rs t) q) := by
        refine divInt_same (Int.mul_ne_zero rp hr) (Int.mul_ne_zero rp f0) ?_
        rw [← ft, ← fq]
        grind
      rw [e1]
      obtain ⟨h1, h2⟩ := divInt_le (-ent (row rs k) q * b * ent (freshOf ps rs t) (w + ts.length)) (Int.mul_ne_zero rp f0)
      have hk' : k < ts.length := by omega
      refine ⟨Nat.le_trans h1 ?_, Nat.le_trans h2 ?_⟩
      · rw [Int.natAbs_mul, Int.natAbs_mul, Int.natAbs_neg]
        have := Nat.mul_le_mul (Nat.mul_le_mul (hX k hk' q) hb) (hF (w + ts.length))
        rw [show X * Y * X = X * X * Y by rw [Nat.mul_assoc, Nat.mul_comm Y X, ← Nat.mul_assoc]] at this
        exact this
      · rw [Int.natAbs_mul]
        exact Nat.mul_le_mul (hX k hk' _) (hF q)
    · rw [if_neg c]
      exact ih (by omega) i
end
end SQ
set_option Elab.async false
set_option linter.all false
set_option maxRecDepth 100000
set_option maxHeartbeats 8000000
/-! k39: the class Span: put, marks -/
namespace KN
open PySem PySem.Spec PyProof.Rows L2 GxR NdefX GA SL ZN RZ
open SQ (ent gcdL prL elimOf usedOf totOf tot wtOf stepOf restOf row piv padOf totP restP freshOf putRows mk0 mkP marksF)
theorem dv_set {M : List Addr} {H : Hp} {v : V} {d : PyData} (hv : Dv M H v d) : ∀ {xs : List V} {ds : List PyData} (i : Nat), DvAll M H xs ds → DvAll M H (xs.set i v) (ds.set i d)
  | _, _, _, .nil => .nil
  | _, _, 0, .cons _ t => .cons hv t
  | _, _, i + 1, .cons r t => .cons r (dv_set hv i t)
theorem set_range {α : Type} {n i : Nat} {f : Nat → α} {d : α} : ((List.range n).map f).set i d = (List.range n).map fun j => if j = i then d else f j := by
  refine List.ext_getElem (by simp) fun j h1 h2 => ?_
  rw [List.getElem_set]
  by_cases c : i = j
  · rw [if_pos c]; simp [c]
  · rw [if_neg c]; simp [show ¬ j = i from fun z => c z.symm]
theorem ixN_at {n j : Nat} (hj : j < n) : ixN n (j : Int) = some j := by
  unfold ixN
  rw [if_pos (by omega), if_pos (by omega), Int.toNat_natCast]
/-- what a vector of ratios must be -/
structure VecOk (w B : Nat) (xs : List (Int × Int)) : Prop where
  l : xs.length = w
  pos : ∀ r ∈ xs, 1 ≤ r.2
  low : lcms xs < 2 ^ 9000
  num : ∀ r ∈ xs, r.1.natAbs < 2 ^ 9000
  b : ∀ e, (ent (tops xs) e).natAbs ≤ B
theorem VecOk.len {w B : Nat} {xs : List (Int × Int)} (h : VecOk w B xs) : (tops xs).length = w := by rw [tops, List.length_map]; exact h.l
abbrev s_put : Stmt := inClass s_Span 2
abbrev s_weights : Stmt := inClass s_Span 5
abbrev s_marks : Stmt := inClass s_Span 7
theorem sc_put : FnScope ["self", "vector", "tops", "bottom"] ["self", "vector"] (defScope s_put) := ⟨rfl, rfl, rfl, by decide +kernel, rfl, by decide +kernel, by decide +kernel⟩
theorem sc_weights : FnScope ["self", "vector", "tops", "bottom"] ["self", "vector"] (defScope s_weights) := ⟨rfl, rfl, rfl, by decide +kernel, rfl, by decide +kernel, by decide +kernel⟩
abbrev NMK : List Str := ["self", "vector", "tops", "bottom", "total", "rest", "place", "marks", "pivot", "row"]
theorem sc_marks : FnScope NMK ["self", "vector"] (defScope s_marks) := ⟨rfl, rfl, rfl, by decide +kernel, rfl, by decide +kernel, by decide +kernel⟩
def sp_put (T : List Addr) (C : Addr) : Sp := fun vs H Q _ => ∃ (p lp lr lb : Addr) (w m B : Nat) (ts : List (List Int)) (ps : List Nat) (rs : List (List Int)) (bs : List Int) (Ex M : List Addr) (v : V) (xs : List (Int × Int)), vs = [.ref p, v] ∧ SpanX C H p lp lr lb w ps rs bs Ex ∧ (∀ b ∈ Ex, H b ≠ none) ∧ Kp w m B ts ps rs ∧ Dv M H v (rowR xs) ∧ VecOk w B xs ∧ bs.length ≤ 4000 ∧ Tabs T H ∧
  (∀ H', Go T [] H H' → Tabs T H' → (∀ e < w, ent (restP ps rs (tops xs)) e = 0) → Q (.bl false) H') ∧
  (∀ lr' q H', H lr' = none → Go T [p, lp, lb] H H' → Tabs T H' → q < w → ent (restP ps rs (tops xs)) q ≠ 0 → (∀ e < q, ent (restP ps rs (tops xs)) e = 0) → SpanX C H' p lp lr' lb w (ps ++ [q]) (putRows ps rs (tops xs) q) (bs ++ [((lcms xs : Nat) : Int)]) Ex → Q (.bl true) H')
def sp_weights (T : List Addr) (C : Addr) : Sp := fun vs H Q _ => ∃ (p lp lr lb : Addr) (w m B : Nat) (ts : List (List Int)) (ps : List Nat) (rs : List (List Int)) (bs : List Int) (M : List Addr) (v : V) (xs : List (Int × Int)), vs = [.ref p, v] ∧ SpanAt C H p lp lr lb w ps rs bs ∧ Kp w m B ts ps rs ∧ Dv M H v (rowR xs) ∧ VecOk w B xs ∧ bs.length = ts.length ∧ Sh bs ∧ Tabs T H ∧
  (∀ q H', Go T [] H H' → Tabs T H' → q < w → ent (restP ps rs (tops xs)) q ≠ 0 → Q .non H') ∧
  (∀ u H', Go T [] H H' → Tabs T H' → (∀ e < w, ent (restP ps rs (tops xs)) e = 0) → Dv [] H' u (rowQ (wtsQ w ps rs bs (tops xs) (lcms xs : Nat))) → Q u H')
def sp_marks (T : List Addr) (C : Addr) : Sp := fun vs H Q _ => ∃ (p lp lr lb : Addr) (w m B : Nat) (ts : List (List Int)) (ps : List Nat) (rs : List (List Int)) (bs : List Int) (M : List Addr) (v : V) (xs : List (Int × Int)), vs = [.ref p, v] ∧ SpanAt C H p lp lr lb w ps rs bs ∧ Kp w m B ts ps rs ∧ Dv M H v (rowR xs) ∧ VecOk w B xs ∧ (∃ e < w, ent (restOf ps rs (tops xs)) e ≠ 0) ∧ Tabs T H ∧
  ∀ u q H', Go T [] H H' → Tabs T H' → q < w → ent (restOf ps rs (tops xs)) q ≠ 0 → (∀ e < q, ent (restOf ps rs (tops xs)) e = 0) → Dv [] H' u (rowQ ((List.range w).map (marksF ps rs (tops xs) q (lcms xs : Nat) ts.length))) → Q u H'
section
variable {P : Program} {w : World} {K : PySem.W.Frag} {mg : Str → Option Value} {base : Heap} {f C : Addr} {fd : FuncData} {T : List Addr}
theorem ok_put (F : Fun K "put" "Span.put" s_put f fd) (SC : SpC K C) (Fs : Fnn P w K mg base CX0 33 "scaled" ["ratios"] (sp_scaled T)) (Mp : Mth P w K mg base CX0 C 35 "put_scaled" ["self", "tops", "bottom"] (sp_put_scaled T C)) : FnOk P w K mg base CX0 36 f fd ["self", "vector"] (sp_put T C) := by
  refine F.ok sc_put (fun vs H Q E h => ?_) (fun cdv A outer s H vs Q E hr h => ?_)
  · obtain ⟨_, _, _, _, _, _, _, _, _, _, _, _, _, _, _, rfl, _⟩ := h
    rfl
  have nd := sc_put.nd
  have nn : ∀ b : Addr, b ∉ ([] : List Addr) := fun b => List.not_mem_nil
  obtain ⟨p, lp, lr, lb, wd, m, Bd, ts, ps, rs, bs, Ex, M, v, xs, rfl, hS, hEx, hK, hv, hV, hbs, ht, q1, q2⟩ := h
  have hl := hV.l
  have h48 := hK.w48
  refine ⟨_, pss_cons (ps_asg (pe_fn Fs hr (by decide) pass0 (pa_cons (pv 1) pa_nil)) (pg_tup rfl (pgs_cons (pg_name (i := 2) nd rfl (.inl rfl)) (pgs_cons (pg_name (i := 3) nd rfl (.inl rfl)) pgs_nil))))
    (pss_one (ps_ret (pe_mth SC.c Mp hr (by decide) pass0 (pv 0) (pa_cons (pv 2) (pa_cons (pv 3) pa_nil))))), ?_⟩
  refine ⟨_, rfl, M, v, xs, rfl, hv, by omega, hV.pos, hV.low, hV.num, ht, fun r l H1 hr0 hl0 er el g1 t1 => ?_⟩
  refine ⟨r, _, rfl, SqT.of er, rfl, _, _, rfl, _, _, rfl, rfl, ?_⟩
  have S1 := hS.go g1
  obtain ⟨dx1, eP1⟩ := S1.ob
  refine ⟨_, rfl, p, dx1, _, rfl, eP1, rfl, _, rfl, _, rfl, p, lp, lr, lb, wd, m, Bd, ts, ps, rs, bs, Ex, _, tops xs, _, rfl, S1, (fun b hb z => hEx b hb (g1.al _ z)), hK, ints_dv el (nn _), hV.len, hV.b, hbs, t1, fun H2 g2 t2 z => q1 H2 (g1.trans g2) t2 z, fun lr' q H2 h0 g2 t2 a1 a2 a3 a4 => q2 lr' q H2 (g1.al _ h0) (g1.of0.trans g2) t2 a1 a2 a3 a4⟩
theorem ok_weights (F : Fun K "weights" "Span.weights" s_weights f fd) (SC : SpC K C) (Fs : Fnn P w K mg base CX0 33 "scaled" ["ratios"] (sp_scaled T)) (Mp : Mth P w K mg base CX0 C 34 "weights_of_scaled" ["self", "tops", "bottom"] (sp_weights_of T C)) : FnOk P w K mg base CX0 35 f fd ["self", "vector"] (sp_weights T C) := by
  refine F.ok sc_weights (fun vs H Q E h => ?_) (fun cdv A outer s H vs Q E hr h => ?_)
  · obtain ⟨_, _, _, _, _, _, _, _, _, _, _, _, _, _, rfl, _⟩ := h
    rfl
  have nd := sc_weights.nd
  have nn : ∀ b : Addr, b ∉ ([] : List Addr) := fun b => List.not_mem_nil
  obtain ⟨p, lp, lr, lb, wd, m, Bd, ts, ps, rs, bs, M, v, xs, rfl, hS, hK, hv, hV, hbs, hsb, ht, q1, q2⟩ := h
  have hl := hV.l
  have h48 := hK.w48
  have lp0 := lcms_pos hV.pos
  refine ⟨_, pss_cons (ps_asg (pe_fn Fs hr (by decide) pass0 (pa_cons (pv 1) pa_nil)) (pg_tup rfl (pgs_cons (pg_name (i := 2) nd rfl (.inl rfl)) (pgs_cons (pg_name (i := 3) nd rfl (.inl rfl)) pgs_nil))))
    (pss_one (ps_ret (pe_mth SC.c Mp hr (by decide) pass0 (pv 0) (pa_cons (pv 2) (pa_cons (pv 3) pa_nil))))), ?_⟩
  refine ⟨_, rfl, M, v, xs, rfl, hv, by omega, hV.pos, hV.low, hV.num, ht, fun r l H1 hr0 hl0 er el g1 t1 => ?_⟩
  refine ⟨r, _, rfl, SqT.of er, rfl, _, _, rfl, _, _, rfl, rfl, ?_⟩
  have S1 := hS.go g1
  obtain ⟨dx1, eP1⟩ := S1.ob
  refine ⟨_, rfl, p, dx1, _, rfl, eP1, rfl, _, rfl, _, rfl, p, lp, lr, lb, wd, m, Bd, ts, ps, rs, bs, [], _, tops xs, _, rfl, S1, hK, ints_dv el (nn _), hV.len, hV.b, hbs, hsb, by omega, by simpa using hV.low, t1, fun q H2 g2 t2 a b => q1 q H2 (g1.trans g2) t2 a b, fun u H2 g2 t2 a b => q2 u H2 (g1.trans g2) t2 a b⟩
theorem ok_marks (F : Fun K "marks" "Span.marks" s_marks f fd) (SC : SpC K C) (B : Bl mg) (hz : mg "zip" = none) (Fs : Fnn P w K mg base CX0 33 "scaled" ["ratios"] (sp_scaled T)) (Mr : Mth P w K mg base CX0 C 33 "_rest" ["self", "tops"] (sp_rest T C)) (Mp : Mth P w K mg base CX0 C 1 "_first_place" ["self", "entries"] (sp_first C))
    (Fr : Fnn P w K mg base CX0 33 "ratio_of" ["top", "bottom"] sp_ratio_of) : FnOk P w K mg base CX0 34 f fd ["self", "vector"] (sp_marks T C) := by
  refine F.ok sc_marks (fun vs H Q E h => ?_) (fun cdv A outer s H vs Q E hr h => ?_)
  · obtain ⟨_, _, _, _, _, _, _, _, _, _, _, _, _, _, rfl, _⟩ := h
    rfl
  have nd := sc_marks.nd
  have nn : ∀ b : Addr, b ∉ ([] : List Addr) := fun b => List.not_mem_nil
  obtain ⟨p, lp, lr, lb, wd, m, Bd, ts, ps, rs, bs, M, v, xs, rfl, hS, hK, hv, hV, hne, ht, q1⟩ := h
  have hl := hV.l
  have h48 := hK.w48
  have lp0 := lcms_pos hV.pos
  refine ⟨_, pss_cons (ps_asg (pe_fn Fs hr (by decide) pass0 (pa_cons (pv 1) pa_nil)) (pg_tup rfl (pgs_cons (pg_name (i := 2) nd rfl (.inl rfl)) (pgs_cons (pg_name (i := 3) nd rfl (.inl rfl)) pgs_nil))))
    (pss_cons (ps_asg (pe_mth SC.c Mr hr (by decide) pass0 (pv 0) (pa_cons (pv 2) pa_nil)) (pg_tup rfl (pgs_cons (pg_name (i := 4) nd rfl (.inl rfl)) (pgs_cons (pg_name (i := 5) nd rfl (.inl rfl)) pgs_nil))))
    (pss_cons (ps_set (i := 6) nd rfl (.inl rfl) (pe_mth SC.c Mp hr (by decide) pass0 (pv 0) (pa_cons (pv 5) pa_nil)))
    (pss_cons (ps_set (i := 7) nd rfl (.inl rfl) (pe_op op_rep (pe_lst (pa_cons (pe_tup (pa_cons pe_int (pa_cons pe_int pa_nil))) pa_nil)) (pe_fld (pv 0) rfl)))
    (pss_cons (ps_asg (pe_fn Fr hr (by decide) pass0 (pa_cons (pe_op op_mulW (pv 3) (pv 4)) (pa_cons (pe_ix ix_list (pv 5) (pv 6) (fun _ _ => rfl)) pa_nil))) (pg_sub (pv 7) (pv 6) set_list))
    (pss_cons (ps_for PassesOwn.never rfl (pi_zipA (by rfl) hz (pa_cons (pe_fld (pv 0) rfl) (pa_cons (pe_fld (pv 0) rfl) pa_nil))) (pg_tup rfl (pgs_cons (pg_name (i := 8) nd rfl (.inl rfl)) (pgs_cons (pg_name (i := 9) nd rfl (.inl rfl)) pgs_nil)))
      (pss_one (ps_asg (pe_fn Fr hr (by decide) pass0 (pa_cons (pe_op op_mulW (pe_op op_mulW (pe_un un_neg (pe_ix ix_list (pv 9) (pv 6) (fun _ _ => rfl))) (pv 3)) (pv 4)) (pa_cons (pe_op op_mulW (pe_ix ix_list (pv 9) (pv 8) (fun _ _ => rfl)) (pe_ix ix_list (pv 5) (pv 6) (fun _ _ => rfl))) pa_nil))) (pg_sub (pv 7) (pv 8) set_list))))
    (pss_one (ps_ret (pe_tupleOf rfl B.tuple (pv 7))))))))), ?_⟩
  refine ⟨_, rfl, M, v, xs, rfl, hv, by omega, hV.pos, hV.low, hV.num, ht, fun r l H1 hr0 hl0 er el g1 t1 => ?_⟩
  refine ⟨r, _, rfl, SqT.of er, rfl, _, _, rfl, _, _, rfl, rfl, ?_⟩
  have S1 := hS.go g1
  obtain ⟨dx1, eP1⟩ := S1.ob
  have ltp := hV.len
  have fit : Fit ps rs (tops xs) := hK.fit (by omega) (by omega) hV.b
  have rlt := hK.rest_lt ltp hV.b
  have rlt' : ∀ e < wd, (ent (restOf ps rs (tops xs)) e).natAbs < 2 ^ 220000 := fun e he => by
    rw [← hK.sp.rest_pad ltp he]; exact rlt e
  have tlt := fit.tot
  have lrest : (restOf ps rs (tops xs)).length = wd := by rw [hK.sp.rest_len (by omega)]; exact ltp
  have blt := hV.low
  refine ⟨_, rfl, p, dx1, _, rfl, eP1, rfl, _, rfl, p, lp, lr, lb, wd, ps, rs, bs, [], _, tops xs, rfl, S1, ints_dv el (nn _), fit, t1, fun r2 l2 H2 hr2 hl2 er2 el2 g2 t2 => ?_⟩
  refine ⟨r2, _, rfl, SqT.of er2, rfl, _, _, rfl, _, _, rfl, rfl, ?_⟩
  have S2 := S1.go g2
  obtain ⟨dx2, eP2⟩ := S2.ob
  refine ⟨_, rfl, p, dx2, _, rfl, eP2, rfl, _, rfl, p, lp, lr, lb, wd, ps, rs, bs, [], _, restOf ps rs (tops xs), rfl, S2, ints_dv el2 (nn _), by omega, by omega, fun q hq hq0 hqf => ?_, fun hz0 => ?_⟩
  case refine_2 =>
    obtain ⟨e, he, h0⟩ := hne
    exact absurd (hz0 e he) h0
  have g02 := g1.trans g2
  obtain ⟨rvs, er2v, dr2⟩ := S2.rw
  have lrv := dr2.length
  rw [List.length_map] at lrv
  have hlp := hK.sp.lp
  have hlr := hK.sp.lr
  have hll := hK.sp.len_le
  refine ⟨by show 2 ≤ sizeLine; decide, fun z hz0 => ?_⟩
  have g3 := Go.new (T := T) (M := []) (o := .tup [V.int 0, V.int 1]) hz0
  have ez : upd H2 z (.tup [V.int 0, V.int 1]) z = some (.tup [V.int 0, V.int 1]) := upd_same
  have g03 := g02.trans g3
  have t3 := g3.tb t2
  have S3 := S2.go g3
  have el3 := g3.lst el2 (nn _)
  generalize upd H2 z (.tup [V.int 0, V.int 1]) = H3 at *
  refine ⟨by show 1 ≤ sizeLine; decide, fun z2 hz2 => ?_⟩
  have g4 := Go.new (T := T) (M := []) (o := .lst [V.ref z]) hz2
  have ez2 : upd H3 z2 (.lst [V.ref z]) z2 = some (.lst [V.ref z]) := upd_same
  have g04 := g03.trans g4
  have t4 := g4.tb t3
  have S4 := S3.go g4
  have el4 := g4.lst el3 (nn _)
  have ez4 := g4.tup ez (nn _)
  generalize upd H3 z2 (.lst [V.ref z]) = H4 at *
  obtain ⟨dx4, eP4⟩ := S4.ob
  refine ⟨_, rfl, p, C, dx4, _, _, rfl, eP4, SC.c, SC.w, rfl, z2, _, _, rfl, rfl, ez2, by omega, by omega, by rw [sizeLine_eq]; simp; omega, fun L hL => ?_⟩
  rw [Int.toNat_natCast]
  have nzL : z ∉ [L] := fun y => by rw [← List.mem_singleton.mp y, ez4] at hL; cases hL
  have g5 := Go.new (T := T) (M := []) (o := .lst (List.replicate wd [V.ref z]).flatten) hL
  have eL5 : upd H4 L (.lst (List.replicate wd [V.ref z]).flatten) L = some (.lst (List.replicate wd [V.ref z]).flatten) := upd_same
  have da5 : DvAll [L] (upd H4 L (.lst (List.replicate wd [V.ref z]).flatten)) (List.replicate wd [V.ref z]).flatten ((List.range wd).map fun _ => rat ((0 : Rat).num) ((0 : Rat).den : Int)) := by
    have h1 : DvAll [L] (upd H4 L (.lst (List.replicate wd [V.ref z]).flatten)) [V.ref z] [rat 0 1] := .cons (.tup (g5.tup ez4 (nn _)) nzL (.cons (.int 0) (.cons (.int 1) .nil))) .nil
    have h2 := h1.rep wd
    have e : (List.replicate wd [rat 0 1]).flatten = (List.range wd).map fun _ => rat ((0 : Rat).num) ((0 : Rat).den : Int) := by
      rw [List.flatten_replicate_singleton]
      refine List.ext_getElem (by simp) fun i h1 h2 => ?_
      simp
    rwa [e] at h2
  have t5 := g5.tb t4
  have el5 := g5.lst el4 (nn _)
  have l5 : (List.replicate wd [V.ref z]).flatten.length = wd := by simp
  generalize (List.replicate wd [V.ref z]).flatten = ys5 at *
  generalize upd H4 L (.lst ys5) = H5 at *
  refine ⟨_, rfl, _, rfl, _, _, rfl, rfl, wide_mul (a := 9000) (b := 200000) (by simpa using blt) (by simpa using tlt) (by decide) (by decide) (by decide), _, rfl, _, rfl, l2, _, (q : Int), _, rfl, rfl, SqL.of el5, atI_nat (get_ints (by omega)), ?_⟩
  refine ⟨_, _, rfl, hq0, fun P1 hP1 => ?_⟩
  have g6 := Go.new (T := T) (M := [L]) (o := .tup [V.int (Rat.divInt ((lcms xs : Nat) * (tot ps rs (tops xs) : Nat)) (ent (restOf ps rs (tops xs)) q)).num, V.int ((Rat.divInt ((lcms xs : Nat) * (tot ps rs (tops xs) : Nat)) (ent (restOf ps rs (tops xs)) q)).den : Int)]) hP1
  have g6' := Go.new (T := T) (M := []) (o := .tup [V.int (Rat.divInt ((lcms xs : Nat) * (tot ps rs (tops xs) : Nat)) (ent (restOf ps rs (tops xs)) q)).num, V.int ((Rat.divInt ((lcms xs : Nat) * (tot ps rs (tops xs) : Nat)) (ent (restOf ps rs (tops xs)) q)).den : Int)]) hP1
  have eL6 := g6'.lst eL5 (nn _)
  have da6 := da5.go g6
  have t6 := g6.tb t5
  have nP1 : P1 ∉ [L] := fun y => by rw [List.mem_singleton.mp y, eL5] at hP1; cases hP1
  have dv6 : Dv [L] (upd H5 P1 (.tup [V.int (Rat.divInt ((lcms xs : Nat) * (tot ps rs (tops xs) : Nat)) (ent (restOf ps rs (tops xs)) q)).num, V.int ((Rat.divInt ((lcms xs : Nat) * (tot ps rs (tops xs) : Nat)) (ent (restOf ps rs (tops xs)) q)).den : Int)])) (.ref P1) (rat (mk0 ps rs (tops xs) q (lcms xs : Nat)).num (mk0 ps rs (tops xs) q (lcms xs : Nat)).den) := .tup upd_same nP1 (.cons (.int _) (.cons (.int _) .nil))
  have g56 := g5.trans g6'
  generalize upd H5 P1 (.tup [V.int (Rat.divInt ((lcms xs : Nat) * (tot ps rs (tops xs) : Nat)) (ent (restOf ps rs (tops xs)) q)).num, V.int ((Rat.divInt ((lcms xs : Nat) * (tot ps rs (tops xs) : Nat)) (ent (restOf ps rs (tops xs)) q)).den : Int)]) = H6 at *
  refine ⟨_, rfl, _, rfl, L, _, (q : Int), q, rfl, rfl, eL6, ixN_at (by omega), ?_⟩
  have g7 := Go.set (T := T) (M := [L]) (o := .lst (ys5.set q (.ref P1))) eL6 (fun _ z => by cases z) (List.mem_singleton.mpr rfl)
  have eL7 : upd H6 L (.lst (ys5.set q (.ref P1))) L = some (.lst (ys5.set q (.ref P1))) := upd_same
  have da7 : DvAll [L] (upd H6 L (.lst (ys5.set q (.ref P1)))) (ys5.set q (.ref P1)) ((List.range wd).map fun i => rat (marksF ps rs (tops xs) q (lcms xs : Nat) 0 i).num (marksF ps rs (tops xs) q (lcms xs : Nat) 0 i).den) := by
    have h1 := (dv_set dv6 q da6).go g7
    rw [set_range] at h1
    have e : (fun i => rat (marksF ps rs (tops xs) q (lcms xs : Nat) 0 i).num (marksF ps rs (tops xs) q (lcms xs : Nat) 0 i).den) = fun j => if j = q then rat (mk0 ps rs (tops xs) q (lcms xs : Nat)).num (mk0 ps rs (tops xs) q (lcms xs : Nat)).den else rat ((0 : Rat).num) ((0 : Rat).den : Int) := by
      funext j
      show rat (if j = q then mk0 ps rs (tops xs) q (lcms xs : Nat) else 0).num (if j = q then mk0 ps rs (tops xs) q (lcms xs : Nat) else 0).den = _
      split <;> rfl
    rw [e]
    exact h1
  have t7 := g7.tb t6
  have l7 : (ys5.set q (.ref P1)).length = wd := by rw [List.length_set]; exact l5
  generalize ys5.set q (.ref P1) = ys7 at *
  have g47 : Go T [] H4 (upd H6 L (.lst ys7)) := (g56.of0.trans g7).cut fun b hb => .inr (by rw [List.mem_singleton.mp hb]; exact hL)
  generalize upd H6 L (.lst ys7) = H7 at *
  clear g5 g6 g6' g7 g56 eL5 eL6 da5 da6 dv6 t5 t6
  have S7 := S4.go g47
  obtain ⟨dx7, eP7⟩ := S7.ob
  obtain ⟨rvs4, er4, dr4⟩ := S4.rw
  have lrv4 := dr4.length
  rw [List.length_map] at lrv4
  have er7 := g47.lst er4 (nn _)
  have el47 := el4
  refine ⟨_, rfl, p, C, dx7, _, _, rfl, eP7, SC.c, SC.p, rfl, _, rfl, p, C, dx7, _, _, rfl, eP7, SC.c, SC.r, rfl, lp, lr, _, _, rfl, .inl ⟨SqL.of S7.pv, SqL.of er7, ?_⟩⟩
  have wk := walkZL (K := K) (a := lp) (b := lr) (xs := natV ps) (ys := rvs4) (by rw [List.length_map, lrv4, hlr, hlp])
  rw [List.length_map, hlp] at wk
  refine for_it wk (fun k σ H' => Go T [] H4 H' ∧ Tabs T H' ∧ ∃ p8 p9 ys, σ = [some (.ref p), some v, some (.ref l), some (.int (lcms xs : Nat)), some (.int (tot ps rs (tops xs) : Nat)), some (.ref l2), some (.int (q : Int)), some (.ref L), p8, p9] ∧ H' L = some (.lst ys) ∧ ys.length = wd ∧
      DvAll [L] H' ys ((List.range wd).map fun i => rat (marksF ps rs (tops xs) q (lcms xs : Nat) k i).num (marksF ps rs (tops xs) q (lcms xs : Nat) k i).den)) ⟨g47, t7, none, none, ys7, rfl, eL7, l7, da7⟩
    (fun k σ H' _ ⟨g8, _⟩ => ⟨SqL.of (g8.lst S4.pv (nn _)), SqL.of (g8.lst er4 (nn _))⟩) (fun k x σ H8 H9 hk h y => ?_) (fun σ H8 h => ?_)
  · obtain ⟨g8, t8, p8, p9, ys, rfl, eL8, ly, da8⟩ := h
    obtain ⟨z', x', y', rfl, hn, rfl, ex, ey'⟩ := y
    have ex' : (natV ps)[k]? = some (.int (piv ps k : Int)) := by rw [List.getElem?_map, List.getElem?_eq_getElem (show k < ps.length by omega), SQ.piv_get (show k < ps.length by omega)] <;> rfl
    rw [ex] at ex'
    cases ex'
    obtain ⟨d, ed, hx⟩ := (dr4.go g8.of0).get ey'
    rw [List.getElem?_map, List.getElem?_eq_getElem (show k < rs.length by omega)] at ed
    cases ed
    rw [← SQ.row_get (show k < rs.length by omega)] at hx
    obtain ⟨ra, rfl, era, nra⟩ := dv_ints hx
    have g9 := Go.new (T := T) (M := []) (o := .tup [V.int (piv ps k : Int), .ref ra]) hn
    have ez9 : upd H8 z' (.tup [V.int (piv ps k : Int), .ref ra]) z' = some (.tup [V.int (piv ps k : Int), .ref ra]) := upd_same
    have g49 := g8.trans g9
    have era9 := g9.lst era (nn _)
    have el9 := g49.lst el4 (nn _)
    have eL9 := g9.lst eL8 (nn _)
    have da9 := da8.go g9.of0
    have t9 := g9.tb t8
    generalize upd H8 z' (.tup [V.int (piv ps k : Int), .ref ra]) = H9 at *
    have hpk := hK.sp.piv_lt hk
    have rl := hK.sp.row_len hk
    have rb := fun e => pow4 (hK.rowB hk e)
    have m1 : ∀ e, (-ent (row rs k) e * ((lcms xs : Nat) : Int)).natAbs < 2 ^ 18000 := fun e => by
      rw [Int.natAbs_mul, Int.natAbs_neg]
      have := Nat.mul_lt_mul'' (rb e) blt
      rw [← Nat.pow_add] at this
      simpa using this
    refine ⟨z', _, rfl, SqT.of ez9, rfl, _, _, rfl, _, _, rfl, rfl, ?_⟩
    refine ⟨_, rfl, _, rfl, ra, _, (q : Int), _, rfl, rfl, SqL.of era9, atI_nat (get_ints (by omega)), _, rfl, _, rfl, _, _, rfl, rfl, wide_mul (a := 9000) (b := 9000) (by rw [Int.natAbs_neg]; exact rb q) (by simpa using blt) (by decide) (by decide) (by decide), _, rfl, _, _, rfl, rfl, wide_mul (a := 18000) (b := 200000) (m1 q) (by simpa using tlt) (by decide) (by decide) (by decide), ?_⟩
    refine ⟨_, rfl, _, rfl, ra, _, (piv ps k : Int), _, rfl, rfl, SqL.of era9, atI_nat (get_ints (by omega)), _, rfl, _, rfl, l2, _, (q : Int), _, rfl, rfl, SqL.of el9, atI_nat (get_ints (by omega)), _, _, rfl, rfl, wide_mul (a := 9000) (b := 220000) (rb _) (rlt' q hq) (by decide) (by decide) (by decide), ?_⟩
    refine ⟨_, _, rfl, Int.mul_ne_zero (hK.sp.on k hk) hq0, fun P1 hP1 => ?_⟩
    have e0 : Rat.divInt (-ent (row rs k) q * ((lcms xs : Nat) : Int) * ((tot ps rs (tops xs) : Nat) : Int)) (ent (row rs k) (piv ps k) * ent (restOf ps rs (tops xs)) q) = mkP ps rs (tops xs) q (lcms xs : Nat) k := rfl
    rw [e0]
    have g10 := Go.new (T := T) (M := []) (o := .tup [V.int (mkP ps rs (tops xs) q (lcms xs : Nat) k).num, V.int ((mkP ps rs (tops xs) q (lcms xs : Nat) k).den : Int)]) hP1
    have eL10 := g10.lst eL9 (nn _)
    have da10 := da9.go g10.of0
    have t10 := g10.tb t9
    have nP1 : P1 ∉ [L] := fun y => by rw [List.mem_singleton.mp y, eL9] at hP1; cases hP1
    have dv10 : Dv [L] (upd H9 P1 (.tup [V.int (mkP ps rs (tops xs) q (lcms xs : Nat) k).num, V.int ((mkP ps rs (tops xs) q (lcms xs : Nat) k).den : Int)])) (.ref P1) (rat (mkP ps rs (tops xs) q (lcms xs : Nat) k).num (mkP ps rs (tops xs) q (lcms xs : Nat) k).den) := .tup upd_same nP1 (.cons (.int _) (.cons (.int _) .nil))
    have g410 := g49.trans g10
    generalize upd H9 P1 (.tup [V.int (mkP ps rs (tops xs) q (lcms xs : Nat) k).num, V.int ((mkP ps rs (tops xs) q (lcms xs : Nat) k).den : Int)]) = H10 at *
    refine ⟨_, rfl, _, rfl, L, _, (piv ps k : Int), piv ps k, rfl, rfl, eL10, ixN_at (by omega), ?_⟩
    have g11 := Go.set (T := T) (M := [L]) (o := .lst (ys.set (piv ps k) (.ref P1))) eL10 (fun _ z => by cases z) (List.mem_singleton.mpr rfl)
    refine ⟨(g410.of0.trans g11).cut fun b hb => .inr (by rw [List.mem_singleton.mp hb]; exact hL), g11.tb t10, _, _, _, rfl, upd_same, by rw [List.length_set]; exact ly, ?_⟩
    have h1 := (dv_set dv10 (piv ps k) da10).go g11
    rw [set_range] at h1
    have e : (fun i => rat (marksF ps rs (tops xs) q (lcms xs : Nat) (k + 1) i).num (marksF ps rs (tops xs) q (lcms xs : Nat) (k + 1) i).den) = fun j => if j = piv ps k then rat (mkP ps rs (tops xs) q (lcms xs : Nat) k).num (mkP ps rs (tops xs) q (lcms xs : Nat) k).den else rat (marksF ps rs (tops xs) q (lcms xs : Nat) k j).num (marksF ps rs (tops xs) q (lcms xs : Nat) k j).den := by
      funext j
      show rat (if j = piv ps k then mkP ps rs (tops xs) q (lcms xs : Nat) k else marksF ps rs (tops xs) q (lcms xs : Nat) k j).num (if j = piv ps k then mkP ps rs (tops xs) q (lcms xs : Nat) k else marksF ps rs (tops xs) q (lcms xs : Nat) k j).den = _
      split <;> rfl
    rw [e]
    exact h1
  · obtain ⟨g8, t8, p8, p9, ys, rfl, eL8, ly, da8⟩ := h
    refine ⟨_, rfl, .inl ⟨L, ys, rfl, SqL.of eL8, fun R hR => ?_⟩⟩
    have u := Go.new (T := T) (M := []) (o := .tup ys) hR
    refine q1 _ q _ ((g04.trans g8).trans u) (u.tb t8) hq hq0 hqf (.tup upd_same (nn _) ?_)
    have e : (prs ((List.range wd).map (marksF ps rs (tops xs) q (lcms xs : Nat) ts.length))).map (fun r => rat r.1 r.2) = (List.range wd).map fun i => rat (marksF ps rs (tops xs) q (lcms xs : Nat) ts.length i).num (marksF ps rs (tops xs) q (lcms xs : Nat) ts.length i).den := by
      unfold prs
      rw [List.map_map, List.map_map]
      rfl
    rw [e]
    exact (da8.less (M' := []) (by simp)).go u
end
end KN
set_option Elab.async false
set_option linter.all false
set_option maxRecDepth 100000
set_option maxHeartbeats 8000000
/-! k41: _law_cup, _law_sip -/
namespace KN
open PySem PySem.Spec PyProof.Rows L2 GxR NdefX GA SL ZN RZ
abbrev s_law_cup : Stmt := top 23
abbrev s_law_sip : Stmt := top 24
theorem sc_law_cup : FnScope ["script", "blend", "cell"] ["script"] (defScope s_law_cup) := ⟨rfl, rfl, rfl, by decide +kernel, rfl, by decide +kernel, by decide +kernel⟩
theorem sc_law_sip : FnScope ["cup", "many", "size", "drawn"] ["cup", "many"] (defScope s_law_sip) := ⟨rfl, rfl, rfl, by decide +kernel, rfl, by decide +kernel, by decide +kernel⟩
/-- the cup at a, its cells at l; drawn at most k times behind them -/
def CupAt (a l : Addr) (H : Hp) (k : Int) : Prop := ∃ (ns : List Int) (z s c : Int), a ≠ l ∧ H a = some (.lst [.int z, .int s, .int c, .ref l]) ∧ H l = some (.lst (ns.map V.int)) ∧ 0 ≤ z ∧ 0 ≤ s ∧ s < 2147483648 ∧ 0 ≤ c ∧ c ≤ k
def sp_cup (K : PySem.W.Frag) (T : List Addr) : Sp := fun vs H Q _ => ∃ (b : Addr) (ns : List Int), vs = [.ref b] ∧ SqL K H b (ns.map V.int) ∧ ns.length ≤ 1000000 ∧ Tabs T H ∧ ∀ a l H', H a = none → H l = none → CupAt a l H' 0 → Go T [] H H' → Tabs T H' → Q (.ref a) H'
def sp_sip (T : List Addr) : Sp := fun vs H Q _ => ∃ (a l : Addr) (k many : Int), vs = [.ref a, .int many] ∧ 0 < many ∧ many.natAbs < 2 ^ 8000 ∧ k ≤ 1099511627776 ∧ CupAt a l H k ∧ Tabs T H ∧ ∀ i H', 0 ≤ i → i < many → CupAt a l H' (k + 1) → Go T [a, l] H H' → Tabs T H' → Q (.int i) H'
section
variable {P : Program} {w : World} {K : PySem.W.Frag} {mg : Str → Option Value} {base : Heap} {f c CK CN CT CR : Addr} {fd : FuncData} {T : List Addr}
theorem ok_law_cup (F : Fun K "_law_cup" "_law_cup" s_law_cup f fd) (B : Bl mg) : FnOk P w K mg base CX0 1 f fd ["script"] (sp_cup K T) := by
  have nd := sc_law_cup.nd
  refine F.ok sc_law_cup (fun vs H Q E h => ?_) (fun cdv A outer s H vs Q E hr h => ?_)
  · obtain ⟨_, _, rfl, _⟩ := h
    rfl
  obtain ⟨b, ns, rfl, hb, hl, ht, q⟩ := h
  have nn : ∀ b : Addr, b ∉ ([] : List Addr) := fun b => List.not_mem_nil
  refine ⟨_, (pss_cons (ps_set (i := 1) nd rfl (Or.inl rfl) pe_int)
    (pss_cons (ps_for PassesOwn.never rfl (pi_list (pv 0)) (pg_name (i := 2) nd rfl (Or.inl rfl))
    (pss_one (ps_set (i := 1) nd rfl (Or.inl rfl) (pe_op op_add (pe_op op_mod (pe_toInt B (pe_op op_add (pe_op op_mul (pv 1) pe_int) (pv 2))) pe_int) pe_int))))
    (pss_one (ps_ret (pe_lst (pa_cons pe_int (pa_cons (pv 1) (pa_cons pe_int (pa_cons (pe_toList B (pv 0)) pa_nil)))))))))
    , ?_⟩
  refine ⟨_, rfl, b, rfl, ⟨_, hb⟩, ?_⟩
  refine for_it (n := (ns.map V.int).length) walk_list (fun i σ H' => H' = H ∧ ∃ (s : Int) (p : Option V), σ = [some (.ref b), some (.int s), p] ∧ 0 ≤ s ∧ s < 2147483648) ⟨rfl, 1, none, rfl, by decide, by decide⟩ (fun i σ H' _ h => by rw [h.1]; exact hb) (fun i x σ H' H'' hi h y => ?_) (fun σ H' h => ?_)
  · obtain ⟨rfl, s1, p, rfl, a1, a2⟩ := h
    obtain ⟨rfl, ex⟩ := y
    rw [List.getElem?_map] at ex
    obtain ⟨z, _, rfl⟩ := Option.map_eq_some_iff.mp ex
    refine ⟨_, rfl, _, _, rfl, rfl, .inl ⟨by omega, by omega⟩, _, rfl, _, _, rfl, rfl, .inl ⟨_, rfl, _, _, rfl, rfl, (show (0 : Int) < 2147483629 by decide), _, _, rfl, rfl, ?_⟩⟩
    have b1 := Int.emod_nonneg (s1 * 31 + z) (show (2147483629 : Int) ≠ 0 by decide)
    have b2 := Int.emod_lt_of_pos (s1 * 31 + z) (show (0 : Int) < 2147483629 by decide)
    exact ⟨rfl, _, _, rfl, by omega, by omega⟩
  obtain ⟨rfl, s1, p, rfl, a1, a2⟩ := h
  refine ⟨_, rfl, _, rfl, b, _, rfl, .inl hb, fun l hl' => ?_⟩
  have gl := Go.new (T := T) (M := []) (o := .lst (ns.map V.int)) hl'
  refine ⟨by show 4 ≤ sizeLine; decide, fun p hp => ?_⟩
  have gn := Go.new (T := T) (M := []) (o := .lst [.int 0, .int s1, .int 0, .ref l]) hp
  exact q p l _ (gl.al _ hp) hl' ⟨ns, 0, s1, 0, (ne_of_none (upd_same (H := H') (a := l)) hp).symm, upd_same, gn.lst upd_same (nn _), by decide, a1, a2, by decide, by decide⟩ (gl.trans gn) ((gl.trans gn).tb ht)
theorem ok_law_sip (F : Fun K "_law_sip" "_law_sip" s_law_sip f fd) (B : Bl mg) (habs : mg "abs" = none) : FnOk P w K mg base CX0 1 f fd ["cup", "many"] (sp_sip T) := by
  have nd := sc_law_sip.nd
  refine F.ok sc_law_sip (fun vs H Q E h => ?_) (fun cdv A outer s H vs Q E hr h => ?_)
  · obtain ⟨_, _, _, _, rfl, _⟩ := h
    rfl
  obtain ⟨a, l, k, many, rfl, m1, m2, hk, ⟨ns, z0, s0, c0, hal, ea, el, z1, s1, s2, c1, c2⟩, ht, q⟩ := h
  have nn : ∀ b : Addr, b ∉ ([] : List Addr) := fun b => List.not_mem_nil
  have hu : (A.deeper (envOfC "_law_sip" (defScope s_law_sip) s.heap.objs.size f cdv)).units < cLine := by
    have := hr.un
    omega
  refine ⟨_, (pss_cons (ps_if (PW.pt (pw_and (pt_cmpR op_eq (pe_ix ix_list (pv 0) pe_int (fun _ _ => rfl)) pe_int (nomark _)) (pw_and1 (pt_cmpR (op_neNil hu) (pe_ix ix_list (pv 0) pe_int (fun _ _ => rfl)) (pe_lst pa_nil) (nomark _)))))
      (pss_cons (ps_set (i := 2) nd rfl (Or.inl rfl) (pe_callB call_abs rfl habs (by decide +kernel) (pa_cons (pe_toInt B (pe_bm PySem.F.plainAttrs_list PySem.F.slot_list_pop PySem.F.type_list_pop mt_popAt (pe_ix ix_list (pv 0) pe_int (fun _ _ => rfl)) (pa_cons pe_int pa_nil))) pa_nil) (by decide) (by decide)))
      (pss_one (ps_asg (pe_ifExp (pt_cmpR op_ge (pv 2) (pe_op op_pow pe_int pe_int) (nomark _)) (pv 2) (pe_op op_add (pe_op op_mul (pe_op op_fdiv (pe_op op_mul (pv 2) (pv 2)) pe_int) pe_int) (pv 2))) (pg_sub (pv 0) pe_int set_list)))) pss_nil)
    (pss_cons (ps_if (pt_cmpR op_gt (pe_ix ix_list (pv 0) pe_int (fun _ _ => rfl)) pe_int (nomark _)) (pss_cons (ps_set (i := 3) nd rfl (Or.inl rfl) (pe_op op_mod (pe_toInt B (pe_ix ix_list (pv 0) pe_int (fun _ _ => rfl))) (pv 1)))
      (pss_cons (ps_asg (pe_op op_fdivW (pe_ix ix_list (pv 0) pe_int (fun _ _ => rfl)) (pv 1)) (pg_sub (pv 0) pe_int set_list))
      (pss_one (ps_ret (pv 3))))) pss_nil)
    (pss_cons (ps_asg (pe_op op_add (pe_ix ix_list (pv 0) pe_int (fun _ _ => rfl)) pe_int) (pg_sub (pv 0) pe_int set_list))
    (pss_cons (ps_asg (pe_op op_mod (pe_toInt B (pe_op op_add (pe_op op_add (pe_op op_mul (pe_ix ix_list (pv 0) pe_int (fun _ _ => rfl)) pe_int) (pe_op op_mul (pe_op op_mul (pe_ix ix_list (pv 0) pe_int (fun _ _ => rfl)) (pe_ix ix_list (pv 0) pe_int (fun _ _ => rfl))) pe_int)) pe_int)) pe_int) (pg_sub (pv 0) pe_int set_list))
    (pss_one (ps_ret (pe_op op_mod (pe_op op_fdiv (pe_op op_mod (pe_toInt B (pe_op op_mul (pe_ix ix_list (pv 0) pe_int (fun _ _ => rfl)) (pe_op op_add (pe_op op_fdiv (pe_ix ix_list (pv 0) pe_int (fun _ _ => rfl)) pe_int) pe_int))) pe_int) pe_int) (pv 1)))))))), ?_⟩
  have ma : a ∈ [a, l] := by simp
  have ml : l ∈ [a, l] := by simp
  refine ⟨_, rfl, a, _, 0, _, rfl, rfl, SqL.of ea, rfl, rfl, _, rfl, ?_⟩
  by_cases hz : z0 = 0
  case' neg =>
    refine if_false_of (decide_eq_false (fun e => hz (by injection e))) (iteF ?_)
    obtain ⟨ns', EL⟩ : ∃ ns' : List Int, H l = some (.lst (ns'.map V.int)) := ⟨ns, el⟩
    have E := ea
    have G : Go T [a, l] H H := Go.refl
    have Z := z1
    obtain ⟨zz, hzz⟩ : ∃ zz : Int, zz = z0 := ⟨_, rfl⟩
  case' pos =>
    subst hz
    refine if_true_of (by rfl) ?_
    refine ⟨_, rfl, a, _, 3, _, rfl, rfl, SqL.of ea, rfl, by show 0 ≤ sizeLine; omega, fun e1 he1 => ?_⟩
    have g1 : Go T [a, l] H (upd H e1 (.lst [])) := Go.new he1
    have na : a ≠ e1 := ne_of_none ea he1
    have nl : l ≠ e1 := ne_of_none el he1
    have ea1 : upd H e1 (.lst []) a = some (.lst [.int 0, .int s0, .int c0, .ref l]) := by rw [upd_ne na]; exact ea
    have el1 : upd H e1 (.lst []) l = some (.lst (ns.map V.int)) := by rw [upd_ne nl]; exact el
    refine ⟨l, e1, ns.map V.int, rfl, rfl, .inl ⟨SqL.of el1, SqL.of upd_same⟩, _, rfl, ?_⟩
    rcases ns with _ | ⟨x, r⟩
    case' nil =>
      refine iteF ?_
      obtain ⟨ns', EL⟩ : ∃ ns' : List Int, upd H e1 (.lst []) l = some (.lst (ns'.map V.int)) := ⟨[], el1⟩
      have E := ea1
      have G := g1
      have Z := z1
      obtain ⟨zz, hzz⟩ : ∃ zz : Int, zz = 0 := ⟨_, rfl⟩
    case' cons =>
      refine iteT ?_
      have hix : ixN ((x :: r).map V.int).length 0 = some 0 := by
        unfold ixN
        rw [if_pos (by decide), if_pos (by rw [List.length_map, List.length_cons]; omega)] <;> rfl
      refine ⟨_, rfl, a, _, 3, _, rfl, rfl, SqL.of ea1, rfl, .inl ⟨rfl, _, SqL.of el1⟩, l, _, 0, 0, .int x, rfl, rfl, el1, by decide, by decide, (ixN_seq hix).1, rfl, .inl ⟨_, rfl, _, rfl, ?_⟩⟩
      have g2 := g1.trans (Go.set (T := T) (M := [a, l]) (o := .lst (r.map V.int)) el1 (fun _ z => by cases z) ml)
      have ea2 : upd (upd H e1 (.lst [])) l (.lst (r.map V.int)) a = some (.lst [.int 0, .int s0, .int c0, .ref l]) := by rw [upd_ne hal]; exact ea1
      have sx : 0 ≤ (if x < 0 then -x else x) := by split <;> omega
      generalize (if x < 0 then -x else x) = sz at sx ⊢
      refine ⟨_, rfl, _, _, rfl, rfl, ⟨by decide, by decide, by decide⟩, _, _, rfl, rfl, _, rfl, ?_⟩
      by_cases hs : (1000000000000000000 : Int) ≤ sz
      case' pos =>
        refine if_true_of (decide_eq_true (show (10 : Int) ^ ((18 : Int).toNat) ≤ sz from hs)) ?_
        refine ⟨_, rfl, _, rfl, a, _, 0, 0, rfl, rfl, ea2, rfl, ?_⟩
        have G := g2.trans (Go.set (T := T) (M := [a, l]) (o := .lst [.int sz, .int s0, .int c0, .ref l]) ea2 (fun _ z => by cases z) ma)
        have E : upd (upd (upd H e1 (.lst [])) l (.lst (r.map V.int))) a (.lst [.int sz, .int s0, .int c0, .ref l]) a = some (.lst [.int sz, .int s0, .int c0, .ref l]) := upd_same
        obtain ⟨ns', EL⟩ : ∃ ns' : List Int, upd (upd (upd H e1 (.lst [])) l (.lst (r.map V.int))) a (.lst [.int sz, .int s0, .int c0, .ref l]) l = some (.lst (ns'.map V.int)) := ⟨r, by rw [upd_ne hal.symm]; exact upd_same⟩
        have Z := sx
        obtain ⟨zz, hzz⟩ : ∃ zz : Int, zz = sz := ⟨_, rfl⟩
      case' neg =>
        refine if_false_of (decide_eq_false (show ¬ (10 : Int) ^ ((18 : Int).toNat) ≤ sz from hs)) ?_
        have w1 : 0 ≤ sz * sz / 97 := Int.ediv_nonneg (Int.mul_nonneg sx sx) (by decide)
        refine ⟨_, rfl, _, rfl, _, _, rfl, rfl, .inl ⟨by omega, by omega⟩, _, _, rfl, rfl, ⟨by decide, by decide⟩, _, _, rfl, rfl, .inr ⟨by decide, by decide⟩, _, rfl, _, _, rfl, rfl, _, rfl, a, _, 0, 0, rfl, rfl, ea2, rfl, ?_⟩
        have sx : 0 ≤ sz * sz / 97 * 48271 + sz := by omega
        have G := g2.trans (Go.set (T := T) (M := [a, l]) (o := .lst [.int (sz * sz / 97 * 48271 + sz), .int s0, .int c0, .ref l]) ea2 (fun _ z => by cases z) ma)
        have E : upd (upd (upd H e1 (.lst [])) l (.lst (r.map V.int))) a (.lst [.int (sz * sz / 97 * 48271 + sz), .int s0, .int c0, .ref l]) a = some (.lst [.int (sz * sz / 97 * 48271 + sz), .int s0, .int c0, .ref l]) := upd_same
        obtain ⟨ns', EL⟩ : ∃ ns' : List Int, upd (upd (upd H e1 (.lst [])) l (.lst (r.map V.int))) a (.lst [.int (sz * sz / 97 * 48271 + sz), .int s0, .int c0, .ref l]) l = some (.lst (ns'.map V.int)) := ⟨r, by rw [upd_ne hal.symm]; exact upd_same⟩
        have Z := sx
        obtain ⟨zz, hzz⟩ : ∃ zz : Int, zz = (sz * sz / 97 * 48271 + sz) := ⟨_, rfl⟩
  all_goals
    refine ⟨_, rfl, a, _, 0, _, rfl, rfl, SqL.of E, rfl, _, _, rfl, rfl, _, rfl, ?_⟩
    by_cases hp : 0 < zz
    · subst hzz
      refine if_true_of (decide_eq_true hp) ?_
      refine ⟨_, rfl, a, _, 0, _, rfl, rfl, SqL.of E, rfl, .inl ⟨_, rfl, _, rfl, _, _, rfl, rfl, m1, ?_⟩⟩
      refine ⟨_, rfl, a, _, 0, _, rfl, rfl, SqL.of E, rfl, _, rfl, _, _, rfl, rfl, wide_div m1 m2 (by decide) (by decide), _, rfl, a, _, 0, 0, rfl, rfl, E, rfl, _, rfl, ?_⟩
      refine q _ _ (Int.emod_nonneg _ (by omega)) (Int.emod_lt_of_pos _ m1) ⟨ns', _, s0, c0, hal, upd_same, by rw [upd_ne hal.symm]; exact EL, Int.ediv_nonneg Z (by omega), s1, s2, c1, by omega⟩ (G.trans (Go.set E (fun _ z => by cases z) ma)) ((G.trans (Go.set E (fun _ z => by cases z) ma)).tb ht)
    · subst hzz
      refine if_false_of (decide_eq_false hp) ?_
      refine ⟨_, rfl, a, _, 2, _, rfl, rfl, SqL.of E, rfl, _, _, rfl, rfl, _, rfl, a, _, 2, 2, rfl, rfl, E, rfl, ?_⟩
      have ub : ∀ {X : Hp} {o : HO}, upd X a o a = some o := fun {X o} => upd_same
      refine ⟨_, rfl, a, _, 1, _, rfl, rfl, SqL.of upd_same, rfl, _, _, rfl, rfl, .inl ⟨by omega, by omega⟩, ?_⟩
      refine ⟨_, rfl, a, _, 2, _, rfl, rfl, SqL.of upd_same, rfl, _, rfl, a, _, 2, _, rfl, rfl, SqL.of upd_same, rfl, _, _, rfl, rfl, .inl ⟨by omega, by omega⟩, _, _, rfl, rfl, .inr ⟨by decide, by decide⟩, _, _, rfl, rfl, _, _, rfl, rfl, .inl ⟨_, rfl, _, _, rfl, rfl, (show (0 : Int) < 2147483647 by decide), _, rfl, a, _, 1, 1, rfl, rfl, upd_same, rfl, ?_⟩⟩
      have b1 := Int.emod_nonneg (s0 * 16807 + (c0 + 1) * (c0 + 1) * 4099 + 77) (show (2147483647 : Int) ≠ 0 by decide)
      have b2 := Int.emod_lt_of_pos (s0 * 16807 + (c0 + 1) * (c0 + 1) * 4099 + 77) (show (0 : Int) < 2147483647 by decide)
      refine ⟨_, rfl, a, _, 1, _, rfl, rfl, SqL.of upd_same, rfl, _, rfl, a, _, 1, _, rfl, rfl, SqL.of upd_same, rfl, _, _, rfl, rfl, ⟨by decide, by decide⟩, _, _, rfl, rfl, _, _, rfl, rfl, .inl ⟨by omega, by omega⟩, .inl ⟨_, rfl, _, _, rfl, rfl, (show (0 : Int) < 2147483629 by decide), _, _, rfl, rfl, ⟨by decide, by decide⟩, _, rfl, _, _, rfl, rfl, m1, ?_⟩⟩
      refine q _ _ (Int.emod_nonneg _ (by omega)) (Int.emod_lt_of_pos _ m1) ⟨ns', _, _, _, hal, upd_same, by rw [upd_ne hal.symm, upd_ne hal.symm]; exact EL, Z, b1, by omega, (show 0 ≤ c0 + 1 by omega), by omega⟩ ((G.trans (Go.set E (fun _ z => by cases z) ma)).trans (Go.set upd_same (fun _ z => by cases z) ma)) (((G.trans (Go.set E (fun _ z => by cases z) ma)).trans (Go.set upd_same (fun _ z => by cases z) ma)).tb ht)
end
end KN
set_option Elab.async false
set_option linter.all false
set_option maxRecDepth 100000
set_option maxHeartbeats 8000000
/-! k39: _law_ratio, _law_total, _law_equals -/
namespace KN
open PySem PySem.Spec PyProof.Rows L2 GxR NdefX GA SL ZN RZ
abbrev s_law_ratio : Stmt := top 26
abbrev s_law_total : Stmt := top 29
abbrev s_law_equals : Stmt := top 30
theorem sc_law_ratio : FnScope ["top", "bottom", "common", "other"] ["top", "bottom"] (defScope s_law_ratio) := ⟨rfl, rfl, rfl, by decide +kernel, rfl, by decide +kernel, by decide +kernel⟩
theorem sc_law_total : FnScope ["ones", "others", "top", "bottom", "k", "low"] ["ones", "others"] (defScope s_law_total) := ⟨rfl, rfl, rfl, by decide +kernel, rfl, by decide +kernel, by decide +kernel⟩
theorem sc_law_equals : FnScope ["total", "ratio"] ["total", "ratio"] (defScope s_law_equals) := ⟨rfl, rfl, rfl, by decide +kernel, rfl, by decide +kernel, by decide +kernel⟩
/-- the place of a list or tuple -/
def rIxX (K : PySem.W.Frag) : R2 := fun x y H Q => ∃ p xs i z, x = .ref p ∧ y = .int i ∧ (SqL K H p xs ∨ SqT K H p xs) ∧ atI xs i = some z ∧ Q z H
theorem ix_x {X : Cx} : IxR X (rIxX X.K) := by
  intro value slice pins s σ H x y v u Q I rx ry h hs
  refine (ix_list.or ix_tup) (value := value) (slice := slice) pins s σ H x y v u Q I rx ry ?_ hs
  obtain ⟨p, xs, i, z, e1, e2, e3, e4, q⟩ := h
  rcases e3 with e3 | e3
  · exact .inl ⟨p, xs, i, z, e1, e2, e3, e4, q⟩
  · exact .inr ⟨p, xs, i, z, e1, e2, e3, e4, q⟩
abbrev rats (qs : List Rat) : List PyData := (prs qs).map fun r => rat r.1 r.2
/-- ratios in a list or tuple -/
def DvS (M : List Addr) (H : Hp) (v : V) (qs : List Rat) : Prop := Dv M H v (.tuple (rats qs)) ∨ Dv M H v (.list (rats qs))
theorem DvS.at {K : PySem.W.Frag} {M : List Addr} {H : Hp} {v : V} {qs : List Rat} (h : DvS M H v qs) : ∃ (a : Addr) (xs : List V), v = .ref a ∧ (∀ {T : List Addr} {H' : Hp}, Go T [] H H' → SqL K H' a xs ∨ SqT K H' a xs) ∧ DvAll M H xs (rats qs) := by
  rcases h with h | h
  · obtain ⟨a, xs, rfl, ea, na, dx⟩ := dv_tup h
    exact ⟨a, xs, rfl, fun g => .inr (SqT.of (g.tup ea List.not_mem_nil)), dx⟩
  · cases h with
    | @lst a xs ds ea na dx => exact ⟨a, xs, rfl, fun g => .inl (SqL.of (g.lst ea List.not_mem_nil)), dx⟩
theorem DvS.go {M : List Addr} {H H' : Hp} {v : V} {qs : List Rat} {T : List Addr} (h : DvS M H v qs) (g : Go T M H H') : DvS M H' v qs := h.imp (fun d => d.go g) fun d => d.go g
theorem DvS.less {M M' : List Addr} {H : Hp} {v : V} {qs : List Rat} (h : DvS M H v qs) (s : ∀ b ∈ M', b ∈ M) : DvS M' H v qs := h.imp (fun d => d.less s) fun d => d.less s
/-- short: the bottom is at most D, the top at most N -/
def Bl' (D N : Nat) (q : Rat) : Prop := q.den ≤ D ∧ q.num.natAbs ≤ N
def sp_lratio : Sp := fun vs H Q _ => ∃ t b : Int, vs = [.int t, .int b] ∧ 0 < b ∧ ∀ T, H T = none → Q (.ref T) (upd H T (.tup [.int (Rat.divInt t b).num, .int ((Rat.divInt t b).den : Int)]))
def sp_total (T : List Addr) : Sp := fun vs H Q _ => ∃ (M1 M2 : List Addr) (v1 v2 : V) (qs ps : List Rat) (D1 N1 D2 N2 : Nat), vs = [v1, v2] ∧ DvS M1 H v1 qs ∧ DvS M2 H v2 ps ∧ qs.length = ps.length ∧ qs.length ≤ 48 ∧ (∀ q ∈ qs, Bl' D1 N1 q) ∧ (∀ q ∈ ps, Bl' D2 N2 q) ∧
  1 ≤ D1 ∧ 1 ≤ D2 ∧ D1 * D2 < 2 ^ 18000 ∧ N1 < 2 ^ 40000 ∧ N2 < 2 ^ 40000 ∧ Tabs T H ∧ ∀ p t b H', H p = none → Go T [] H H' → Tabs T H' → H' p = some (.tup [.int t, .int b]) → 0 < b → b.natAbs < 2 ^ 865000 → t.natAbs < 2 ^ 950000 → Rat.divInt t b = dotQ qs ps → Q (.ref p) H'
def sp_equals : Sp := fun vs H Q _ => ∃ (p r : Addr) (t b : Int) (x y : Int), vs = [.ref p, .ref r] ∧ H p = some (.tup [.int t, .int b]) ∧ H r = some (.tup [.int x, .int y]) ∧ b.natAbs < 2 ^ 865000 ∧ t.natAbs < 2 ^ 950000 ∧ x.natAbs < 2 ^ 40000 ∧ y.natAbs < 2 ^ 40000 ∧ Q (.bl (decide (t * y = x * b))) H
/-- the i-th ratio of a row -/
theorem rat_at {M : List Addr} {H : Hp} {xs : List V} {qs : List Rat} {i : Nat} (h : DvAll M H xs ((prs qs).map fun r => rat r.1 r.2)) (hi : i < qs.length) : ∃ r : Addr, xs[i]? = some (.ref r) ∧ H r = some (.tup [.int (qs.getD i 0).num, .int ((qs.getD i 0).den : Int)]) ∧ r ∉ M := by
  have e : ((prs qs).map fun r => rat r.1 r.2)[i]? = some (rat qs[i].num qs[i].den) := by
    rw [prs, List.map_map, List.getElem?_map, List.getElem?_eq_getElem hi]
    rfl
  obtain ⟨x, ex, dx⟩ := h.getD e
  obtain ⟨r, vx, vy, rfl, er, nr, hvx, hvy⟩ := dv_pair dx
  cases hvx
  cases hvy
  rw [List.getD_eq_getElem?_getD, List.getElem?_eq_getElem hi]
  exact ⟨r, ex, er, nr⟩
theorem pow_le_of {D k : Nat} (h : D < 2 ^ 18000) (hk : k ≤ 48) : D ^ k ≤ 2 ^ 864000 := by
  refine Nat.le_trans (Nat.pow_le_pow_left (Nat.le_of_lt h) k) ?_
  rw [← Nat.pow_mul]
  exact Nat.pow_le_pow_right (by decide) (by omega)
theorem Tot.small {D N1 N2 k : Nat} {qs ps : List Rat} {t b : Int} (h : Tot D (N1 * N2) k qs ps t b) (hk : k ≤ 48) (hD : D < 2 ^ 18000) (h1 : N1 < 2 ^ 40000) (h2 : N2 < 2 ^ 40000) : b.natAbs < 2 ^ 865000 ∧ t.natAbs < 2 ^ 950000 := by
  have p := pow_le_of hD hk
  have hb := h.b
  have ht := h.t
  refine ⟨Nat.lt_of_le_of_lt (Nat.le_trans hb p) (Nat.pow_lt_pow_right (by decide) (by decide)), ?_⟩
  have n12 : N1 * N2 < 2 ^ 40000 * 2 ^ 40000 := Nat.mul_lt_mul'' h1 h2
  rw [← Nat.pow_add] at n12
  have a1 : N1 * N2 * D ^ k ≤ 2 ^ 80000 * 2 ^ 864000 := Nat.mul_le_mul (Nat.le_of_lt n12) p
  have a2 : k * (N1 * N2 * D ^ k) ≤ 2 ^ 6 * (2 ^ 80000 * 2 ^ 864000) := Nat.mul_le_mul (Nat.le_trans hk (by decide)) a1
  rw [← Nat.pow_add, ← Nat.pow_add] at a2
  exact Nat.lt_of_le_of_lt (Nat.le_trans ht a2) (Nat.pow_lt_pow_right (by decide) (by decide))
section
variable {P : Program} {w : World} {K : PySem.W.Frag} {mg : Str → Option Value} {base : Heap} {f c CK CN CT CR : Addr} {fd : FuncData} {T : List Addr}
theorem ok_law_ratio (F : Fun K "_law_ratio" "_law_ratio" s_law_ratio f fd) (B : Bl mg) (habs : mg "abs" = none) (hN : base.NoSeer) (hT : P.given.tree = none) : FnOk P w K mg base CX0 33 f fd ["top", "bottom"] sp_lratio := by
  have nd := sc_law_ratio.nd
  refine F.ok sc_law_ratio (fun vs H Q E h => ?_) (fun cdv A outer s H vs Q E hr h => ?_)
  · obtain ⟨_, _, rfl, _⟩ := h
    rfl
  obtain ⟨t, b, rfl, h0, q⟩ := h
  have S : Seer (cxOf CX0 P w K mg base ["top", "bottom", "common", "other"] "_law_ratio" (defScope s_law_ratio) f cdv A outer s H E).nox := seer_mk (by decide) hN hT hr
  refine ⟨_, pss_cons (ps_par (i := 2) (j := 3) rfl nd rfl rfl (by decide) rfl rfl (pa_cons (pe_callB call_abs rfl habs (by decide +kernel) (pa_cons (pv 1) pa_nil) (by decide) (by decide)) (pa_cons (pe_callB call_abs rfl habs (by decide +kernel) (pa_cons (pv 0) pa_nil) (by decide) (by decide)) pa_nil)) rfl)
    (pss_cons (ps_while PassesOwn.never (pt_cmpR op_gt (pv 3) pe_int (nomark _)) (pss_one (ps_par (i := 2) (j := 3) rfl nd rfl rfl (by decide) rfl rfl (pa_cons (pv 3) (pa_cons (pe_op op_mod (pe_toInt B (pv 2)) (pv 3)) pa_nil)) rfl)))
    (pss_cons (ps_if (pt_cmpR op_lt (pv 1) pe_int (nomark _)) (pss_one (ps_set (i := 2) nd rfl (.inl rfl) (pe_un un_neg (pv 2)))) pss_nil)
    (pss_one (ps_ret (pe_tup (pa_cons (pe_op (op_fdivP S) (pv 0) (pv 2)) (pa_cons (pe_op (op_fdivP S) (pv 1) (pv 2)) pa_nil))))))), ?_⟩
  refine ⟨_, rfl, _, rfl, _, rfl, _, rfl, _, _, rfl, ?_⟩
  have eb : (if b < 0 then -b else b) = ((b.natAbs : Nat) : Int) := by split <;> omega
  have et : (if t < 0 then -t else t) = ((t.natAbs : Nat) : Int) := by split <;> omega
  rw [eb, et]
  refine ⟨fun m σ H' => ∃ (c o : Nat), m = o ∧ H' = H ∧ σ = [some (.int t), some (.int b), some (.int (c : Int)), some (.int (o : Int))] ∧ Nat.gcd c o = Nat.gcd t.natAbs b.natAbs, ⟨_, b.natAbs, t.natAbs, rfl, rfl, rfl, Nat.gcd_comm _ _⟩, ?_⟩
  rintro m σ H' ⟨c, o, rfl, rfl, rfl, hg⟩
  refine ⟨_, rfl, _, _, rfl, rfl, _, rfl, ?_⟩
  by_cases ho : 0 < m
  · refine if_true_of (decide_eq_true (by omega)) ?_
    refine ⟨fun σ' H'' => H'' = H' ∧ σ' = [some (.int t), some (.int b), some (.int (m : Int)), some (.int ((c % m : Nat) : Int))], fun σ' H'' ⟨e1, e2⟩ => ⟨c % m, Nat.mod_lt _ ho, m, c % m, rfl, e1, e2, ?_⟩, ?_⟩
    · rw [← hg, Nat.gcd_comm m (c % m), ← Nat.gcd_rec, Nat.gcd_comm]
    · exact ⟨_, rfl, _, rfl, .inl ⟨_, rfl, _, rfl, _, _, rfl, rfl, (by show (0 : Int) < (m : Int); omega), _, _, rfl, rfl, rfl⟩⟩
  · refine if_false_of (decide_eq_false (by omega)) ?_
    have hm : m = 0 := by omega
    subst hm
    rw [Nat.gcd_zero_right] at hg
    subst hg
    have hp : 0 < Nat.gcd t.natAbs b.natAbs := Nat.gcd_pos_of_pos_right _ (by omega)
    have hle : Nat.gcd t.natAbs b.natAbs ≤ b.natAbs := Nat.gcd_le_right _ (by omega)
    obtain ⟨a1, a2⟩ := Prod.mk.inj (low_of (t := t) h0)
    refine ⟨_, rfl, _, _, rfl, rfl, _, rfl, ?_⟩
    refine if_false_of (decide_eq_false (by omega)) ?_
    have cd : ((Nat.gcd t.natAbs b.natAbs : Nat) : Int) ≠ 0 := by omega
    rw [← fdiv_dvd (gcd_dvd_l t b)] at a1
    rw [← fdiv_dvd (gcd_dvd_r t b)] at a2
    refine ⟨_, rfl, _, rfl, _, _, rfl, rfl, cd, _, rfl, _, rfl, _, _, rfl, rfl, cd, ?_⟩
    refine ⟨by show 2 ≤ sizeLine; decide, fun p hp => ?_⟩
    have z := q p hp
    rw [← a1, ← a2] at z
    exact z
theorem ok_law_total (F : Fun K "_law_total" "_law_total" s_law_total f fd) (B : Bl mg) : FnOk P w K mg base CX0 1 f fd ["ones", "others"] (sp_total T) := by
  have nd := sc_law_total.nd
  refine F.ok sc_law_total (fun vs H Q E h => ?_) (fun cdv A outer s H vs Q E hr h => ?_)
  · obtain ⟨_, _, _, _, _, _, _, _, _, _, rfl, _⟩ := h
    rfl
  obtain ⟨M1, M2, v1, v2, qs, ps, D1, N1, D2, N2, rfl, hv1, hv2, hl, hl48, hb1, hb2, hD1, hD2, hDD, hN1, hN2, tT, q⟩ := h
  refine ⟨_, pss_cons (ps_asg (pe_tup (pa_cons pe_int (pa_cons pe_int pa_nil))) (pg_tup rfl (pgs_cons (pg_name (i := 2) nd rfl (.inl rfl)) (pgs_cons (pg_name (i := 3) nd rfl (.inl rfl)) pgs_nil))))
    (pss_cons (ps_for PassesOwn.never rfl (pi_range1 rfl B.range (pa_cons (pe_lenq B (pv 0)) pa_nil)) (pg_name (i := 4) nd rfl (.inl rfl))
      (pss_one (ps_if (PW.pt (pw_and (pt_cmpR op_ne (pe_ix ix_tup (pe_ix ix_x (pv 0) (pv 4) (fun _ _ => rfl)) pe_int (fun _ _ => rfl)) pe_int (nomark _)) (pw_and1 (pt_cmpR op_ne (pe_ix ix_tup (pe_ix ix_x (pv 1) (pv 4) (fun _ _ => rfl)) pe_int (fun _ _ => rfl)) pe_int (nomark _)))))
        (pss_cons (ps_set (i := 5) nd rfl (.inl rfl) (pe_op op_mulW (pe_ix ix_tup (pe_ix ix_x (pv 0) (pv 4) (fun _ _ => rfl)) pe_int (fun _ _ => rfl)) (pe_ix ix_tup (pe_ix ix_x (pv 1) (pv 4) (fun _ _ => rfl)) pe_int (fun _ _ => rfl))))
        (pss_one (ps_par (i := 2) (j := 3) rfl nd rfl rfl (by decide) rfl rfl (pa_cons (pe_op op_add (pe_op op_mulW (pv 2) (pv 5)) (pe_op op_mulW (pe_op op_mulW (pe_ix ix_tup (pe_ix ix_x (pv 0) (pv 4) (fun _ _ => rfl)) pe_int (fun _ _ => rfl)) (pe_ix ix_tup (pe_ix ix_x (pv 1) (pv 4) (fun _ _ => rfl)) pe_int (fun _ _ => rfl))) (pv 3))) (pa_cons (pe_op op_mulW (pv 3) (pv 5)) pa_nil)) rfl))) pss_nil)))
    (pss_one (ps_ret (pe_tup (pa_cons (pv 2) (pa_cons (pv 3) pa_nil)))))), ?_⟩
  obtain ⟨a, xs, rfl, sa, dx⟩ := hv1.at (K := K)
  obtain ⟨a2, ys, rfl, sa2, dy⟩ := hv2.at (K := K)
  have lx := dx.length
  rw [List.length_map, prs, List.length_map] at lx
  refine ⟨by show 2 ≤ sizeLine; decide, fun p0 hp0 => ?_⟩
  refine ⟨p0, _, rfl, SqT.of upd_same, rfl, _, _, rfl, _, _, rfl, rfl, ?_⟩
  have g0 := Go.new (T := T) (M := []) (o := .tup [.int 0, .int 1]) hp0
  have ea0 := sa g0
  have ea20 := sa2 g0
  have dx0 := dx.go g0.of0
  have dy0 := dy.go g0.of0
  have t0 := g0.tb tT
  have l48 : xs.length ≤ 48 := by omega
  generalize upd H p0 (.tup [.int 0, .int 1]) = H0 at *
  refine ⟨_, rfl, a, xs, rfl, ea0, ?_⟩
  refine ⟨_, rfl, by omega, by omega, ?_⟩
  refine for_it (walk_range (lo := 0) (n := (((xs.length : Nat) : Int).toNat))) (fun k σ H' => H' = H0 ∧ ∃ (t b : Int) (p4 p5 : Option V), σ = [some (.ref a), some (.ref a2), some (.int t), some (.int b), p4, p5] ∧ Tot (D1 * D2) (N1 * N2) k qs ps t b)
    ⟨rfl, 0, 1, none, none, rfl, Tot.zero⟩ (fun _ _ _ _ _ => trivial) (fun k x σ H3 H4 hk h y => ?_) (fun σ H3 h => ?_)
  · obtain ⟨rfl, t, b, p4, p5, rfl, ht⟩ := h
    obtain ⟨rfl, ey⟩ := y
    have ey2 : x = V.int (k : Int) := by rw [ey]; show V.int (0 + (k : Int)) = _; rw [Int.zero_add]
    clear ey
    subst ey2
    rw [Int.toNat_natCast, lx] at hk
    obtain ⟨r1, ex1, er1, _⟩ := rat_at dx0 hk
    obtain ⟨r2, ex2, er2, _⟩ := rat_at dy0 (show k < ps.length by omega)
    have eq1 : qs[k]? = some (qs.getD k 0) := by rw [List.getD_eq_getElem?_getD, List.getElem?_eq_getElem hk] <;> rfl
    have eq2 : ps[k]? = some (ps.getD k 0) := by rw [List.getD_eq_getElem?_getD, List.getElem?_eq_getElem (show k < ps.length by omega)] <;> rfl
    have bq := hb1 _ (List.mem_of_getElem? eq1)
    have bp := hb2 _ (List.mem_of_getElem? eq2)
    generalize qs.getD k 0 = qk at *
    generalize ps.getD k 0 = pk at *
    have dq : qk.den ≤ D1 := bq.1
    have dp : pk.den ≤ D2 := bp.1
    have dd : qk.den * pk.den ≤ D1 * D2 := Nat.mul_le_mul dq dp
    have hB : 0 < D1 * D2 := Nat.mul_pos hD1 hD2
    refine ⟨_, rfl, _, rfl, a, _, (k : Int), _, rfl, rfl, ea0, atI_nat ex1, r1, _, 0, _, rfl, rfl, SqT.of er1, atI_nat (j := 0) rfl, rfl, _, rfl, ?_⟩
    by_cases z1 : qk.num = 0
    · refine if_false_of (by rw [z1]; rfl) (iteF ?_)
      exact ⟨rfl, t, b, _, _, rfl, ht.skip hB eq1 eq2 (.inl z1)⟩
    refine if_true_of (by simp [z1]) ?_
    refine ⟨_, rfl, _, rfl, a2, _, (k : Int), _, rfl, rfl, ea20, atI_nat ex2, r2, _, 0, _, rfl, rfl, SqT.of er2, atI_nat (j := 0) rfl, rfl, _, rfl, ?_⟩
    by_cases z3 : pk.num = 0
    · refine if_false_of (by rw [z3]; rfl) ?_
      exact ⟨rfl, t, b, _, _, rfl, ht.skip hB eq1 eq2 (.inr z3)⟩
    refine if_true_of (by simp [z3]) ?_
    have dd1 : (0 : Int) < (qk.den : Int) * (pk.den : Int) := Int.mul_pos (by have := qk.den_pos; omega) (by have := pk.den_pos; omega)
    have dd2 : ((qk.den : Int) * (pk.den : Int)).natAbs < 2 ^ 18000 := by
      rw [Int.natAbs_mul]
      show qk.den * pk.den < 2 ^ 18000
      exact Nat.lt_of_le_of_lt dd hDD
    have q30 : qk.num.natAbs < 2 ^ 40000 := Nat.lt_of_le_of_lt bq.2 hN1
    have p30 : pk.num.natAbs < 2 ^ 40000 := Nat.lt_of_le_of_lt bp.2 hN2
    have qp30 := wide_lt q30 p30
    have k48 : k ≤ 48 := by omega
    have sm := ht.small k48 hDD hN1 hN2
    refine ⟨_, rfl, _, rfl, a, _, (k : Int), _, rfl, rfl, ea0, atI_nat ex1, r1, _, 1, _, rfl, rfl, SqT.of er1, atI_nat (j := 1) rfl, _, rfl, _, rfl, a2, _, (k : Int), _, rfl, rfl, ea20, atI_nat ex2, r2, _, 1, _, rfl, rfl, SqT.of er2, atI_nat (j := 1) rfl, _, _, rfl, rfl,
      wide_mul (a := 18000) (b := 18000) (by show qk.den < _; exact Nat.lt_of_le_of_lt (Nat.le_trans dq (Nat.le_mul_of_pos_right D1 hD2)) hDD) (by show pk.den < _; exact Nat.lt_of_le_of_lt (Nat.le_trans dp (Nat.le_mul_of_pos_left D2 hD1)) hDD) (by decide) (by decide) (by decide), ?_⟩
    refine ⟨_, rfl, _, rfl, _, _, rfl, rfl, wide_mul sm.2 dd2 (by decide) (by decide) (by decide), ?_⟩
    refine ⟨_, rfl, _, rfl, a, _, (k : Int), _, rfl, rfl, ea0, atI_nat ex1, r1, _, 0, _, rfl, rfl, SqT.of er1, atI_nat (j := 0) rfl, _, rfl, _, rfl, a2, _, (k : Int), _, rfl, rfl, ea20, atI_nat ex2, r2, _, 0, _, rfl, rfl, SqT.of er2, atI_nat (j := 0) rfl, _, _, rfl, rfl,
      wide_mul q30 p30 (by decide) (by decide) (by decide), ?_⟩
    refine ⟨_, rfl, _, _, rfl, rfl, wide_mul qp30 sm.1 (by decide) (by decide) (by decide), _, _, rfl, rfl, _, rfl, _, rfl, _, _, rfl, rfl, wide_mul sm.1 dd2 (by decide) (by decide) (by decide), ?_⟩
    refine ⟨_, _, rfl, rfl, _, _, _, _, rfl, ?_⟩
    exact ht.next hB eq1 eq2 dd (Nat.mul_le_mul bq.2 bp.2)
  · obtain ⟨rfl, t, b, p4, p5, rfl, ht⟩ := h
    rw [Int.toNat_natCast, lx] at ht
    have e1 : qs.take qs.length = qs := List.take_length
    have e2 : ps.take qs.length = ps := by rw [hl, List.take_length]
    have he := ht.e
    rw [e1, e2] at he
    exact ⟨_, rfl, _, rfl, by show 2 ≤ sizeLine; decide, fun p hp => q p t b _ (g0.al _ hp) (g0.trans (Go.new hp)) ((Go.new (T := T) (M := []) hp).tb t0) upd_same ht.p (ht.small hl48 hDD hN1 hN2).1 (ht.small hl48 hDD hN1 hN2).2 he⟩
theorem ok_law_equals (F : Fun K "_law_equals" "_law_equals" s_law_equals f fd) : FnOk P w K mg base CX0 1 f fd ["total", "ratio"] sp_equals := by
  refine F.ok sc_law_equals (fun vs H Q E h => ?_) (fun cdv A outer s H vs Q E hr h => ?_)
  · obtain ⟨_, _, _, _, _, _, rfl, _⟩ := h
    rfl
  obtain ⟨p, r, t, b, x, y, rfl, ep, er, hb, ht, hx, hy, q⟩ := h
  refine ⟨_, pss_one (ps_ret (pe_cmpR op_eq (pe_op op_mulW (pe_ix ix_tup (pv 0) pe_int (fun _ _ => rfl)) (pe_ix ix_tup (pv 1) pe_int (fun _ _ => rfl))) (pe_op op_mulW (pe_ix ix_tup (pv 1) pe_int (fun _ _ => rfl)) (pe_ix ix_tup (pv 0) pe_int (fun _ _ => rfl))) (nomark _))), ?_⟩
  refine ⟨_, rfl, p, _, 0, _, rfl, rfl, SqT.of ep, atI_nat (j := 0) rfl, _, rfl, r, _, 1, _, rfl, rfl, SqT.of er, atI_nat (j := 1) rfl, _, _, rfl, rfl, wide_mul ht hy (by decide) (by decide) (by decide), ?_⟩
  refine ⟨_, rfl, r, _, 0, _, rfl, rfl, SqT.of er, atI_nat (j := 0) rfl, _, rfl, p, _, 1, _, rfl, rfl, SqT.of ep, atI_nat (j := 1) rfl, _, _, rfl, rfl, wide_mul hx hb (by decide) (by decide) (by decide), ?_⟩
  refine ⟨rfl, ?_⟩
  have e : decide (V.int (t * y) = V.int (x * b)) = decide (t * y = x * b) := decide_eq_decide.mpr ⟨fun z => by injection z, fun z => by rw [z]⟩
  rw [e]
  exact q
end
end KN
set_option Elab.async false
set_option linter.all false
set_option maxRecDepth 100000
set_option maxHeartbeats 4000000
/-! own words, 37: a list comprehension whose values are data drawn from objects at M0 that change -/
namespace SL
open PySem PySem.Spec PyProof.Rows L2 GxR NdefX GA
section
variable {T M M0 : List Addr} {H0 H1 : Hp} {J : It} {n : Nat} {G : Hp → Prop} {Y : Nat → Hp → V → Hp → Prop} {D : Addr} {Qd : Hp → Prop} {σ : L2.St} {g : TG} {te : TE} {vs : List Nat} {α : Type}
theorem lc_dw (Fa : α → PyData) (Pq : α → Prop) (W : Nat → Hp → Prop) (w : Walk J n G Y) (hG : ∀ H', Go T M0 H0 H' → G H') (ht : Tabs T H0) (g1 : Go T M0 H0 H1) (hD : H1 D = none) (hDM : D ∉ M0) (hM : ∀ b ∈ M0, b ∈ M) (hn : n ≤ sizeLine) (hW0 : W 0 H1)
    (hWs : ∀ i H' ys xs, W i H' → H' D = some (.lst xs) → W i (upd H' D (.lst ys))) (hWn : ∀ i H' ys, W i H' → H' D = none → W i (upd H' D (.lst ys)))
    (hs : ∀ i x H' H'' (R : VK), i < n → Go T M0 H0 H' → Tabs T H' → W i H' → H' D ≠ none → Y i H' x H'' → (∀ v q H3, Go T M0 H' H3 → W (i + 1) H3 → Dv (D :: M) H3 v (Fa q) → Pq q → R v H3) → g x (wipe σ vs) H'' fun σ2 H2 => wipe σ2 vs = wipe σ vs ∧ te σ2 H2 R)
    (hq : ∀ (H' : Hp) (ys : List V) (qs : List α), Go T M0 H0 H' → Tabs T H' → W n H' → H' D = some (.lst ys) → DvAll (D :: M) H' ys (qs.map Fa) → qs.length = n → (∀ q ∈ qs, Pq q) → Qd H') :
    ∃ W : Nat → Nat → Hp → Prop, (∃ m, W 0 m (upd H1 D (.lst []))) ∧ ∀ i' m H, W i' m H →
      (J.stop i' H ∧ Qd H) ∨ (J.go i' H ∧ ∃ Nx : Hp → Prop, (∀ H', Nx H' → ∃ m', m' < m ∧ W (i' + 1) m' H') ∧ ∀ x H', J.yld i' H x H' → g x (wipe σ vs) H' fun σ2 H2 => wipe σ2 vs = wipe σ vs ∧ tYes σ2 H2 fun b H3 =>
        if b = true then te σ2 H3 fun y H4 => ∃ acc, H4 D = some (.lst acc) ∧ acc.length < sizeLine ∧ Nx (upd H4 D (.lst (acc ++ [y]))) else Nx H3) := by
  have hD0 : H0 D = none := g1.al D hD
  refine lc_it w (fun i H' => Go T M0 H0 H' ∧ W i H' ∧ ∃ (ys : List V) (qs : List α), H' D = some (.lst ys) ∧ ys.length = i ∧ DvAll (D :: M) H' ys (qs.map Fa) ∧ qs.length = i ∧ ∀ q ∈ qs, Pq q) ⟨g1.trans (Go.new hD), hWn _ _ _ hW0 hD, [], [], upd_same, rfl, .nil, rfl, fun q h => absurd h List.not_mem_nil⟩ (fun i H' _ h => hG H' h.1) (fun i x H' H'' hlt h y => ?_)
    (fun H' ⟨gg, hw, ys, qs, e, _, da, lq, pq⟩ => hq H' ys qs gg (gg.tb ht) hw e da lq pq)
  obtain ⟨gg, hw, ys, qs, e, el, da, lq, pq⟩ := h
  refine hs i x H' H'' _ hlt gg (gg.tb ht) hw (by rw [e]; exact fun z => by cases z) y fun v q H3 g3 w3 dv pv => ?_
  have e3 := g3.lst e hDM
  have gs := Go.set (T := T) (M := D :: M) (o := .lst (ys ++ [v])) e3 (fun _ z => by cases z) (List.mem_cons_self ..)
  refine ⟨ys, e3, by omega, (gg.trans g3).over hD0 e3 (fun _ z => by cases z), hWs _ _ _ _ w3 e3, ys ++ [v], qs ++ [q], upd_same, by rw [List.length_append, el] <;> rfl, ?_, by rw [List.length_append, lq] <;> rfl, fun q' hq' => ?_⟩
  · rw [List.map_append]
    exact DvAll.append ((da.go (g3.more fun b hb => List.mem_cons_of_mem _ (hM b hb))).go gs) (.cons (dv.go gs) .nil)
  · rcases List.mem_append.mp hq' with h | h
    · exact pq q' h
    · rw [List.mem_singleton.mp h]; exact pv
end
end SL
set_option Elab.async false
set_option linter.all false
set_option maxRecDepth 100000
set_option maxHeartbeats 8000000
/-! k41: _law_entry -/
namespace KN
open PySem PySem.Spec PyProof.Rows L2 GxR NdefX GA SL ZN RZ
abbrev s_law_entry : Stmt := top 31
theorem sc_law_entry : FnScope ["cup", "great", "top"] ["cup", "great"] (defScope s_law_entry) := ⟨rfl, rfl, rfl, by decide +kernel, rfl, by decide +kernel, by decide +kernel⟩
def N0 : Nat := 10 ^ 40
section
variable {T M : List Addr} {H H' : Hp} {a l p : Addr} {k k' : Int} {o : HO}
theorem CupAt.go (W : CupAt a l H k) (g : Go T [] H H') : CupAt a l H' k := by
  obtain ⟨ns, z, s, c, h1, h2, h3, h4⟩ := W
  exact ⟨ns, z, s, c, h1, g.lst h2 List.not_mem_nil, g.lst h3 List.not_mem_nil, h4⟩
theorem CupAt.up (W : CupAt a l H k) (h : k ≤ k') : CupAt a l H k' := by
  obtain ⟨ns, z, s, c, h1, h2, h3, h4, h5, h6, h7, h8⟩ := W
  exact ⟨ns, z, s, c, h1, h2, h3, h4, h5, h6, h7, by omega⟩
theorem CupAt.ne (W : CupAt a l H k) (hp : H p = none) : p ∉ [a, l] := by
  obtain ⟨ns, z, s, c, h1, h2, h3, h4⟩ := W
  intro h
  simp only [List.mem_cons, List.not_mem_nil, or_false] at h
  rcases h with rfl | rfl
  · rw [h2] at hp; cases hp
  · rw [h3] at hp; cases hp
theorem CupAt.lists (W : CupAt a l H k) : ∀ b ∈ [a, l], H b ≠ none := by
  intro b hb e
  exact W.ne e hb
theorem CupAt.set (W : CupAt a l H k) (hp : p ∉ [a, l]) : CupAt a l (upd H p o) k := by
  obtain ⟨ns, z, s, c, h1, h2, h3, h4⟩ := W
  simp only [List.mem_cons, List.not_mem_nil, or_false, not_or] at hp
  exact ⟨ns, z, s, c, h1, by rw [upd_ne (fun e => hp.1 e.symm)]; exact h2, by rw [upd_ne (fun e => hp.2 e.symm)]; exact h3, h4⟩
end
/-- how great the tops are -/
def NN (g : Bool) : Nat := if g = true then N0 else 4
theorem bd_of {t b : Int} {N : Nat} (h : 0 < b) (hb : b ∣ 42) (ht : t.natAbs ≤ N) : Bd 42 N (Rat.divInt t b) := by
  obtain ⟨a1, a2⟩ := Prod.mk.inj (low_of (t := t) h)
  refine ⟨?_, ?_⟩
  · have : (((Rat.divInt t b).den : Nat) : Int) ∣ b := by
      rw [← a2]
      refine Int.ediv_dvd_of_dvd ?_
      have := Nat.gcd_dvd_right t.natAbs b.natAbs
      exact Int.dvd_natAbs.mp (Int.natCast_dvd_natCast.mpr this)
    exact Int.natCast_dvd_natCast.mp (Int.dvd_trans this hb)
  · rw [← a1]
    exact Nat.le_trans (Int.natAbs_ediv_le_natAbs _ _) ht
def sp_entry (T : List Addr) : Sp := fun vs H Q _ => ∃ (a l : Addr) (k : Int) (g : Bool), vs = [.ref a, .bl g] ∧ k ≤ 549755813888 ∧ CupAt a l H k ∧ Tabs T H ∧ ∀ r q H', H r = none → H' r = some (.tup [.int q.num, .int (q.den : Int)]) → Bd 42 (NN g) q → CupAt a l H' (k + 6) → Go T [a, l] H H' → Tabs T H' → Q (.ref r) H'
theorem at2 {i : Int} (h0 : 0 ≤ i) (h1 : i < 2) : ∃ z : Int, atI [V.int 1, V.int (-1)] i = some (.int z) ∧ z.natAbs = 1 := by
  have : i = 0 ∨ i = 1 := by omega
  rcases this with rfl | rfl
  · exact ⟨1, rfl, rfl⟩
  · exact ⟨-1, rfl, rfl⟩
theorem at7 {i : Int} (h0 : 0 ≤ i) (h1 : i < 7) : ∃ z : Int, atI [V.int 1, V.int 1, V.int 2, V.int 1, V.int 3, V.int 1, V.int 7] i = some (.int z) ∧ 0 < z ∧ z ≤ 7 ∧ z ∣ 42 := by
  have : i = 0 ∨ i = 1 ∨ i = 2 ∨ i = 3 ∨ i = 4 ∨ i = 5 ∨ i = 6 := by omega
  rcases this with rfl | rfl | rfl | rfl | rfl | rfl | rfl
  · exact ⟨1, rfl, by decide⟩
  · exact ⟨1, rfl, by decide⟩
  · exact ⟨2, rfl, by decide⟩
  · exact ⟨1, rfl, by decide⟩
  · exact ⟨3, rfl, by decide⟩
  · exact ⟨1, rfl, by decide⟩
  · exact ⟨7, rfl, by decide⟩
section
variable {P : Program} {w : World} {K : PySem.W.Frag} {mg : Str → Option Value} {base : Heap} {f c CK CN CT CR : Addr} {fd : FuncData} {T : List Addr}
theorem ok_law_entry (F : Fun K "_law_entry" "_law_entry" s_law_entry f fd) (Fd : Fnn P w K mg base CX0 1 "_law_sip" ["cup", "many"] (sp_sip T)) (Fr : Fnn P w K mg base CX0 33 "_law_ratio" ["top", "bottom"] sp_lratio) : FnOk P w K mg base CX0 34 f fd ["cup", "great"] (sp_entry T) := by
  have nd := sc_law_entry.nd
  refine F.ok sc_law_entry (fun vs H Q E h => ?_) (fun cdv A outer s H vs Q E hr h => ?_)
  · obtain ⟨_, _, _, _, rfl, _⟩ := h
    rfl
  obtain ⟨a, l, k, g, rfl, hk, W, ht, q⟩ := h
  have nn : ∀ b : Addr, b ∉ ([] : List Addr) := fun b => List.not_mem_nil
  refine ⟨_, pss_cons (ps_set (i := 2) nd rfl (.inl rfl) (pe_op op_sub (pe_fn Fd hr (by decide) pass0 (pa_cons (pv 0) (pa_cons pe_int pa_nil))) pe_int))
    (pss_cons (ps_if (PW.pt (pw_and (pt_val (pv 1)) (pw_and1 (pt_cmpR op_eq (pe_fn Fd hr (by decide) pass0 (pa_cons (pv 0) (pa_cons pe_int pa_nil))) pe_int (nomark _)))))
      (pss_one (ps_set (i := 2) nd rfl (.inl rfl) (pe_op op_mul (pe_ix ix_list (pe_lst (pa_cons pe_int (pa_cons (pe_un un_neg pe_int) pa_nil))) (pe_fn Fd hr (by decide) pass0 (pa_cons (pv 0) (pa_cons pe_int pa_nil))) (fun _ _ => rfl)) (pe_fn Fd hr (by decide) pass0 (pa_cons (pv 0) (pa_cons (pe_op op_pow pe_int pe_int) pa_nil)))))) pss_nil)
    (pss_one (ps_ret (pe_fn Fr hr (by decide) pass0 (pa_cons (pv 2) (pa_cons (pe_ix ix_list (pe_lst (pa_cons pe_int (pa_cons pe_int (pa_cons pe_int (pa_cons pe_int (pa_cons pe_int (pa_cons pe_int (pa_cons pe_int pa_nil)))))))) (pe_fn Fd hr (by decide) pass0 (pa_cons (pv 0) (pa_cons pe_int pa_nil))) (fun _ _ => rfl)) pa_nil)))))), ?_⟩
  have n10 : N0 = 10000000000000000000000000000000000000000 := by decide
  refine ⟨_, rfl, a, l, k, 9, rfl, by decide, by decide, by omega, W, ht, fun i1 H1 i10 i11 W1 g1 t1 => ?_⟩
  refine ⟨_, _, rfl, rfl, ?_⟩
  have fin : ∀ (tp : Int) (H' : Hp) (Q2 : VK), tp.natAbs ≤ NN g → CupAt a l H' (k + 5) → Go T [a, l] H H' → Q2 = Q → tCall sp_lratio [] E0 (tCons (tVar 2) (tCons (tOp (rIxL K) (tLst (tCons (tC (.int 1)) (tCons (tC (.int 1)) (tCons (tC (.int 2)) (tCons (tC (.int 1)) (tCons (tC (.int 3)) (tCons (tC (.int 1)) (tCons (tC (.int 7)) tNil)))))))) (tCall (sp_sip T) [] E0 (tCons (tVar 0) (tCons (tC (.int 7)) tNil)))) tNil)) [some (.ref a), some (.bl g), some (.int tp)] H' Q2 := fun tp H' Q2 htp W' G e => by
    subst e
    refine ⟨_, rfl, by show 7 ≤ sizeLine; decide, fun p hp => ?_⟩
    have u := Go.new (T := T) (M := []) (o := .lst [.int 1, .int 1, .int 2, .int 1, .int 3, .int 1, .int 7]) hp
    have np := W'.ne hp
    refine ⟨_, rfl, a, l, k + 5, 7, rfl, by decide, by decide, by omega, W'.go u, (G.trans u.of0).tb ht, fun i2 H2 i20 i21 W2 g2 t2 => ?_⟩
    obtain ⟨z, ez, z0, z7, zd⟩ := at7 i20 i21
    refine ⟨p, _, i2, _, rfl, rfl, SqL.of (g2.lst upd_same np), ez, tp, z, rfl, z0, fun r hr => ?_⟩
    have G2 := ((G.trans u.of0).trans g2).trans ((Go.new (T := T) (M := []) (o := .tup [.int (Rat.divInt tp z).num, .int ((Rat.divInt tp z).den : Int)]) hr).of0)
    exact q r (Rat.divInt tp z) _ (((G.trans u.of0).trans g2).al _ hr) upd_same (bd_of z0 zd htp) ((W2.up (by omega)).go (Go.new (T := T) hr)) G2 (G2.tb ht)
  have b4 : (i1 - 4).natAbs ≤ 4 := by omega
  have b1 : (i1 - 4).natAbs ≤ NN g := by
    cases g with
    | false => exact b4
    | true => exact Nat.le_trans b4 (by show 4 ≤ N0; rw [n10]; decide)
  cases g with
  | false =>
    refine ⟨_, rfl, _, rfl, iteF (iteF ?_)⟩
    exact fin _ _ _ b1 (W1.up (by omega)) g1 rfl
  | true =>
    refine ⟨_, rfl, _, rfl, iteT ?_⟩
    refine ⟨_, rfl, a, l, k + 1, 3, rfl, by decide, by decide, by omega, W1, t1, fun i2 H2 i20 i21 W2 g2 t2 => ?_⟩
    refine ⟨rfl, _, rfl, ?_⟩
    by_cases h0 : i2 = 0
    · refine if_true_of (by rw [h0]; rfl) ?_
      refine ⟨1, rfl, by show 2 ≤ sizeLine; decide, fun p hp => ?_⟩
      have u := Go.new (T := T) (M := []) (o := .lst [.int 1, .int (-1)]) hp
      have np := W2.ne hp
      refine ⟨_, rfl, a, l, k + 1 + 1, 2, rfl, by decide, by decide, by omega, W2.go u, u.tb t2, fun i3 H3 i30 i31 W3 g3 t3 => ?_⟩
      obtain ⟨z, ez, z1⟩ := at2 i30 i31
      refine ⟨p, _, i3, _, rfl, rfl, SqL.of (g3.lst upd_same np), ez, ?_⟩
      refine ⟨_, rfl, _, _, rfl, rfl, ⟨by decide, by decide, by decide⟩, a, l, k + 1 + 1 + 1, _, rfl, by decide, by decide, by omega, W3, t3, fun i4 H4 i40 i41 W4 g4 t4 => ?_⟩
      refine ⟨_, _, rfl, rfl, .inl ⟨by omega, by omega⟩, ?_⟩
      refine fin _ _ _ ?_ (W4.up (by omega)) ((((g1.trans g2).trans u.of0).trans g3).trans g4) rfl
      show _ ≤ N0
      rw [Int.natAbs_mul, z1, Nat.one_mul]
      have h10 : (10 : Int) ^ ((40 : Int).toNat) = 10000000000000000000000000000000000000000 := by decide
      have i41' : i4 < (10 : Int) ^ ((40 : Int).toNat) := i41
      rw [h10] at i41'
      rw [n10]
      omega
    · refine if_false_of (by simp [h0]) ?_
      exact fin _ _ _ b1 (W2.up (by omega)) (g1.trans g2) rfl
end
end KN
set_option Elab.async false
set_option linter.all false
set_option maxRecDepth 100000
set_option maxHeartbeats 8000000
/-! k41: _law_same -/
namespace KN
open PySem PySem.Spec PyProof.Rows L2 GxR NdefX GA SL ZN RZ
abbrev s_law_same : Stmt := top 34
theorem sc_law_same : FnScope ["found", "due", "k"] ["found", "due"] (defScope s_law_same) := ⟨rfl, rfl, rfl, by decide +kernel, rfl, by decide +kernel, by decide +kernel⟩
/-- what is compared: integers, tuples of such -/
def okS : Nat → PyData → Prop
  | 0, d => (∃ z, d = .int z) ∨ ∃ z, d = .str z
  | n + 1, d => ((∃ z, d = .int z) ∨ ∃ z, d = .str z) ∨ ∃ ws, d = .tuple ws ∧ ws.length ≤ 5000 ∧ ∀ e ∈ ws, okS n e
theorem okS_cases {n : Nat} {d : PyData} (h : okS n d) : ((∃ z, d = .int z) ∨ ∃ z, d = .str z) ∨ ∃ ws j, j < n ∧ d = .tuple ws ∧ ws.length ≤ 5000 ∧ ∀ e ∈ ws, okS j e := by
  cases n with
  | zero => exact .inl h
  | succ n =>
    rcases h with h | ⟨ws, h1, h2, h3⟩
    · exact .inl h
    · exact .inr ⟨ws, n, Nat.lt_succ_self n, h1, h2, h3⟩
theorem okS_rat (t b : Int) : okS 1 (rat t b) := by
  refine .inr ⟨_, rfl, by show 2 ≤ 5000; decide, fun e he => ?_⟩
  simp only [List.mem_cons, List.not_mem_nil, or_false] at he
  rcases he with rfl | rfl
  · exact .inl ⟨_, rfl⟩
  · exact .inl ⟨_, rfl⟩
theorem okS_row {xs : List (Int × Int)} (h : xs.length ≤ 5000) : okS 2 (rowR xs) := by
  refine .inr ⟨_, rfl, by rw [List.length_map]; exact h, fun e he => ?_⟩
  obtain ⟨r, _, rfl⟩ := List.mem_map.mp he
  exact okS_rat _ _
/-- what made_of tells -/
theorem okS_told {x : Str} {xs : List (Int × Int)} (h : xs.length ≤ 5000) : okS 3 (.tuple [.str x, rowR xs]) := by
  refine .inr ⟨_, rfl, by show 2 ≤ 5000; decide, fun e he => ?_⟩
  simp only [List.mem_cons, List.not_mem_nil, or_false] at he
  rcases he with rfl | rfl
  · exact .inl (.inr ⟨_, rfl⟩)
  · exact okS_row h
def sp_same (T : List Addr) (n : Nat) : Sp := fun vs H Q _ => ∃ (v v' : V) (M M' : List Addr) (d : PyData), vs = [v, v'] ∧ Dv M H v d ∧ Dv M' H v' d ∧ okS n d ∧ Tabs T H ∧ ∀ H', Go T [] H H' → Tabs T H' → Q (.bl true) H'
section
variable {P : Program} {w : World} {K : PySem.W.Frag} {mg : Str → Option Value} {base : Heap} {f c Pt CK CR : Addr} {fd : FuncData} {T : List Addr}
theorem ok_law_same_step (n : Nat) (F : Fun K "_law_same" "_law_same" s_law_same f fd) (B : Bl mg) (Fs : Fnn P w K mg base CX0 n "_law_same" ["found", "due"] (fun vs H Q E => ∃ j, j < n ∧ sp_same T j vs H Q E)) : FnOk P w K mg base CX0 (n + 1) f fd ["found", "due"] (sp_same T n) := by
  have nd := sc_law_same.nd
  refine F.ok sc_law_same (fun vs H Q E h => ?_) (fun cdv A outer s H vs Q E hr h => ?_)
  · obtain ⟨_, _, _, _, _, rfl, _⟩ := h
    rfl
  obtain ⟨v, v', M, M', d, rfl, hv, hv', hd, ht, q⟩ := h
  refine ⟨_, pss_cons (ps_if (pt_val (pe_isi_tuple B (pv 1))) (pss_cons (ps_if (PW.pt (pw_or (pt_not (pt_val (pe_isi_tuple B (pv 0)))) (pw_or1 (pt_cmpR op_ne (pe_lenq B (pv 0)) (pe_lenq B (pv 1)) (nomark _))))) (pss_one (ps_ret pe_bl)) pss_nil)
      (pss_one (ps_ret (pe_allL rfl B (pe_lc (own := [("k", 2)]) (g := gName 2) (tt := tYes) (te := tCall (fun vs H Q E => ∃ j, j < n ∧ sp_same T j vs H Q E) [] E0 (tCons (tOp (rIxT K) (tVar 0) (tVar 2)) (tCons (tOp (rIxT K) (tVar 1) (tVar 2)) tNil))) rfl nd (pi_range1 (by rfl) B.range (pa_cons (pe_lenq B (pv 1)) pa_nil))
      (blkOk_by (own := [("k", 2)]) (N := ["found", "due", "k"]) (sc := defScope s_law_same) (by decide +kernel)) (fun _ _ _ _ _ => pg_name (i := 2) nd rfl (.inl rfl)) (fun _ _ _ _ _ => pts_nil)
      (fun _ _ _ _ _ => pe_fn Fs hr (by omega) pass0 (pa_cons (pe_ix ix_tup (pv 0) (pv 2) (fun _ _ => rfl)) (pa_cons (pe_ix ix_tup (pv 1) (pv 2) (fun _ _ => rfl)) pa_nil)))))))) pss_nil)
    (pss_cons (ps_if (pt_cmpR op_isN (pv 1) pe_non (nomark _)) (pss_one (ps_ret (pe_cmpR op_isN (pv 0) pe_non (nomark _)))) pss_nil)
    (pss_cons (ps_if (pt_val (pe_isi_bool B (pv 1))) (pss_one (ps_ret (pe_and (pe_isi_bool B (pv 0)) (pe_one (pe_cmpR op_eq (pv 0) (pv 1) (nomark _)))))) pss_nil)
    (pss_cons (ps_if (pt_val (pe_isi_int B (pv 1))) (pss_one (ps_ret (pe_and (pe_isi_int B (pv 0)) (pe_and (pe_not (pe_isi_bool B (pv 0))) (pe_one (pe_cmpR op_eq (pv 0) (pv 1) (nomark _))))))) pss_nil)
    (pss_one (ps_ret (pe_and (pe_isi_str B (pv 0)) (pe_one (pe_cmpR op_eq (pv 0) (pv 1) (nomark _))))))))), ?_⟩
  rcases okS_cases hd with (⟨z, rfl⟩ | ⟨z, rfl⟩) | ⟨ws, j, hj, rfl, lw, hws⟩
  · cases hv'
    cases hv
    refine ⟨_, rfl, _, _, _, rfl, Dv.int (M := []) z, _, rfl, iteF ?_⟩
    refine ⟨_, rfl, rfl, _, rfl, iteF ?_⟩
    refine ⟨_, rfl, _, _, _, rfl, Dv.int (M := []) z, _, rfl, iteF ?_⟩
    refine ⟨_, rfl, _, _, _, rfl, Dv.int (M := []) z, _, rfl, iteT ?_⟩
    refine ⟨_, rfl, _, _, _, rfl, Dv.int (M := []) z, _, rfl, ?_⟩
    split
    · refine ⟨_, rfl, _, _, _, rfl, Dv.int (M := []) z, _, rfl, _, rfl, ?_⟩
      split
      · refine ⟨_, rfl, _, rfl, rfl, ?_⟩
        exact goQ (q H Go.refl ht) (decide_eq_true rfl).symm
      · rename_i h
        exact absurd rfl h
    · rename_i h
      exact absurd rfl h
  · cases hv'
    cases hv
    refine ⟨_, rfl, _, _, _, rfl, Dv.str (M := []) z, _, rfl, iteF ?_⟩
    refine ⟨_, rfl, rfl, _, rfl, iteF ?_⟩
    refine ⟨_, rfl, _, _, _, rfl, Dv.str (M := []) z, _, rfl, iteF ?_⟩
    refine ⟨_, rfl, _, _, _, rfl, Dv.str (M := []) z, _, rfl, iteF ?_⟩
    refine ⟨_, rfl, _, _, _, rfl, Dv.str (M := []) z, _, rfl, ?_⟩
    split
    · refine ⟨_, rfl, _, rfl, rfl, ?_⟩
      exact goQ (q H Go.refl ht) (decide_eq_true rfl).symm
    · rename_i h
      exact absurd rfl h
  · obtain ⟨p1, xs, rfl, e1, n1, d1⟩ := dv_tup hv
    obtain ⟨p2, ys, rfl, e2, n2, d2⟩ := dv_tup hv'
    have l1 := d1.length
    have l2 := d2.length
    have nn : ∀ b : Addr, b ∉ ([] : List Addr) := fun b => List.not_mem_nil
    refine ⟨_, rfl, _, _, _, rfl, hv', _, rfl, iteT ?_⟩
    refine ⟨_, rfl, _, _, _, rfl, hv, _, rfl, iteF ?_⟩
    refine ⟨_, rfl, p1, xs, rfl, .inr (SqT.of e1), _, rfl, p2, ys, rfl, .inr (SqT.of e2), rfl, _, rfl, ?_⟩
    refine if_false_of (by rw [l1, l2]; simp) ?_
    refine ⟨_, rfl, p2, ys, rfl, .inr (SqT.of e2), _, rfl, by omega, by omega, fun D hD => ?_⟩
    have gD := Go.new (T := T) (M := []) (o := .lst []) hD
    refine lc_map (T := T) (H0 := H) (H1 := H) (fun _ => V.bl true) (walk_range (lo := 0) (n := ((ys.length : Nat) : Int).toNat)) (fun _ _ => trivial) ht Go.refl hD (by rw [sizeLine_eq]; omega) (fun i x H' H'' R hi g' t' y k => ?_) (fun H' g' t' e' => ?_)
    · obtain ⟨rfl, ey⟩ := y
      have ey2 : x = V.int (i : Int) := by rw [ey]; show V.int (0 + (i : Int)) = _; rw [Int.zero_add]
      clear ey
      subst ey2
      rw [Int.toNat_natCast] at hi
      have hx : xs[i]? = some xs[i] := List.getElem?_eq_getElem (by omega)
      have hy : ys[i]? = some ys[i] := List.getElem?_eq_getElem hi
      generalize xs[i] = x1 at hx
      generalize ys[i] = y1 at hy
      obtain ⟨e, ee, dx⟩ := d1.get hx
      obtain ⟨e0, ee0, dy⟩ := d2.get hy
      rw [ee] at ee0
      cases ee0
      refine ⟨rfl, _, rfl, _, rfl, p1, xs, (i : Int), x1, rfl, rfl, SqT.of (g'.tup e1 (nn _)), atI_nat hx, _, rfl, _, rfl, p2, ys, (i : Int), y1, rfl, rfl, SqT.of (g'.tup e2 (nn _)), atI_nat hy, j, hj, x1, y1, M, M', e, rfl, dx.go g'.of0, dy.go g'.of0, hws e (List.mem_of_getElem? ee), t', fun H3 g3 _ => k H3 g3⟩
    · refine ⟨D, (List.range ((ys.length : Nat) : Int).toNat).map fun _ => true, rfl, SqL.of (by rw [List.map_map]; exact e'), ?_⟩
      exact goQ (q H' g' t') (by simp)
theorem ok_law_same (F : Fun K "_law_same" "_law_same" s_law_same f fd) (hm : mg "_law_same" = some (.ref f)) (hb : Binds K fd ["found", "due"] []) (B : Bl mg) (n : Nat) : FnOk P w K mg base CX0 (n + 1) f fd ["found", "due"] (sp_same T n) := by
  induction n using Nat.strongRecOn with
  | ind n ih =>
    refine ok_law_same_step n F B ⟨f, fd, ⟨?_, ?_⟩, hm, F.kp, hb⟩
    · rintro vs H Q E ⟨j, hj, h⟩
      exact (ih j hj).len vs H Q E h
    · rintro A outer s H args us vs Q E hr env hbt hv ⟨j, hj, h⟩
      exact (ih j hj).run A outer s H args us vs Q E (hr.mono (by omega)) env hbt hv h
end
end KN
set_option Elab.async false
set_option linter.all false
set_option maxRecDepth 100000
set_option maxHeartbeats 8000000
/-! k39: _law_is_whole, _law_is_ratio, _law_is_vector -/
namespace KN
open PySem PySem.Spec PyProof.Rows L2 GxR NdefX GA SL ZN RZ
abbrev s_law_is_whole : Stmt := top 25
abbrev s_law_is_ratio : Stmt := top 27
abbrev s_law_is_vector : Stmt := top 28
theorem sc_law_is_whole : FnScope ["found"] ["found"] (defScope s_law_is_whole) := ⟨rfl, rfl, rfl, by decide +kernel, rfl, by decide +kernel, by decide +kernel⟩
theorem sc_law_is_ratio : FnScope ["found"] ["found"] (defScope s_law_is_ratio) := ⟨rfl, rfl, rfl, by decide +kernel, rfl, by decide +kernel, by decide +kernel⟩
theorem sc_law_is_vector : FnScope ["found", "size", "entry"] ["found", "size"] (defScope s_law_is_vector) := ⟨rfl, rfl, rfl, by decide +kernel, rfl, by decide +kernel, by decide +kernel⟩
def sp_lwhole : Sp := fun vs H Q _ => ∃ z : Int, vs = [.int z] ∧ Q (.bl true) H
def sp_lisrat (T : List Addr) : Sp := fun vs H Q _ => ∃ (M : List Addr) (v : V) (q : Rat), vs = [v] ∧ Dv M H v (rat q.num q.den) ∧ Tabs T H ∧ ∀ H', Go T [] H H' → Tabs T H' → Q (.bl true) H'
def sp_lisvec (T : List Addr) : Sp := fun vs H Q _ => ∃ (M : List Addr) (v : V) (qs : List Rat), vs = [v, .int (qs.length : Int)] ∧ Dv M H v (rowQ qs) ∧ qs.length ≤ 5000 ∧ Tabs T H ∧ ∀ H', Go T [] H H' → Tabs T H' → Q (.bl true) H'
theorem sh_rat (t b : Int) : SeqAt.shaped (rat t b) = true := rfl
theorem eqv_rat (t b : Int) : PyData.eqv (rat t b) (rat t b) = true := by simp [PyData.eqv, PyData.eqvAll]
section
variable {P : Program} {w : World} {K : PySem.W.Frag} {mg : Str → Option Value} {base : Heap} {f c CK CN CT CR : Addr} {fd : FuncData} {T : List Addr}
theorem ok_law_is_whole (F : Fun K "_law_is_whole" "_law_is_whole" s_law_is_whole f fd) (B : Bl mg) : FnOk P w K mg base CX0 1 f fd ["found"] sp_lwhole := by
  refine F.ok sc_law_is_whole (fun vs H Q E h => ?_) (fun cdv A outer s H vs Q E hr h => ?_)
  · obtain ⟨_, rfl, _⟩ := h
    rfl
  obtain ⟨z, rfl, q⟩ := h
  refine ⟨_, pss_one (ps_ret (pe_and (pe_isi_int B (pv 0)) (pe_one (pe_not (pe_isi_bool B (pv 0)))))), ?_⟩
  refine ⟨_, rfl, _, _, _, rfl, Dv.int (M := []) z, _, rfl, iteT ?_⟩
  exact ⟨_, rfl, _, _, _, rfl, Dv.int (M := []) z, _, rfl, q⟩
theorem ok_law_is_ratio (F : Fun K "_law_is_ratio" "_law_is_ratio" s_law_is_ratio f fd) (B : Bl mg) (Fw : Fnn P w K mg base CX0 1 "_law_is_whole" ["found"] sp_lwhole) (Fr : Fnn P w K mg base CX0 33 "_law_ratio" ["top", "bottom"] sp_lratio) : FnOk P w K mg base CX0 34 f fd ["found"] (sp_lisrat T) := by
  refine F.ok sc_law_is_ratio (fun vs H Q E h => ?_) (fun cdv A outer s H vs Q E hr h => ?_)
  · obtain ⟨_, _, _, rfl, _⟩ := h
    rfl
  have nd := sc_law_is_ratio.nd
  have hu64 : (A.deeper (envOfC "_law_is_ratio" (defScope s_law_is_ratio) s.heap.objs.size f cdv)).units + 64 < cLine := by
    have := hr.un
    omega
  obtain ⟨M, v, q, rfl, hv, ht, k⟩ := h
  refine ⟨_, pss_cons (ps_if (PW.pt (pw_or (pt_not (pt_val (pe_isi_tuple B (pv 0)))) (pw_or (pt_cmpR op_ne (pe_lenq B (pv 0)) pe_int (nomark _)) (pw_or (pt_not (pt_val (pe_fn Fw hr (by decide) pass0 (pa_cons (pe_ix ix_tup (pv 0) pe_int (fun _ _ => rfl)) pa_nil)))) (pw_or1 (pt_not (pt_val (pe_fn Fw hr (by decide) pass0 (pa_cons (pe_ix ix_tup (pv 0) pe_int (fun _ _ => rfl)) pa_nil))))))))) (pss_one (ps_ret pe_bl)) pss_nil)
    (pss_one (ps_ret (pe_and (pe_cmpR op_gt (pe_ix ix_tup (pv 0) pe_int (fun _ _ => rfl)) pe_int (nomark _)) (pe_one (pe_cmpR (op_eqD hu64) (pv 0) (pe_fn Fr hr (by decide) pass0 (pa_cons (pe_ix ix_tup (pv 0) pe_int (fun _ _ => rfl)) (pa_cons (pe_ix ix_tup (pv 0) pe_int (fun _ _ => rfl)) pa_nil))) (nomark _)))))), ?_⟩
  have hv' := hv
  obtain ⟨r, vx, vy, rfl, er, nr, hvx, hvy⟩ := dv_pair hv
  cases hvx
  cases hvy
  have dp := q.den_pos
  refine ⟨_, rfl, _, _, _, rfl, hv', _, rfl, iteF ?_⟩
  refine ⟨_, rfl, r, _, rfl, .inr (SqT.of er), rfl, _, rfl, ?_⟩
  refine if_false_of (by simp) ?_
  refine ⟨_, rfl, r, _, 0, _, rfl, rfl, SqT.of er, atI_nat (j := 0) rfl, _, rfl, _, rfl, iteF ?_⟩
  refine ⟨_, rfl, r, _, 1, _, rfl, rfl, SqT.of er, atI_nat (j := 1) rfl, _, rfl, _, rfl, iteF ?_⟩
  refine ⟨_, rfl, r, _, 1, _, rfl, rfl, SqT.of er, atI_nat (j := 1) rfl, _, _, rfl, rfl, _, rfl, ?_⟩
  refine if_true_of (decide_eq_true (by omega)) ?_
  refine ⟨_, rfl, _, rfl, r, _, 0, _, rfl, rfl, SqT.of er, atI_nat (j := 0) rfl, _, rfl, r, _, 1, _, rfl, rfl, SqT.of er, atI_nat (j := 1) rfl, _, _, rfl, by omega, fun p hp => ?_⟩
  have u := Go.new (T := T) (M := []) (o := .tup [.int (Rat.divInt q.num q.den).num, .int ((Rat.divInt q.num q.den).den : Int)]) hp
  have er2 := u.tup er List.not_mem_nil
  have dps : ∀ {H' : Hp} {a : Addr} {x y : Int}, H' a = some (.tup [.int x, .int y]) → Dp K H' (.ref a) (rat x y) := fun e => .tup (SqT.of e) (.cons (.int _) (.cons (.int _) .nil))
  have ep := upd_same (H := H) (a := p) (o := .tup [.int (Rat.divInt q.num q.den).num, .int ((Rat.divInt q.num q.den).den : Int)])
  rw [Rat.num_divInt_den] at ep u er2 ⊢
  refine ⟨_, _, dps er2, dps ep, sh_rat _ _, sh_rat _ _, ?_⟩
  rw [eqv_rat]
  exact k _ u (u.tb ht)
theorem ok_law_is_vector (F : Fun K "_law_is_vector" "_law_is_vector" s_law_is_vector f fd) (B : Bl mg) (Fr : Fnn P w K mg base CX0 34 "_law_is_ratio" ["found"] (sp_lisrat T)) : FnOk P w K mg base CX0 35 f fd ["found", "size"] (sp_lisvec T) := by
  refine F.ok sc_law_is_vector (fun vs H Q E h => ?_) (fun cdv A outer s H vs Q E hr h => ?_)
  · obtain ⟨_, _, _, rfl, _⟩ := h
    rfl
  have nd := sc_law_is_vector.nd
  have nn : ∀ b : Addr, b ∉ ([] : List Addr) := fun b => List.not_mem_nil
  obtain ⟨M, v, qs, rfl, hv, hl, ht, k⟩ := h
  refine ⟨_, pss_one (ps_ret (pe_and (pe_isi_tuple B (pv 0)) (pe_and (pe_cmpR op_eq (pe_lenq B (pv 0)) (pv 1) (nomark _)) (pe_one (pe_allL rfl B (pe_lc (own := [("entry", 2)]) (g := gName 2) (tt := tYes) (te := tCall (sp_lisrat T) [] E0 (tCons (tVar 2) tNil)) rfl nd (pi_tup (pv 0))
      (blkOk_by (own := [("entry", 2)]) (N := ["found", "size", "entry"]) (sc := defScope s_law_is_vector) (by decide +kernel)) (fun _ _ _ _ _ => pg_name (i := 2) nd rfl (.inl rfl)) (fun _ _ _ _ _ => pts_nil)
      (fun _ _ _ _ _ => pe_fn Fr hr (by decide) pass0 (pa_cons (pv 2) pa_nil)))))))), ?_⟩
  have hv' := hv
  obtain ⟨a, xs, rfl, ea, na, dx⟩ := dv_tup hv
  have lx := dx.length
  rw [List.length_map, prs, List.length_map] at lx
  refine ⟨_, rfl, _, _, _, rfl, hv', _, rfl, iteT ?_⟩
  refine ⟨_, rfl, a, xs, rfl, .inr (SqT.of ea), _, rfl, rfl, _, rfl, ?_⟩
  refine if_true_of (by rw [lx]; exact decide_eq_true rfl) ?_
  refine ⟨_, rfl, a, rfl, ⟨_, SqT.of ea⟩, fun D hD => ?_⟩
  refine lc_map (T := T) (fun _ => V.bl true) (walk_tup (xs := xs)) (fun H' g' => SqT.of (g'.tup ea (nn _))) ht Go.refl hD (by rw [sizeLine_eq]; omega) (fun i x H6 H7 R hi g6 t6 y hR => ?_) (fun H6 g6 t6 ed6 => ?_)
  · obtain ⟨rfl, ey⟩ := y
    obtain ⟨d, ed, hx⟩ := (dx.go g6.of0).get ey
    rw [prs, List.map_map, List.getElem?_map] at ed
    obtain ⟨q, er, rfl⟩ := Option.map_eq_some_iff.mp ed
    exact ⟨rfl, _, rfl, M, _, q, rfl, hx, t6, fun H8 g8 _ => hR H8 g8⟩
  · refine ⟨D, (List.range xs.length).map fun _ => true, rfl, SqL.of (by rw [List.map_map]; exact ed6), ?_⟩
    exact goQ (k H6 g6 t6) (List.all_eq_true.mpr fun b hb => by obtain ⟨_, _, rfl⟩ := List.mem_map.mp hb; rfl).symm
end
end KN
set_option Elab.async false
set_option linter.all false
set_option maxRecDepth 100000
set_option maxHeartbeats 8000000
/-! k39: _law_combine -/
namespace KN
open PySem PySem.Spec PyProof.Rows L2 GxR NdefX GA SL ZN RZ
/-- for .. in x, x a list or a tuple -/
def iSeq (K : PySem.W.Frag) (te : TE) : TI := fun σ H R => te σ H fun x H1 => ∃ a, x = .ref a ∧ (((∃ xs, SqL K H1 a xs) ∧ R (Itl K a) H1) ∨ ((∃ xs, SqT K H1 a xs) ∧ R (Itt K a) H1))
theorem pi_seq {X : Cx} {tg l : Expr} {te : TE} (hl : PE X l te) : PI X tg l (iSeq X.K te) := by
  refine ⟨fun pins s σ H R I h => thn (hl.run pins s σ H _ I h) fun v s1 ⟨x, H1, I1, r1, a, e, k⟩ => ?_⟩
  subst e
  cases r1
  have fp : ∀ b ∈ [s1.heap.objs.size], _ := fun b hb => (List.mem_singleton.mp hb) ▸ I1.fpOk (Nat.le_refl _) (I1.hok.fresh (Nat.le_refl _))
  rcases k with ⟨⟨xs, hq⟩, k⟩ | ⟨⟨xs, hq⟩, k⟩
  · obtain ⟨its, _, p, _⟩ := I1.list hq
    exact wpAny_pyIter_list p.isList ⟨_, _, _, _, H1, rfl, I1.kept (t' := s1.toks) fun b o e => Heap.get?_push_of_some _ e, turn_list a _, ⟨_, Heap.get?_push_size _ rfl, rfl, rfl⟩, fp, k⟩
  · obtain ⟨its, _, p, _⟩ := I1.tuple hq
    exact wpAny_pyIter_tuple (show s1.heap.IsTuple a its.toArray from p) ⟨_, _, _, _, H1, rfl, I1.kept (t' := s1.toks) fun b o e => Heap.get?_push_of_some _ e, turn_tuple a _, ⟨_, Heap.get?_push_size _ rfl, rfl, rfl⟩, fp, k⟩
/-- rows of ratios in a list or tuple -/
def DvR (M : List Addr) (H : Hp) (v : V) (m : List (List Rat)) : Prop := Dv M H v (.tuple (m.map rowQ)) ∨ Dv M H v (.list (m.map rowQ))
def combQ (ws : List Rat) (m : List (List Rat)) (n : Nat) : List Rat := (List.range n).map fun k => dotQ ws (colQ m k)
abbrev s_law_combine : Stmt := top 32
abbrev NCB : List Str := ["weights", "rows", "size", "found", "k", "total", "row"]
theorem sc_law_combine : FnScope NCB ["weights", "rows", "size"] (defScope s_law_combine) := ⟨rfl, rfl, rfl, by decide +kernel, rfl, by decide +kernel, by decide +kernel⟩
def sp_combine (T : List Addr) : Sp := fun vs H Q _ => ∃ (M M1 M2 : List Addr) (v1 v2 : V) (ws : List Rat) (m : List (List Rat)) (n D1 N1 D2 N2 : Nat), vs = [v1, v2, .int (n : Int)] ∧ DvS M1 H v1 ws ∧ DvR M2 H v2 m ∧ ws.length = m.length ∧ ws.length ≤ 48 ∧ n ≤ 48 ∧ (∀ r ∈ m, r.length = n) ∧ (∀ q ∈ ws, Bl' D1 N1 q) ∧ (∀ r ∈ m, ∀ q ∈ r, Bl' D2 N2 q) ∧
  1 ≤ D1 ∧ 1 ≤ D2 ∧ D1 * D2 < 2 ^ 18000 ∧ N1 < 2 ^ 40000 ∧ N2 < 2 ^ 40000 ∧ (∀ b ∈ M, H b ≠ none) ∧ Tabs T H ∧ ∀ u H', Go T [] H H' → Tabs T H' → Dv M H' u (rowQ (combQ ws m n)) → Q u H'
section
variable {P : Program} {w : World} {K : PySem.W.Frag} {mg : Str → Option Value} {base : Heap} {f c CK CN CT CR : Addr} {fd : FuncData} {T : List Addr}
theorem ok_law_combine (F : Fun K "_law_combine" "_law_combine" s_law_combine f fd) (B : Bl mg) (Ft : Fnn P w K mg base CX0 1 "_law_total" ["ones", "others"] (sp_total T)) (Fr : Fnn P w K mg base CX0 33 "_law_ratio" ["top", "bottom"] sp_lratio) : FnOk P w K mg base CX0 34 f fd ["weights", "rows", "size"] (sp_combine T) := by
  refine F.ok sc_law_combine (fun vs H Q E h => ?_) (fun cdv A outer s H vs Q E hr h => ?_)
  · obtain ⟨_, _, _, _, _, _, _, _, _, _, _, _, rfl, _⟩ := h
    rfl
  have nd := sc_law_combine.nd
  have nn : ∀ b : Addr, b ∉ ([] : List Addr) := fun b => List.not_mem_nil
  obtain ⟨M, M1, M2, v1, v2, ws, m, n, D1, N1, D2, N2, rfl, hv1, hv2, hl, h48, hn48, hrl, hb1, hb2, hD1, hD2, hDD, hN1, hN2, hM, ht, q⟩ := h
  refine ⟨_, pss_cons (ps_set (i := 3) nd rfl (.inl rfl) (pe_lst pa_nil))
    (pss_cons (ps_for PassesOwn.never rfl (pi_range1 (by rfl) B.range (pa_cons (pv 2) pa_nil)) (pg_name (i := 4) nd rfl (.inr rfl))
      (pss_cons (ps_set (i := 5) nd rfl (.inl rfl) (pe_fn Ft hr (by decide) pass0 (pa_cons (pv 0) (pa_cons (pe_lc (own := [("row", 6)]) (g := gName 6) (tt := tYes) (te := tOp (rIxT K) (tVar 6) (tVar 4)) rfl nd (pi_seq (pv 1))
        (blkOk_by (own := [("row", 6)]) (N := NCB) (sc := defScope s_law_combine) (by decide +kernel)) (fun _ _ _ _ _ => pg_name (i := 6) nd rfl (.inl rfl)) (fun _ _ _ _ _ => pts_nil)
        (fun _ _ _ _ _ => pe_ix ix_tup (pv 6) (pv 4) (fun _ _ => rfl))) pa_nil))))
      (pss_one (ps_expr (pe_bm PySem.F.plainAttrs_list PySem.F.slot_list_append PySem.F.type_list_append mt_append (pv 3) (pa_cons (pe_fn Fr hr (by decide) pass0 (pa_cons (pe_ix ix_tup (pv 5) pe_int (fun _ _ => rfl)) (pa_cons (pe_ix ix_tup (pv 5) pe_int (fun _ _ => rfl)) pa_nil))) pa_nil))))))
    (pss_one (ps_ret (pe_tupleOf rfl B.tuple (pv 3))))), ?_⟩
  obtain ⟨a2, xs2, rfl, s2, dx2⟩ : ∃ (a : Addr) (xs : List V), v2 = .ref a ∧ ((∀ {H' : Hp}, Go T [] H H' → SqL K H' a xs) ∨ (∀ {H' : Hp}, Go T [] H H' → SqT K H' a xs)) ∧ DvAll M2 H xs (m.map rowQ) := by
    rcases hv2 with h | h
    · obtain ⟨a, xs, rfl, ea, na, dx⟩ := dv_tup h
      exact ⟨a, xs, rfl, .inr fun g => SqT.of (g.tup ea (nn _)), dx⟩
    · cases h with
      | @lst a xs ds ea na dx => exact ⟨a, xs, rfl, .inl fun g => SqL.of (g.lst ea (nn _)), dx⟩
  have lx := dx2.length
  rw [List.length_map] at lx
  refine ⟨by show 0 ≤ sizeLine; decide, fun L hL => ?_⟩
  have g0 := Go.new (T := T) (M := []) (o := .lst []) hL
  have eL0 : upd H L (.lst []) L = some (.lst []) := upd_same
  have t0 := g0.tb ht
  generalize upd H L (.lst []) = H0 at *
  refine ⟨_, rfl, _, rfl, by omega, by omega, ?_⟩
  refine for_it (walk_range (lo := 0) (n := (((n : Nat) : Int).toNat))) (fun k σ H' => Go T [] H H' ∧ Tabs T H' ∧ ∃ p4 p5 ys, σ = [some v1, some (.ref a2), some (.int (n : Int)), some (.ref L), p4, p5, none] ∧ H' L = some (.lst ys) ∧ DvAll (L :: M) H' ys (rats (combQ ws m k)))
    ⟨g0, t0, none, none, [], rfl, eL0, .nil⟩ (fun _ _ _ _ _ => trivial) (fun k x σ H3 H4 hk h y => ?_) (fun σ H3 h => ?_)
  · obtain ⟨g3, t3, p4, p5, ys, rfl, eL3, dy⟩ := h
    obtain ⟨rfl, ey⟩ := y
    have ey2 : x = V.int (k : Int) := by rw [ey]; show V.int (0 + (k : Int)) = _; rw [Int.zero_add]
    clear ey
    subst ey2
    rw [Int.toNat_natCast] at hk
    have lcs : ∀ Qc : VK, (∀ (D : Addr) (zs : List V) (H' : Hp), Go T [] H4 H' → Tabs T H' → H4 D = none → H' D = some (.lst zs) → DvAll [] H' zs (rats (colQ m k)) → Qc (.ref D) H') →
        tLc (iSeq K (tVar 1)) (gName 6) tYes (tOp (rIxT K) (tVar 6) (tVar 4)) ([(("row" : Str), 6)].map (·.2)) [some v1, some (.ref a2), some (.int (n : Int)), some (.ref L), some (.int (k : Int)), p5, none] H4 Qc := fun Qc hQc => by
      have stepW : ∀ (D : Addr), H D = none → ∀ (j : Nat) (x : V) (H8 H9 : Hp) (R : VK), j < xs2.length → Go T [] H4 H8 → Tabs T H8 → H8 D ≠ none → (H9 = H8 ∧ xs2[j]? = some x) → (∀ v' H3, Go T [] H8 H3 → Dv [D] H3 v' ((rats (colQ m k)).getD j .none) → R v' H3) →
          gName 6 x (wipe [some v1, some (.ref a2), some (.int (n : Int)), some (.ref L), some (.int (k : Int)), p5, none] [6]) H9 fun σ2 H2 => wipe σ2 [6] = wipe [some v1, some (.ref a2), some (.int (n : Int)), some (.ref L), some (.int (k : Int)), p5, none] [6] ∧ tOp (rIxT K) (tVar 6) (tVar 4) σ2 H2 R := fun D hD0 j x H8 H9 R hj g8 t8 hne ⟨e1, ex⟩ hR => by
        subst e1
        obtain ⟨d, ed, hx⟩ := (((dx2.hide hD0).go g3.of0).go g8.of0).get ex
        rw [List.getElem?_map] at ed
        obtain ⟨r, er, rfl⟩ := Option.map_eq_some_iff.mp ed
        obtain ⟨b, zs, rfl, eb, nb, dz⟩ := dv_tup hx
        have hr := hrl r (List.mem_of_getElem? er)
        have ek : (rats r)[k]? = some (rat (r.getD k 0).num (r.getD k 0).den) := by
          unfold rats prs
          rw [List.map_map, List.getElem?_map, List.getElem?_eq_getElem (by omega), List.getD_eq_getElem?_getD, List.getElem?_eq_getElem (by omega)]
          rfl
        obtain ⟨z, ez, hz⟩ := dz.getD ek
        have eC : (rats (colQ m k)).getD j .none = rat (r.getD k 0).num (r.getD k 0).den := by
          unfold rats prs colQ
          rw [List.map_map, List.map_map, List.getD_eq_getElem?_getD, List.getElem?_map, er]
          rfl
        rw [eC] at hR
        exact ⟨rfl, _, rfl, _, rfl, b, _, (k : Int), z, rfl, rfl, SqT.of eb, atI_nat ez, hR _ _ Go.refl (hz.less fun b hb => by rw [List.mem_singleton.mp hb]; exact List.mem_cons_self ..)⟩
      have lc : (rats (colQ m k)).length = xs2.length := by
        unfold rats prs colQ
        rw [List.length_map, List.length_map, List.length_map, lx]
      have conv : (List.range xs2.length).map (fun j => (rats (colQ m k)).getD j .none) = rats (colQ m k) := by
        refine List.ext_getElem (by rw [List.length_map, List.length_range, lc]) fun i h1 h2 => ?_
        rw [List.getElem_map, List.getElem_range, List.getD_eq_getElem?_getD, List.getElem?_eq_getElem h2]
        rfl
      rcases s2 with s2 | s2
      · refine ⟨_, rfl, a2, rfl, .inl ⟨⟨_, s2 g3⟩, fun D hD => ?_⟩⟩
        exact lc_dv (T := T) (M := []) (fun j => (rats (colQ m k)).getD j .none) (walk_list (xs := xs2)) (fun H' g' => s2 (g3.trans g')) t3 Go.refl hD (by rw [sizeLine_eq]; omega) (fun j x H8 H9 R hj g8 t8 hne y hR => stepW D (g3.al _ hD) j x H8 H9 R hj g8 t8 hne y hR)
          (fun H' zs g t e d => hQc D zs H' g t hD e ((conv ▸ d).less (by simp)))
      · refine ⟨_, rfl, a2, rfl, .inr ⟨⟨_, s2 g3⟩, fun D hD => ?_⟩⟩
        exact lc_dv (T := T) (M := []) (fun j => (rats (colQ m k)).getD j .none) (walk_tup (xs := xs2)) (fun H' g' => s2 (g3.trans g')) t3 Go.refl hD (by rw [sizeLine_eq]; omega) (fun j x H8 H9 R hj g8 t8 hne y hR => stepW D (g3.al _ hD) j x H8 H9 R hj g8 t8 hne y hR)
          (fun H' zs g t e d => hQc D zs H' g t hD e ((conv ▸ d).less (by simp)))
    refine ⟨_, rfl, lcs _ fun D zs H5 g5 t5 hD ez dz => ?_⟩
    have g05 := g3.trans g5
    have lcol : (colQ m k).length = m.length := by unfold colQ; rw [List.length_map]
    refine ⟨M1, [], v1, .ref D, ws, colQ m k, D1, N1, D2, N2, rfl, hv1.go g05.of0, .inr (.lst ez (nn _) dz), by omega, h48, hb1, fun q hq => ?_, hD1, hD2, hDD, hN1, hN2, t5, fun p t b H6 hp g6 t6 ep hb0 _ _ he => ?_⟩
    · obtain ⟨r, hr1, rfl⟩ := List.mem_map.mp hq
      rw [List.getD_eq_getElem?_getD, List.getElem?_eq_getElem (by rw [hrl r hr1]; exact hk)]
      exact hb2 r hr1 _ (List.getElem_mem _)
    have g56 := g5.trans g6
    have eL6 := g56.lst eL3 (nn _)
    have dy6 := dy.go g56.of0
    refine ⟨_, rfl, .inl ⟨rfl, _, SqL.of eL6⟩, _, rfl, p, _, 0, _, rfl, rfl, SqT.of ep, atI_nat (j := 0) rfl, _, rfl, p, _, 1, _, rfl, rfl, SqT.of ep, atI_nat (j := 1) rfl, t, b, rfl, hb0, fun P1 hP1 => ?_⟩
    rw [he]
    have g7 := Go.new (T := T) (M := []) (o := .tup [.int (dotQ ws (colQ m k)).num, .int ((dotQ ws (colQ m k)).den : Int)]) hP1
    have eL7 := g7.lst eL6 (nn _)
    have dy7 := dy6.go g7.of0
    have t7 := g7.tb t6
    have g07 := (g3.trans g56).trans g7
    have nP : P1 ∉ L :: M := fun z => by
      rcases List.mem_cons.mp z with z | z
      · rw [z, eL6] at hP1; cases hP1
      · exact hM _ z ((g3.trans g56).al _ hP1)
    have dP : Dv (L :: M) (upd H6 P1 (.tup [.int (dotQ ws (colQ m k)).num, .int ((dotQ ws (colQ m k)).den : Int)])) (.ref P1) (rat (dotQ ws (colQ m k)).num (dotQ ws (colQ m k)).den) := .tup upd_same nP (.cons (.int _) (.cons (.int _) .nil))
    generalize upd H6 P1 (.tup [.int (dotQ ws (colQ m k)).num, .int ((dotQ ws (colQ m k)).den : Int)]) = H7 at *
    have ly := dy7.length
    have ly2 : ys.length = k := by
      rw [ly]
      unfold rats prs combQ
      rw [List.length_map, List.length_map, List.length_map, List.length_range]
    refine ⟨L, ys, .ref P1, rfl, rfl, eL7, by rw [sizeLine_eq]; omega, ?_⟩
    have gs := Go.set (T := T) (M := L :: M) (o := .lst (ys ++ [.ref P1])) eL7 (fun _ z => by cases z) (List.mem_cons_self ..)
    refine ⟨g07.over hL eL7 (fun _ z => by cases z), gs.tb t7, _, _, ys ++ [.ref P1], rfl, upd_same, ?_⟩
    have e : rats (combQ ws m (k + 1)) = rats (combQ ws m k) ++ [rat (dotQ ws (colQ m k)).num (dotQ ws (colQ m k)).den] := by
      unfold rats prs combQ
      rw [List.range_succ, List.map_append, List.map_append, List.map_append]
      rfl
    rw [e]
    exact DvAll.append (dy7.go gs) (.cons (dP.go gs) .nil)
  · obtain ⟨g3, t3, p4, p5, ys, rfl, eL3, dy⟩ := h
    rw [Int.toNat_natCast] at dy
    refine ⟨_, rfl, .inl ⟨L, ys, rfl, SqL.of eL3, fun R hR => ?_⟩⟩
    have u := Go.new (T := T) (M := []) (o := .tup ys) hR
    exact q _ _ (g3.trans u) (u.tb t3) (.tup upd_same (fun z => hM _ z (g3.al _ hR)) ((dy.less fun b hb => List.mem_cons_of_mem _ hb).go u.of0))
end
end KN
set_option Elab.async false
set_option linter.all false
set_option maxRecDepth 100000
set_option maxHeartbeats 8000000
/-! k39: _law_right -/
namespace KN
open PySem PySem.Spec PyProof.Rows L2 GxR NdefX GA SL ZN RZ
abbrev s_law_right : Stmt := top 37
abbrev NRT : List Str := ["found", "rows", "target", "k", "row"]
theorem sc_law_right : FnScope NRT ["found", "rows", "target"] (defScope s_law_right) := ⟨rfl, rfl, rfl, by decide +kernel, rfl, by decide +kernel, by decide +kernel⟩
/-- what is told of rows and a target -/
inductive Told (D N : Nat) (m : List (List Rat)) (t : List Rat) : PyData → Prop
  | made (ws : List Rat) : ws.length = m.length → (∀ q ∈ ws, Bl' D N q) → (∀ k < t.length, dotQ ws (colQ m k) = t.getD k 0) → Told D N m t (.tuple [.str "made", rowQ ws])
  | apart (ms : List Rat) : ms.length = t.length → (∀ q ∈ ms, Bl' D N q) → (∀ r ∈ m, dotQ ms r = 0) → dotQ ms t = 1 → Told D N m t (.tuple [.str "apart", rowQ ms])
def sp_right (T : List Addr) : Sp := fun vs H Q _ => ∃ (M1 M2 M3 : List Addr) (v1 v2 v3 : V) (d : PyData) (m : List (List Rat)) (t : List Rat) (D1 N1 D2 N2 : Nat), vs = [v1, v2, v3] ∧ Dv M1 H v1 d ∧ Dv M2 H v2 (.tuple (m.map rowQ)) ∧ Dv M3 H v3 (rowQ t) ∧ Told D1 N1 m t d ∧ m.length ≤ 48 ∧ t.length ≤ 48 ∧ (∀ r ∈ m, r.length = t.length) ∧ (∀ r ∈ m, ∀ q ∈ r, Bl' D2 N2 q) ∧ (∀ q ∈ t, Bl' D2 N2 q) ∧
  1 ≤ D1 ∧ 1 ≤ D2 ∧ D1 * D2 < 2 ^ 18000 ∧ N1 < 2 ^ 40000 ∧ N2 < 2 ^ 40000 ∧ Tabs T H ∧ ∀ H', Go T [] H H' → Tabs T H' → Q (.bl true) H'
theorem eq_of_q {t b : Int} {q : Rat} (hb : 0 < b) (h : Rat.divInt t b = q) : t * (q.den : Int) = q.num * b := by
  have h1 : Rat.divInt t b = Rat.divInt q.num (q.den : Int) := by rw [h, Rat.num_divInt_den]
  exact (Rat.divInt_eq_divInt_iff (by omega) (by have := q.den_pos; omega)).mp h1
section
variable {P : Program} {w : World} {K : PySem.W.Frag} {mg : Str → Option Value} {base : Heap} {f c CK CN CT CR : Addr} {fd : FuncData} {T : List Addr}
theorem ok_law_right (F : Fun K "_law_right" "_law_right" s_law_right f fd) (B : Bl mg) (Fv : Fnn P w K mg base CX0 35 "_law_is_vector" ["found", "size"] (sp_lisvec T)) (Fe : Fnn P w K mg base CX0 1 "_law_equals" ["total", "ratio"] sp_equals) (Ft : Fnn P w K mg base CX0 1 "_law_total" ["ones", "others"] (sp_total T)) :
    FnOk P w K mg base CX0 36 f fd ["found", "rows", "target"] (sp_right T) := by
  refine F.ok sc_law_right (fun vs H Q E h => ?_) (fun cdv A outer s H vs Q E hr h => ?_)
  · obtain ⟨_, _, _, _, _, _, _, _, _, _, _, _, _, rfl, _⟩ := h
    rfl
  have nd := sc_law_right.nd
  have nn : ∀ b : Addr, b ∉ ([] : List Addr) := fun b => List.not_mem_nil
  obtain ⟨M1, M2, M3, v1, v2, v3, d, m, t, D1, N1, D2, N2, rfl, hv1, hv2, hv3, hd, hm48, ht48, hrl, hb2, hb3, hD1, hD2, hDD, hN1, hN2, ht, q⟩ := h
  refine ⟨_, pss_cons (ps_if (PW.pt (pw_or (pt_not (pt_val (pe_isi_tuple B (pv 0)))) (pw_or (pt_cmpR op_ne (pe_lenq B (pv 0)) pe_int (nomark _)) (pw_or1 (pt_not (pt_val (pe_isi_str B (pe_ix ix_tup (pv 0) pe_int (fun _ _ => rfl))))))))) (pss_one (ps_ret pe_bl)) pss_nil)
    (pss_cons (ps_if (pt_cmpR op_eq (pe_ix ix_tup (pv 0) pe_int (fun _ _ => rfl)) pe_str (nomark _))
      (pss_cons (ps_if (pt_not (pt_val (pe_fn Fv hr (by decide) pass0 (pa_cons (pe_ix ix_tup (pv 0) pe_int (fun _ _ => rfl)) (pa_cons (pe_lenq B (pv 1)) pa_nil))))) (pss_one (ps_ret pe_bl)) pss_nil)
      (pss_cons (ps_for PassesOwn.never rfl (pi_range1 (by rfl) B.range (pa_cons (pe_lenq B (pv 2)) pa_nil)) (pg_name (i := 3) nd rfl (.inr rfl))
        (pss_one (ps_if (pt_not (pt_val (pe_fn Fe hr (by decide) pass0 (pa_cons (pe_fn Ft hr (by decide) pass0 (pa_cons (pe_ix ix_tup (pv 0) pe_int (fun _ _ => rfl)) (pa_cons (pe_lc (own := [("row", 4)]) (g := gName 4) (tt := tYes) (te := tOp (rIxT K) (tVar 4) (tVar 3)) rfl nd (pi_tup (pv 1))
            (blkOk_by (own := [("row", 4)]) (N := NRT) (sc := defScope s_law_right) (by decide +kernel)) (fun _ _ _ _ _ => pg_name (i := 4) nd rfl (.inl rfl)) (fun _ _ _ _ _ => pts_nil)
            (fun _ _ _ _ _ => pe_ix ix_tup (pv 4) (pv 3) (fun _ _ => rfl))) pa_nil))) (pa_cons (pe_ix ix_tup (pv 2) (pv 3) (fun _ _ => rfl)) pa_nil))))) (pss_one (ps_ret pe_bl)) pss_nil)))
      (pss_one (ps_ret pe_bl)))) pss_nil)
    (pss_cons (ps_if (PW.pt (pw_or (pt_cmpR op_ne (pe_ix ix_tup (pv 0) pe_int (fun _ _ => rfl)) pe_str (nomark _)) (pw_or1 (pt_not (pt_val (pe_fn Fv hr (by decide) pass0 (pa_cons (pe_ix ix_tup (pv 0) pe_int (fun _ _ => rfl)) (pa_cons (pe_lenq B (pv 2)) pa_nil)))))))) (pss_one (ps_ret pe_bl)) pss_nil)
    (pss_cons (ps_for PassesOwn.never rfl (pi_tup (pv 1)) (pg_name (i := 4) nd rfl (.inl rfl))
      (pss_one (ps_if (pt_cmpR op_ne (pe_ix ix_tup (pe_fn Ft hr (by decide) pass0 (pa_cons (pe_ix ix_tup (pv 0) pe_int (fun _ _ => rfl)) (pa_cons (pv 4) pa_nil))) pe_int (fun _ _ => rfl)) pe_int (nomark _)) (pss_one (ps_ret pe_bl)) pss_nil)))
    (pss_one (ps_ret (pe_fn Fe hr (by decide) pass0 (pa_cons (pe_fn Ft hr (by decide) pass0 (pa_cons (pe_ix ix_tup (pv 0) pe_int (fun _ _ => rfl)) (pa_cons (pv 2) pa_nil))) (pa_cons (pe_tup (pa_cons pe_int (pa_cons pe_int pa_nil))) pa_nil)))))))), ?_⟩
  obtain ⟨a2, xs2, rfl, ea2, na2, dx2⟩ := dv_tup hv2
  have lx2 := dx2.length
  rw [List.length_map] at lx2
  have hv3' := hv3
  obtain ⟨a3, xs3, rfl, ea3, na3, dx3⟩ := dv_tup hv3
  have lx3 := dx3.length
  rw [List.length_map, prs, List.length_map] at lx3
  have hv1' := hv1
  have d2lt : D2 < 2 ^ 40000 := Nat.lt_of_le_of_lt (Nat.le_mul_of_pos_left D2 hD1) (Nat.lt_trans hDD (Nat.pow_lt_pow_right (by decide) (by decide)))
  cases hd with
  | made ws hl hb1 hw =>
    obtain ⟨r, vx, vy, rfl, er, nr, hvx, hvy⟩ := dv_pair hv1
    cases hvx
    refine ⟨_, rfl, _, _, _, rfl, hv1', _, rfl, iteF ?_⟩
    refine ⟨_, rfl, r, _, rfl, .inr (SqT.of er), rfl, _, rfl, ?_⟩
    refine if_false_of (by simp) ?_
    refine ⟨_, rfl, r, _, 0, _, rfl, rfl, SqT.of er, atI_nat (j := 0) rfl, _, _, _, rfl, Dv.str (M := []) _, _, rfl, iteF ?_⟩
    refine ⟨_, rfl, r, _, 0, _, rfl, rfl, SqT.of er, atI_nat (j := 0) rfl, rfl, _, rfl, ?_⟩
    refine if_true_of (decide_eq_true rfl) ?_
    refine ⟨_, rfl, r, _, 1, _, rfl, rfl, SqT.of er, atI_nat (j := 1) rfl, _, rfl, a2, xs2, rfl, .inr (SqT.of ea2), M1, vy, ws, congrArg (fun z : Int => [vy, V.int z]) (show ((xs2.length : Nat) : Int) = (ws.length : Int) by rw [lx2, hl]), hvy, by omega, ht, fun H1 g1 t1 => ⟨_, rfl, iteF ?_⟩⟩
    refine ⟨_, rfl, a3, xs3, rfl, .inr (SqT.of (g1.tup ea3 (nn _))), ?_⟩
    refine ⟨_, rfl, by omega, by omega, ?_⟩
    refine for_it (walk_range (lo := 0) (n := (((xs3.length : Nat) : Int).toNat))) (fun k σ H' => Go T [] H H' ∧ Tabs T H' ∧ ∃ p3, σ = [some (.ref r), some (.ref a2), some (.ref a3), p3, none]) ⟨g1, t1, none, rfl⟩ (fun _ _ _ _ _ => trivial) (fun k x σ H3 H4 hk h y => ?_) (fun σ H3 h => ?_)
    · obtain ⟨g3, t3, p3, rfl⟩ := h
      obtain ⟨rfl, ey⟩ := y
      have ey2 : x = V.int (k : Int) := by rw [ey]; show V.int (0 + (k : Int)) = _; rw [Int.zero_add]
      clear ey
      subst ey2
      rw [Int.toNat_natCast, lx3] at hk
      have er4 := g3.tup er (nn _)
      refine ⟨_, rfl, r, _, 1, _, rfl, rfl, SqT.of er4, atI_nat (j := 1) rfl, _, rfl, a2, rfl, ⟨_, SqT.of (g3.tup ea2 (nn _))⟩, fun D hD => ?_⟩
      have lc : (rats (colQ m k)).length = xs2.length := by
        unfold rats prs colQ
        rw [List.length_map, List.length_map, List.length_map, lx2]
      have conv : (List.range xs2.length).map (fun j => (rats (colQ m k)).getD j .none) = rats (colQ m k) := by
        refine List.ext_getElem (by rw [List.length_map, List.length_range, lc]) fun i h1 h2 => ?_
        rw [List.getElem_map, List.getElem_range, List.getD_eq_getElem?_getD, List.getElem?_eq_getElem h2]
        rfl
      refine lc_dv (T := T) (M := []) (fun j => (rats (colQ m k)).getD j .none) (walk_tup (xs := xs2)) (fun H' g' => SqT.of ((g3.trans g').tup ea2 (nn _))) t3 Go.refl hD (by rw [sizeLine_eq]; omega) (fun j x H8 H9 Rt hj g8 t8 hne y hR => ?_) (fun H5 zs g5 t5 ez dz => ?_)
      · obtain ⟨rfl, ex⟩ := y
        obtain ⟨d, ed, hx⟩ := (((dx2.hide (g3.al _ hD)).go g3.of0).go g8.of0).get ex
        rw [List.getElem?_map] at ed
        obtain ⟨rr, err, rfl⟩ := Option.map_eq_some_iff.mp ed
        obtain ⟨b, zs, rfl, eb, nb, dz⟩ := dv_tup hx
        have hr := hrl rr (List.mem_of_getElem? err)
        have ek : (rats rr)[k]? = some (rat (rr.getD k 0).num (rr.getD k 0).den) := by
          unfold rats prs
          rw [List.map_map, List.getElem?_map, List.getElem?_eq_getElem (by omega), List.getD_eq_getElem?_getD, List.getElem?_eq_getElem (by omega)]
          rfl
        obtain ⟨z, ez, hz⟩ := dz.getD ek
        have eC : (rats (colQ m k)).getD j .none = rat (rr.getD k 0).num (rr.getD k 0).den := by
          unfold rats prs colQ
          rw [List.map_map, List.map_map, List.getD_eq_getElem?_getD, List.getElem?_map, err]
          rfl
        rw [eC] at hR
        exact ⟨rfl, _, rfl, _, rfl, b, _, (k : Int), z, rfl, rfl, SqT.of eb, atI_nat ez, hR _ _ Go.refl (hz.less fun b hb => by rw [List.mem_singleton.mp hb]; exact List.mem_cons_self ..)⟩
      · rw [conv] at dz
        have g35 := g3.trans g5
        have lcol : (colQ m k).length = m.length := by unfold colQ; rw [List.length_map]
        have tm : t.getD k 0 ∈ t := by rw [List.getD_eq_getElem?_getD, List.getElem?_eq_getElem hk]; exact List.getElem_mem _
        refine ⟨M1, [], vy, .ref D, ws, colQ m k, D1, N1, D2, N2, rfl, .inl (hvy.go g35.of0), .inr (.lst ez (nn _) (dz.less (by simp))), by omega, by omega, hb1, fun q' hq' => ?_, hD1, hD2, hDD, hN1, hN2, t5, fun p tt b H6 hp g6 t6 ep hb0 hb9 ht9 he => ?_⟩
        · obtain ⟨rr, hr1, rfl⟩ := List.mem_map.mp hq'
          rw [List.getD_eq_getElem?_getD, List.getElem?_eq_getElem (by rw [hrl rr hr1]; exact hk)]
          exact hb2 rr hr1 _ (List.getElem_mem _)
        have g36 := g35.trans g6
        obtain ⟨r3, ex3, er3, _⟩ := rat_at (dx3.go g36.of0) hk
        have tb := hb3 _ tm
        refine ⟨_, rfl, _, rfl, a3, _, (k : Int), _, rfl, rfl, SqT.of (g36.tup ea3 (nn _)), atI_nat ex3, p, r3, tt, b, _, _, rfl, ep, er3, hb9, ht9, Nat.lt_of_le_of_lt tb.2 hN2, Nat.lt_of_le_of_lt (show ((t.getD k 0).den : Int).natAbs ≤ D2 from tb.1) d2lt, ?_⟩
        refine ⟨_, rfl, ?_⟩
        rw [decide_eq_true (eq_of_q hb0 (he.trans (hw k hk)))]
        refine iteF ?_
        exact ⟨g36, t6, _, rfl⟩
    · obtain ⟨g3, t3, p3, rfl⟩ := h
      exact q _ g3 t3
  | apart ms hl hb1 hz h1 =>
    obtain ⟨r, vx, vy, rfl, er, nr, hvx, hvy⟩ := dv_pair hv1
    cases hvx
    refine ⟨_, rfl, _, _, _, rfl, hv1', _, rfl, iteF ?_⟩
    refine ⟨_, rfl, r, _, rfl, .inr (SqT.of er), rfl, _, rfl, ?_⟩
    refine if_false_of (by simp) ?_
    refine ⟨_, rfl, r, _, 0, _, rfl, rfl, SqT.of er, atI_nat (j := 0) rfl, _, _, _, rfl, Dv.str (M := []) _, _, rfl, iteF ?_⟩
    refine ⟨_, rfl, r, _, 0, _, rfl, rfl, SqT.of er, atI_nat (j := 0) rfl, rfl, _, rfl, ?_⟩
    refine if_false_of (by decide +kernel) ?_
    refine ⟨_, rfl, r, _, 0, _, rfl, rfl, SqT.of er, atI_nat (j := 0) rfl, rfl, _, rfl, ?_⟩
    refine if_false_of (by decide +kernel) ?_
    refine ⟨_, rfl, r, _, 1, _, rfl, rfl, SqT.of er, atI_nat (j := 1) rfl, _, rfl, a3, xs3, rfl, .inr (SqT.of ea3), M1, vy, ms, congrArg (fun z : Int => [vy, V.int z]) (show ((xs3.length : Nat) : Int) = (ms.length : Int) by rw [lx3, hl]), hvy, by omega, ht, fun H1 g1 t1 => ⟨_, rfl, iteF ?_⟩⟩
    refine ⟨_, rfl, a2, rfl, ⟨_, SqT.of (g1.tup ea2 (nn _))⟩, ?_⟩
    refine for_it (n := xs2.length) walk_tup (fun k σ H' => Go T [] H H' ∧ Tabs T H' ∧ ∃ p4, σ = [some (.ref r), some (.ref a2), some (.ref a3), none, p4]) ⟨g1, t1, none, rfl⟩ (fun _ _ H' _ ⟨g', _⟩ => SqT.of (g'.tup ea2 (nn _))) (fun k x σ H3 H4 hk h y => ?_) (fun σ H3 h => ?_)
    · obtain ⟨g3, t3, p4, rfl⟩ := h
      obtain ⟨rfl, ex⟩ := y
      obtain ⟨d, ed, hx⟩ := (dx2.go g3.of0).get ex
      rw [List.getElem?_map] at ed
      obtain ⟨rr, err, rfl⟩ := Option.map_eq_some_iff.mp ed
      have hm := List.mem_of_getElem? err
      have er4 := g3.tup er (nn _)
      refine ⟨_, rfl, r, _, 1, _, rfl, rfl, SqT.of er4, atI_nat (j := 1) rfl, _, rfl, M1, M2, vy, x, ms, rr, D1, N1, D2, N2, rfl, .inl (hvy.go g3.of0), .inl hx, by rw [hl, hrl rr hm], by omega, hb1, hb2 rr hm, hD1, hD2, hDD, hN1, hN2, t3, fun p tt b H6 hp g6 t6 ep hb0 hb9 ht9 he => ?_⟩
      rw [hz rr hm] at he
      have z0 : tt = 0 := by
        have := eq_of_q hb0 he
        simpa using this
      subst z0
      refine ⟨p, _, 0, _, rfl, rfl, SqT.of ep, atI_nat (j := 0) rfl, rfl, _, rfl, ?_⟩
      refine if_false_of (by decide +kernel) ?_
      exact ⟨g3.trans g6, t6, _, rfl⟩
    · obtain ⟨g3, t3, p4, rfl⟩ := h
      have er4 := g3.tup er (nn _)
      refine ⟨_, rfl, r, _, 1, _, rfl, rfl, SqT.of er4, atI_nat (j := 1) rfl, _, rfl, M1, M3, vy, .ref a3, ms, t, D1, N1, D2, N2, rfl, .inl (hvy.go g3.of0), .inl (hv3'.go g3.of0), hl, by omega, hb1, hb3, hD1, hD2, hDD, hN1, hN2, t3, fun p tt b H6 hp g6 t6 ep hb0 hb9 ht9 he => ?_⟩
      rw [h1] at he
      refine ⟨by show 2 ≤ sizeLine; decide, fun o ho => ?_⟩
      have g7 := Go.new (T := T) (M := []) (o := .tup [V.int 1, V.int 1]) ho
      refine ⟨p, o, tt, b, 1, 1, rfl, g7.tup ep (nn _), upd_same, hb9, ht9, Nat.one_lt_two_pow (by decide), Nat.one_lt_two_pow (by decide), ?_⟩
      have e1 := eq_of_q hb0 he
      have e2 : ((1 : Rat).den : Int) = 1 := rfl
      have e3 : (1 : Rat).num = 1 := rfl
      rw [e2, e3] at e1
      rw [decide_eq_true e1]
      exact q _ ((g3.trans g6).trans g7) (g7.tb t6)
end
end KN
set_option Elab.async false
set_option linter.all false
set_option maxRecDepth 100000
set_option maxHeartbeats 8000000
/-! k39: what made_of tells, as a function of its rows and its target; that it is right -/
namespace KN
open PySem PySem.Spec PyProof.Rows L2 GxR NdefX GA SL ZN RZ
open SQ (ent row piv padOf totP restP freshOf putRows restOf sumQ sumN marksF)
/-- the first place within the width whose entry is not 0 -/
def firstQ (w : Nat) (xs : List Int) : Option Nat := (List.range w).find? fun e => decide (ent xs e ≠ 0)
theorem firstQ_some {w q : Nat} {xs : List Int} (hq : q < w) (h0 : ent xs q ≠ 0) (hf : ∀ e < q, ent xs e = 0) : firstQ w xs = some q := by
  unfold firstQ
  rw [List.find?_range_eq_some]
  exact ⟨by simp [h0], List.mem_range.mpr hq, fun j hj => by simp [hf j hj]⟩
theorem firstQ_none {w : Nat} {xs : List Int} (h : ∀ e < w, ent xs e = 0) : firstQ w xs = none := by
  unfold firstQ
  rw [List.find?_eq_none]
  intro e he
  simp [h e (List.mem_range.mp he)]
theorem firstQ_cases (w : Nat) (xs : List Int) : (firstQ w xs = none ∧ ∀ e < w, ent xs e = 0) ∨ ∃ q, firstQ w xs = some q ∧ q < w ∧ ent xs q ≠ 0 ∧ ∀ e < q, ent xs e = 0 := by
  cases h : firstQ w xs with
  | none =>
    unfold firstQ at h
    rw [List.find?_eq_none] at h
    refine .inl ⟨rfl, fun e he => ?_⟩
    have := h e (List.mem_range.mpr he)
    simpa using this
  | some q =>
    unfold firstQ at h
    rw [List.find?_range_eq_some] at h
    obtain ⟨h1, h2, h3⟩ := h
    exact .inr ⟨q, rfl, List.mem_range.mp h2, by simpa using h1, fun e he => by simpa using h3 e he⟩
/-- what stands in the span, and the places kept -/
structure Sta where
  ts : List (List Int)
  ps : List Nat
  rs : List (List Int)
  bs : List Int
  ks : List Nat
abbrev topsQ (r : List Rat) : List Int := tops (prs r)
abbrev lowQ (r : List Rat) : Nat := lcms (prs r)
def stepS (w : Nat) (s : Sta) (i : Nat) (r : List Rat) : Sta :=
  match firstQ w (restP s.ps s.rs (topsQ r)) with
  | none => s
  | some q => ⟨s.ts ++ [topsQ r], s.ps ++ [q], putRows s.ps s.rs (topsQ r) q, s.bs ++ [(lowQ r : Int)], s.ks ++ [i]⟩
def runS (w : Nat) (m : List (List Rat)) : Nat → Sta
  | 0 => ⟨[], [], [], [], []⟩
  | i + 1 => stepS w (runS w m i) i (m.getD i [])
/-- an entry over the common bottom -/
theorem tops_ent {r : List Rat} {e : Nat} (he : e < r.length) : (ent (topsQ r) e : Rat) = r.getD e 0 * (lowQ r : Rat) := by
  have hm : (prs r)[e]? = some (r[e].num, (r[e].den : Int)) := by
    unfold prs
    rw [List.getElem?_map, List.getElem?_eq_getElem he]
    rfl
  have e1 : ent (topsQ r) e = r[e].num * ((lowQ r : Int) / (r[e].den : Int)) := by
    unfold topsQ tops SQ.ent
    rw [List.getD_eq_getElem?_getD, List.getElem?_map, hm]
    rfl
  rw [e1, List.getD_eq_getElem?_getD, List.getElem?_eq_getElem he]
  exact over_cast (lcms_mem (List.mem_of_getElem? hm))
theorem lowQ_pos (r : List Rat) : 0 < lowQ r := lcms_pos (prs_pos (qs := r))
theorem lowQ_ne (r : List Rat) : (lowQ r : Rat) ≠ 0 := by
  have := lowQ_pos r
  exact fun e => (Nat.ne_of_gt this) (by exact_mod_cast e)
theorem ent_div {r : List Rat} {e : Nat} (he : e < r.length) : Rat.divInt (ent (topsQ r) e) (lowQ r : Int) = r.getD e 0 := by
  have h1 := lowQ_ne r
  rw [Rat.divInt_eq_div, tops_ent he]
  show r.getD e 0 * (lowQ r : Rat) / (lowQ r : Rat) = _
  exact Rat.mul_div_cancel h1
/-- the sum of products, by places -/
theorem dotQ_sum : ∀ {a b : List Rat}, a.length = b.length → dotQ a b = sumQ a.length fun i => a.getD i 0 * b.getD i 0 := by
  intro a b h
  have key : ∀ k ≤ a.length, dotQ (a.take k) (b.take k) = sumQ k fun i => a.getD i 0 * b.getD i 0 := by
    intro k
    induction k with
    | zero => intro _; rw [List.take_zero, dotQ_nil]; rfl
    | succ k ih =>
      intro hk
      have e1 : a[k]? = some (a.getD k 0) := by rw [List.getD_eq_getElem?_getD, List.getElem?_eq_getElem (show k < a.length by omega)] <;> rfl
      have e2 : b[k]? = some (b.getD k 0) := by rw [List.getD_eq_getElem?_getD, List.getElem?_eq_getElem (show k < b.length by omega)] <;> rfl
      rw [List.take_add_one, List.take_add_one, e1, e2]
      show dotQ (a.take k ++ [a.getD k 0]) (b.take k ++ [b.getD k 0]) = sumQ k _ + _
      rw [dotQ_snoc _ _ (by rw [List.length_take, List.length_take]; omega), ih (by omega)]
  have := key a.length (Nat.le_refl _)
  rw [List.take_length, h, List.take_length] at this
  rw [this, h]
/-- what a vector of the law must be -/
structure VecQ (w B : Nat) (r : List Rat) : Prop where
  l : r.length = w
  low : lowQ r < 2 ^ 2000
  num : ∀ q ∈ r, q.num.natAbs < 2 ^ 9000
  b : ∀ e, (ent (topsQ r) e).natAbs ≤ B
theorem VecQ.ok {w B : Nat} {r : List Rat} (h : VecQ w B r) : VecOk w B (prs r) := by
  refine ⟨by rw [prs, List.length_map]; exact h.l, prs_pos, Nat.lt_trans h.low (Nat.pow_lt_pow_right (by decide) (by decide)), fun x hx => ?_, h.b⟩
  obtain ⟨q, hq, rfl⟩ := List.mem_map.mp hx
  exact h.num q hq
/-- after i rows -/
structure Run (w m B : Nat) (rows : List (List Rat)) (i : Nat) (s : Sta) : Prop where
  kp : Kp w m B s.ts s.ps s.rs
  lb : s.bs.length = s.ts.length
  lk : s.ks.length = s.ts.length
  at_ : ∀ j < s.ts.length, s.ks.getD j 0 < i ∧ row s.ts j = topsQ (rows.getD (s.ks.getD j 0) []) ∧ ent s.bs j = (lowQ (rows.getD (s.ks.getD j 0) []) : Int)
  inc : ∀ j k, j < k → k < s.ts.length → s.ks.getD j 0 < s.ks.getD k 0
  made : ∀ k < i, ∃ c : Nat → Rat, ∀ e < w, (rows.getD k []).getD e 0 = sumQ s.ts.length fun j => c j * (ent (row s.ts j) e : Rat)
theorem getD_left {α : Type} {xs : List α} {y d : α} {j : Nat} (h : j < xs.length) : (xs ++ [y]).getD j d = xs.getD j d := by
  rw [List.getD_eq_getElem?_getD, List.getD_eq_getElem?_getD, List.getElem?_append_left h]
theorem getD_last {α : Type} {xs : List α} {y d : α} : (xs ++ [y]).getD xs.length d = y := by
  rw [List.getD_eq_getElem?_getD, List.getElem?_append_right (Nat.le_refl _), Nat.sub_self]
  rfl
theorem Run.zero {w m B : Nat} {rows : List (List Rat)} (hB : 1 ≤ B) (h48 : w ≤ 48) (m1 : 1 ≤ m) (wm : w ≤ m) (big : (2 * m * B) ^ m < 2 ^ 4000) : Run w m B rows 0 ⟨[], [], [], [], []⟩ :=
  ⟨⟨SQ.Sp.nil w, hB, fun j hj => absurd hj (Nat.not_lt_zero _), h48, m1, wm, big⟩, rfl, rfl, fun j hj => absurd hj (Nat.not_lt_zero _), fun j k _ hk => absurd hk (Nat.not_lt_zero _), fun k hk => absurd hk (Nat.not_lt_zero _)⟩
theorem Run.step {w m B i : Nat} {rows : List (List Rat)} {s : Sta} (h : Run w m B rows i s) (hr : VecQ w B (rows.getD i [])) : Run w m B rows (i + 1) (stepS w s i (rows.getD i [])) := by
  have hl : (topsQ (rows.getD i [])).length = w := hr.ok.len
  have L0 := lowQ_ne (rows.getD i [])
  unfold stepS
  rcases firstQ_cases w (restP s.ps s.rs (topsQ (rows.getD i []))) with ⟨e0, hz⟩ | ⟨q, e0, hq, hq0, hqf⟩
  · rw [e0]
    refine ⟨h.kp, h.lb, h.lk, fun j hj => ⟨Nat.lt_succ_of_lt (h.at_ j hj).1, (h.at_ j hj).2⟩, h.inc, fun k hk => ?_⟩
    by_cases c : k < i
    · exact h.made k c
    · have ek : k = i := by omega
      subst ek
      have tp := h.kp.tot_pos (t := topsQ (rows.getD k []))
      have tq : ((totP s.ps s.rs (topsQ (rows.getD k [])) : Int) : Rat) ≠ 0 := SQ.int_ne (Int.ne_of_gt tp)
      refine ⟨fun j => (-ent (restP s.ps s.rs (topsQ (rows.getD k []))) (w + j) : Int) / (((totP s.ps s.rs (topsQ (rows.getD k [])) : Int) : Rat) * (lowQ (rows.getD k []) : Rat)), fun e he => ?_⟩
      have h1 := h.kp.sp.made hl hz he
      have h2 := tops_ent (r := rows.getD k []) (e := e) (by rw [hr.l]; exact he)
      have h3 := congrArg (fun z : Int => (z : Rat)) h1
      simp only [Rat.intCast_mul, SQ.sumN_cast] at h3
      rw [h2] at h3
      have hc : ((totP s.ps s.rs (topsQ (rows.getD k [])) : Int) : Rat) * (lowQ (rows.getD k []) : Rat) ≠ 0 := fun z => (Rat.mul_eq_zero.mp z).elim tq L0
      refine SQ.mul_left_cancel' hc ?_
      rw [← SQ.sumQ_mul]
      have e4 : sumQ s.ts.length (fun j => (((totP s.ps s.rs (topsQ (rows.getD k [])) : Int) : Rat) * (lowQ (rows.getD k []) : Rat)) * ((-ent (restP s.ps s.rs (topsQ (rows.getD k []))) (w + j) : Int) / (((totP s.ps s.rs (topsQ (rows.getD k [])) : Int) : Rat) * (lowQ (rows.getD k []) : Rat)) * (ent (row s.ts j) e : Rat))) = sumQ s.ts.length fun j => ((-ent (restP s.ps s.rs (topsQ (rows.getD k []))) (w + j) : Int) : Rat) * (ent (row s.ts j) e : Rat) := by
        refine SQ.sumQ_congr fun j _ => ?_
        have := Rat.div_mul_cancel (a := ((-ent (restP s.ps s.rs (topsQ (rows.getD k []))) (w + j) : Int) : Rat)) hc
        grind
      rw [e4, ← h3]
      grind
  · rw [e0]
    have hkp := h.kp.put hl hr.b hq hq0
    refine ⟨hkp, by show (s.bs ++ _).length = (s.ts ++ _).length; rw [List.length_append, List.length_append, h.lb]; rfl, by show (s.ks ++ _).length = (s.ts ++ _).length; rw [List.length_append, List.length_append, h.lk]; rfl, fun j hj => ?_, fun j k hjk hk => ?_, fun k hk => ?_⟩
    · show (s.ks ++ [i]).getD j 0 < i + 1 ∧ row (s.ts ++ [topsQ (rows.getD i [])]) j = topsQ (rows.getD ((s.ks ++ [i]).getD j 0) []) ∧ ent (s.bs ++ [(lowQ (rows.getD i []) : Int)]) j = (lowQ (rows.getD ((s.ks ++ [i]).getD j 0) []) : Int)
      have hj : j < (s.ts ++ [topsQ (rows.getD i [])]).length := hj
      rw [List.length_append] at hj
      by_cases c : j < s.ts.length
      · obtain ⟨a1, a2, a3⟩ := h.at_ j c
        rw [getD_left (by rw [h.lk]; exact c), SQ.row_app_left c, SQ.ent_app_left (by rw [h.lb]; exact c)]
        exact ⟨Nat.lt_succ_of_lt a1, a2, a3⟩
      · have ej : j = s.ts.length := by have : j < s.ts.length + 1 := hj; omega
        subst ej
        have e1 : (s.ks ++ [i]).getD s.ts.length 0 = i := by rw [← h.lk]; exact getD_last
        rw [e1, SQ.row_app_last, SQ.ent_app_right (by rw [h.lb]; exact Nat.le_refl _), h.lb, Nat.sub_self]
        exact ⟨Nat.lt_succ_self i, rfl, rfl⟩
    · show (s.ks ++ [i]).getD j 0 < (s.ks ++ [i]).getD k 0
      have hk : k < (s.ts ++ [topsQ (rows.getD i [])]).length := hk
      rw [List.length_append] at hk
      have hk : k < s.ts.length + 1 := hk
      rw [getD_left (by rw [h.lk]; omega)]
      by_cases c : k < s.ts.length
      · rw [getD_left (by rw [h.lk]; exact c)]
        exact h.inc j k hjk c
      · have ek : k = s.ks.length := by rw [h.lk]; omega
        rw [ek, getD_last]
        exact (h.at_ j (by omega)).1
    · show ∃ c : Nat → Rat, ∀ e < w, (rows.getD k []).getD e 0 = sumQ (s.ts ++ [topsQ (rows.getD i [])]).length fun j => c j * (ent (row (s.ts ++ [topsQ (rows.getD i [])]) j) e : Rat)
      have en : (s.ts ++ [topsQ (rows.getD i [])]).length = s.ts.length + 1 := by rw [List.length_append]; rfl
      rw [en]
      have split : ∀ (c : Nat → Rat) (e : Nat), sumQ (s.ts.length + 1) (fun j => c j * (ent (row (s.ts ++ [topsQ (rows.getD i [])]) j) e : Rat)) = sumQ s.ts.length (fun j => c j * (ent (row s.ts j) e : Rat)) + c s.ts.length * (ent (topsQ (rows.getD i [])) e : Rat) := fun c e => by
        show sumQ s.ts.length (fun j => c j * (ent (row (s.ts ++ [topsQ (rows.getD i [])]) j) e : Rat)) + c s.ts.length * (ent (row (s.ts ++ [topsQ (rows.getD i [])]) s.ts.length) e : Rat) = _
        rw [SQ.row_app_last, SQ.sumQ_congr (fun j hj => by rw [SQ.row_app_left hj])]
      by_cases c : k < i
      · obtain ⟨cc, hcc⟩ := h.made k c
        refine ⟨fun j => if j < s.ts.length then cc j else 0, fun e he => ?_⟩
        rw [split, if_neg (Nat.lt_irrefl _), Rat.zero_mul, Rat.add_zero, hcc e he]
        exact SQ.sumQ_congr fun j hj => by rw [if_pos hj]
      · have ek : k = i := by omega
        subst ek
        refine ⟨fun j => if j < s.ts.length then 0 else 1 / (lowQ (rows.getD k []) : Rat), fun e he => ?_⟩
        rw [split, if_neg (Nat.lt_irrefl _), SQ.sumQ_zero' (fun j hj => by rw [if_pos hj, Rat.zero_mul]), Rat.zero_add, tops_ent (by rw [hr.l]; exact he)]
        have := Rat.div_mul_cancel (a := 1) L0
        grind
theorem Run.all {w m B : Nat} {rows : List (List Rat)} (hB : 1 ≤ B) (h48 : w ≤ 48) (m1 : 1 ≤ m) (wm : w ≤ m) (big : (2 * m * B) ^ m < 2 ^ 4000) (hr : ∀ r ∈ rows, VecQ w B r) : ∀ i ≤ rows.length, Run w m B rows i (runS w rows i)
  | 0, _ => Run.zero hB h48 m1 wm big
  | i + 1, hi => (Run.all hB h48 m1 wm big hr i (by omega)).step (hr _ (by rw [List.getD_eq_getElem?_getD, List.getElem?_eq_getElem (show i < rows.length by omega)]; exact List.getElem_mem _))
end KN
set_option Elab.async false
set_option linter.all false
set_option maxRecDepth 100000
set_option maxHeartbeats 8000000
/-! k39: what made_of tells is right -/
namespace KN
open PySem PySem.Spec PyProof.Rows L2 GxR NdefX GA SL ZN RZ
open SQ (ent row piv padOf totP restP freshOf putRows restOf sumQ sumN marksF)
/-- what stands at the place, else 0 -/
def placeF (l : List (Nat × Rat)) (i : Nat) : Rat := (l.lookup i).getD 0
theorem place_sum {l : List (Nat × Rat)} {n : Nat} {g : Nat → Rat} (hd : ∀ j k, j < k → k < l.length → (l.getD j (0, 0)).1 ≠ (l.getD k (0, 0)).1) (hn : ∀ j < l.length, (l.getD j (0, 0)).1 < n) :
    sumQ n (fun i => placeF l i * g i) = sumQ l.length fun j => (l.getD j (0, 0)).2 * g (l.getD j (0, 0)).1 := by
  have key : ∀ k ≤ l.length, sumQ n (fun i => placeF (l.take k) i * g i) = sumQ k fun j => (l.getD j (0, 0)).2 * g (l.getD j (0, 0)).1 := by
    intro k
    induction k with
    | zero =>
      intro _
      refine SQ.sumQ_zero' fun i _ => ?_
      rw [List.take_zero]
      show (0 : Rat) * g i = 0
      rw [Rat.zero_mul]
    | succ k ih =>
      intro hk
      have ek : l[k]? = some (l.getD k (0, 0)) := by rw [List.getD_eq_getElem?_getD, List.getElem?_eq_getElem (show k < l.length by omega)] <;> rfl
      have h0 : placeF (l.take k) (l.getD k (0, 0)).1 = 0 := by
        have : (l.take k).lookup (l.getD k (0, 0)).1 = none := by
          rw [List.lookup_eq_none_iff]
          intro p hp
          obtain ⟨j, hj⟩ := List.mem_iff_getElem?.mp hp
          have hjk : j < k := by
            have := (List.getElem?_eq_some_iff.mp hj).1
            rw [List.length_take] at this
            omega
          rw [List.getElem?_take_of_lt hjk] at hj
          have e : l.getD j (0, 0) = p := by rw [List.getD_eq_getElem?_getD, hj] <;> rfl
          have := hd j k hjk (by omega)
          rw [e] at this
          exact bne_iff_ne.mpr fun z => this z.symm
        unfold placeF
        rw [this]
        rfl
      have hf : (fun i => placeF (l.take (k + 1)) i * g i) = fun i => (if i = (l.getD k (0, 0)).1 then (l.getD k (0, 0)).2 else placeF (l.take k) i) * g i := by
        funext i
        congr 1
        rw [List.take_add_one, ek]
        unfold placeF
        show ((l.take k ++ [l.getD k (0, 0)]).lookup i).getD 0 = _
        rw [List.lookup_append]
        by_cases c : i = (l.getD k (0, 0)).1
        · rw [if_pos c]
          have h1 : (l.take k).lookup i = none := by
            rw [c]
            cases hh : (l.take k).lookup (l.getD k (0, 0)).1 with
            | none => rfl
            | some x =>
              exfalso
              rw [List.lookup_eq_some_iff] at hh
              obtain ⟨l1, l2, e2, _⟩ := hh
              have hm : ((l.getD k (0, 0)).1, x) ∈ l.take k := by rw [e2]; simp
              obtain ⟨j, hj⟩ := List.mem_iff_getElem?.mp hm
              have hjk : j < k := by
                have := (List.getElem?_eq_some_iff.mp hj).1
                rw [List.length_take] at this
                omega
              rw [List.getElem?_take_of_lt hjk] at hj
              have e : l.getD j (0, 0) = ((l.getD k (0, 0)).1, x) := by rw [List.getD_eq_getElem?_getD, hj] <;> rfl
              have := hd j k hjk (by omega)
              rw [e] at this
              exact this rfl
          rw [h1]
          generalize l.getD k (0, 0) = pk at *
          obtain ⟨a, b⟩ := pk
          simp only at c
          subst c
          simp [List.lookup]
        · rw [if_neg c]
          have h1 : ([l.getD k (0, 0)] : List (Nat × Rat)).lookup i = none := by
            rw [List.lookup_eq_none_iff]
            intro p hp
            rw [List.mem_singleton.mp hp]
            exact bne_iff_ne.mpr c
          rw [h1, Option.or_none]
      rw [hf, SQ.sumQ_upd (hn k (by omega)) h0, ih (by omega)]
      rfl
  have := key l.length (Nat.le_refl _)
  rwa [List.take_length] at this
/-- the weights by places -/
def placeQ (n : Nat) (ks : List Nat) (ws : List Rat) : List Rat := (List.range n).map (placeF (ks.zip ws))
theorem place_getD {n i : Nat} {ks : List Nat} {ws : List Rat} (h : i < n) : (placeQ n ks ws).getD i 0 = placeF (ks.zip ws) i := by
  unfold placeQ
  rw [List.getD_eq_getElem?_getD, List.getElem?_map, List.getElem?_range h]
  rfl
theorem zip_getD {ks : List Nat} {ws : List Rat} (h : ks.length = ws.length) {j : Nat} (hj : j < ks.length) : (ks.zip ws).getD j (0, 0) = (ks.getD j 0, ws.getD j 0) := by
  rw [List.getD_eq_getElem?_getD, List.getElem?_eq_getElem (by rw [List.length_zip]; omega), List.getElem_zip, List.getD_eq_getElem?_getD, List.getElem?_eq_getElem hj, List.getD_eq_getElem?_getD, List.getElem?_eq_getElem (by omega)]
  rfl
theorem col_getD {m : List (List Rat)} {e i : Nat} (hi : i < m.length) : (colQ m e).getD i 0 = (m.getD i []).getD e 0 := by
  unfold colQ
  rw [List.getD_eq_getElem?_getD, List.getElem?_map, List.getElem?_eq_getElem hi, List.getD_eq_getElem?_getD (l := m), List.getElem?_eq_getElem hi]
  rfl
/-- the weights of the state, by places -/
def wtsS (w : Nat) (s : Sta) (t : List Rat) : List Rat := wtsQ w s.ps s.rs s.bs (topsQ t) (lowQ t : Int)
def madeOf (w : Nat) (rows : List (List Rat)) (t : List Rat) : PyData :=
  let s := runS w rows rows.length
  if firstQ w (restP s.ps s.rs (topsQ t)) = none then .tuple [.str "made", rowQ (placeQ rows.length s.ks (wtsS w s t))]
  else .tuple [.str "apart", rowQ ((List.range w).map (marksF s.ps s.rs (topsQ t) ((firstQ w (restOf s.ps s.rs (topsQ t))).getD 0) (lowQ t : Int) s.ts.length))]
theorem wts_getD {w : Nat} {s : Sta} {t : List Rat} {j : Nat} (hj : j < s.bs.length) : (wtsS w s t).getD j 0 = Rat.divInt (-ent (restP s.ps s.rs (topsQ t)) (w + j) * ent s.bs j) (totP s.ps s.rs (topsQ t) * (lowQ t : Int)) := by
  unfold wtsS wtsQ
  rw [List.getD_eq_getElem?_getD, List.getElem?_map, List.getElem?_range hj]
  rfl
theorem wts_len {w : Nat} {s : Sta} {t : List Rat} : (wtsS w s t).length = s.bs.length := by
  unfold wtsS wtsQ
  rw [List.length_map, List.length_range]
section
variable {w m B : Nat} {rows : List (List Rat)} {t : List Rat} {s : Sta}
theorem made_sum (h : Run w m B rows rows.length s) (hr : ∀ r ∈ rows, r.length = w) (ht : VecQ w B t) (hz : ∀ e < w, ent (restP s.ps s.rs (topsQ t)) e = 0) {e : Nat} (he : e < w) : dotQ (placeQ rows.length s.ks (wtsS w s t)) (colQ rows e) = t.getD e 0 := by
  have hl : (topsQ t).length = w := ht.ok.len
  have lks : s.ks.length = (wtsS w s t).length := by rw [wts_len, h.lk, h.lb]
  have lz : (s.ks.zip (wtsS w s t)).length = s.ts.length := by rw [List.length_zip, ← lks, Nat.min_self, h.lk]
  rw [dotQ_sum (by unfold placeQ colQ; rw [List.length_map, List.length_map, List.length_range])]
  have e1 : (placeQ rows.length s.ks (wtsS w s t)).length = rows.length := by unfold placeQ; rw [List.length_map, List.length_range]
  rw [e1, SQ.sumQ_congr (g := fun i => placeF (s.ks.zip (wtsS w s t)) i * (rows.getD i []).getD e 0) (fun i hi => by rw [place_getD hi, col_getD hi])]
  rw [place_sum (fun j k hjk hk => ?_) (fun j hj => ?_)]
  · rw [lz, ← ent_div (r := t) (e := e) (by rw [ht.l]; exact he)]
    have := h.kp.sp.weights hl hz (b := (lowQ t : Int)) (by have := lowQ_pos t; omega) (bs := ent s.bs) (fun j hj => by rw [(h.at_ j hj).2.2]; have := lowQ_pos (rows.getD (s.ks.getD j 0) []); omega) he
    rw [← this]
    refine SQ.sumQ_congr fun j hj => ?_
    obtain ⟨a1, a2, a3⟩ := h.at_ j hj
    rw [zip_getD lks (by rw [h.lk]; exact hj)]
    show (wtsS w s t).getD j 0 * (rows.getD (s.ks.getD j 0) []).getD e 0 = _
    rw [wts_getD (by rw [h.lb]; exact hj), ← ent_div (r := rows.getD (s.ks.getD j 0) []) (e := e) (by
      rw [hr _ (by rw [List.getD_eq_getElem?_getD, List.getElem?_eq_getElem a1]; exact List.getElem_mem _)]
      exact he), a2, ← a3]
  · rw [lz] at hk
    rw [zip_getD lks (by rw [h.lk]; omega), zip_getD lks (by rw [h.lk]; omega)]
    exact Nat.ne_of_lt (h.inc j k hjk hk)
  · rw [lz] at hj
    rw [zip_getD lks (by rw [h.lk]; omega)]
    exact (h.at_ j hj).1
/-- the marks are 0 with each row, 1 with the target -/
theorem marks_sum (h : Run w m B rows rows.length s) (hr : ∀ r ∈ rows, r.length = w) (ht : VecQ w B t) {q : Nat} (hq : q < w) (hq0 : ent (restOf s.ps s.rs (topsQ t)) q ≠ 0) :
    (∀ r ∈ rows, dotQ ((List.range w).map (marksF s.ps s.rs (topsQ t) q (lowQ t : Int) s.ts.length)) r = 0) ∧ dotQ ((List.range w).map (marksF s.ps s.rs (topsQ t) q (lowQ t : Int) s.ts.length)) t = 1 := by
  have hl : (topsQ t).length = w := ht.ok.len
  obtain ⟨m1, m2⟩ := h.kp.sp.marksOk hl hq hq0 (b := (lowQ t : Int))
  have lm : ((List.range w).map (marksF s.ps s.rs (topsQ t) q (lowQ t : Int) s.ts.length)).length = w := by rw [List.length_map, List.length_range]
  have gm : ∀ i < w, ((List.range w).map (marksF s.ps s.rs (topsQ t) q (lowQ t : Int) s.ts.length)).getD i 0 = marksF s.ps s.rs (topsQ t) q (lowQ t : Int) s.ts.length i := fun i hi => by
    rw [List.getD_eq_getElem?_getD, List.getElem?_map, List.getElem?_range hi]
    rfl
  constructor
  · intro r hrm
    obtain ⟨k, hk⟩ := List.mem_iff_getElem?.mp hrm
    have hk1 := (List.getElem?_eq_some_iff.mp hk).1
    have er : rows.getD k [] = r := by rw [List.getD_eq_getElem?_getD, hk] <;> rfl
    obtain ⟨c, hc⟩ := h.made k hk1
    rw [er] at hc
    rw [dotQ_sum (by rw [lm, hr r hrm]), lm]
    have e1 : sumQ w (fun i => ((List.range w).map (marksF s.ps s.rs (topsQ t) q (lowQ t : Int) s.ts.length)).getD i 0 * r.getD i 0) = sumQ w fun i => sumQ s.ts.length fun j => c j * (marksF s.ps s.rs (topsQ t) q (lowQ t : Int) s.ts.length i * (ent (row s.ts j) i : Rat)) := by
      refine SQ.sumQ_congr fun i hi => ?_
      rw [gm i hi, hc i hi, ← SQ.sumQ_mul]
      exact SQ.sumQ_congr fun j _ => by grind
    rw [e1, SQ.sumQ_swap]
    refine SQ.sumQ_zero' fun j hj => ?_
    rw [SQ.sumQ_mul, m1 j hj, Rat.mul_zero]
  · have L0 := lowQ_ne t
    rw [dotQ_sum (by rw [lm, ht.l]), lm]
    refine SQ.mul_left_cancel' L0 ?_
    rw [← SQ.sumQ_mul, Rat.mul_one]
    have : sumQ w (fun i => (lowQ t : Rat) * (((List.range w).map (marksF s.ps s.rs (topsQ t) q (lowQ t : Int) s.ts.length)).getD i 0 * t.getD i 0)) = sumQ w fun i => marksF s.ps s.rs (topsQ t) q (lowQ t : Int) s.ts.length i * (ent (topsQ t) i : Rat) := by
      refine SQ.sumQ_congr fun i hi => ?_
      rw [gm i hi, tops_ent (by rw [ht.l]; exact hi)]
      grind
    rw [this, m2]
    rfl
/-- rationals over a common bottom -/
theorem clear_den : ∀ (n : Nat) (y : Nat → Rat), ∃ N : Int, N ≠ 0 ∧ ∃ z : Nat → Int, ∀ j < n, (z j : Rat) = (N : Rat) * y j
  | 0, _ => ⟨1, by decide, fun _ => 0, fun j hj => absurd hj (Nat.not_lt_zero _)⟩
  | n + 1, y => by
    obtain ⟨N, hN, z, hz⟩ := clear_den n y
    have d0 : ((y n).den : Int) ≠ 0 := by have := (y n).den_pos; omega
    refine ⟨N * ((y n).den : Int), Int.mul_ne_zero hN d0, fun j => if j < n then z j * ((y n).den : Int) else N * (y n).num, fun j hj => ?_⟩
    show ((if j < n then z j * ((y n).den : Int) else N * (y n).num : Int) : Rat) = _
    by_cases c : j < n
    · rw [if_pos c, Rat.intCast_mul, hz j c, Rat.intCast_mul]
      grind
    · have : j = n := by omega
      subst this
      rw [if_neg c, Rat.intCast_mul, Rat.intCast_mul]
      have := den_mul_self (y j)
      have e : (((y j).den : Int) : Rat) = ((y j).den : Rat) := rfl
      rw [e, ← this]
      grind
theorem none_of_comb (h : Run w m B rows rows.length s) (ht : VecQ w B t) {c : Nat → Rat} (hc : ∀ e < w, t.getD e 0 = sumQ rows.length fun k => c k * (rows.getD k []).getD e 0) : firstQ w (restP s.ps s.rs (topsQ t)) = none := by
  have hl : (topsQ t).length = w := ht.ok.len
  obtain ⟨d, hd⟩ : ∃ d : Nat → Nat → Rat, ∀ k < rows.length, ∀ e < w, (rows.getD k []).getD e 0 = sumQ s.ts.length fun j => d k j * (ent (row s.ts j) e : Rat) := by
    have key : ∀ k : Nat, ∃ dk : Nat → Rat, k < rows.length → ∀ e < w, (rows.getD k []).getD e 0 = sumQ s.ts.length fun j => dk j * (ent (row s.ts j) e : Rat) := fun k => by
      by_cases hk : k < rows.length
      · obtain ⟨dk, h1⟩ := h.made k hk
        exact ⟨dk, fun _ => h1⟩
      · exact ⟨fun _ => 0, fun z => absurd z hk⟩
    obtain ⟨f, hf⟩ := Classical.axiomOfChoice key
    exact ⟨f, hf⟩
  obtain ⟨x, hx⟩ : ∃ x : Nat → Rat, x = fun j => sumQ rows.length fun k => c k * d k j := ⟨_, rfl⟩
  have tx : ∀ e < w, t.getD e 0 = sumQ s.ts.length fun j => x j * (ent (row s.ts j) e : Rat) := fun e he => by
    rw [hc e he, SQ.sumQ_congr (g := fun k => sumQ s.ts.length fun j => (c k * d k j) * (ent (row s.ts j) e : Rat)) (fun k hk => by
      rw [hd k hk e he, ← SQ.sumQ_mul]
      exact SQ.sumQ_congr fun j _ => by grind), SQ.sumQ_swap]
    refine SQ.sumQ_congr fun j _ => ?_
    rw [hx]
    show _ = sumQ rows.length (fun k => c k * d k j) * (ent (row s.ts j) e : Rat)
    rw [Rat.mul_comm, ← SQ.sumQ_mul]
    exact SQ.sumQ_congr fun k _ => by grind
  have lin : ∀ e < w, (ent (restP s.ps s.rs (topsQ t)) e : Rat) = sumQ s.ts.length fun j => (((totP s.ps s.rs (topsQ t) : Int) : Rat) * (lowQ t : Rat) * x j + (ent (restP s.ps s.rs (topsQ t)) (w + j) : Rat)) * (ent (row s.ts j) e : Rat) := fun e he => by
    have h1 := h.kp.sp.restP_lin hl he
    have h2 := congrArg (fun z : Int => (z : Rat)) h1
    simp only [Rat.intCast_add, Rat.intCast_mul, SQ.sumN_cast] at h2
    rw [h2, tops_ent (by rw [ht.l]; exact he), tx e he]
    have e1 : ((totP s.ps s.rs (topsQ t) : Int) : Rat) * (sumQ s.ts.length (fun j => x j * (ent (row s.ts j) e : Rat)) * (lowQ t : Rat)) = sumQ s.ts.length fun j => ((totP s.ps s.rs (topsQ t) : Int) : Rat) * (lowQ t : Rat) * x j * (ent (row s.ts j) e : Rat) := by
      have : ((totP s.ps s.rs (topsQ t) : Int) : Rat) * (sumQ s.ts.length (fun j => x j * (ent (row s.ts j) e : Rat)) * (lowQ t : Rat)) = (((totP s.ps s.rs (topsQ t) : Int) : Rat) * (lowQ t : Rat)) * sumQ s.ts.length (fun j => x j * (ent (row s.ts j) e : Rat)) := by grind
      rw [this, ← SQ.sumQ_mul]
      exact SQ.sumQ_congr fun j _ => by grind
    rw [e1, ← SQ.sumQ_add]
    exact SQ.sumQ_congr fun j _ => by rw [Rat.add_mul]
  obtain ⟨y, hy⟩ : ∃ y : Nat → Rat, y = fun j => ((totP s.ps s.rs (topsQ t) : Int) : Rat) * (lowQ t : Rat) * x j + (ent (restP s.ps s.rs (topsQ t)) (w + j) : Rat) := ⟨_, rfl⟩
  have lin : ∀ e < w, (ent (restP s.ps s.rs (topsQ t)) e : Rat) = sumQ s.ts.length fun j => y j * (ent (row s.ts j) e : Rat) := fun e he => by rw [lin e he, hy]
  obtain ⟨N, hN, z, hz⟩ := clear_den s.ts.length y
  have NR : (N : Rat) ≠ 0 := SQ.int_ne hN
  have zs : ∀ e < w, ((sumN s.ts.length fun j => z j * ent (row s.ts j) e : Int) : Rat) = (N : Rat) * (ent (restP s.ps s.rs (topsQ t)) e : Rat) := fun e he => by
    rw [lin e he, SQ.sumN_cast, ← SQ.sumQ_mul]
    refine SQ.sumQ_congr fun j hj => ?_
    rw [Rat.intCast_mul, hz j hj]
    grind
  have z0 := h.kp.sp.inj z fun k hk => by
    have h1 := zs _ (h.kp.sp.piv_lt hk)
    rw [h.kp.sp.restP_piv hl hk] at h1
    have h2 : ((sumN s.ts.length fun j => z j * ent (row s.ts j) (piv s.ps k) : Int) : Rat) = 0 := by
      rw [h1]
      exact Rat.mul_zero _
    exact Classical.byContradiction fun hn => SQ.int_ne hn h2
  refine firstQ_none fun e he => ?_
  have h1 := zs e he
  rw [SQ.sumN_zero' (fun j hj => by rw [z0 j hj, Int.zero_mul])] at h1
  exact Classical.byContradiction fun hn => (fun h2 => (Rat.mul_eq_zero.mp h2).elim NR (SQ.int_ne hn)) (h1.symm.trans rfl)
theorem some_of_marks (h : Run w m B rows rows.length s) (hr : ∀ r ∈ rows, r.length = w) (ht : VecQ w B t) {a : Nat → Rat} (h0 : ∀ k < rows.length, sumQ w (fun e => a e * (rows.getD k []).getD e 0) = 0) (h1 : sumQ w (fun e => a e * t.getD e 0) = 1) :
    firstQ w (restP s.ps s.rs (topsQ t)) ≠ none := fun hn => by
  have hz : ∀ e < w, ent (restP s.ps s.rs (topsQ t)) e = 0 := by
    rcases firstQ_cases w (restP s.ps s.rs (topsQ t)) with ⟨_, hz⟩ | ⟨q, e0, _⟩
    · exact hz
    · rw [e0] at hn; cases hn
  have e1 : ∀ e < w, t.getD e 0 = sumQ rows.length fun k => (placeQ rows.length s.ks (wtsS w s t)).getD k 0 * (rows.getD k []).getD e 0 := fun e he => by
    rw [← made_sum h hr ht hz he, dotQ_sum (by unfold placeQ colQ; rw [List.length_map, List.length_map, List.length_range])]
    have : (placeQ rows.length s.ks (wtsS w s t)).length = rows.length := by unfold placeQ; rw [List.length_map, List.length_range]
    rw [this]
    exact SQ.sumQ_congr fun i hi => by rw [col_getD hi]
  have e2 : sumQ w (fun e => a e * t.getD e 0) = sumQ w fun e => sumQ rows.length fun k => (placeQ rows.length s.ks (wtsS w s t)).getD k 0 * (a e * (rows.getD k []).getD e 0) := SQ.sumQ_congr fun e he => by
    rw [e1 e he, ← SQ.sumQ_mul]
    exact SQ.sumQ_congr fun k _ => by grind
  rw [e2, SQ.sumQ_swap, SQ.sumQ_zero' (fun k hk => by rw [SQ.sumQ_mul, h0 k hk, Rat.mul_zero])] at h1
  exact absurd h1 (by decide)
theorem Bl'.zero {D N : Nat} (h : 1 ≤ D) : Bl' D N 0 := ⟨h, Nat.zero_le _⟩
theorem told_made (h : Run w m B rows rows.length s) (es : s = runS w rows rows.length) (hr : ∀ r ∈ rows, VecQ w B r) (ht : VecQ w B t) (wm : w + 1 ≤ m) : Told (2 ^ 8000) (2 ^ 10000) rows t (madeOf w rows t) := by
  have hl : (topsQ t).length = w := ht.ok.len
  have hrl : ∀ r ∈ rows, r.length = w := fun r hr' => (hr r hr').l
  unfold madeOf
  rw [← es]
  have p8 : (1 : Nat) ≤ 2 ^ 8000 := Nat.one_le_two_pow
  rcases firstQ_cases w (restP s.ps s.rs (topsQ t)) with ⟨e0, hz⟩ | ⟨q, e0, hq, hq0, hqf⟩
  · show Told _ _ _ _ (if firstQ w (restP s.ps s.rs (topsQ t)) = none then _ else _)
    rw [if_pos e0]
    refine .made _ (by unfold placeQ; rw [List.length_map, List.length_range]) (fun x hx => ?_) fun k hk => made_sum h hrl ht hz (by rw [← ht.l]; exact hk)
    unfold placeQ at hx
    obtain ⟨i, _, rfl⟩ := List.mem_map.mp hx
    unfold placeF
    cases hh : (s.ks.zip (wtsS w s t)).lookup i with
    | none => exact Bl'.zero p8
    | some x =>
      have hm : x ∈ wtsS w s t := by
        rw [List.lookup_eq_some_iff] at hh
        obtain ⟨l1, l2, e2, _⟩ := hh
        exact (List.of_mem_zip (show (i, x) ∈ s.ks.zip (wtsS w s t) by rw [e2]; simp)).2
      unfold wtsS wtsQ at hm
      obtain ⟨j, hj, rfl⟩ := List.mem_map.mp hm
      rw [List.mem_range, h.lb] at hj
      have sp := h.kp.sp
      have mle := sp.made_le h.kp.hB h.kp.b hl (fun e he => ht.b e) hz
      have X4 : ∀ j < s.ts.length + 1, (ent (freshOf s.ps s.rs (topsQ t)) (w + j)).natAbs ≤ 2 ^ 4000 := fun j hj => by
        refine Nat.le_trans (mle j hj) (Nat.le_trans ?_ (Nat.le_of_lt h.kp.big))
        have h1 : 2 * (s.ts.length + 1) * B ≤ 2 * m * B := Nat.mul_le_mul (Nat.mul_le_mul (Nat.le_refl _) (by have := sp.len_le; omega)) (Nat.le_refl _)
        exact Nat.le_trans (Nat.pow_le_pow_left h1 _) (Nat.pow_le_pow_right h.kp.base (by have := sp.len_le; omega))
      have tp := sp.tp (t := topsQ t)
      have gp := sp.gp (t := topsQ t)
      have fj := sp.fresh_ent hl (e := w + j) (by omega)
      have ft := sp.fresh_tot hl
      have bp := lowQ_pos t
      have bl : (lowQ t : Int).natAbs ≤ 2 ^ 2000 := Nat.le_of_lt (by simpa using ht.low)
      obtain ⟨a1, a2, a3⟩ := h.at_ j hj
      have bj : (ent s.bs j).natAbs ≤ 2 ^ 2000 := by
        rw [a3]
        have := (hr _ (by rw [List.getD_eq_getElem?_getD, List.getElem?_eq_getElem a1]; exact List.getElem_mem _ : rows.getD (s.ks.getD j 0) [] ∈ rows)).low
        exact Nat.le_of_lt (by simpa using this)
      obtain ⟨G, eG⟩ : ∃ G : Int, G = (SQ.gcdL (restP s.ps s.rs (topsQ t) ++ [(totP s.ps s.rs (topsQ t) : Int)]) : Int) := ⟨_, rfl⟩
      rw [← eG] at fj ft
      have f0 : ent (freshOf s.ps s.rs (topsQ t)) (w + s.ts.length) ≠ 0 := fun z => by rw [z, Int.mul_zero] at ft; omega
      have b0 : (lowQ t : Int) ≠ 0 := by omega
      have e1 : Rat.divInt (-ent (restP s.ps s.rs (topsQ t)) (w + j) * ent s.bs j) (totP s.ps s.rs (topsQ t) * (lowQ t : Int)) = Rat.divInt (-ent (freshOf s.ps s.rs (topsQ t)) (w + j) * ent s.bs j) (ent (freshOf s.ps s.rs (topsQ t)) (w + s.ts.length) * (lowQ t : Int)) := by
        refine SQ.divInt_same (Int.mul_ne_zero (by omega) b0) (Int.mul_ne_zero f0 b0) ?_
        rw [← fj, ← ft]
        grind
      show Bl' _ _ (Rat.divInt (-ent (restP s.ps s.rs (topsQ t)) (w + j) * ent s.bs j) (totP s.ps s.rs (topsQ t) * (lowQ t : Int)))
      rw [e1]
      obtain ⟨c1, c2⟩ := SQ.divInt_le (-ent (freshOf s.ps s.rs (topsQ t)) (w + j) * ent s.bs j) (Int.mul_ne_zero f0 b0)
      have p6 : (2 : Nat) ^ 4000 * 2 ^ 2000 = 2 ^ 6000 := by rw [← Nat.pow_add]
      refine ⟨Nat.le_trans c2 ?_, Nat.le_trans c1 ?_⟩
      · rw [Int.natAbs_mul]
        refine Nat.le_trans (Nat.mul_le_mul (X4 _ (Nat.lt_succ_self _)) bl) ?_
        rw [p6]
        exact Nat.pow_le_pow_right (by decide) (by decide)
      · rw [Int.natAbs_mul, Int.natAbs_neg]
        refine Nat.le_trans (Nat.mul_le_mul (X4 _ (by omega)) bj) ?_
        rw [p6]
        exact Nat.pow_le_pow_right (by decide) (by decide)
  · show Told _ _ _ _ (if firstQ w (restP s.ps s.rs (topsQ t)) = none then _ else _)
    rw [if_neg (by rw [e0]; simp)]
    have sp := h.kp.sp
    have rq : ent (restOf s.ps s.rs (topsQ t)) q ≠ 0 := by rw [← sp.rest_pad hl hq]; exact hq0
    have eq : firstQ w (restOf s.ps s.rs (topsQ t)) = some q := firstQ_some hq rq fun e he => by rw [← sp.rest_pad hl (by omega)]; exact hqf e he
    rw [eq]
    obtain ⟨m1, m2⟩ := marks_sum h hrl ht hq rq
    refine .apart _ (by rw [List.length_map, List.length_range, ht.l]) (fun x hx => ?_) m1 m2
    obtain ⟨i, _, rfl⟩ := List.mem_map.mp hx
    have := sp.marks_le hl hq rq (b := (lowQ t : Int)) (X := 2 ^ 4000) (Y := 2 ^ 2000) Nat.one_le_two_pow (fun i hi e => Nat.le_of_lt (h.kp.rowB hi e)) (fun e => Nat.le_of_lt (h.kp.fresh hl ht.b hq hq0 e)) (Nat.le_of_lt (by simpa using ht.low)) Nat.one_le_two_pow s.ts.length (Nat.le_refl _) i
    rw [← Nat.pow_add, ← Nat.pow_add] at this
    exact ⟨this.2, this.1⟩
end
end KN
set_option Elab.async false
set_option linter.all false
set_option maxRecDepth 100000
set_option maxHeartbeats 4000000
/-! own words, 43: zip of lists and tuples in any mix (kd: which addresses are lists); dict(zip(..)) -/
namespace ZM
open PySem RZ
open PySem.Sem (wp)
open ZN (IsZ IsTp Cell refs at_ Apart Keeps alive free_or updateSeq_tp at_len at_snoc set_next typeCall newCall initArgs cells cells_snoc cells_len cells_mem cells_nd apart_new)
def ItAt (kd : Addr → Bool) (h : Heap) (it l : Addr) (k : Nat) : Prop := if kd l = true then h.IsListIter it l k else h.IsTupleIter it l k
def SqAt (kd : Addr → Bool) (h : Heap) (l : Addr) (xs : Array Value) : Prop := if kd l = true then h.IsList l xs else h.IsTuple l xs
section
variable {kd : Addr → Bool} {h h' : Heap} {it l : Addr} {k : Nat} {xs : Array Value}
theorem ItAt.at (x : ItAt kd h it l k) (e : ∀ o, h.get? it = some o → h'.get? it = some o) : ItAt kd h' it l k := by
  unfold ItAt at *
  split
  · rw [if_pos (by assumption)] at x; exact Heap.IsListIter.at x e
  · rw [if_neg (by assumption)] at x; exact Heap.IsTupleIter.at x e
theorem SqAt.at (x : SqAt kd h l xs) (e : ∀ o, h.get? l = some o → h'.get? l = some o) : SqAt kd h' l xs := by
  unfold SqAt at *
  split
  · rw [if_pos (by assumption)] at x; exact Heap.IsList.at x e
  · rw [if_neg (by assumption)] at x; exact Heap.IsTuple.at x e
theorem ItAt.extBut {b : Addr} (x : ItAt kd h it l k) (e : Heap.ExtBut b h h') (n : it ≠ b) : ItAt kd h' it l k := x.at fun o q => e it o n q
theorem SqAt.extBut {b : Addr} (x : SqAt kd h l xs) (e : Heap.ExtBut b h h') (n : l ≠ b) : SqAt kd h' l xs := x.at fun o q => e l o n q
theorem ItAt.there (x : ItAt kd h it l k) : ∃ o, h.get? it = some o := by
  unfold ItAt at x
  split at x
  · obtain ⟨o, e, _⟩ := x; exact ⟨o, e⟩
  · obtain ⟨o, e, _⟩ := x; exact ⟨o, e⟩
theorem SqAt.there (x : SqAt kd h l xs) : ∃ o, h.get? l = some o := by
  unfold SqAt at x
  split at x
  · obtain ⟨o, e, _⟩ := x; exact ⟨o, e⟩
  · obtain ⟨o, e, _⟩ := x; exact ⟨o, e⟩
end
section
variable {kd : Addr → Bool} {prog : Program} {w : World} {A : Around} {E : Value → Shared → Prop} {s : Shared}
theorem nextOf_mix_item {it l : Addr} {i : Nat} {items} {x : Value} {Q : Value → Shared → Prop} (hit : ItAt kd s.heap it l i) (hl : SqAt kd s.heap l items) (hx : items[i]? = some x)
    (hQ : ∀ h', ItAt kd h' it l (i + 1) → Heap.SameBut it s.heap h' → Q x { s with heap := h' }) : wpAny (model prog w) A (Builtin.SmallTypes.nextOf (.ref it)) Q E s := by
  by_cases c : kd l = true
  · unfold ItAt SqAt at *
    simp only [if_pos c] at *
    exact wpAny_nextOf_list_item hit hl hx hQ
  · unfold ItAt SqAt at *
    simp only [if_neg c] at *
    exact nextOf_tuple_item hit hl hx hQ
theorem nextOf_mix_end {it l : Addr} {i : Nat} {items} {Q : Value → Shared → Prop} (hh : A.handled = none) (hit : ItAt kd s.heap it l i) (hl : SqAt kd s.heap l items) (hx : items[i]? = none)
    (hE : ∀ h' e, Heap.ExtBut it s.heap h' → (∃ o, h'.get? e = some o ∧ o.cls = .type "StopIteration") → E (.ref e) { s with heap := h' }) : wpAny (model prog w) A (Builtin.SmallTypes.nextOf (.ref it)) Q E s := by
  by_cases c : kd l = true
  · unfold ItAt SqAt at *
    simp only [if_pos c] at *
    exact wpAny_nextOf_list_end hh hit hl hx hE
  · unfold ItAt SqAt at *
    simp only [if_neg c] at *
    exact nextOf_tuple_end hh hit hl hx hE
theorem pyIter_mix {l : Addr} {items : Array Value} {Q : Value → Shared → Prop} (hl : SqAt kd s.heap l items)
    (h : ∀ h', h'.objs.size = s.heap.objs.size + 1 → (∀ c o, s.heap.get? c = some o → h'.get? c = some o) → ItAt kd h' s.heap.objs.size l 0 → Q (.ref s.heap.objs.size) { s with heap := h' }) : wpAny (model prog w) A (pyIter (.ref l)) Q E s := by
  by_cases c : kd l = true
  · unfold ItAt SqAt at *
    simp only [if_pos c] at *
    exact wpAny_pyIter_list hl (h _ (Heap.size_push _ _) (fun c o e => Heap.get?_push_of_some _ e) ⟨_, Heap.get?_push_size _ rfl, rfl, rfl⟩)
  · unfold ItAt SqAt at *
    simp only [if_neg c] at *
    exact wpAny_pyIter_tuple hl (h _ (Heap.size_push _ _) (fun c o e => Heap.get?_push_of_some _ e) ⟨_, Heap.get?_push_size _ rfl, rfl, rfl⟩)
/-- how far the draws have come: pre drawn, rest still to be drawn -/
structure Far (kd : Addr → Bool) (s : Heap) (z TO : Addr) (cs pre rest : List Cell) (k : Nat) (h : Heap) : Prop where
  cut : cs = pre ++ rest
  size : h.objs.size = s.objs.size
  keep : Keeps z TO cs s h
  done : ∀ c ∈ pre, ItAt kd h c.1 c.2.1 (k + 1)
  todo : ∀ c ∈ rest, ItAt kd h c.1 c.2.1 k
theorem Far.turn {s0 h h' : Heap} {z TI TO : Addr} {cs pre rest : List Cell} {c : Cell} {k : Nat} (D : Apart z TI TO cs) (F : Far kd s0 z TO cs pre (c :: rest) k h) (hs : Heap.SameBut c.1 h h') (hi : ItAt kd h' c.1 c.2.1 (k + 1)) :
    Far kd s0 z TO cs (pre ++ [c]) rest k h' := by
  have nd := D.nd
  rw [F.cut, List.map_append, List.map_cons] at nd
  have hc : c ∈ cs := by rw [F.cut]; simp
  refine ⟨by rw [F.cut]; simp, hs.1.trans F.size, fun d o d1 d2 d3 e => hs.extBut _ _ (fun x => d3 (by rw [x]; exact List.mem_map_of_mem hc)) (F.keep d o d1 d2 d3 e), fun d hd => ?_, fun d hd => ?_⟩
  · rcases List.mem_append.mp hd with q | q
    · refine (F.done d q).extBut hs.extBut fun x => ?_
      exact (List.nodup_append.mp nd).2.2 _ (List.mem_map_of_mem q) _ (List.mem_cons_self ..) x
    · rw [List.mem_singleton.mp q]; exact hi
  · refine (F.todo d (List.mem_cons_of_mem _ hd)).extBut hs.extBut fun x => ?_
    have nd2 := (List.nodup_append.mp nd).2.1
    exact (List.nodup_cons.mp nd2).1 (x ▸ List.mem_map_of_mem hd)
theorem Far.write {s0 h h' : Heap} {z TI TO : Addr} {cs pre rest : List Cell} {k : Nat} {a : Addr} (D : Apart z TI TO cs) (F : Far kd s0 z TO cs pre rest k h) (ha : a = z ∨ a = TO) (hs : Heap.SameBut a h h') :
    Far kd s0 z TO cs pre rest k h' := by
  have na : a ∉ cs.map (·.1) := by rcases ha with x | x <;> rw [x]; exact D.nz; exact D.nO
  refine ⟨F.cut, hs.1.trans F.size, fun d o d1 d2 d3 e => hs.extBut _ _ (fun x => by rcases ha with y | y; exact d1 (x.trans y); exact d2 (x.trans y)) (F.keep d o d1 d2 d3 e), fun d hd => ?_, fun d hd => ?_⟩
  · exact (F.done d hd).extBut hs.extBut fun x => na (x ▸ List.mem_map_of_mem (by rw [F.cut]; simp [hd]))
  · exact (F.todo d hd).extBut hs.extBut fun x => na (x ▸ List.mem_map_of_mem (by rw [F.cut]; simp [hd]))

theorem Far.tuple {s0 h : Heap} {z TI TO : Addr} {cs pre rest : List Cell} {k : Nat} (D : Apart z TI TO cs) (F : Far kd s0 z TO cs pre rest k h) {c : Cell} (hc : c ∈ cs) (hl : SqAt kd s0 c.2.1 c.2.2) : SqAt kd h c.2.1 c.2.2 :=
  hl.at fun o e => F.keep _ o (D.tz c hc) (D.tO c hc) (D.ti c hc) e

/-- the next tuple of zip, no end in sight -/
theorem next_item {z TI TO : Addr} {cs : List Cell} {k : Nat} {f0 : Value} {f1 : Bool} {vs : List Value} {Q : Value → Shared → Prop} (D : Apart z TI TO cs) (hne : cs ≠ []) (hlen : cs.length ≤ sizeLine)
    (hz : IsZ s.heap z TI TO f0 f1) (h0 : f0 = .none ∨ ∃ a : Nat, f0 = rawInt a) (hTI : IsTp s.heap TI (refs cs)) (hTO : IsTp s.heap TO vs) (hvs : vs.length = cs.length)
    (hi : ∀ c ∈ cs, ItAt kd s.heap c.1 c.2.1 k) (hl : ∀ c ∈ cs, SqAt kd s.heap c.2.1 c.2.2) (hk : ∀ c ∈ cs, k < c.2.2.size)
    (hQ : ∀ h' f0' f1' vs', IsZ h' z TI TO f0' f1' → (f0' = .none ∨ ∃ a : Nat, f0' = rawInt a) → IsTp h' TO vs' → vs'.length = cs.length → (∀ c ∈ cs, ItAt kd h' c.1 c.2.1 (k + 1)) →
      IsTp h' s.heap.objs.size (at_ k cs) → h'.objs.size = s.heap.objs.size + 1 → Keeps z TO cs s.heap h' → Q (.ref s.heap.objs.size) { s with heap := h' }) :
    wpAny (model prog w) A (Builtin.«zip.__next__» ⟨[.ref z], []⟩) (fun fin s' => ∃ v, fin = .done (.ret v) ∧ Q v s') E s := by
  show wpAny _ _ (field (.ref z) 2 >>= _) _ _ _
  refine wpAny_bind (wpAny_field hz rfl (x := .bool false) rfl ?_)
  show wpAny _ _ (field (.ref z) 3 >>= _) _ _ _
  refine wpAny_bind (wpAny_field hz rfl (x := .ref TI) rfl ?_)
  refine wpAny_bind (wpAny_seqItems hTI rfl ?_)
  have he : (refs cs).toArray.isEmpty = false := by
    cases cs with
    | nil => exact absurd rfl hne
    | cons c cs => rfl
  simp only [he, Bool.false_eq_true, if_false]
  show wpAny _ _ (Builtin.SmallTypes.ownedTupleIsFree (.ref z) >>= _) _ _ _
  refine wpAny_bind (free_or hz h0 ?_ fun h₁ hz₁ hs₁ => ?_)
  · simp only [if_true]
    refine wpAny_bind (wpAny_rule ?_)
    refine wpAny_bind (wpAny_field hz rfl (x := .ref TO) rfl ?_)
    refine wpAny_bind (wpAny_setField_rec hz (by simp) fun h₁ hz₁ hs₁ => ?_)
    replace hz₁ : IsZ h₁ z TI TO .ellipsis f1 := hz₁
    refine wpAny_bind ?_
    refine wpAny_forIn_list _ (fun l b s' => ∃ pre rest h', Far kd s.heap z TO cs pre rest k h' ∧ l = (refs rest).zipIdx pre.length ∧ b.1 = none ∧ s' = { s with heap := h' } ∧ IsZ h' z TI TO .ellipsis f1 ∧ IsTp h' TO (at_ k pre ++ vs.drop pre.length)) _ ?_ ?_ _ _
      ⟨[], cs, h₁, ⟨rfl, hs₁.1, fun c o c1 _ _ e => hs₁.extBut _ _ c1 e, fun c hc => (List.not_mem_nil hc).elim, fun c hc => (hi c hc).extBut hs₁.extBut fun x => D.nz (x ▸ List.mem_map_of_mem hc)⟩, rfl, rfl, rfl, hz₁, hs₁.extBut _ _ D.TOz hTO⟩
    · rintro x l b s' ⟨pre, rest, h', F, el, eb, rfl, hz', hTO'⟩
      cases rest with
      | nil => cases el
      | cons c rest =>
        have hc : c ∈ cs := by rw [F.cut]; simp
        have hcs : c.1 ∈ cs.map (·.1) := List.mem_map_of_mem hc
        have ek : (refs (c :: rest)).zipIdx pre.length = (.ref c.1, pre.length) :: (refs rest).zipIdx (pre ++ [c]).length := by
          rw [List.length_append]; rfl
        rw [ek] at el
        injection el with e1 e2
        subst e1 e2
        refine wpAny_bind (wpAny_onRaise ?_)
        show wpAny _ _ (Builtin.SmallTypes.nextOf (.ref c.1) >>= _) _ _ _
        refine wpAny_bind (nextOf_mix_item (s := { s with heap := h' }) (F.todo c (List.mem_cons_self ..)) (F.tuple D hc (hl c hc)) (x := c.2.2.getD k .none) (by simp [hk c hc]) fun h₂ hi₂ hs₂ => wpAny_pure ?_)
        have F₂ := F.turn D hs₂ hi₂
        have hz₂ : IsZ h₂ z TI TO .ellipsis f1 := hs₂.extBut _ _ (fun x => D.nz (x ▸ hcs)) hz'
        have hTO₂ : IsTp h₂ TO (at_ k pre ++ vs.drop pre.length) := hs₂.extBut _ _ (fun x => D.nO (x ▸ hcs)) hTO'
        have hlt : pre.length < vs.length := by rw [hvs, F.cut]; simp
        have hsz : (at_ k pre ++ vs.drop pre.length).length ≤ sizeLine := by
          rw [List.length_append, at_len, List.length_drop]; omega
        refine wpAny_bind (wpAny_seqItems (s := { s with heap := h₂ }) hTO₂ rfl ?_)
        refine wpAny_bind (updateSeq_tp (s := { s with heap := h₂ }) hTO₂ hsz fun h₃ hTO₃ hs₃ => ?_)
        rw [set_next k pre c vs hlt] at hTO₃
        refine wpAny_bind (wpAny_letGo (wpAny_pure ?_))
        exact ⟨_, rest, h₃, F₂.write D (.inr rfl) hs₃, rfl, rfl, rfl, hs₃.extBut _ _ (Ne.symm D.TOz) hz₂, hTO₃⟩
    · rintro ⟨b1, b2⟩ s' ⟨pre, rest, h', F, el, eb, rfl, hz', hTO'⟩
      cases rest with
      | cons c rest => cases el
      | nil =>
        simp only at eb
        subst eb
        have ep : pre = cs := by rw [F.cut]; simp
        subst ep
        rw [← hvs, List.drop_length, List.append_nil] at hTO'
        refine wpAny_bind (wpAny_seqItems (s := { s with heap := h' }) hTO' rfl ?_)
        refine wpAny_bind (wpAny_newTuple ?_ (by rw [List.toList_toArray, at_len]; exact hlen))
        show wpAny _ _ (Builtin.SmallTypes.ownedTupleHandOut (.ref z) (.ref h'.objs.size) >>= _) _ _ _
        refine wpAny_bind ?_
        unfold Builtin.SmallTypes.ownedTupleHandOut
        have hzlt : z < h'.objs.size := Heap.lt_size hz'
        have hz₆ : IsZ (h'.push { cls := .type "tuple", data := .seq (at_ k pre).toArray }) z TI TO .ellipsis f1 := Heap.get?_push_of_some _ hz'
        refine wpAny_bind (wpAny_setField_rec hz₆ (by simp) fun h₇ hz₇ hs₇ => ?_)
        replace hz₇ : IsZ h₇ z TI TO (rawInt h'.objs.size) f1 := hz₇
        refine wpAny_setField_rec hz₇ (by simp) fun h₈ hz₈ hs₈ => ?_
        replace hz₈ : IsZ h₈ z TI TO (rawInt h'.objs.size) false := hz₈
        have up : ∀ c o, c ≠ z → h'.get? c = some o → h₈.get? c = some o := fun c o c1 e => hs₈.extBut _ _ c1 (hs₇.extBut _ _ c1 (Heap.get?_push_of_some _ e))
        have hT₈ : IsTp h₈ h'.objs.size (at_ k pre) := hs₈.extBut _ _ (Nat.ne_of_gt hzlt) (hs₇.extBut _ _ (Nat.ne_of_gt hzlt) (Heap.get?_push_size _ rfl))
        have hz8 : h₈.objs.size = h'.objs.size + 1 := by rw [hs₈.1, hs₇.1, Heap.size_push]
        rw [F.size] at hz₈ hT₈ hz8
        refine wpAny_pure ⟨_, rfl, ?_⟩
        show Q (.ref h'.objs.size) _
        rw [F.size]
        exact hQ h₈ _ _ _ hz₈ (.inr ⟨_, rfl⟩) (up _ _ D.TOz hTO') (at_len ..) (fun c hc => (F.done c hc).at fun o e => up _ o (fun x => D.nz (x ▸ List.mem_map_of_mem hc)) e) hT₈ hz8 fun c o c1 c2 c3 e => up c o c1 (F.keep c o c1 c2 c3 e)
  · simp only [Bool.false_eq_true, if_false]
    refine wpAny_bind ?_
    refine MeetsSeq2.wpAny_forIn_array _ (fun l b s' => ∃ pre rest h', Far kd s.heap z TO cs pre rest k h' ∧ l = refs rest ∧ b.1 = none ∧ b.2 = (at_ k pre).toArray ∧ s' = { s with heap := h' } ∧ IsZ h' z TI TO f0 true ∧ IsTp h' TO vs) _ ?_ ?_ _ _
      ⟨[], cs, h₁, ⟨rfl, hs₁.1, fun c o c1 _ _ e => hs₁.extBut _ _ c1 e, fun c hc => (List.not_mem_nil hc).elim, fun c hc => (hi c hc).extBut hs₁.extBut fun x => D.nz (x ▸ List.mem_map_of_mem hc)⟩, rfl, rfl, rfl, rfl, hz₁, hs₁.extBut _ _ D.TOz hTO⟩
    · rintro x l b s' ⟨pre, rest, h', F, el, eb, eb2, rfl, hz', hTO'⟩
      cases rest with
      | nil => cases el
      | cons c rest =>
        have hc : c ∈ cs := by rw [F.cut]; simp
        have hcs : c.1 ∈ cs.map (·.1) := List.mem_map_of_mem hc
        injection el with e1 e2
        subst e1 e2
        refine wpAny_bind (wpAny_holding ?_)
        show wpAny _ _ (Builtin.SmallTypes.nextOf (.ref c.1) >>= _) _ _ _
        refine wpAny_bind (nextOf_mix_item (s := { s with heap := h' }) (F.todo c (List.mem_cons_self ..)) (F.tuple D hc (hl c hc)) (x := c.2.2.getD k .none) (by simp [hk c hc]) fun h₂ hi₂ hs₂ => wpAny_pure ?_)
        have F₂ := F.turn D hs₂ hi₂
        refine wpAny_pure ⟨_, rest, h₂, F₂, rfl, rfl, ?_, rfl, hs₂.extBut _ _ (fun x => D.nz (x ▸ hcs)) hz', hs₂.extBut _ _ (fun x => D.nO (x ▸ hcs)) hTO'⟩
        show b.2.push _ = _
        rw [eb2, at_snoc, List.push_toArray]
    · rintro ⟨b1, b2⟩ s' ⟨pre, rest, h', F, el, eb, eb2, rfl, hz', hTO'⟩
      cases rest with
      | cons c rest => cases el
      | nil =>
        simp only at eb eb2
        subst eb eb2
        have ep : pre = cs := by rw [F.cut]; simp
        subst ep
        refine wpAny_bind (wpAny_newTuple ?_ (by rw [List.toList_toArray, at_len]; exact hlen))
        refine wpAny_pure ⟨_, rfl, ?_⟩
        show Q (.ref h'.objs.size) _
        have hT : IsTp (h'.push { cls := .type "tuple", data := .seq (at_ k pre).toArray }) h'.objs.size (at_ k pre) := Heap.get?_push_size _ rfl
        have hz4 : (h'.push { cls := .type "tuple", data := .seq (at_ k pre).toArray }).objs.size = h'.objs.size + 1 := Heap.size_push ..
        rw [F.size] at hT hz4 ⊢
        exact hQ _ _ _ _ (Heap.get?_push_of_some _ hz') h0 (Heap.get?_push_of_some _ hTO') hvs (fun c hc => (F.done c hc).at fun o e => Heap.get?_push_of_some _ e) hT hz4 fun c o c1 c2 c3 e => Heap.get?_push_of_some _ (F.keep c o c1 c2 c3 e)

/-- the end: a tuple, and so the first, has no more items; or there is none -/
theorem next_end {z TI TO : Addr} {cs : List Cell} {k : Nat} {f0 : Value} {f1 : Bool} {vs : List Value} {Q : Fin → Shared → Prop} (hh : A.handled = none) (D : Apart z TI TO cs)
    (hz : IsZ s.heap z TI TO f0 f1) (h0 : f0 = .none ∨ ∃ a : Nat, f0 = rawInt a) (hTI : IsTp s.heap TI (refs cs))
    (hi : ∀ c ∈ cs, ItAt kd s.heap c.1 c.2.1 k) (hl : ∀ c ∈ cs, SqAt kd s.heap c.2.1 c.2.2) (hk : ∀ c ∈ cs, c.2.2.size ≤ k) (hTO : IsTp s.heap TO vs)
    (hE : ∀ h' e, Keeps z TO cs s.heap h' → (∃ o, h'.get? e = some o ∧ o.cls = .type "StopIteration") → E (.ref e) { s with heap := h' }) :
    wpAny (model prog w) A (Builtin.«zip.__next__» ⟨[.ref z], []⟩) Q E s := by
  show wpAny _ _ (field (.ref z) 2 >>= _) _ _ _
  refine wpAny_bind (wpAny_field hz rfl (x := .bool false) rfl ?_)
  show wpAny _ _ (field (.ref z) 3 >>= _) _ _ _
  refine wpAny_bind (wpAny_field hz rfl (x := .ref TI) rfl ?_)
  refine wpAny_bind (wpAny_seqItems hTI rfl ?_)
  cases cs with
  | nil =>
    have he : (refs []).toArray.isEmpty = true := rfl
    simp only [he, if_true]
    refine wpAny_bind (wpAny_rule (wpAny_bind ?_))
    show wpAny _ _ (newExc (.type "StopIteration") [] >>= _) _ _ _
    refine wpAny_bind ?_
    simp only [newExc, newTuple]
    refine wpAny_bind (wpAny_newObj_type ?_ (by size_fits))
    refine wpAny_bind (m := firstArgMember _ _) (wpAny_of_eq (a := Value.none) (by first | rfl | (simp only [firstArgMember]; rfl)) ?_)
    refine wpAny_newObj_type ?_ (by size_fits)
    simp only [raiseNew]
    refine wpAny_bind (wpAny_handled ?_)
    first | rw [show A.in1.handled = none from hh] | rw [hh]
    refine wpAny_bind (wpAny_pure (wpAny_throw ?_))
    exact hE _ _ (fun c o _ _ _ e => Heap.get?_push_of_some _ (Heap.get?_push_of_some _ e)) ⟨_, Heap.get?_push_size _ rfl, rfl⟩
  | cons c cs =>
    have he : (refs (c :: cs)).toArray.isEmpty = false := rfl
    have hcs : c.1 ∈ (c :: cs).map (·.1) := List.mem_map_of_mem (List.mem_cons_self ..)
    have hc : c ∈ c :: cs := List.mem_cons_self ..
    simp only [he, Bool.false_eq_true, if_false]
    show wpAny _ _ (Builtin.SmallTypes.ownedTupleIsFree (.ref z) >>= _) _ _ _
    refine wpAny_bind (free_or hz h0 ?_ fun h₁ hz₁ hs₁ => ?_)
    · simp only [if_true]
      refine wpAny_bind (wpAny_rule ?_)
      refine wpAny_bind (wpAny_field hz rfl (x := .ref TO) rfl ?_)
      refine wpAny_bind (wpAny_setField_rec hz (by simp) fun h₁ hz₁ hs₁ => ?_)
      replace hz₁ : IsZ h₁ z TI TO .ellipsis f1 := hz₁
      refine wpAny_bind ?_
      simp only [refs, List.map_cons, List.zipIdx_cons, List.forIn_cons]
      refine wpAny_bind (wpAny_bind (wpAny_onRaise ?_))
      show wpAny _ _ (Builtin.SmallTypes.nextOf (.ref c.1) >>= _) _ _ _
      refine wpAny_bind (nextOf_mix_end (s := { s with heap := h₁ }) hh ((hi c hc).extBut hs₁.extBut fun x => D.nz (x ▸ hcs)) ((hl c hc).extBut hs₁.extBut (D.tz c hc)) (by simpa using hk c hc) fun h₂ e hs₂ he => ?_)
      obtain ⟨oe, hoe, hce⟩ := he
      have hz₂ : IsZ h₂ z TI TO .ellipsis f1 := hs₂ _ _ (fun x => D.nz (x ▸ hcs)) hz₁
      have hez : e ≠ z := fun x => by subst x; rw [hz₂] at hoe; cases hoe; simp at hce
      refine wpAny_setField_rec hz₂ (by simp) fun h₃ _ hs₃ => hE h₃ e (fun d o d1 d2 d3 x => hs₃.extBut _ _ d1 (hs₂ _ _ (fun q => d3 (by rw [q]; exact hcs)) (hs₁.extBut _ _ d1 x))) ⟨oe, hs₃.extBut _ _ hez hoe, hce⟩
    · simp only [Bool.false_eq_true, if_false]
      refine wpAny_bind ?_
      rw [← Array.forIn_toList]
      simp only [refs, List.map_cons, List.toList_toArray, List.forIn_cons]
      refine wpAny_bind (wpAny_bind (wpAny_holding ?_))
      show wpAny _ _ (Builtin.SmallTypes.nextOf (.ref c.1) >>= _) _ _ _
      refine wpAny_bind (nextOf_mix_end (s := { s with heap := h₁ }) hh ((hi c hc).extBut hs₁.extBut fun x => D.nz (x ▸ hcs)) ((hl c hc).extBut hs₁.extBut (D.tz c hc)) (by simpa using hk c hc) fun h₂ e hs₂ he => ?_)
      exact hE h₂ e (fun d o d1 d2 d3 x => hs₂ _ _ (fun q => d3 (by rw [q]; exact hcs)) (hs₁.extBut _ _ d1 x)) he
end
section
variable {kd : Addr → Bool}
/-- the zip as made -/
structure Made (kd : Addr → Bool) (s h : Heap) (ts : List (Addr × Array Value)) : Prop where
  z : IsZ h (s.objs.size + ts.length + 2) (s.objs.size + ts.length) (s.objs.size + ts.length + 1) .none false
  ti : IsTp h (s.objs.size + ts.length) (refs (cells s.objs.size ts))
  to : IsTp h (s.objs.size + ts.length + 1) (ts.map fun _ => .none)
  it : ∀ c ∈ cells s.objs.size ts, ItAt kd h c.1 c.2.1 0
  size : h.objs.size = s.objs.size + ts.length + 3
  keep : ∀ c o, s.get? c = some o → h.get? c = some o
theorem meets_new (ts : List (Addr × Array Value)) (hlen : ts.length ≤ 4000) :
    Meets (Builtin.«zip.__new__» ⟨.type "zip" :: ts.map fun t => .ref t.1, []⟩) (fun _ R s => (∀ t ∈ ts, SqAt kd s.heap t.1 t.2) ∧
      ∀ h', Made kd s.heap h' ts → R (.ok (.ret (.ref (s.heap.objs.size + ts.length + 2)))) { s with heap := h' }) :=
  .of_wp fun prog w A R s h => by
    obtain ⟨hp, g, d, tk, os⟩ := s; obtain ⟨hl, h⟩ := h
    have hsub := sub_zip
    wp_walk using wpAny_forIn_list _ (fun l (b : Array Value) s' => ∃ pre rest h', ts = pre ++ rest ∧ l = rest.map (fun t => Value.ref t.1) ∧ b = (refs (cells hp.objs.size pre)).toArray ∧ s' = ⟨h', g, d, tk, os⟩ ∧ h'.objs.size = hp.objs.size + pre.length ∧
      (∀ c ∈ cells hp.objs.size pre, ItAt kd h' c.1 c.2.1 0) ∧ ∀ c o, hp.get? c = some o → h'.get? c = some o) _
    case turn =>
      rintro x l b s' ⟨pre, rest, h', ec, el, rfl, rfl, hsz, hi, hk⟩
      cases rest with
      | nil => cases el
      | cons t rest =>
        injection el with e1 e2
        subst e1 e2
        refine wpAny_bind (wpAny_holding (pyIter_mix (kd := kd) ((hl t (by rw [ec]; simp)).at fun o e => hk _ o e) fun h2 hsz2 hk2 hi2 => ?_))
        refine wpAny_pure ⟨pre ++ [t], rest, h2, by rw [ec]; simp, rfl, ?_, rfl, ?_, ?_, fun c o e => hk2 c o (hk c o e)⟩
        · show ((refs (cells hp.objs.size pre)).toArray).push (.ref h'.objs.size) = _
          rw [cells_snoc, hsz]
          simp [refs]
        · rw [hsz2]
          show h'.objs.size + 1 = _
          rw [hsz, List.length_append]; rfl
        · intro c hc
          rw [cells_snoc] at hc
          rcases List.mem_append.mp hc with q | q
          · exact (hi c q).at fun o e => hk2 _ o e
          · rw [List.mem_singleton.mp q, ← hsz]
            exact hi2
    case fin =>
      rintro b s' ⟨pre, rest, h', ec, el, rfl, rfl, hsz, hi, hk⟩
      cases rest with
      | cons t rest => cases el
      | nil =>
        have ep : ts = pre := by rw [ec]; simp
        subst ep
        refine wpAny_pure ?_
        have hln : (refs (cells hp.objs.size ts)).length = ts.length := by rw [refs, List.length_map, cells_len]
        refine wpAny_bind (wpAny_newTuple ?_ (by rw [List.toList_toArray, hln]; exact Nat.le_trans hlen (by decide)))
        refine wpAny_bind (wpAny_newTuple ?_ (by rw [List.length_map, List.toList_toArray, hln]; exact Nat.le_trans hlen (by decide)))
        refine wpAny_bind ?_
        unfold Builtin.SmallTypes.newRecord
        refine wpAny_newObj_type ?_ (by show 5 ≤ sizeLine + 2; decide)
        refine wpAny_pure ⟨_, rfl, ?_⟩
        simp only [List.toList_toArray]
        have en : (refs (cells hp.objs.size ts)).map (fun _ => Value.none) = ts.map fun _ => Value.none := by
          rw [List.map_const', List.map_const', hln]
        rw [en]
        let o1 : Obj := { cls := .type "tuple", data := .seq (refs (cells hp.objs.size ts)).toArray }
        let o2 : Obj := { cls := .type "tuple", data := .seq (ts.map fun _ => Value.none).toArray }
        let o3 : Obj := { cls := .type "zip", data := .fields #[.none, .bool false, .bool false, .ref h'.objs.size, .ref (h'.push o1).objs.size] }
        have z1 : (h'.push o1).objs.size = hp.objs.size + ts.length + 1 := by rw [Heap.size_push, hsz]
        have z2 : ((h'.push o1).push o2).objs.size = hp.objs.size + ts.length + 2 := by rw [Heap.size_push, z1]
        have z3 : (((h'.push o1).push o2).push o3).objs.size = hp.objs.size + ts.length + 3 := by rw [Heap.size_push, z2]
        have g3 : (((h'.push o1).push o2).push o3).get? ((h'.push o1).push o2).objs.size = some o3 := Heap.get?_push_size _ rfl
        have g2 : (((h'.push o1).push o2).push o3).get? (h'.push o1).objs.size = some o2 := Heap.get?_push_of_some _ (Heap.get?_push_size _ rfl)
        have g1 : (((h'.push o1).push o2).push o3).get? h'.objs.size = some o1 := Heap.get?_push_of_some _ (Heap.get?_push_of_some _ (Heap.get?_push_size _ rfl))
        have up : ∀ c o, h'.get? c = some o → (((h'.push o1).push o2).push o3).get? c = some o := fun c o e => Heap.get?_push_of_some _ (Heap.get?_push_of_some _ (Heap.get?_push_of_some _ e))
        show R (.ok (.ret (.ref ((h'.push o1).push o2).objs.size))) ⟨((h'.push o1).push o2).push o3, g, d, tk, os⟩
        have eo : o3 = { cls := .type "zip", data := .fields #[.none, .bool false, .bool false, .ref (hp.objs.size + ts.length), .ref (hp.objs.size + ts.length + 1)] } := by
          show ({ cls := .type "zip", data := .fields #[.none, .bool false, .bool false, .ref h'.objs.size, .ref (h'.push o1).objs.size] } : Obj) = _
          rw [z1, hsz]
        rw [z2] at g3
        rw [z1] at g2
        rw [hsz] at g1
        rw [z2]
        exact h _ ⟨g3.trans (congrArg some eo), g1, g2, fun c hc => (hi c hc).at fun o e => up _ o e, z3, fun c o e => up c o (hk c o e)⟩
    case h => exact ⟨[], ts, hp, rfl, rfl, rfl, rfl, rfl, fun c hc => (List.not_mem_nil hc).elim, fun _ _ e => e⟩
end
section
variable {kd : Addr → Bool} {prog : Program} {w : World} {A : Around} {E : Value → Shared → Prop} {s : Shared}
theorem call_zipN {ts : List (Addr × Array Value)} {Q : Value → Shared → Prop} (hlen : ts.length ≤ 4000) (hl : ∀ t ∈ ts, SqAt kd s.heap t.1 t.2)
    (h : ∀ h', Made kd s.heap h' ts → Q (.ref (s.heap.objs.size + ts.length + 2)) { s with heap := h' }) : wpAny (model prog w) A (call (.type "zip") (ts.map fun t => .ref t.1)) Q E s := by
  refine callType_new F.called_zip (by decide) (typeCall _) (newCall _) (fun obj => initArgs obj _) F.entry_zip_new (meets_new ts hlen) ⟨hl, fun h' M => ?_⟩
  exact ⟨⟨_, M.z, rfl⟩, h h' M⟩
theorem pyNext_item {z TI TO : Addr} {cs : List Cell} {k : Nat} {f0 : Value} {f1 : Bool} {vs : List Value} {Q : Option Value → Shared → Prop} (D : Apart z TI TO cs) (hne : cs ≠ []) (hlen : cs.length ≤ sizeLine)
    (hz : IsZ s.heap z TI TO f0 f1) (h0 : f0 = .none ∨ ∃ a : Nat, f0 = rawInt a) (hTI : IsTp s.heap TI (refs cs)) (hTO : IsTp s.heap TO vs) (hvs : vs.length = cs.length)
    (hi : ∀ c ∈ cs, ItAt kd s.heap c.1 c.2.1 k) (hl : ∀ c ∈ cs, SqAt kd s.heap c.2.1 c.2.2) (hk : ∀ c ∈ cs, k < c.2.2.size)
    (hQ : ∀ h' f0' f1' vs', IsZ h' z TI TO f0' f1' → (f0' = .none ∨ ∃ a : Nat, f0' = rawInt a) → IsTp h' TO vs' → vs'.length = cs.length → (∀ c ∈ cs, ItAt kd h' c.1 c.2.1 (k + 1)) →
      IsTp h' s.heap.objs.size (at_ k cs) → h'.objs.size = s.heap.objs.size + 1 → Keeps z TO cs s.heap h' → Q (some (.ref s.heap.objs.size)) { s with heap := h' }) :
    wpAny (model prog w) A (pyNext (.ref z)) Q E s := by
  have hT : s.TypeIs (.ref z) "zip" := ⟨_, hz, rfl⟩
  unfold pyNext
  exact wpAny_bind (wpAny_attempt (wpAny_callSpecial?_slot (name := Str.ofString "__next__") hT F.slot_zip_next
    (wpAny_call_entry F.slot_zip_next hT F.entry_zip_next
      (next_item D hne hlen hz h0 hTI hTO hvs hi hl hk fun h' a b c a1 a2 a3 a4 a5 a6 a7 a8 => wpAny_pure (hQ h' a b c a1 a2 a3 a4 a5 a6 a7 a8)) (F.args_zip_next_1 _))))
theorem pyNext_end {z TI TO : Addr} {cs : List Cell} {k : Nat} {f0 : Value} {f1 : Bool} {vs : List Value} {Q : Option Value → Shared → Prop} (hh : A.handled = none) (D : Apart z TI TO cs)
    (hz : IsZ s.heap z TI TO f0 f1) (h0 : f0 = .none ∨ ∃ a : Nat, f0 = rawInt a) (hTI : IsTp s.heap TI (refs cs))
    (hi : ∀ c ∈ cs, ItAt kd s.heap c.1 c.2.1 k) (hl : ∀ c ∈ cs, SqAt kd s.heap c.2.1 c.2.2) (hk : ∀ c ∈ cs, c.2.2.size ≤ k) (hTO : IsTp s.heap TO vs)
    (hQ : ∀ h', Keeps z TO cs s.heap h' → Q none { s with heap := h' }) : wpAny (model prog w) A (pyNext (.ref z)) Q E s := by
  have hT : s.TypeIs (.ref z) "zip" := ⟨_, hz, rfl⟩
  unfold pyNext
  refine wpAny_bind (wpAny_attempt (wpAny_callSpecial?_slot (name := Str.ofString "__next__") hT F.slot_zip_next
    (wpAny_call_entry F.slot_zip_next hT F.entry_zip_next (next_end hh D hz h0 hTI hi hl hk hTO fun h' e hk he => ?_) (F.args_zip_next_1 _))))
  obtain ⟨o, ho, hc⟩ := he
  refine wpAny_bind (wpAny_isInstance (T := "StopIteration") (b := true) ⟨o, ho, hc⟩ isSubtype_stop ?_)
  exact wpAny_pure (hQ _ hk)
end
end ZM
set_option Elab.async false
set_option linter.all false
set_option maxRecDepth 100000
set_option maxHeartbeats 4000000
/-! own words, 44: dict(zip(xs, ys)), xs a list of keys, ys a tuple -/
namespace ZM
open PySem PySem.Spec PyProof.Rows L2 RZ
open ZN (IsZ IsTp Cell refs at_ Apart Keeps cells apart_new)
section
variable {kd : Addr → Bool} {prog : Program} {w : World}
abbrev two (i1 i2 l1 l2 : Addr) (xs ys : Array Value) : List Cell := [(i1, l1, xs), (i2, l2, ys)]
structure OKM (kd : Addr → Bool) (z TI TO : Addr) (cs : List Cell) (i : Nat) (h : Heap) : Prop where
  z : ∃ f0 f1, IsZ h z TI TO f0 f1 ∧ (f0 = .none ∨ ∃ a : Nat, f0 = rawInt a)
  ti : IsTp h TI (refs cs)
  to : ∃ vs, IsTp h TO vs ∧ vs.length = cs.length
  it : ∀ c ∈ cs, ItAt kd h c.1 c.2.1 i
  sq : ∀ c ∈ cs, SqAt kd h c.2.1 c.2.2
theorem OKM.keep {z TI TO : Addr} {cs : List Cell} {i : Nat} {h h' : Heap} (x : OKM kd z TI TO cs i h) (k : ∀ b, (b = z ∨ b = TI ∨ b = TO ∨ ∃ c ∈ cs, b = c.1 ∨ b = c.2.1) → ∀ o, h.get? b = some o → h'.get? b = some o) : OKM kd z TI TO cs i h' := by
  obtain ⟨⟨f0, f1, hz, h0⟩, hti, ⟨vs, hto, hl⟩, hit, hsq⟩ := x
  exact ⟨⟨f0, f1, k z (.inl rfl) _ hz, h0⟩, k TI (.inr (.inl rfl)) _ hti, ⟨vs, k TO (.inr (.inr (.inl rfl))) _ hto, hl⟩, fun c hc => (hit c hc).at fun o e => k c.1 (.inr (.inr (.inr ⟨c, hc, .inl rfl⟩))) o e, fun c hc => (hsq c hc).at fun o e => k c.2.1 (.inr (.inr (.inr ⟨c, hc, .inr rfl⟩))) o e⟩
theorem pairArg (z TI TO i1 i2 l1 l2 : Addr) (xs ys : Array Value) (D : Apart z TI TO (two i1 i2 l1 l2 xs ys)) (hsz : xs.size = ys.size) :
    PairArg prog w "zip" z [z, TI, TO, i1, i2, l1, l2] [z, TO, i1, i2] xs.size (fun i k v => xs[i]? = some k ∧ ys[i]? = some v) (OKM kd z TI TO (two i1 i2 l1 l2 xs ys) 0) where
  type := fun s ok => let ⟨_, _, hz, _⟩ := ok.z; ⟨_, hz, rfl⟩
  notDict := by decide
  keep := fun h h' ok hk => ok.keep fun b _ o e => hk b o e
  there := fun h ok b hb => by
    obtain ⟨⟨f0, f1, hz, h0⟩, hti, ⟨vs, hto, hl⟩, hit, hsq⟩ := ok
    simp only [List.mem_cons, List.not_mem_nil, or_false] at hb
    rcases hb with rfl | rfl | rfl | rfl | rfl | rfl | rfl
    · exact ⟨_, hz⟩
    · exact ⟨_, hti⟩
    · exact ⟨_, hto⟩
    · exact (hit (b, l1, xs) (by simp)).there
    · exact (hit (b, l2, ys) (by simp)).there
    · exact (hsq (i1, b, xs) (by simp)).there
    · exact (hsq (i2, b, ys) (by simp)).there
  sub := fun b hb => by simp at hb ⊢; rcases hb with rfl | rfl | rfl | rfl <;> simp
  noKeys := fun A s Q E hA ok h => let ⟨_, _, hz, _⟩ := ok.z; getAttrOr_miss_zip hz rfl rfl rfl zip_no_keys (by decide +kernel) hA h
  iter := fun A s d Q E hA ok hd hdf h => by
    obtain ⟨f0, f1, hz, h0⟩ := ok.z
    have hdf' : ∀ b, (b = z ∨ b = TI ∨ b = TO ∨ ∃ c ∈ two i1 i2 l1 l2 xs ys, b = c.1 ∨ b = c.2.1) → b ≠ d := fun b hb e => by
      subst e
      apply hdf
      rcases hb with rfl | rfl | rfl | ⟨c, hc, hb⟩
      · simp
      · simp
      · simp
      · simp only [List.mem_cons, List.not_mem_nil, or_false] at hc
        rcases hc with rfl | rfl <;> rcases hb with rfl | rfl <;> simp
    refine ZN.pyIter_z hz (h z [z, TO, i1, i2] (OKM kd z TI TO (two i1 i2 l1 l2 xs ys)) s.heap s.toks ?_ ok (fun _ _ e => e) fun b hb => .inl hb)
    exact {
      off := fun hm => hdf (by simp only [List.mem_cons, List.not_mem_nil, or_false] at hm ⊢; rcases hm with rfl | rfl | rfl | rfl <;> simp)
      frame := fun i h₁ h₂ st hk => st.keep fun b hb o e => hk b o (hdf' b hb) e
      item := fun i s₁ Q₁ E₁ hi st hds hQ => by
        obtain ⟨⟨f0, f1, hz, h0⟩, hti, ⟨vs, hto, hl⟩, hit, hsq⟩ := st
        have hi2 : i < ys.size := by omega
        refine pyNext_item (k := i) D (by simp) (by show 2 ≤ sizeLine; decide) hz h0 hti hto hl hit hsq (fun c hc => ?_) fun h' f0' f1' vs' hz' h0' hto' hl' hit' hT hs' hk => ?_
        · simp only [List.mem_cons, List.not_mem_nil, or_false] at hc
          rcases hc with rfl | rfl
          · exact hi
          · exact hi2
        · have ex := Array.getElem?_eq_getElem hi
          have ey := Array.getElem?_eq_getElem hi2
          have ea : at_ i (two i1 i2 l1 l2 xs ys) = [xs[i], ys[i]] := by simp [ZN.at_, Array.getD_eq_getD_getElem?, ex, ey]
          rw [ea] at hT
          refine hQ s₁.heap.objs.size _ _ h' s₁.toks ⟨ex, ey⟩ (.inl ⟨_, hT, rfl, _, rfl⟩) ⟨⟨f0', f1', hz', h0'⟩, hk _ _ D.TIz D.TITO D.nI hti, ⟨vs', hto', hl'⟩, hit', fun c hc => (hsq c hc).at fun o e => hk _ o (D.tz c hc) (D.tO c hc) (D.ti c hc) e⟩ fun b o hb e => hk b o (fun x => hb (by simp [x])) (fun x => hb (by simp [x])) (fun x => hb (by simp at x; rcases x with rfl | rfl <;> simp)) e
      done := fun s₁ Q₁ E₁ st hQ => by
        obtain ⟨⟨f0, f1, hz, h0⟩, hti, ⟨vs, hto, hl⟩, hit, hsq⟩ := st
        refine pyNext_end hA D hz h0 hti hit hsq (fun c hc => ?_) hto fun h' hk => hQ h' s₁.toks fun b o hb e => hk b o (fun x => hb (by simp [x])) (fun x => hb (by simp [x])) (fun x => hb (by simp at x; rcases x with rfl | rfl <;> simp)) e
        simp only [List.mem_cons, List.not_mem_nil, or_false] at hc
        rcases hc with rfl | rfl
        · exact Nat.le_refl _
        · exact Nat.le_of_eq hsz.symm }
end
end ZM
set_option Elab.async false
set_option linter.all false
set_option maxRecDepth 100000
set_option maxHeartbeats 4000000
/-! own words, 45: the rule for dict(zip(xs, ys)) -/
namespace ZM
open PySem PySem.Spec PyProof.Rows L2 RZ
open ZN (IsZ IsTp Cell refs at_ Apart Keeps cells apart_new)
/-- dict(zip(a, b)): a a list of keys, b a tuple as long -/
def tDictZ (K : PySem.W.Frag) (ta : TA) : TE := fun σ H Q => ta σ H fun vs H1 => ∃ (a b : Addr) (ks : List Key) (ws : List V), vs = [.ref a, .ref b] ∧ SqL K H1 a (ks.map kV) ∧ SqT K H1 b ws ∧ ks.length = ws.length ∧ a ≠ b ∧ ∀ d, H1 d = none → Q (.ref d) (upd H1 d (.dK (mergeK [] (ks.zip ws))))
theorem kv_of : ∀ {ks : List Key} {ws : List V} {us vs : List Value}, Vals (ks.map kV) us → Vals ws vs → ks.length = ws.length → KV (ks.zip ws) (ks.zip vs)
  | [], _, _, _, _, _, _ => .nil
  | k :: ks, [], _, _, _, _, h => by cases h
  | k :: ks, w :: ws, us, vs, h1, h2, hl => by
    cases h1 with
    | cons r1 t1 =>
      cases h2 with
      | cons r2 t2 => exact .cons ⟨rfl, r2⟩ (kv_of t1 t2 (by simpa using hl))
theorem key_at : ∀ {ks : List Key} {us : List Value} {i : Nat} {u : Value}, Vals (ks.map kV) us → us[i]? = some u → ∃ k, ks[i]? = some k ∧ RelV (kV k) u
  | [], us, i, u, h, e => by cases h; simp at e
  | k :: ks, us, 0, u, h, e => by
    cases h with
    | cons r t =>
      simp at e
      subst e
      exact ⟨k, rfl, r⟩
  | k :: ks, us, i + 1, u, h, e => by
    cases h with
    | cons r t =>
      obtain ⟨k', h1, h2⟩ := key_at t (by simpa using e)
      exact ⟨k', by simpa using h1, h2⟩
theorem pe_dictZip {X : Cx} {e1 e2 : Expr} {ta : TA} {p q pz pos : Pos} (hc : X.calm = true) (hg : Gl X "dict") (hm : X.mg "dict" = none) (hgz : Gl X "zip") (hmz : X.mg "zip" = none) (ha : PA X [e1, e2] ta)
    (hs : starEach [e1, e2] X.env = (false, eval e1 X.env) :: starEach [e2] X.env := by rfl) (hpl : (backTo pz (starEach [e2] X.env)).any (·.1) = false := by rfl)
    (na : starEach [.Call (.Name "zip" q) [e1, e2] [] pz] X.env = (false, eval (.Call (.Name "zip" q) [e1, e2] [] pz) X.env) :: starEach [] X.env := by rfl) :
    PE X (.Call (.Name "dict" p) [.Call (.Name "zip" q) [e1, e2] [] pz] [] pos) (tDictZ X.K ta) := by
  refine ⟨fun pins s σ H Q I h => ?_⟩
  refine Call_ (ld_blt I hg hm PyProof.Rows.boot_dict (PyProof.Rows.callWith_type1 (args_cons ?_ na) na))
  refine Call_ (ld_blt I hgz hmz PyProof.Rows.boot_zip (PyProof.Rows.callWith_type1 (thn (ha.run pz pins s σ H _ I h) fun us s1 ⟨vs, H1, I1, r1, q1⟩ => ?_) hs hpl))
  obtain ⟨a, b, ks, ws, rfl, hqx, hqy, hl, hab, k⟩ := q1
  cases r1 with
  | cons r rr =>
    cases rr with
    | cons r' rr =>
      cases rr
      cases r
      cases r'
      obtain ⟨its, rv, p1, z1⟩ := I1.list hqx
      obtain ⟨its2, rv2, p2, z2⟩ := I1.tuple hqy
      have la : a < s1.heap.objs.size := p1.lt
      have lb : b < s1.heap.objs.size := by obtain ⟨o, e, _⟩ := (show s1.heap.IsTuple b its2.toArray from p2); exact Heap.lt_size e
      have hli : its.length = its2.length := by rw [← rv.length, ← rv2.length, List.length_map, hl]
      let kd : Addr → Bool := fun l => decide (l = a)
      have sa : SqAt kd s1.heap a its.toArray := by
        unfold SqAt
        rw [if_pos (by simp [kd])]
        exact p1.isList
      have sb : SqAt kd s1.heap b its2.toArray := by
        unfold SqAt
        rw [if_neg (by simp [kd]; exact fun z => hab z.symm)]
        exact p2
      refine call_zipN (kd := kd) (ts := [(a, its.toArray), (b, its2.toArray)]) (by show 2 ≤ 4000; decide) (fun t ht => ?_) fun h' Mh => args_nil ?_
      · simp only [List.mem_cons, List.not_mem_nil, or_false] at ht
        rcases ht with rfl | rfl
        · exact sa
        · exact sb
      have D := apart_new (m := s1.heap.objs.size) (ts := [(a, its.toArray), (b, its2.toArray)]) fun t ht => by
        simp only [List.mem_cons, List.not_mem_nil, or_false] at ht
        rcases ht with rfl | rfl
        · exact la
        · exact lb
      have I2 : Inv X pins σ H1 { s1 with heap := h' } := I1.kept (t' := s1.toks) Mh.keep
      have P := pairArg (prog := X.prog) (w := X.w) (kd := kd) (s1.heap.objs.size + 2 + 2) (s1.heap.objs.size + 2) (s1.heap.objs.size + 2 + 1) s1.heap.objs.size (s1.heap.objs.size + 1) a b its.toArray its2.toArray D (by simpa using hli)
      have ok : OKM kd (s1.heap.objs.size + 2 + 2) (s1.heap.objs.size + 2) (s1.heap.objs.size + 2 + 1) (two s1.heap.objs.size (s1.heap.objs.size + 1) a b its.toArray its2.toArray) 0 h' := by
        refine ⟨⟨_, _, Mh.z, .inl rfl⟩, Mh.ti, ⟨_, Mh.to, rfl⟩, Mh.it, fun c hc => ?_⟩
        simp only [List.mem_cons, List.not_mem_nil, or_false] at hc
        rcases hc with rfl | rfl
        · exact sa.at fun o e => Mh.keep _ o e
        · exact sb.at fun o e => Mh.keep _ o e
      have hkl : its.length = ks.length := by rw [← rv.length, List.length_map]
      refine PySem.call_dict_pairs (s := { s1 with heap := h' }) (knd := mixKind X.prog X.w) (kvs := ks.zip its2) P (I.ok.hd hc) ok ⟨?_, fun i key v hr => ?_⟩ ?_ fun h2 tk hd' hk => ?_
      · rw [List.length_zip, List.size_toArray]
        omega
      · obtain ⟨h1, h3⟩ := hr
        obtain ⟨kk, e1, e2⟩ := key_at rv (show its[i]? = some key by simpa using h1)
        refine ⟨kk, ?_, kV_is e2⟩
        rw [List.getElem?_zip_eq_some]
        exact ⟨e1, by simpa using h3⟩
      · rw [List.size_toArray]
        have := z1
        rw [List.length_map] at this
        omega
      · have hz2 : h'.objs.size = s1.heap.objs.size + 2 + 3 := Mh.size
        have hm2 : (h'.objs.size == sysModules) = false := beq_eq_false_iff_ne.mpr (Nat.ne_of_gt (Nat.lt_of_lt_of_le I1.big (by rw [hz2]; exact Nat.le_trans (Nat.le_add_right _ 2) (Nat.le_add_right _ 3))))
        have hkv := kv_of rv rv2 hl
        have hlen : (mergeK [] (ks.zip ws)).length ≤ sizeLine := by
          refine Nat.le_trans (length_mergeK _ []) ?_
          rw [List.length_nil, List.length_zip]
          have := z1
          rw [List.length_map] at this
          omega
        have keep : ∀ b o, s1.heap.get? b = some o → h2.get? b = some o := fun b o e => hk b o (fun hb => by
          have := Heap.lt_size e
          simp only [List.mem_cons, List.not_mem_nil, or_false] at hb
          rcases hb with z | z | z | z <;> rw [z] at this <;> exact absurd this (Nat.not_lt.mpr (by first | exact Nat.le_refl _ | exact Nat.le_add_right _ _ | exact Nat.le_trans (Nat.le_add_right _ 2) (Nat.le_add_right _ _)))) (Mh.keep b o e)
        exact ⟨.ref h'.objs.size, upd H1 h'.objs.size (.dK (mergeK [] (ks.zip ws))), I1.laid (t' := tk) keep (by show s1.heap.objs.size ≤ h'.objs.size; rw [hz2]; exact Nat.le_trans (Nat.le_add_right _ 2) (Nat.le_add_right _ 3)) (show ObjOk X.prog X.w _ _ _ (.dK (mergeK [] (ks.zip ws))) from ⟨hlen, hm2, merged [] (ks.zip its2), KV.merge hkv .nil, hd'⟩), rfl, k _ (I1.hok.fresh (by show s1.heap.objs.size ≤ h'.objs.size; rw [hz2]; exact Nat.le_trans (Nat.le_add_right _ 2) (Nat.le_add_right _ 3)))⟩
end ZM
set_option Elab.async false
set_option linter.all false
set_option maxRecDepth 100000
set_option maxHeartbeats 8000000
/-! k39: made_of -/
namespace KN
open PySem PySem.Spec PyProof.Rows L2 GxR NdefX GA SL ZN RZ
open SQ (ent row piv padOf totP restP freshOf putRows restOf marksF)
open ZM (tDictZ pe_dictZip)
theorem putK_new {κ : Type} [DecidableEq κ] {acc : List (κ × V)} {k : κ} {v : V} (h : ∀ p ∈ acc, p.1 ≠ k) : putK acc k v = acc ++ [(k, v)] := by
  unfold putK
  rw [if_neg]
  simp only [List.any_eq_true, decide_eq_true_eq, not_exists, not_and]
  exact h
theorem mergeK_nd : ∀ {l acc : List (Key × V)}, (∀ p ∈ acc, ∀ q ∈ l, p.1 ≠ q.1) → (l.map (·.1)).Nodup → mergeK acc l = acc ++ l
  | [], acc, _, _ => by show acc = acc ++ []; rw [List.append_nil]
  | q :: l, acc, h, hd => by
    rw [List.map_cons, List.nodup_cons] at hd
    show mergeK (putK acc q.1 q.2) l = _
    rw [putK_new fun p hp => h p hp q List.mem_cons_self, mergeK_nd (fun p hp r hr => ?_) hd.2, List.append_assoc]
    · rfl
    · rcases List.mem_append.mp hp with hp | hp
      · exact h p hp r (List.mem_cons_of_mem _ hr)
      · rw [List.mem_singleton.mp hp]
        exact fun e => hd.1 (List.mem_map.mpr ⟨r, hr, e.symm⟩)
abbrev keyN (k : Nat) : Key := .inl (k : Int)
theorem get_dv {M : List Addr} {H : Hp} : ∀ {ks : List Nat} {ws : List V} {qs : List Rat}, DvAll M H ws (rats qs) → ks.length = qs.length → ∀ i : Nat,
    (∃ v, valV ((ks.map keyN).zip ws) (keyN i) = some v ∧ Dv M H v (rat (placeF (ks.zip qs) i).num (placeF (ks.zip qs) i).den)) ∨ (valV ((ks.map keyN).zip ws) (keyN i) = none ∧ placeF (ks.zip qs) i = 0)
  | [], _, _, _, _, i => .inr ⟨rfl, rfl⟩
  | k :: ks, ws, [], h, hl, i => by cases hl
  | k :: ks, ws, q :: qs, h, hl, i => by
    cases h with
    | @cons v vs _ _ hv ht =>
      by_cases c : k = i
      · subst c
        refine .inl ⟨v, valV_pos rfl, ?_⟩
        have e : placeF ((k :: ks).zip (q :: qs)) k = q := by
          unfold placeF
          simp [List.lookup]
        rw [e]
        exact hv
      · have e1 : valV (((k :: ks).map keyN).zip (v :: vs)) (keyN i) = valV ((ks.map keyN).zip vs) (keyN i) := by
          unfold valV
          rw [List.map_cons, List.zip_cons_cons, List.find?_cons_of_neg]
          simp only [decide_eq_true_eq]
          intro e
          injection e with e
          exact c (by omega)
        have e2 : placeF ((k :: ks).zip (q :: qs)) i = placeF (ks.zip qs) i := by
          unfold placeF
          rw [List.zip_cons_cons, List.lookup_cons]
          have : (i == k) = false := beq_eq_false_iff_ne.mpr fun z => c z.symm
          rw [this]
        rw [e1, e2]
        exact get_dv ht (by simpa using hl) i
abbrev s_made_of : Stmt := top 15
abbrev NMO : List Str := ["rows", "target", "span", "kept", "weights", "weight_at", "place", "row"]
theorem sc_made_of : FnScope NMO ["rows", "target"] (defScope s_made_of) := ⟨rfl, rfl, rfl, by decide +kernel, rfl, by decide +kernel, by decide +kernel⟩
/-- how great the numbers are -/
structure Big (w m B : Nat) : Prop where
  hB : 1 ≤ B
  w48 : w ≤ 48
  m1 : 1 ≤ m
  wm : w + 1 ≤ m
  big : (2 * m * B) ^ m < 2 ^ 4000
def sp_made_of (T : List Addr) : Sp := fun vs H Q _ => ∃ (v1 v2 : V) (rows : List (List Rat)) (t : List Rat) (w m B : Nat), vs = [v1, v2] ∧ Dv [] H v1 (.tuple (rows.map rowQ)) ∧ Dv [] H v2 (rowQ t) ∧ rows.length ≤ 48 ∧ (∀ r ∈ rows, VecQ w B r) ∧ VecQ w B t ∧ Big w m B ∧ Tabs T H ∧ ∀ u H', Go T [] H H' → Tabs T H' → Dv [] H' u (madeOf w rows t) → Q u H'
theorem low_q (q : Rat) : Low q.num q.den := ⟨by have := q.den_pos; omega, q.reduced⟩
theorem rowOk_q {r : List Rat} (h : r.length ≤ 48) : RowOk (prs r) := by
  refine ⟨by rw [prs, List.length_map]; exact h, fun x hx => ?_⟩
  obtain ⟨q, _, rfl⟩ := List.mem_map.mp hx
  exact low_q q
section
variable {P : Program} {w : World} {K : PySem.W.Frag} {mg : Str → Option Value} {base : Heap} {f C CV CU : Addr} {fd : FuncData} {T : List Addr}
theorem ok_made_of (F : Fun K "made_of" "made_of" s_made_of f fd) (SC : SpC K C) (B : Bl mg) (hz : mg "zip" = none) (he : mg "enumerate" = none) (hdc : mg "dict" = none) (XV : Xc K mg "BadVector" CV) (XU : Xc K mg "Unlike" CU)
    (Fd : Fnn P w K mg base CX0 7 "demand_matrix" ["rows"] (sp_demand_matrix T)) (Fi : Fnn P w K mg base CX0 4 "is_vector" ["thing"] (sp_is_vector T)) (Mk0 : Mkr P w K mg base CX0 C 1 "Span" ["self", "width"] (sp_init T C))
    (Mp : Mth P w K mg base CX0 C 36 "put" ["self", "vector"] (sp_put T C)) (Mw : Mth P w K mg base CX0 C 35 "weights" ["self", "vector"] (sp_weights T C)) (Mm : Mth P w K mg base CX0 C 34 "marks" ["self", "vector"] (sp_marks T C)) :
    FnOk P w K mg base CX0 37 f fd ["rows", "target"] (sp_made_of T) := by
  refine F.ok sc_made_of (fun vs H Q E h => ?_) (fun cdv A outer s H vs Q E hr h => ?_)
  · obtain ⟨_, _, _, _, _, _, _, rfl, _⟩ := h
    rfl
  have nd := sc_made_of.nd
  have nn : ∀ b : Addr, b ∉ ([] : List Addr) := fun b => List.not_mem_nil
  have hu1 : (A.deeper (envOfC "made_of" (defScope s_made_of) s.heap.objs.size f cdv)).units + 1 < cLine := by
    have := hr.un
    omega
  obtain ⟨v1, v2, rows, t, wd, m, Bd, rfl, hv1, hv2, h48, hrw, hvt, hb, ht, q⟩ := h
  refine ⟨_, pss_cons (ps_expr (pe_fn Fd hr (by decide) pass0 (pa_cons (pv 0) pa_nil)))
    (pss_cons (ps_if (pt_not (pt_val (pe_fn Fi hr (by decide) pass0 (pa_cons (pv 1) pa_nil)))) (pss_one (ps_raiseX rfl XV LamX.takes0)) pss_nil)
    (pss_cons (ps_if (PW.pt (pw_and (pt_cmpR op_gt (pe_lenq B (pv 0)) pe_int (nomark _)) (pw_and1 (pt_cmpR op_ne (pe_lenq B (pe_ix ix_tup (pv 0) pe_int (fun _ _ => rfl))) (pe_lenq B (pv 1)) (nomark _))))) (pss_one (ps_raiseX rfl XU LamX.takes0)) pss_nil)
    (pss_cons (ps_set (i := 2) nd rfl (.inr rfl) (pe_mkC Mk0 hr (by decide) pass0 (pa_cons (pe_lenq B (pv 1)) pa_nil)))
    (pss_cons (ps_setLc (i := 3) (own := [("place", 6), ("row", 7)]) (g := gTup K 2 (gCons (gName 6) (gCons (gName 7) gNil))) (te := tVar 6) rfl nd rfl rfl (sw_true rfl rfl rfl (by decide +kernel)) (pi_enumT he (pa_cons (pv 0) pa_nil))
        (blkOk_by (own := [("place", 6), ("row", 7)]) (N := NMO) (sc := defScope s_made_of) (by decide +kernel))
        (fun _ _ _ _ _ => pg_tup rfl (pgs_cons (pg_name (i := 6) nd rfl (.inl rfl)) (pgs_cons (pg_name (i := 7) nd rfl (.inl rfl)) pgs_nil)))
        (fun _ _ _ _ _ => pts_one (pt_val (pe_mth SC.c Mp hr (by decide) pass0 (pv 2) (pa_cons (pv 7) pa_nil)))) (fun _ _ _ _ _ => pv 6))
    (pss_cons (ps_set (i := 4) nd rfl (.inl rfl) (pe_mth SC.c Mw hr (by decide) pass0 (pv 2) (pa_cons (pv 1) pa_nil)))
    (pss_cons (ps_if (pt_cmpR op_isN (pv 4) pe_non (nomark _)) (pss_one (ps_ret (pe_tup (pa_cons pe_str (pa_cons (pe_mth SC.c Mm hr (by decide) pass0 (pv 2) (pa_cons (pv 1) pa_nil)) pa_nil))))) pss_nil)
    (pss_cons (ps_set (i := 5) nd rfl (.inr rfl) (pe_dictZip rfl rfl hdc rfl hz (pa_cons (pv 3) (pa_cons (pv 4) pa_nil))))
    (pss_one (ps_ret (pe_tup (pa_cons pe_str (pa_cons (pe_tupleOf rfl B.tuple (pe_lc (own := [("place", 6)]) (g := gName 6) (tt := tYes) (te := tDGet2 (tVar 5) (tVar 6) (tTup (tCons (tC (.int 0)) (tCons (tC (.int 1)) tNil)))) rfl nd (pi_range1 (by rfl) B.range (pa_cons (pe_lenq B (pv 0)) pa_nil))
        (blkOk_by (own := [("place", 6)]) (N := NMO) (sc := defScope s_made_of) (by decide +kernel))
        (fun _ _ _ _ _ => pg_name (i := 6) nd rfl (.inl rfl)) (fun _ _ _ _ _ => pts_nil)
        (fun _ _ _ _ _ => pe_dget2 hu1 (pv 5) (pv 6) (pe_tup (pa_cons pe_int (pa_cons pe_int pa_nil))) ⟨rfl, rfl, rfl, rfl⟩))) pa_nil)))))))))))), ?_⟩
  have hRun := Run.all (rows := rows) hb.hB hb.w48 hb.m1 (Nat.le_of_succ_le hb.wm) hb.big hrw
  have hw48 := hb.w48
  have hv1' : Dv [] H v1 (matD (rows.map prs)) := by
    rw [matD, List.map_map]
    exact hv1
  have hmat : MatOk (rows.map prs) wd := by
    refine ⟨by rw [List.length_map]; exact h48, fun r hr' => ?_⟩
    obtain ⟨r0, h0, rfl⟩ := List.mem_map.mp hr'
    have hl := (hrw r0 h0).l
    exact ⟨by rw [prs, List.length_map]; exact hl, rowOk_q (by omega)⟩
  refine ⟨_, rfl, v1, rows.map prs, wd, rfl, hv1', hmat, ht, fun H1 g1 t1 => ?_⟩
  refine ⟨_, rfl, [], v2, prs t, rfl, hv2.go g1.of0, rowOk_q (by rw [hvt.l]; exact hw48), t1, fun H2 g2 t2 => ⟨_, rfl, iteF ?_⟩⟩
  have g12 := g1.trans g2
  obtain ⟨a1, xs1, rfl, ea1, _, dx1⟩ := dv_tup hv1
  have lx1 := dx1.length
  rw [List.length_map] at lx1
  have hv2o := hv2
  obtain ⟨a2, xs2, rfl, ea2, _, dx2⟩ := dv_tup hv2
  have lx2 := dx2.length
  rw [List.length_map, prs, List.length_map, hvt.l] at lx2
  have e1 := g12.tup ea1 (nn _)
  have e2 := g12.tup ea2 (nn _)
  refine ⟨_, rfl, a1, xs1, rfl, .inr (SqT.of e1), _, _, rfl, rfl, _, rfl, ?_⟩
  by_cases c0 : 0 < xs1.length
  case' neg => refine if_false_of (decide_eq_false (by omega)) (iteF ?_)
  case' pos =>
    refine if_true_of (decide_eq_true (by omega)) ?_
    obtain ⟨d0, ed0, hx0⟩ := (dx1.go g12).get (List.getElem?_eq_getElem c0)
    rw [List.getElem?_map] at ed0
    obtain ⟨r0, er0, rfl⟩ := Option.map_eq_some_iff.mp ed0
    obtain ⟨b0, ys0, eb0, eb1, _, dy0⟩ := dv_tup hx0
    have ly0 := dy0.length
    rw [List.length_map, prs, List.length_map, (hrw r0 (List.mem_of_getElem? er0)).l] at ly0
    refine ⟨_, rfl, a1, _, 0, xs1[0], rfl, rfl, SqT.of e1, atI_nat (j := 0) (List.getElem?_eq_getElem c0), b0, ys0, by rw [eb0], .inr (SqT.of eb1), _, rfl, a2, xs2, rfl, .inr (SqT.of e2), rfl, _, rfl, ?_⟩
    refine if_false_of (by rw [ly0, lx2]; simp) ?_
  all_goals
    refine ⟨_, rfl, a2, xs2, rfl, .inr (SqT.of e2), fun x dx hx hdx hne => ?_⟩
    have gA := Go.new (T := T) (M := []) (o := .own x) hdx
    have hxA : upd H2 dx (.own x) x = none := by rw [upd_ne hne.symm]; exact hx
    have gB := Go.new (T := T) (M := []) (o := .ins C dx []) hxA
    refine ⟨x, dx, wd, congrArg (fun z : Int => [V.ref x, V.int z]) (show ((xs2.length : Nat) : Int) = (wd : Int) by rw [lx2]), upd_same, gB.tb (gA.tb t2), fun lp lr0 lb H3 hlp hlr hlb g3 t3 S3 => ⟨rfl, ?_⟩⟩
    have g23 : Go T [] H2 H3 := ((gA.trans gB).of0.trans g3).cut fun b hb' => .inr (by rw [List.mem_singleton.mp hb']; exact hx)
    have g03 := g12.trans g23
    have n0 : ∀ b ∈ [x, lp, lb], H b = none := fun b hb' => by
      simp only [List.mem_cons, List.not_mem_nil, or_false] at hb'
      rcases hb' with e | e | e
      · rw [e]; exact g12.al _ hx
      · rw [e]; exact g12.al _ (gA.al _ (gB.al _ hlp))
      · rw [e]; exact g12.al _ (gA.al _ (gB.al _ hlb))
    have dxh : DvAll [x, lp, lb] H xs1 (rows.map rowQ) := ((dx1.hide (n0 lb (by simp))).hide (n0 lp (by simp))).hide (n0 x (by simp))
    have hv2h : Dv [x, lp, lb] H (.ref a2) (rowQ t) := ((hv2o.hide (n0 lb (by simp))).hide (n0 lp (by simp))).hide (n0 x (by simp))
    have na1 : a1 ∉ [x, lp, lb] := fun z => by have := n0 _ z; rw [ea1] at this; cases this
    have na2 : a2 ∉ [x, lp, lb] := fun z => by have := n0 _ z; rw [ea2] at this; cases this
    have e13 := g03.tup ea1 (nn _)
    refine ⟨_, rfl, a1, xs1, rfl, SqT.of e13, fun D hD => ?_⟩
    have gD := Go.new (T := T) (M := []) (o := .lst []) hD
    have S3D := (S3.hide hD)
    have nDx : ∀ b ∈ [x, lp, lb], b ∉ [D] := fun b hb' z => by
      rw [List.mem_singleton.mp z] at hb'
      obtain ⟨dx3, eP3⟩ := S3.ob
      simp only [List.mem_cons, List.not_mem_nil, or_false] at hb'
      rcases hb' with e | e | e
      · rw [e, eP3] at hD; cases hD
      · rw [e, S3.pv] at hD; cases hD
      · rw [e, S3.bt] at hD; cases hD
    have nD : D ∉ [x, lp, lb] := fun z => nDx D z (List.mem_singleton.mpr rfl)
    have cut : ∀ {H' : Hp}, Go T [x, lp, lb] H3 H' → Go T [] H H' := fun g' => (g03.of0.trans g').cut fun b hb' => .inr (n0 b hb')
    refine lc_it (walkN (xs := xs1)) (fun i H' => ∃ lr, Go T [x, lp, lb] H3 H' ∧ Tabs T H' ∧ SpanX C H' x lp lr lb wd (runS wd rows i).ps (runS wd rows i).rs (runS wd rows i).bs [D] ∧ H' D = some (.lst (natV (runS wd rows i).ks)))
      ⟨lr0, gD.of0, gD.tb t3, S3D.go gD, upd_same⟩ (fun i H' _ ⟨_, g', _⟩ => SqT.of (g'.tup e13 na1)) (fun i y H4 H5 hi hP hy => ?_) (fun H4 hP => ?_)
    · obtain ⟨lr, g4, t4, S4, eD4⟩ := hP
      obtain ⟨pz, z, rfl, hn, rfl, ex⟩ := hy
      have hi' : i < rows.length := by omega
      have hR := hRun i (by omega)
      have gz := Go.new (T := T) (M := []) (o := .tup [V.int (i : Nat), z]) hn
      have S5 := S4.go gz
      have t5 := gz.tb t4
      have eD5 := gz.lst eD4 (nn _)
      have g5 := g4.trans gz.of0
      obtain ⟨d, ed, hzv⟩ := dxh.get ex
      rw [List.getElem?_map, List.getElem?_eq_getElem hi'] at ed
      cases ed
      have er : rows.getD i [] = rows[i] := by rw [List.getD_eq_getElem?_getD, List.getElem?_eq_getElem hi'] <;> rfl
      have hz5 := (hzv.go g03.of0).go g5
      have hV := (hrw rows[i] (List.getElem_mem _)).ok
      have eS : runS wd rows (i + 1) = stepS wd (runS wd rows i) i rows[i] := by rw [← er]; rfl
      refine ⟨pz, _, rfl, SqT.of upd_same, rfl, _, _, rfl, _, _, rfl, rfl, rfl, ?_⟩
      generalize upd H4 pz (.tup [V.int (i : Nat), z]) = H5 at *
      obtain ⟨dx5, eP5⟩ := S5.ob
      have hlb5 := hR.lb
      have hlk5 := hR.lk
      have hle5 := hR.kp.sp.len_le
      refine ⟨_, rfl, x, dx5, _, rfl, eP5, rfl, _, rfl, x, lp, lr, lb, wd, m, Bd, (runS wd rows i).ts, (runS wd rows i).ps, (runS wd rows i).rs, (runS wd rows i).bs, [D], _, z, prs rows[i], rfl, S5, (fun b hb' => by rw [List.mem_singleton.mp hb', eD5]; exact fun z => by cases z), hR.kp, hz5, hV, by omega, t5,
        fun H6 g6 t6 hz0 => ⟨_, rfl, ?_⟩, fun lr' q' H6 h0 g6 t6 hq hq0 hqf S6 => ⟨_, rfl, ?_⟩⟩
      · refine if_false_of rfl ?_
        have e0 : stepS wd (runS wd rows i) i rows[i] = runS wd rows i := by
          unfold stepS
          rw [firstQ_none hz0]
        rw [eS, e0]
        exact ⟨lr, g5.trans g6.of0, t6, S5.go g6, g6.lst eD5 (nn _)⟩
      · refine if_true_of rfl ?_
        have e0 : stepS wd (runS wd rows i) i rows[i] = ⟨(runS wd rows i).ts ++ [topsQ rows[i]], (runS wd rows i).ps ++ [q'], putRows (runS wd rows i).ps (runS wd rows i).rs (topsQ rows[i]) q', (runS wd rows i).bs ++ [(lowQ rows[i] : Int)], (runS wd rows i).ks ++ [i]⟩ := by
          unfold stepS
          rw [firstQ_some hq hq0 hqf]
        rw [eS, e0]
        have eD6 := g6.lst eD5 nD
        refine ⟨_, rfl, _, eD6, by rw [List.length_map, sizeLine_eq]; omega, lr', ?_, ?_, ?_, ?_⟩
        · exact (g5.trans g6).over hD eD6 (fun _ z => by cases z)
        · exact (Go.set (M := [D]) (o := .lst (natV (runS wd rows i).ks ++ [V.int (i : Nat)])) eD6 (fun _ z => by cases z) (List.mem_singleton.mpr rfl)).tb t6
        · exact S6.goX (Go.set (T := T) (M := [D]) (o := .lst (natV (runS wd rows i).ks ++ [V.int (i : Nat)])) eD6 (fun _ z => by cases z) (List.mem_singleton.mpr rfl)) (nDx x (by simp)) (nDx lp (by simp)) (nDx lb (by simp))
        · rw [upd_same, show natV ((runS wd rows i).ks ++ [i]) = natV (runS wd rows i).ks ++ [V.int (i : Nat)] from List.map_append ..]
    · obtain ⟨lr, g4, t4, S4, eD4⟩ := hP
      rw [lx1] at S4 eD4
      have hR := hRun rows.length (Nat.le_refl _)
      have hrl : ∀ r ∈ rows, r.length = wd := fun r hr' => (hrw r hr').l
      have hlt : (topsQ t).length = wd := hvt.ok.len
      have S5 := S4.drop
      obtain ⟨dx5, eP5⟩ := S5.ob
      have hv5 := (hv2h.go g03.of0).go g4
      have hlb5 := hR.lb
      have hlk5 := hR.lk
      have hle5 := hR.kp.sp.len_le
      have q' : ∀ u H', Go T [] H H' → Tabs T H' → Dv [] H' u (madeOf wd rows t) → Q u H' := q
      unfold madeOf at q'
      have hsb : Sh (runS wd rows rows.length).bs := Sh.of fun e he => by
        obtain ⟨b1, b2, b3⟩ := hR.at_ e (by omega)
        rw [b3]
        have := (hrw _ (show rows.getD ((runS wd rows rows.length).ks.getD e 0) [] ∈ rows by rw [List.getD_eq_getElem?_getD, List.getElem?_eq_getElem b1]; exact List.getElem_mem _)).low
        exact Nat.lt_of_lt_of_le (by simpa using this) (Nat.pow_le_pow_right (by decide) (by decide))
      generalize runS wd rows rows.length = st at *
      refine ⟨_, rfl, x, dx5, _, rfl, eP5, rfl, _, rfl, x, lp, lr, lb, wd, m, Bd, st.ts, st.ps, st.rs, st.bs, _, _, prs t, rfl, S5, hR.kp, hv5, hvt.ok, hlb5, hsb, t4, fun p0 H6 g6 t6 hp0 hp1 => ?_, fun u H6 g6 t6 hz0 hu => ?_⟩
      · refine ⟨_, rfl, rfl, _, rfl, ?_⟩
        refine if_true_of (decide_eq_true rfl) ?_
        have S6 := S5.go g6
        obtain ⟨dx6, eP6⟩ := S6.ob
        refine ⟨_, rfl, x, dx6, _, rfl, eP6, rfl, _, rfl, x, lp, lr, lb, wd, m, Bd, st.ts, st.ps, st.rs, st.bs, _, _, prs t, rfl, S6, hR.kp, hv5.go g6.of0, hvt.ok, ⟨p0, hp0, by rw [← hR.kp.sp.rest_pad hlt hp0]; exact hp1⟩, t6, fun u p1 H7 g7 t7 a1' a2' a3' hu => ?_⟩
        refine ⟨by show 2 ≤ sizeLine; decide, fun o ho => ?_⟩
        have go := Go.new (T := T) (M := []) (o := .tup [V.str "apart", u]) ho
        refine q' _ _ ((((cut g4).trans g6).trans g7).trans go) (go.tb t7) ?_
        have en : firstQ wd (restP st.ps st.rs (topsQ t)) ≠ none := fun z => by
          rcases firstQ_cases wd (restP st.ps st.rs (topsQ t)) with ⟨_, zz⟩ | ⟨p2, e0, _⟩
          · exact hp1 (zz p0 hp0)
          · rw [e0] at z; cases z
        show Dv [] _ _ (if firstQ wd (restP st.ps st.rs (topsQ t)) = none then _ else _)
        rw [if_neg en, firstQ_some a1' a2' a3']
        exact .tup upd_same (nn _) (.cons (.str _) (.cons (hu.go go) .nil))
      · obtain ⟨b, ws, rfl, eb, nb, dws⟩ := dv_tup hu
        have lws := dws.length
        have lwt : (wtsS wd st t).length = st.bs.length := wts_len
        have dws : DvAll [] H6 ws (rats (wtsS wd st t)) := dws
        have lws2 : ws.length = st.ks.length := by
          have := dws.length
          rw [this]
          unfold rats prs
          rw [List.length_map, List.length_map, lwt]
          omega
        refine ⟨_, rfl, rfl, _, rfl, ?_⟩
        refine if_false_of (decide_eq_false fun z => by cases z) ?_
        have eD6 := g6.lst eD4 (nn _)
        have ekm : natV st.ks = (st.ks.map keyN).map kV := by rw [List.map_map]; rfl
        refine ⟨_, rfl, _, rfl, D, b, st.ks.map keyN, ws, rfl, by rw [← ekm]; exact SqL.of eD6, SqT.of eb, by rw [List.length_map, lws2], (fun z => by rw [z, eb] at eD6; cases eD6), fun d hd => ?_⟩
        have hnd : (((st.ks.map keyN).zip ws).map (·.1)).Nodup := by
          have e1 : ((st.ks.map keyN).zip ws).map (·.1) = st.ks.map keyN := by
            rw [List.map_fst_zip]
            rw [List.length_map, lws2]
            exact Nat.le_refl _
          rw [e1]
          refine List.pairwise_iff_getElem.mpr fun j k hj hk hjk => ?_
          rw [List.length_map] at hj hk
          rw [List.getElem_map, List.getElem_map]
          intro e
          injection e with e
          have := hR.inc j k hjk (by omega)
          rw [List.getD_eq_getElem?_getD, List.getElem?_eq_getElem hj, List.getD_eq_getElem?_getD, List.getElem?_eq_getElem hk] at this
          simp only [Option.getD_some] at this
          omega
        rw [mergeK_nd (acc := []) (fun p hp => absurd hp List.not_mem_nil) hnd, List.nil_append]
        have gd := Go.new (T := T) (M := []) (o := .dK ((st.ks.map keyN).zip ws)) hd
        have ed : upd H6 d (.dK ((st.ks.map keyN).zip ws)) d = some (.dK ((st.ks.map keyN).zip ws)) := upd_same
        have t7 := gd.tb t6
        have dw7 := dws.go gd
        have g07 := ((cut g4).trans g6).trans gd
        have e17 := g07.tup ea1 (nn _)
        generalize upd H6 d (.dK ((st.ks.map keyN).zip ws)) = H7 at *
        refine ⟨_, rfl, a1, xs1, rfl, .inr (SqT.of e17), ?_⟩
        refine ⟨_, rfl, by omega, by omega, fun D2 hD2 => ?_⟩
        have dw8 := dw7.hide hD2
        refine lc_dv (T := T) (M := []) (fun j => rat (placeF (st.ks.zip (wtsS wd st t)) j).num (placeF (st.ks.zip (wtsS wd st t)) j).den) (walk_range (lo := 0) (n := ((xs1.length : Nat) : Int).toNat)) (fun _ _ => trivial) t7 Go.refl hD2 (by rw [sizeLine_eq]; omega) (fun j y H8 H9 Rt hj g8 t8 hne8 hy hRt => ?_) (fun H8 ys g8 t8 ed8 da => ?_)
        · obtain ⟨rfl, ey⟩ := hy
          have ey2 : y = V.int (j : Int) := by rw [ey]; show V.int (0 + (j : Int)) = _; rw [Int.zero_add]
          clear ey
          subst ey2
          have edd := g8.gr d _ ed (nn _) (fun _ z => by cases z)
          refine ⟨rfl, _, rfl, d, rfl, .inl ⟨_, .inl edd⟩, _, rfl, by show 2 ≤ sizeLine; decide, fun z hz' => ?_⟩
          have gz := Go.new (T := T) (M := []) (o := .tup [V.int 0, V.int 1]) hz'
          have nz : z ∉ [D2] := fun zz => by rw [List.mem_singleton.mp zz] at hz'; exact hne8 hz'
          refine ⟨_, DGet.k (k := keyN j) (gz.gr d _ edd (nn _) (fun _ z => by cases z)), ?_⟩
          rcases get_dv ((dw8.go g8.of0).go gz.of0) (show st.ks.length = (wtsS wd st t).length by rw [lwt]; omega) j with ⟨v, ev, hv⟩ | ⟨ev, e0⟩
          · rw [ev]
            exact hRt _ _ gz hv
          · rw [ev]
            refine hRt _ _ gz ?_
            rw [e0]
            exact .tup upd_same nz (.cons (.int 0) (.cons (.int 1) .nil))
        · rw [Int.toNat_natCast, lx1] at da
          refine .inl ⟨D2, ys, rfl, SqL.of ed8, fun R hR' => ?_⟩
          have uR := Go.new (T := T) (M := []) (o := .tup ys) hR'
          refine ⟨by show 2 ≤ sizeLine; decide, fun o ho => ?_⟩
          have uo := Go.new (T := T) (M := []) (o := .tup [V.str "made", .ref R]) ho
          refine q' _ _ (((g07.trans g8).trans uR).trans uo) (uo.tb (uR.tb t8)) ?_
          show Dv [] _ _ (if firstQ wd (restP st.ps st.rs (topsQ t)) = none then _ else _)
          rw [if_pos (firstQ_none hz0)]
          refine .tup upd_same (nn _) (.cons (.str _) (.cons (.tup (uo.tup upd_same (nn _)) (nn _) ?_) .nil))
          have e : (prs (placeQ rows.length st.ks (wtsS wd st t))).map (fun r => rat r.1 r.2) = (List.range rows.length).map fun j => rat (placeF (st.ks.zip (wtsS wd st t)) j).num (placeF (st.ks.zip (wtsS wd st t)) j).den := by
            unfold prs placeQ
            rw [List.map_map, List.map_map]
            rfl
          rw [e]
          exact ((da.less (M' := []) (by simp)).go uR).go uo
end
end KN
set_option Elab.async false
set_option linter.all false
set_option maxRecDepth 100000
set_option maxHeartbeats 8000000
/-! k39: _law_asked -/
namespace KN
open PySem PySem.Spec PyProof.Rows L2 GxR NdefX GA SL ZN RZ
open SQ (restP)
abbrev s_law_asked : Stmt := top 38
theorem sc_law_asked : FnScope ["rows", "target", "due", "found"] ["rows", "target", "due"] (defScope s_law_asked) := ⟨rfl, rfl, rfl, by decide +kernel, rfl, by decide +kernel, by decide +kernel⟩
/-- whether the target is made -/
def MadeQ (w : Nat) (rows : List (List Rat)) (t : List Rat) : Prop := firstQ w (restP (runS w rows rows.length).ps (runS w rows rows.length).rs (topsQ t)) = none
def DueOk (w : Nat) (rows : List (List Rat)) (t : List Rat) (due : Str) : Prop := due = "" ∨ (due = "made" ∧ MadeQ w rows t) ∨ (due = "apart" ∧ ¬ MadeQ w rows t)
theorem made_data {w : Nat} {rows : List (List Rat)} {t : List Rat} (h : MadeQ w rows t) : madeOf w rows t = .tuple [.str "made", rowQ (placeQ rows.length (runS w rows rows.length).ks (wtsS w (runS w rows rows.length) t))] := by
  unfold madeOf
  exact if_pos h
theorem apart_data {w : Nat} {rows : List (List Rat)} {t : List Rat} (h : ¬ MadeQ w rows t) : ∃ ms : List Rat, ms.length = w ∧ madeOf w rows t = .tuple [.str "apart", rowQ ms] := by
  refine ⟨_, ?_, by unfold madeOf; exact if_neg h⟩
  rw [List.length_map, List.length_range]
/-- what the law asks -/
structure AskOk (w m B : Nat) (rows : List (List Rat)) (t : List Rat) : Prop where
  n : rows.length ≤ 48
  r : ∀ r ∈ rows, VecQ w B r
  t : VecQ w B t
  big : Big w m B
theorem lcm_le {qs : List Rat} {q : Rat} (h : q ∈ qs) : q.den ≤ lowQ qs := by
  have h1 := lcms_mem (rs := prs qs) (r := (q.num, (q.den : Int))) (List.mem_map_of_mem (f := fun q : Rat => (q.num, (q.den : Int))) h)
  exact Nat.le_of_dvd (lowQ_pos qs) (by simpa using h1)
theorem VecQ.bl {w B : Nat} {r : List Rat} (h : VecQ w B r) : ∀ q ∈ r, Bl' (2 ^ 2000) (2 ^ 9000) q := fun q hq => ⟨Nat.le_of_lt (Nat.lt_of_le_of_lt (lcm_le hq) h.low), Nat.le_of_lt (h.num q hq)⟩
theorem AskOk.told {w m B : Nat} {rows : List (List Rat)} {t : List Rat} (h : AskOk w m B rows t) : Told (2 ^ 8000) (2 ^ 10000) rows t (madeOf w rows t) :=
  told_made (Run.all h.big.hB h.big.w48 h.big.m1 (Nat.le_of_succ_le h.big.wm) h.big.big h.r rows.length (Nat.le_refl _)) rfl h.r h.t h.big.wm
theorem AskOk.okS {w m B : Nat} {rows : List (List Rat)} {t : List Rat} (h : AskOk w m B rows t) : okS 3 (madeOf w rows t) := by
  have h48 := h.big.w48
  by_cases c : MadeQ w rows t
  · rw [made_data c]
    refine okS_told ?_
    unfold prs placeQ
    rw [List.length_map, List.length_map, List.length_range]
    have := h.n
    omega
  · obtain ⟨ms, hl, e⟩ := apart_data c
    rw [e]
    refine okS_told ?_
    unfold prs
    rw [List.length_map]
    omega
def sp_asked (T : List Addr) : Sp := fun vs H Q _ => ∃ (v1 v2 : V) (rows : List (List Rat)) (t : List Rat) (w m B : Nat) (due : Str), vs = [v1, v2, .str due] ∧ Dv [] H v1 (.tuple (rows.map rowQ)) ∧ Dv [] H v2 (rowQ t) ∧ AskOk w m B rows t ∧ DueOk w rows t due ∧ Tabs T H ∧ ∀ H', Go T [] H H' → Tabs T H' → Q (.bl true) H'
section
variable {P : Program} {w : World} {K : PySem.W.Frag} {mg : Str → Option Value} {base : Heap} {f c CK CN CT CR : Addr} {fd : FuncData} {T : List Addr}
theorem ok_law_asked (F : Fun K "_law_asked" "_law_asked" s_law_asked f fd) (Fm : Fnn P w K mg base CX0 37 "made_of" ["rows", "target"] (sp_made_of T)) (Fk : Fnr P w K mg base CX0 37 "made_of" ["rows", "target"] (sp_made_of T)) (Fr : Fnn P w K mg base CX0 36 "_law_right" ["found", "rows", "target"] (sp_right T))
    (Fs : Fnn P w K mg base CX0 4 "_law_same" ["found", "due"] (sp_same T 3)) : FnOk P w K mg base CX0 38 f fd ["rows", "target", "due"] (sp_asked T) := by
  refine F.ok sc_law_asked (fun vs H Q E h => ?_) (fun cdv A outer s H vs Q E hr h => ?_)
  · obtain ⟨_, _, _, _, _, _, _, _, rfl, _⟩ := h
    rfl
  have nd := sc_law_asked.nd
  have nn : ∀ b : Addr, b ∉ ([] : List Addr) := fun b => List.not_mem_nil
  obtain ⟨v1, v2, rows, t, wd, m, Bd, due, rfl, hv1, hv2, hA, hD, ht, q⟩ := h
  refine ⟨_, pss_cons (ps_set (i := 3) nd rfl (.inl rfl) (pe_fn Fm hr (by decide) pass0 (pa_cons (pv 0) (pa_cons (pv 1) pa_nil))))
    (pss_cons (ps_if (PW.pt (pw_or (pt_not (pt_val (pe_fn Fr hr (by decide) pass0 (pa_cons (pv 3) (pa_cons (pv 0) (pa_cons (pv 1) pa_nil)))))) (pw_or1 (pt_cmpR op_notIn_seq (pv 2) (pe_tup (pa_cons pe_str (pa_cons (pe_ix ix_tup (pv 3) pe_int (fun _ _ => rfl)) pa_nil))) rfl)))) (pss_one (ps_ret pe_bl)) pss_nil)
    (pss_one (ps_ret (pe_fn Fs hr (by decide) pass0 (pa_cons (pe_kwR Fk hr (by decide) (fun σ => pass0S σ) (pk_cons (pv 1) (pk_cons (pv 0) pk_nil))) (pa_cons (pv 3) pa_nil)))))), ?_⟩
  refine ⟨_, rfl, _, rfl, v1, v2, rows, t, wd, m, Bd, rfl, hv1, hv2, hA.n, hA.r, hA.t, hA.big, ht, fun u H1 g1 t1 hu => ?_⟩
  have hu0 := hu
  have p12 : (2 : Nat) ^ 8000 * 2 ^ 2000 < 2 ^ 18000 := by rw [← Nat.pow_add]; exact Nat.pow_lt_pow_right (by decide) (by decide)
  have p1 : (2 : Nat) ^ 10000 < 2 ^ 40000 := Nat.pow_lt_pow_right (by decide) (by decide)
  have p2 : (2 : Nat) ^ 9000 < 2 ^ 40000 := Nat.pow_lt_pow_right (by decide) (by decide)
  refine ⟨_, rfl, _, rfl, _, rfl, [], [], [], u, v1, v2, madeOf wd rows t, rows, t, 2 ^ 8000, 2 ^ 10000, 2 ^ 2000, 2 ^ 9000, rfl, hu, hv1.go g1, hv2.go g1, hA.told, hA.n, by rw [hA.t.l]; exact hA.big.w48, (fun r hr' => by rw [(hA.r r hr').l, hA.t.l]), (fun r hr' => (hA.r r hr').bl), hA.t.bl, Nat.one_le_two_pow, Nat.one_le_two_pow, p12, p1, p2, t1, fun H2 g2 t2 => ⟨_, rfl, iteF ?_⟩⟩
  have hu2 := hu.go g2
  have wd2 : ∃ (r : Addr) (vy : V) (x : Str), u = .ref r ∧ H2 r = some (.tup [.str x, vy]) ∧ (due = "" ∨ due = x) := by
    by_cases c : MadeQ wd rows t
    · rw [made_data c] at hu2
      obtain ⟨r, vx, vy, rfl, er, _, hx, _⟩ := dv_pair hu2
      cases hx
      refine ⟨r, vy, _, rfl, er, ?_⟩
      rcases hD with h | ⟨h, _⟩ | ⟨_, h⟩
      · exact .inl h
      · exact .inr h
      · exact absurd c h
    · obtain ⟨ms, _, e⟩ := apart_data c
      rw [e] at hu2
      obtain ⟨r, vx, vy, rfl, er, _, hx, _⟩ := dv_pair hu2
      cases hx
      refine ⟨r, vy, _, rfl, er, ?_⟩
      rcases hD with h | ⟨_, h⟩ | ⟨h, _⟩
      · exact .inl h
      · exact absurd h c
      · exact .inr h
  obtain ⟨r, vy, x, rfl, er, hx⟩ := wd2
  refine ⟨_, rfl, _, rfl, r, _, 0, _, rfl, rfl, SqT.of er, atI_nat (j := 0) rfl, by show 2 ≤ sizeLine; decide, fun o ho => ?_⟩
  have go := Go.new (T := T) (M := []) (o := .tup [V.str "", V.str x]) ho
  refine ⟨o, _, rfl, .inr (SqT.of upd_same), rfl, rfl, _, rfl, ?_⟩
  have ein : inV (V.str due) [V.str "", V.str x] = true := by
    unfold inV
    rcases hx with rfl | rfl
    · simp [eqV]
    · simp [eqV]
  refine if_false_of (by show (if true = true then !inV _ _ else _) = false; rw [if_pos rfl, ein]; rfl) ?_
  refine ⟨_, rfl, _, rfl, v1, v2, rows, t, wd, m, Bd, rfl, ((hv1.go g1).go g2).go go, ((hv2.go g1).go g2).go go, hA.n, hA.r, hA.t, hA.big, go.tb t2, fun u2 H3 g3 t3 hu3 => ?_⟩
  refine ⟨_, rfl, u2, .ref r, [], [], madeOf wd rows t, rfl, hu3, ((hu0.go g2).go go).go g3, hA.okS, t3, fun H4 g4 t4 => q _ ((((g1.trans g2).trans go).trans g3).trans g4) t4⟩
end
end KN
set_option Elab.async false
set_option linter.all false
set_option maxRecDepth 100000
set_option maxHeartbeats 8000000
/-! k39: sizes; what is made and what is apart -/
namespace KN
open PySem PySem.Spec PyProof.Rows L2 GxR NdefX GA SL ZN RZ
open SQ (ent restP sumQ)
theorem vecQ_of {w D N : Nat} {r : List Rat} (hl : r.length = w) (h : ∀ q ∈ r, Bd D N q) (h0 : 0 < D) (hD : D < 2 ^ 2000) (hN : N < 2 ^ 9000) : VecQ w (N * D) r := by
  have hd : lowQ r ≤ D := Nat.le_of_dvd h0 (lcms_dvd fun q hq => (h q hq).1)
  refine ⟨hl, Nat.lt_of_le_of_lt hd hD, fun q hq => Nat.lt_of_le_of_lt (h q hq).2 hN, fun e => ?_⟩
  by_cases c : e < (topsQ r).length
  · rw [SQ.ent_get c]
    have key : ∀ z ∈ topsQ r, z.natAbs ≤ N * lowQ r := fun z hz => by
      rw [show topsQ r = over (lowQ r) r from tops_over r] at hz
      exact over_le (fun q hq => (h q hq).2) z hz
    exact Nat.le_trans (key _ (List.getElem_mem _)) (Nat.mul_le_mul_left _ hd)
  · rw [SQ.ent_ge (by omega)]
    exact Nat.zero_le _
theorem VecQ.up {w B B' : Nat} {r : List Rat} (h : VecQ w B r) (hB : B ≤ B') : VecQ w B' r := ⟨h.l, h.low, h.num, fun e => Nat.le_trans (h.b e) hB⟩
theorem Bd.up {D N D' N' : Nat} {q : Rat} (h : Bd D N q) (hD : D ∣ D') (hN : N ≤ N') : Bd D' N' q := ⟨Nat.dvd_trans h.1 hD, Nat.le_trans h.2 hN⟩
theorem Bd.bl {D N : Nat} {q : Rat} (h : Bd D N q) (h0 : 0 < D) : Bl' D N q := ⟨Nat.le_of_dvd h0 h.1, h.2⟩
theorem AskOk.run {w m B : Nat} {rows : List (List Rat)} {t : List Rat} (h : AskOk w m B rows t) : Run w m B rows rows.length (runS w rows rows.length) := Run.all h.big.hB h.big.w48 h.big.m1 (Nat.le_of_succ_le h.big.wm) h.big.big h.r rows.length (Nat.le_refl _)
/-- a sum of the rows is made -/
theorem made_comb {w m B : Nat} {rows : List (List Rat)} {ws : List Rat} (h : AskOk w m B rows (combQ ws rows w)) (hl : ws.length = rows.length) : MadeQ w rows (combQ ws rows w) := by
  refine none_of_comb h.run h.t (c := fun k => ws.getD k 0) fun e he => ?_
  have e1 : (combQ ws rows w).getD e 0 = dotQ ws (colQ rows e) := by
    unfold combQ
    rw [List.getD_eq_getElem?_getD, List.getElem?_map, List.getElem?_range he]
    rfl
  rw [e1, dotQ_sum (by unfold colQ; rw [List.length_map]; exact hl), hl]
  exact SQ.sumQ_congr fun k hk => by rw [col_getD hk]
/-- zeros are made -/
theorem made_zero {w m B : Nat} {rows : List (List Rat)} {t : List Rat} (h : AskOk w m B rows t) (hz : ∀ q ∈ t, q = 0) : MadeQ w rows t := by
  refine none_of_comb h.run h.t (c := fun _ => 0) fun e he => ?_
  rw [SQ.sumQ_zero' (fun k _ => Rat.zero_mul _), List.getD_eq_getElem?_getD, List.getElem?_eq_getElem (by rw [h.t.l]; exact he)]
  exact hz _ (List.getElem_mem _)
/-- what marks tell apart is not made -/
theorem apart_marks {w m B : Nat} {rows : List (List Rat)} {t : List Rat} (h : AskOk w m B rows t) {a : Nat → Rat} (h0 : ∀ k < rows.length, sumQ w (fun e => a e * (rows.getD k []).getD e 0) = 0) (h1 : sumQ w (fun e => a e * t.getD e 0) = 1) : ¬ MadeQ w rows t :=
  some_of_marks h.run (fun r hr => (h.r r hr).l) h.t h0 h1
/-- without rows: what is not 0 is not made -/
theorem apart_nil {w m B : Nat} {t : List Rat} (h : AskOk w m B [] t) {e : Nat} (he : e < w) (h0 : t.getD e 0 ≠ 0) : ¬ MadeQ w [] t := by
  refine apart_marks h (a := fun i => if i = e then 1 / t.getD e 0 else 0) (fun k hk => absurd hk (Nat.not_lt_zero _)) ?_
  rw [SQ.sumQ_single (k := e) (fun i _ hn => by rw [if_neg hn, Rat.zero_mul]) he, if_pos rfl]
  exact Rat.div_mul_cancel h0
/-- the sizes of the sums -/
theorem comb_bd {D D' N N' n : Nat} {ws : List Rat} {m : List (List Rat)} (hD : 0 < D) (hD' : 0 < D') (hl : ws.length = m.length) (h1 : ∀ q ∈ ws, Bd D N q) (hrl : ∀ r ∈ m, r.length = n) (h2 : ∀ r ∈ m, ∀ q ∈ r, Bd D' N' q) :
    ∀ q ∈ combQ ws m n, Bd (D * D') (ws.length * ((N * D) * (N' * D'))) q := fun q hq => by
  obtain ⟨k, hk, rfl⟩ := List.mem_map.mp hq
  refine dotQ_bd hD hD' (by unfold colQ; rw [List.length_map]; exact hl) h1 fun x hx => ?_
  obtain ⟨r, hr, rfl⟩ := List.mem_map.mp hx
  rw [List.getD_eq_getElem?_getD, List.getElem?_eq_getElem (by rw [hrl r hr]; exact List.mem_range.mp hk)]
  exact h2 r hr _ (List.getElem_mem _)
end KN
set_option Elab.async false
set_option linter.all false
set_option maxRecDepth 100000
set_option maxHeartbeats 8000000
/-! k39: rows turned at a place, so that marks are 0 with them -/
namespace KN
open PySem PySem.Spec PyProof.Rows L2 GxR NdefX GA SL ZN RZ
open SQ (sumQ)
def turnQ (r : List Rat) (p : Nat) (b : Rat) : List Rat := r.take p ++ [b] ++ r.drop (p + 1)
theorem turn_len {r : List Rat} {p : Nat} {b : Rat} (h : p < r.length) : (turnQ r p b).length = r.length := by
  unfold turnQ
  rw [List.length_append, List.length_append, List.length_take, List.length_drop]
  show min p r.length + 1 + _ = _
  omega
theorem turn_getD {r : List Rat} {p : Nat} {b : Rat} (h : p < r.length) (e : Nat) : (turnQ r p b).getD e 0 = if e = p then b else r.getD e 0 := by
  unfold turnQ
  have lt : (r.take p).length = p := by rw [List.length_take]; omega
  rw [List.getD_eq_getElem?_getD, List.append_assoc]
  by_cases c : e < p
  · rw [if_neg (by omega), List.getElem?_append_left (by omega), List.getElem?_take_of_lt c, ← List.getD_eq_getElem?_getD]
  · rw [List.getElem?_append_right (by omega), lt]
    by_cases c2 : e = p
    · rw [if_pos c2, c2, Nat.sub_self]
      rfl
    · rw [if_neg c2, show e - p = (e - p - 1) + 1 by omega]
      show ((r.drop (p + 1))[e - p - 1]?).getD 0 = _
      rw [List.getElem?_drop, show p + 1 + (e - p - 1) = e by omega, ← List.getD_eq_getElem?_getD]
theorem turn_mem {r : List Rat} {p : Nat} {b q : Rat} (h : q ∈ turnQ r p b) : q = b ∨ q ∈ r := by
  unfold turnQ at h
  rcases List.mem_append.mp h with h | h
  · rcases List.mem_append.mp h with h | h
    · exact .inr (List.mem_of_mem_take h)
    · exact .inl (List.mem_singleton.mp h)
  · exact .inr (List.mem_of_mem_drop h)
/-- the marks with 1 at the place, with a row turned there -/
theorem turn_sum {w p : Nat} {ms r : List Rat} {b : Rat} (hm : ms.length = w) (hr : r.length = w) (hp : p < w) (h0 : ms.getD p 0 = 0) : sumQ w (fun e => (if e = p then 1 else ms.getD e 0) * (turnQ r p b).getD e 0) = b + dotQ ms r := by
  have e1 : sumQ w (fun e => (if e = p then 1 else ms.getD e 0) * (turnQ r p b).getD e 0) = sumQ w fun e => (if e = p then b else ms.getD e 0 * r.getD e 0) * 1 := by
    refine SQ.sumQ_congr fun e he => ?_
    rw [turn_getD (by omega), Rat.mul_one]
    by_cases c : e = p
    · rw [if_pos c, if_pos c, if_pos c, Rat.one_mul]
    · rw [if_neg c, if_neg c, if_neg c]
  rw [e1, SQ.sumQ_upd (f := fun e => ms.getD e 0 * r.getD e 0) (g := fun _ => 1) hp (by show ms.getD p 0 * _ = 0; rw [h0, Rat.zero_mul]), Rat.mul_one, dotQ_sum (by omega), hm, Rat.add_comm]
  congr 1
  exact SQ.sumQ_congr fun e _ => Rat.mul_one _
theorem Bd.neg {D N : Nat} {q : Rat} (h : Bd D N q) : Bd D N (-q) := by
  refine ⟨by rw [Rat.neg_den]; exact h.1, by rw [Rat.neg_num, Int.natAbs_neg]; exact h.2⟩
/-- 1 - q over the same bottom -/
theorem Bd.one_sub {D N : Nat} {q : Rat} (h : Bd D N q) (h0 : 0 < D) : Bd D (N + D) (1 - q) := by
  have hd : (q.den : Int) ≠ 0 := by have := q.den_pos; omega
  have e : 1 - q = Rat.divInt ((q.den : Int) - q.num) (q.den : Int) := by
    have h1 := den_mul_self q
    have h2 : (q.den : Rat) ≠ 0 := by
      have := q.den_nz
      simpa using this
    rw [Rat.divInt_eq_div, Rat.intCast_sub]
    have e2 : ((q.den : Int) : Rat) = (q.den : Rat) := rfl
    rw [e2, ← h1]
    have h3 := Rat.div_mul_cancel (a := (q.den : Rat) - q * (q.den : Rat)) h2
    refine SQ.mul_left_cancel' h2 ?_
    grind
  rw [e]
  have lo := low_of (t := (q.den : Int) - q.num) (b := (q.den : Int)) (by omega)
  obtain ⟨a1, a2⟩ := Prod.mk.inj lo
  refine ⟨?_, ?_⟩
  · have h1 : (((Rat.divInt ((q.den : Int) - q.num) (q.den : Int)).den : Nat) : Int) ∣ (q.den : Int) := by
      rw [← a2]
      exact Int.ediv_dvd_of_dvd (gcd_dvd_r _ _)
    exact Nat.dvd_trans (Int.natCast_dvd_natCast.mp h1) h.1
  · rw [← a1]
    refine Nat.le_trans (Int.natAbs_ediv_le_natAbs _ _) ?_
    have h1 := h.2
    have h2 := Nat.le_of_dvd h0 h.1
    omega
end KN
set_option Elab.async false
set_option linter.all false
set_option maxRecDepth 100000
set_option maxHeartbeats 8000000
/-! k39: _law_marked -/
namespace KN
open PySem PySem.Spec PyProof.Rows L2 GxR NdefX GA SL ZN RZ
open SQ (sumQ)
theorem sl_ok {K : PySem.W.Frag} {T M : List Addr} {H : Hp} {p : Addr} {xs : List V} {lo hi : Option Int} {Q : VK} (hp : H p = some (.tup xs)) (np : p ∉ M) (fresh : ∀ r, H r = none → r ∉ M)
    (k : ∀ r H', H' r = some (.tup (cutV xs lo hi)) → r ∉ M → Go T [] H H' → Q (.ref r) H') : rSlA K (.ref p) lo hi H Q := by
  refine ⟨p, xs, rfl, SqT.of hp, fun ⟨e1, e2⟩ => ?_, fun _ r hr => k r _ upd_same (fresh r hr) (Go.new hr)⟩
  refine k p H ?_ np Go.refl
  unfold cutV
  rw [e1, e2, List.drop_zero, Nat.sub_zero, List.take_length]
  exact hp
theorem cutV_to {xs : List V} {i : Nat} (h : i ≤ xs.length) : cutV xs none (some (i : Int)) = xs.take i := by
  unfold cutV
  rw [HT.sIx_none, HT.sIx_nat, List.drop_zero, Nat.sub_zero, Nat.min_eq_left h]
theorem cutV_len (xs : List V) (lo hi : Option Int) : (cutV xs lo hi).length ≤ xs.length := by
  unfold cutV
  rw [List.length_take, List.length_drop]
  omega
/-- [_law_entry(cup, ..) for .. in range(n)]: the list is drawn -/
theorem lc_entries {T M : List Addr} {H0 : Hp} {a l D : Addr} {k : Int} {n N : Nat} {Qd : Hp → Prop} {σ : L2.St} {g : TG} {te : TE} {vs : List Nat} (W : CupAt a l H0 k) (ht : Tabs T H0) (hD : H0 D = none) (hM0 : ∀ b ∈ [a, l], b ∈ M) (hM : ∀ b ∈ M, H0 b ≠ none) (hn : n ≤ 48)
    (hs : ∀ (j : Nat) (H1 : Hp) (R : VK), j < n → CupAt a l H1 (k + 6 * (j : Int)) → Tabs T H1 → (∀ r q H5, H1 r = none → H5 r = some (.tup [.int q.num, .int (q.den : Int)]) → Bd 42 N q → CupAt a l H5 (k + 6 * (j : Int) + 6) → Go T [a, l] H1 H5 → Tabs T H5 → R (.ref r) H5) →
      g (.int (j : Int)) (wipe σ vs) H1 fun σ2 H2 => wipe σ2 vs = wipe σ vs ∧ te σ2 H2 R)
    (hq : ∀ (H' : Hp) (ys : List V) (qs : List Rat), Go T [a, l] H0 H' → Tabs T H' → CupAt a l H' (k + 6 * (n : Int)) → H' D = some (.lst ys) → DvAll (D :: M) H' ys (rats qs) → qs.length = n → (∀ q ∈ qs, Bd 42 N q) → Qd H') :
    ∃ W : Nat → Nat → Hp → Prop, (∃ m, W 0 m (upd H0 D (.lst []))) ∧ ∀ i' m H, W i' m H →
      ((Itr 0 ((n : Nat) : Int).toNat).stop i' H ∧ Qd H) ∨ ((Itr 0 ((n : Nat) : Int).toNat).go i' H ∧ ∃ Nx : Hp → Prop, (∀ H', Nx H' → ∃ m', m' < m ∧ W (i' + 1) m' H') ∧ ∀ x H', (Itr 0 ((n : Nat) : Int).toNat).yld i' H x H' → g x (wipe σ vs) H' fun σ2 H2 => wipe σ2 vs = wipe σ vs ∧ tYes σ2 H2 fun b H3 =>
        if b = true then te σ2 H3 fun y H4 => ∃ acc, H4 D = some (.lst acc) ∧ acc.length < sizeLine ∧ Nx (upd H4 D (.lst (acc ++ [y]))) else Nx H3) := by
  have nD := W.ne hD
  refine lc_dw (T := T) (M := M) (M0 := [a, l]) (fun q : Rat => rat q.num (q.den : Int)) (Bd 42 N) (fun j H' => CupAt a l H' (k + 6 * (j : Int))) (walk_range (lo := 0) (n := ((n : Nat) : Int).toNat)) (fun _ _ => trivial) ht Go.refl hD nD hM0 (by rw [sizeLine_eq]; omega) (W.up (by omega)) (fun i H' ys xs w e => w.set nD) (fun i H' ys w e => w.set nD)
    (fun j x2 H3 H4 R2 hj g3 t3 W3 hne4 y2 hR2 => ?_) (fun H3 ws rs g3 t3 W3 ew dw lr pr => ?_)
  · obtain ⟨rfl, ey⟩ := y2
    have ey2 : x2 = V.int (j : Int) := by rw [ey]; show V.int (0 + (j : Int)) = _; rw [Int.zero_add]
    clear ey
    subst ey2
    rw [Int.toNat_natCast] at hj
    refine hs j _ R2 hj W3 t3 fun r q' H5 hr5 er bq W5 g5 t5 => ?_
    refine hR2 _ q' H5 g5 (W5.up (by omega)) (.tup er (fun z => ?_) (.cons (.int _) (.cons (.int _) .nil))) bq
    rcases List.mem_cons.mp z with rfl | z
    · exact hne4 hr5
    · exact hM _ z (g3.al _ hr5)
  · rw [Int.toNat_natCast] at lr W3
    have e5 : rats rs = rs.map fun q : Rat => rat q.num (q.den : Int) := by
      unfold rats prs
      rw [List.map_map]
      rfl
    exact hq H3 ws rs g3 t3 W3 ew (by rw [e5]; exact dw) lr pr
end KN
set_option Elab.async false
set_option linter.all false
set_option maxRecDepth 100000
set_option maxHeartbeats 8000000
/-! k39: _law_marked -/
namespace KN
open PySem PySem.Spec PyProof.Rows L2 GxR NdefX GA SL ZN RZ
open SQ (sumQ)
def turnedQ (rows : List (List Rat)) (ex ms : List Rat) (p : Nat) : List (List Rat) := (rows.map fun r => turnQ r p (-dotQ ms r)) ++ [turnQ ex p (1 - dotQ ms ex)]
abbrev s_law_marked : Stmt := top 36
abbrev NLM : List Str := ["cup", "rows", "size", "place", "marks", "turned", "row", "total", "back", "turn"]
theorem sc_law_marked : FnScope NLM ["cup", "rows", "size"] (defScope s_law_marked) := ⟨rfl, rfl, rfl, by decide +kernel, rfl, by decide +kernel, by decide +kernel⟩
def sp_marked (T : List Addr) : Sp := fun vs H Q _ => ∃ (M : List Addr) (a l : Addr) (k : Int) (b2 : Addr) (xs2 : List V) (rows : List (List Rat)) (n D N : Nat), vs = [.ref a, .ref b2, .int (n : Int)] ∧ H b2 = some (.lst xs2) ∧ b2 ∉ [a, l] ∧ DvAll M H xs2 (rows.map rowQ) ∧ rows.length ≤ 47 ∧ 1 ≤ n ∧ n ≤ 48 ∧ (∀ r ∈ rows, r.length = n ∧ ∀ q ∈ r, Bd D N q) ∧ 0 < D ∧ D < 2 ^ 1000 ∧ N < 2 ^ 4000 ∧ k ≤ 274877906944 ∧ CupAt a l H k ∧ (∀ b ∈ [a, l], b ∈ M) ∧ (∀ b ∈ M, H b ≠ none) ∧ Tabs T H ∧
  ∀ r ys (p : Nat) (ms ex : List Rat) H', H r = none → H' r = some (.lst ys) → DvAll M H' ys ((turnedQ rows ex ms p).map rowQ) → p < n → ms.length = n → ms.getD p 0 = 0 → (∀ q ∈ ms, Bd 42 4 q) → ex.length = n → (∀ q ∈ ex, Bd 42 4 q) → CupAt a l H' (k + 2000) → Go T [a, l] H H' → Tabs T H' → Q (.ref r) H'
section
variable {P : Program} {w : World} {K : PySem.W.Frag} {mg : Str → Option Value} {base : Heap} {f c CK CN CT CR : Addr} {fd : FuncData} {T : List Addr}
theorem ok_law_marked (F : Fun K "_law_marked" "_law_marked" s_law_marked f fd) (B : Bl mg) (Fd : Fnn P w K mg base CX0 1 "_law_sip" ["cup", "many"] (sp_sip T)) (Fe : Fnn P w K mg base CX0 34 "_law_entry" ["cup", "great"] (sp_entry T)) (Ft : Fnn P w K mg base CX0 1 "_law_total" ["ones", "others"] (sp_total T)) (Fr : Fnn P w K mg base CX0 33 "_law_ratio" ["top", "bottom"] sp_lratio) :
    FnOk P w K mg base CX0 35 f fd ["cup", "rows", "size"] (sp_marked T) := by
  have nd := sc_law_marked.nd
  refine F.ok sc_law_marked (fun vs H Q E h => ?_) (fun cdv A outer s H vs Q E hr h => ?_)
  · obtain ⟨_, _, _, _, _, _, _, _, _, _, rfl, _⟩ := h
    rfl
  obtain ⟨M, a, l, k, b2, xs2, rows, n, D, N, rfl, eb2, nb2, dx2, h47, hn1, hn48, hrw, hD0, hD, hN, hk, W, hM0, hM, ht, q⟩ := h
  have nn : ∀ b : Addr, b ∉ ([] : List Addr) := fun b => List.not_mem_nil
  have lx2 := dx2.length
  rw [List.length_map] at lx2
  refine ⟨_, pss_cons (ps_set (i := 3) nd rfl (.inl rfl) (pe_fn Fd hr (by decide) pass0 (pa_cons (pv 0) (pa_cons (pv 2) pa_nil))))
    (pss_cons (ps_setLc (i := 4) (own := [("turn", 9)]) (g := gName 9) (tt := tYes) (te := tCall (sp_entry T) [] E0 (tCons (tVar 0) (tCons (tC (.bl false)) tNil))) rfl nd rfl rfl (sw_true rfl rfl rfl (by decide +kernel)) (pi_range1 (by rfl) B.range (pa_cons (pv 2) pa_nil))
        (blkOk_by (own := [("turn", 9)]) (N := NLM) (sc := defScope s_law_marked) (by decide +kernel)) (fun _ _ _ _ _ => pg_name (i := 9) nd rfl (.inl rfl)) (fun _ _ _ _ _ => pts_nil)
        (fun _ _ _ _ _ => pe_fn Fe hr (by decide) pass0 (pa_cons (pv 0) (pa_cons pe_bl pa_nil))))
    (pss_cons (ps_asg (pe_tup (pa_cons pe_int (pa_cons pe_int pa_nil))) (pg_sub (pv 4) (pv 3) set_list))
    (pss_cons (ps_set (i := 5) nd rfl (.inl rfl) (pe_lst pa_nil))
    (pss_cons (ps_for PassesOwn.never rfl (pi_list (pe_op op_cat (pv 1) (pe_lst (pa_cons (pe_tupleOf (by rfl) B.tuple (pe_lc (own := [("turn", 9)]) (g := gName 9) (tt := tYes) (te := tCall (sp_entry T) [] E0 (tCons (tVar 0) (tCons (tC (.bl false)) tNil))) (by rfl) nd (pi_range1 (by rfl) B.range (pa_cons (pv 2) pa_nil))
        (blkOk_by (own := [("turn", 9)]) (N := NLM) (sc := defScope s_law_marked) (by decide +kernel)) (fun _ _ _ _ _ => pg_name (i := 9) nd rfl (.inl rfl)) (fun _ _ _ _ _ => pts_nil)
        (fun _ _ _ _ _ => pe_fn Fe hr (by decide) pass0 (pa_cons (pv 0) (pa_cons pe_bl pa_nil))))) pa_nil)))) (pg_name (i := 6) nd rfl (.inl rfl))
      (pss_cons (ps_set (i := 7) nd rfl (.inl rfl) (pe_fn Ft hr (by decide) pass0 (pa_cons (pv 4) (pa_cons (pv 6) pa_nil))))
      (pss_cons (ps_set (i := 8) nd rfl (.inl rfl) (pe_fn Fr hr (by decide) pass0 (pa_cons (pe_un un_neg (pe_ix ix_tup (pv 7) pe_int (fun _ _ => rfl))) (pa_cons (pe_ix ix_tup (pv 7) pe_int (fun _ _ => rfl)) pa_nil))))
      (pss_cons (ps_if (pt_cmpR op_eq (pe_lenq B (pv 5)) (pe_lenq B (pv 1)) (nomark _)) (pss_one (ps_set (i := 8) nd rfl (.inl rfl) (pe_fn Fr hr (by decide) pass0 (pa_cons (pe_op op_sub (pe_ix ix_tup (pv 7) pe_int (fun _ _ => rfl)) (pe_ix ix_tup (pv 7) pe_int (fun _ _ => rfl))) (pa_cons (pe_ix ix_tup (pv 7) pe_int (fun _ _ => rfl)) pa_nil))))) pss_nil)
      (pss_one (ps_expr (pe_bm PySem.F.plainAttrs_list PySem.F.slot_list_append PySem.F.type_list_append mt_append (pv 5) (pa_cons (pe_op op_catA (pe_op op_catA (pe_slice sl_tupA (pv 6) po_none (po_some (pv 3))) (pe_tup (pa_cons (pv 8) pa_nil))) (pe_slice sl_tupA (pv 6) (po_some (pe_op op_add (pv 3) pe_int)) po_none)) pa_nil))))))))
    (pss_one (ps_ret (pv 5))))))), ?_⟩
  refine ⟨_, rfl, _, rfl, a, l, k, (n : Int), rfl, by omega, Nat.lt_of_le_of_lt (show ((n : Int)).natAbs ≤ 48 by omega) (by decide), by omega, W, ht, fun i1 H1 i10 i11 W1 g1 t1 => ?_⟩
  obtain ⟨p, rfl⟩ : ∃ p : Nat, i1 = (p : Int) := ⟨i1.toNat, by omega⟩
  have hpn : p < n := by omega
  refine ⟨_, rfl, _, rfl, by omega, by omega, fun D1 hD1 => ?_⟩
  refine lc_entries (T := T) (M := M) (N := 4) (n := n) W1 t1 hD1 hM0 (fun b hb z => hM b hb (g1.al _ z)) hn48 (fun j H2 R hj W2 t2 hR => ?_) (fun H2 ys1 qs1 g2 t2 W2 eD1 da1 lq1 pq1 => ?_)
  · exact ⟨rfl, _, rfl, a, l, _, false, rfl, by omega, W2, t2, hR⟩
  have n1 : D1 ∉ [a, l] := W1.ne hD1
  have hD10 : H D1 = none := g1.al _ hD1
  have g02 := g1.trans g2
  have ly1 : ys1.length = n := by
    rw [da1.length]
    unfold rats prs
    rw [List.length_map, List.length_map, lq1]
  refine ⟨by show 2 ≤ sizeLine; decide, fun z hz => ?_⟩
  have gz := Go.new (T := T) (M := []) (o := .tup [V.int 0, V.int 1]) hz
  have eD1z := gz.lst eD1 (nn _)
  have daz := da1.go gz.of0
  have nz : z ∉ D1 :: M := fun zz => by
    rcases List.mem_cons.mp zz with e | e
    · rw [e, eD1] at hz; cases hz
    · exact hM _ e (g02.al _ hz)
  have dvz : Dv (D1 :: M) (upd H2 z (.tup [V.int 0, V.int 1])) (.ref z) (rat 0 1) := .tup upd_same nz (.cons (.int _) (.cons (.int _) .nil))
  have W3 := W2.go gz
  have t3 := gz.tb t2
  have g03 := g02.trans gz.of0
  generalize upd H2 z (.tup [V.int 0, V.int 1]) = H3 at *
  refine ⟨_, rfl, _, rfl, D1, _, (p : Int), p, rfl, rfl, eD1z, ixN_at (by omega), ?_⟩
  have gs := Go.set (T := T) (M := D1 :: M) (o := .lst (ys1.set p (.ref z))) eD1z (fun _ z => by cases z) (List.mem_cons_self ..)
  have g04 : Go T [a, l] H (upd H3 D1 (.lst (ys1.set p (.ref z)))) := g03.over hD10 eD1z (fun _ z => by cases z)
  have eD14 : upd H3 D1 (.lst (ys1.set p (.ref z))) D1 = some (.lst (ys1.set p (.ref z))) := upd_same
  have da4 := (dv_set dvz p daz).go gs
  have W4 := W3.set (o := .lst (ys1.set p (.ref z))) n1
  have t4 := gs.tb t3
  have em : (rats qs1).set p (rat 0 1) = rats (qs1.set p 0) := by
    unfold rats prs
    rw [List.map_map, List.map_map, List.map_set]
    rfl
  rw [em] at da4
  generalize upd H3 D1 (.lst (ys1.set p (.ref z))) = H4 at *
  have lms : (qs1.set p 0).length = n := by rw [List.length_set]; exact lq1
  have msp : (qs1.set p 0).getD p 0 = 0 := by
    rw [List.getD_eq_getElem?_getD, List.getElem?_set_self (by omega)]
    rfl
  have pms : ∀ x ∈ qs1.set p 0, Bd 42 4 x := fun x hx => by
    rcases List.mem_or_eq_of_mem_set hx with h | h
    · exact pq1 x h
    · rw [h]; exact ⟨Nat.one_dvd _, Nat.zero_le _⟩
  generalize qs1.set p 0 = ms at *
  generalize ys1.set p (.ref z) = ysm at *
  refine ⟨by show 0 ≤ sizeLine; decide, fun L hL => ?_⟩
  have nL : L ∉ [a, l] := W4.ne hL
  have gL := Go.new (T := T) (M := []) (o := .lst []) hL
  have eL5 : upd H4 L (.lst []) L = some (.lst []) := upd_same
  have W5 := W4.go gL
  have t5 := gL.tb t4
  have eD15 := gL.lst eD14 (nn _)
  have da5 := (da4.hide hL).go gL.of0
  have dx5 := (((dx2.go (g04.more hM0)).hide hL).go gL.of0)
  have g05 := g04.trans gL.of0
  have hL0 : H L = none := g04.al _ hL
  have nLD : D1 ≠ L := fun z => by rw [z, hL] at eD14; cases eD14
  have nD1M : D1 ∉ L :: M := fun z => by
    rcases List.mem_cons.mp z with e | e
    · exact nLD e
    · exact hM _ e hD10
  generalize upd H4 L (.lst []) = H5 at *
  refine ⟨_, rfl, _, rfl, _, rfl, by omega, by omega, fun D2 hD2 => ?_⟩
  refine lc_entries (T := T) (M := L :: M) (N := 4) (n := n) W5 t5 hD2 (fun b hb => List.mem_cons_of_mem _ (hM0 b hb)) (fun b hb z => by
    rcases List.mem_cons.mp hb with e | e
    · rw [e, eL5] at z; cases z
    · exact hM b e (g05.al _ z)) hn48 (fun j H6 R hj W6 t6 hR => ?_) (fun H6 ys2 ex g6 t6 W6 eD2 da2 lq2 pq2 => ?_)
  · exact ⟨rfl, _, rfl, a, l, _, false, rfl, by omega, W6, t6, hR⟩
  refine .inl ⟨D2, ys2, rfl, SqL.of eD2, fun o ho => ?_⟩
  have go := Go.new (T := T) (M := []) (o := .tup ys2) ho
  have g06 := g05.trans g6
  have eo : upd H6 o (.tup ys2) o = some (.tup ys2) := upd_same
  have no : o ∉ L :: M := fun z => by
    rcases List.mem_cons.mp z with e | e
    · have := g6.lst eL5 nL
      rw [← e, ho] at this; cases this
    · exact hM _ e (g06.al _ ho)
  have sub : ∀ b ∈ [a, l], b ∈ L :: M := fun b hb => List.mem_cons_of_mem _ (hM0 b hb)
  have dex : Dv (L :: M) (upd H6 o (.tup ys2)) (.ref o) (rowQ ex) := .tup eo no ((da2.less fun b hb => List.mem_cons_of_mem _ hb).go go.of0)
  have t7 := go.tb t6
  have W7 := W6.go go
  have dx7 := (dx5.go (g6.more sub)).go go.of0
  have da7 := ((da5.less (M' := L :: M) (fun b hb => by rcases List.mem_cons.mp hb with e | e; exact e ▸ List.mem_cons_self ..; exact List.mem_cons_of_mem _ (List.mem_cons_of_mem _ e))).go (g6.more sub)).go go.of0
  have g57 := g6.trans go.of0
  generalize upd H6 o (.tup ys2) = H7 at *
  refine ⟨by show 1 ≤ sizeLine; decide, fun z3 hz3 => ?_⟩
  have g8 := Go.new (T := T) (M := []) (o := .lst [V.ref o]) hz3
  have ez3 : upd H7 z3 (.lst [V.ref o]) z3 = some (.lst [V.ref o]) := upd_same
  have g58 := g57.trans g8.of0
  have t8 := g8.tb t7
  have W8 := W7.go g8
  have dx8 := dx7.go g8.of0
  have da8 := da7.go g8.of0
  have dex8 := dex.go g8.of0
  generalize upd H7 z3 (.lst [V.ref o]) = H8 at *
  have g08 := g05.trans g58
  refine ⟨b2, z3, _, _, rfl, rfl, g08.lst eb2 nb2, ez3, by rw [sizeLine_eq]; simp; omega, fun cc hcc => ?_⟩
  have g9 := Go.new (T := T) (M := []) (o := .lst (xs2 ++ [V.ref o])) hcc
  have ecc : upd H8 cc (.lst (xs2 ++ [V.ref o])) cc = some (.lst (xs2 ++ [V.ref o])) := upd_same
  have g59 := g58.trans g9.of0
  have t9 := g9.tb t8
  have W9 := W8.go g9
  have dR : DvAll (L :: M) (upd H8 cc (.lst (xs2 ++ [V.ref o]))) (xs2 ++ [V.ref o]) ((rows ++ [ex]).map rowQ) := by
    rw [List.map_append]
    exact DvAll.append (dx8.go g9.of0) (.cons (dex8.go g9.of0) .nil)
  have da9 := da8.go g9.of0
  have eL9 := g59.lst eL5 nL
  have eD19 := g59.lst eD15 n1
  have eb9 := (g05.trans g59).lst eb2 nb2
  have ncc : cc ≠ L := fun z => by
    have := g58.lst eL5 nL
    rw [← z, hcc] at this; cases this
  generalize upd H8 cc (.lst (xs2 ++ [V.ref o])) = H9 at *
  have g09 := g05.trans g59
  refine ⟨cc, rfl, ⟨_, SqL.of ecc⟩, ?_⟩
  have lR : (rows ++ [ex]).length = rows.length + 1 := by rw [List.length_append]; rfl
  have lxs : (xs2 ++ [V.ref o]).length = rows.length + 1 := by rw [List.length_append, lx2]; rfl
  obtain ⟨bk, hbk⟩ : ∃ bk : Nat → Rat, bk = fun i => if i = rows.length then 1 - dotQ ms ((rows ++ [ex]).getD i []) else -dotQ ms ((rows ++ [ex]).getD i []) := ⟨_, rfl⟩
  have hRl : ∀ r ∈ rows ++ [ex], r.length = n ∧ ∀ x ∈ r, Bl' (D + 42) (N + 4) x := fun r hr' => by
    rcases List.mem_append.mp hr' with h | h
    · exact ⟨(hrw r h).1, fun x hx => by have b := (((hrw r h).2 x hx).bl hD0); exact ⟨Nat.le_trans b.1 (by omega), Nat.le_trans b.2 (by omega)⟩⟩
    · rw [List.mem_singleton.mp h]
      exact ⟨lq2, fun x hx => by have b := ((pq2 x hx).bl (by decide)); exact ⟨Nat.le_trans b.1 (by omega), Nat.le_trans b.2 (by omega)⟩⟩
  have pD : 42 * (D + 42) < 2 ^ 18000 := by
    have h1 : 42 * (D + 42) ≤ 2 ^ 6 * (2 ^ 1000 + 2 ^ 6) := Nat.mul_le_mul (by decide) (Nat.add_le_add (Nat.le_of_lt hD) (by decide))
    exact Nat.lt_of_le_of_lt h1 (by decide)
  have pN : N + 4 < 2 ^ 40000 := by
    have h1 : N + 4 ≤ 2 ^ 4000 + 2 ^ 4000 := Nat.add_le_add (Nat.le_of_lt hN) (Nat.le_trans (show 4 ≤ 2 ^ 2 by decide) (Nat.pow_le_pow_right (by decide) (by decide)))
    refine Nat.lt_of_le_of_lt h1 ?_
    rw [← Nat.mul_two, ← Nat.pow_succ]
    exact Nat.pow_lt_pow_right (by decide) (by decide)
  refine for_it (n := (xs2 ++ [V.ref o]).length) walk_list (fun i σ H' => Go T [L] H9 H' ∧ Tabs T H' ∧ ∃ p6 p7 p8 ys, σ = [some (.ref a), some (.ref b2), some (.int (n : Int)), some (.int (p : Int)), some (.ref D1), some (.ref L), p6, p7, p8, none] ∧ H' L = some (.lst ys) ∧
      DvAll (L :: M) H' ys (((List.range i).map fun j => turnQ ((rows ++ [ex]).getD j []) p (bk j)).map rowQ)) ⟨Go.refl, t9, none, none, none, [], rfl, eL9, .nil⟩
    (fun i σ H' _ ⟨g', _⟩ => SqL.of (g'.lst ecc (fun z => ncc (List.mem_singleton.mp z)))) (fun i x σ H10 H11 hi h y => ?_) (fun σ H10 h => ?_)
  · obtain ⟨g10, t10, p6, p7, p8, ys, rfl, eL10, dy⟩ := h
    obtain ⟨rfl, exx⟩ := y
    have hi1 : i < rows.length + 1 := by omega
    have sL : ∀ b ∈ [L], b ∈ L :: M := fun b hb => by rw [List.mem_singleton.mp hb]; exact List.mem_cons_self ..
    obtain ⟨d, ed, hx⟩ := (dR.go (g10.more sL)).get exx
    rw [List.getElem?_map, List.getElem?_eq_getElem (by omega)] at ed
    cases ed
    have eRi : (rows ++ [ex]).getD i [] = (rows ++ [ex])[i] := by rw [List.getD_eq_getElem?_getD, List.getElem?_eq_getElem (by omega)] <;> rfl
    obtain ⟨rl, rb⟩ := hRl _ (List.getElem_mem (show i < (rows ++ [ex]).length by omega))
    have ebk : bk i = if i = rows.length then 1 - dotQ ms (rows ++ [ex])[i] else -dotQ ms (rows ++ [ex])[i] := by rw [hbk, ← eRi]
    rw [← eRi] at rl rb hx ebk
    have daX := da9.go (g10.more sL)
    have eD1X := g10.lst eD19 (fun z => nLD (List.mem_singleton.mp z))
    have ebX := g10.lst eb9 (fun z => by
      have h0 := hL0
      rw [← List.mem_singleton.mp z, eb2] at h0; cases h0)
    have ly : ys.length = i := by rw [dy.length, List.length_map, List.length_map, List.length_range]
    generalize hRi : (rows ++ [ex]).getD i [] = Ri at *
    refine ⟨_, rfl, _, rfl, L :: M, L :: M, .ref D1, x, ms, Ri, 42, 4, D + 42, N + 4, rfl, .inr (.lst eD1X nD1M daX), .inl hx, by omega, by omega, fun q' hq' => (pms q' hq').bl (by decide), rb, by decide, by omega, pD, Nat.lt_of_lt_of_le (show 4 < 2 ^ 3 by decide) (Nat.pow_le_pow_right (by decide) (by decide)), pN, t10, fun P0 tt bb H12 hP0 g12 t12 eP0 hb0 _ _ he => ?_⟩
    refine ⟨_, rfl, P0, _, 0, _, rfl, rfl, SqT.of eP0, atI_nat (j := 0) rfl, _, rfl, _, rfl, P0, _, 1, _, rfl, rfl, SqT.of eP0, atI_nat (j := 1) rfl, -tt, bb, rfl, hb0, fun P1 hP1 => ?_⟩
    have g13 := Go.new (T := T) (M := []) (o := .tup [.int (Rat.divInt (-tt) bb).num, .int ((Rat.divInt (-tt) bb).den : Int)]) hP1
    have e13 : upd H12 P1 (.tup [.int (Rat.divInt (-tt) bb).num, .int ((Rat.divInt (-tt) bb).den : Int)]) P1 = some (.tup [.int (Rat.divInt (-tt) bb).num, .int ((Rat.divInt (-tt) bb).den : Int)]) := upd_same
    have t13 := g13.tb t12
    have G13 := g12.trans g13
    generalize upd H12 P1 (.tup [.int (Rat.divInt (-tt) bb).num, .int ((Rat.divInt (-tt) bb).den : Int)]) = H13 at *
    have eL13 := G13.lst eL10 (nn _)
    have eP13 := g13.tup eP0 (nn _)
    refine ⟨_, rfl, L, ys, rfl, .inl (SqL.of eL13), _, rfl, b2, xs2, rfl, .inl (SqL.of (G13.lst ebX (nn _))), rfl, _, rfl, ?_⟩
    have en : Rat.divInt (-tt) bb = -dotQ ms Ri := by rw [← he, Rat.neg_divInt]
    have e1 : Rat.divInt (bb - tt) bb = 1 - dotQ ms Ri := by
      rw [← he, Rat.divInt_eq_div, Rat.divInt_eq_div, Rat.intCast_sub]
      have h2 : (bb : Rat) ≠ 0 := SQ.int_ne (by omega)
      have h3 := Rat.div_mul_cancel (a := (bb : Rat) - (tt : Rat)) h2
      have h4 := Rat.div_mul_cancel (a := (tt : Rat)) h2
      refine SQ.mul_left_cancel' h2 ?_
      grind
    have frG : ∀ {H' : Hp}, Go T [L] H9 H' → H' L = some (.lst ys) → ∀ r, H' r = none → r ∉ L :: M := fun g eL r h0 z => by
      rcases List.mem_cons.mp z with e | e
      · rw [e, eL] at h0; cases h0
      · exact hM _ e (g09.al _ (g.al _ h0))
    by_cases c : i = rows.length
    case' neg =>
      refine if_false_of (decide_eq_false fun z => c (by injection z with z; omega)) ?_
      rw [if_neg c, ← en] at ebk
      rw [← ebk] at e13
      have Gf := G13
      have tf := t13
      have ePf := e13
      have eLf := eL13
      have nP2 := frG (g10.trans g12.of0) (g12.lst eL10 (nn _)) P1 hP1
      generalize H13 = H14 at *
      generalize P1 = P2 at *
    case' pos =>
      refine if_true_of (decide_eq_true (by rw [ly, lx2, c])) ?_
      refine ⟨_, rfl, P0, _, 1, _, rfl, rfl, SqT.of eP13, atI_nat (j := 1) rfl, _, rfl, P0, _, 0, _, rfl, rfl, SqT.of eP13, atI_nat (j := 0) rfl, _, _, rfl, rfl, _, rfl, P0, _, 1, _, rfl, rfl, SqT.of eP13, atI_nat (j := 1) rfl, bb - tt, bb, rfl, hb0, fun P2 hP2 => ?_⟩
      have g14 := Go.new (T := T) (M := []) (o := .tup [.int (Rat.divInt (bb - tt) bb).num, .int ((Rat.divInt (bb - tt) bb).den : Int)]) hP2
      have ePf : upd H13 P2 (.tup [.int (Rat.divInt (bb - tt) bb).num, .int ((Rat.divInt (bb - tt) bb).den : Int)]) P2 = some (.tup [.int (Rat.divInt (bb - tt) bb).num, .int ((Rat.divInt (bb - tt) bb).den : Int)]) := upd_same
      rw [if_pos c, ← e1] at ebk
      rw [← ebk] at ePf g14 ⊢
      have tf := g14.tb t13
      have Gf := G13.trans g14
      have eLf := g14.lst eL13 (nn _)
      have nP2 := frG (g10.trans G13.of0) eL13 P2 hP2
      generalize upd H13 P2 (.tup [.int (bk i).num, .int ((bk i).den : Int)]) = H14 at *
    all_goals
      have GG : Go T [L] H9 H14 := g10.trans Gf.of0
      have fr : ∀ {H' : Hp}, Go T [] H14 H' → ∀ r, H' r = none → r ∉ L :: M := fun g r h0 z => by
        rcases List.mem_cons.mp z with e | e
        · have := g.lst eLf (nn _)
          rw [← e, h0] at this; cases this
        · refine hM _ e ?_
          have h1 := GG.al _ (g.al _ h0)
          exact g09.al _ h1
      have hxf := hx.go (Gf.of0 : Go T (L :: M) _ H14)
      obtain ⟨bx, zs, rfl, ebx, nbx, dzs⟩ := dv_tup hxf
      have lzs : zs.length = n := by
        rw [dzs.length]
        unfold prs
        rw [List.length_map, List.length_map, rl]
      refine ⟨_, rfl, .inl ⟨rfl, _, SqL.of eLf⟩, ?_⟩
      refine ⟨_, rfl, _, rfl, _, rfl, sl_ok (T := T) (M := L :: M) ebx nbx (fr Go.refl) fun s1 K1 f1 n1' h1 => ?_⟩
      refine ⟨_, rfl, by show 1 ≤ sizeLine; decide, fun q1 hq1 => ?_⟩
      have h3 := Go.new (T := T) (M := []) (o := .tup [V.ref P2]) hq1
      have w3 := h1.trans h3
      have m1 := fr h1 _ hq1
      refine catT_ok (T := T) (M := L :: M) (h3.tup f1 (nn _)) upd_same n1' m1 (by have := cutV_len zs none (some (p : Int)); simp only [List.length_cons, List.length_nil]; omega) (fr w3) fun s4 K4 f4 n4 h4 => ?_
      have w4 := w3.trans h4
      refine ⟨_, rfl, _, rfl, _, _, rfl, rfl, _, rfl, ?_⟩
      try unfold tNoPart
      refine sl_ok (T := T) (M := L :: M) (w4.tup ebx (nn _)) nbx (fr w4) fun s5 K5' f5 n5 h5 => ?_
      have w5 := w4.trans h5
      refine catT_ok (T := T) (M := L :: M) (h5.tup f4 (nn _)) f5 n4 n5 (by have := cutV_len zs none (some (p : Int)); have := cutV_len zs (some ((p : Int) + 1)) none; simp only [List.length_append, List.length_cons, List.length_nil]; omega) (fr w5) fun s6 K6 f6 n6 h6 => ?_
      have w6 := w5.trans h6
      rw [show ((p : Int) + 1) = ((p + 1 : Nat) : Int) from by omega, cutV_to (by omega), cutV_from (by omega)] at f6
      have eL6 := w6.lst eLf (nn _)
      refine ⟨L, ys, .ref s6, rfl, rfl, eL6, by rw [sizeLine_eq]; omega, ?_⟩
      have gs' := Go.set (T := T) (M := [L]) (o := .lst (ys ++ [.ref s6])) eL6 (fun _ z => by cases z) (List.mem_singleton.mpr rfl)
      refine ⟨(GG.trans w6.of0).trans gs', gs'.tb (w6.tb tf), _, _, _, ys ++ [.ref s6], rfl, upd_same, ?_⟩
      rw [List.range_succ, List.map_append, List.map_append]
      refine DvAll.append ((dy.go ((Gf.trans w6).of0)).go (gs'.more sL)) (.cons ?_ .nil)
      have dP : Dv (L :: M) K6 (.ref P2) (rat (bk i).num (bk i).den) := .tup (w6.tup ePf (nn _)) nP2 (.cons (.int _) (.cons (.int _) .nil))
      have dall : DvAll (L :: M) K6 (zs.take p ++ [V.ref P2] ++ zs.drop (p + 1)) (rats (turnQ Ri p (bk i))) := by
        have e : rats (turnQ Ri p (bk i)) = (rats Ri).take p ++ [rat (bk i).num (bk i).den] ++ (rats Ri).drop (p + 1) := by
          unfold rats prs turnQ
          rw [List.map_map, List.map_map, List.map_append, List.map_append, List.map_take, List.map_drop]
          rfl
        rw [e]
        have d6 := dzs.go (w6.of0 : Go T (L :: M) _ K6)
        exact DvAll.append (DvAll.append (d6.take p) (.cons dP .nil)) (d6.drop (p + 1))
      show Dv _ _ _ (rowQ (turnQ ((rows ++ [ex]).getD i []) p (bk i)))
      rw [hRi]
      exact (Dv.tup f6 n6 dall).go (gs'.more sL)
  · obtain ⟨g10, t10, p6, p7, p8, ys, rfl, eL10, dy⟩ := h
    have gf : Go T [a, l] H H10 := (g09.more (M' := [a, l, L]) (fun b hb => by simp only [List.mem_cons, List.not_mem_nil, or_false] at hb ⊢; rcases hb with h | h <;> simp [h])).trans (g10.more (M' := [a, l, L]) (fun b hb => by rw [List.mem_singleton.mp hb]; simp)) |>.cut fun b hb => by
      simp only [List.mem_cons, List.not_mem_nil, or_false] at hb
      rcases hb with h | h | h
      · exact .inl (by simp [h])
      · exact .inl (by simp [h])
      · exact .inr (by rw [h]; exact hL0)
    have Wf : CupAt a l H10 (k + 2000) := by
      obtain ⟨ns, z', s', c', h1, h2, h3, h4, h5, h6, h7, h8⟩ := W9
      exact ⟨ns, z', s', c', h1, g10.lst h2 (fun z => nL (by rw [← List.mem_singleton.mp z]; simp)), g10.lst h3 (fun z => nL (by rw [← List.mem_singleton.mp z]; simp)), h4, h5, h6, h7, by omega⟩
    refine ⟨_, rfl, ?_⟩
    refine q L ys p ms ex H10 hL0 eL10 ?_ hpn lms msp pms lq2 pq2 Wf gf t10
    have eT : (List.range (xs2 ++ [V.ref o]).length).map (fun j => turnQ ((rows ++ [ex]).getD j []) p (bk j)) = turnedQ rows ex ms p := by
      rw [lxs, List.range_succ, List.map_append]
      unfold turnedQ
      congr 1
      · refine List.ext_getElem (by simp) fun j h1 h2 => ?_
        rw [List.length_map, List.length_range] at h1
        rw [List.getElem_map, List.getElem_range, List.getElem_map, hbk]
        have e : (rows ++ [ex]).getD j [] = rows[j] := by rw [getD_left h1, List.getD_eq_getElem?_getD, List.getElem?_eq_getElem h1] <;> rfl
        show turnQ _ p (if j = rows.length then _ else _) = _
        rw [if_neg (by omega), e]
      · rw [hbk]
        show [turnQ _ p (if rows.length = rows.length then _ else _)] = _
        rw [if_pos rfl, getD_last]
    rw [eT] at dy
    exact dy.less fun b hb => List.mem_cons_of_mem _ hb
end
end KN
set_option Elab.async false
set_option linter.all false
set_option maxRecDepth 100000
set_option maxHeartbeats 2000000
/-! own words, 28: t * k, k from 0 to 3 -/
namespace SL
open PySem PySem.Spec PyProof.Rows L2 GxR NdefX GA RZ
open PySem.AutoSeq1 (wpAny_loadPart')
def rTimes0 (K : PySem.W.Frag) : R2 := fun x y H Q => ∃ l k xs, x = .ref l ∧ y = .int k ∧ SqT K H l xs ∧ 0 ≤ k ∧ k ≤ 3 ∧ xs ≠ [] ∧ xs.length ≤ 2000000 ∧ (k = 1 → Q (.ref l) H) ∧ (k ≠ 1 → ∀ p, H p = none → Q (.ref p) (upd H p (.tup (List.replicate k.toNat xs).flatten)))
theorem mul_zero_ (l : Addr) (items : Array Value) (n : Nat) (dd : Option Addr) (sl : Array (Option Value)) (u : Tok) (hi : items.isEmpty = false) :
    Meets (Builtin.«tuple.__mul__» ⟨[.ref l, .int 0 u], []⟩) (fun _ R s => s.heap.get? l = some { cls := .type "tuple", dict := dd, data := .seq items n, slots := sl } ∧
      R (.ok (.ret (Value.ref s.heap.objs.size))) { s with heap := s.heap.push { cls := Value.type "tuple", data := Data.seq #[] }, toks := s.toks }) :=
  .of_wp fun prog w A R s h => by
    obtain ⟨hp, g, d, tk, os⟩ := s
    obtain ⟨hl, h⟩ := h
    have f1 := AutoSeq1.idx_int
    have hi2 : (items.isEmpty || (0 : Int) == 1) = false := by rw [hi]; rfl
    wp_walk using wpAny_loadPart' hl
    exact ⟨_, rfl, h⟩
theorem mul_one_ (l : Addr) (items : Array Value) (n : Nat) (dd : Option Addr) (sl : Array (Option Value)) (u : Tok) :
    Meets (Builtin.«tuple.__mul__» ⟨[.ref l, .int 1 u], []⟩) (fun _ R s => s.heap.get? l = some { cls := .type "tuple", dict := dd, data := .seq items n, slots := sl } ∧ R (.ok (.ret (.ref l))) s) :=
  .of_wp fun prog w A R s h => by
    obtain ⟨hp, g, d, tk, os⟩ := s
    obtain ⟨hl, h⟩ := h
    have f1 := AutoSeq1.idx_int
    wp_walk using wpAny_loadPart' hl
    exact ⟨_, rfl, h⟩
theorem op_times0 {X : Cx} : OpR X (binaryOp .Mult) (rTimes0 X.K) := by
  intro pins s σ H x y v u Q I rx ry h
  obtain ⟨l, k, xs, rfl, rfl, hT, k0, k3, hne, hz, q1, q2⟩ := h
  by_cases hk : 2 ≤ k
  · exact op_times pins s σ H _ _ v u Q I rx ry ⟨l, k, xs, rfl, rfl, hT, hk, k3, hz, fun e => absurd e hne, fun _ => q2 (by omega)⟩
  cases rx
  obtain ⟨t, rfl⟩ := ry
  obtain ⟨its, r, ⟨⟨cls, dd, data, sl⟩, ho, hc, n, hd⟩, _⟩ := I.tuple hT
  simp only at hc hd
  subst hc hd
  have hi : its.toArray.isEmpty = false := by
    cases r with
    | nil => exact absurd rfl hne
    | cons _ _ => rfl
  refine wpAny_binaryOp_repeat_ref (T := "tuple") (U := "int") (by decide) ⟨_, ho, rfl⟩ (fun s' => typeIs_int s' k t) noFill_tuple_mul F.fills_int_mul F.slot_int_rmul repeat_tuple F.slot_int_index.lookup
    (call_meets F.slot_int_rmul (typeIs_int s k t) F.entry_int_rmul (F.args_int_rmul_2 _ _) (int_rmul_tuple k t l its.toArray n dd sl) ⟨ho, rfl, ⟨_, ho, rfl⟩, ?_⟩)
  have : k = 0 ∨ k = 1 := by omega
  rcases this with rfl | rfl
  · refine call_meets F.slot_tuple_mul ⟨_, ho, rfl⟩ F.entry_tuple_mul (F.args_tuple_mul_2 _ _) (mul_zero_ l its.toArray n dd sl t hi) ⟨ho, ?_⟩
    refine ⟨.ref s.heap.objs.size, _, I.laid (t' := s.toks) (o := .tup []) (fun b ob q => Heap.get?_push_of_some _ q) (Nat.le_refl _) ?_, rfl, q2 (by decide) _ (I.hok.fresh (Nat.le_refl _))⟩
    exact ⟨Nat.zero_le _, [], .nil, IsTup.new _ _⟩
  · exact call_meets F.slot_tuple_mul ⟨_, ho, rfl⟩ F.entry_tuple_mul (F.args_tuple_mul_2 _ _) (mul_one_ l its.toArray n dd sl t) ⟨ho, .ref l, H, I, rfl, q1 rfl⟩
end SL
set_option Elab.async false
set_option linter.all false
set_option maxRecDepth 100000
set_option maxHeartbeats 4000000
/-! own words, 46: t * k for k from 0 to 1000 -/
namespace SL
open PySem PySem.Spec PyProof.Rows L2 GxR NdefX GA RZ
theorem OpR.orR {X : Cx} {op : Value → Value → Sem Value} {r r' : R2} (h : OpR X op r) (h' : OpR X op r') : OpR X op (fun x y H Q => r x y H Q ∨ r' x y H Q) := by
  intro pins s σ H x y v u Q I rx ry k
  rcases k with k | k
  · exact h pins s σ H x y v u Q I rx ry k
  · exact h' pins s σ H x y v u Q I rx ry k
def rTimesA (K : PySem.W.Frag) : R2 := fun x y H Q => rTimes0 K x y H Q ∨ rRepT K x y H Q
theorem op_timesA {X : Cx} : OpR X (binaryOp .Mult) (rTimesA X.K) := OpR.orR op_times0 op_repT
/-- t * k: the tuple as often, in whatever object -/
theorem timesA_ok {K : PySem.W.Frag} {T M : List Addr} {H : Hp} {p : Addr} {xs : List V} {k : Nat} {Q : VK} (hp : H p = some (.tup xs)) (np : p ∉ M) (fresh : ∀ r, H r = none → r ∉ M) (hne : xs ≠ []) (hl : xs.length ≤ 1000) (hk : k ≤ 1000)
    (q : ∀ r H', H' r = some (.tup (List.replicate k xs).flatten) → r ∉ M → Go T [] H H' → Q (.ref r) H') : rTimesA K (.ref p) (.int (k : Int)) H Q := by
  by_cases c : k ≤ 1
  · refine .inl ⟨p, (k : Int), xs, rfl, rfl, SqT.of hp, by omega, by omega, hne, by omega, fun e => ?_, fun _ r hr => ?_⟩
    · have : k = 1 := by omega
      subst this
      exact q p H (by simpa using hp) np Go.refl
    · exact q r _ (by rw [upd_same, Int.toNat_natCast]) (fresh r hr) (Go.new hr)
  · refine .inr ⟨p, (k : Int), xs, rfl, rfl, SqT.of hp, hne, by omega, by omega, hl, fun r hr => ?_⟩
    exact q r _ (by rw [upd_same, Int.toNat_natCast]) (fresh r hr) (Go.new hr)
end SL
set_option Elab.async false
set_option linter.all false
set_option maxRecDepth 100000
set_option maxHeartbeats 8000000
/-! k39: _law_rows -/
namespace KN
open PySem PySem.Spec PyProof.Rows L2 GxR NdefX GA SL ZN RZ
open SQ (sumQ)
/-- what the cup gives in a list comprehension -/
theorem lc_cup {α : Type} {T M : List Addr} {H0 : Hp} {a l D : Addr} {k c : Int} {n : Nat} {J : It} {G : Hp → Prop} {Y : Nat → Hp → V → Hp → Prop} {Qd : Hp → Prop} {σ : L2.St} {g : TG} {te : TE} {vs : List Nat} (Fa : α → PyData) (Pq : α → Prop)
    (w : Walk J n G Y) (hG : ∀ H', Go T [a, l] H0 H' → G H') (hc : 0 ≤ c) (W : CupAt a l H0 k) (ht : Tabs T H0) (hD : H0 D = none) (hM0 : ∀ b ∈ [a, l], b ∈ M) (hM : ∀ b ∈ M, H0 b ≠ none) (hn : n ≤ sizeLine)
    (hs : ∀ (j : Nat) (x : V) (H1 H2 : Hp) (R : VK), j < n → Y j H1 x H2 → Go T [a, l] H0 H1 → CupAt a l H1 (k + c * (j : Int)) → Tabs T H1 → (∀ r, H1 r = none → r ∉ D :: M) → (∀ v q H5, Dv (D :: M) H5 v (Fa q) → Pq q → CupAt a l H5 (k + c * (j : Int) + c) → Go T [a, l] H1 H5 → R v H5) →
      g x (wipe σ vs) H2 fun σ2 H3 => wipe σ2 vs = wipe σ vs ∧ te σ2 H3 R)
    (hq : ∀ (H' : Hp) (ys : List V) (qs : List α), Go T [a, l] H0 H' → Tabs T H' → CupAt a l H' (k + c * (n : Int)) → H' D = some (.lst ys) → DvAll (D :: M) H' ys (qs.map Fa) → qs.length = n → (∀ q ∈ qs, Pq q) → Qd H') :
    ∃ W : Nat → Nat → Hp → Prop, (∃ m, W 0 m (upd H0 D (.lst []))) ∧ ∀ i' m H, W i' m H →
      (J.stop i' H ∧ Qd H) ∨ (J.go i' H ∧ ∃ Nx : Hp → Prop, (∀ H', Nx H' → ∃ m', m' < m ∧ W (i' + 1) m' H') ∧ ∀ x H', J.yld i' H x H' → g x (wipe σ vs) H' fun σ2 H2 => wipe σ2 vs = wipe σ vs ∧ tYes σ2 H2 fun b H3 =>
        if b = true then te σ2 H3 fun y H4 => ∃ acc, H4 D = some (.lst acc) ∧ acc.length < sizeLine ∧ Nx (upd H4 D (.lst (acc ++ [y]))) else Nx H3) := by
  have nD := W.ne hD
  refine lc_dw (T := T) (M := M) (M0 := [a, l]) Fa Pq (fun j H' => CupAt a l H' (k + c * (j : Int))) w hG ht Go.refl hD nD hM0 hn (W.up (by simp)) (fun i H' ys xs w e => w.set nD) (fun i H' ys w e => w.set nD)
    (fun j x2 H3 H4 R2 hj g3 t3 W3 hne4 y2 hR2 => ?_) (fun H3 ws rs g3 t3 W3 ew dw lr pr => hq H3 ws rs g3 t3 W3 ew dw lr pr)
  refine hs j x2 H3 H4 R2 hj y2 g3 W3 t3 (fun r hr z => ?_) fun v q H5 dv pq W5 g5 => hR2 v q H5 g5 (W5.up (by rw [Int.natCast_add, Int.mul_add]; show _ ≤ k + (c * (j : Int) + c * 1); omega)) dv pq
  rcases List.mem_cons.mp z with rfl | z
  · exact hne4 hr
  · exact hM _ z (g3.al _ hr)
theorem rats_eq (qs : List Rat) : rats qs = qs.map fun q : Rat => rat q.num (q.den : Int) := by
  unfold rats prs
  rw [List.map_map]
  rfl
/-- ((0, 1),) * n -/
theorem zeros_dv {M : List Addr} {H : Hp} {z : Addr} (hz : H z = some (.tup [.int 0, .int 1])) (nz : z ∉ M) (n : Nat) : DvAll M H (List.replicate n [V.ref z]).flatten (rats (List.replicate n 0)) := by
  have h1 : DvAll M H [V.ref z] [rat 0 1] := .cons (.tup hz nz (.cons (.int 0) (.cons (.int 1) .nil))) .nil
  have h2 := h1.rep n
  have e : (List.replicate n [rat 0 1]).flatten = rats (List.replicate n 0) := by
    rw [List.flatten_replicate_singleton, rats_eq, List.map_replicate]
    rfl
  rwa [e] at h2
/-- how great the tops of drawn rows are -/
def NRW : Nat → Nat
  | 0 => N0
  | k + 1 => (k + 1) * ((4 * 42) * (NRW k * 42 ^ k))
theorem NRW_le (k : Nat) : NRW k ≤ NRW (k + 1) := by
  show NRW k ≤ (k + 1) * ((4 * 42) * (NRW k * 42 ^ k))
  have h1 : 1 ≤ 42 ^ k := Nat.one_le_pow _ _ (by decide)
  have h2 : NRW k * 1 ≤ NRW k * 42 ^ k := Nat.mul_le_mul_left _ h1
  have h3 : 1 * (NRW k * 42 ^ k) ≤ (4 * 42) * (NRW k * 42 ^ k) := Nat.mul_le_mul_right _ (by decide)
  have h4 : 1 * ((4 * 42) * (NRW k * 42 ^ k)) ≤ (k + 1) * ((4 * 42) * (NRW k * 42 ^ k)) := Nat.mul_le_mul_right _ (by omega)
  rw [Nat.mul_one] at h2
  rw [Nat.one_mul] at h3 h4
  exact Nat.le_trans h2 (Nat.le_trans h3 h4)
theorem N0_le : ∀ k, N0 ≤ NRW k
  | 0 => Nat.le_refl _
  | k + 1 => Nat.le_trans (N0_le k) (NRW_le k)
theorem NRW_mono {i : Nat} : ∀ j, NRW i ≤ NRW (i + j)
  | 0 => Nat.le_refl _
  | j + 1 => Nat.le_trans (NRW_mono j) (NRW_le _)
theorem NRW7 : NRW 7 < 2 ^ 311 := by decide +kernel
theorem NRW_small {i : Nat} (h : i ≤ 7) : NRW i < 2 ^ 311 := by
  have := NRW_mono (i := i) (7 - i)
  rw [show i + (7 - i) = 7 by omega] at this
  exact Nat.lt_of_le_of_lt this NRW7
theorem NN_le (g : Bool) : NN g ≤ N0 := by
  cases g
  · show 4 ≤ N0; decide
  · exact Nat.le_refl _
/-- a drawn row -/
def RowD (n k : Nat) (r : List Rat) : Prop := r.length = n ∧ ∀ q ∈ r, Bd (42 ^ k) (NRW k) q
theorem RowD.next {n k : Nat} {r : List Rat} (h : RowD n k r) : RowD n (k + 1) r := ⟨h.1, fun q hq => (h.2 q hq).up ⟨42, Nat.pow_succ ..⟩ (NRW_le k)⟩
abbrev s_law_rows : Stmt := top 35
abbrev NLR : List Str := ["cup", "many", "size", "great", "rows", "k", "way", "row", "turn", "one"]
theorem sc_law_rows : FnScope NLR ["cup", "many", "size", "great"] (defScope s_law_rows) := ⟨rfl, rfl, rfl, by decide +kernel, rfl, by decide +kernel, by decide +kernel⟩
def sp_rows (T : List Addr) : Sp := fun vs H Q _ => ∃ (M : List Addr) (a l : Addr) (k : Int) (many n : Nat) (g : Bool), vs = [.ref a, .int (many : Int), .int (n : Int), .bl g] ∧ many ≤ 7 ∧ n ≤ 6 ∧ k ≤ 274877906944 ∧ CupAt a l H k ∧ (∀ b ∈ [a, l], b ∈ M) ∧ (∀ b ∈ M, H b ≠ none) ∧ Tabs T H ∧
  ∀ L ys (rows : List (List Rat)) H', H L = none → H' L = some (.lst ys) → DvAll (L :: M) H' ys (rows.map rowQ) → rows.length = many → (∀ r ∈ rows, RowD n many r) → CupAt a l H' (k + 1000) → Go T [a, l] H H' → Tabs T H' → Q (.ref L) H'
/-- between the branches -/
def RowMid (T M : List Addr) (a l L : Addr) (H4 : Hp) (ys : List V) (n k : Nat) (c : Int) (pre : List (Option V)) (σ : L2.St) (H' : Hp) : Prop := ∃ v q, σ = pre ++ [some v, none, none] ∧ Go T [a, l] H4 H' ∧ CupAt a l H' c ∧ Dv (L :: M) H' v (rowQ q) ∧ RowD n k q
section
variable {P : Program} {w : World} {K : PySem.W.Frag} {mg : Str → Option Value} {base : Heap} {f c CK CN CT CR : Addr} {fd : FuncData} {T : List Addr}
theorem ok_law_rows (F : Fun K "_law_rows" "_law_rows" s_law_rows f fd) (B : Bl mg) (Fd : Fnn P w K mg base CX0 1 "_law_sip" ["cup", "many"] (sp_sip T)) (Fe : Fnn P w K mg base CX0 34 "_law_entry" ["cup", "great"] (sp_entry T)) (Fc : Fnn P w K mg base CX0 34 "_law_combine" ["weights", "rows", "size"] (sp_combine T)) :
    FnOk P w K mg base CX0 35 f fd ["cup", "many", "size", "great"] (sp_rows T) := by
  have nd := sc_law_rows.nd
  refine F.ok sc_law_rows (fun vs H Q E h => ?_) (fun cdv A outer s H vs Q E hr h => ?_)
  · obtain ⟨_, _, _, _, _, _, _, rfl, _⟩ := h
    rfl
  obtain ⟨M, a, l, k, many, n, g, rfl, hm7, hn6, hk, W, hM0, hM, ht, q⟩ := h
  have nn : ∀ b : Addr, b ∉ ([] : List Addr) := fun b => List.not_mem_nil
  have hu : (A.deeper (envOfC "_law_rows" (defScope s_law_rows) s.heap.objs.size f cdv)).units < cLine := by
    have := hr.un
    omega
  refine ⟨_, pss_cons (ps_set (i := 4) nd rfl (.inl rfl) (pe_lst pa_nil))
    (pss_cons (ps_for PassesOwn.never rfl (pi_range1 (by rfl) B.range (pa_cons (pv 1) pa_nil)) (pg_name (i := 5) nd rfl (.inl rfl))
      (pss_cons (ps_set (i := 6) nd rfl (.inl rfl) (pe_fn Fd hr (by decide) pass0 (pa_cons (pv 0) (pa_cons pe_int pa_nil))))
      (pss_cons (ps_set (i := 7) nd rfl (.inl rfl) (pe_tupleOf (by rfl) B.tuple (pe_lc (own := [("turn", 8)]) (g := gName 8) (tt := tYes) (te := tCall (sp_entry T) [] E0 (tCons (tVar 0) (tCons (tVar 3) tNil))) (by rfl) nd (pi_range1 (by rfl) B.range (pa_cons (pv 2) pa_nil))
        (blkOk_by (own := [("turn", 8)]) (N := NLR) (sc := defScope s_law_rows) (by decide +kernel)) (fun _ _ _ _ _ => pg_name (i := 8) nd rfl (.inl rfl)) (fun _ _ _ _ _ => pts_nil)
        (fun _ _ _ _ _ => pe_fn Fe hr (by decide) pass0 (pa_cons (pv 0) (pa_cons (pv 3) pa_nil))))))
      (C8.pss_cut (ps_if (pt_cmpR op_eq (pv 6) pe_int (nomark _)) (pss_one (ps_set (i := 7) nd rfl (.inl rfl) (pe_fn Fc hr (by decide) pass0 (pa_cons (pe_lc (own := [("one", 9)]) (g := gName 9) (tt := tYes) (te := tCall (sp_entry T) [] E0 (tCons (tVar 0) (tCons (tC (.bl false)) tNil))) (by rfl) nd (pi_list (pv 4))
        (blkOk_by (own := [("one", 9)]) (N := NLR) (sc := defScope s_law_rows) (by decide +kernel)) (fun _ _ _ _ _ => pg_name (i := 9) nd rfl (.inl rfl)) (fun _ _ _ _ _ => pts_nil)
        (fun _ _ _ _ _ => pe_fn Fe hr (by decide) pass0 (pa_cons (pv 0) (pa_cons pe_bl pa_nil)))) (pa_cons (pv 4) (pa_cons (pv 2) pa_nil)))))) pss_nil)
      (C8.pss_cut (ps_if (PW.pt (pw_and (pt_cmpR op_eq (pv 6) pe_int (nomark _)) (pw_and1 (pt_cmpR (op_neNil hu) (pv 4) (pe_lst pa_nil) (nomark _))))) (pss_one (ps_set (i := 7) nd rfl (.inl rfl) (pe_ix ix_list (pv 4) (pe_fn Fd hr (by decide) pass0 (pa_cons (pv 0) (pa_cons (pe_lenq B (pv 4)) pa_nil))) (fun _ _ => rfl)))) pss_nil)
      (C8.pss_cut (ps_if (PW.pt (pw_and (pt_cmpR op_eq (pv 6) pe_int (nomark _)) (pw_and1 (pt_cmpR op_eq (pe_fn Fd hr (by decide) pass0 (pa_cons (pv 0) (pa_cons pe_int pa_nil))) pe_int (nomark _))))) (pss_one (ps_set (i := 7) nd rfl (.inl rfl) (pe_op op_timesA (pe_tup (pa_cons (pe_tup (pa_cons pe_int (pa_cons pe_int pa_nil))) pa_nil)) (pv 2)))) pss_nil)
      (pss_one (ps_expr (pe_bm PySem.F.plainAttrs_list PySem.F.slot_list_append PySem.F.type_list_append mt_append (pv 4) (pa_cons (pv 7) pa_nil))))))))))
    (pss_one (ps_ret (pv 4)))), ?_⟩
  refine ⟨by show 0 ≤ sizeLine; decide, fun L hL => ?_⟩
  have nL : L ∉ [a, l] := W.ne hL
  have gL := Go.new (T := T) (M := []) (o := .lst []) hL
  have eL1 : upd H L (.lst []) L = some (.lst []) := upd_same
  have W1 := W.go gL
  have t1 := gL.tb ht
  generalize upd H L (.lst []) = H1 at *
  refine ⟨_, rfl, _, rfl, by omega, by omega, ?_⟩
  refine for_it (walk_range (lo := 0) (n := (((many : Nat) : Int).toNat))) (fun i σ H' => Go T [a, l] H H' ∧ Tabs T H' ∧ CupAt a l H' (k + 100 * (i : Int)) ∧ ∃ p5 p6 p7 ys rows, σ = [some (.ref a), some (.int (many : Int)), some (.int (n : Int)), some (.bl g), some (.ref L), p5, p6, p7, none, none] ∧ H' L = some (.lst ys) ∧ DvAll (L :: M) H' ys (rows.map rowQ) ∧ rows.length = i ∧ ∀ r ∈ rows, RowD n i r)
    ⟨gL.of0, t1, W1.up (by omega), none, none, none, [], [], rfl, eL1, .nil, rfl, fun r hr => absurd hr List.not_mem_nil⟩ (fun _ _ _ _ _ => trivial) (fun i x σ H2 H3 hi h y => ?_) (fun σ H2 h => ?_)
  · obtain ⟨g2, t2, W2, p5, p6, p7, ys, rows, rfl, eL2, dy, lr, hrow⟩ := h
    obtain ⟨rfl, ey⟩ := y
    have ey2 : x = V.int (i : Int) := by rw [ey]; show V.int (0 + (i : Int)) = _; rw [Int.zero_add]
    clear ey
    subst ey2
    rw [Int.toNat_natCast] at hi
    have lys : ys.length = rows.length := by rw [dy.length, List.length_map]
    have nL0 : ∀ b ∈ [a, l], b ∈ L :: M := fun b hb => List.mem_cons_of_mem _ (hM0 b hb)
    have frL : ∀ {H' : Hp}, Go T [a, l] H3 H' → ∀ b ∈ L :: M, H' b ≠ none := fun g' b hb z => by
      rcases List.mem_cons.mp hb with e | e
      · have := g'.lst eL2 nL
        rw [← e, z] at this; cases this
      · exact hM b e (g2.al _ (g'.al _ z))
    refine ⟨_, rfl, a, l, _, 6, rfl, by decide, by decide, by omega, W2, t2, fun i1 H4 i10 i11 W4 g4 t4 => ?_⟩
    refine ⟨_, rfl, _, rfl, by omega, by omega, fun D1 hD1 => ?_⟩
    refine lc_cup (T := T) (M := L :: M) (c := 6) (n := ((n : Nat) : Int).toNat) (fun q : Rat => rat q.num (q.den : Int)) (Bd 42 (NN g)) walk_range (fun _ _ => trivial) (by decide) W4 t4 hD1 nL0 (frL g4) (by rw [sizeLine_eq]; omega) (fun j x H5 H6 R hj y g5 W5 t5 fr hR => ?_) (fun H5 ws qs g5 t5 W5 eD1 dw lq pq => ?_)
    · obtain ⟨rfl, _⟩ := y
      exact ⟨rfl, _, rfl, _, rfl, a, l, _, g, rfl, by omega, W5, t5, fun r q' H7 hr7 er bq W7 g7 t7 => hR _ q' H7 (.tup er (fr r hr7) (.cons (.int _) (.cons (.int _) .nil))) bq W7 g7⟩
    refine .inl ⟨D1, ws, rfl, SqL.of eD1, fun o ho => ?_⟩
    have go := Go.new (T := T) (M := []) (o := .tup ws) ho
    rw [← rats_eq] at dw
    have no : o ∉ L :: M := fun z => frL (g4.trans g5) _ z ho
    have dv1 : Dv (L :: M) (upd H5 o (.tup ws)) (.ref o) (rowQ qs) := .tup upd_same no ((dw.less fun b hb => List.mem_cons_of_mem _ hb).go go.of0)
    have W6 := W5.go go
    have g6 := (g4.trans g5).trans go.of0
    have t6 := go.tb t5
    generalize upd H5 o (.tup ws) = H6 at *
    rw [Int.toNat_natCast] at lq W6
    have eL6 := g6.lst eL2 nL
    have h42 : 1 ≤ 42 ^ i := Nat.one_le_pow _ _ (by decide)
    have h42' : 42 ^ i ≤ 42 ^ 7 := Nat.pow_le_pow_right (by decide) (by omega)
    have rw0 : RowD n (i + 1) qs := ⟨lq, fun x hx => (pq x hx).up ⟨42 ^ i, by rw [Nat.pow_succ, Nat.mul_comm]⟩ (Nat.le_trans (NN_le g) (N0_le _))⟩
    refine ⟨RowMid T M a l L H3 ys n (i + 1) (k + 100 * (i : Int) + 80) [some (.ref a), some (.int (many : Int)), some (.int (n : Int)), some (.bl g), some (.ref L), some (.int (i : Int)), some (.int i1)], ?_, fun σ H7 hmid => ?_⟩
    · refine ⟨_, rfl, rfl, _, rfl, ?_⟩
      by_cases h0 : i1 = 0
      · refine if_true_of (decide_eq_true (by rw [h0])) ?_
        refine ⟨_, rfl, L, rfl, ⟨_, SqL.of eL6⟩, fun D2 hD2 => ?_⟩
        refine lc_cup (T := T) (M := L :: M) (c := 6) (n := ys.length) (fun q : Rat => rat q.num (q.den : Int)) (Bd 42 (NN false)) walk_list (fun H' g' => SqL.of (g'.lst eL6 nL)) (by decide) W6 t6 hD2 nL0 (frL g6) (by rw [sizeLine_eq]; omega) (fun j x H7 H8 R hj y g7 W7 t7 fr hR => ?_) (fun H7 ws2 qs2 g7 t7 W7 eD2 dw2 lq2 pq2 => ?_)
        · obtain ⟨rfl, _⟩ := y
          exact ⟨rfl, _, rfl, a, l, _, false, rfl, by omega, W7, t7, fun r q' H9 hr9 er bq W9 g9 t9 => hR _ q' H9 (.tup er (fr r hr9) (.cons (.int _) (.cons (.int _) .nil))) bq W9 g9⟩
        rw [← rats_eq] at dw2
        have g37 := g6.trans g7
        have hl2 : qs2.length = rows.length := by rw [lq2, lys]
        refine ⟨_, rfl, _, rfl, L :: M, [], [], .ref D2, .ref L, qs2, rows, n, 42, 4, 42 ^ i, NRW i, rfl, .inr (.lst eD2 (nn _) (dw2.less fun b hb => absurd hb List.not_mem_nil)), .inr (.lst (g37.lst eL2 nL) (nn _) ((dy.go (g37.more nL0)).less fun b hb => absurd hb List.not_mem_nil)), hl2, by omega, by omega, fun r hr' => (hrow r hr').1, fun x hx => (pq2 x hx).bl (by decide), fun r hr' x hx => ((hrow r hr').2 x hx).bl (by omega), by decide, h42, ?_, Nat.lt_of_lt_of_le (show 4 < 2 ^ 3 by decide) (Nat.pow_le_pow_right (by decide) (by decide)), Nat.lt_of_lt_of_le (NRW_small (by omega)) (Nat.pow_le_pow_right (by decide) (by decide)), frL g37, t7, fun u H8 g8 t8 hu8 => ?_⟩
        · exact Nat.lt_of_le_of_lt (Nat.mul_le_mul_left 42 h42') (Nat.lt_of_lt_of_le (show 42 * 42 ^ 7 < 2 ^ 50 by decide) (Nat.pow_le_pow_right (by decide) (by decide)))
        refine ⟨u, combQ qs2 rows n, rfl, g37.trans g8.of0, (W7.go g8).up (by omega), hu8, by unfold combQ; rw [List.length_map, List.length_range], fun x hx => ?_⟩
        refine (comb_bd (by decide) (by omega) hl2 pq2 (fun r hr' => (hrow r hr').1) (fun r hr' => (hrow r hr').2) x hx).up ⟨1, by rw [Nat.pow_succ, Nat.mul_one, Nat.mul_comm]⟩ ?_
        rw [hl2, lr]
        exact Nat.mul_le_mul_right _ (Nat.le_succ i)
      · refine if_false_of (decide_eq_false fun e => h0 (by injection e)) ?_
        exact ⟨.ref o, qs, rfl, g6, W6.up (by omega), dv1, rw0⟩
    obtain ⟨v, r, rfl, g7, W7, dv7, ok7⟩ := hmid
    have t7 := g7.tb t2
    refine ⟨RowMid T M a l L H3 ys n (i + 1) (k + 100 * (i : Int) + 81) [some (.ref a), some (.int (many : Int)), some (.int (n : Int)), some (.bl g), some (.ref L), some (.int (i : Int)), some (.int i1)], ?_, fun σ H8 hmid => ?_⟩
    · refine ⟨_, rfl, rfl, _, rfl, ?_⟩
      by_cases h0 : i1 = 1
      · refine if_true_of (decide_eq_true (by rw [h0])) ?_
        refine ⟨_, rfl, by show 0 ≤ sizeLine; decide, fun b hb => ?_⟩
        have g8 := Go.new (T := T) (M := []) (o := .lst []) hb
        have eb : upd H7 b (.lst []) b = some (.lst []) := upd_same
        have W8 := W7.go g8
        have t8 := g8.tb t7
        have dv8 := dv7.go (g8.of0 : Go T (L :: M) _ _)
        generalize upd H7 b (.lst []) = H8 at *
        have g38 := g7.trans g8.of0
        have eL8 := g38.lst eL2 nL
        refine ⟨L, b, ys, rfl, rfl, .inl ⟨SqL.of eL8, SqL.of eb⟩, _, rfl, ?_⟩
        by_cases hy : ys = []
        · refine if_false_of (by rw [hy]; rfl) ?_
          exact ⟨v, r, rfl, g38, W8.up (by omega), dv8, ok7⟩
        · refine if_true_of (by cases ys with | nil => exact absurd rfl hy | cons _ _ => rfl) ?_
          have hp : 0 < ys.length := List.length_pos_iff.mpr hy
          refine ⟨_, rfl, _, rfl, _, rfl, L, ys, rfl, .inl (SqL.of eL8), a, l, _, (ys.length : Int), rfl, by omega, Nat.lt_of_le_of_lt (show ((ys.length : Int)).natAbs ≤ 48 by omega) (by decide), by omega, W8, t8, fun i2 H9 i20 i21 W9 g9 t9 => ?_⟩
          obtain ⟨j, rfl⟩ : ∃ j : Nat, i2 = (j : Int) := ⟨i2.toNat, by omega⟩
          have g39 := g38.trans g9
          have hj : j < ys.length := by omega
          obtain ⟨d, ed, hx⟩ := (dy.go (g39.more nL0)).get (List.getElem?_eq_getElem hj)
          rw [List.getElem?_map] at ed
          obtain ⟨r2, er2, rfl⟩ := Option.map_eq_some_iff.mp ed
          refine ⟨L, ys, (j : Int), ys[j], rfl, rfl, SqL.of (g39.lst eL2 nL), atI_nat (List.getElem?_eq_getElem hj), ?_⟩
          exact ⟨ys[j], r2, rfl, g39, W9.up (by omega), hx, (hrow r2 (List.mem_of_getElem? er2)).next⟩
      · refine if_false_of (decide_eq_false fun e => h0 (by injection e)) (iteF ?_)
        exact ⟨v, r, rfl, g7, W7.up (by omega), dv7, ok7⟩
    obtain ⟨v8, r8, rfl, g8, W8, dv8, ok8⟩ := hmid
    have t8 := g8.tb t2
    clear dv7 ok7
    refine ⟨RowMid T M a l L H3 ys n (i + 1) (k + 100 * (i : Int) + 82) [some (.ref a), some (.int (many : Int)), some (.int (n : Int)), some (.bl g), some (.ref L), some (.int (i : Int)), some (.int i1)], ?_, fun σ H9 hmid => ?_⟩
    · refine ⟨_, rfl, rfl, _, rfl, ?_⟩
      by_cases h0 : i1 = 2
      · refine if_true_of (decide_eq_true (by rw [h0])) ?_
        refine ⟨_, rfl, a, l, _, 2, rfl, by decide, by decide, by omega, W8, t8, fun i3 H9 i30 i31 W9 g9 t9 => ?_⟩
        have g39 := g8.trans g9
        refine ⟨rfl, _, rfl, ?_⟩
        by_cases h3 : i3 = 0
        · refine if_true_of (decide_eq_true (by rw [h3])) ?_
          refine ⟨by show 2 ≤ sizeLine; decide, fun z hz => ⟨by show 1 ≤ sizeLine; decide, fun z1 hz1 => ?_⟩⟩
          have ga := Go.new (T := T) (M := []) (o := .tup [V.int 0, V.int 1]) hz
          have ez : upd H9 z (.tup [V.int 0, V.int 1]) z = some (.tup [V.int 0, V.int 1]) := upd_same
          generalize upd H9 z (.tup [V.int 0, V.int 1]) = Ha at *
          have gb := Go.new (T := T) (M := []) (o := .tup [V.ref z]) hz1
          have ez1 : upd Ha z1 (.tup [V.ref z]) z1 = some (.tup [V.ref z]) := upd_same
          have ezb := gb.tup ez (nn _)
          generalize upd Ha z1 (.tup [V.ref z]) = Hb at *
          have gab := ga.trans gb
          have nz : z ∉ L :: M := fun y => frL g39 _ y hz
          have nz1 : z1 ∉ L :: M := fun y => frL (g39.trans ga.of0) _ y hz1
          refine ⟨_, rfl, ?_⟩
          refine timesA_ok (T := T) (M := L :: M) ez1 nz1 (fun r hr y => frL (g39.trans gab.of0) _ y hr) (by simp) (by show 1 ≤ 1000; decide) (by omega) fun p Hc ep np gc => ?_
          refine ⟨.ref p, List.replicate n 0, rfl, (g39.trans gab.of0).trans gc.of0, ((W9.go gab).go gc).up (by omega), .tup ep np (zeros_dv (gc.tup ezb (nn _)) nz n), by simp, fun x hx => ?_⟩
          rw [(List.mem_replicate.mp hx).2]
          exact ⟨Nat.one_dvd _, Nat.zero_le _⟩
        · refine if_false_of (decide_eq_false fun e => h3 (by injection e)) ?_
          exact ⟨v8, r8, rfl, g39, W9.up (by omega), dv8.go (g9.more nL0), ok8⟩
      · refine if_false_of (decide_eq_false fun e => h0 (by injection e)) (iteF ?_)
        exact ⟨v8, r8, rfl, g8, W8.up (by omega), dv8, ok8⟩
    obtain ⟨v9, r9, rfl, g9, W9, dv9, ok9⟩ := hmid
    clear dv8 ok8
    have eL9 := g9.lst eL2 nL
    refine ⟨_, rfl, .inl ⟨rfl, _, SqL.of eL9⟩, _, rfl, L, ys, v9, rfl, rfl, eL9, by rw [sizeLine_eq]; omega, ?_⟩
    have gs := Go.set (T := T) (M := L :: M) (o := .lst (ys ++ [v9])) eL9 (fun _ z => by cases z) (List.mem_cons_self ..)
    refine ⟨(g2.trans g9).over hL eL9 (fun _ z => by cases z), gs.tb (g9.tb t2), (W9.set nL).up (by omega), _, _, _, ys ++ [v9], rows ++ [r9], rfl, upd_same, ?_, by rw [List.length_append, lr]; rfl, fun r' hr' => ?_⟩
    · rw [List.map_append]
      exact DvAll.append ((dy.go (g9.more nL0)).go gs) (.cons (dv9.go gs) .nil)
    · rcases List.mem_append.mp hr' with h | h
      · exact (hrow r' h).next
      · rw [List.mem_singleton.mp h]; exact ok9
  · obtain ⟨g2, t2, W2, p5, p6, p7, ys, rows, rfl, eL2, dy, lr, hrow⟩ := h
    rw [Int.toNat_natCast] at lr hrow W2
    exact ⟨_, rfl, q L ys rows H2 hL eL2 dy lr hrow (W2.up (by omega)) g2 t2⟩
end
end KN
set_option Elab.async false
set_option linter.all false
set_option maxRecDepth 100000
set_option maxHeartbeats 8000000
/-! k39: _law_wide -/
namespace KN
open PySem PySem.Spec PyProof.Rows L2 GxR NdefX GA SL ZN RZ
open SQ (sumQ)
abbrev s_law_wide : Stmt := top 33
abbrev NLW : List Str := ["cup", "size", "start", "back", "rows", "k", "row"]
theorem sc_law_wide : FnScope NLW ["cup"] (defScope s_law_wide) := ⟨rfl, rfl, rfl, by decide +kernel, rfl, by decide +kernel, by decide +kernel⟩
def sp_wide (T : List Addr) : Sp := fun vs H Q _ => ∃ (M : List Addr) (a l : Addr) (k : Int), vs = [.ref a] ∧ k ≤ 274877906944 ∧ CupAt a l H k ∧ (∀ b ∈ [a, l], b ∈ M) ∧ (∀ b ∈ M, H b ≠ none) ∧ Tabs T H ∧
  ∀ u (rows : List (List Rat)) (n : Nat) H', 40 ≤ n → n ≤ 48 → rows.length ≤ n → (∀ r ∈ rows, r.length = n ∧ ∀ q ∈ r, Bd 42 4 q) → Dv M H' u (.tuple (rows.map rowQ)) → CupAt a l H' (k + 1000) → Go T [a, l] H H' → Tabs T H' → Q u H'
theorem at_two {x y i : Int} (h0 : 0 ≤ i) (h1 : i < 2) : ∃ z : Int, atI [V.int x, V.int y] i = some (.int z) := by
  have : i = 0 ∨ i = 1 := by omega
  rcases this with rfl | rfl
  · exact ⟨x, rfl⟩
  · exact ⟨y, rfl⟩
theorem dvd42 {b : Int} (h0 : 0 ≤ b) (h1 : b < 3) : 1 + b ∣ 42 := by
  have : b = 0 ∨ b = 1 ∨ b = 2 := by omega
  rcases this with rfl | rfl | rfl <;> decide
theorem mod_at (x : Int) {n : Nat} (h : 0 < n) : ∃ p : Nat, p < n ∧ x % (n : Int) = (p : Int) := by
  have b1 := Int.emod_nonneg x (show (n : Int) ≠ 0 by omega)
  have b2 := Int.emod_lt_of_pos x (show (0 : Int) < n by omega)
  exact ⟨(x % (n : Int)).toNat, by omega, by omega⟩
theorem rats_set (qs : List Rat) (p : Nat) (q : Rat) : (rats qs).set p (rat q.num (q.den : Int)) = rats (qs.set p q) := by
  rw [rats_eq, rats_eq, List.map_set]
section
variable {P : Program} {w : World} {K : PySem.W.Frag} {mg : Str → Option Value} {base : Heap} {f c CK CN CT CR : Addr} {fd : FuncData} {T : List Addr}
theorem ok_law_wide (F : Fun K "_law_wide" "_law_wide" s_law_wide f fd) (B : Bl mg) (Fd : Fnn P w K mg base CX0 1 "_law_sip" ["cup", "many"] (sp_sip T)) (Fr : Fnn P w K mg base CX0 33 "_law_ratio" ["top", "bottom"] sp_lratio) :
    FnOk P w K mg base CX0 34 f fd ["cup"] (sp_wide T) := by
  have nd := sc_law_wide.nd
  refine F.ok sc_law_wide (fun vs H Q E h => ?_) (fun cdv A outer s H vs Q E hr h => ?_)
  · obtain ⟨_, _, _, _, rfl, _⟩ := h
    rfl
  obtain ⟨M, a, l, k, rfl, hk, W, hM0, hM, ht, q⟩ := h
  have nn : ∀ b : Addr, b ∉ ([] : List Addr) := fun b => List.not_mem_nil
  refine ⟨_, pss_cons (ps_set (i := 1) nd rfl (.inl rfl) (pe_op op_sub pe_int (pe_fn Fd hr (by decide) pass0 (pa_cons (pv 0) (pa_cons pe_int pa_nil)))))
    (pss_cons (ps_par (i := 2) (j := 3) rfl nd rfl rfl (by decide) rfl rfl (pa_cons (pe_fn Fd hr (by decide) pass0 (pa_cons (pv 0) (pa_cons (pv 1) pa_nil))) (pa_cons (pe_fn Fd hr (by decide) pass0 (pa_cons (pv 0) (pa_cons pe_int pa_nil))) pa_nil)) rfl)
    (pss_cons (ps_set (i := 4) nd rfl (.inl rfl) (pe_lst pa_nil))
    (pss_cons (ps_for PassesOwn.never rfl (pi_range1 (by rfl) B.range (pa_cons (pv 1) pa_nil)) (pg_name (i := 5) nd rfl (.inl rfl))
      (pss_cons (ps_set (i := 6) nd rfl (.inl rfl) (pe_op op_rep (pe_lst (pa_cons (pe_tup (pa_cons pe_int (pa_cons pe_int pa_nil))) pa_nil)) (pv 1)))
      (pss_cons (ps_asg (pe_fn Fr hr (by decide) pass0 (pa_cons (pe_op op_add pe_int (pe_fn Fd hr (by decide) pass0 (pa_cons (pv 0) (pa_cons pe_int pa_nil)))) (pa_cons (pe_op op_add pe_int (pe_fn Fd hr (by decide) pass0 (pa_cons (pv 0) (pa_cons pe_int pa_nil)))) pa_nil))) (pg_sub (pv 6) (pe_op op_mod (pe_toInt B (pe_op op_add (pv 2) (pe_ix ix_list (pe_lst (pa_cons (pv 5) (pa_cons (pe_op op_sub (pv 1) (pv 5)) pa_nil))) (pv 3) (fun _ _ => rfl)))) (pv 1)) set_list))
      (C8.pss_cut (ps_if (pt_cmpR op_eq (pe_op op_mod (pe_toInt B (pv 5)) pe_int) pe_int (nomark _)) (pss_one (ps_asg (pe_tup (pa_cons (pe_op op_sub (pe_fn Fd hr (by decide) pass0 (pa_cons (pv 0) (pa_cons pe_int pa_nil))) pe_int) (pa_cons pe_int pa_nil))) (pg_sub (pv 6) (pe_op op_mod (pe_toInt B (pe_op op_add (pv 2) (pe_ix ix_list (pe_lst (pa_cons (pe_op op_add (pv 5) pe_int) (pa_cons (pe_op op_sub (pe_op op_sub (pv 1) (pv 5)) pe_int) pa_nil))) (pv 3) (fun _ _ => rfl)))) (pv 1)) set_list))) pss_nil)
      (pss_one (ps_if (pt_cmpR op_gt (pe_fn Fd hr (by decide) pass0 (pa_cons (pv 0) (pa_cons pe_int pa_nil))) pe_int (nomark _)) (pss_one (ps_expr (pe_bm PySem.F.plainAttrs_list PySem.F.slot_list_append PySem.F.type_list_append mt_append (pv 4) (pa_cons (pe_tupleOf (by rfl) B.tuple (pv 6)) pa_nil)))) pss_nil))))))
    (pss_one (ps_ret (pe_tupleOf (by rfl) B.tuple (pv 4))))))), ?_⟩
  refine ⟨_, rfl, a, l, k, 9, rfl, by decide, by decide, by omega, W, ht, fun i1 H1 i10 i11 W1 g1 t1 => ?_⟩
  obtain ⟨n, hn⟩ : ∃ n : Nat, (48 : Int) - i1 = (n : Int) := ⟨(48 - i1).toNat, by omega⟩
  have hn40 : 40 ≤ n := by omega
  have hn48 : n ≤ 48 := by omega
  refine ⟨_, _, rfl, rfl, ?_⟩
  show gName 1 (V.int ((48 : Int) - i1)) _ _ _
  rw [hn]
  refine ⟨_, rfl, _, rfl, a, l, _, (n : Int), rfl, by omega, Nat.lt_of_le_of_lt (show ((n : Int)).natAbs ≤ 48 by omega) (by decide), by omega, W1, t1, fun st H2 st0 st1 W2 g2 t2 => ?_⟩
  refine ⟨_, rfl, a, l, _, 2, rfl, by decide, by decide, by omega, W2, t2, fun bk H3 bk0 bk1 W3 g3 t3 => ?_⟩
  have g03 := (g1.trans g2).trans g3
  refine ⟨_, _, rfl, by show 0 ≤ sizeLine; decide, fun R hR => ?_⟩
  have nR : R ∉ [a, l] := W3.ne hR
  have gR := Go.new (T := T) (M := []) (o := .lst []) hR
  have eR4 : upd H3 R (.lst []) R = some (.lst []) := upd_same
  have W4 := W3.go gR
  have t4 := gR.tb t3
  have g04 := g03.trans gR.of0
  have hR0 : H R = none := g03.al _ hR
  generalize upd H3 R (.lst []) = H4 at *
  refine ⟨_, rfl, _, rfl, by omega, by omega, ?_⟩
  refine for_it (walk_range (lo := 0) (n := (((n : Nat) : Int).toNat))) (fun i σ H' => Go T [a, l] H H' ∧ Tabs T H' ∧ CupAt a l H' (k + 3 + 4 * (i : Int)) ∧ ∃ p5 p6 ys rows, σ = [some (.ref a), some (.int (n : Int)), some (.int st), some (.int bk), some (.ref R), p5, p6] ∧ H' R = some (.lst ys) ∧ DvAll (R :: M) H' ys (rows.map rowQ) ∧ rows.length ≤ i ∧ ∀ r ∈ rows, r.length = n ∧ ∀ q ∈ r, Bd 42 4 q)
    ⟨g04, t4, W4.up (by omega), none, none, [], [], rfl, eR4, .nil, Nat.le_refl _, fun r hr => absurd hr List.not_mem_nil⟩ (fun _ _ _ _ _ => trivial) (fun i x σ H5 H6 hi h y => ?_) (fun σ H5 h => ?_)
  · obtain ⟨g5, t5, W5, p5, p6, ys, rows, rfl, eR5, dy, lr, hrow⟩ := h
    obtain ⟨rfl, ey⟩ := y
    have ey2 : x = V.int (i : Int) := by rw [ey]; show V.int (0 + (i : Int)) = _; rw [Int.zero_add]
    clear ey
    subst ey2
    rw [Int.toNat_natCast] at hi
    have lys : ys.length = rows.length := by rw [dy.length, List.length_map]
    have nL0 : ∀ b ∈ [a, l], b ∈ R :: M := fun b hb => List.mem_cons_of_mem _ (hM0 b hb)
    have frL : ∀ {H' : Hp}, Go T [a, l] H6 H' → ∀ b ∈ R :: M, H' b ≠ none := fun g' b hb z => by
      rcases List.mem_cons.mp hb with e | e
      · have := g'.lst eR5 nR
        rw [← e, z] at this; cases this
      · exact hM b e (g5.al _ (g'.al _ z))
    refine ⟨by show 2 ≤ sizeLine; decide, fun z hz => ?_⟩
    have ga := Go.new (T := T) (M := []) (o := .tup [V.int 0, V.int 1]) hz
    have ez : upd H6 z (.tup [V.int 0, V.int 1]) z = some (.tup [V.int 0, V.int 1]) := upd_same
    have nz : z ∉ R :: M := fun y => frL Go.refl _ y hz
    generalize upd H6 z (.tup [V.int 0, V.int 1]) = Ha at *
    refine ⟨by show 1 ≤ sizeLine; decide, fun z2 hz2 => ?_⟩
    have gb := Go.new (T := T) (M := []) (o := .lst [V.ref z]) hz2
    have ez2 : upd Ha z2 (.lst [V.ref z]) z2 = some (.lst [V.ref z]) := upd_same
    have ezb := gb.tup ez (nn _)
    have gab := ga.trans gb
    generalize upd Ha z2 (.lst [V.ref z]) = Hb at *
    refine ⟨_, rfl, z2, _, _, rfl, rfl, ez2, by omega, by omega, by rw [sizeLine_eq]; simp; omega, fun D hD => ?_⟩
    rw [Int.toNat_natCast]
    have nD : D ∉ [a, l] := (W5.go gab).ne hD
    have nDz : z ≠ D := fun y => by rw [y, hD] at ezb; cases ezb
    have gc := Go.new (T := T) (M := []) (o := .lst (List.replicate n [V.ref z]).flatten) hD
    have eD : upd Hb D (.lst (List.replicate n [V.ref z]).flatten) D = some (.lst (List.replicate n [V.ref z]).flatten) := upd_same
    have dz := zeros_dv (M := D :: R :: M) (gc.tup ezb (nn _)) (fun y => by rcases List.mem_cons.mp y with e | e; exact nDz e; exact nz e) n
    have hD6 : H6 D = none := gab.al _ hD
    have g6c := gab.trans gc
    have lz : (List.replicate n [V.ref z]).flatten.length = n := by simp
    generalize (List.replicate n [V.ref z]).flatten = zs at *
    generalize upd Hb D (.lst zs) = Hc at *
    have Wc := W5.go g6c
    have tc := g6c.tb t5
    refine ⟨_, rfl, a, l, _, 4, rfl, by decide, by decide, by omega, Wc, tc, fun j1 H7 j10 j11 W7 g7 t7 => ?_⟩
    refine ⟨_, _, rfl, rfl, _, rfl, a, l, _, 3, rfl, by decide, by decide, by omega, W7, t7, fun j2 H8 j20 j21 W8 g8 t8 => ?_⟩
    refine ⟨_, _, rfl, rfl, 1 + j1, 1 + j2, rfl, by omega, fun r hr' => ?_⟩
    have bq : Bd 42 4 (Rat.divInt (1 + j1) (1 + j2)) := bd_of (by omega) (dvd42 j20 (by omega)) (by omega)
    generalize Rat.divInt (1 + j1) (1 + j2) = q1 at *
    have gd := Go.new (T := T) (M := []) (o := .tup [.int q1.num, .int (q1.den : Int)]) hr'
    have er : upd H8 r (.tup [.int q1.num, .int (q1.den : Int)]) r = some (.tup [.int q1.num, .int (q1.den : Int)]) := upd_same
    have G8 := (g6c.of0 (M := [a, l])).trans (g7.trans g8)
    have nr : r ∉ D :: R :: M := fun y => by
      rcases List.mem_cons.mp y with e | e
      · have := (g7.trans g8).lst eD nD
        rw [← e, hr'] at this; cases this
      · exact frL G8 _ e hr'
    have Wd := W8.go gd
    have td := gd.tb t8
    have Gd := G8.trans gd.of0
    have gcd' := (g7.trans g8).trans gd.of0
    generalize upd H8 r (.tup [.int q1.num, .int (q1.den : Int)]) = Hd at *
    refine ⟨_, rfl, _, rfl, _, rfl, _, rfl, _, rfl, _, _, rfl, rfl, by show 2 ≤ sizeLine; decide, fun c hc => ?_⟩
    have ge := Go.new (T := T) (M := []) (o := .lst [.int (i : Int), .int ((n : Int) - (i : Int))]) hc
    have ec : upd Hd c (.lst [.int (i : Int), .int ((n : Int) - (i : Int))]) c = some (.lst [.int (i : Int), .int ((n : Int) - (i : Int))]) := upd_same
    have We := Wd.go ge
    have te := ge.tb td
    have Ge := Gd.trans ge.of0
    have gce := gcd'.trans ge.of0
    have ere := ge.tup er (nn _)
    generalize upd Hd c (.lst [.int (i : Int), .int ((n : Int) - (i : Int))]) = He at *
    obtain ⟨zz, ezz⟩ := at_two (x := (i : Int)) (y := (n : Int) - (i : Int)) bk0 bk1
    obtain ⟨p, hp, ep⟩ := mod_at (st + zz) (show 0 < n by omega)
    refine ⟨_, rfl, c, _, bk, .int zz, rfl, rfl, SqL.of ec, ezz, _, _, rfl, rfl, .inl ⟨_, rfl, _, rfl, _, _, rfl, rfl, by omega, ?_⟩⟩
    have eDe := gce.lst eD nD
    have sub : ∀ b ∈ [a, l], b ∈ D :: R :: M := fun b hb => List.mem_cons_of_mem _ (nL0 b hb)
    refine ⟨D, _, _, p, rfl, rfl, eDe, by rw [ep]; exact ixN_at (by omega), ?_⟩
    have gs := Go.set (T := T) (M := D :: R :: M) (o := .lst (zs.set p (.ref r))) eDe (fun _ z => by cases z) (List.mem_cons_self ..)
    have eDf : upd He D (.lst (zs.set p (.ref r))) D = some (.lst (zs.set p (.ref r))) := upd_same
    have dqr : Dv (D :: R :: M) He (.ref r) (rat q1.num (q1.den : Int)) := .tup ere nr (.cons (.int _) (.cons (.int _) .nil))
    have df := (dv_set dqr p (dz.go (gce.more sub))).go gs
    rw [rats_set] at df
    have Gf := Ge.over hD6 eDe (o := .lst (zs.set p (.ref r))) (fun _ z => by cases z)
    have Wf := We.set (o := .lst (zs.set p (.ref r))) nD
    have tf := gs.tb te
    generalize upd He D (.lst (zs.set p (.ref r))) = Hf at *
    have lqs : ((List.replicate n (0 : Rat)).set p q1).length = n := by simp
    have bqs : ∀ x ∈ (List.replicate n (0 : Rat)).set p q1, Bd 42 4 x := fun x hx => by
      rcases List.mem_or_eq_of_mem_set hx with h | h
      · rw [(List.mem_replicate.mp h).2]; exact ⟨Nat.one_dvd _, Nat.zero_le _⟩
      · rw [h]; exact bq
    generalize (List.replicate n (0 : Rat)).set p q1 = qs at *
    generalize zs.set p (.ref r) = zs1 at *
    refine ⟨fun σ H' => σ = [some (.ref a), some (.int (n : Int)), some (.int st), some (.int bk), some (.ref R), some (.int (i : Int)), some (.ref D)] ∧ Go T [a, l] H6 H' ∧ CupAt a l H' (k + 3 + 4 * (i : Int) + 3) ∧ ∃ zs qs, H' D = some (.lst zs) ∧ DvAll (D :: R :: M) H' zs (rats qs) ∧ qs.length = n ∧ ∀ q ∈ qs, Bd 42 4 q, ?_, fun σ Hg hmid => ?_⟩
    · refine ⟨_, rfl, .inl ⟨_, rfl, _, _, rfl, rfl, (show (0 : Int) < 2 by decide), rfl, _, rfl, ?_⟩⟩
      by_cases h0 : (i : Int) % 2 = 0
      · refine if_true_of (decide_eq_true (congrArg V.int h0)) ?_
        refine ⟨_, rfl, a, l, _, 3, rfl, by decide, by decide, by omega, Wf, tf, fun j3 H9 j30 j31 W9 g9 t9 => ?_⟩
        refine ⟨_, _, rfl, rfl, by show 2 ≤ sizeLine; decide, fun r2 hr2 => ?_⟩
        have gh := Go.new (T := T) (M := []) (o := .tup [V.int (j3 - 1), V.int 1]) hr2
        have er2 : upd H9 r2 (.tup [V.int (j3 - 1), V.int 1]) r2 = some (.tup [V.int (j3 - 1), V.int 1]) := upd_same
        have G9 := Gf.trans g9
        have nr2 : r2 ∉ D :: R :: M := fun y => by
          rcases List.mem_cons.mp y with e | e
          · have := g9.lst eDf nD
            rw [← e, hr2] at this; cases this
          · exact frL G9 _ e hr2
        have Wh := W9.go gh
        have th := gh.tb t9
        have Gh := G9.trans gh.of0
        have gfh := g9.trans gh.of0
        generalize upd H9 r2 (.tup [V.int (j3 - 1), V.int 1]) = Hh at *
        refine ⟨_, rfl, _, rfl, _, rfl, _, _, rfl, rfl, _, rfl, _, rfl, _, _, rfl, rfl, _, _, rfl, rfl, by show 2 ≤ sizeLine; decide, fun c2 hc2 => ?_⟩
        have gi := Go.new (T := T) (M := []) (o := .lst [.int ((i : Int) + 1), .int ((n : Int) - (i : Int) - 1)]) hc2
        have ec2 : upd Hh c2 (.lst [.int ((i : Int) + 1), .int ((n : Int) - (i : Int) - 1)]) c2 = some (.lst [.int ((i : Int) + 1), .int ((n : Int) - (i : Int) - 1)]) := upd_same
        have Wi := Wh.go gi
        have ti := gi.tb th
        have Gi := Gh.trans gi.of0
        have gfi := gfh.trans gi.of0
        have eri := gi.tup er2 (nn _)
        generalize upd Hh c2 (.lst [.int ((i : Int) + 1), .int ((n : Int) - (i : Int) - 1)]) = Hi at *
        obtain ⟨z3, ez3⟩ := at_two (x := (i : Int) + 1) (y := (n : Int) - (i : Int) - 1) bk0 bk1
        obtain ⟨p2, hp2, ep2⟩ := mod_at (st + z3) (show 0 < n by omega)
        refine ⟨_, rfl, c2, _, bk, .int z3, rfl, rfl, SqL.of ec2, ez3, _, _, rfl, rfl, .inl ⟨_, rfl, _, rfl, _, _, rfl, rfl, by omega, ?_⟩⟩
        have eDi := gfi.lst eDf nD
        have l1 : zs1.length = n := by
          have := df.length
          rw [rats_eq, List.length_map, lqs] at this
          exact this
        refine ⟨D, _, _, p2, rfl, rfl, eDi, by rw [ep2]; exact ixN_at (by omega), ?_⟩
        have gs2 := Go.set (T := T) (M := D :: R :: M) (o := .lst (zs1.set p2 (.ref r2))) eDi (fun _ z => by cases z) (List.mem_cons_self ..)
        obtain ⟨q3, hq3, hq4, hq5⟩ : ∃ q3 : Rat, q3.num = j3 - 1 ∧ (q3.den : Int) = 1 ∧ Bd 42 4 q3 := ⟨((j3 - 1 : Int) : Rat), rfl, rfl, ⟨Nat.one_dvd _, by show (j3 - 1).natAbs ≤ 4; omega⟩⟩
        have dqr2 : Dv (D :: R :: M) Hi (.ref r2) (rat q3.num (q3.den : Int)) := by
          rw [hq3, hq4]
          exact .tup eri nr2 (.cons (.int _) (.cons (.int _) .nil))
        have df2 := (dv_set dqr2 p2 (df.go (gfi.more sub))).go gs2
        rw [rats_set] at df2
        refine ⟨rfl, Gi.over hD6 eDi (fun _ z => by cases z), (Wi.set nD).up (by omega), _, _, upd_same, df2, by rw [List.length_set]; exact lqs, fun x hx => ?_⟩
        rcases List.mem_or_eq_of_mem_set hx with h | h
        · exact bqs x h
        · rw [h]; exact hq5
      · refine if_false_of (decide_eq_false fun e => h0 (by injection e)) ?_
        exact ⟨rfl, Gf, Wf.up (by omega), zs1, qs, eDf, df, lqs, bqs⟩
    obtain ⟨rfl, Gg, Wg, zs3, qs3, eDg, dg, lg, bg⟩ := hmid
    have tg := Gg.tb t5
    refine ⟨_, rfl, a, l, _, 12, rfl, by decide, by decide, by omega, Wg, tg, fun j5 H9 j50 j51 W9 g9 t9 => ?_⟩
    have G9 := Gg.trans g9
    have eR9 := G9.lst eR5 nR
    have eD9 := g9.lst eDg nD
    have subD : ∀ b ∈ [a, l], b ∈ D :: R :: M := fun b hb => List.mem_cons_of_mem _ (nL0 b hb)
    refine ⟨_, _, rfl, rfl, _, rfl, ?_⟩
    by_cases h0 : 0 < j5
    · refine if_true_of (decide_eq_true h0) ?_
      refine ⟨_, rfl, .inl ⟨rfl, _, SqL.of eR9⟩, _, rfl, .inl ⟨D, zs3, rfl, SqL.of eD9, fun o ho => ?_⟩⟩
      have go := Go.new (T := T) (M := []) (o := .tup zs3) ho
      have no : o ∉ R :: M := fun z => frL G9 _ z ho
      have dv1 : Dv (R :: M) (upd H9 o (.tup zs3)) (.ref o) (rowQ qs3) := .tup upd_same no (((dg.go (g9.more subD)).less fun b hb => List.mem_cons_of_mem _ hb).go go.of0)
      have Go' := G9.trans go.of0
      have eRo := go.lst eR9 (nn _)
      have Wo := W9.go go
      have to := go.tb t9
      generalize upd H9 o (.tup zs3) = Ho at *
      refine ⟨R, ys, .ref o, rfl, rfl, eRo, by rw [sizeLine_eq]; omega, ?_⟩
      have gs := Go.set (T := T) (M := R :: M) (o := .lst (ys ++ [.ref o])) eRo (fun _ z => by cases z) (List.mem_cons_self ..)
      refine ⟨(g5.trans Go').over hR0 eRo (fun _ z => by cases z), gs.tb to, (Wo.set nR).up (by omega), _, _, ys ++ [.ref o], rows ++ [qs3], rfl, upd_same, ?_, by rw [List.length_append]; show rows.length + 1 ≤ _; omega, fun r' hr'' => ?_⟩
      · rw [List.map_append]
        exact DvAll.append ((dy.go (Go'.more nL0)).go gs) (.cons (dv1.go gs) .nil)
      · rcases List.mem_append.mp hr'' with h | h
        · exact hrow r' h
        · rw [List.mem_singleton.mp h]; exact ⟨lg, bg⟩
    · refine if_false_of (decide_eq_false h0) ?_
      exact ⟨g5.trans G9, t9, W9.up (by omega), _, _, ys, rows, rfl, eR9, dy.go (G9.more nL0), by omega, hrow⟩
  · obtain ⟨g5, t5, W5, p5, p6, ys, rows, rfl, eR5, dy, lr, hrow⟩ := h
    rw [Int.toNat_natCast] at lr W5
    refine ⟨_, rfl, .inl ⟨R, ys, rfl, SqL.of eR5, fun o ho => ?_⟩⟩
    have go := Go.new (T := T) (M := []) (o := .tup ys) ho
    exact q _ rows n _ hn40 hn48 lr hrow (.tup upd_same (fun z => hM _ z (g5.al _ ho)) ((dy.less fun b hb => List.mem_cons_of_mem _ hb).go go.of0)) ((W5.go go).up (by omega)) (g5.trans go.of0) (go.tb t5)
end
end KN
set_option Elab.async false
set_option linter.all false
set_option maxRecDepth 100000
set_option maxHeartbeats 8000000
/-! k39: the sizes of what the law asks -/
namespace KN
open PySem PySem.Spec PyProof.Rows L2 GxR NdefX GA SL ZN RZ
open SQ (sumQ)
theorem ask_of {w m B D N D' N' : Nat} {rows : List (List Rat)} {t : List Rat} (hb : Big w m B) (hn : rows.length ≤ 48) (hr : ∀ r ∈ rows, r.length = w ∧ ∀ q ∈ r, Bd D N q) (hl : t.length = w) (ht : ∀ q ∈ t, Bd D' N' q)
    (h0 : 0 < D) (h0' : 0 < D') (hD : D < 2 ^ 2000) (hN : N < 2 ^ 9000) (hD' : D' < 2 ^ 2000) (hN' : N' < 2 ^ 9000) (h1 : N * D ≤ B) (h2 : N' * D' ≤ B) : AskOk w m B rows t :=
  ⟨hn, fun r h => (vecQ_of (hr r h).1 (hr r h).2 h0 hD hN).up h1, (vecQ_of hl ht h0' hD' hN').up h2, hb⟩
/-- the sizes of turned rows -/
def GG (n D N : Nat) : Nat := n * ((4 * 42) * ((N + 4) * (42 * D))) + 42 * (42 * D)
theorem GG_mono {n n' D D' N N' : Nat} (h1 : n ≤ n') (h2 : D ≤ D') (h3 : N ≤ N') : GG n D N ≤ GG n' D' N' := by
  unfold GG
  exact Nat.add_le_add (Nat.mul_le_mul h1 (Nat.mul_le_mul_left _ (Nat.mul_le_mul (Nat.add_le_add_right h3 4) (Nat.mul_le_mul_left 42 h2)))) (Nat.mul_le_mul_left 42 (Nat.mul_le_mul_left 42 h2))
theorem turned_bd {n D N p : Nat} {r ms : List Rat} (hD : 0 < D) (hp : p < n) (hm : ms.length = n) (hms : ∀ q ∈ ms, Bd 42 4 q) (hl : r.length = n) (hr : ∀ q ∈ r, Bd D N q) : ∀ q ∈ turnQ r p (-dotQ ms r), Bd (42 * (42 * D)) (GG n D N) q := by
  have hF : N + 4 ≤ (N + 4) * (42 * D) := Nat.le_mul_of_pos_right _ (by omega)
  have hK : (N + 4) * (42 * D) ≤ n * ((4 * 42) * ((N + 4) * (42 * D))) := by
    have a1 : 1 * ((N + 4) * (42 * D)) ≤ (4 * 42) * ((N + 4) * (42 * D)) := Nat.mul_le_mul_right _ (by decide)
    have a2 : 1 * ((4 * 42) * ((N + 4) * (42 * D))) ≤ n * ((4 * 42) * ((N + 4) * (42 * D))) := Nat.mul_le_mul_right _ (by omega)
    rw [Nat.one_mul] at a1 a2
    exact Nat.le_trans a1 a2
  intro q hq
  rcases turn_mem hq with rfl | h
  · have b := (dotQ_bd (by decide) hD (by omega) hms hr).neg
    refine b.up ⟨42, by rw [Nat.mul_comm (42 * D) 42]⟩ ?_
    rw [hm]
    refine Nat.le_trans (Nat.mul_le_mul_left n (Nat.mul_le_mul_left (4 * 42) ?_)) (Nat.le_add_right _ _)
    exact Nat.mul_le_mul (Nat.le_add_right N 4) (Nat.le_mul_of_pos_left D (by decide))
  · refine (hr q h).up ⟨42 * 42, by rw [Nat.mul_comm D, Nat.mul_assoc]⟩ ?_
    unfold GG
    omega
theorem turned_bd1 {n D N p : Nat} {r ms : List Rat} (hD : 0 < D) (hp : p < n) (hm : ms.length = n) (hms : ∀ q ∈ ms, Bd 42 4 q) (hl : r.length = n) (hr : ∀ q ∈ r, Bd 42 4 q) : ∀ q ∈ turnQ r p (1 - dotQ ms r), Bd (42 * (42 * D)) (GG n D N) q := by
  have h42 : 42 ≤ 42 * D := Nat.le_mul_of_pos_right _ hD
  have hK : 4 * 42 ≤ (N + 4) * (42 * D) := Nat.mul_le_mul (by omega) h42
  have hn1 : (4 * 42) * (4 * 42) ≤ (4 * 42) * ((N + 4) * (42 * D)) := Nat.mul_le_mul_left _ hK
  intro q hq
  rcases turn_mem hq with rfl | h
  · have b := (dotQ_bd (D := 42) (D' := 42) (by decide) (by decide) (by omega) hms hr).one_sub (by decide)
    refine b.up ⟨D, by rw [Nat.mul_assoc]⟩ ?_
    rw [hm]
    exact Nat.add_le_add (Nat.mul_le_mul_left n hn1) (Nat.mul_le_mul_left 42 h42)
  · refine (hr q h).up ⟨42 * D, rfl⟩ ?_
    unfold GG
    omega
theorem marked_ask {n m B D N p : Nat} {rows : List (List Rat)} {ex ms : List Rat} (hb : Big n m B) (h47 : rows.length ≤ 47) (hrw : ∀ r ∈ rows, r.length = n ∧ ∀ q ∈ r, Bd D N q) (hp : p < n) (hm : ms.length = n) (hmp : ms.getD p 0 = 0) (hms : ∀ q ∈ ms, Bd 42 4 q) (hl : ex.length = n) (hex : ∀ q ∈ ex, Bd 42 4 q)
    (h0 : 0 < D) (hD : 42 * (42 * D) < 2 ^ 2000) (hG : GG n D N < 2 ^ 9000) (hB : GG n D N * (42 * (42 * D)) ≤ B) :
    AskOk n m B (rows.map fun r => turnQ r p (-dotQ ms r)) (turnQ ex p (1 - dotQ ms ex)) ∧ ¬ MadeQ n (rows.map fun r => turnQ r p (-dotQ ms r)) (turnQ ex p (1 - dotQ ms ex)) := by
  have hA : AskOk n m B (rows.map fun r => turnQ r p (-dotQ ms r)) (turnQ ex p (1 - dotQ ms ex)) := by
    refine ask_of hb (by rw [List.length_map]; omega) (fun r hr => ?_) (by rw [turn_len (by omega)]; exact hl) (turned_bd1 h0 hp hm hms hl hex) (by omega) (by omega) hD hG hD hG hB hB
    obtain ⟨r0, hr0, rfl⟩ := List.mem_map.mp hr
    obtain ⟨l0, b0⟩ := hrw r0 hr0
    exact ⟨by rw [turn_len (by omega)]; exact l0, turned_bd h0 hp hm hms l0 b0⟩
  refine ⟨hA, apart_marks hA (a := fun e => if e = p then 1 else ms.getD e 0) (fun k hk => ?_) ?_⟩
  · rw [List.length_map] at hk
    have e : (rows.map fun r => turnQ r p (-dotQ ms r)).getD k [] = turnQ rows[k] p (-dotQ ms rows[k]) := by
      rw [List.getD_eq_getElem?_getD, List.getElem?_eq_getElem (by rw [List.length_map]; exact hk), List.getElem_map]
      rfl
    rw [e, turn_sum hm (hrw _ (List.getElem_mem hk)).1 hp hmp]
    grind
  · rw [turn_sum hm hl hp hmp]
    grind
theorem big7 {n : Nat} (h : n ≤ 6) : Big n 7 (2 ^ 567) := ⟨Nat.one_le_two_pow, by omega, by decide, by omega, by decide +kernel⟩
theorem big9 {n : Nat} (h : n ≤ 8) : Big n 9 (2 ^ 139) := ⟨Nat.one_le_two_pow, by omega, by decide, by omega, by decide +kernel⟩
theorem big17 {n : Nat} (h : n ≤ 16) : Big n 17 (2 ^ 31) := ⟨Nat.one_le_two_pow, by omega, by decide, by omega, by decide +kernel⟩
theorem big49 {n : Nat} (h : n ≤ 48) : Big n 49 (2 ^ 32) := ⟨Nat.one_le_two_pow, by omega, by decide, by omega, by decide +kernel⟩
theorem sz7 {k : Nat} (h : k ≤ 7) : 0 < 42 ^ k ∧ 42 ^ k < 2 ^ 2000 ∧ NRW k < 2 ^ 9000 ∧ NRW k * 42 ^ k ≤ 2 ^ 567 ∧ 42 * 42 ^ k < 2 ^ 2000 ∧ k * ((N0 * 42) * (NRW k * 42 ^ k)) < 2 ^ 9000 ∧ k * ((N0 * 42) * (NRW k * 42 ^ k)) * (42 * 42 ^ k) ≤ 2 ^ 567 := by
  have a1 : 42 ^ k ≤ 42 ^ 7 := Nat.pow_le_pow_right (by decide) h
  have a2 : NRW k ≤ NRW 7 := by
    have := NRW_mono (i := k) (7 - k)
    rwa [show k + (7 - k) = 7 by omega] at this
  have a3 : NRW k * 42 ^ k ≤ NRW 7 * 42 ^ 7 := Nat.mul_le_mul a2 a1
  have a4 : k * ((N0 * 42) * (NRW k * 42 ^ k)) ≤ 7 * ((N0 * 42) * (NRW 7 * 42 ^ 7)) := Nat.mul_le_mul h (Nat.mul_le_mul_left _ a3)
  have a5 : 42 * 42 ^ k ≤ 42 * 42 ^ 7 := Nat.mul_le_mul_left _ a1
  exact ⟨Nat.pow_pos (by decide), Nat.lt_of_le_of_lt a1 (by decide +kernel), Nat.lt_of_le_of_lt a2 (by decide +kernel), Nat.le_trans a3 (by decide +kernel), Nat.lt_of_le_of_lt a5 (by decide +kernel), Nat.lt_of_le_of_lt a4 (by decide +kernel), Nat.le_trans (Nat.mul_le_mul a4 a5) (by decide +kernel)⟩
theorem gz7 {n k : Nat} (hn : n ≤ 6) (h : k ≤ 7) : 42 * (42 * 42 ^ k) < 2 ^ 2000 ∧ GG n (42 ^ k) (NRW k) < 2 ^ 9000 ∧ GG n (42 ^ k) (NRW k) * (42 * (42 * 42 ^ k)) ≤ 2 ^ 567 := by
  have a1 : 42 ^ k ≤ 42 ^ 7 := Nat.pow_le_pow_right (by decide) h
  have a2 : NRW k ≤ NRW 7 := by
    have := NRW_mono (i := k) (7 - k)
    rwa [show k + (7 - k) = 7 by omega] at this
  have a3 := GG_mono hn a1 a2
  have a4 : 42 * (42 * 42 ^ k) ≤ 42 * (42 * 42 ^ 7) := Nat.mul_le_mul_left _ (Nat.mul_le_mul_left _ a1)
  exact ⟨Nat.lt_of_le_of_lt a4 (by decide +kernel), Nat.lt_of_le_of_lt a3 (by decide +kernel), Nat.le_trans (Nat.mul_le_mul a3 a4) (by decide +kernel)⟩
theorem n0_small {k : Nat} (h : 200 ≤ k) : N0 < 2 ^ k := Nat.lt_of_lt_of_le (show N0 < 2 ^ 200 by decide +kernel) (Nat.pow_le_pow_right (by decide) h)
theorem cutV_last {xs : List V} {n : Nat} (h : xs.length = n + 1) : cutV xs none (some (-1)) = xs.take n := by
  unfold cutV
  have e : HT.sIx xs.length xs.length (some (-1)) = n := by
    rw [h]
    unfold HT.sIx
    simp
    omega
  rw [HT.sIx_none, e, List.drop_zero, Nat.sub_zero]
theorem at_last {xs : List V} {n : Nat} {z : V} (h : xs.length = n + 1) (e : xs[n]? = some z) : atI xs (-1) = some z := by
  have e2 : ixN xs.length (-1) = some n := by
    rw [h]
    unfold ixN
    simp
    omega
  unfold atI
  rw [e2]
  exact e
/-- what _law_marked gave: all rows but the last, and the last -/
theorem turned_parts {M : List Addr} {H : Hp} {zs : List V} {rows : List (List Rat)} {ex ms : List Rat} {p : Nat} (d : DvAll M H zs ((turnedQ rows ex ms p).map rowQ)) :
    zs.length = rows.length + 1 ∧ DvAll M H (cutV zs none (some (-1))) ((rows.map fun r => turnQ r p (-dotQ ms r)).map rowQ) ∧ ∃ z, atI zs (-1) = some z ∧ Dv M H z (rowQ (turnQ ex p (1 - dotQ ms ex))) := by
  have lz : zs.length = rows.length + 1 := by
    rw [d.length, List.length_map]
    unfold turnedQ
    rw [List.length_append, List.length_map]
    rfl
  refine ⟨lz, ?_, ?_⟩
  · rw [cutV_last lz]
    have h := d.take rows.length
    have e : ((turnedQ rows ex ms p).map rowQ).take rows.length = (rows.map fun r => turnQ r p (-dotQ ms r)).map rowQ := by
      unfold turnedQ
      rw [List.map_append, List.take_left' (by rw [List.length_map, List.length_map])]
    rwa [e] at h
  · have e : ((turnedQ rows ex ms p).map rowQ)[rows.length]? = some (rowQ (turnQ ex p (1 - dotQ ms ex))) := by
      unfold turnedQ
      rw [List.map_append, List.getElem?_append_right (by rw [List.length_map, List.length_map]; exact Nat.le_refl _), List.length_map, List.length_map, Nat.sub_self]
      rfl
    obtain ⟨z, ez, dz⟩ := d.getD e
    exact ⟨z, at_last lz ez, dz⟩
end KN
set_option Elab.async false
set_option linter.all false
set_option maxRecDepth 100000
set_option maxHeartbeats 8000000
/-! k39: _law_dense_right -/
namespace KN
open PySem PySem.Spec PyProof.Rows L2 GxR NdefX GA SL ZN RZ
open SQ (sumQ)
abbrev s_law_dense : Stmt := top 39
abbrev NLD : List Str := ["cup", "size", "rows", "weights", "turned", "turn", "k", "row"]
theorem sc_law_dense : FnScope NLD ["cup"] (defScope s_law_dense) := ⟨rfl, rfl, rfl, by decide +kernel, rfl, by decide +kernel, by decide +kernel⟩
def sp_dense (T : List Addr) : Sp := fun vs H Q _ => ∃ (a l : Addr) (k : Int), vs = [.ref a] ∧ k ≤ 137438953472 ∧ CupAt a l H k ∧ Tabs T H ∧ ∀ H', CupAt a l H' (k + 5000) → Go T [a, l] H H' → Tabs T H' → Q (.bl true) H'
theorem int_dv {M : List Addr} {H : Hp} {r : Addr} (z : Int) (nr : r ∉ M) : Dv M (upd H r (.tup [.int z, .int 1])) (.ref r) (rat ((z : Rat)).num (((z : Rat)).den : Int)) := .tup upd_same nr (.cons (.int _) (.cons (.int _) .nil))
theorem int_bd {z : Int} {N : Nat} (h : z.natAbs ≤ N) : Bd 1 N (z : Rat) := ⟨Nat.one_dvd _, h⟩
section
variable {P : Program} {w : World} {K : PySem.W.Frag} {mg : Str → Option Value} {base : Heap} {f c CK CN CT CR : Addr} {fd : FuncData} {T : List Addr}
theorem ok_law_dense (F : Fun K "_law_dense_right" "_law_dense_right" s_law_dense f fd) (B : Bl mg) (Fd : Fnn P w K mg base CX0 1 "_law_sip" ["cup", "many"] (sp_sip T)) (Fc : Fnn P w K mg base CX0 34 "_law_combine" ["weights", "rows", "size"] (sp_combine T))
    (Fa : Fnn P w K mg base CX0 38 "_law_asked" ["rows", "target", "due"] (sp_asked T)) (Fm : Fnn P w K mg base CX0 35 "_law_marked" ["cup", "rows", "size"] (sp_marked T)) :
    FnOk P w K mg base CX0 39 f fd ["cup"] (sp_dense T) := by
  have nd := sc_law_dense.nd
  refine F.ok sc_law_dense (fun vs H Q E h => ?_) (fun cdv A outer s H vs Q E hr h => ?_)
  · obtain ⟨_, _, _, rfl, _⟩ := h
    rfl
  obtain ⟨a, l, k, rfl, hk, W, ht, q⟩ := h
  have nn : ∀ b : Addr, b ∉ ([] : List Addr) := fun b => List.not_mem_nil
  refine ⟨_, pss_cons (ps_set (i := 1) nd rfl (.inr rfl) (pe_op op_add pe_int (pe_fn Fd hr (by decide) pass0 (pa_cons (pv 0) (pa_cons pe_int pa_nil)))))
    (pss_cons (ps_setLc (i := 2) (own := [("turn", 5)]) (g := gName 5) (tt := tYes) (te := tThen (tLc (iRng1 (tCons (tVar 1) tNil)) (gName 6) tYes (tTup (tCons (tOp (rI0 fun i j => .int (i - j)) (tCall (sp_sip T) [] E0 (tCons (tVar 0) (tCons (tC (.int 4)) tNil))) (tC (.int 1))) (tCons (tC (.int 1)) tNil))) ([(("k" : Str), 6)].map (·.2))) (kTup K)) rfl nd rfl rfl (sw_true rfl rfl rfl (by decide +kernel)) (pi_range1 (by rfl) B.range (pa_cons (pe_op op_add pe_int (pe_fn Fd hr (by decide) pass0 (pa_cons (pv 0) (pa_cons pe_int pa_nil)))) pa_nil))
        (blkOk_by (own := [("turn", 5)]) (N := NLD) (sc := defScope s_law_dense) (by decide +kernel)) (fun _ _ _ _ _ => pg_name (i := 5) nd rfl (.inl rfl)) (fun _ _ _ _ _ => pts_nil)
        (fun _ _ _ _ _ => pe_tupleOf (by rfl) B.tuple (pe_lc (own := [("k", 6)]) (g := gName 6) (tt := tYes) (te := tTup (tCons (tOp (rI0 fun i j => .int (i - j)) (tCall (sp_sip T) [] E0 (tCons (tVar 0) (tCons (tC (.int 4)) tNil))) (tC (.int 1))) (tCons (tC (.int 1)) tNil))) (by rfl) nd (pi_range1 (by rfl) B.range (pa_cons (pv 1) pa_nil)) (blkOk_by (own := [("k", 6)]) (N := NLD)
          (sc := { kind := ScopeKind.function, names := [(".0", NameKind.local), ("turn", NameKind.local), ("tuple", NameKind.globalImplicit), ("range", NameKind.globalImplicit), ("cup", NameKind.cell), ("size", NameKind.cell)], isGenerator := false, isCoroutine := false })
          (scope := { kind := ScopeKind.function, names := [(".0", NameKind.local), ("k", NameKind.local), ("_law_sip", NameKind.globalImplicit), ("cup", NameKind.free)], isGenerator := false, isCoroutine := false }) (by decide +kernel))
          (fun _ _ _ _ _ => pg_name (i := 6) nd rfl (.inl rfl)) (fun _ _ _ _ _ => pts_nil) (fun _ _ _ _ _ => pe_tup (pa_cons (pe_op op_sub (pe_fn Fd hr (by decide) pass0 (pa_cons (pv 0) (pa_cons pe_int pa_nil))) pe_int) (pa_cons pe_int pa_nil))))))
    (pss_cons (ps_setLc (i := 3) (own := [("row", 7)]) (g := gName 7) (tt := tYes) (te := tTup (tCons (tOp (rI0 fun i j => .int (i - j)) (tCall (sp_sip T) [] E0 (tCons (tVar 0) (tCons (tC (.int 5)) tNil))) (tC (.int 2))) (tCons (tC (.int 1)) tNil))) rfl nd rfl rfl (sw_true rfl rfl rfl (by decide +kernel)) (pi_list (pv 2))
        (blkOk_by (own := [("row", 7)]) (N := NLD) (sc := defScope s_law_dense) (by decide +kernel)) (fun _ _ _ _ _ => pg_name (i := 7) nd rfl (.inl rfl)) (fun _ _ _ _ _ => pts_nil)
        (fun _ _ _ _ _ => pe_tup (pa_cons (pe_op op_sub (pe_fn Fd hr (by decide) pass0 (pa_cons (pv 0) (pa_cons pe_int pa_nil))) pe_int) (pa_cons pe_int pa_nil))))
    (pss_cons (ps_if (pt_not (pt_val (pe_fn Fa hr (by decide) pass0 (pa_cons (pe_tupleOf (by rfl) B.tuple (pv 2)) (pa_cons (pe_fn Fc hr (by decide) pass0 (pa_cons (pv 3) (pa_cons (pv 2) (pa_cons (pv 1) pa_nil)))) (pa_cons pe_str pa_nil)))))) (pss_one (ps_ret pe_bl)) pss_nil)
    (pss_cons (ps_set (i := 4) nd rfl (.inl rfl) (pe_fn Fm hr (by decide) pass0 (pa_cons (pv 0) (pa_cons (pv 2) (pa_cons (pv 1) pa_nil)))))
    (pss_one (ps_ret (pe_fn Fa hr (by decide) pass0 (pa_cons (pe_tupleOf (by rfl) B.tuple (pe_slice sl_list (pv 4) po_none (po_some (pe_un un_neg pe_int)))) (pa_cons (pe_ix ix_list (pv 4) (pe_un un_neg pe_int) (fun _ _ => rfl)) (pa_cons pe_str pa_nil)))))))))), ?_⟩
  refine ⟨_, rfl, a, l, k, 8, rfl, by decide, by decide, by omega, W, ht, fun i1 H1 i10 i11 W1 g1 t1 => ?_⟩
  obtain ⟨n, hn⟩ : ∃ n : Nat, (9 : Int) + i1 = (n : Int) := ⟨(9 + i1).toNat, by omega⟩
  have hn9 : 9 ≤ n := by omega
  have hn16 : n ≤ 16 := by omega
  refine ⟨_, _, rfl, rfl, ?_⟩
  show gName 1 (V.int ((9 : Int) + i1)) _ _ _
  rw [hn]
  refine ⟨_, rfl, a, l, _, 10, rfl, by decide, by decide, by omega, W1, t1, fun i2 H2 i20 i21 W2 g2 t2 => ?_⟩
  have g02 := g1.trans g2
  refine ⟨_, _, rfl, rfl, _, rfl, by omega, by omega, fun R hR => ?_⟩
  have nR : R ∉ [a, l] := W2.ne hR
  refine lc_cup (T := T) (M := [a, l]) (c := 100) (n := ((7 : Int) + i2).toNat) rowQ (fun r => r.length = n ∧ ∀ q ∈ r, Bd 1 2 q) walk_range (fun _ _ => trivial) (by decide) W2 t2 hR (fun b h => h) W2.lists (by rw [sizeLine_eq]; omega) (fun j x H3 H4 Q2 hj y g3 W3 t3 fr hQ => ?_) (fun H3 ys rows g3 t3 W3 eR3 dy lr hrow => ?_)
  · obtain ⟨rfl, _⟩ := y
    refine ⟨rfl, _, rfl, _, rfl, by omega, by omega, fun D hD => ?_⟩
    refine lc_cup (T := T) (M := R :: [a, l]) (c := 1) (n := ((n : Nat) : Int).toNat) (fun q : Rat => rat q.num (q.den : Int)) (Bd 1 2) walk_range (fun _ _ => trivial) (by decide) W3 t3 hD (fun b h => List.mem_cons_of_mem _ h) (fun b hb z => fr b z hb) (by rw [sizeLine_eq]; omega) (fun j2 x2 H5 H6 Q3 hj2 y2 g5 W5 t5 fr5 hQ3 => ?_) (fun H5 ws qs g5 t5 W5 eD5 dw lq pq => ?_)
    · obtain ⟨rfl, _⟩ := y2
      refine ⟨rfl, _, rfl, a, l, _, 4, rfl, by decide, by decide, by omega, W5, t5, fun j3 H7 j30 j31 W7 g7 t7 => ⟨_, _, rfl, rfl, by show 2 ≤ sizeLine; decide, fun r hr' => ?_⟩⟩
      have gr := Go.new (T := T) (M := []) (o := .tup [.int (j3 - 1), .int 1]) hr'
      exact hQ3 _ ((j3 - 1 : Int) : Rat) _ (int_dv (j3 - 1) (fr5 r (g7.al _ hr'))) (int_bd (by omega)) (W7.go gr) (g7.trans gr.of0)
    rw [Int.toNat_natCast] at lq W5
    rw [← rats_eq] at dw
    refine .inl ⟨D, ws, rfl, SqL.of eD5, fun o ho => ?_⟩
    have go := Go.new (T := T) (M := []) (o := .tup ws) ho
    exact hQ _ qs _ (.tup upd_same (fr o (g5.al _ ho)) ((dw.less fun b hb => List.mem_cons_of_mem _ hb).go go.of0)) ⟨lq, pq⟩ ((W5.go go).up (by omega)) (g5.trans go.of0)
  have lr17 : rows.length ≤ 16 := by omega
  have W3' := W3.up (k' := k + 2000) (by omega)
  clear W3
  have lys : ys.length = rows.length := by rw [dy.length, List.length_map]
  refine ⟨_, rfl, R, rfl, ⟨_, SqL.of eR3⟩, fun D hD => ?_⟩
  have hMR : ∀ {H' : Hp}, Go T [a, l] H3 H' → ∀ b ∈ R :: [a, l], H' b ≠ none := fun g' b hb z => by
    rcases List.mem_cons.mp hb with e | e
    · have := g'.lst eR3 nR
      rw [← e, z] at this; cases this
    · exact W3'.lists b e (g'.al _ z)
  have sub : ∀ b ∈ [a, l], b ∈ R :: [a, l] := fun b h => List.mem_cons_of_mem _ h
  refine lc_cup (T := T) (M := R :: [a, l]) (c := 1) (n := ys.length) (fun q : Rat => rat q.num (q.den : Int)) (Bd 1 2) walk_list (fun H' g' => SqL.of (g'.lst eR3 nR)) (by decide) W3' t3 hD sub (hMR Go.refl) (by rw [sizeLine_eq]; omega) (fun j2 x2 H5 H6 Q3 hj2 y2 g5 W5 t5 fr5 hQ3 => ?_) (fun H5 ws qs g5 t5 W5 eD5 dw lq pq => ?_)
  · obtain ⟨rfl, _⟩ := y2
    refine ⟨rfl, _, rfl, a, l, _, 5, rfl, by decide, by decide, by omega, W5, t5, fun j3 H7 j30 j31 W7 g7 t7 => ⟨_, _, rfl, rfl, by show 2 ≤ sizeLine; decide, fun r hr' => ?_⟩⟩
    have gr := Go.new (T := T) (M := []) (o := .tup [.int (j3 - 2), .int 1]) hr'
    exact hQ3 _ ((j3 - 2 : Int) : Rat) _ (int_dv (j3 - 2) (fr5 r (g7.al _ hr'))) (int_bd (by omega)) (W7.go gr) (g7.trans gr.of0)
  rw [← rats_eq] at dw
  have W5' := W5.up (k' := k + 2100) (by omega)
  clear W5
  have eR5 := g5.lst eR3 nR
  have dy5 := dy.go (g5.more sub)
  have hl2 : qs.length = rows.length := by omega
  refine ⟨_, rfl, .inl ⟨R, ys, rfl, SqL.of eR5, fun o ho => ?_⟩⟩
  have go := Go.new (T := T) (M := []) (o := .tup ys) ho
  have t6 := go.tb t5
  have W6 := W5'.go go
  have g36 := g5.trans go.of0
  have dv1 : Dv [] (upd H5 o (.tup ys)) (.ref o) (.tuple (rows.map rowQ)) := .tup upd_same (nn _) ((dy5.less fun b hb => absurd hb List.not_mem_nil).go go)
  have eR6 := go.lst eR5 (nn _)
  have eD6 := go.lst eD5 (nn _)
  have dw6 := (dw.less (M' := []) fun b hb => absurd hb List.not_mem_nil).go go
  have dy6 := dy5.go go.of0
  generalize upd H5 o (.tup ys) = H6 at *
  refine ⟨_, rfl, _, rfl, _, rfl, [], [], [], .ref D, .ref R, qs, rows, n, 1, 2, 1, 2, rfl, .inr (.lst eD6 (nn _) dw6), .inr (.lst eR6 (nn _) (dy6.less fun b hb => absurd hb List.not_mem_nil)), hl2, by omega, by omega, fun r hr' => (hrow r hr').1, fun x hx => (pq x hx).bl (by decide), fun r hr' x hx => ((hrow r hr').2 x hx).bl (by decide), by decide, by decide, Nat.lt_of_lt_of_le (show 1 * 1 < 2 ^ 3 by decide) (Nat.pow_le_pow_right (by decide) (by decide)), Nat.lt_of_lt_of_le (show 2 < 2 ^ 3 by decide) (Nat.pow_le_pow_right (by decide) (by decide)), Nat.lt_of_lt_of_le (show 2 < 2 ^ 3 by decide) (Nat.pow_le_pow_right (by decide) (by decide)), fun b hb => absurd hb List.not_mem_nil, t6, fun u H7 g7 t7 hu7 => ?_⟩
  have cb := comb_bd (by decide) (by decide) hl2 pq (fun r hr' => (hrow r hr').1) (fun r hr' => (hrow r hr').2)
  have p30 : ∀ {x : Nat}, x < 2 ^ 30 → x < 2 ^ 2000 := fun h => Nat.lt_of_lt_of_le h (Nat.pow_le_pow_right (by decide) (by decide))
  have p30' : ∀ {x : Nat}, x < 2 ^ 30 → x < 2 ^ 9000 := fun h => Nat.lt_of_lt_of_le h (Nat.pow_le_pow_right (by decide) (by decide))
  have hA : AskOk n 17 (2 ^ 31) rows (combQ qs rows n) := ask_of (big17 hn16) (by omega) hrow (by unfold combQ; rw [List.length_map, List.length_range]) cb (by decide) (by decide) (p30 (by decide)) (p30' (by decide)) (p30 (by decide)) (p30' (by omega)) (by decide) (by omega)
  refine ⟨.ref o, u, rows, combQ qs rows n, n, 17, 2 ^ 31, _, rfl, dv1.go g7, hu7, hA, .inr (.inl ⟨rfl, made_comb hA hl2⟩), t7, fun H8 g8 t8 => ⟨_, rfl, iteF ?_⟩⟩
  have g38 := (g36.trans g7.of0).trans g8.of0
  have W8 := (W6.go g7).go g8
  have eR8 := g38.lst eR3 nR
  have dy8 := dy.go (g38.more sub)
  clear dw eD5 dw6 eD6
  refine ⟨_, rfl, _, rfl, _, rfl, R :: [a, l], a, l, k + 2100, R, ys, rows, n, 1, 2, rfl, eR8, nR, dy8, by omega, by omega, by omega, hrow, by decide, Nat.one_lt_two_pow (by decide), Nat.lt_of_lt_of_le (show 2 < 2 ^ 3 by decide) (Nat.pow_le_pow_right (by decide) (by decide)), by omega, W8, sub, hMR g38, t8, fun L zs p ms ex H9 hL eL9 dz hp lm mp bm lx bx W9 g9 t9 => ?_⟩
  obtain ⟨hA9, hN9⟩ := marked_ask (m := 17) (B := 2 ^ 31) (big17 hn16) (by omega) hrow hp lm mp bm lx bx (by decide) (p30 (by decide)) (p30' (Nat.lt_of_le_of_lt (GG_mono hn16 (Nat.le_refl 1) (Nat.le_refl 2)) (by decide))) (Nat.le_trans (Nat.mul_le_mul_right _ (GG_mono hn16 (Nat.le_refl 1) (Nat.le_refl 2))) (by decide))
  obtain ⟨lz, dA, z, ez, dzl⟩ := turned_parts dz
  refine ⟨_, rfl, 1, rfl, _, rfl, L, zs, rfl, SqL.of eL9, fun c hc => ?_⟩
  have gc := Go.new (T := T) (M := []) (o := .lst (cutV zs none (some (-1)))) hc
  have ec : upd H9 c (.lst (cutV zs none (some (-1)))) c = some (.lst (cutV zs none (some (-1)))) := upd_same
  refine .inl ⟨c, _, rfl, SqL.of ec, fun o2 ho2 => ?_⟩
  have gd := Go.new (T := T) (M := []) (o := .tup (cutV zs none (some (-1)))) ho2
  have gcd2 := gc.trans gd
  have dvA : Dv [] (upd (upd H9 c (.lst (cutV zs none (some (-1))))) o2 (.tup (cutV zs none (some (-1))))) (.ref o2) (.tuple ((rows.map fun r => turnQ r p (-dotQ ms r)).map rowQ)) := .tup upd_same (nn _) ((dA.less fun b hb => absurd hb List.not_mem_nil).go gcd2)
  refine ⟨_, rfl, 1, rfl, L, zs, -1, z, rfl, rfl, SqL.of (gcd2.lst eL9 (nn _)), ez, .ref o2, z, _, _, n, 17, 2 ^ 31, _, rfl, dvA, (dzl.less fun b hb => absurd hb List.not_mem_nil).go gcd2, hA9, .inr (.inr ⟨rfl, hN9⟩), gcd2.tb t9, fun H10 g10 t10 => ?_⟩
  exact q H10 (((W9.go gcd2).go g10).up (by omega)) ((((g02.trans g3).trans g38).trans g9).trans (gcd2.trans g10).of0) t10
end
end KN
set_option Elab.async false
set_option linter.all false
set_option maxRecDepth 100000
set_option maxHeartbeats 16000000
/-! k39: law -/
namespace KN
open PySem PySem.Spec PyProof.Rows L2 GxR NdefX GA SL ZN RZ
open SQ (sumQ)
abbrev s_law : Stmt := top 40
abbrev NLL : List Str := ["script", "cup", "turn", "many", "size", "great", "rows", "weights", "turned", "target", "some", "row", "k", "one"]
theorem sc_law : FnScope NLL ["script"] (defScope s_law) := ⟨rfl, rfl, rfl, by decide +kernel, rfl, by decide +kernel, by decide +kernel⟩
def sp_law (K : PySem.W.Frag) (T : List Addr) : Sp := fun vs H Q _ => ∃ (b : Addr) (ns : List Int), vs = [.ref b] ∧ SqL K H b (ns.map V.int) ∧ ns.length ≤ 63 ∧ Tabs T H ∧ ∀ H', Q (.bl true) H'
section
variable {P : Program} {w : World} {K : PySem.W.Frag} {mg : Str → Option Value} {base : Heap} {f c CK CN CT CR : Addr} {fd : FuncData} {T : List Addr}
theorem ok_law (F : Fun K "law" "law" s_law f fd) (B : Bl mg) (Fp : Fnn P w K mg base CX0 1 "_law_cup" ["script"] (sp_cup K T)) (Fd : Fnn P w K mg base CX0 1 "_law_sip" ["cup", "many"] (sp_sip T)) (Fe : Fnn P w K mg base CX0 34 "_law_entry" ["cup", "great"] (sp_entry T)) (Fc : Fnn P w K mg base CX0 34 "_law_combine" ["weights", "rows", "size"] (sp_combine T))
    (Fr : Fnn P w K mg base CX0 35 "_law_rows" ["cup", "many", "size", "great"] (sp_rows T)) (Fa : Fnn P w K mg base CX0 38 "_law_asked" ["rows", "target", "due"] (sp_asked T)) (Fm : Fnn P w K mg base CX0 35 "_law_marked" ["cup", "rows", "size"] (sp_marked T))
    (Fw : Fnn P w K mg base CX0 34 "_law_wide" ["cup"] (sp_wide T)) (Fs : Fnn P w K mg base CX0 39 "_law_dense_right" ["cup"] (sp_dense T)) :
    FnOk P w K mg base CX0 40 f fd ["script"] (sp_law K T) := by
  have nd := sc_law.nd
  refine F.ok sc_law (fun vs H Q E h => ?_) (fun cdv A outer s H vs Q E hr h => ?_)
  · obtain ⟨_, _, rfl, _⟩ := h
    rfl
  obtain ⟨b, ns, rfl, hS, hl, ht, q⟩ := h
  have nn : ∀ b : Addr, b ∉ ([] : List Addr) := fun b => List.not_mem_nil
  have hu : (A.deeper (envOfC "law" (defScope s_law) s.heap.objs.size f cdv)).units < cLine := by
    have := hr.un
    omega
  refine ⟨_, pss_cons (ps_set (i := 1) nd rfl (.inr rfl) (pe_fn Fp hr (by decide) pass0 (pa_cons (pv 0) pa_nil)))
    (pss_cons (ps_for PassesOwn.never rfl (pi_range1 (by rfl) B.range (pa_cons pe_int pa_nil)) (pg_name (i := 2) nd rfl (.inl rfl)) (pss_cons (ps_par (i := 3) (j := 4) rfl nd rfl rfl (by decide) rfl rfl (pa_cons (pe_fn Fd hr (by decide) pass0 (pa_cons (pv 1) (pa_cons pe_int pa_nil))) (pa_cons (pe_fn Fd hr (by decide) pass0 (pa_cons (pv 1) (pa_cons pe_int pa_nil))) pa_nil)) rfl)
    (pss_cons (ps_set (i := 5) nd rfl (.inr rfl) (pe_cmpR op_eq (pe_fn Fd hr (by decide) pass0 (pa_cons (pv 1) (pa_cons pe_int pa_nil))) pe_int (nomark _)))
    (pss_cons (ps_set (i := 6) nd rfl (.inl rfl) (pe_fn Fr hr (by decide) pass0 (pa_cons (pv 1) (pa_cons (pv 3) (pa_cons (pv 4) (pa_cons (pv 5) pa_nil))))))
    (pss_cons (ps_setLc (i := 7) (own := [("row", 11)]) (g := gName 11) (tt := tYes) (te := tCall (sp_entry T) [] E0 (tCons (tVar 1) (tCons (tVar 5) tNil))) rfl nd rfl rfl (sw_true rfl rfl rfl (by decide +kernel)) (pi_list (pv 6)) (blkOk_by (own := [("row", 11)]) (N := NLL) (sc := defScope s_law) (by decide +kernel)) (fun _ _ _ _ _ => pg_name (i := 11) nd rfl (.inl rfl)) (fun _ _ _ _ _ => pts_nil) (fun _ _ _ _ _ => (pe_fn Fe hr (by decide) pass0 (pa_cons (pv 1) (pa_cons (pv 5) pa_nil)))))
    (pss_cons (ps_if (pt_not (pt_val (pe_fn Fa hr (by decide) pass0 (pa_cons (pe_tupleOf (by rfl) B.tuple (pv 6)) (pa_cons (pe_fn Fc hr (by decide) pass0 (pa_cons (pv 7) (pa_cons (pv 6) (pa_cons (pv 4) pa_nil)))) (pa_cons pe_str pa_nil)))))) (pss_one (ps_ret pe_bl)) pss_nil)
    (pss_cons (ps_if (pt_not (pt_val (pe_fn Fa hr (by decide) pass0 (pa_cons (pe_tupleOf (by rfl) B.tuple (pv 6)) (pa_cons (pe_tupleOf (by rfl) B.tuple (pe_lc (own := [("k", 12)]) (g := gName 12) (tt := tYes) (te := tCall (sp_entry T) [] E0 (tCons (tVar 1) (tCons (tVar 5) tNil))) (by rfl) nd (pi_range1 (by rfl) B.range (pa_cons (pv 4) pa_nil)) (blkOk_by (own := [("k", 12)]) (N := NLL) (sc := defScope s_law) (by decide +kernel)) (fun _ _ _ _ _ => pg_name (i := 12) nd rfl (.inl rfl)) (fun _ _ _ _ _ => pts_nil) (fun _ _ _ _ _ => (pe_fn Fe hr (by decide) pass0 (pa_cons (pv 1) (pa_cons (pv 5) pa_nil)))))) (pa_cons pe_str pa_nil)))))) (pss_one (ps_ret pe_bl)) pss_nil)
    (pss_cons (ps_if (pt_not (pt_val (pe_fn Fa hr (by decide) pass0 (pa_cons (pe_tupleOf (by rfl) B.tuple (pv 6)) (pa_cons (pe_op op_timesA (pe_tup (pa_cons (pe_tup (pa_cons pe_int (pa_cons pe_int pa_nil))) pa_nil)) (pv 4)) (pa_cons pe_str pa_nil)))))) (pss_one (ps_ret pe_bl)) pss_nil)
    (pss_one (ps_if (pt_cmpR op_gt (pv 4) pe_int (nomark _)) (pss_cons (ps_set (i := 8) nd rfl (.inl rfl) (pe_fn Fm hr (by decide) pass0 (pa_cons (pv 1) (pa_cons (pv 6) (pa_cons (pv 4) pa_nil)))))
    (pss_one (ps_if (pt_not (pt_val (pe_fn Fa hr (by decide) pass0 (pa_cons (pe_tupleOf (by rfl) B.tuple (pe_slice sl_list (pv 8) po_none (po_some (pe_un un_neg pe_int)))) (pa_cons (pe_ix ix_list (pv 8) (pe_un un_neg pe_int) (fun _ _ => rfl)) (pa_cons pe_str pa_nil)))))) (pss_one (ps_ret pe_bl)) pss_nil))) pss_nil))))))))))
    (C8.pss_cut (ps_if (PW.pt (pw_and (pt_cmpR op_eq (pe_fn Fd hr (by decide) pass0 (pa_cons (pv 1) (pa_cons pe_int pa_nil))) pe_int (nomark _)) (pw_and1 (pt_not (pt_val (pe_fn Fs hr (by decide) pass0 (pa_cons (pv 1) pa_nil))))))) (pss_one (ps_ret pe_bl)) pss_nil)
    (pss_cons (ps_set (i := 9) nd rfl (.inl rfl) (pe_tupleOf (by rfl) B.tuple (pe_lc (own := [("k", 12)]) (g := gName 12) (tt := tYes) (te := tCall (sp_entry T) [] E0 (tCons (tVar 1) (tCons (tC (.bl true)) tNil))) (by rfl) nd (pi_range1 (by rfl) B.range (pa_cons (pe_fn Fd hr (by decide) pass0 (pa_cons (pv 1) (pa_cons pe_int pa_nil))) pa_nil)) (blkOk_by (own := [("k", 12)]) (N := NLL) (sc := defScope s_law) (by decide +kernel)) (fun _ _ _ _ _ => pg_name (i := 12) nd rfl (.inl rfl)) (fun _ _ _ _ _ => pts_nil) (fun _ _ _ _ _ => (pe_fn Fe hr (by decide) pass0 (pa_cons (pv 1) (pa_cons pe_bl pa_nil)))))))
    (pss_cons (ps_if (pt_not (pt_val (pe_fn Fa hr (by decide) pass0 (pa_cons (pe_tup pa_nil) (pa_cons (pv 9) (pa_cons (pe_ix ix_list (pe_lst (pa_cons pe_str (pa_cons pe_str pa_nil))) (pe_toInt B (pe_cmpR (op_eqNil hu) (pe_lc (own := [("one", 13)]) (g := gName 13) (tt := tTest (tOp rNe (tOp (rIxT K) (tVar 13) (tC (.int 0))) (tC (.int 0)))) (te := tVar 13) (by rfl) nd (pi_tup (pv 9)) (blkOk_by (own := [("one", 13)]) (N := NLL) (sc := defScope s_law) (by decide +kernel)) (fun _ _ _ _ _ => pg_name (i := 13) nd rfl (.inl rfl)) (fun _ _ _ _ _ => pts_one (pt_cmpR op_ne (pe_ix ix_tup (pv 13) pe_int (fun _ _ => rfl)) pe_int (nomark _))) (fun _ _ _ _ _ => (pv 13))) (pe_lst pa_nil) (nomark _))) (fun _ _ => rfl)) pa_nil)))))) (pss_one (ps_ret pe_bl)) pss_nil)
    (pss_cons (ps_if (pt_cmpR op_eq (pe_fn Fd hr (by decide) pass0 (pa_cons (pv 1) (pa_cons pe_int pa_nil))) pe_int (nomark _)) (pss_cons (ps_set (i := 6) nd rfl (.inl rfl) (pe_fn Fw hr (by decide) pass0 (pa_cons (pv 1) pa_nil)))
    (pss_cons (ps_setLc (i := 10) (own := [("row", 11)]) (g := gName 11) (tt := tYes) (te := tOp (rIxL K) (tLst (tCons (tTup (tCons (tC (.int 0)) (tCons (tC (.int 1)) tNil))) (tCons (tTup (tCons (tC (.int 0)) (tCons (tC (.int 1)) tNil))) (tCons (tTup (tCons (tC (.int 0)) (tCons (tC (.int 1)) tNil))) (tCons (tTup (tCons (tC (.int 1)) (tCons (tC (.int 1)) tNil))) (tCons (tTup (tCons (tUn (rU fun i => .int (-i)) (tC (.int 2))) (tCons (tC (.int 3)) tNil))) tNil)))))) (tCall (sp_sip T) [] E0 (tCons (tVar 1) (tCons (tC (.int 5)) tNil)))) rfl nd rfl rfl (sw_true rfl rfl rfl (by decide +kernel)) (pi_tup (pv 6)) (blkOk_by (own := [("row", 11)]) (N := NLL) (sc := defScope s_law) (by decide +kernel)) (fun _ _ _ _ _ => pg_name (i := 11) nd rfl (.inl rfl)) (fun _ _ _ _ _ => pts_nil) (fun _ _ _ _ _ => (pe_ix ix_list (pe_lst (pa_cons (pe_tup (pa_cons pe_int (pa_cons pe_int pa_nil))) (pa_cons (pe_tup (pa_cons pe_int (pa_cons pe_int pa_nil))) (pa_cons (pe_tup (pa_cons pe_int (pa_cons pe_int pa_nil))) (pa_cons (pe_tup (pa_cons pe_int (pa_cons pe_int pa_nil))) (pa_cons (pe_tup (pa_cons (pe_un un_neg pe_int) (pa_cons pe_int pa_nil))) pa_nil)))))) (pe_fn Fd hr (by decide) pass0 (pa_cons (pv 1) (pa_cons pe_int pa_nil))) (fun _ _ => rfl))))
    (pss_cons (ps_if (PW.pt (pw_and (pt_cmpR (op_neNil hu) (pv 6) (pe_tup pa_nil) (nomark _)) (pw_and1 (pt_not (pt_val (pe_fn Fa hr (by decide) pass0 (pa_cons (pv 6) (pa_cons (pe_fn Fc hr (by decide) pass0 (pa_cons (pv 10) (pa_cons (pv 6) (pa_cons (pe_lenq B (pe_ix ix_tup (pv 6) pe_int (fun _ _ => rfl))) pa_nil)))) (pa_cons pe_str pa_nil))))))))) (pss_one (ps_ret pe_bl)) pss_nil)
    (pss_one (ps_if (PW.pt (pw_and (pt_cmpR (op_neNil hu) (pv 6) (pe_tup pa_nil) (nomark _)) (pw_and1 (pt_not (pt_val (pe_fn Fa hr (by decide) pass0 (pa_cons (pv 6) (pa_cons (pe_tupleOf (by rfl) B.tuple (pe_lc (own := [("k", 12)]) (g := gName 12) (tt := tYes) (te := tTup (tCons (tCall (sp_sip T) [] E0 (tCons (tVar 1) (tCons (tC (.int 2)) tNil))) (tCons (tC (.int 1)) tNil))) (by rfl) nd (pi_tup (pe_ix ix_tup (pv 6) pe_int (fun _ _ => rfl))) (blkOk_by (own := [("k", 12)]) (N := NLL) (sc := defScope s_law) (by decide +kernel)) (fun _ _ _ _ _ => pg_name (i := 12) nd rfl (.inl rfl)) (fun _ _ _ _ _ => pts_nil) (fun _ _ _ _ _ => (pe_tup (pa_cons (pe_fn Fd hr (by decide) pass0 (pa_cons (pv 1) (pa_cons pe_int pa_nil))) (pa_cons pe_int pa_nil)))))) (pa_cons pe_str pa_nil))))))))) (pss_one (ps_ret pe_bl)) pss_nil))))) pss_nil)
    (pss_one (ps_ret pe_bl))))))), ?_⟩
  refine ⟨_, rfl, b, ns, rfl, hS, by omega, ht, fun a l H1 ha hl1 W1 g1 t1 => ?_⟩
  refine ⟨_, rfl, by decide, by decide, ?_⟩
  refine for_it (walk_range (lo := 0) (n := ((2 : Int).toNat))) (fun i σ H' => ∃ p2 p3 p4 p5 p6 p7 p8 : Option V, σ = [some (.ref b), some (.ref a), p2, p3, p4, p5, p6, p7, p8, none, none, none, none, none] ∧ CupAt a l H' (100000 * (i : Int)) ∧ Tabs T H')
    ⟨none, none, none, none, none, none, none, rfl, W1.up (by omega), t1⟩ (fun _ _ _ _ _ => trivial) (fun i x σ H2 H3 hi h y => ?_) (fun σ H2 h => ?_)
  · obtain ⟨p2, p3, p4, p5, p6, p7, p8, rfl, W2, t2⟩ := h
    obtain ⟨rfl, ey⟩ := y
    clear ey
    have hi : i < 2 := hi
    refine ⟨_, rfl, a, l, _, 8, rfl, by decide, by decide, by omega, W2, t2, fun i1 H4 i10 i11 W4 g4 t4 => ?_⟩
    refine ⟨_, rfl, a, l, _, 7, rfl, by decide, by decide, by omega, W4, t4, fun i2 H5 i20 i21 W5 g5 t5 => ?_⟩
    obtain ⟨many, rfl⟩ : ∃ m : Nat, i1 = (m : Int) := ⟨i1.toNat, by omega⟩
    obtain ⟨n, rfl⟩ : ∃ m : Nat, i2 = (m : Int) := ⟨i2.toNat, by omega⟩
    have hm7 : many ≤ 7 := by omega
    have hn6 : n ≤ 6 := by omega
    refine ⟨_, _, rfl, _, rfl, a, l, _, 4, rfl, by decide, by decide, by omega, W5, t5, fun i3 H6 i30 i31 W6 g6 t6 => ⟨rfl, ?_⟩⟩
    refine ⟨_, rfl, _, rfl, _, rfl, _, rfl, [a, l], a, l, _, many, n, _, rfl, hm7, hn6, by omega, W6, fun b h => h, W6.lists, t6, fun L ys rows H7 hL eL7 dy lr hrow W7 g7 t7 => ?_⟩
    have nL : L ∉ [a, l] := W6.ne hL
    have lys : ys.length = rows.length := by rw [dy.length, List.length_map]
    have hML : ∀ {H' : Hp}, Go T [a, l] H7 H' → ∀ b ∈ L :: [a, l], H' b ≠ none := fun g' b hb z => by
      rcases List.mem_cons.mp hb with e | e
      · have := g'.lst eL7 nL
        rw [← e, z] at this; cases this
      · exact W7.lists b e (g'.al _ z)
    have sub : ∀ b ∈ [a, l], b ∈ L :: [a, l] := fun b h => List.mem_cons_of_mem _ h
    obtain ⟨z1, z2, z3, z4, z5, z6, z7⟩ := sz7 hm7
    have n0s := n0_small (k := 9000) (by decide)
    have n42 : 42 < 2 ^ 2000 := Nat.lt_of_lt_of_le (show 42 < 2 ^ 6 by decide) (Nat.pow_le_pow_right (by decide) (by decide))
    refine ⟨_, rfl, L, rfl, ⟨_, SqL.of eL7⟩, fun D hD => ?_⟩
    refine lc_cup (T := T) (M := L :: [a, l]) (c := 6) (n := ys.length) (fun q : Rat => rat q.num (q.den : Int)) (Bd 42 N0) walk_list (fun H' g' => SqL.of (g'.lst eL7 nL)) (by decide) W7 t7 hD sub (hML Go.refl) (by rw [sizeLine_eq]; omega) (fun j x H7 H8 R hj y g7 W7 t7 fr hR => ?_) (fun H8 ws qs g8 t8 W8 eD8 dw lq pq => ?_)
    · obtain ⟨rfl, _⟩ := y
      exact ⟨rfl, _, rfl, _, rfl, a, l, _, _, rfl, by omega, W7, t7, fun r q' H9 hr9 er bq W9 g9 t9 => hR _ q' H9 (.tup er (fr r hr9) (.cons (.int _) (.cons (.int _) .nil))) (bq.up (Nat.dvd_refl _) (NN_le _)) W9 g9⟩
    rw [← rats_eq] at dw
    have W8' := W8.up (k' := 100000 * (i : Int) + 2000) (by omega)
    clear W8
    have hl2 : qs.length = rows.length := by omega
    -- the sum is made
    refine ⟨_, rfl, .inl ⟨L, ys, rfl, SqL.of (g8.lst eL7 nL), fun o ho => ?_⟩⟩
    have go := Go.new (T := T) (M := []) (o := .tup ys) ho
    have t9 := go.tb t8
    have W9 := W8'.go go
    have g9 := g8.trans go.of0
    have dv1 : Dv [] (upd H8 o (.tup ys)) (.ref o) (.tuple (rows.map rowQ)) := .tup upd_same (nn _) (((dy.go (g8.more sub)).less fun b hb => absurd hb List.not_mem_nil).go go)
    have eD9 := go.lst eD8 (nn _)
    have dw9 := (dw.less (M' := []) fun b hb => absurd hb List.not_mem_nil).go go
    generalize upd H8 o (.tup ys) = H9 at *
    refine ⟨_, rfl, _, rfl, _, rfl, [], [], [], .ref D, .ref L, qs, rows, n, 42, N0, 42 ^ many, NRW many, rfl, .inr (.lst eD9 (nn _) dw9), .inr (.lst (g9.lst eL7 nL) (nn _) ((dy.go (g9.more sub)).less fun b hb => absurd hb List.not_mem_nil)), hl2, by omega, by omega, fun r hr' => (hrow r hr').1, fun x hx => (pq x hx).bl (by decide), fun r hr' x hx => ((hrow r hr').2 x hx).bl z1, by decide, z1, Nat.lt_of_lt_of_le z5 (Nat.pow_le_pow_right (by decide) (by decide)), n0_small (by decide), Nat.lt_of_lt_of_le z3 (Nat.pow_le_pow_right (by decide) (by decide)), fun b hb => absurd hb List.not_mem_nil, t9, fun u H10 g10 t10 hu10 => ?_⟩
    have cb := comb_bd (by decide) z1 hl2 pq (fun r hr' => (hrow r hr').1) (fun r hr' => (hrow r hr').2)
    rw [hl2, lr] at cb
    have hA : AskOk n 7 (2 ^ 567) rows (combQ qs rows n) := ask_of (big7 hn6) (by omega) hrow (by unfold combQ; rw [List.length_map, List.length_range]) cb z1 (Nat.mul_pos (by decide) z1) z2 z3 z5 z6 z4 z7
    refine ⟨.ref o, u, rows, combQ qs rows n, n, 7, 2 ^ 567, _, rfl, dv1.go g10, hu10, hA, .inr (.inl ⟨rfl, made_comb hA hl2⟩), t10, fun H11 g11 t11 => ⟨_, rfl, iteF ?_⟩⟩
    have W11 := (W9.go g10).go g11
    have G11 := (g9.trans g10.of0).trans g11.of0
    clear dw eD8 dw9 eD9 cb hA hu10 dv1
    -- any target
    refine ⟨_, rfl, .inl ⟨L, ys, rfl, SqL.of (G11.lst eL7 nL), fun o2 ho2 => ?_⟩⟩
    have go2 := Go.new (T := T) (M := []) (o := .tup ys) ho2
    have t12 := go2.tb t11
    have W12 := W11.go go2
    have G12 := G11.trans go2.of0
    have dv2 : Dv [a, l] (upd H11 o2 (.tup ys)) (.ref o2) (.tuple (rows.map rowQ)) := .tup upd_same (fun z => W11.ne ho2 z) (((dy.go (G11.more sub)).less sub).go go2.of0)
    generalize upd H11 o2 (.tup ys) = H12 at *
    refine ⟨_, rfl, _, rfl, by omega, by omega, fun D2 hD2 => ?_⟩
    refine lc_cup (T := T) (M := L :: [a, l]) (c := 6) (n := ((n : Nat) : Int).toNat) (fun q : Rat => rat q.num (q.den : Int)) (Bd 42 N0) walk_range (fun _ _ => trivial) (by decide) W12 t12 hD2 sub (hML G12) (by rw [sizeLine_eq]; omega) (fun j x H7 H8 R hj y g7 W7 t7 fr hR => ?_) (fun H13 ws2 qs2 g13 t13 W13 eD13 dw2 lq2 pq2 => ?_)
    · obtain ⟨rfl, _⟩ := y
      exact ⟨rfl, _, rfl, _, rfl, a, l, _, _, rfl, by omega, W7, t7, fun r q' H9 hr9 er bq W9 g9 t9 => hR _ q' H9 (.tup er (fr r hr9) (.cons (.int _) (.cons (.int _) .nil))) (bq.up (Nat.dvd_refl _) (NN_le _)) W9 g9⟩
    rw [← rats_eq] at dw2
    rw [Int.toNat_natCast] at lq2 W13
    refine .inl ⟨D2, ws2, rfl, SqL.of eD13, fun o3 ho3 => ?_⟩
    have go3 := Go.new (T := T) (M := []) (o := .tup ws2) ho3
    have t14 := go3.tb t13
    have W14 := W13.go go3
    have G14 := (G12.trans g13).trans go3.of0
    have dv3 : Dv [] (upd H13 o3 (.tup ws2)) (.ref o3) (rowQ qs2) := .tup upd_same (nn _) ((dw2.less fun b hb => absurd hb List.not_mem_nil).go go3)
    have dv2' : Dv [] (upd H13 o3 (.tup ws2)) (.ref o2) (.tuple (rows.map rowQ)) := ((dv2.go g13).less fun b hb => absurd hb List.not_mem_nil).go go3
    generalize upd H13 o3 (.tup ws2) = H14 at *
    have hA2 : AskOk n 7 (2 ^ 567) rows qs2 := ask_of (big7 hn6) (by omega) hrow lq2 pq2 z1 (by decide) z2 z3 n42 n0s z4 (Nat.le_trans (show N0 * 42 ≤ 2 ^ 200 by decide +kernel) (Nat.pow_le_pow_right (by decide) (by decide)))
    refine ⟨.ref o2, .ref o3, rows, qs2, n, 7, 2 ^ 567, _, rfl, dv2', dv3, hA2, .inl rfl, t14, fun H15 g15 t15 => ⟨_, rfl, iteF ?_⟩⟩
    have W15 := W14.go g15
    have G15 := G14.trans g15.of0
    clear dw2 eD13 dv3 dv2 dv2' hA2
    -- zeros are made
    refine ⟨_, rfl, .inl ⟨L, ys, rfl, SqL.of (G15.lst eL7 nL), fun o4 ho4 => ?_⟩⟩
    have go4 := Go.new (T := T) (M := []) (o := .tup ys) ho4
    have t16 := go4.tb t15
    have W16 := W15.go go4
    have G16 := G15.trans go4.of0
    have dv4 : Dv [] (upd H15 o4 (.tup ys)) (.ref o4) (.tuple (rows.map rowQ)) := .tup upd_same (nn _) (((dy.go (G15.more sub)).less fun b hb => absurd hb List.not_mem_nil).go go4)
    generalize upd H15 o4 (.tup ys) = H16 at *
    refine ⟨by show 2 ≤ sizeLine; decide, fun z hz => ⟨by show 1 ≤ sizeLine; decide, fun z8 hz8 => ?_⟩⟩
    have ga := Go.new (T := T) (M := []) (o := .tup [V.int 0, V.int 1]) hz
    have ez : upd H16 z (.tup [V.int 0, V.int 1]) z = some (.tup [V.int 0, V.int 1]) := upd_same
    generalize upd H16 z (.tup [V.int 0, V.int 1]) = Ha at *
    have gb := Go.new (T := T) (M := []) (o := .tup [V.ref z]) hz8
    have ez8 : upd Ha z8 (.tup [V.ref z]) z8 = some (.tup [V.ref z]) := upd_same
    have ezb := gb.tup ez (nn _)
    generalize upd Ha z8 (.tup [V.ref z]) = Hb at *
    have gab := ga.trans gb
    refine ⟨_, rfl, ?_⟩
    refine timesA_ok (T := T) (M := []) ez8 (nn _) (fun r hr y => nn _ y) (by simp) (by show 1 ≤ 1000; decide) (by omega) fun p Hc ep np gc => ?_
    have gac := gab.trans gc
    have dv5 : Dv [] Hc (.ref p) (rowQ (List.replicate n 0)) := .tup ep np (zeros_dv (gc.tup ezb (nn _)) (nn _) n)
    have hA3 : AskOk n 7 (2 ^ 567) rows (List.replicate n 0) := ask_of (D' := 1) (N' := 0) (big7 hn6) (by omega) hrow (by simp) (fun x hx => by rw [(List.mem_replicate.mp hx).2]; exact ⟨Nat.one_dvd _, Nat.zero_le _⟩) z1 (by decide) z2 z3 (Nat.one_lt_two_pow (by decide)) Nat.one_le_two_pow z4 (by rw [Nat.zero_mul]; exact Nat.zero_le _)
    refine ⟨.ref o4, .ref p, rows, List.replicate n 0, n, 7, 2 ^ 567, _, rfl, dv4.go gac, dv5, hA3, .inr (.inl ⟨rfl, made_zero hA3 fun x hx => (List.mem_replicate.mp hx).2⟩), gac.tb t16, fun H17 g17 t17 => ⟨_, rfl, iteF ?_⟩⟩
    have W17 := (W16.go gac).go g17
    have G17 := (G16.trans gac.of0).trans g17.of0
    clear dv4 dv5 hA3
    -- turned rows
    refine ⟨_, rfl, _, _, rfl, rfl, _, rfl, ?_⟩
    by_cases h0 : 0 < n
    · refine if_true_of (decide_eq_true (show (n : Int) > 0 by omega)) ?_
      refine ⟨_, rfl, _, rfl, _, rfl, L :: [a, l], a, l, _, L, ys, rows, n, 42 ^ many, NRW many, rfl, G17.lst eL7 nL, nL, dy.go (G17.more sub), by omega, by omega, by omega, hrow, z1, Nat.lt_of_le_of_lt (Nat.pow_le_pow_right (by decide) hm7) (Nat.lt_of_lt_of_le (show 42 ^ 7 < 2 ^ 50 by decide) (Nat.pow_le_pow_right (by decide) (by decide))), Nat.lt_of_lt_of_le (NRW_small hm7) (Nat.pow_le_pow_right (by decide) (by decide)), by omega, W17, sub, hML G17, t17, fun L2 zs p ms ex H18 hL2 eL18 dz hp lm mp bm lx bx W18 g18 t18 => ?_⟩
      obtain ⟨y1, y2, y3⟩ := gz7 hn6 hm7
      obtain ⟨hA9, hN9⟩ := marked_ask (m := 7) (B := 2 ^ 567) (big7 hn6) (by omega) hrow hp lm mp bm lx bx z1 y1 y2 y3
      obtain ⟨lz, dA, zl, ezl, dzl⟩ := turned_parts dz
      refine ⟨_, rfl, 1, rfl, _, rfl, L2, zs, rfl, SqL.of eL18, fun c hc => ?_⟩
      have gc := Go.new (T := T) (M := []) (o := .lst (cutV zs none (some (-1)))) hc
      have ec : upd H18 c (.lst (cutV zs none (some (-1)))) c = some (.lst (cutV zs none (some (-1)))) := upd_same
      refine .inl ⟨c, _, rfl, SqL.of ec, fun o5 ho5 => ?_⟩
      have gd := Go.new (T := T) (M := []) (o := .tup (cutV zs none (some (-1)))) ho5
      have gcd2 := gc.trans gd
      have dvA : Dv [] (upd (upd H18 c (.lst (cutV zs none (some (-1))))) o5 (.tup (cutV zs none (some (-1))))) (.ref o5) (.tuple ((rows.map fun r => turnQ r p (-dotQ ms r)).map rowQ)) := .tup upd_same (nn _) ((dA.less fun b hb => absurd hb List.not_mem_nil).go gcd2)
      refine ⟨_, rfl, 1, rfl, L2, zs, -1, zl, rfl, rfl, SqL.of (gcd2.lst eL18 (nn _)), ezl, .ref o5, zl, _, _, n, 7, 2 ^ 567, _, rfl, dvA, (dzl.less fun b hb => absurd hb List.not_mem_nil).go gcd2, hA9, .inr (.inr ⟨rfl, hN9⟩), gcd2.tb t18, fun H19 g19 t19 => ⟨_, rfl, iteF ?_⟩⟩
      exact ⟨_, _, _, _, _, _, _, rfl, ((W18.go gcd2).go g19).up (by omega), t19⟩
    · refine if_false_of (decide_eq_false (show ¬ (n : Int) > 0 by omega)) ?_
      exact ⟨_, _, _, _, _, _, _, rfl, W17.up (by omega), t17⟩
  · obtain ⟨p2, p3, p4, p5, p6, p7, p8, rfl, W2, t2⟩ := h
    have W2' := W2.up (k' := 300000) (by show 100000 * ((2 : Nat) : Int) ≤ 300000; omega)
    clear W2
    refine ⟨fun σ H' => σ = [some (.ref b), some (.ref a), p2, p3, p4, p5, p6, p7, p8, none, none, none, none, none] ∧ CupAt a l H' 310000 ∧ Tabs T H', ?_, fun σ H3 hmid => ?_⟩
    · refine ⟨_, rfl, a, l, _, 6, rfl, by decide, by decide, by omega, W2', t2, fun i1 H4 i10 i11 W4 g4 t4 => ⟨rfl, _, rfl, ?_⟩⟩
      by_cases h0 : i1 = 0
      · refine if_true_of (decide_eq_true (by rw [h0])) ?_
        exact ⟨_, rfl, a, l, _, rfl, by omega, W4, t4, fun H5 W5 g5 t5 => ⟨_, rfl, iteF ⟨rfl, W5.up (by omega), t5⟩⟩⟩
      · refine if_false_of (decide_eq_false fun e => h0 (by injection e)) (iteF ?_)
        exact ⟨rfl, W4.up (by omega), t4⟩
    obtain ⟨rfl, W3, t3⟩ := hmid
    refine ⟨_, rfl, a, l, _, 9, rfl, by decide, by decide, by omega, W3, t3, fun i2 H4 i20 i21 W4 g4 t4 => ?_⟩
    obtain ⟨n, rfl⟩ : ∃ m : Nat, i2 = (m : Int) := ⟨i2.toNat, by omega⟩
    refine ⟨_, rfl, by omega, by omega, fun D hD => ?_⟩
    refine lc_cup (T := T) (M := [a, l]) (c := 6) (n := ((n : Nat) : Int).toNat) (fun q : Rat => rat q.num (q.den : Int)) (Bd 42 N0) walk_range (fun _ _ => trivial) (by decide) W4 t4 hD (fun b h => h) W4.lists (by rw [sizeLine_eq]; omega) (fun j x H7 H8 R hj y g7 W7 t7 fr hR => ?_) (fun H5 ws qs g5 t5 W5 eD5 dw lq pq => ?_)
    · obtain ⟨rfl, _⟩ := y
      exact ⟨rfl, _, rfl, a, l, _, true, rfl, by omega, W7, t7, fun r q' H9 hr9 er bq W9 g9 t9 => hR _ q' H9 (.tup er (fr r hr9) (.cons (.int _) (.cons (.int _) .nil))) bq W9 g9⟩
    rw [← rats_eq] at dw
    rw [Int.toNat_natCast] at lq W5
    refine .inl ⟨D, ws, rfl, SqL.of eD5, fun o ho => ?_⟩
    have go := Go.new (T := T) (M := []) (o := .tup ws) ho
    have t6 := go.tb t5
    have W6 := W5.go go
    have eo : upd H5 o (.tup ws) o = some (.tup ws) := upd_same
    have dws : DvAll [] (upd H5 o (.tup ws)) ws (rats qs) := (dw.less fun b hb => absurd hb List.not_mem_nil).go go
    clear dw eD5
    generalize upd H5 o (.tup ws) = H6 at *
    have lws : ws.length = qs.length := by rw [dws.length, rats_eq, List.length_map]
    -- no rows
    refine ⟨by show 0 ≤ sizeLine; decide, fun e he => ?_⟩
    have ge := Go.new (T := T) (M := []) (o := .tup []) he
    have ee : upd H6 e (.tup []) e = some (.tup []) := upd_same
    generalize upd H6 e (.tup []) = H7 at *
    refine ⟨_, rfl, by show 2 ≤ sizeLine; decide, fun c hc => ?_⟩
    have gc := Go.new (T := T) (M := []) (o := .lst [V.str "apart", V.str "made"]) hc
    have ec : upd H7 c (.lst [V.str "apart", V.str "made"]) c = some (.lst [V.str "apart", V.str "made"]) := upd_same
    generalize upd H7 c (.lst [V.str "apart", V.str "made"]) = H8 at *
    have g68 := ge.trans gc
    have t8 := g68.tb t6
    refine ⟨_, rfl, o, rfl, ⟨_, SqT.of (g68.tup eo (nn _))⟩, fun D2 hD2 => ?_⟩
    have wk := walk_tup (K := K) (a := o) (xs := ws)
    rw [lws] at wk
    refine lc_fdv (T := T) (M := []) qs (fun q => decide (q.num ≠ 0)) (fun q => rat q.num (q.den : Int)) wk (fun H' g' => SqT.of ((g68.trans g').tup eo (nn _))) t8 Go.refl hD2 (by rw [sizeLine_eq]; omega) (fun j v q0 H9 H10 Rt Rf hq0 g9 t9 hne y hRt hRf => ?_) (fun H9 ys g9 t9 eD9 da => ?_)
    · obtain ⟨rfl, ex⟩ := y
      obtain ⟨d, ed, hx⟩ := (((dws.go g68).hide hD2).go g9.of0).get ex
      have hx' := hx
      rw [rats_eq, List.getElem?_map, hq0] at ed
      cases ed
      obtain ⟨r, vx, vy, rfl, er, nr, hvx, hvy⟩ := dv_pair hx
      cases hvx
      cases hvy
      refine ⟨rfl, _, rfl, r, _, 0, _, rfl, rfl, SqT.of er, atI_nat (j := 0) rfl, rfl, _, rfl, ?_⟩
      by_cases c0 : q0.num = 0
      · exact if_false_of (by rw [c0]; rfl) (hRf (by simp [c0]) _ Go.refl)
      · exact if_true_of (by simp [c0]) ⟨_, rfl, hRt (by simp [c0]) _ _ Go.refl hx'⟩
    have lys := da.length
    rw [List.length_map] at lys
    refine ⟨by show 0 ≤ sizeLine; decide, fun b2 hb2 => ?_⟩
    have gf := Go.new (T := T) (M := []) (o := .lst []) hb2
    have eb2 : upd H9 b2 (.lst []) b2 = some (.lst []) := upd_same
    have eD10 := gf.lst eD9 (nn _)
    generalize upd H9 b2 (.lst []) = H10 at *
    have g610 := (g68.trans g9).trans gf
    refine ⟨D2, b2, ys, rfl, rfl, SqL.of eD10, SqL.of eb2, ?_⟩
    refine .inr ⟨_, rfl, c, _, _, V.str (if ys.isEmpty then "made" else "apart"), rfl, rfl, SqL.of (((gf).lst (g9.lst ec (nn _)) (nn _))), by cases ys <;> rfl, ?_⟩
    have hA : AskOk n 9 (2 ^ 139) [] qs := ask_of (D := 1) (N := 0) (big9 (by omega)) (by decide) (fun r hr => absurd hr List.not_mem_nil) lq pq (by decide) (by decide) (Nat.one_lt_two_pow (by decide)) Nat.one_le_two_pow (Nat.lt_of_lt_of_le (show 42 < 2 ^ 6 by decide) (Nat.pow_le_pow_right (by decide) (by decide))) (n0_small (by decide)) (Nat.zero_le _) (by decide +kernel)
    have hdue : DueOk n [] qs (if ys.isEmpty then "made" else "apart") := by
      by_cases hy : ys = []
      · subst hy
        refine .inr (.inl ⟨rfl, made_zero hA fun x hx => ?_⟩)
        have h1 : (qs.filter fun q => decide (q.num ≠ 0)) = [] := List.length_eq_zero_iff.mp lys.symm
        have h2 := List.filter_eq_nil_iff.mp h1 x hx
        exact Rat.num_eq_zero.mp (by simpa using h2)
      · have e : ys.isEmpty = false := by cases ys with | nil => exact absurd rfl hy | cons _ _ => rfl
        rw [e]
        refine .inr (.inr ⟨rfl, ?_⟩)
        have h1 : (qs.filter fun q => decide (q.num ≠ 0)) ≠ [] := fun z => hy (List.length_eq_zero_iff.mp (by rw [lys, z]; rfl))
        obtain ⟨x, hx⟩ := List.exists_mem_of_ne_nil _ h1
        obtain ⟨hx1, hx2⟩ := List.mem_filter.mp hx
        obtain ⟨k, hk, rfl⟩ := List.getElem_of_mem hx1
        refine apart_nil hA (e := k) (by omega) ?_
        rw [List.getD_eq_getElem?_getD, List.getElem?_eq_getElem hk]
        intro z
        have z' : qs[k] = 0 := z
        rw [z'] at hx2
        exact absurd hx2 (by decide)
    have g710 := (gc.trans g9).trans gf
    have t10 := g610.tb t6
    refine ⟨.ref e, .ref o, [], qs, n, 9, 2 ^ 139, _, rfl, .tup (g710.tup ee (nn _)) (nn _) .nil, .tup (g610.tup eo (nn _)) (nn _) (dws.go g610), hA, hdue, t10, fun H11 g11 t11 => ⟨_, rfl, iteF ?_⟩⟩
    have W11 := (W6.go g610).go g11
    clear hdue hA dws da eD9 eD10
    -- wide rows
    refine ⟨_, rfl, a, l, _, 4, rfl, by decide, by decide, by omega, W11, t11, fun i3 H12 i30 i31 W12 g12 t12 => ⟨rfl, _, rfl, ?_⟩⟩
    by_cases h0 : i3 = 0
    · refine if_true_of (decide_eq_true (by rw [h0])) ?_
      refine ⟨_, rfl, [a, l], a, l, _, rfl, by omega, W12, fun b h => h, W12.lists, t12, fun u rows n2 H13 hn40 hn48 hrn hrow hu W13 g13 t13 => ?_⟩
      obtain ⟨R, zs, rfl, eR, nR, dR⟩ := dv_tup hu
      have lzs : zs.length = rows.length := by rw [dR.length, List.length_map]
      refine ⟨_, rfl, R, rfl, ⟨_, SqT.of eR⟩, fun D3 hD3 => ?_⟩
      refine lc_cup (T := T) (M := [a, l]) (c := 1) (n := zs.length) (fun q : Rat => rat q.num (q.den : Int)) (Bd 42 4) walk_tup (fun H' g' => SqT.of (g'.tup eR nR)) (by decide) W13 t13 hD3 (fun b h => h) W13.lists (by rw [sizeLine_eq]; omega) (fun j x H14 H15 Q2 hj y g14 W14 t14 fr hQ => ?_) (fun H14 ws2 qs2 g14 t14 W14 eD14 dw2 lq2 pq2 => ?_)
      · obtain ⟨rfl, _⟩ := y
        refine ⟨rfl, by show 2 ≤ sizeLine; decide, fun z1 hz1 => ⟨by show 2 ≤ sizeLine; decide, fun z2 hz2 => ⟨by show 2 ≤ sizeLine; decide, fun z3 hz3 => ⟨by show 2 ≤ sizeLine; decide, fun z4 hz4 => ⟨2, rfl, by show 2 ≤ sizeLine; decide, fun z5 hz5 => ⟨by show 5 ≤ sizeLine; decide, fun c2 hc2 => ?_⟩⟩⟩⟩⟩⟩
        have u1 := Go.new (T := T) (M := []) (o := .tup [V.int 0, V.int 1]) hz1
        have e1 : upd H15 z1 (.tup [V.int 0, V.int 1]) z1 = some (.tup [V.int 0, V.int 1]) := upd_same
        generalize upd H15 z1 (.tup [V.int 0, V.int 1]) = K1 at *
        have u2 := Go.new (T := T) (M := []) (o := .tup [V.int 0, V.int 1]) hz2
        have e2 : upd K1 z2 (.tup [V.int 0, V.int 1]) z2 = some (.tup [V.int 0, V.int 1]) := upd_same
        have e1 := u2.tup e1 (nn _)
        generalize upd K1 z2 (.tup [V.int 0, V.int 1]) = K2 at *
        have u3 := Go.new (T := T) (M := []) (o := .tup [V.int 0, V.int 1]) hz3
        have e3 : upd K2 z3 (.tup [V.int 0, V.int 1]) z3 = some (.tup [V.int 0, V.int 1]) := upd_same
        have e1 := u3.tup e1 (nn _)
        have e2 := u3.tup e2 (nn _)
        generalize upd K2 z3 (.tup [V.int 0, V.int 1]) = K3 at *
        have u4 := Go.new (T := T) (M := []) (o := .tup [V.int 1, V.int 1]) hz4
        have e4 : upd K3 z4 (.tup [V.int 1, V.int 1]) z4 = some (.tup [V.int 1, V.int 1]) := upd_same
        have e1 := u4.tup e1 (nn _)
        have e2 := u4.tup e2 (nn _)
        have e3 := u4.tup e3 (nn _)
        generalize upd K3 z4 (.tup [V.int 1, V.int 1]) = K4 at *
        have u5 := Go.new (T := T) (M := []) (o := .tup [V.int (-2), V.int 3]) hz5
        have e5 : upd K4 z5 (.tup [V.int (-2), V.int 3]) z5 = some (.tup [V.int (-2), V.int 3]) := upd_same
        have e1 := u5.tup e1 (nn _)
        have e2 := u5.tup e2 (nn _)
        have e3 := u5.tup e3 (nn _)
        have e4 := u5.tup e4 (nn _)
        generalize upd K4 z5 (.tup [V.int (-2), V.int 3]) = K5 at *
        have u6 := Go.new (T := T) (M := []) (o := .lst [.ref z1, .ref z2, .ref z3, .ref z4, .ref z5]) hc2
        have ec2 : upd K5 c2 (.lst [.ref z1, .ref z2, .ref z3, .ref z4, .ref z5]) c2 = some (.lst [.ref z1, .ref z2, .ref z3, .ref z4, .ref z5]) := upd_same
        have e1 := u6.tup e1 (nn _)
        have e2 := u6.tup e2 (nn _)
        have e3 := u6.tup e3 (nn _)
        have e4 := u6.tup e4 (nn _)
        have e5 := u6.tup e5 (nn _)
        generalize upd K5 c2 (.lst [.ref z1, .ref z2, .ref z3, .ref z4, .ref z5]) = K6 at *
        have g02 := u1.trans u2
        have g03 := g02.trans u3
        have g04 := g03.trans u4
        have g05 := g04.trans u5
        have g06 := g05.trans u6
        have n1 := fr z1 hz1
        have n2 := fr z2 (u1.al _ hz2)
        have n3 := fr z3 (g02.al _ hz3)
        have n4 := fr z4 (g03.al _ hz4)
        have n5 := fr z5 (g04.al _ hz5)
        have W15 := W14.go g06
        have t15 := g06.tb t14
        have nc2 := W15.ne (p := c2)
        refine ⟨_, rfl, a, l, _, 5, rfl, by decide, by decide, by omega, W15, t15, fun i6 H16 i60 i61 W16 g16 t16 => ?_⟩
        have G16 := (g06.of0 (M := [a, l])).trans g16
        have nca : c2 ∉ [a, l] := (W14.go g05).ne hc2
        have f1 := g16.tup e1 (fun z => n1 (List.mem_cons_of_mem _ z))
        have f2 := g16.tup e2 (fun z => n2 (List.mem_cons_of_mem _ z))
        have f3 := g16.tup e3 (fun z => n3 (List.mem_cons_of_mem _ z))
        have f4 := g16.tup e4 (fun z => n4 (List.mem_cons_of_mem _ z))
        have f5 := g16.tup e5 (fun z => n5 (List.mem_cons_of_mem _ z))
        have fc := g16.lst ec2 nca
        have b0 : Bd 42 4 (0 : Rat) := ⟨Nat.one_dvd _, Nat.zero_le _⟩
        have b1 : Bd 42 4 (1 : Rat) := ⟨Nat.one_dvd _, by decide⟩
        have b2 : Bd 42 4 (⟨-2, 3, by decide, by decide⟩ : Rat) := ⟨by show 3 ∣ 42; decide, by show 2 ≤ 4; decide⟩
        have : i6 = 0 ∨ i6 = 1 ∨ i6 = 2 ∨ i6 = 3 ∨ i6 = 4 := by omega
        rcases this with rfl | rfl | rfl | rfl | rfl
        · exact ⟨c2, _, 0, _, rfl, rfl, SqL.of fc, rfl, hQ (.ref z1) 0 H16 (.tup f1 n1 (.cons (.int _) (.cons (.int _) .nil))) b0 W16 G16⟩
        · exact ⟨c2, _, 1, _, rfl, rfl, SqL.of fc, rfl, hQ (.ref z2) 0 H16 (.tup f2 n2 (.cons (.int _) (.cons (.int _) .nil))) b0 W16 G16⟩
        · exact ⟨c2, _, 2, _, rfl, rfl, SqL.of fc, rfl, hQ (.ref z3) 0 H16 (.tup f3 n3 (.cons (.int _) (.cons (.int _) .nil))) b0 W16 G16⟩
        · exact ⟨c2, _, 3, _, rfl, rfl, SqL.of fc, rfl, hQ (.ref z4) 1 H16 (.tup f4 n4 (.cons (.int _) (.cons (.int _) .nil))) b1 W16 G16⟩
        · exact ⟨c2, _, 4, _, rfl, rfl, SqL.of fc, rfl, hQ (.ref z5) ⟨-2, 3, by decide, by decide⟩ H16 (.tup f5 n5 (.cons (.int _) (.cons (.int _) .nil))) b2 W16 G16⟩
      rw [← rats_eq] at dw2
      have eR14 := g14.tup eR nR
      have dR14 := dR.go g14
      have dw3 := dw2.less (M' := []) fun b hb => absurd hb List.not_mem_nil
      have hl2 : qs2.length = rows.length := by omega
      refine ⟨_, rfl, by show 0 ≤ sizeLine; decide, fun e1 he1 => ?_⟩
      have gh := Go.new (T := T) (M := []) (o := .tup []) he1
      have ee1 : upd H14 e1 (.tup []) e1 = some (.tup []) := upd_same
      have W15 := W14.go gh
      have t15 := gh.tb t14
      have eR15 := gh.tup eR14 (nn _)
      have dR15 := dR14.go gh.of0
      have eD15 := gh.lst eD14 (nn _)
      have dw15 := dw3.go gh
      generalize upd H14 e1 (.tup []) = H15 at *
      refine ⟨R, e1, zs, rfl, rfl, .inr ⟨SqT.of eR15, SqT.of ee1⟩, _, rfl, ?_⟩
      by_cases hz : zs = []
      · refine if_false_of (by rw [hz]; rfl) (iteF ?_)
        refine ⟨_, rfl, by show 0 ≤ sizeLine; decide, fun e2 he2 => ?_⟩
        have gi := Go.new (T := T) (M := []) (o := .tup []) he2
        refine ⟨R, e2, zs, rfl, rfl, .inr ⟨SqT.of (gi.tup eR15 (nn _)), SqT.of upd_same⟩, _, rfl, ?_⟩
        refine if_false_of (by rw [hz]; rfl) (iteF ?_)
        exact q _
      · have hne : (!zs.isEmpty) = true := by cases zs with | nil => exact absurd rfl hz | cons _ _ => rfl
        have hp : 0 < zs.length := List.length_pos_iff.mpr hz
        refine if_true_of hne ?_
        have at0 : ∀ {M : List Addr} {H' : Hp}, DvAll M H' zs (rows.map rowQ) → ∃ (p0 : Addr) (xs0 : List V), zs[0]? = some (.ref p0) ∧ H' p0 = some (.tup xs0) ∧ p0 ∉ M ∧ xs0.length = n2 := fun d => by
          obtain ⟨d0, ed0, hx0⟩ := d.get (List.getElem?_eq_getElem hp)
          rw [List.getElem?_map, List.getElem?_eq_getElem (by omega)] at ed0
          cases ed0
          obtain ⟨p0, xs0, e0, ep0, np0, dx0⟩ := dv_tup hx0
          refine ⟨p0, xs0, by rw [List.getElem?_eq_getElem hp, e0], ep0, np0, ?_⟩
          rw [dx0.length]
          show (rats _).length = _
          rw [rats_eq, List.length_map]
          exact (hrow _ (List.getElem_mem _)).1
        obtain ⟨p0, xs0, ez0, ep0, np0, lx0⟩ := at0 dR15
        have hv6 : Dv [] H15 (.ref R) (.tuple (rows.map rowQ)) := .tup eR15 (nn _) (dR15.less fun b hb => absurd hb List.not_mem_nil)
        have hpw : (42 : Nat) * 42 < 2 ^ 18000 := Nat.lt_of_lt_of_le (show 42 * 42 < 2 ^ 11 by decide) (Nat.pow_le_pow_right (by decide) (by decide))
        have h4 : ∀ {k : Nat}, 3 ≤ k → 4 < 2 ^ k := fun h => Nat.lt_of_lt_of_le (show 4 < 2 ^ 3 by decide) (Nat.pow_le_pow_right (by decide) h)
        have h42 : ∀ {k : Nat}, 6 ≤ k → 42 < 2 ^ k := fun h => Nat.lt_of_lt_of_le (show 42 < 2 ^ 6 by decide) (Nat.pow_le_pow_right (by decide) h)
        refine ⟨_, rfl, _, rfl, _, rfl, _, rfl, R, zs, 0, .ref p0, rfl, rfl, SqT.of eR15, atI_nat (j := 0) ez0, p0, xs0, rfl, .inr (SqT.of ep0), [], [], [], .ref D3, .ref R, qs2, rows, n2, 42, 4, 42, 4, congrArg (fun z : Nat => [V.ref D3, V.ref R, V.int (z : Int)]) lx0, .inr (.lst eD15 (nn _) dw15), .inl hv6, hl2, by omega, hn48, fun r hr' => (hrow r hr').1, fun x hx => (pq2 x hx).bl (by decide), fun r hr' x hx => ((hrow r hr').2 x hx).bl (by decide), by decide, by decide, hpw, h4 (by decide), h4 (by decide), fun b hb => absurd hb List.not_mem_nil, t15, fun u2 H16 g16 t16 hu16 => ?_⟩
        have cb := comb_bd (by decide) (by decide) hl2 pq2 (fun r hr' => (hrow r hr').1) (fun r hr' => (hrow r hr').2)
        have hc48 : qs2.length * (4 * 42 * (4 * 42)) ≤ 48 * (4 * 42 * (4 * 42)) := Nat.mul_le_mul_right _ (by omega)
        have hA : AskOk n2 49 (2 ^ 32) rows (combQ qs2 rows n2) := ask_of (big49 hn48) (by omega) hrow (by unfold combQ; rw [List.length_map, List.length_range]) cb (by decide) (by decide) (h42 (by decide)) (h4 (by decide)) (Nat.lt_of_lt_of_le (show 42 * 42 < 2 ^ 11 by decide) (Nat.pow_le_pow_right (by decide) (by decide))) (Nat.lt_of_le_of_lt hc48 (Nat.lt_of_lt_of_le (show 48 * (4 * 42 * (4 * 42)) < 2 ^ 30 by decide) (Nat.pow_le_pow_right (by decide) (by decide)))) (by decide) (Nat.le_trans (Nat.mul_le_mul_right _ hc48) (by decide))
        refine ⟨.ref R, u2, rows, combQ qs2 rows n2, n2, 49, 2 ^ 32, _, rfl, hv6.go g16, hu16, hA, .inr (.inl ⟨rfl, made_comb hA hl2⟩), t16, fun H17 g17 t17 => ⟨_, rfl, iteF ?_⟩⟩
        clear hA cb hu16
        have g1517 := g16.trans g17
        refine ⟨_, rfl, by show 0 ≤ sizeLine; decide, fun e2 he2 => ?_⟩
        have gi := Go.new (T := T) (M := []) (o := .tup []) he2
        have ee2 : upd H17 e2 (.tup []) e2 = some (.tup []) := upd_same
        have g1518 := g1517.trans gi
        have t18 := gi.tb t17
        generalize upd H17 e2 (.tup []) = H18 at *
        have W18 := W15.go g1518
        have eR18 := g1518.tup eR15 (nn _)
        refine ⟨R, e2, zs, rfl, rfl, .inr ⟨SqT.of eR18, SqT.of ee2⟩, _, rfl, ?_⟩
        refine if_true_of hne ?_
        have ep18 := g1518.tup ep0 (nn _)
        refine ⟨_, rfl, _, rfl, R, zs, 0, .ref p0, rfl, rfl, SqT.of eR18, atI_nat (j := 0) ez0, p0, rfl, ⟨_, SqT.of ep18⟩, fun D4 hD4 => ?_⟩
        refine lc_cup (T := T) (M := [a, l]) (c := 1) (n := xs0.length) (fun q : Rat => rat q.num (q.den : Int)) (Bd 42 4) walk_tup (fun H' g' => SqT.of (g'.tup ep18 np0)) (by decide) W18 t18 hD4 (fun b h => h) W18.lists (by rw [sizeLine_eq]; omega) (fun j x H19 H20 Q2 hj y g19 W19 t19 fr hQ => ?_) (fun H19 ws3 qs3 g19 t19 W19 eD19 dw19 lq3 pq3 => ?_)
        · obtain ⟨rfl, _⟩ := y
          refine ⟨rfl, _, rfl, a, l, _, 2, rfl, by decide, by decide, by omega, W19, t19, fun j3 H21 j30 j31 W21 g21 t21 => ⟨by show 2 ≤ sizeLine; decide, fun r hr' => ?_⟩⟩
          have gr := Go.new (T := T) (M := []) (o := .tup [.int j3, .int 1]) hr'
          exact hQ _ ((j3 : Int) : Rat) _ (int_dv j3 (fr r (g21.al _ hr'))) ((int_bd (N := 4) (by omega)).up (Nat.one_dvd _) (Nat.le_refl _)) (W21.go gr) (g21.trans gr.of0)
        rw [← rats_eq] at dw19
        refine .inl ⟨D4, ws3, rfl, SqL.of eD19, fun o3 ho3 => ?_⟩
        have gj := Go.new (T := T) (M := []) (o := .tup ws3) ho3
        have hv7 : Dv [] (upd H19 o3 (.tup ws3)) (.ref R) (.tuple (rows.map rowQ)) := .tup (gj.tup (g19.tup eR18 nR) (nn _)) (nn _) ((((dR15.go g1518.of0).go g19).less fun b hb => absurd hb List.not_mem_nil).go gj)
        have hA2 : AskOk n2 49 (2 ^ 32) rows qs3 := ask_of (big49 hn48) (by omega) hrow (by omega) pq3 (by decide) (by decide) (h42 (by decide)) (h4 (by decide)) (h42 (by decide)) (h4 (by decide)) (by decide) (by decide)
        refine ⟨.ref R, .ref o3, rows, qs3, n2, 49, 2 ^ 32, _, rfl, hv7, .tup upd_same (nn _) ((dw19.less fun b hb => absurd hb List.not_mem_nil).go gj), hA2, .inl rfl, gj.tb t19, fun H22 g22 t22 => ⟨_, rfl, iteF ?_⟩⟩
        exact q _
    · refine if_false_of (decide_eq_false fun e => h0 (by injection e)) ?_
      exact q _
end
end KN
set_option Elab.async false
set_option linter.all false
set_option maxRecDepth 100000
set_option maxHeartbeats 2000000
/-! own words, 47: the end for laws whose program divides great integers (no seer at the base); methods and makers of a class that the top has written -/
namespace SL
open PySem PySem.Spec PyProof.Rows L2 GxR NdefX GA
section
variable {P : Program} {w : World} {K : PySem.W.Frag} {mg mb : Str → Option Value} {cs : List (Addr × Addr)} {s : Shared} {a b : Addr} {us : List Value} {ns : List Int} {o : Obj} {u : HO}
theorem Stand.noSeer (S : Stand K mg mb cs s a us ns) (h : s.heap.NoSeer) : (hidT s.heap (trk0 K cs a us ns)).NoSeer := by
  obtain ⟨mc, c1, c2, c3⟩ := h.statics
  obtain ⟨mm, m1, m2⟩ := h.mods
  obtain ⟨m, ob, b1, _, b3, b4, b5, b6⟩ := S.bm
  exact ⟨⟨mc, S.named c1, c2, c3⟩, ⟨mm, S.named m1, m2⟩, ⟨mb, S.named S.blt, S.boot⟩, ⟨mg, m, ob, S.named S.glo, b1, S.base b3 (fun _ _ z => by rw [b6] at z; cases z) (fun z => by rw [b6] at z; cases z), b4, b5⟩⟩
/-- the call gives True -/
theorem Stand.runN (S : Stand K mg mb cs s a us ns) (hns : s.heap.NoSeer) {k : Nat} {fa : Addr} {fd : FuncData} {x : Str} {sp : Sp} (hr : Room k callerA) (F : ∀ base : Heap, K.In base → base.Ns mainGlobals mg → base.NoSeer → (∀ p ∈ cs, GxR.TabB base mg p.1 p.2) → FnG P w K mg base k fa fd [x] sp)
    (hb : ∀ (t : Shared) (v : Value), BindsTo t fd ⟨[v], []⟩ [(x, v)]) (hsp : ∀ H : Hp, (∀ p ∈ cs, H p.2 = some (.tbl #[])) → SqL K H a (ns.map V.int) → sp [.ref a] H (fun v _ => v = .bl true) E0) :
    codeAny (model P w) callerA (.call (.ref fa) ⟨[.ref a], []⟩) (fun r s' => r = .ok (.ret (.bool true)) ∧ OldK s.heap s'.heap ∧ s'.os = s.os ∧ AllBare s'.gens) s := by
  have G := F _ S.kinB (S.named S.glo) (S.noSeer hns) fun p hp => S.tabB hp
  have go := G.run callerA [] s (trk0 K cs a us ns) ⟨[.ref a], []⟩ [.ref a] [.ref a] _ rfl hr S.env (hb s (.ref a)) (.cons rfl .nil) (hsp _ (fun _ hp => trk0_tab hp) S.sq)
  refine codeAny_mono go ?_
  rintro (err | fl) s' h
  · exact False.elim h
  · rcases fl with _ | _ | _ | v
    · exact False.elim h
    · exact False.elim h
    · exact False.elim h
    · obtain ⟨y, H', os, bare, un, ok, rel, rfl⟩ := h
      cases rel
      exact ⟨rfl, S.old un ok, os, bare⟩
end
/-- the law's row, once its def is shown to give True -/
theorem walkGN {l : PySem.W.OpenLaw} {n k : Nat} {q : Program} {loose : List Str} {XP : (Str → Option Value) → Heap → Prop} {YP : World → Heap → Prop} {d : DefRec} {K : Params → PySem.W.Frag} {x : Str}
    (hn : l.most = some n) (hn2 : n ≤ sizeLine) (hdf : d.params.defaults = []) (hq : importsNone q = true) (hr : Room k callerA) (hY : ∀ (w : World) (h : Heap), YP w h → (K w.params).In h)
    (F : ∀ (w : World) (mg : Str → Option Value) (fa : Addr) (h : Heap), (K w.params).In h → h.Ns mainGlobals mg → mg d.name = some (.ref fa) →
      (∀ (e : DefRec) (y : Str) (c Q : Addr), (recsOf q).find? (fun r => r.name == y) = some e → PySem.W.tabIn (K w.params) y = some (c, Q) → PySem.W.CodeHd h c Q ∧ h.get? Q = some tblO) →
      ∃ (fd : FuncData) (cs : List (Addr × Addr)) (sp : Sp), (∀ p ∈ cs, h.get? p.2 = some tblO ∧ (K w.params).lookup p.2 = none ∧ PySem.W.CodeHd h p.1 p.2) ∧ (∀ (t : Shared) (v : Value), BindsTo t fd ⟨[v], []⟩ [(x, v)]) ∧
        (∀ (H : Hp) (a : Addr) (ns : List Int), ns.length ≤ n → (∀ p ∈ cs, H p.2 = some (.tbl #[])) → SqL (K w.params) H a (ns.map V.int) → sp [.ref a] H (fun v _ => v = .bl true) E0) ∧
        ∀ base : Heap, (K w.params).In base → base.Ns mainGlobals mg → base.NoSeer → (∀ p ∈ cs, GxR.TabB base mg p.1 p.2) → FnG l.prog w (K w.params) mg base k fa fd [x] sp) :
    PySem.W.WalkO q loose XP YP l.row.toRowW d [] (fun f vs => PySem.call f vs) := by
  refine Att.attach_callB hn hdf fun w s₀ s₁ mg mb fa o pm cd doc a us ns G Y _ _ _ hmg hobj hints hlen _ hg => ?_
  have KX := hY w _ Y
  obtain ⟨fd, cs, sp, ht, hb, hsp, hF⟩ := F w mg fa _ KX G.T.g hmg fun e y c Q h1 h2 => PySem.W.tab_of G.T KX h1 h2
  obtain ⟨mm, hmm, _⟩ := (G.T.seer hq).mods
  have S : Stand (K w.params) mg mb cs s₁ a us ns := ⟨KX, G.T.g, G.T.b, G.T.builtins, G.T.nolimit, hg, fun p hp => (ht p hp).1, fun p hp => (ht p hp).2.1, fun p hp => (ht p hp).2.2, G.T.bmain, hobj, ⟨mm, hmm⟩, hints, Nat.le_trans hlen hn2⟩
  exact S.runN (G.T.seer hq) hr hF hb fun H h1 h2 => hsp H a ns hlen h1 h2
/-- a method of the class at C, in the top's text -/
def IsMeth (K : PySem.W.Frag) (C : Addr) (m qual : Str) (st : Stmt) : Prop := ∃ (f : Addr) (fd : FuncData), PySem.W.findIn K (.ref C) m = some (some (.ref f)) ∧ PySem.W.isFn K (.ref f) = true ∧ PySem.W.keepIn K (.ref f) = true ∧ Fun K m qual st f fd
theorem isMeth {K : PySem.W.Frag} {C : Addr} {m qual : Str} {st : Stmt} {f : Addr} {oc kV dc pm cdv ct : Value} {od an : Option Addr} {sl : Array (Option Value)} (a : PySem.W.findIn K (.ref C) m = some (some (.ref f))) (i : PySem.W.isFn K (.ref f) = true)
    (l : K.lookup f = some ⟨oc, od, .func (PySem.W.fnOf m qual (defArgs st) (defBody st) (defScope st) .none kV dc pm an cdv ct), sl⟩) (h : PySem.W.codeIn K cdv qual = true) (k : PySem.W.keepIn K (.ref f) = true) : IsMeth K C m qual st :=
  ⟨f, _, a, i, k, fun_mk l h k⟩
theorem FnOk.up {P : Program} {w : World} {K : PySem.W.Frag} {mg : Str → Option Value} {base : Heap} {CX : CXT} {k j : Nat} {f : Addr} {fd : FuncData} {ps : List Str} {sp : Sp} (h : FnOk P w K mg base CX k f fd ps sp) (hk : k ≤ j) : FnOk P w K mg base CX j f fd ps sp :=
  ⟨h.len, fun A outer s H args us vs Q E hr => h.run A outer s H args us vs Q E (hr.mono hk)⟩
end SL
set_option Elab.async false
set_option linter.all false
set_option maxRecDepth 100000
set_option maxHeartbeats 2000000
namespace KN
open PySem PySem.Spec PyProof.Rows L2 GxR NdefX GA SL RZ
/-- what the top has written, as far as the proof asks it -/
structure Top0 (K : PySem.W.Frag) (CV CM CU CS : Addr) : Prop where
  blt : ∀ x ∈ (["isinstance", "len", "all", "any", "set", "range", "tuple", "list", "int", "str", "bool", "repr", "zip", "abs", "enumerate", "dict"] : List Str), PySem.W.nsIn K mainGlobals x = some none
  entries : ∃ t, PySem.W.nsIn K mainGlobals "MOST_ENTRIES" = some (some (.int 48 t))
  gV : PySem.W.nsIn K mainGlobals "BadVector" = some (some (.ref CV))
  xV : PySem.W.excIn K CV [.type "ValueError", .type "Exception", .type "BaseException", .type "object"] "ValueError.__new__" = true
  kV : PySem.W.keepIn K (.ref CV) = true
  bV : PySem.W.subIn K (.ref CV) (.type "BaseException") = some true
  tV : PySem.W.typeIn K (.ref CV) = some (.type "type")
  gM : PySem.W.nsIn K mainGlobals "BadMatrix" = some (some (.ref CM))
  xM : PySem.W.excIn K CM [.type "ValueError", .type "Exception", .type "BaseException", .type "object"] "ValueError.__new__" = true
  kM : PySem.W.keepIn K (.ref CM) = true
  bM : PySem.W.subIn K (.ref CM) (.type "BaseException") = some true
  tM : PySem.W.typeIn K (.ref CM) = some (.type "type")
  gU : PySem.W.nsIn K mainGlobals "Unlike" = some (some (.ref CU))
  xU : PySem.W.excIn K CU [.type "ValueError", .type "Exception", .type "BaseException", .type "object"] "ValueError.__new__" = true
  kU : PySem.W.keepIn K (.ref CU) = true
  bU : PySem.W.subIn K (.ref CU) (.type "BaseException") = some true
  tU : PySem.W.typeIn K (.ref CU) = some (.type "type")
  gcdB : PySem.W.nsIn K mainGlobals "gcd" = some (some (.builtin "math.gcd"))
  lcmB : PySem.W.nsIn K mainGlobals "lcm" = some (some (.builtin "math.lcm"))
  gS : PySem.W.nsIn K mainGlobals "Span" = some (some (.ref CS))
  pgS : PySem.W.plainGet K CS Str.empty = true
  hdS : PySem.W.hasDictIn K CS = true
  poS : PySem.W.plainOver K CS = true
  saS : PySem.W.findIn K (.ref CS) "__setattr__" = some (some (.builtin "object.__setattr__"))
  mkS : PySem.W.makesIn K CS = true
  kcS : PySem.W.keepIn K (.ref CS) = true
  nS0 : PySem.W.findIn K (.ref CS) "width" = some none
  nS1 : PySem.W.findIn K (.ref CS) "pivots" = some none
  nS2 : PySem.W.findIn K (.ref CS) "rows" = some none
  nS3 : PySem.W.findIn K (.ref CS) "bottoms" = some none
  d_in : IsDef K "is_integer" s_is_integer
  d_tp : IsDef K "is_tuple" s_is_tuple
  d_ra : IsDef K "is_ratio" s_is_ratio
  d_ro : IsDef K "ratio_of" s_ratio_of
  d_sc : IsDef K "scaled" s_scaled
  d_iv : IsDefT K "is_vector" s_is_vector
  d_im : IsDefT K "is_matrix" s_is_matrix
  d_dm : IsDef K "demand_matrix" s_demand_matrix
  d_wd : IsDef K "without_divisor" s_without_divisor
  d_wp : IsDef K "_without_pivot" s_without_pivot
  d_mi : IsMeth K CS "__init__" "Span.__init__" s_init
  d_mf : IsMeth K CS "is_full" "Span.is_full" s_full
  d_mg : IsMeth K CS "_first_place" "Span._first_place" s_first
  d_mr : IsMeth K CS "_rest" "Span._rest" s_rest
  d_ms : IsMeth K CS "put_scaled" "Span.put_scaled" s_put_scaled
  d_mp : IsMeth K CS "put" "Span.put" s_put
  d_mo : IsMeth K CS "weights_of_scaled" "Span.weights_of_scaled" s_weights_of
  d_mw : IsMeth K CS "weights" "Span.weights" s_weights
  d_mm : IsMeth K CS "marks" "Span.marks" s_marks
  d_mk : IsDef K "made_of" s_made_of
  d_lc : IsDef K "_law_cup" s_law_cup
  d_ls : IsDef K "_law_sip" s_law_sip
  d_lw : IsDef K "_law_is_whole" s_law_is_whole
  d_lr : IsDef K "_law_ratio" s_law_ratio
  d_li : IsDef K "_law_is_ratio" s_law_is_ratio
  d_lv : IsDef K "_law_is_vector" s_law_is_vector
  d_lt : IsDef K "_law_total" s_law_total
  d_lq : IsDef K "_law_equals" s_law_equals
  d_le : IsDef K "_law_entry" s_law_entry
  d_lb : IsDef K "_law_combine" s_law_combine
  d_lx : IsDef K "_law_wide" s_law_wide
  d_lm : IsDef K "_law_same" s_law_same
  d_ly : IsDef K "_law_rows" s_law_rows
  d_lk : IsDef K "_law_marked" s_law_marked
  d_lj : IsDef K "_law_right" s_law_right
  d_la : IsDef K "_law_asked" s_law_asked
  d_ld : IsDef K "_law_dense_right" s_law_dense
  d_lo : IsDefC K "law" s_law
theorem all_mk {P : Program} {w : World} {K : PySem.W.Frag} {h : Heap} {mg : Str → Option Value} {fa CV CM CU CS : Addr} (X : K.In h) (G : h.Ns mainGlobals mg) (hfa : mg "law" = some (.ref fa)) (hT : P.given.tree = none) (Z : Top0 K CV CM CU CS)
    (tb : ∀ x ∈ (["is_vector", "is_matrix"] : List Str), ∀ c Q : Addr, PySem.W.tabIn K x = some (c, Q) → PySem.W.CodeHd h c Q ∧ h.get? Q = some tblO) :
    ∃ (fd : FuncData) (cs : List (Addr × Addr)) (sp : Sp), (∀ p ∈ cs, h.get? p.2 = some tblO ∧ K.lookup p.2 = none ∧ PySem.W.CodeHd h p.1 p.2) ∧ (∀ (t : Shared) (v : Value), BindsTo t fd ⟨[v], []⟩ [("script", v)]) ∧
      (∀ (H : Hp) (a : Addr) (ns : List Int), ns.length ≤ 63 → (∀ p ∈ cs, H p.2 = some (.tbl #[])) → SqL K H a (ns.map V.int) → sp [.ref a] H (fun v _ => v = .bl true) E0) ∧
      ∀ base : Heap, K.In base → base.Ns mainGlobals mg → base.NoSeer → (∀ p ∈ cs, GxR.TabB base mg p.1 p.2) → FnG P w K mg base 40 fa fd ["script"] sp := by
  obtain ⟨f_in, g_in, a_in, F_in⟩ := Z.d_in
  obtain ⟨f_tp, g_tp, a_tp, F_tp⟩ := Z.d_tp
  obtain ⟨f_ra, g_ra, a_ra, F_ra⟩ := Z.d_ra
  obtain ⟨f_ro, g_ro, a_ro, F_ro⟩ := Z.d_ro
  obtain ⟨f_sc, g_sc, a_sc, F_sc⟩ := Z.d_sc
  obtain ⟨f_iv, c_iv, q_iv, g_iv, a_iv, F_iv, i_iv, n_iv⟩ := Z.d_iv
  have h_iv := tb "is_vector" (by simp) _ _ i_iv
  obtain ⟨f_im, c_im, q_im, g_im, a_im, F_im, i_im, n_im⟩ := Z.d_im
  have h_im := tb "is_matrix" (by simp) _ _ i_im
  obtain ⟨f_dm, g_dm, a_dm, F_dm⟩ := Z.d_dm
  obtain ⟨f_wd, g_wd, a_wd, F_wd⟩ := Z.d_wd
  obtain ⟨f_wp, g_wp, a_wp, F_wp⟩ := Z.d_wp
  obtain ⟨f_mi, g_mi, m1_mi, m2_mi, m3_mi, F_mi⟩ := Z.d_mi
  obtain ⟨f_mf, g_mf, m1_mf, m2_mf, m3_mf, F_mf⟩ := Z.d_mf
  obtain ⟨f_mg, g_mg, m1_mg, m2_mg, m3_mg, F_mg⟩ := Z.d_mg
  obtain ⟨f_mr, g_mr, m1_mr, m2_mr, m3_mr, F_mr⟩ := Z.d_mr
  obtain ⟨f_ms, g_ms, m1_ms, m2_ms, m3_ms, F_ms⟩ := Z.d_ms
  obtain ⟨f_mp, g_mp, m1_mp, m2_mp, m3_mp, F_mp⟩ := Z.d_mp
  obtain ⟨f_mo, g_mo, m1_mo, m2_mo, m3_mo, F_mo⟩ := Z.d_mo
  obtain ⟨f_mw, g_mw, m1_mw, m2_mw, m3_mw, F_mw⟩ := Z.d_mw
  obtain ⟨f_mm, g_mm, m1_mm, m2_mm, m3_mm, F_mm⟩ := Z.d_mm
  obtain ⟨f_mk, g_mk, a_mk, F_mk⟩ := Z.d_mk
  obtain ⟨f_lc, g_lc, a_lc, F_lc⟩ := Z.d_lc
  obtain ⟨f_ls, g_ls, a_ls, F_ls⟩ := Z.d_ls
  obtain ⟨f_lw, g_lw, a_lw, F_lw⟩ := Z.d_lw
  obtain ⟨f_lr, g_lr, a_lr, F_lr⟩ := Z.d_lr
  obtain ⟨f_li, g_li, a_li, F_li⟩ := Z.d_li
  obtain ⟨f_lv, g_lv, a_lv, F_lv⟩ := Z.d_lv
  obtain ⟨f_lt, g_lt, a_lt, F_lt⟩ := Z.d_lt
  obtain ⟨f_lq, g_lq, a_lq, F_lq⟩ := Z.d_lq
  obtain ⟨f_le, g_le, a_le, F_le⟩ := Z.d_le
  obtain ⟨f_lb, g_lb, a_lb, F_lb⟩ := Z.d_lb
  obtain ⟨f_lx, g_lx, a_lx, F_lx⟩ := Z.d_lx
  obtain ⟨f_lm, g_lm, a_lm, F_lm⟩ := Z.d_lm
  obtain ⟨f_ly, g_ly, a_ly, F_ly⟩ := Z.d_ly
  obtain ⟨f_lk, g_lk, a_lk, F_lk⟩ := Z.d_lk
  obtain ⟨f_lj, g_lj, a_lj, F_lj⟩ := Z.d_lj
  obtain ⟨f_la, g_la, a_la, F_la⟩ := Z.d_la
  obtain ⟨f_ld, g_ld, a_ld, F_ld⟩ := Z.d_ld
  obtain ⟨f_lo, c_lo, g_lo, a_lo, F_lo⟩ := Z.d_lo
  have e := hfa.symm.trans (PySem.W.mg_of X G a_lo)
  cases e
  have no : ∀ x ∈ (["isinstance", "len", "all", "any", "set", "range", "tuple", "list", "int", "str", "bool", "repr", "zip", "abs", "enumerate", "dict"] : List Str), mg x = none := fun x hx => PySem.W.mg_none_of X G (Z.blt x hx)
  have B : Bl mg := ⟨no "isinstance" (by simp), no "len" (by simp), no "all" (by simp), no "any" (by simp), no "set" (by simp), no "range" (by simp), no "tuple" (by simp), no "list" (by simp), no "int" (by simp), no "str" (by simp), no "bool" (by simp), no "repr" (by simp)⟩
  have int1 : ∀ {x : Str} {i : Int}, (∃ t, PySem.W.nsIn K mainGlobals x = some (some (.int i t))) → ∃ t, mg x = some (.int i t) := fun ⟨t, ht⟩ => ⟨t, PySem.W.mg_of X G ht⟩
  have C : Cn mg := ⟨PySem.W.mg_of X G Z.gcdB, PySem.W.mg_of X G Z.lcmB, int1 Z.entries⟩
  have SC : SpC K CS := ⟨⟨Z.pgS, Z.hdS, Z.poS, Z.saS⟩, Z.nS0, Z.nS1, Z.nS2, Z.nS3⟩
  have XV : Xc K mg "BadVector" CV := ⟨PySem.W.mg_of X G Z.gV, Z.xV, Z.kV, Z.bV, Z.tV⟩
  have XM : Xc K mg "BadMatrix" CM := ⟨PySem.W.mg_of X G Z.gM, Z.xM, Z.kM, Z.bM, Z.tM⟩
  have XU : Xc K mg "Unlike" CU := ⟨PySem.W.mg_of X G Z.gU, Z.xU, Z.kU, Z.bU, Z.tU⟩
  have b_in : Binds K g_in ["thing"] [] := (F_in).binds fun _ _ _ _ _ _ us hl => match us, hl with | [_], _ => rfl
  have b_tp : Binds K g_tp ["thing", "least", "most"] [] := (F_tp).binds fun _ _ _ _ _ _ us hl => match us, hl with | [_, _, _], _ => rfl
  have b_ra : Binds K g_ra ["thing"] [] := (F_ra).binds fun _ _ _ _ _ _ us hl => match us, hl with | [_], _ => rfl
  have b_ro : Binds K g_ro ["top", "bottom"] [] := (F_ro).binds fun _ _ _ _ _ _ us hl => match us, hl with | [_, _], _ => rfl
  have b_sc : Binds K g_sc ["ratios"] [] := (F_sc).binds fun _ _ _ _ _ _ us hl => match us, hl with | [_], _ => rfl
  have b_iv : Binds K g_iv ["thing"] [] := (F_iv.fn).binds fun _ _ _ _ _ _ us hl => match us, hl with | [_], _ => rfl
  have b_im : Binds K g_im ["thing"] [] := (F_im.fn).binds fun _ _ _ _ _ _ us hl => match us, hl with | [_], _ => rfl
  have b_dm : Binds K g_dm ["rows"] [] := (F_dm).binds fun _ _ _ _ _ _ us hl => match us, hl with | [_], _ => rfl
  have b_wd : Binds K g_wd ["entries"] [] := (F_wd).binds fun _ _ _ _ _ _ us hl => match us, hl with | [_], _ => rfl
  have b_wp : Binds K g_wp ["row", "fresh", "pivot"] [] := (F_wp).binds fun _ _ _ _ _ _ us hl => match us, hl with | [_, _, _], _ => rfl
  have b_mi : Binds K g_mi ["self", "width"] [] := (F_mi).binds fun _ _ _ _ _ _ us hl => match us, hl with | [_, _], _ => rfl
  have b_mf : Binds K g_mf ["self"] [] := (F_mf).binds fun _ _ _ _ _ _ us hl => match us, hl with | [_], _ => rfl
  have b_mg : Binds K g_mg ["self", "entries"] [] := (F_mg).binds fun _ _ _ _ _ _ us hl => match us, hl with | [_, _], _ => rfl
  have b_mr : Binds K g_mr ["self", "tops"] [] := (F_mr).binds fun _ _ _ _ _ _ us hl => match us, hl with | [_, _], _ => rfl
  have b_ms : Binds K g_ms ["self", "tops", "bottom"] [] := (F_ms).binds fun _ _ _ _ _ _ us hl => match us, hl with | [_, _, _], _ => rfl
  have b_mp : Binds K g_mp ["self", "vector"] [] := (F_mp).binds fun _ _ _ _ _ _ us hl => match us, hl with | [_, _], _ => rfl
  have b_mo : Binds K g_mo ["self", "tops", "bottom"] [] := (F_mo).binds fun _ _ _ _ _ _ us hl => match us, hl with | [_, _, _], _ => rfl
  have b_mw : Binds K g_mw ["self", "vector"] [] := (F_mw).binds fun _ _ _ _ _ _ us hl => match us, hl with | [_, _], _ => rfl
  have b_mm : Binds K g_mm ["self", "vector"] [] := (F_mm).binds fun _ _ _ _ _ _ us hl => match us, hl with | [_, _], _ => rfl
  have b_mk : Binds K g_mk ["rows", "target"] [] := (F_mk).binds fun _ _ _ _ _ _ us hl => match us, hl with | [_, _], _ => rfl
  have b_lc : Binds K g_lc ["script"] [] := (F_lc).binds fun _ _ _ _ _ _ us hl => match us, hl with | [_], _ => rfl
  have b_ls : Binds K g_ls ["cup", "many"] [] := (F_ls).binds fun _ _ _ _ _ _ us hl => match us, hl with | [_, _], _ => rfl
  have b_lw : Binds K g_lw ["found"] [] := (F_lw).binds fun _ _ _ _ _ _ us hl => match us, hl with | [_], _ => rfl
  have b_lr : Binds K g_lr ["top", "bottom"] [] := (F_lr).binds fun _ _ _ _ _ _ us hl => match us, hl with | [_, _], _ => rfl
  have b_li : Binds K g_li ["found"] [] := (F_li).binds fun _ _ _ _ _ _ us hl => match us, hl with | [_], _ => rfl
  have b_lv : Binds K g_lv ["found", "size"] [] := (F_lv).binds fun _ _ _ _ _ _ us hl => match us, hl with | [_, _], _ => rfl
  have b_lt : Binds K g_lt ["ones", "others"] [] := (F_lt).binds fun _ _ _ _ _ _ us hl => match us, hl with | [_, _], _ => rfl
  have b_lq : Binds K g_lq ["total", "ratio"] [] := (F_lq).binds fun _ _ _ _ _ _ us hl => match us, hl with | [_, _], _ => rfl
  have b_le : Binds K g_le ["cup", "great"] [] := (F_le).binds fun _ _ _ _ _ _ us hl => match us, hl with | [_, _], _ => rfl
  have b_lb : Binds K g_lb ["weights", "rows", "size"] [] := (F_lb).binds fun _ _ _ _ _ _ us hl => match us, hl with | [_, _, _], _ => rfl
  have b_lx : Binds K g_lx ["cup"] [] := (F_lx).binds fun _ _ _ _ _ _ us hl => match us, hl with | [_], _ => rfl
  have b_lm : Binds K g_lm ["found", "due"] [] := (F_lm).binds fun _ _ _ _ _ _ us hl => match us, hl with | [_, _], _ => rfl
  have b_ly : Binds K g_ly ["cup", "many", "size", "great"] [] := (F_ly).binds fun _ _ _ _ _ _ us hl => match us, hl with | [_, _, _, _], _ => rfl
  have b_lk : Binds K g_lk ["cup", "rows", "size"] [] := (F_lk).binds fun _ _ _ _ _ _ us hl => match us, hl with | [_, _, _], _ => rfl
  have b_lj : Binds K g_lj ["found", "rows", "target"] [] := (F_lj).binds fun _ _ _ _ _ _ us hl => match us, hl with | [_, _, _], _ => rfl
  have b_la : Binds K g_la ["rows", "target", "due"] [] := (F_la).binds fun _ _ _ _ _ _ us hl => match us, hl with | [_, _, _], _ => rfl
  have b_ld : Binds K g_ld ["cup"] [] := (F_ld).binds fun _ _ _ _ _ _ us hl => match us, hl with | [_], _ => rfl
  have b_lo : Binds K g_lo ["script"] [] := (F_lo.fn).binds fun _ _ _ _ _ _ us hl => match us, hl with | [_], _ => rfl
  refine ⟨g_lo, [(c_iv, q_iv), (c_im, q_im)], sp_law K [q_iv, q_im], fun p hp => ?_, fun t v => ?_, fun H a ns hl ht hS => ?_, fun base _ _ hN TB => ?_⟩
  · simp only [List.mem_cons, List.not_mem_nil, or_false] at hp
    rcases hp with rfl | rfl
    · exact ⟨h_iv.2, n_iv, h_iv.1⟩
    · exact ⟨h_im.2, n_im, h_im.1⟩
  · obtain ⟨_, _, _, _, _, _, _, _, rfl, _, _⟩ := F_lo.ex
    exact .of_eq rfl
  · refine ⟨a, ns, rfl, hS, hl, fun Q hQ => ?_, fun _ => rfl⟩
    have e : H Q = some (.tbl #[]) := by
      simp only [List.mem_cons, List.not_mem_nil, or_false] at hQ
      rcases hQ with rfl | rfl
      · exact ht (c_iv, _) (by simp)
      · exact ht (c_im, _) (by simp)
    exact ⟨#[], e, True.intro⟩
  have tiv : GxR.TabB base mg c_iv q_iv := TB (c_iv, q_iv) (by simp)
  have tim : GxR.TabB base mg c_im q_im := TB (c_im, q_im) (by simp)
  have O_in : FnOk P w K mg base CX0 1 f_in g_in ["thing"] sp_is_integer := ok_is_integer F_in B
  have N_in : Fnn P w K mg base CX0 1 "is_integer" ["thing"] sp_is_integer := ⟨f_in, g_in, O_in, PySem.W.mg_of X G a_in, F_in.kp, b_in⟩
  have O_tp : FnOk P w K mg base CX0 1 f_tp g_tp ["thing", "least", "most"] sp_is_tuple := ok_is_tuple F_tp B
  have N_tp : Fnn P w K mg base CX0 1 "is_tuple" ["thing", "least", "most"] sp_is_tuple := ⟨f_tp, g_tp, O_tp, PySem.W.mg_of X G a_tp, F_tp.kp, b_tp⟩
  have O_ra : FnOk P w K mg base CX0 2 f_ra g_ra ["thing"] sp_is_ratio := ok_is_ratio F_ra B C N_tp N_in
  have N_ra : Fnn P w K mg base CX0 2 "is_ratio" ["thing"] sp_is_ratio := ⟨f_ra, g_ra, O_ra, PySem.W.mg_of X G a_ra, F_ra.kp, b_ra⟩
  have O_ro : FnOk P w K mg base CX0 33 f_ro g_ro ["top", "bottom"] sp_ratio_of := ok_ratio_of F_ro C hN hT
  have N_ro : Fnn P w K mg base CX0 33 "ratio_of" ["top", "bottom"] sp_ratio_of := ⟨f_ro, g_ro, O_ro, PySem.W.mg_of X G a_ro, F_ro.kp, b_ro⟩
  have O_sc : FnOk P w K mg base CX0 33 f_sc g_sc ["ratios"] (sp_scaled [q_iv, q_im]) := ok_scaled F_sc C hN hT
  have N_sc : Fnn P w K mg base CX0 33 "scaled" ["ratios"] (sp_scaled [q_iv, q_im]) := ⟨f_sc, g_sc, O_sc, PySem.W.mg_of X G a_sc, F_sc.kp, b_sc⟩
  have O_iv : FnOk P w K mg base CX0 4 f_iv g_iv ["thing"] (sp_is_vector [q_iv, q_im]) := ok_is_vector F_iv B C tiv (by simp) N_tp N_ra
  have N_iv : Fnn P w K mg base CX0 4 "is_vector" ["thing"] (sp_is_vector [q_iv, q_im]) := ⟨f_iv, g_iv, O_iv, PySem.W.mg_of X G a_iv, F_iv.kp, b_iv⟩
  have O_im : FnOk P w K mg base CX0 6 f_im g_im ["thing"] (sp_is_matrix [q_iv, q_im]) := ok_is_matrix F_im B C tim (by simp) N_tp N_iv
  have N_im : Fnn P w K mg base CX0 6 "is_matrix" ["thing"] (sp_is_matrix [q_iv, q_im]) := ⟨f_im, g_im, O_im, PySem.W.mg_of X G a_im, F_im.kp, b_im⟩
  have O_dm : FnOk P w K mg base CX0 7 f_dm g_dm ["rows"] (sp_demand_matrix [q_iv, q_im]) := ok_demand_matrix F_dm XM N_im
  have N_dm : Fnn P w K mg base CX0 7 "demand_matrix" ["rows"] (sp_demand_matrix [q_iv, q_im]) := ⟨f_dm, g_dm, O_dm, PySem.W.mg_of X G a_dm, F_dm.kp, b_dm⟩
  have O_wd : FnOk P w K mg base CX0 33 f_wd g_wd ["entries"] (sp_without_divisor [q_iv, q_im]) := ok_without_divisor F_wd C hN hT
  have N_wd : Fnn P w K mg base CX0 33 "without_divisor" ["entries"] (sp_without_divisor [q_iv, q_im]) := ⟨f_wd, g_wd, O_wd, PySem.W.mg_of X G a_wd, F_wd.kp, b_wd⟩
  have O_wp : FnOk P w K mg base CX0 34 f_wp g_wp ["row", "fresh", "pivot"] (sp_without_pivot [q_iv, q_im]) := ok_without_pivot F_wp (no "zip" (by simp)) N_wd
  have N_wp : Fnn P w K mg base CX0 34 "_without_pivot" ["row", "fresh", "pivot"] (sp_without_pivot [q_iv, q_im]) := ⟨f_wp, g_wp, O_wp, PySem.W.mg_of X G a_wp, F_wp.kp, b_wp⟩
  have O_mi : FnOk P w K mg base CX0 1 f_mi g_mi ["self", "width"] (sp_init [q_iv, q_im] CS) := ok_init F_mi SC
  have M_mi : Mkr P w K mg base CX0 CS 1 "Span" ["self", "width"] (sp_init [q_iv, q_im] CS) := ⟨f_mi, g_mi, O_mi, ⟨Z.mkS, m1_mi, m2_mi, Z.kcS⟩, PySem.W.mg_of X G Z.gS, b_mi⟩
  have O_mf : FnOk P w K mg base CX0 2 f_mf g_mf ["self"] (sp_full CS) := SL.FnOk.up (ok_full F_mf SC B) (by decide)
  have M_mf : Mth P w K mg base CX0 CS 2 "is_full" ["self"] (sp_full CS) := ⟨f_mf, g_mf, O_mf, ⟨m1_mf, m2_mf, m3_mf⟩, b_mf⟩
  have O_mg : FnOk P w K mg base CX0 1 f_mg g_mg ["self", "entries"] (sp_first CS) := ok_first F_mg SC B
  have M_mg : Mth P w K mg base CX0 CS 1 "_first_place" ["self", "entries"] (sp_first CS) := ⟨f_mg, g_mg, O_mg, ⟨m1_mg, m2_mg, m3_mg⟩, b_mg⟩
  have O_mr : FnOk P w K mg base CX0 33 f_mr g_mr ["self", "tops"] (sp_rest [q_iv, q_im] CS) := ok_rest F_mr SC C (no "zip" (by simp)) hN hT
  have M_mr : Mth P w K mg base CX0 CS 33 "_rest" ["self", "tops"] (sp_rest [q_iv, q_im] CS) := ⟨f_mr, g_mr, O_mr, ⟨m1_mr, m2_mr, m3_mr⟩, b_mr⟩
  have O_ms : FnOk P w K mg base CX0 35 f_ms g_ms ["self", "tops", "bottom"] (sp_put_scaled [q_iv, q_im] CS) := ok_put_scaled F_ms SC B M_mf M_mr M_mg N_wd N_wp
  have M_ms : Mth P w K mg base CX0 CS 35 "put_scaled" ["self", "tops", "bottom"] (sp_put_scaled [q_iv, q_im] CS) := ⟨f_ms, g_ms, O_ms, ⟨m1_ms, m2_ms, m3_ms⟩, b_ms⟩
  have O_mp : FnOk P w K mg base CX0 36 f_mp g_mp ["self", "vector"] (sp_put [q_iv, q_im] CS) := ok_put F_mp SC N_sc M_ms
  have M_mp : Mth P w K mg base CX0 CS 36 "put" ["self", "vector"] (sp_put [q_iv, q_im] CS) := ⟨f_mp, g_mp, O_mp, ⟨m1_mp, m2_mp, m3_mp⟩, b_mp⟩
  have O_mo : FnOk P w K mg base CX0 34 f_mo g_mo ["self", "tops", "bottom"] (sp_weights_of [q_iv, q_im] CS) := ok_weights_of F_mo SC B (no "zip" (by simp)) M_mr M_mg N_ro
  have M_mo : Mth P w K mg base CX0 CS 34 "weights_of_scaled" ["self", "tops", "bottom"] (sp_weights_of [q_iv, q_im] CS) := ⟨f_mo, g_mo, O_mo, ⟨m1_mo, m2_mo, m3_mo⟩, b_mo⟩
  have O_mw : FnOk P w K mg base CX0 35 f_mw g_mw ["self", "vector"] (sp_weights [q_iv, q_im] CS) := ok_weights F_mw SC N_sc M_mo
  have M_mw : Mth P w K mg base CX0 CS 35 "weights" ["self", "vector"] (sp_weights [q_iv, q_im] CS) := ⟨f_mw, g_mw, O_mw, ⟨m1_mw, m2_mw, m3_mw⟩, b_mw⟩
  have O_mm : FnOk P w K mg base CX0 34 f_mm g_mm ["self", "vector"] (sp_marks [q_iv, q_im] CS) := ok_marks F_mm SC B (no "zip" (by simp)) N_sc M_mr M_mg N_ro
  have M_mm : Mth P w K mg base CX0 CS 34 "marks" ["self", "vector"] (sp_marks [q_iv, q_im] CS) := ⟨f_mm, g_mm, O_mm, ⟨m1_mm, m2_mm, m3_mm⟩, b_mm⟩
  have O_mk : FnOk P w K mg base CX0 37 f_mk g_mk ["rows", "target"] (sp_made_of [q_iv, q_im]) := ok_made_of F_mk SC B (no "zip" (by simp)) (no "enumerate" (by simp)) (no "dict" (by simp)) XV XU N_dm N_iv M_mi M_mp M_mw M_mm
  have N_mk : Fnn P w K mg base CX0 37 "made_of" ["rows", "target"] (sp_made_of [q_iv, q_im]) := ⟨f_mk, g_mk, O_mk, PySem.W.mg_of X G a_mk, F_mk.kp, b_mk⟩
  have R_mk : Fnr P w K mg base CX0 37 "made_of" ["rows", "target"] (sp_made_of [q_iv, q_im]) := ⟨f_mk, g_mk, O_mk, PySem.W.mg_of X G a_mk, F_mk.kp, Fun.kwr (F_mk) fun _ _ _ _ _ _ us hl => match us, hl with | [_, _], _ => rfl⟩
  have O_lc : FnOk P w K mg base CX0 1 f_lc g_lc ["script"] (sp_cup K [q_iv, q_im]) := ok_law_cup F_lc B
  have N_lc : Fnn P w K mg base CX0 1 "_law_cup" ["script"] (sp_cup K [q_iv, q_im]) := ⟨f_lc, g_lc, O_lc, PySem.W.mg_of X G a_lc, F_lc.kp, b_lc⟩
  have O_ls : FnOk P w K mg base CX0 1 f_ls g_ls ["cup", "many"] (sp_sip [q_iv, q_im]) := ok_law_sip F_ls B (no "abs" (by simp))
  have N_ls : Fnn P w K mg base CX0 1 "_law_sip" ["cup", "many"] (sp_sip [q_iv, q_im]) := ⟨f_ls, g_ls, O_ls, PySem.W.mg_of X G a_ls, F_ls.kp, b_ls⟩
  have O_lw : FnOk P w K mg base CX0 1 f_lw g_lw ["found"] sp_lwhole := ok_law_is_whole F_lw B
  have N_lw : Fnn P w K mg base CX0 1 "_law_is_whole" ["found"] sp_lwhole := ⟨f_lw, g_lw, O_lw, PySem.W.mg_of X G a_lw, F_lw.kp, b_lw⟩
  have O_lr : FnOk P w K mg base CX0 33 f_lr g_lr ["top", "bottom"] sp_lratio := ok_law_ratio F_lr B (no "abs" (by simp)) hN hT
  have N_lr : Fnn P w K mg base CX0 33 "_law_ratio" ["top", "bottom"] sp_lratio := ⟨f_lr, g_lr, O_lr, PySem.W.mg_of X G a_lr, F_lr.kp, b_lr⟩
  have O_li : FnOk P w K mg base CX0 34 f_li g_li ["found"] (sp_lisrat [q_iv, q_im]) := ok_law_is_ratio F_li B N_lw N_lr
  have N_li : Fnn P w K mg base CX0 34 "_law_is_ratio" ["found"] (sp_lisrat [q_iv, q_im]) := ⟨f_li, g_li, O_li, PySem.W.mg_of X G a_li, F_li.kp, b_li⟩
  have O_lv : FnOk P w K mg base CX0 35 f_lv g_lv ["found", "size"] (sp_lisvec [q_iv, q_im]) := ok_law_is_vector F_lv B N_li
  have N_lv : Fnn P w K mg base CX0 35 "_law_is_vector" ["found", "size"] (sp_lisvec [q_iv, q_im]) := ⟨f_lv, g_lv, O_lv, PySem.W.mg_of X G a_lv, F_lv.kp, b_lv⟩
  have O_lt : FnOk P w K mg base CX0 1 f_lt g_lt ["ones", "others"] (sp_total [q_iv, q_im]) := ok_law_total F_lt B
  have N_lt : Fnn P w K mg base CX0 1 "_law_total" ["ones", "others"] (sp_total [q_iv, q_im]) := ⟨f_lt, g_lt, O_lt, PySem.W.mg_of X G a_lt, F_lt.kp, b_lt⟩
  have O_lq : FnOk P w K mg base CX0 1 f_lq g_lq ["total", "ratio"] sp_equals := ok_law_equals F_lq
  have N_lq : Fnn P w K mg base CX0 1 "_law_equals" ["total", "ratio"] sp_equals := ⟨f_lq, g_lq, O_lq, PySem.W.mg_of X G a_lq, F_lq.kp, b_lq⟩
  have O_le : FnOk P w K mg base CX0 34 f_le g_le ["cup", "great"] (sp_entry [q_iv, q_im]) := ok_law_entry F_le N_ls N_lr
  have N_le : Fnn P w K mg base CX0 34 "_law_entry" ["cup", "great"] (sp_entry [q_iv, q_im]) := ⟨f_le, g_le, O_le, PySem.W.mg_of X G a_le, F_le.kp, b_le⟩
  have O_lb : FnOk P w K mg base CX0 34 f_lb g_lb ["weights", "rows", "size"] (sp_combine [q_iv, q_im]) := ok_law_combine F_lb B N_lt N_lr
  have N_lb : Fnn P w K mg base CX0 34 "_law_combine" ["weights", "rows", "size"] (sp_combine [q_iv, q_im]) := ⟨f_lb, g_lb, O_lb, PySem.W.mg_of X G a_lb, F_lb.kp, b_lb⟩
  have O_lx : FnOk P w K mg base CX0 34 f_lx g_lx ["cup"] (sp_wide [q_iv, q_im]) := ok_law_wide F_lx B N_ls N_lr
  have N_lx : Fnn P w K mg base CX0 34 "_law_wide" ["cup"] (sp_wide [q_iv, q_im]) := ⟨f_lx, g_lx, O_lx, PySem.W.mg_of X G a_lx, F_lx.kp, b_lx⟩
  have O_lm : FnOk P w K mg base CX0 4 f_lm g_lm ["found", "due"] (sp_same [q_iv, q_im] 3) := ok_law_same F_lm (PySem.W.mg_of X G a_lm) b_lm B 3
  have N_lm : Fnn P w K mg base CX0 4 "_law_same" ["found", "due"] (sp_same [q_iv, q_im] 3) := ⟨f_lm, g_lm, O_lm, PySem.W.mg_of X G a_lm, F_lm.kp, b_lm⟩
  have O_ly : FnOk P w K mg base CX0 35 f_ly g_ly ["cup", "many", "size", "great"] (sp_rows [q_iv, q_im]) := ok_law_rows F_ly B N_ls N_le N_lb
  have N_ly : Fnn P w K mg base CX0 35 "_law_rows" ["cup", "many", "size", "great"] (sp_rows [q_iv, q_im]) := ⟨f_ly, g_ly, O_ly, PySem.W.mg_of X G a_ly, F_ly.kp, b_ly⟩
  have O_lk : FnOk P w K mg base CX0 35 f_lk g_lk ["cup", "rows", "size"] (sp_marked [q_iv, q_im]) := ok_law_marked F_lk B N_ls N_le N_lt N_lr
  have N_lk : Fnn P w K mg base CX0 35 "_law_marked" ["cup", "rows", "size"] (sp_marked [q_iv, q_im]) := ⟨f_lk, g_lk, O_lk, PySem.W.mg_of X G a_lk, F_lk.kp, b_lk⟩
  have O_lj : FnOk P w K mg base CX0 36 f_lj g_lj ["found", "rows", "target"] (sp_right [q_iv, q_im]) := ok_law_right F_lj B N_lv N_lq N_lt
  have N_lj : Fnn P w K mg base CX0 36 "_law_right" ["found", "rows", "target"] (sp_right [q_iv, q_im]) := ⟨f_lj, g_lj, O_lj, PySem.W.mg_of X G a_lj, F_lj.kp, b_lj⟩
  have O_la : FnOk P w K mg base CX0 38 f_la g_la ["rows", "target", "due"] (sp_asked [q_iv, q_im]) := ok_law_asked F_la N_mk R_mk N_lj N_lm
  have N_la : Fnn P w K mg base CX0 38 "_law_asked" ["rows", "target", "due"] (sp_asked [q_iv, q_im]) := ⟨f_la, g_la, O_la, PySem.W.mg_of X G a_la, F_la.kp, b_la⟩
  have O_ld : FnOk P w K mg base CX0 39 f_ld g_ld ["cup"] (sp_dense [q_iv, q_im]) := ok_law_dense F_ld B N_ls N_lb N_la N_lk
  have N_ld : Fnn P w K mg base CX0 39 "_law_dense_right" ["cup"] (sp_dense [q_iv, q_im]) := ⟨f_ld, g_ld, O_ld, PySem.W.mg_of X G a_ld, F_ld.kp, b_ld⟩
  exact FnOk.toG (ok_law F_lo.fn B N_lc N_ls N_le N_lb N_ly N_la N_lk N_lx N_ld)
end KN
set_option Elab.async false
open PySem PySem.W PyProof.Rows
set_option maxRecDepth 100000 in
set_option maxHeartbeats 0 in
theorem PySem.Challenge.cw_sameontrees_k39_whole_made_or_apart_holds : PySem.Challenge.rw_sameontrees_k39_whole_made_or_apart.Holds := by
  w_on; o_law; k_head; (case hw => w_witness2)
  k_fill
  refine SL.walkGN (l := PySem.Challenge.rw_sameontrees_k39_whole_made_or_apart) (n := 63) (k := 40) (x := "script") rfl (by decide) rfl (by first | rfl | decide +kernel | kernel_rfl) ⟨rfl, by decide, by decide⟩ (fun w h Y => by first | exact kIn_of Y | exact km_in_of Y) ?F
  case F =>
    intro w mg fa h KX G hmg tb
    refine' KN.all_mk KX G hmg (by first | rfl | decide +kernel) ?Z (fun x hx c Q hc => ?tab)
    case tab =>
      simp only [List.mem_cons, List.not_mem_nil, or_false] at hx
      rcases hx with rfl | rfl
      · exact tb _ _ _ _ rfl hc
      · exact tb _ _ _ _ rfl hc
    case Z =>
      refine' ⟨?blt, SL.hasInt ?entries, ?gV, ?xV, ?kV, ?bV, ?tV, ?gM, ?xM, ?kM, ?bM, ?tM, ?gU, ?xU, ?kU, ?bU, ?tU, ?gcdB, ?lcmB, ?gS, ?pgS, ?hdS, ?poS, ?saS, ?mkS, ?kcS, ?nS0, ?nS1, ?nS2, ?nS3, ?d_in, ?d_tp, ?d_ra, ?d_ro, ?d_sc, ?d_iv, ?d_im, ?d_dm, ?d_wd, ?d_wp, ?d_mi, ?d_mf, ?d_mg, ?d_mr, ?d_ms, ?d_mp, ?d_mo, ?d_mw, ?d_mm, ?d_mk, ?d_lc, ?d_ls, ?d_lw, ?d_lr, ?d_li, ?d_lv, ?d_lt, ?d_lq, ?d_le, ?d_lb, ?d_lx, ?d_lm, ?d_ly, ?d_lk, ?d_lj, ?d_la, ?d_ld, ?d_lo⟩
      (case blt => intro x hx; simp only [List.mem_cons, List.not_mem_nil, or_false] at hx; (rcases hx with rfl | rfl | rfl | rfl | rfl | rfl | rfl | rfl | rfl | rfl | rfl | rfl | rfl | rfl | rfl | rfl <;> k_is))
      (case entries => k_is)
      (case gV => k_is)
      (case xV => first | k_exc)
      (case kV => k_is)
      (case bV => k_is)
      (case tV => k_is)
      (case gM => k_is)
      (case xM => first | k_exc)
      (case kM => k_is)
      (case bM => k_is)
      (case tM => k_is)
      (case gU => k_is)
      (case xU => first | k_exc)
      (case kU => k_is)
      (case bU => k_is)
      (case tU => k_is)
      (case gcdB => k_is)
      (case lcmB => k_is)
      (case gS => k_is)
      (case pgS => k_is)
      (case hdS => k_is)
      (case poS => k_is)
      (case saS => k_is)
      (case mkS => k_is)
      (case kcS => k_is)
      (case nS0 => k_is)
      (case nS1 => k_is)
      (case nS2 => k_is)
      (case nS3 => k_is)
      case d_in =>
        refine' SL.isDef ?a_in ?l_in ?h_in ?k_in
        (case a_in => k_is)
        (case l_in => k_is)
        (case h_in => k_is)
        (case k_in => k_is)
      case d_tp =>
        refine' SL.isDef ?a_tp ?l_tp ?h_tp ?k_tp
        (case a_tp => k_is)
        (case l_tp => k_is)
        (case h_tp => k_is)
        (case k_tp => k_is)
      case d_ra =>
        refine' SL.isDef ?a_ra ?l_ra ?h_ra ?k_ra
        (case a_ra => k_is)
        (case l_ra => k_is)
        (case h_ra => k_is)
        (case k_ra => k_is)
      case d_ro =>
        refine' SL.isDef ?a_ro ?l_ro ?h_ro ?k_ro
        (case a_ro => k_is)
        (case l_ro => k_is)
        (case h_ro => k_is)
        (case k_ro => k_is)
      case d_sc =>
        refine' SL.isDef ?a_sc ?l_sc ?h_sc ?k_sc
        (case a_sc => k_is)
        (case l_sc => k_is)
        (case h_sc => k_is)
        (case k_sc => k_is)
      case d_iv =>
        refine' SL.isDefT ?a_iv ?l_iv ?h_iv ?k_iv ?m_iv ?v_iv ?n_iv
        (case a_iv => k_is)
        (case l_iv => k_is)
        (case h_iv => k_is)
        (case k_iv => k_is)
        (case m_iv => k_is)
        (case v_iv => first | rfl)
        (case n_iv => first | kernel_rfl)
      case d_im =>
        refine' SL.isDefT ?a_im ?l_im ?h_im ?k_im ?m_im ?v_im ?n_im
        (case a_im => k_is)
        (case l_im => k_is)
        (case h_im => k_is)
        (case k_im => k_is)
        (case m_im => k_is)
        (case v_im => first | rfl)
        (case n_im => first | kernel_rfl)
      case d_dm =>
        refine' SL.isDef ?a_dm ?l_dm ?h_dm ?k_dm
        (case a_dm => k_is)
        (case l_dm => k_is)
        (case h_dm => k_is)
        (case k_dm => k_is)
      case d_wd =>
        refine' SL.isDef ?a_wd ?l_wd ?h_wd ?k_wd
        (case a_wd => k_is)
        (case l_wd => k_is)
        (case h_wd => k_is)
        (case k_wd => k_is)
      case d_wp =>
        refine' SL.isDef ?a_wp ?l_wp ?h_wp ?k_wp
        (case a_wp => k_is)
        (case l_wp => k_is)
        (case h_wp => k_is)
        (case k_wp => k_is)
      case d_mi =>
        refine' SL.isMeth ?a_mi ?i_mi ?l_mi ?h_mi ?k_mi
        (case a_mi => k_is)
        (case i_mi => k_is)
        (case l_mi => k_is)
        (case h_mi => k_is)
        (case k_mi => k_is)
      case d_mf =>
        refine' SL.isMeth ?a_mf ?i_mf ?l_mf ?h_mf ?k_mf
        (case a_mf => k_is)
        (case i_mf => k_is)
        (case l_mf => k_is)
        (case h_mf => k_is)
        (case k_mf => k_is)
      case d_mg =>
        refine' SL.isMeth ?a_mg ?i_mg ?l_mg ?h_mg ?k_mg
        (case a_mg => k_is)
        (case i_mg => k_is)
        (case l_mg => k_is)
        (case h_mg => k_is)
        (case k_mg => k_is)
      case d_mr =>
        refine' SL.isMeth ?a_mr ?i_mr ?l_mr ?h_mr ?k_mr
        (case a_mr => k_is)
        (case i_mr => k_is)
        (case l_mr => k_is)
        (case h_mr => k_is)
        (case k_mr => k_is)
      case d_ms =>
        refine' SL.isMeth ?a_ms ?i_ms ?l_ms ?h_ms ?k_ms
        (case a_ms => k_is)
        (case i_ms => k_is)
        (case l_ms => k_is)
        (case h_ms => k_is)
        (case k_ms => k_is)
      case d_mp =>
        refine' SL.isMeth ?a_mp ?i_mp ?l_mp ?h_mp ?k_mp
        (case a_mp => k_is)
        (case i_mp => k_is)
        (case l_mp => k_is)
        (case h_mp => k_is)
        (case k_mp => k_is)
      case d_mo =>
        refine' SL.isMeth ?a_mo ?i_mo ?l_mo ?h_mo ?k_mo
        (case a_mo => k_is)
        (case i_mo => k_is)
        (case l_mo => k_is)
        (case h_mo => k_is)
        (case k_mo => k_is)
      case d_mw =>
        refine' SL.isMeth ?a_mw ?i_mw ?l_mw ?h_mw ?k_mw
        (case a_mw => k_is)
        (case i_mw => k_is)
        (case l_mw => k_is)
        (case h_mw => k_is)
        (case k_mw => k_is)
      case d_mm =>
        refine' SL.isMeth ?a_mm ?i_mm ?l_mm ?h_mm ?k_mm
        (case a_mm => k_is)
        (case i_mm => k_is)
        (case l_mm => k_is)
        (case h_mm => k_is)
        (case k_mm => k_is)
      case d_mk =>
        refine' SL.isDef ?a_mk ?l_mk ?h_mk ?k_mk
        (case a_mk => k_is)
        (case l_mk => k_is)
        (case h_mk => k_is)
        (case k_mk => k_is)
      case d_lc =>
        refine' SL.isDef ?a_lc ?l_lc ?h_lc ?k_lc
        (case a_lc => k_is)
        (case l_lc => k_is)
        (case h_lc => k_is)
        (case k_lc => k_is)
      case d_ls =>
        refine' SL.isDef ?a_ls ?l_ls ?h_ls ?k_ls
        (case a_ls => k_is)
        (case l_ls => k_is)
        (case h_ls => k_is)
        (case k_ls => k_is)
      case d_lw =>
        refine' SL.isDef ?a_lw ?l_lw ?h_lw ?k_lw
        (case a_lw => k_is)
        (case l_lw => k_is)
        (case h_lw => k_is)
        (case k_lw => k_is)
      case d_lr =>
        refine' SL.isDef ?a_lr ?l_lr ?h_lr ?k_lr
        (case a_lr => k_is)
        (case l_lr => k_is)
        (case h_lr => k_is)
        (case k_lr => k_is)
      case d_li =>
        refine' SL.isDef ?a_li ?l_li ?h_li ?k_li
        (case a_li => k_is)
        (case l_li => k_is)
        (case h_li => k_is)
        (case k_li => k_is)
      case d_lv =>
        refine' SL.isDef ?a_lv ?l_lv ?h_lv ?k_lv
        (case a_lv => k_is)
        (case l_lv => k_is)
        (case h_lv => k_is)
        (case k_lv => k_is)
      case d_lt =>
        refine' SL.isDef ?a_lt ?l_lt ?h_lt ?k_lt
        (case a_lt => k_is)
        (case l_lt => k_is)
        (case h_lt => k_is)
        (case k_lt => k_is)
      case d_lq =>
        refine' SL.isDef ?a_lq ?l_lq ?h_lq ?k_lq
        (case a_lq => k_is)
        (case l_lq => k_is)
        (case h_lq => k_is)
        (case k_lq => k_is)
      case d_le =>
        refine' SL.isDef ?a_le ?l_le ?h_le ?k_le
        (case a_le => k_is)
        (case l_le => k_is)
        (case h_le => k_is)
        (case k_le => k_is)
      case d_lb =>
        refine' SL.isDef ?a_lb ?l_lb ?h_lb ?k_lb
        (case a_lb => k_is)
        (case l_lb => k_is)
        (case h_lb => k_is)
        (case k_lb => k_is)
      case d_lx =>
        refine' SL.isDef ?a_lx ?l_lx ?h_lx ?k_lx
        (case a_lx => k_is)
        (case l_lx => k_is)
        (case h_lx => k_is)
        (case k_lx => k_is)
      case d_lm =>
        refine' SL.isDef ?a_lm ?l_lm ?h_lm ?k_lm
        (case a_lm => k_is)
        (case l_lm => k_is)
        (case h_lm => k_is)
        (case k_lm => k_is)
      case d_ly =>
        refine' SL.isDef ?a_ly ?l_ly ?h_ly ?k_ly
        (case a_ly => k_is)
        (case l_ly => k_is)
        (case h_ly => k_is)
        (case k_ly => k_is)
      case d_lk =>
        refine' SL.isDef ?a_lk ?l_lk ?h_lk ?k_lk
        (case a_lk => k_is)
        (case l_lk => k_is)
        (case h_lk => k_is)
        (case k_lk => k_is)
      case d_lj =>
        refine' SL.isDef ?a_lj ?l_lj ?h_lj ?k_lj
        (case a_lj => k_is)
        (case l_lj => k_is)
        (case h_lj => k_is)
        (case k_lj => k_is)
      case d_la =>
        refine' SL.isDef ?a_la ?l_la ?h_la ?k_la
        (case a_la => k_is)
        (case l_la => k_is)
        (case h_la => k_is)
        (case k_la => k_is)
      case d_ld =>
        refine' SL.isDef ?a_ld ?l_ld ?h_ld ?k_ld
        (case a_ld => k_is)
        (case l_ld => k_is)
        (case h_ld => k_is)
        (case k_ld => k_is)
      case d_lo =>
        refine' SL.isDefC ?a_lo ?l_lo ?h_lo ?k_lo
        (case a_lo => k_is)
        (case l_lo => k_is)
        (case h_lo => k_is)
        (case k_lo => k_is)
