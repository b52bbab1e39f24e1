import PyProof.Rows.All
import Wide.All
import OpenK.AllK
import Wide.FinOn
import HandS.ForExc
import HandS.ForMost
import HandS.AnyAll
import HandS.Nested
import HandS.GenOver
import HandS.IsInst
import HandS.TupAny
import HandS.TupMul
import HandS.Strs
import HandS.Sort
import HandS.StrMore
import HandS.Walk
import HandS.ExcOwn
import HandS.TryMany
import HandS.Iter
import HandS.Steps
import HandS.SetBool
import HandS.SetKeys
import PyProof.SetRoads
import HandS.Zip
import KE.KDictZip
import PyProof.FactsAll.object_0
import HandS.Star
import HandS.Gcd
import PyProof.ReprRoads
import PyProof.ReprLen
import PyProof.StrLawsRepr
import PyProof.NeKinds
import PyProof.Rows.StrFin3
import PyProof.Rows.StrClose
import PyProof.Rows.StrGather
import HandS.Text
import PyProof.Rows.IntBool
import PyProof.Rows.RuleB_bool
import PyProof.CallStr
import PyProof.PureInt
import PyProof.FactsAll.bool_2
import HandS.HeadWalk
import KE.KNestM
import KE.GoesMore
import PyProof.EnumMake
import HandS.DictComp
import HandS.More
import PyProof.AutoSeq1
import HandS.Wide
import HandS.Conv
import PySem.Challenge.RW_sameontrees_k41_whole_products
set_option Elab.async false
set_option linter.all false
set_option maxRecDepth 100000
set_option maxHeartbeats 2000000
/-! own rules, 1: a generator expression that all or any consumes, whatever its element does -/
namespace GA
open PySem PySem.Spec PyProof.Rows L2 GxR NdefX

/-- the frame of a generator expression as a context; fp: the walked iterator's records; s, H: where its frame was made -/
@[reducible] def gcx (X : Cx) (N : List Str) (scope : Scope) (cl : List (Str × Addr)) (code : Value) (C : Addr) (A : Around) (fp : List Addr) (s : Shared) (H : Hp) (pn : List (Addr × Obj)) : Cx :=
  { X with A := A, N := N, s_0 := s, H_0 := H, env := genEnv scope cl C code builtinsNs X.env, outer := X.stack, stack := genEnv scope cl C code builtinsNs X.env :: X.stack,
           ex := fp, calm := true, fn := fun _ => false, pn := pn, xe := fun _ _ => False }

/-- a generator expression's scope: the captured names first, then its own -/
structure GSc (N fr : List Str) (sc : Scope) : Prop where
  kind : sc.kind = .function
  co : sc.isCoroutine = false
  nd : N.Nodup
  pre : N.take fr.length = fr
  dot : sc.names.lookup (".0" : Str) = some NameKind.local
  nocell : ∀ y ∈ sc.names, y.2 ≠ .cell
  free : ∀ y ∈ sc.names, y.2 = .free → y.1 ∈ fr
  frk : ∀ x ∈ fr, sc.names.lookup x = some .free
  frm : ∀ y ∈ fr, (y, NameKind.free) ∈ sc.names
def gscB (N fr : List Str) (sc : Scope) : Bool :=
  decide (sc.kind = .function) && !sc.isCoroutine && decide N.Nodup && decide (N.take fr.length = fr) && decide (sc.names.lookup (".0" : Str) = some NameKind.local) && sc.names.all (fun y => !decide (y.2 = .cell)) &&
    sc.names.all (fun y => !decide (y.2 = .free) || decide (y.1 ∈ fr)) && fr.all (fun x => decide (sc.names.lookup x = some .free)) && fr.all fun y => decide ((y, NameKind.free) ∈ sc.names)
theorem gsc_by {N fr : List Str} {sc : Scope} (h : gscB N fr sc = true) : GSc N fr sc := by
  unfold gscB at h
  simp only [Bool.and_eq_true, Bool.not_eq_true', decide_eq_true_eq, List.all_eq_true, Bool.or_eq_true, decide_eq_false_iff_not] at h
  obtain ⟨⟨⟨⟨⟨⟨⟨⟨h1, h2⟩, h3⟩, h4⟩, h5⟩, h6⟩, h7⟩, h8⟩, h9⟩ := h
  exact ⟨h1, h2, h3, h4, h5, h6, fun y hy e => (h7 y hy).elim (fun z => absurd e z) id, h8, h9⟩

section
variable {X : Cx} {pins : List (Addr × Obj)} {σ : L2.St} {H H' : Hp} {s s' : Shared}

theorem not_stk (I : Inv X pins σ H s) {b : Addr} (h1 : b ≠ X.env.locals) (h2 : b ∉ X.fs) : b ∉ frs X.stack := fun z =>
  (List.mem_cons.mp (I.stkSub b z)).elim h1 h2

theorem inv_gcx {N fr : List Str} {scope : Scope} {cl : List (Str × Addr)} {js : List Nat} {code : Value} {C : Addr} {A : Around} {fp : List Addr} {pn : List (Addr × Obj)} {m : Str → Option Value}
    (I : Inv X pins σ H s) (S : GSc N fr scope) (cp : Caps X cl fr js) (hA : A.handled = none) (hfr : A.frames = some (genEnv scope cl C code builtinsNs X.env :: X.stack))
    (hfp : ∀ b ∈ fp, FpOk X pins H b) (hfl : ∀ b ∈ fp, b < s.heap.objs.size) (hC : s.heap.objs.size ≤ C) (hns : s'.heap.Ns C m) (hos : s'.os = s.os) (hb : AllBare s'.gens) (un : Un (frs X.stack) fp H H' s.heap s'.heap)
    (hok : HOk X.prog X.w H' s'.heap) (hfC : H' C = none)
    (hpn : ∀ p ∈ pn, s'.heap.get? p.1 = some p.2 ∧ H' p.1 = none ∧ p.1 ≠ C ∧ p.1 ∉ frs X.stack ∧ ∀ v, p.2.data ≠ .cell v) :
    Inv (gcx X N scope cl code C A fp s H pn) [] (startF N [] (js.map (slotAt σ))) H' s' := by
  have CA := cells_of I cp
  have ltc : ∀ y c, cl.lookup y = some c → c < s.heap.objs.size := fun y c e => by
    obtain ⟨_, v, o, ho, _⟩ := CA.all y c e
    exact Heap.lt_size ho
  have cfp : ∀ y c, cl.lookup y = some c → c ∉ fp := fun y c e z => (hfp c z).2.2.2.2.1 y c (cp.sub y c e) rfl
  have cellK : ∀ y c, cl.lookup y = some c → ∀ v, s.heap.IsCell c v → s'.heap.IsCell c v := fun y c e v ⟨o, ho, hd⟩ => by
    obtain ⟨sl, q⟩ := un.any ho (CA.all y c e).1 (cfp y c e)
    exact ⟨_, q, hd⟩
  have hgk : ∀ y, (gcx X N scope cl code C A fp s H pn).env.kindOf y = scope.names.lookup y := fun y => rfl
  refine ⟨⟨I.ok.mod, S.kind, I.ok.glob, rfl, hC, CA.inj, fun y hy => ?_, fun y c z _ => ?_, fun _ => hA, hfr, .inr ⟨rfl, rfl⟩, fun b hb => ⟨fun z => ?_, fun y c e z => ?_⟩, I.bs, Nat.le_trans I.ok.bsz I.sz, fun b o e hb => ?_, fun b hb => ?_, I.stack, I.stkFree⟩,
    hos, hb, un, ⟨m, hns, fun i y v e1 e2 e3 => ?_⟩, fun y c e => ?_, hfC, fun y c e => ?_, fun p hp => ?_, hok, ?_⟩
  · rw [hgk] at hy
    rcases hy with hy | hy
    · exact absurd rfl (S.nocell _ (PySem.mem_of_lookup hy))
    · obtain ⟨i, hi⟩ := List.mem_iff_getElem?.mp (S.free _ (PySem.mem_of_lookup hy) rfl)
      obtain ⟨c, hc, _⟩ := CA.has i y hi
      exact ⟨c, hc⟩
  · exact absurd z Bool.false_ne_true
  · have h1 := hfl b hb
    have z' : b = C := z
    rw [z'] at h1
    exact absurd (Nat.lt_of_lt_of_le h1 hC) (Nat.lt_irrefl _)
  · have h2 := ltc y c e
    exact cfp y c e (by rw [show c = b from z]; exact hb)
  · have h1 := (I.ok.bs b o e).1
    rcases (hfp b hb).2.2.2.1 with h2 | h2
    · exact I.ok.noex b o e h2
    · exact absurd (Nat.lt_of_lt_of_le (Heap.lt_size h1) h2) (Nat.lt_irrefl _)
  · exact not_stk I (hfp b hb).2.1 (hfp b hb).2.2.1
  · have e1 : N[i]? = some y := e1
    have clen := CA.len
    rw [List.length_map] at clen
    unfold startF at e2
    rw [List.map_nil, List.nil_append] at e2
    by_cases h2 : i < fr.length
    · have hq : fr[i]? = some y := by
        rw [← S.pre, List.getElem?_take_of_lt h2]
        exact e1
      rw [List.getElem?_append_left (by rw [List.length_map]; omega)] at e2
      obtain ⟨c, hc, hv⟩ := CA.has i y hq
      obtain ⟨u, ru, hu⟩ := hv v e2
      exact ⟨u, ru, .inr ⟨.inr (S.frk y (List.mem_of_getElem? hq)), c, hc, cellK y c hc _ hu⟩⟩
    · rw [List.getElem?_append_right (by rw [List.length_map]; omega), List.getElem?_replicate] at e2
      split at e2 <;> cases e2
  · obtain ⟨v, z⟩ := (CA.all y c e).2
    exact ⟨v, cellK y c e v z⟩
  · obtain ⟨n, v, o, ho, _⟩ := CA.all y c e
    exact un.free c o ho n (cfp y c e)
  · rw [List.append_nil] at hp
    exact hpn p hp
  · have clen := CA.len
    have hpl := congrArg List.length S.pre
    simp only [List.length_take] at hpl
    unfold startF
    show _ = N.length
    simp only [List.length_append, List.length_map, List.length_replicate, List.length_nil, List.map_nil]
    rw [List.length_map] at clen
    omega
end
end GA
set_option Elab.async false
set_option linter.all false
set_option maxRecDepth 100000
set_option maxHeartbeats 2000000
namespace GA
open PySem PySem.Spec PyProof.Rows L2 GxR NdefX

section
variable {A : Around} {elt tg iter : Expr} {scope : Scope} {gpos : Pos} {it acc : Value} {cenv : Env} {ifs : List Expr}
abbrev gexp (elt tg iter : Expr) (scope : Scope) (gpos : Pos) : Expr := .GeneratorExp elt [⟨tg, iter, [], 0⟩] scope gpos
abbrev gloop (elt tg iter : Expr) (scope : Scope) (gpos : Pos) (it : Value) (cenv : Env) : Code := .compLoop (gexp elt tg iter scope gpos) 0 it .none cenv
abbrev gstart (elt tg iter : Expr) (scope : Scope) (gpos : Pos) (it : Value) (cenv : Env) : Code := .compStart (gexp elt tg iter scope gpos) 0 it .none cenv
theorem overL_hd : (A.over (gloop elt tg iter scope gpos it cenv) []).handled = A.handled := rfl
theorem overL_fr {l : List Env} (h : A.frames = some l) : (A.over (gloop elt tg iter scope gpos it cenv) []).frames = some (cenv :: l) := by
  show pushEnvs [cenv] (pushEnvs [] A.frames) = _
  rw [h] <;> rfl
theorem overL_dp : (A.over (gloop elt tg iter scope gpos it cenv) []).depth = A.depth + 1 := by
  show A.depth + 0 + 1 = _
  omega
theorem overL_un : (A.over (gloop elt tg iter scope gpos it cenv) []).units = A.units + 3 := by
  show A.units + 0 + 3 = _
  omega
theorem roomL {k : Nat} (r : Room (k + 1) A) : Room k ((A.in1.in1).over (gloop elt tg iter scope gpos it cenv) []) :=
  ⟨r.hd, by have := r.dp; rw [overL_dp]; show A.depth + 1 + 3 * k + 5 < _; omega, by have := r.un; rw [overL_un]; show A.units + 1 + 1 + 3 + 16 * k + 200 < _; omega⟩
end

/-- the turns of a generator expression, in its own frame: W an invariant over turn, measure, slots and heap; Qe: behind its end; K: what is known of what is handed out -/
def GTurn (J : It) (g : TG) (te : TE) (W : Nat → Nat → L2.St → Hp → Prop) (Qe : Hp → Prop) (K : Nat → Nat → L2.St → V → Hp → Prop) : Prop :=
  ∀ i m σ H, W i m σ H → (J.stop i H ∧ Qe H) ∨ (J.go i H ∧ 0 < m ∧ ∀ x H', J.yld i H x H' → g x σ H' fun σ2 H2 => te σ2 H2 fun r H3 => K i m σ2 r H3)

section
variable {X : Cx} {N : List Str} {elt tg iter : Expr} {scope : Scope} {gpos : Pos} {cl : List (Str × Addr)} {code : Value} {C it ga : Addr} {go : Obj} {fp : List Addr} {s2 : Shared} {H2 : Hp} {J : It} {g : TG} {te : TE}
  {W : Nat → Nat → L2.St → Hp → Prop} {Qe : Hp → Prop} {K : Nat → Nat → L2.St → V → Hp → Prop} {tn : Nat → Heap → Prop}
abbrev cenvOf (X : Cx) (scope : Scope) (cl : List (Str × Addr)) (code : Value) (C : Addr) : Env := genEnv scope cl C code builtinsNs X.env
/-- the running frame's context -/
abbrev gX (X : Cx) (N : List Str) (elt tg iter : Expr) (scope : Scope) (gpos : Pos) (cl : List (Str × Addr)) (code : Value) (C it : Addr) (fp : List Addr) (s2 : Shared) (H2 : Hp) (pn : List (Addr × Obj)) : Cx :=
  gcx X N scope cl code C ((X.A.in1.in1).over (gloop elt tg iter scope gpos (.ref it) (cenvOf X scope cl code C)) []) fp s2 H2 pn
def gEnd (Xg : Cx) (fp : List Addr) (Qe : Hp → Prop) : Nat → Shared → Shared → Prop := fun _ _ s => ∃ σ H, Inv Xg [] σ H s ∧ (∀ b ∈ fp, H b = none) ∧ Qe H
def gYld (Xg : Cx) (fp : List Addr) (tn : Nat → Heap → Prop) (W : Nat → Nat → L2.St → Hp → Prop) (K : Nat → Nat → L2.St → V → Hp → Prop) : Protocol := fun _ _ v s kap =>
  ∃ i m σ H r, RelV r v ∧ Inv Xg [] σ H s ∧ tn (i + 1) s.heap ∧ (∀ b ∈ fp, H b = none) ∧ K i m σ r H ∧
    ∀ m' s'', m' < m → W (i + 1) m' σ H → s''.heap = s.heap → s''.os = s.os → AllBare s''.gens → kap (.send .none) s''

theorem fpOk_g {pins : List (Addr × Obj)} {σ : L2.St} {H : Hp} {s : Shared} {pn : List (Addr × Obj)} (I : Inv (gX X N elt tg iter scope gpos cl code C it fp s2 H2 pn) pins σ H s) (hn : ∀ b ∈ fp, H b = none) (hp : ∀ b ∈ fp, ∀ p ∈ pn ++ pins, p.1 ≠ b) :
    ∀ b ∈ fp, FpOk (gX X N elt tg iter scope gpos cl code C it fp s2 H2 pn) pins H b := fun b hb =>
  ⟨hn b hb, (I.ok.exf b hb).1, I.ok.exfs b hb, .inl hb, (I.ok.exf b hb).2, hp b hb⟩

theorem inv_awake {pins : List (Addr × Obj)} {σ : L2.St} {H : Hp} {s s' : Shared} (I : Inv X pins σ H s) (h1 : s'.heap = s.heap) (h2 : s'.os = s.os) (h3 : AllBare s'.gens) : Inv X pins σ H s' := by
  refine Inv.call' (ch := []) I h2 ?_ ?_ h3 (fun b z => absurd z (by simp))
  · rw [h1]; exact Un.refl
  · rw [h1]; exact I.hok

theorem seg_gloop (hg : PG (gX X N elt tg iter scope gpos cl code C it fp s2 H2 [(ga, go)]) tg g) (he : PE (gX X N elt tg iter scope gpos cl code C it fp s2 H2 [(ga, go)]) elt te)
    (T : Turn X.prog X.w X.K tg J fp it tn) (hfp : ga ∉ fp) (hco : scope.isCoroutine = false) (turn : GTurn J g te W Qe K) :
    ∀ (n m i : Nat) (s₀ s : Shared) (σ : L2.St) (H : Hp), m ≤ n → W i m σ H → Inv (gX X N elt tg iter scope gpos cl code C it fp s2 H2 [(ga, go)]) [] σ H s → tn i s.heap → (∀ b ∈ fp, H b = none) →
      Seg (model X.prog X.w) X.A.in1.in1 (fun n s₀ r s₁ => r = .ok .next ∧ gEnd (gX X N elt tg iter scope gpos cl code C it fp s2 H2 [(ga, go)]) fp Qe n s₀ s₁) (gYld (gX X N elt tg iter scope gpos cl code C it fp s2 H2 [(ga, go)]) fp tn W K) n s₀
        (gloop elt tg iter scope gpos (.ref it) (cenvOf X scope cl code C)) ((model X.prog X.w).den (gloop elt tg iter scope gpos (.ref it) (cenvOf X scope cl code C))) [] s := by
  intro n
  have pne : ∀ pins : List (Addr × Obj), (∀ p ∈ pins, p.1 ∈ fp → False) → ∀ b ∈ fp, ∀ p ∈ [(ga, go)] ++ pins, p.1 ≠ b := fun pins hp b hb p h e => by
    rcases List.mem_append.mp h with h | h
    · rw [List.mem_singleton.mp h] at e
      exact hfp (by rw [show ga = b from e]; exact hb)
    · exact hp p h (by rw [e]; exact hb)
  induction n with
  | zero =>
    intro m i s₀ s σ H hm hw I hst hn
    show Seg _ _ _ _ _ s₀ _ ((compTurn (gexp elt tg iter scope gpos) 0 (.ref it) .none (cenvOf X scope cl code C)).onRaise (leaving (cenvOf X scope cl code C))) [] s
    rw [compTurn_gen, Sem.onRaise_eq_wrap]
    refine seg_bind_wrap (wpAny_standAt ?_)
    rcases turn i m σ H hw with ⟨st, q⟩ | ⟨_, hm0, _⟩
    · refine seg_bind_wrap (wpAny_mono (T.done (gX X N elt tg iter scope gpos cl code C it fp s2 H2 [(ga, go)]) rfl rfl rfl rfl i [] s σ H (fun _ _ => False) I (fpOk_g I hn (pne [] fun _ h => by simp at h)) hst st) (fun r s' ⟨hr, I'⟩ => ?_) fun _ _ e => e.elim)
      subst hr
      exact seg_end (.ok .next) ⟨rfl, σ, H, I', hn, q⟩
    · omega
  | succ n ih =>
    intro m i s₀ s σ H hm hw I hst hn
    show Seg _ _ _ _ _ s₀ _ ((compTurn (gexp elt tg iter scope gpos) 0 (.ref it) .none (cenvOf X scope cl code C)).onRaise (leaving (cenvOf X scope cl code C))) [] s
    rw [compTurn_gen, Sem.onRaise_eq_wrap]
    refine seg_bind_wrap (wpAny_standAt ?_)
    have ok0 := fpOk_g I hn (pne [] fun _ h => by simp at h)
    rcases turn i m σ H hw with ⟨st, q⟩ | ⟨hgo, hm0, hstep⟩
    · refine seg_bind_wrap (wpAny_mono (T.done (gX X N elt tg iter scope gpos cl code C it fp s2 H2 [(ga, go)]) rfl rfl rfl rfl i [] s σ H (fun _ _ => False) I ok0 hst st) (fun r s' ⟨hr, I'⟩ => ?_) fun _ _ e => e.elim)
      subst hr
      exact seg_end (.ok .next) ⟨rfl, σ, H, I', hn, q⟩
    · refine seg_bind_wrap (wpAny_mono (T.item (gX X N elt tg iter scope gpos cl code C it fp s2 H2 [(ga, go)]) rfl rfl rfl rfl i [] s σ H (fun _ _ => False) I ok0 hst hgo) (fun r s3 ⟨u, hr, h3⟩ => ?_) fun _ _ e => e.elim)
      subst hr
      refine seg_bind_wrap (wpAny_mono h3 (fun _ s4 ⟨x, H4, I4, r4, y4, st4, n4⟩ => ?_) fun _ _ e => e.elim)
      have I4' := I4.pinned (fpOk_g I4 n4 (pne [] fun _ h => by simp at h)) (T.obj _ _ st4)
      refine seg_bind_wrap (wpAny_mono (hg.run _ s4 σ H4 x u _ I4' r4 (hstep x H4 y4)) (fun _ s5 ⟨σ5, H5, I5, q5⟩ => ?_) fun _ _ e => e.elim)
      simp only [List.forIn_nil]
      refine seg_bind_wrap (wpAny_pure ?_)
      simp only [if_true]
      have hy : ∀ v, yieldOut (cenvOf X scope cl code C) v = yieldValue v := fun v => by
        unfold yieldOut
        rw [show (cenvOf X scope cl code C).scope.isCoroutine = false from hco] <;> rfl
      simp only [hy]
      rw [Sem.bind_eq_wrap', Sem.bind_eq_wrap', Sem.wrap_wrap, Sem.wrap_wrap]
      refine seg_wrap (wpAny_mono (he.run _ s5 σ5 H5 _ I5 q5) (fun v s6 ⟨r, H6, I6, r6, q6⟩ => ?_) fun _ _ e => e.elim)
      have keepP : ∀ b ∈ fp, (∀ o, s4.heap.get? b = some o → s6.heap.get? b = some o) ∧ H6 b = none := fun b hb => by
        obtain ⟨o, e, d⟩ := T.obj _ _ st4 b hb
        have z := I6.pin (b, o) (List.mem_append_right _ (List.mem_append_right _ (mem_pinsAt hb e)))
        exact ⟨fun o' e' => by rw [e] at e'; cases e'; exact z.1, z.2.1⟩
      have st6 := T.keep _ _ s6.heap st4 fun b hb o e => (keepP b hb).1 o e
      have J6 : Inv (gX X N elt tg iter scope gpos cl code C it fp s2 H2 [(ga, go)]) [] σ5 H6 s6 := I6.unpinned (pins := [])
      refine seg_at (seg_yield rfl rfl rfl ⟨i, m, σ5, H6, r, r6, J6, st6, fun b hb => (keepP b hb).2, q6, fun m' s'' hlt hw' e1 e2 e3 => ?_⟩)
      refine seg_again rfl (ih m' (i + 1) s'' s'' σ5 H6 (by omega) hw' (inv_awake J6 e1 e2 e3) (by rw [e1]; exact st6) fun b hb => (keepP b hb).2)
end
end GA
set_option Elab.async false
set_option linter.all false
set_option maxRecDepth 100000
set_option maxHeartbeats 2000000
namespace GA
open PySem PySem.Spec PyProof.Rows L2 GxR NdefX
open GenW

theorem allBare_set {s : Shared} {g : Nat} {x : GenState} (h : AllBare s.gens) (hx : x.bare = true) : AllBare (s.setGen g x).gens := fun y hy => by
  have hy : y ∈ s.gens.setIfInBounds g x := hy
  rcases Array.mem_or_eq_of_mem_setIfInBounds hy with z | z
  · exact h y z
  · rw [z]; exact hx
theorem setGen_at {s : Shared} {g : Nat} {x : GenState} (h : g + 1 ≤ (s.setGen g x).gens.size) : (s.setGen g x).gens[g]? = some x := by
  rw [setGen_size] at h
  have hlt : g < s.gens.size := h
  simp [Shared.setGen, hlt]

section
variable {X : Cx} {N : List Str} {elt tg iter : Expr} {scope : Scope} {gpos : Pos} {cl : List (Str × Addr)} {code : Value} {C it ga : Addr} {go : Obj} {fp : List Addr} {s2 : Shared} {H2 : Hp} {J : It} {g : TG} {te : TE}
  {W : Nat → Nat → L2.St → Hp → Prop} {Qe : Hp → Prop} {K : Nat → Nat → L2.St → V → Hp → Prop} {tn : Nat → Heap → Prop}

theorem seg_gstart (hg : PG (gX X N elt tg iter scope gpos cl code C it fp s2 H2 [(ga, go)]) tg g) (he : PE (gX X N elt tg iter scope gpos cl code C it fp s2 H2 [(ga, go)]) elt te)
    (T : Turn X.prog X.w X.K tg J fp it tn) (hfp : ga ∉ fp) (hco : scope.isCoroutine = false) (turn : GTurn J g te W Qe K) (n m : Nat) (s₀ s : Shared) (σ : L2.St) (H : Hp) (hm : m ≤ n) (hw : W 0 m σ H)
    (I : Inv (gX X N elt tg iter scope gpos cl code C it fp s2 H2 [(ga, go)]) [] σ H s) (hst : tn 0 s.heap) (hn : ∀ b ∈ fp, H b = none) :
    Seg (model X.prog X.w) X.A.in1.in1 (fun n s₀ r s₁ => r = .ok .next ∧ gEnd (gX X N elt tg iter scope gpos cl code C it fp s2 H2 [(ga, go)]) fp Qe n s₀ s₁) (gYld (gX X N elt tg iter scope gpos cl code C it fp s2 H2 [(ga, go)]) fp tn W K) n s₀
      (gstart elt tg iter scope gpos (.ref it) (cenvOf X scope cl code C)) ((model X.prog X.w).den (gstart elt tg iter scope gpos (.ref it) (cenvOf X scope cl code C))) [] s := by
  have loop := seg_gloop hg he T hfp hco turn n m 0 s₀ s σ H hm hw I hst hn
  show Seg _ _ _ _ _ s₀ _ ((compStart (gexp elt tg iter scope gpos) 0 (.ref it) .none (cenvOf X scope cl code C)).onRaise (leaving (cenvOf X scope cl code C))) [] s
  unfold compStart
  rw [Sem.onRaise_eq_wrap]
  show Seg _ _ _ _ _ s₀ _ ((ask >>= _).wrap _ _ _ _) [] s
  refine seg_bind_wrap (wpAny_askSetting ?_)
  split
  · exact seg_again rfl loop
  · refine seg_bind_wrap (wpAny_rule ?_)
    show Seg _ _ _ _ _ s₀ _ ((standAt iter.pos >>= _).wrap _ _ _ _) [] s
    exact seg_bind_wrap (wpAny_standAt (seg_bind_wrap (T.self _ 0 s _ _ hst (seg_again rfl loop))))

/-- a generator that stands ready, in the state s: it will go on from the turn i -/
def GSt (X Xg : Cx) (fp : List Addr) (tn : Nat → Heap → Prop) (W : Nat → Nat → L2.St → Hp → Prop) (Qe : Hp → Prop) (K : Nat → Nat → L2.St → V → Hp → Prop) (gn n : Nat) (H : Hp) (s : Shared) : Prop :=
  ∃ σ gs, Inv Xg [] σ H s ∧ (∀ b ∈ fp, H b = none) ∧ s.gens[gn]? = some gs ∧ ∀ s'', s''.heap = s.heap → s''.os = s.os → AllBare s''.gens →
    gs.Goes (model X.prog X.w) X.A.in1.in1 (fun n s₀ r s₁ => r = .ok .next ∧ gEnd Xg fp Qe n s₀ s₁) (gYld Xg fp tn W K) n (.send .none) s''

/-- what all and any ask of an item: stop: the truth at which they end -/
def KB (stop : Bool) (W : Nat → Nat → L2.St → Hp → Prop) (Qb : Bool → Hp → Prop) : Nat → Nat → L2.St → V → Hp → Prop := fun i m σ r H =>
  ∃ b, r = .bl b ∧ if b = stop then Qb stop H else ∃ m', m' < m ∧ W (i + 1) m' σ H

theorem g_next {stop : Bool} {gn : Nat} {Qb : Bool → Hp → Prop} {Q : Option Value → Shared → Prop} {E : Value → Shared → Prop} {n : Nat} {H : Hp} {s : Shared} {k : Nat} {pn : List (Addr × Obj)}
    (hr : Room k X.A) (hgo : ∀ s : Shared, s.heap.get? ga = some go → s.heap.IsGen ga gn) (hpn : pn = [(ga, go)])
    (st : GSt X (gX X N elt tg iter scope gpos cl code C it fp s2 H2 pn) fp tn W (Qb (!stop)) (KB stop W Qb) gn n H s)
    (hend : ∀ σ H' s', Inv (gX X N elt tg iter scope gpos cl code C it fp s2 H2 pn) [] σ H' s' → (∀ b ∈ fp, H' b = none) → Qb (!stop) H' → Q none s')
    (hstop : ∀ σ H' s', Inv (gX X N elt tg iter scope gpos cl code C it fp s2 H2 pn) [] σ H' s' → (∀ b ∈ fp, H' b = none) → Qb stop H' → Q (some (.bool stop)) s')
    (hgoon : ∀ m H' s', n = m + 1 → GSt X (gX X N elt tg iter scope gpos cl code C it fp s2 H2 pn) fp tn W (Qb (!stop)) (KB stop W Qb) gn m H' s' → Q (some (.bool (!stop))) s') :
    wpAny (model X.prog X.w) X.A.in1 (pyNext (.ref ga)) Q E s := by
  subst hpn
  obtain ⟨σ, gs, I, hn, hgs, goes⟩ := st
  have hlt : gn + 1 ≤ s.gens.size := by
    rcases Nat.lt_or_ge gn s.gens.size with h | h
    · exact h
    · rw [Array.getElem?_eq_none h] at hgs; cases hgs
  have hpin := (I.pin (ga, go) (List.mem_append_left _ (List.mem_singleton.mpr rfl))).1
  refine wpAny_gsz (n := gn + 1) hlt ?_
  refine wpAny_pyNext_genexpQ (Y := gYld (gX X N elt tg iter scope gpos cl code C it fp s2 H2 [(ga, go)]) fp tn W (KB stop W Qb)) (P := gEnd (gX X N elt tg iter scope gpos cl code C it fp s2 H2 [(ga, go)]) fp (Qb (!stop))) (n := n) hr.hd I.nolimit hr.depth (hgo s hpin) hgs (goes _ rfl rfl (allBare_set I.bare rfl)) (fun v s₁ gs' hb hv => ?_) (fun s₁ hp h' hk => ?_)
  · obtain ⟨i, m, σ', H', r, rv, J', st', n', ⟨b, eb, kb⟩, kap⟩ := hv
    subst eb
    obtain rfl : v = Value.bool b := rv
    have J2 : Inv (gX X N elt tg iter scope gpos cl code C it fp s2 H2 [(ga, go)]) [] σ' H' (s₁.setGen gn gs') := inv_awake J' rfl rfl (allBare_set J'.bare hb)
    intro hsz
    by_cases e : b = stop
    · subst e
      rw [if_pos rfl] at kb
      exact hstop σ' H' _ J2 n' kb
    · rw [if_neg e] at kb
      have eb : b = !stop := by cases b <;> cases stop <;> simp_all
      subst eb
      obtain ⟨m', hm', w'⟩ := kb
      cases n with
      | zero => exact (kap m' s₁ hm' w' rfl rfl J'.bare).elim
      | succ n0 =>
        exact hgoon n0 H' _ rfl ⟨σ', gs', J2, n', setGen_at hsz, fun s'' e1 e2 e3 => kap m' s'' hm' w' e1 e2 e3⟩
  · obtain ⟨σ', H', J', n', q⟩ := hp
    intro _
    have J2 : Inv (gX X N elt tg iter scope gpos cl code C it fp s2 H2 [(ga, go)]) [] σ' H' (s₁.setGen gn .finished) := inv_awake J' rfl rfl (allBare_set J'.bare rfl)
    exact hend σ' H' _ (J2.kept (t' := s₁.toks) hk) n' q

theorem all_loop {gn : Nat} {Qb : Bool → Hp → Prop} {k : Nat} {pn : List (Addr × Obj)} {R : Result → Shared → Prop}
    (hr : Room k X.A) (hgo : ∀ s : Shared, s.heap.get? ga = some go → s.heap.IsGen ga gn) (hpn : pn = [(ga, go)])
    (hR : ∀ b σ H' s', Inv (gX X N elt tg iter scope gpos cl code C it fp s2 H2 pn) [] σ H' s' → (∀ b ∈ fp, H' b = none) → Qb b H' → R (.ok (.ret (.bool b))) s') :
    ∀ (n : Nat) (H : Hp) (s : Shared), GSt X (gX X N elt tg iter scope gpos cl code C it fp s2 H2 pn) fp tn W (Qb true) (KB false W Qb) gn n H s → codeAny (model X.prog X.w) X.A (.builtin "all.loop" ⟨[.ref ga], []⟩) R s := by
  intro n
  induction n with
  | zero =>
    intro H s st
    refine codeAny_builtin F.entry_all_loop ?_
    rw [Around.under_plainId F.plain_all_loop _]
    show wpAny _ X.A.in1 (pyNext (.ref ga) >>= _) _ _ s
    refine wpAny_bind (g_next (stop := false) hr hgo hpn st (fun σ H' s' J n' q => ?_) (fun σ H' s' J n' q => ?_) (fun m H' s' e => by omega))
    · exact wpAny_bind (wpAny_rule (wpAny_pure (hR true σ H' s' J n' q)))
    · refine wpAny_bind (wpAny_holding (wpAny_truthy_bool ?_))
      refine wpAny_bind (wpAny_letGo ?_)
      simp only [Bool.false_eq_true, if_false]
      exact wpAny_bind (wpAny_rule (wpAny_pure (hR false σ H' s' J n' q)))
  | succ n ih =>
    intro H s st
    refine codeAny_builtin F.entry_all_loop ?_
    rw [Around.under_plainId F.plain_all_loop _]
    show wpAny _ X.A.in1 (pyNext (.ref ga) >>= _) _ _ s
    refine wpAny_bind (g_next (stop := false) hr hgo hpn st (fun σ H' s' J n' q => ?_) (fun σ H' s' J n' q => ?_) (fun m H' s' e st' => ?_))
    · exact wpAny_bind (wpAny_rule (wpAny_pure (hR true σ H' s' J n' q)))
    · refine wpAny_bind (wpAny_holding (wpAny_truthy_bool ?_))
      refine wpAny_bind (wpAny_letGo ?_)
      simp only [Bool.false_eq_true, if_false]
      exact wpAny_bind (wpAny_rule (wpAny_pure (hR false σ H' s' J n' q)))
    · have e' : m = n := by omega
      subst e'
      refine wpAny_bind (wpAny_holding (wpAny_truthy_bool ?_))
      refine wpAny_bind (wpAny_letGo ?_)
      simp only [Bool.not_false, if_true]
      exact wpAny_pure ⟨plainId_quiet F.plain_all_loop _, ih H' s' st'⟩

theorem any_loop {gn : Nat} {Qb : Bool → Hp → Prop} {k : Nat} {pn : List (Addr × Obj)} {R : Result → Shared → Prop}
    (hr : Room k X.A) (hgo : ∀ s : Shared, s.heap.get? ga = some go → s.heap.IsGen ga gn) (hpn : pn = [(ga, go)])
    (hR : ∀ b σ H' s', Inv (gX X N elt tg iter scope gpos cl code C it fp s2 H2 pn) [] σ H' s' → (∀ b ∈ fp, H' b = none) → Qb b H' → R (.ok (.ret (.bool b))) s') :
    ∀ (n : Nat) (H : Hp) (s : Shared), GSt X (gX X N elt tg iter scope gpos cl code C it fp s2 H2 pn) fp tn W (Qb false) (KB true W Qb) gn n H s → codeAny (model X.prog X.w) X.A (.builtin "any.loop" ⟨[.ref ga], []⟩) R s := by
  intro n
  induction n with
  | zero =>
    intro H s st
    refine codeAny_builtin F.entry_any_loop ?_
    rw [Around.under_plainId F.plain_any_loop _]
    show wpAny _ X.A.in1 (pyNext (.ref ga) >>= _) _ _ s
    refine wpAny_bind (g_next (stop := true) hr hgo hpn st (fun σ H' s' J n' q => ?_) (fun σ H' s' J n' q => ?_) (fun m H' s' e => by omega))
    · exact wpAny_bind (wpAny_rule (wpAny_pure (hR false σ H' s' J n' q)))
    · refine wpAny_bind (wpAny_holding (wpAny_truthy_bool ?_))
      refine wpAny_bind (wpAny_letGo ?_)
      simp only [if_true]
      exact wpAny_bind (wpAny_rule (wpAny_pure (hR true σ H' s' J n' q)))
  | succ n ih =>
    intro H s st
    refine codeAny_builtin F.entry_any_loop ?_
    rw [Around.under_plainId F.plain_any_loop _]
    show wpAny _ X.A.in1 (pyNext (.ref ga) >>= _) _ _ s
    refine wpAny_bind (g_next (stop := true) hr hgo hpn st (fun σ H' s' J n' q => ?_) (fun σ H' s' J n' q => ?_) (fun m H' s' e st' => ?_))
    · exact wpAny_bind (wpAny_rule (wpAny_pure (hR false σ H' s' J n' q)))
    · refine wpAny_bind (wpAny_holding (wpAny_truthy_bool ?_))
      refine wpAny_bind (wpAny_letGo ?_)
      simp only [if_true]
      exact wpAny_bind (wpAny_rule (wpAny_pure (hR true σ H' s' J n' q)))
    · have e' : m = n := by omega
      subst e'
      refine wpAny_bind (wpAny_holding (wpAny_truthy_bool ?_))
      refine wpAny_bind (wpAny_letGo ?_)
      simp only [Bool.not_true, Bool.false_eq_true, if_false]
      exact wpAny_pure ⟨plainId_quiet F.plain_any_loop _, ih H' s' st'⟩
end
end GA
set_option Elab.async false
set_option linter.all false
set_option maxRecDepth 100000
set_option maxHeartbeats 2000000
namespace GA
open PySem PySem.Spec PyProof.Rows L2 GxR NdefX
open GenW

/-- the reading of all(elt for tg in iter), any(..): stop: the truth that ends it -/
def tGen (P : Addr) (wi : TI) (g : TG) (te : TE) (N : List Str) (js : List Nat) (stop : Bool) : TE := fun σ H Q =>
  wi σ H fun J H1 => TabG H1 P ∧ ∀ H2, Tabbed P H1 H2 → ∃ W, (∃ m, W 0 m (startF N [] (js.map (slotAt σ))) H2) ∧ GTurn J g te W (fun H' => Q (.bl (!stop)) H') (KB stop W fun b H' => Q (.bl b) H')

section
variable {X : Cx} {N fr : List Str} {js : List Nat} {elt tg iter : Expr} {scope : Scope} {gpos : Pos} {g : TG} {te : TE} {wi : TI} {c P : Addr} {k : Nat} {stop : Bool}

theorem gen_made {pins : List (Addr × Obj)} {σ : L2.St} {H : Hp} {s : Shared} {Q : VK} {Q' : Value → Shared → Prop} (hr : Room (k + 1) X.A) (TB : TabB X.base X.mg c P) (hcode : X.env.code = .ref c) (S : GSc N fr scope)
    (hfree : ∀ y ∈ fr, X.env.scope.names.lookup y = some .cell ∨ X.env.scope.names.lookup y = some .free) (hjs : js.map (fun j => X.N[j]?) = fr.map some)
    (hi : PI X tg iter wi) (hg : ∀ code C it fp s2 H2 pn, PG (gX X N elt tg iter scope gpos (cloFrom X.env.cells scope.names []) code C it fp s2 H2 pn) tg g)
    (he : ∀ code C it fp s2 H2 pn, Room k (gX X N elt tg iter scope gpos (cloFrom X.env.cells scope.names []) code C it fp s2 H2 pn).A → PE (gX X N elt tg iter scope gpos (cloFrom X.env.cells scope.names []) code C it fp s2 H2 pn) elt te)
    (hs : ∀ v, genFold iter X.env v = pure v) (I : Inv X pins σ H s) (h : tGen P wi g te N js stop σ H Q)
    (hQ : ∀ (code : Value) (C it ga : Addr) (go : Obj) (gn n : Nat) (fp : List Addr) (tn : Nat → Heap → Prop) (s2 s5 : Shared) (H2 H5 : Hp) (W : Nat → Nat → L2.St → Hp → Prop),
      (∀ s : Shared, s.heap.get? ga = some go → s.heap.IsGen ga gn) → s5.heap.get? ga = some go →
      GSt X (gX X N elt tg iter scope gpos (cloFrom X.env.cells scope.names []) code C it fp s2 H2 [(ga, go)]) fp tn W (fun H' => Q (.bl (!stop)) H') (KB stop W fun b H' => Q (.bl b) H') gn n H5 s5 →
      (∀ σ' H' s', Inv (gX X N elt tg iter scope gpos (cloFrom X.env.cells scope.names []) code C it fp s2 H2 [(ga, go)]) [] σ' H' s' → Inv X pins σ H' s') → Q' (.ref ga) s5) :
    wpAny (model X.prog X.w) X.A (eval (gexp elt tg iter scope gpos) X.env) Q' X.xe s := by
  have hcl : ∀ y ∈ scope.names, y.2 = .free → ∃ c, X.env.cells.lookup y.1 = some c := fun y hy e => (hfree y.1 (S.free y hy e)).elim (fun z => I.ok.has _ (.inl z)) fun z => I.ok.has _ (.inr z)
  refine wpAny_GeneratorExp_make S.co (closure_ok hcl) S.nocell S.dot S.kind hr.depth ?_ hs
  refine thn (hi.run pins s σ H _ I h) fun xv s1 h1 => thn h1 fun itv s2 h2 => ?_
  obtain ⟨it, fp, tn, J, H2, rfl, I2, T, st2, f2, ⟨ps, hP, ht⟩, q2⟩ := h2
  have hPs : s2.heap.get? P = some { cls := .none, data := .fields ps } := I2.hok P _ hP
  have cd : PySem.W.CodeHd s2.heap c P := TB.code.keeps I2.bk
  have fpo : ∀ b ∈ fp, ∃ o, s2.heap.get? b = some o ∧ ∀ v, o.data ≠ .cell v := T.obj 0 _ st2
  have fpP : ∀ b ∈ fp, b ≠ P := fun b hb z => by
    have := (f2 b hb).1
    rw [z, hP] at this
    cases this
  refine ⟨I2.nolimit, ?_⟩
  have cont : ∀ (cv : Value) (h3 : Heap) (tk : Nat) (ps' : Array Value), Heap.ExtBut P s2.heap h3 → s2.heap.objs.size ≤ h3.objs.size → h3.get? P = some { cls := .none, data := .fields ps' } → (∃ more, ps' = ps ++ more) → TriplesOk ps'.toList →
      wpAny (model X.prog X.w) X.A (builtinsFor X.env.globals X.env.builtins) (fun bi s₄ =>
        ∀ h', (h'.Ns s₄.heap.objs.size fun y => if y = (".0" : Str) then some (Value.ref it) else none) → Heap.SameBut s₄.heap.objs.size (s₄.heap.push { cls := .type "frame", data := .dict #[] }) h' →
          Q' (.ref h'.objs.size) { s₄ with
            gens := s₄.gens.push (.fresh (gstart elt tg iter scope gpos (.ref it) (genEnv scope (cloFrom X.env.cells scope.names []) s₄.heap.objs.size cv bi X.env))),
            toks := s₄.toks + 1 + 1 + 1,
            heap := h'.push { cls := .type "generator", data := .fields #[.int s₄.gens.size 0, .str "<genexpr>" (s₄.toks + 1), .str (X.env.qual ++ "<genexpr>") (s₄.toks + 1 + 1)] } }) X.xe { s2 with heap := h3, toks := tk } := by
    intro cv h3 tk ps' hx hsz hP3 hmore ht3
    obtain ⟨bm, ob, e1, e2, e3, e4, e5, e6, e7, e8⟩ := TB.bm
    have keep3 : ∀ b u, b ≠ P → s2.heap.get? b = some u → h3.get? b = some u := fun b u hb e => hx b u hb e
    refine wpAny_builtinsFor (m := X.mg) (by rw [I2.ok.glob]; exact (I2.mod.glob.keeps I2.bk).extBut hx TB.gP) e1 e2 (keep3 _ _ e4 (I2.bk _ _ e5)) e6 e7 e8 ?_
    intro h' hns hsb
    obtain ⟨more, em⟩ := hmore
    have hC : s2.heap.objs.size ≤ h3.objs.size := hsz
    have sz' : h'.objs.size = h3.objs.size + 1 := by rw [hsb.1, Heap.size_push]
    have keep' : ∀ b u, h3.get? b = some u → h'.get? b = some u := fun b u e => hsb.extBut b u (Nat.ne_of_lt (Heap.lt_size e)) (Heap.get?_push_of_some _ e)
    generalize hgo : ({ cls := .type "generator", data := .fields #[.int ({ s2 with heap := h3, toks := tk } : Shared).gens.size 0, .str "<genexpr>" (({ s2 with heap := h3, toks := tk } : Shared).toks + 1), .str (X.env.qual ++ "<genexpr>") (({ s2 with heap := h3, toks := tk } : Shared).toks + 1 + 1)] } : Obj) = go
    have gens : ∀ s : Shared, s.heap.get? h'.objs.size = some go → s.heap.IsGen h'.objs.size s2.gens.size := fun s e => by
      rw [← hgo] at e
      exact ⟨_, _, _, e, rfl, rfl, rfl⟩
    have hgat : (h'.push go).get? h'.objs.size = some go := Heap.get?_push_size _ (by rw [← hgo]; rfl)
    have keep5 : ∀ b u, b ≠ P → s2.heap.get? b = some u → (h'.push go).get? b = some u := fun b u hb e => Heap.get?_push_of_some _ (keep' b u (keep3 b u hb e))
    have hP5 : (h'.push go).get? P = some { cls := .none, data := .fields ps' } := Heap.get?_push_of_some _ (keep' _ _ hP3)
    have hPlt : P < s2.heap.objs.size := Heap.lt_size hPs
    -- the caller's invariant at the end of the making
    have J : Inv X pins σ (upd H2 P (.tbl (ps ++ more))) { s2 with heap := h'.push go, gens := s2.gens.push (.fresh (gstart elt tg iter scope gpos (.ref it) (cenvOf X scope (cloFrom X.env.cells scope.names []) cv h3.objs.size))), drawn := s2.drawn, toks := tk + 1 + 1 + 1 } :=
      inv_tab (more := more) I2 hP (fun b u hb e => keep5 b u hb e) (by rw [← em]; exact hP5) (I2.bare.push rfl)
    have tb5 : Tabbed P H2 (upd H2 P (.tbl (ps ++ more))) := ⟨⟨ps ++ more, upd_same, by rw [← em]; exact ht3⟩, fun b hb => upd_ne hb⟩
    obtain ⟨W, ⟨m, w0⟩, turn⟩ := q2 _ tb5
    have fpn : ∀ b ∈ fp, upd H2 P (.tbl (ps ++ more)) b = none := fun b hb => by rw [upd_ne (fpP b hb)]; exact (f2 b hb).1
    have fpl : ∀ b ∈ fp, b < s2.heap.objs.size := fun b hb => by
      obtain ⟨o, e, _⟩ := fpo b hb
      exact Heap.lt_size e
    have un5 : Un (frs X.stack) fp H2 (upd H2 P (.tbl (ps ++ more))) s2.heap (h'.push go) := by
      have nP : ∀ b u, H2 b = some u → (∀ q, u ≠ .tbl q) → b ≠ P := fun b u e q z => by
        rw [z, hP] at e
        exact q ps (Option.some.inj e).symm
      have nN : ∀ b, H2 b = none → b ≠ P := fun b e z => by
        rw [z, hP] at e
        cases e
      refine ⟨fun b o e n _ _ => keep5 b o (nN b n) e, fun b o e n _ _ => ⟨o.slots, keep5 b o (nN b n) e⟩, fun b o e n _ => by rw [upd_ne (nN b n)]; exact n, fun b o e _ => ?_, fun b xs e => by rw [upd_ne (nP b _ e (fun q z => by cases z))]; exact e,
        fun b o u e => by rw [upd_ne (nP b _ e (fun q z => by cases z))]; exact e, fun b qs e => ?_⟩
      · by_cases hb : b = P
        · rw [hb]; exact ⟨_, hP5⟩
        · exact ⟨o, keep5 b o hb e⟩
      · by_cases hb : b = P
        · rw [hb, hP] at e
          cases e
          rw [hb, upd_same]
          exact ⟨more, rfl⟩
        · rw [upd_ne hb, e]
          exact ⟨#[], by simp⟩
    have hCn : ∀ b : Addr, s2.heap.objs.size ≤ b → b ≠ P := fun b hb z => by
      rw [z] at hb
      exact Nat.lt_irrefl _ (Nat.lt_of_lt_of_le hPlt hb)
    have hC5 : upd H2 P (.tbl (ps ++ more)) h3.objs.size = none := by rw [upd_ne (hCn _ hC)]; exact I2.hok.fresh hC
    have hga : s2.heap.objs.size ≤ h'.objs.size := by rw [sz']; exact Nat.le_succ_of_le hC
    have cp : Caps X (cloFrom X.env.cells scope.names []) fr js := Caps.made I2.ok (fun y hy e => hfree y.1 (S.free y hy e)) S.frm hjs
    have IG : Inv (gX X N elt tg iter scope gpos (cloFrom X.env.cells scope.names []) cv h3.objs.size it fp s2 H2 [(h'.objs.size, go)]) [] (startF N [] (js.map (slotAt σ))) (upd H2 P (.tbl (ps ++ more)))
        { s2 with heap := h'.push go, gens := s2.gens.push (.fresh (gstart elt tg iter scope gpos (.ref it) (cenvOf X scope (cloFrom X.env.cells scope.names []) cv h3.objs.size))), drawn := s2.drawn, toks := tk + 1 + 1 + 1 } := by
      refine inv_gcx (m := fun y => if y = (".0" : Str) then some (Value.ref it) else none) I2 S cp hr.hd (overL_fr I2.ok.frames) f2 fpl hC (hns.push _) rfl J.bare un5 J.hok hC5 fun p hp => ?_
      rw [List.mem_singleton.mp hp]
      refine ⟨hgat, ?_, ?_, fun z => ?_, fun v z => ?_⟩
      · rw [upd_ne (hCn _ hga)]; exact I2.hok.fresh hga
      · intro z
        have z' : h'.objs.size = h3.objs.size := z
        omega
      · have z' : h'.objs.size ∈ frs X.stack := z
        exact not_stk I2 (Nat.ne_of_gt (Nat.lt_of_lt_of_le I2.lt hga)) (I2.nofs hga) z'
      · have z' : go.data = .cell v := z
        rw [← hgo] at z'
        cases z'
    have gaf : h'.objs.size ∉ fp := fun z => Nat.lt_irrefl _ (Nat.lt_of_lt_of_le (fpl _ z) hga)
    have st5 : tn 0 (h'.push go) := T.keep 0 _ _ st2 fun b hb o e => keep5 b o (fpP b hb) e
    refine hQ cv h3.objs.size it h'.objs.size go s2.gens.size m fp tn s2 _ H2 _ W gens hgat ⟨_, _, IG, fpn, Array.getElem?_push_size .., fun s'' x1 x2 x3 => ⟨rfl, ?_⟩⟩ fun σ' H' s' Ig => ?_
    · have r5 : Room k (gX X N elt tg iter scope gpos (cloFrom X.env.cells scope.names []) cv h3.objs.size it fp s2 H2 [(h'.objs.size, go)]).A := roomL hr
      exact seg_gstart (hg _ _ _ _ _ _ _) (he _ _ _ _ _ _ _ r5) T gaf S.co turn m m s'' s'' _ _ (Nat.le_refl _) w0 (inv_awake IG x1 x2 x3) (by rw [x1]; exact st5) fpn
    · refine Inv.call' (ch := fp) I2 Ig.os Ig.base Ig.hok Ig.bare fun b hb => ?_
      obtain ⟨g1, g2, g3, g4, g5, g6⟩ := f2 b hb
      exact ⟨g4, g2, g5, g6⟩
  cases hf : codeAmong gpos ps.toList with
  | none =>
    refine wpAny_genexprCodeX hcode (cd.code hPs ht) (cd.tab hPs) hf fun c' h' tk hx hge hlt hco' _ htab' _ => ?_
    obtain ⟨o1, vs, f1, tf, fl, tg, inF, tx, tt, op, _, _, _, _, _, _, _, _, _, htr, _⟩ := hco'
    exact cont _ h' tk _ hx (Nat.le_trans hge (Nat.le_of_lt hlt)) htab'.2 ⟨_, rfl⟩ htr
  | some cv =>
    refine wpAny_genexprCode_hit hcode (cd.code hPs ht) hf ?_
    exact cont cv s2.heap s2.toks ps (Heap.ExtBut.refl _ _) (Nat.le_refl _) hPs ⟨#[], by simp⟩ ht

/-- all(elt for tg in iter) -/
theorem pe_all {p pos : Pos} (hr : Room (k + 1) X.A) (hgl : Gl X "all") (hm : X.mg "all" = none) (TB : TabB X.base X.mg c P) (hcode : X.env.code = .ref c) (S : GSc N fr scope)
    (hfree : ∀ y ∈ fr, X.env.scope.names.lookup y = some .cell ∨ X.env.scope.names.lookup y = some .free) (hjs : js.map (fun j => X.N[j]?) = fr.map some)
    (hi : PI X tg iter wi) (hg : ∀ code C it fp s2 H2 pn, PG (gX X N elt tg iter scope gpos (cloFrom X.env.cells scope.names []) code C it fp s2 H2 pn) tg g)
    (he : ∀ code C it fp s2 H2 pn, Room k (gX X N elt tg iter scope gpos (cloFrom X.env.cells scope.names []) code C it fp s2 H2 pn).A → PE (gX X N elt tg iter scope gpos (cloFrom X.env.cells scope.names []) code C it fp s2 H2 pn) elt te)
    (hs : ∀ v, genFold iter X.env v = pure v := by intro _; rfl) (hse : starEach [gexp elt tg iter scope gpos] X.env = (false, eval (gexp elt tg iter scope gpos) X.env) :: starEach [] X.env := by rfl) :
    PE X (.Call (.Name "all" p) [gexp elt tg iter scope gpos] [] pos) (tGen P wi g te N js false) := by
  refine ⟨fun pins s σ H Q I h => ?_⟩
  refine wpAny_Call_Name_kw (ld_blt I hgl hm (by decide +kernel : bootBuiltins "all" = some (.builtin "all")) ?_)
  refine PyProof.Rows.callWith_builtin1 ?_ hse (by rfl)
  rw [hse]
  show wpAny _ _ (spliced ((false, eval (gexp elt tg iter scope gpos) X.env) :: backTo pos (starEach [] X.env))) _ _ s
  refine Calls.spliced_cons (gen_made (stop := false) hr TB hcode S hfree hjs hi hg he hs I h fun code C it ga go gn n fp tn s2 s5 H2 H5 W hgo hga st lv => ?_)
  refine Calls.spliced_nil ?_
  refine call_function_tree F.kind_all F.plain_all F.entry_all (F.args_all1 _) ?_
  unfold Builtin.«all»
  refine wpAny_bind (m := oneArg "all" _) (wpAny_pure ?_)
  refine wpAny_bind (wpAny_pyIter_gen (hgo s5 hga) ?_)
  refine wpAny_pure ⟨plainId_quiet F.plain_all_loop _, ?_⟩
  exact all_loop (Qb := fun b H' => Q (.bl b) H') hr hgo rfl (fun b σ' H' s' Ig _ q => ⟨.bl b, H', lv σ' H' s' Ig, rfl, q⟩) n H5 s5 st

/-- any(elt for tg in iter) -/
theorem pe_any {p pos : Pos} (hr : Room (k + 1) X.A) (hgl : Gl X "any") (hm : X.mg "any" = none) (TB : TabB X.base X.mg c P) (hcode : X.env.code = .ref c) (S : GSc N fr scope)
    (hfree : ∀ y ∈ fr, X.env.scope.names.lookup y = some .cell ∨ X.env.scope.names.lookup y = some .free) (hjs : js.map (fun j => X.N[j]?) = fr.map some)
    (hi : PI X tg iter wi) (hg : ∀ code C it fp s2 H2 pn, PG (gX X N elt tg iter scope gpos (cloFrom X.env.cells scope.names []) code C it fp s2 H2 pn) tg g)
    (he : ∀ code C it fp s2 H2 pn, Room k (gX X N elt tg iter scope gpos (cloFrom X.env.cells scope.names []) code C it fp s2 H2 pn).A → PE (gX X N elt tg iter scope gpos (cloFrom X.env.cells scope.names []) code C it fp s2 H2 pn) elt te)
    (hs : ∀ v, genFold iter X.env v = pure v := by intro _; rfl) (hse : starEach [gexp elt tg iter scope gpos] X.env = (false, eval (gexp elt tg iter scope gpos) X.env) :: starEach [] X.env := by rfl) :
    PE X (.Call (.Name "any" p) [gexp elt tg iter scope gpos] [] pos) (tGen P wi g te N js true) := by
  refine ⟨fun pins s σ H Q I h => ?_⟩
  refine wpAny_Call_Name_kw (ld_blt I hgl hm boot_any ?_)
  refine PyProof.Rows.callWith_builtin1 ?_ hse (by rfl)
  rw [hse]
  show wpAny _ _ (spliced ((false, eval (gexp elt tg iter scope gpos) X.env) :: backTo pos (starEach [] X.env))) _ _ s
  refine Calls.spliced_cons (gen_made (stop := true) hr TB hcode S hfree hjs hi hg he hs I h fun code C it ga go gn n fp tn s2 s5 H2 H5 W hgo hga st lv => ?_)
  refine Calls.spliced_nil ?_
  refine call_function_tree F.kind_any F.plain_any F.entry_any (F.args_any1 _) ?_
  unfold Builtin.«any»
  refine wpAny_bind (m := oneArg "any" _) (wpAny_pure ?_)
  refine wpAny_bind (wpAny_pyIter_gen (hgo s5 hga) ?_)
  refine wpAny_pure ⟨plainId_quiet F.plain_any_loop _, ?_⟩
  exact any_loop (Qb := fun b H' => Q (.bl b) H') hr hgo rfl (fun b σ' H' s' Ig _ q => ⟨.bl b, H', lv σ' H' s' Ig, rfl, q⟩) n H5 s5 st
end
end GA
set_option Elab.async false
set_option linter.all false
set_option maxRecDepth 100000
set_option maxHeartbeats 2000000
/-! own words, 2: heaps that go on, data at any depth with empty dicts, isinstance of data -/
namespace SL
open PySem PySem.Spec PyProof.Rows L2 GxR NdefX GA

/-- the code tables that the law's defs have -/
def Tabs (T : List Addr) (H : Hp) : Prop := ∀ P ∈ T, TabG H P
/-- from H on: what was tracked stands but at M; the tables grow -/
structure Go (T M : List Addr) (H H' : Hp) : Prop where
  gr : ∀ b o, H b = some o → b ∉ M → (∀ ps, o ≠ .tbl ps) → H' b = some o
  al : ∀ b, H' b = none → H b = none
  tb : Tabs T H → Tabs T H'
section
variable {T M M' : List Addr} {H H1 H2 : Hp} {p : Addr} {o : HO}
theorem Go.refl : Go T M H H := ⟨fun _ _ e _ _ => e, fun _ e => e, fun t => t⟩
theorem Go.trans (a : Go T M H H1) (b : Go T M H1 H2) : Go T M H H2 := ⟨fun c o e n t => b.gr c o (a.gr c o e n t) n t, fun c e => a.al c (b.al c e), fun t => b.tb (a.tb t)⟩
theorem Go.more (a : Go T M H H1) (h : ∀ b ∈ M, b ∈ M') : Go T M' H H1 := ⟨fun c o e n t => a.gr c o e (fun z => n (h c z)) t, a.al, a.tb⟩
theorem Go.of0 (a : Go T [] H H1) : Go T M H H1 := a.more fun _ h => by simp at h
theorem Tabs.new (t : Tabs T H) (h : H p = none) : Tabs T (upd H p o) := fun P hP => by
  obtain ⟨ps, e, r⟩ := t P hP
  exact ⟨ps, by rw [upd_ne (ne_of_none e h)]; exact e, r⟩
theorem Go.new (h : H p = none) : Go T M H (upd H p o) := ⟨fun b u e _ _ => by rw [upd_ne (ne_of_none e h)]; exact e, fun b e => upd_none e, fun t => t.new h⟩
theorem Go.set {u : HO} (h : H p = some u) (hu : ∀ ps, u ≠ .tbl ps) (hm : p ∈ M) : Go T M H (upd H p o) :=
  ⟨fun b v e n _ => by rw [upd_ne (fun z => n (by rw [z]; exact hm))]; exact e, fun b e => upd_none e, fun t P hP => by
    obtain ⟨ps, e, r⟩ := t P hP
    exact ⟨ps, by rw [upd_ne (ne_of e h (fun z => hu ps z.symm))]; exact e, r⟩⟩
theorem Go.tbd {P : Addr} (t : TabG H P) (x : Tabbed P H H1) : Go T M H H1 := by
  obtain ⟨ps, e, r⟩ := t
  refine ⟨fun b o hb _ hn => ?_, fun b hb => ?_, fun z Q hQ => ?_⟩
  · by_cases h : b = P
    · rw [h, e] at hb
      exact absurd (Option.some.inj hb).symm (hn ps)
    · rw [x.2 b h]; exact hb
  · by_cases h : b = P
    · obtain ⟨ps', e', _⟩ := x.1
      rw [h, e'] at hb
      cases hb
    · rw [← x.2 b h]; exact hb
  · by_cases h : Q = P
    · rw [h]; exact x.1
    · obtain ⟨qs, e1, e2⟩ := z Q hQ
      exact ⟨qs, by rw [x.2 Q h]; exact e1, e2⟩
theorem Go.over {u : HO} (g : Go T M H H1) (n : H p = none) (e : H1 p = some u) (hu : ∀ ps, u ≠ .tbl ps) : Go T M H (upd H1 p o) :=
  ⟨fun b v h m t => by rw [upd_ne (ne_of_none h n)]; exact g.gr b v h m t, fun b h => g.al b (upd_none h), fun t => (Go.set (M := [p]) e hu (by simp)).tb (g.tb t)⟩
theorem Go.lst {xs : List V} {a : Addr} (g : Go T M H H1) (h : H a = some (.lst xs)) (n : a ∉ M) : H1 a = some (.lst xs) := g.gr a _ h n fun _ z => by cases z
theorem Go.tup {xs : List V} {a : Addr} (g : Go T M H H1) (h : H a = some (.tup xs)) (n : a ∉ M) : H1 a = some (.tup xs) := g.gr a _ h n fun _ z => by cases z
theorem Go.sqT {K : PySem.W.Frag} {xs : List V} {a : Addr} (g : Go T [] H H1) (h : SqT K H a xs) : SqT K H1 a xs := by
  rcases h with (h | ⟨o, h⟩) | h
  · exact .inl (.inl (g.gr a _ h (by simp) fun _ z => by cases z))
  · exact .inl (.inr ⟨o, g.gr a _ h (by simp) fun _ z => by cases z⟩)
  · exact .inr h
theorem Go.sqL {K : PySem.W.Frag} {xs : List V} {a : Addr} (g : Go T [] H H1) (h : SqL K H a xs) : SqL K H1 a xs := by
  rcases h with (h | ⟨o, h⟩) | h
  · exact .inl (.inl (g.gr a _ h (by simp) fun _ z => by cases z))
  · exact .inl (.inr ⟨o, g.gr a _ h (by simp) fun _ z => by cases z⟩)
  · exact .inr h
end

mutual
/-- the value v bears the data d; none of it stands at M -/
inductive Dv (M : List Addr) (H : Hp) : V → PyData → Prop
  | non : Dv M H .non .none
  | bl (b : Bool) : Dv M H (.bl b) (.bool b)
  | int (i : Int) : Dv M H (.int i) (.int i)
  | str (x : Str) : Dv M H (.str x) (.str x)
  | lst {a : Addr} {xs : List V} {ds : List PyData} : H a = some (.lst xs) → a ∉ M → DvAll M H xs ds → Dv M H (.ref a) (.list ds)
  | tup {a : Addr} {xs : List V} {ds : List PyData} : H a = some (.tup xs) → a ∉ M → DvAll M H xs ds → Dv M H (.ref a) (.tuple ds)
  | dct {a : Addr} : H a = some (.dK []) → a ∉ M → Dv M H (.ref a) (.dict [])
inductive DvAll (M : List Addr) (H : Hp) : List V → List PyData → Prop
  | nil : DvAll M H [] []
  | cons {v : V} {vs : List V} {d : PyData} {ds : List PyData} : Dv M H v d → DvAll M H vs ds → DvAll M H (v :: vs) (d :: ds)
end
section
variable {T M M' : List Addr} {H H1 H2 : Hp} {p : Addr} {o : HO}
mutual
theorem Dv.map (g : ∀ b o, H b = some o → b ∉ M → (∀ ps, o ≠ .tbl ps) → H1 b = some o ∧ b ∉ M') : ∀ {v : V} {d : PyData}, Dv M H v d → Dv M' H1 v d
  | _, _, .non => .non
  | _, _, .bl b => .bl b
  | _, _, .int i => .int i
  | _, _, .str x => .str x
  | _, _, .lst e n r => .lst (g _ _ e n fun _ z => by cases z).1 (g _ _ e n fun _ z => by cases z).2 (DvAll.map g r)
  | _, _, .tup e n r => .tup (g _ _ e n fun _ z => by cases z).1 (g _ _ e n fun _ z => by cases z).2 (DvAll.map g r)
  | _, _, .dct e n => .dct (g _ _ e n fun _ z => by cases z).1 (g _ _ e n fun _ z => by cases z).2
theorem DvAll.map (g : ∀ b o, H b = some o → b ∉ M → (∀ ps, o ≠ .tbl ps) → H1 b = some o ∧ b ∉ M') : ∀ {vs : List V} {ds : List PyData}, DvAll M H vs ds → DvAll M' H1 vs ds
  | _, _, .nil => .nil
  | _, _, .cons h t => .cons (Dv.map g h) (DvAll.map g t)
end
theorem Dv.go {v : V} {d : PyData} (h : Dv M H v d) (g : Go T M H H1) : Dv M H1 v d := h.map fun b o e n t => ⟨g.gr b o e n t, n⟩
theorem DvAll.go {v : List V} {d : List PyData} (h : DvAll M H v d) (g : Go T M H H1) : DvAll M H1 v d := h.map fun b o e n t => ⟨g.gr b o e n t, n⟩
theorem Dv.less {v : V} {d : PyData} (h : Dv M H v d) (s : ∀ b ∈ M', b ∈ M) : Dv M' H v d := h.map fun b o e n _ => ⟨e, fun z => n (s b z)⟩
theorem DvAll.less {v : List V} {d : List PyData} (h : DvAll M H v d) (s : ∀ b ∈ M', b ∈ M) : DvAll M' H v d := h.map fun b o e n _ => ⟨e, fun z => n (s b z)⟩
/-- a new object is kept apart from now on -/
theorem Dv.hide {v : V} {d : PyData} (h : Dv M H v d) (hp : H p = none) : Dv (p :: M) H v d := h.map fun b o e n _ => ⟨e, fun z => (List.mem_cons.mp z).elim (fun y => by rw [y, hp] at e; cases e) n⟩
theorem DvAll.hide {v : List V} {d : List PyData} (h : DvAll M H v d) (hp : H p = none) : DvAll (p :: M) H v d := h.map fun b o e n _ => ⟨e, fun z => (List.mem_cons.mp z).elim (fun y => by rw [y, hp] at e; cases e) n⟩

theorem DvAll.length : ∀ {xs : List V} {ds : List PyData}, DvAll M H xs ds → xs.length = ds.length
  | _, _, .nil => rfl
  | _, _, .cons _ t => by rw [List.length_cons, List.length_cons, DvAll.length t]
theorem DvAll.append : ∀ {xs ys : List V} {ds es : List PyData}, DvAll M H xs ds → DvAll M H ys es → DvAll M H (xs ++ ys) (ds ++ es)
  | _, _, _, _, .nil, s => s
  | _, _, _, _, .cons r t, s => .cons r (DvAll.append t s)
theorem DvAll.take : ∀ {xs : List V} {ds : List PyData} (n : Nat), DvAll M H xs ds → DvAll M H (xs.take n) (ds.take n)
  | _, _, 0, _ => .nil
  | _, _, _ + 1, .nil => .nil
  | _, _, n + 1, .cons r t => .cons r (DvAll.take n t)
theorem DvAll.drop : ∀ {xs : List V} {ds : List PyData} (n : Nat), DvAll M H xs ds → DvAll M H (xs.drop n) (ds.drop n)
  | _, _, 0, r => r
  | _, _, _ + 1, .nil => .nil
  | _, _, n + 1, .cons _ t => DvAll.drop n t
theorem DvAll.get : ∀ {xs : List V} {ds : List PyData} {i : Nat} {x : V}, DvAll M H xs ds → xs[i]? = some x → ∃ d, ds[i]? = some d ∧ Dv M H x d
  | _, _, _, _, .nil, e => by simp at e
  | _, _, 0, _, .cons r _, e => by simp at e; subst e; exact ⟨_, rfl, r⟩
  | _, _, i + 1, x, .cons _ t, e => by
    obtain ⟨u, h1, h2⟩ := DvAll.get (i := i) (x := x) t (by simpa using e)
    exact ⟨u, by simpa using h1, h2⟩
theorem DvAll.getD : ∀ {xs : List V} {ds : List PyData} {i : Nat} {d : PyData}, DvAll M H xs ds → ds[i]? = some d → ∃ x, xs[i]? = some x ∧ Dv M H x d
  | _, _, _, _, .nil, e => by simp at e
  | _, _, 0, _, .cons r _, e => by simp at e; subst e; exact ⟨_, rfl, r⟩
  | _, _, i + 1, x, .cons _ t, e => by
    obtain ⟨u, h1, h2⟩ := DvAll.getD (i := i) (d := x) t (by simpa using e)
    exact ⟨u, by simpa using h1, h2⟩
theorem DvAll.strs : ∀ (xs : List Str), DvAll M H (xs.map V.str) (xs.map PyData.str)
  | [] => .nil
  | x :: r => .cons (.str x) (DvAll.strs r)
theorem DvAll.of_strs : ∀ {vs : List V} {xs : List Str}, DvAll M H vs (xs.map PyData.str) → vs = xs.map V.str
  | [], [], _ => rfl
  | _ :: _, _ :: _, .cons h t => by
    cases h
    rw [DvAll.of_strs t] <;> rfl
theorem DvAll.ints : ∀ (xs : List Int), DvAll M H (xs.map V.int) (xs.map PyData.int)
  | [] => .nil
  | x :: r => .cons (.int x) (DvAll.ints r)
/-- the slices' bounds -/
theorem DvAll.cut {xs : List V} {ds : List PyData} (h : DvAll M H xs ds) (lo hi : Option Int) : DvAll M H (cutV xs lo hi) ((ds.drop (HT.sIx ds.length 0 lo)).take (HT.sIx ds.length ds.length hi - HT.sIx ds.length 0 lo)) := by
  unfold cutV
  rw [h.length]
  exact (h.drop _).take _
end

/-! ### isinstance -/
def tyN : PyData → String
  | .none => "NoneType"
  | .bool _ => "bool"
  | .int _ => "int"
  | .str _ => "str"
  | .list _ => "list"
  | .tuple _ => "tuple"
  | .dict _ => "dict"
section
variable {K : PySem.W.Frag} {M : List Addr} {H : Hp} {v : V} {d : PyData} {Q : VK}
theorem Dv.ty (h : Dv M H v d) : TyX K H v (.type (tyN d)) := by
  cases h with
  | non => exact .base .non
  | bl b => exact .base (.bl b)
  | int i => exact .base (.int i)
  | str x => exact .base (.str x)
  | lst e _ _ => exact .base (.lst e)
  | tup e _ _ => exact .base (.tup e)
  | dct e _ => exact .base (.dK e)
def isTuple : PyData → Bool
  | .tuple _ => true
  | _ => false
def isStr : PyData → Bool
  | .str _ => true
  | _ => false
def isInt : PyData → Bool
  | .int _ => true
  | .bool _ => true
  | _ => false
def isBool : PyData → Bool
  | .bool _ => true
  | _ => false
theorem isi_of {T : String} {b : Bool} (h : Dv M H v d) (k : kitB (tyN d) T = some b) (q : Q (.bl b) H) : rIsi K [v, .ty T] H Q := ⟨v, .ty T, _, .type T, b, rfl, .ty T, h.ty, kit_ty k, q⟩
theorem isi_tuple (h : Dv M H v d) (q : Q (.bl (isTuple d)) H) : rIsi K [v, .ty "tuple"] H Q := by
  refine isi_of h ?_ q
  cases d <;> first
    | exact (by decide +kernel : kitB "NoneType" "tuple" = some false)
    | exact (by decide +kernel : kitB "bool" "tuple" = some false)
    | exact (by decide +kernel : kitB "int" "tuple" = some false)
    | exact (by decide +kernel : kitB "str" "tuple" = some false)
    | exact (by decide +kernel : kitB "list" "tuple" = some false)
    | exact (by decide +kernel : kitB "tuple" "tuple" = some true)
    | exact (by decide +kernel : kitB "dict" "tuple" = some false)
theorem isi_str (h : Dv M H v d) (q : Q (.bl (isStr d)) H) : rIsi K [v, .ty "str"] H Q := by
  refine isi_of h ?_ q
  cases d <;> first
    | exact (by decide +kernel : kitB "NoneType" "str" = some false)
    | exact (by decide +kernel : kitB "bool" "str" = some false)
    | exact (by decide +kernel : kitB "int" "str" = some false)
    | exact (by decide +kernel : kitB "str" "str" = some true)
    | exact (by decide +kernel : kitB "list" "str" = some false)
    | exact (by decide +kernel : kitB "tuple" "str" = some false)
    | exact (by decide +kernel : kitB "dict" "str" = some false)
theorem isi_int (h : Dv M H v d) (q : Q (.bl (isInt d)) H) : rIsi K [v, .ty "int"] H Q := by
  refine isi_of h ?_ q
  cases d <;> first
    | exact (by decide +kernel : kitB "NoneType" "int" = some false)
    | exact (by decide +kernel : kitB "bool" "int" = some true)
    | exact (by decide +kernel : kitB "int" "int" = some true)
    | exact (by decide +kernel : kitB "str" "int" = some false)
    | exact (by decide +kernel : kitB "list" "int" = some false)
    | exact (by decide +kernel : kitB "tuple" "int" = some false)
    | exact (by decide +kernel : kitB "dict" "int" = some false)
theorem isi_bool (h : Dv M H v d) (q : Q (.bl (isBool d)) H) : rIsi K [v, .ty "bool"] H Q := by
  refine isi_of h ?_ q
  cases d <;> first
    | exact (by decide +kernel : kitB "NoneType" "bool" = some false)
    | exact (by decide +kernel : kitB "bool" "bool" = some true)
    | exact (by decide +kernel : kitB "int" "bool" = some false)
    | exact (by decide +kernel : kitB "str" "bool" = some false)
    | exact (by decide +kernel : kitB "list" "bool" = some false)
    | exact (by decide +kernel : kitB "tuple" "bool" = some false)
    | exact (by decide +kernel : kitB "dict" "bool" = some false)
end
end SL
set_option Elab.async false
set_option linter.all false
set_option maxRecDepth 100000
set_option maxHeartbeats 2000000
/-! own words, 3: a def as its callers know it; the built-ins' names -/
namespace SL
open PySem PySem.Spec PyProof.Rows L2 GxR NdefX GA

/-- a def as its callers know it -/
structure Fnn (P : Program) (w : World) (K : PySem.W.Frag) (mg : Str → Option Value) (base : Heap) (CX : CXT) (k : Nat) (x : Str) (ps : List Str) (sp : Sp) : Prop where
  ex : ∃ (f : Addr) (fd : FuncData), FnOk P w K mg base CX k f fd ps sp ∧ mg x = some (.ref f) ∧ PySem.W.keepIn K (.ref f) = true ∧ Binds K fd ps []
/-- .. and by keywords -/
structure Fnk (P : Program) (w : World) (K : PySem.W.Frag) (mg : Str → Option Value) (base : Heap) (CX : CXT) (k : Nat) (x : Str) (ps ks : List Str) (g : List V → List V → List V) (sp : Sp) : Prop where
  ex : ∃ (f : Addr) (fd : FuncData) (gu : List Value → List Value → List Value), FnOk P w K mg base CX k f fd ps sp ∧ mg x = some (.ref f) ∧ PySem.W.keepIn K (.ref f) = true ∧ KBinds K fd ps ks gu g
section
variable {X : Cx} {CX : CXT} {k j : Nat} {x : Str} {ps ks : List Str} {sp : Sp} {e : Expr} {es : List Expr} {t tk : TA} {p pos : Pos} {E : XK}
theorem pe_fn (F : Fnn X.prog X.w X.K X.mg X.base CX k x ps sp) (hr : Room j X.A) (hk : k ≤ j) (hx : Passes CX X E) (ha : PA X (e :: es) t) (hg : Gl X x := by rfl) (hdb : (x == ("__debug__" : Str)) = false := by decide)
    (he : starEach (e :: es) X.env = (false, eval e X.env) :: starEach es X.env := by rfl) (hpl : (backTo pos (starEach es X.env)).any (·.1) = false := by rfl) : PE X (.Call (.Name x p) (e :: es) [] pos) (tCall sp [] E t) := by
  obtain ⟨f, fd, G, m, kp, b⟩ := F.ex
  exact pe_call G (hr.mono hk) hg m kp b .nil hx ha hdb he hpl
theorem pe_fn0 (F : Fnn X.prog X.w X.K X.mg X.base CX k x ps sp) (hr : Room j X.A) (hk : k ≤ j) (hx : Passes CX X E) (hg : Gl X x := by rfl) (hdb : (x == ("__debug__" : Str)) = false := by decide) : PE X (.Call (.Name x p) [] [] pos) (tCall sp [] E tNil) := by
  obtain ⟨f, fd, G, m, kp, b⟩ := F.ex
  exact pe_call0 G (hr.mono hk) hg m kp b .nil hx hdb
end

/-- no module name hides a built-in that is used -/
structure Bl (mg : Str → Option Value) : Prop where
  isinst : mg "isinstance" = none
  len : mg "len" = none
  all : mg "all" = none
  any : mg "any" = none
  set : mg "set" = none
  range : mg "range" = none
  tuple : mg "tuple" = none
  list : mg "list" = none
  int : mg "int" = none
  str : mg "str" = none
  bool : mg "bool" = none
  repr : mg "repr" = none
section
variable {X : Cx} {a : Expr} {ta : TE} {p q pos : Pos}
/-- isinstance(a, T) of data -/
def rIsiD (T : String) (g : PyData → Bool) : List V → Hp → VK → Prop := fun xs H Q => ∃ (x : V) (M : List Addr) (d : PyData), xs = [x, .ty T] ∧ Dv M H x d ∧ Q (.bl (g d)) H
theorem call_isi_tuple : CallR X (.builtin "isinstance") (rIsiD "tuple" isTuple) := fun pins s σ H xs us Q I r ⟨x, M, d, e, h, q⟩ => call_isi pins s σ H xs us Q I r (by rw [e]; exact isi_tuple h q)
theorem call_isi_str : CallR X (.builtin "isinstance") (rIsiD "str" isStr) := fun pins s σ H xs us Q I r ⟨x, M, d, e, h, q⟩ => call_isi pins s σ H xs us Q I r (by rw [e]; exact isi_str h q)
theorem call_isi_int : CallR X (.builtin "isinstance") (rIsiD "int" isInt) := fun pins s σ H xs us Q I r ⟨x, M, d, e, h, q⟩ => call_isi pins s σ H xs us Q I r (by rw [e]; exact isi_int h q)
theorem call_isi_bool : CallR X (.builtin "isinstance") (rIsiD "bool" isBool) := fun pins s σ H xs us Q I r ⟨x, M, d, e, h, q⟩ => call_isi pins s σ H xs us Q I r (by rw [e]; exact isi_bool h q)
theorem pe_isi_tuple (B : Bl X.mg) (ha : PE X a ta) (h1 : Gl X "isinstance" := by rfl) (h2 : Gl X "tuple" := by rfl)
    (he : starEach (a :: [.Name "tuple" q]) X.env = (false, eval a X.env) :: starEach [.Name "tuple" q] X.env := by rfl) : PE X (.Call (.Name "isinstance" p) [a, .Name "tuple" q] [] pos) (tCB (rIsiD "tuple" isTuple) (tCons ta (tCons (tC (.ty "tuple")) tNil))) :=
  pe_callB call_isi_tuple h1 B.isinst (by decide +kernel) (pa_cons ha (pa_cons (pe_bltn (v := .ty "tuple") h2 B.tuple (by decide +kernel) rfl) pa_nil) he) (by decide) (by decide) he
theorem pe_isi_str (B : Bl X.mg) (ha : PE X a ta) (h1 : Gl X "isinstance" := by rfl) (h2 : Gl X "str" := by rfl)
    (he : starEach (a :: [.Name "str" q]) X.env = (false, eval a X.env) :: starEach [.Name "str" q] X.env := by rfl) : PE X (.Call (.Name "isinstance" p) [a, .Name "str" q] [] pos) (tCB (rIsiD "str" isStr) (tCons ta (tCons (tC (.ty "str")) tNil))) :=
  pe_callB call_isi_str h1 B.isinst (by decide +kernel) (pa_cons ha (pa_cons (pe_bltn (v := .ty "str") h2 B.str (by decide +kernel) rfl) pa_nil) he) (by decide) (by decide) he
theorem pe_isi_int (B : Bl X.mg) (ha : PE X a ta) (h1 : Gl X "isinstance" := by rfl) (h2 : Gl X "int" := by rfl)
    (he : starEach (a :: [.Name "int" q]) X.env = (false, eval a X.env) :: starEach [.Name "int" q] X.env := by rfl) : PE X (.Call (.Name "isinstance" p) [a, .Name "int" q] [] pos) (tCB (rIsiD "int" isInt) (tCons ta (tCons (tC (.ty "int")) tNil))) :=
  pe_callB call_isi_int h1 B.isinst (by decide +kernel) (pa_cons ha (pa_cons (pe_bltn (v := .ty "int") h2 B.int (by decide +kernel) rfl) pa_nil) he) (by decide) (by decide) he
theorem pe_isi_bool (B : Bl X.mg) (ha : PE X a ta) (h1 : Gl X "isinstance" := by rfl) (h2 : Gl X "bool" := by rfl)
    (he : starEach (a :: [.Name "bool" q]) X.env = (false, eval a X.env) :: starEach [.Name "bool" q] X.env := by rfl) : PE X (.Call (.Name "isinstance" p) [a, .Name "bool" q] [] pos) (tCB (rIsiD "bool" isBool) (tCons ta (tCons (tC (.ty "bool")) tNil))) :=
  pe_callB call_isi_bool h1 B.isinst (by decide +kernel) (pa_cons ha (pa_cons (pe_bltn (v := .ty "bool") h2 B.bool (by decide +kernel) rfl) pa_nil) he) (by decide) (by decide) he
/-- len of a list or tuple; of a text -/
theorem pe_lenq (B : Bl X.mg) (ha : PE X a ta) (h1 : Gl X "len" := by rfl) (he : starEach (a :: []) X.env = (false, eval a X.env) :: starEach [] X.env := by rfl) : PE X (.Call (.Name "len" p) [a] [] pos) (tCB (fun xs H Q => ∃ p ys, xs = [.ref p] ∧ (SqL X.K H p ys ∨ SqT X.K H p ys) ∧ Q (.int ys.length) H) (tCons ta tNil)) :=
  pe_callB call_len_seq h1 B.len PySem.boot_len (pa_cons ha pa_nil he) (by decide) (by decide) he
theorem pe_lens (B : Bl X.mg) (ha : PE X a ta) (h1 : Gl X "len" := by rfl) (he : starEach (a :: []) X.env = (false, eval a X.env) :: starEach [] X.env := by rfl) : PE X (.Call (.Name "len" p) [a] [] pos) (tCB (fun xs H Q => ∃ z, xs = [.str z] ∧ z.length ≤ sizeLine ∧ Q (.int z.length) H) (tCons ta tNil)) :=
  pe_callB call_len_str h1 B.len PySem.boot_len (pa_cons ha pa_nil he) (by decide) (by decide) he
end
theorem if_true_of {c : Bool} {A B : Prop} (hc : c = true) (h : A) : if c = true then A else B := by
  rw [if_pos hc]
  exact h
theorem if_false_of {c : Bool} {A B : Prop} (hc : c = false) (h : B) : if c = true then A else B := by
  rw [hc, if_neg Bool.false_ne_true]
  exact h
theorem sz {n : Nat} (h : n ≤ 16777216) : n ≤ sizeLine := by rw [sizeLine_eq]; exact h
end SL
set_option Elab.async false
set_option linter.all false
set_option maxRecDepth 100000
set_option maxHeartbeats 4000000
/-! own words, 4: how many unlike texts a list has: len(set(xs)) -/
namespace SL
open PySem PySem.Spec PyProof.Rows L2 GxR NdefX GA

def uniq (l : List Str) : List Str := l.foldl (fun acc x => if x ∈ acc then acc else acc ++ [x]) []
theorem uniq_snoc (l : List Str) (x : Str) : uniq (l ++ [x]) = if x ∈ uniq l then uniq l else uniq l ++ [x] := by
  unfold uniq
  rw [List.foldl_append] <;> rfl
theorem mem_uniq {x : Str} : ∀ {l : List Str}, x ∈ uniq l ↔ x ∈ l := by
  have key : ∀ (l : List Str) (acc : List Str), x ∈ l.foldl (fun acc x => if x ∈ acc then acc else acc ++ [x]) acc ↔ x ∈ acc ∨ x ∈ l := by
    intro l
    induction l with
    | nil => intro acc; simp
    | cons y r ih =>
      intro acc
      rw [List.foldl_cons, ih]
      by_cases h : y ∈ acc
      · rw [if_pos h]
        constructor
        · rintro (h1 | h1)
          · exact .inl h1
          · exact .inr (List.mem_cons_of_mem _ h1)
        · rintro (h1 | h1)
          · exact .inl h1
          · rcases List.mem_cons.mp h1 with rfl | h1
            · exact .inl h
            · exact .inr h1
      · rw [if_neg h, List.mem_append, List.mem_singleton, List.mem_cons]
        constructor
        · rintro ((h1 | h1) | h1)
          · exact .inl h1
          · exact .inr (.inl h1)
          · exact .inr (.inr h1)
        · rintro (h1 | h1 | h1)
          · exact .inl (.inl h1)
          · exact .inl (.inr h1)
          · exact .inr h1
  intro l
  have := key l []
  simpa [uniq] using this
theorem uniq_le : ∀ l : List Str, (uniq l).length ≤ l.length := by
  have key : ∀ (l acc : List Str), (l.foldl (fun acc x => if x ∈ acc then acc else acc ++ [x]) acc).length ≤ acc.length + l.length := by
    intro l
    induction l with
    | nil => intro acc; simp
    | cons y r ih =>
      intro acc
      rw [List.foldl_cons]
      refine Nat.le_trans (ih _) ?_
      split
      · simp only [List.length_cons]; omega
      · simp only [List.length_append, List.length_cons, List.length_nil]; omega
  intro l
  simpa [uniq] using key l []
theorem nodup_uniq : ∀ l : List Str, (uniq l).Nodup := by
  have key : ∀ (l acc : List Str), acc.Nodup → (l.foldl (fun acc x => if x ∈ acc then acc else acc ++ [x]) acc).Nodup := by
    intro l
    induction l with
    | nil => intro acc h; exact h
    | cons y r ih =>
      intro acc h
      rw [List.foldl_cons]
      refine ih _ ?_
      split
      · exact h
      · rename_i hn
        refine List.nodup_append.mpr ⟨h, by simp, fun a ha b hb => ?_⟩
        rw [List.mem_singleton.mp hb]
        exact fun e => hn (e ▸ ha)
  intro l
  exact key l [] (by simp)
/-- all are unlike exactly if as many are counted -/
theorem uniq_len {l : List Str} : (uniq l).length = l.length ↔ l.Nodup := by
  have key : ∀ (l acc : List Str), acc.Nodup → ((l.foldl (fun acc x => if x ∈ acc then acc else acc ++ [x]) acc).length = acc.length + l.length ↔ (acc ++ l).Nodup) := by
    intro l
    induction l with
    | nil => intro acc h; simpa using h
    | cons y r ih =>
      intro acc h
      rw [List.foldl_cons]
      by_cases hy : y ∈ acc
      · rw [if_pos hy]
        have z : (r.foldl (fun acc x => if x ∈ acc then acc else acc ++ [x]) acc).length ≤ acc.length + r.length := by
          have key2 : ∀ (l acc : List Str), (l.foldl (fun acc x => if x ∈ acc then acc else acc ++ [x]) acc).length ≤ acc.length + l.length := by
            intro l
            induction l with
            | nil => intro acc; simp
            | cons y r ih =>
              intro acc
              rw [List.foldl_cons]
              refine Nat.le_trans (ih _) ?_
              split
              · simp only [List.length_cons]; omega
              · simp only [List.length_append, List.length_cons, List.length_nil]; omega
          exact key2 r acc
        constructor
        · intro e
          rw [List.length_cons] at e
          omega
        · intro nd
          have := (List.nodup_append.mp nd).2.2 y hy y List.mem_cons_self
          exact absurd rfl this
      · rw [if_neg hy]
        have nd' : (acc ++ [y]).Nodup := List.nodup_append.mpr ⟨h, by simp, fun a ha b hb => by rw [List.mem_singleton.mp hb]; exact fun e => hy (e ▸ ha)⟩
        have := ih (acc ++ [y]) nd'
        rw [List.length_append, List.length_singleton, List.append_assoc, List.singleton_append] at this
        rw [List.length_cons, ← this]
        constructor <;> intro e <;> omega
  have := key l [] (by simp)
  simpa [uniq] using this

section
variable {prog : Program} {w : World} {A : Around} {R : Result → Shared → Prop} {I : Addr} {fp wr : List Addr} {G : Array GenState → Array GenState → Prop} {n : Nat} {P : Nat → Value → Prop} {St : Nat → Shared → Prop}
/-- each text of the walk is put into the set at S -/
theorem loop_strs (W : WalksS prog w A.in1 I fp wr G n P St) (S : Addr) (hSf : S ∉ fp) (xs : List Str) (hsz : xs.length = n) (hn1 : n + 2 < scanBound)
    (hval : ∀ i v, P i v → ∃ t, v = .str (xs.getD i Str.empty) t) :
    ∀ (k i : Nat) (s : Shared), n - i = k → i ≤ n → St i s →
      s.heap.SetOf (PySem.strKind prog w) S (fun q => decide (q ∈ xs.take i)) (uniq (xs.take i)).length →
      (∀ s', Moved (S :: wr) G s s' → s'.heap.SetOf (PySem.strKind prog w) S (fun q => decide (q ∈ xs)) (uniq xs).length → R (.ok (.ret .none)) s') →
      codeAny (model prog w) A (.builtin "set.update.loop" ⟨[.ref S, .ref I], []⟩) R s := by
  have hSw : S ∉ wr := fun h => hSf (W.sub _ h)
  have up : ∀ b ∈ wr, b ∈ S :: wr := fun b hb => List.mem_cons_of_mem _ hb
  have still : ∀ {s s' : Shared} {q : Str → Bool} {m : Nat}, Moved wr G s s' → s.heap.SetOf (PySem.strKind prog w) S q m → s'.heap.SetOf (PySem.strKind prog w) S q m := fun hm ⟨o, es, ep, t, ho, r⟩ => ⟨o, es, ep, t, hm.heap S _ hSw ho, r⟩
  intro k
  induction k with
  | zero =>
    intro i s hk hi hst hS hR
    have hin : i = n := by omega
    subst hin
    rw [List.take_of_length_le (by omega)] at hS
    refine codeAny_builtin PyProof.Rows.F.entry_set_update_loop ?_
    rw [Around.under_plainId PyProof.Rows.F.plain_set_update_loop _]
    show wpAny _ A.in1 (pyNext (.ref I) >>= _) _ _ s
    exact wpAny_bind (W.done s _ _ hst fun s' hm => wpAny_pure (hR s' (hm.mono up) (still hm hS)))
  | succ k ih =>
    intro i s hk hi hst hS hR
    have hlt : i < n := by omega
    have hlx : i < xs.length := by omega
    refine codeAny_builtin PyProof.Rows.F.entry_set_update_loop ?_
    rw [Around.under_plainId PyProof.Rows.F.plain_set_update_loop _]
    show wpAny _ A.in1 (pyNext (.ref I) >>= _) _ _ s
    refine wpAny_bind (W.item i s _ _ hlt hst fun v s' hP hst' hm => ?_)
    obtain ⟨t, rfl⟩ := hval i v hP
    have hS' := still hm hS
    show wpAny _ A.in1 (holding [Value.str (xs.getD i Str.empty) t] (setAdd S (.str (xs.getD i Str.empty) t)) >>= _) _ _ s'
    refine wpAny_bind (wpAny_holding ?_)
    unfold setAdd
    refine wpAny_holding (wpAny_bind ((PySem.strKind prog w).pyHash (k := xs.getD i Str.empty) (strKind_is _ _ _ _) ?_))
    have hcnt : (uniq (xs.take i)).length + 1 < scanBound := by
      have := uniq_le (xs.take i)
      rw [List.length_take] at this
      omega
    refine wpAny_setAddHashed_of (knd := PySem.strKind prog w) (s := { s' with toks := s'.toks + 1 }) (strKind_is _ _ _ _) rfl hS' hcnt fun h' hsb hS2 => ?_
    have et : xs.take (i + 1) = xs.take i ++ [xs.getD i Str.empty] := by
      rw [List.take_add_one, List.getD_eq_getElem?_getD, List.getElem?_eq_getElem hlx] <;> rfl
    have hSi : h'.SetOf (PySem.strKind prog w) S (fun q => decide (q ∈ xs.take (i + 1))) (uniq (xs.take (i + 1))).length := by
      refine SetOf_congr hS2 (fun q => ?_) ?_
      · rw [et]
        simp [List.mem_append]
      · rw [et, uniq_snoc]
        by_cases hm2 : xs.getD i Str.empty ∈ xs.take i
        · rw [if_pos (mem_uniq.mpr hm2), if_pos (decide_eq_true hm2)]
        · rw [if_neg (fun z => hm2 (mem_uniq.mp z)), if_neg (by simpa using hm2), List.length_append, List.length_singleton]
    refine wpAny_pure ⟨plainId_quiet PyProof.Rows.F.plain_set_update_loop _, ih (i + 1) _ (by omega) hlt (W.frame _ s' _ _ hst' (Nat.le_succ _) fun b hb o e => ?_) hSi fun s'' hm'' hS'' => ?_⟩
    · rw [hsb.2 b (fun h : b = S => hSf (by rw [← h]; exact hb))]; exact e
    · refine hR s'' (Moved.trans W.gtrans ((hm.mono up).then_heap (Nat.le_succ _) fun b o hb e => ?_) hm'') hS''
      rw [hsb.2 b (fun h : b = S => hb (by rw [h]; exact List.mem_cons_self))]; exact e
end

section
variable {prog : Program} {w : World} {A : Around} {E : Value → Shared → Prop} {s : Shared}
theorem set_of_strs {l : Addr} {items : Array Value} {xs : List Str} {Q : Value → Shared → Prop}
    (hh : A.handled = none) (hl : s.heap.IsList l items) (hi : PyProof.Rows.StrsAre items.toList xs) (hn1 : xs.length + 2 < scanBound)
    (h : ∀ (h' : Heap) (tk : Nat), h'.SetOf (PySem.strKind prog w) s.heap.objs.size (fun q => decide (q ∈ xs)) (uniq xs).length →
      (∀ b o, b < s.heap.objs.size → s.heap.get? b = some o → h'.get? b = some o) → Q (.ref s.heap.objs.size) { s with heap := h', toks := tk }) :
    wpAny (model prog w) A (call (.type "set") [.ref l]) Q E s := by
  obtain ⟨c, tl, hmro⟩ := PySem.F.called_set.mro
  have hmade := PySem.F.called_set.made
  have hsub := PySem.F.called_set.sub
  refine wpAny_call (codeAny_of_tree ?_)
  show wpAny _ _ (callAny (.type "set") _) _ _ _
  refine wpAny_pure ⟨Code.quiet_builtin _ (by decide +kernel), codeAny_builtin PySem.F.entry_type_call ?_⟩
  rw [Around.under_plain (weight_type_call_type "set" [.ref l] []) rfl]
  have h1 := PySem.F.called_set.notType
  have h2 := PySem.F.called_set.canCreate
  have hct := PySem.F.typeCall_set_1 (.ref l)
  repeat (any_goals (first | assumption | wp_step))
  refine codeAny_mono (code_set_new_1 (.ref l) (E := E) (Q₁ := fun obj s₁ => ∃ led : Bool, obj = .ref s.heap.objs.size ∧ s₁ = { s with heap := s.heap.push { cls := .type "set", dict := none, data := .set #[] 0 (.fresh 0 0 led) } }) fun led => ⟨led, rfl, rfl⟩) fun r s₁ hr => ?_
  cases r with
  | error e => exact hr
  | ok fl =>
    cases fl with
    | ret obj =>
      obtain ⟨led, rfl, rfl⟩ := hr
      generalize hso : ({ cls := .type "set", dict := none, data := .set #[] 0 (.fresh 0 0 led) } : Obj) = so
      have hS : (s.heap.push so).get? s.heap.objs.size = some so := Heap.get?_push_size _ (by rw [← hso] <;> rfl)
      have hT : Shared.TypeIs { s with heap := s.heap.push so } (.ref s.heap.objs.size) "set" := ⟨_, hS, by rw [← hso]⟩
      have hli := PySem.F.called_set.init.lookup
      have hbi := PySem.F.called_set.init.bind (.ref s.heap.objs.size)
      repeat (any_goals (first | assumption | wp_step))
      refine codeAny_mono (codeAny_call_builtin (R := wants (fun r s₂ => r = .none ∧ ∃ h' tk, s₂ = { s with heap := h', toks := tk } ∧
          h'.SetOf (PySem.strKind prog w) s.heap.objs.size (fun q => decide (q ∈ xs)) (uniq xs).length ∧
          (∀ b o, b < s.heap.objs.size → s.heap.get? b = some o → h'.get? b = some o)) E) PySem.F.called_set.init.plain PySem.F.entry_set_init (check_set_init_1 hT ?_)) fun r₂ s₂ hr₂ => ?_
      · obtain ⟨ol, hol, hcl, nl, hdl⟩ := hl
        obtain ⟨ocls, odict, odata, oslots⟩ := ol
        simp only at hcl hdl
        subst hcl; subst hdl
        subst hso
        have hol' : (s.heap.push { cls := .type "set", dict := none, data := .set #[] 0 (.fresh 0 0 led) }).get? l = some { cls := .type "list", dict := odict, data := .seq items nl, slots := oslots } := Heap.get?_push_of_some _ hol
        have hsls := PySem.F.sub_list_set
        have hslf := PySem.F.sub_list_frozenset
        have hne : (Value.type "list" == Value.type "dict") = false := by decide
        have hl1 : (s.heap.push { cls := .type "set", dict := none, data := .set #[] 0 (.fresh 0 0 led) }).IsList l items := ⟨_, hol', rfl, nl, rfl⟩
        unfold Builtin.«set.__init__» noKeywords Builtin.Frozenset.updateFrom
        generalize hPI : pyIter = PI
        wp_walk
        subst hPI
        refine wpAny_pyIter_list hl1 ?_
        refine wpAny_bind (wpAny_runValue ?_)
        have hlS : l < s.heap.objs.size := Heap.lt_size hol
        have hh3 : A.in1.in1.in1.handled = none := by simp [hh]
        have szp : ∀ o : Obj, (s.heap.push o).objs.size = s.heap.objs.size + 1 := fun o => Heap.size_push ..
        have hneI : l ≠ (s.heap.push { cls := .type "set", dict := none, data := .set #[] 0 (.fresh 0 0 led) }).objs.size := by
          rw [szp]; exact Nat.ne_of_lt (Nat.lt_succ_of_lt hlS)
        have hSf : s.heap.objs.size ∉ [(s.heap.push { cls := .type "set", dict := none, data := .set #[] 0 (.fresh 0 0 led) }).objs.size, l] := by
          rw [szp]; simp only [List.mem_cons, List.not_mem_nil, or_false, not_or]
          exact ⟨Nat.ne_of_lt (Nat.lt_succ_self _), Nat.ne_of_gt hlS⟩
        have hsz : xs.length = items.size := by rw [← StrsAre.len_eq hi, Array.length_toList]
        have hval : ∀ (i : Nat) (v : Value), items[i]? = some v → ∃ t, v = .str (xs.getD i Str.empty) t := fun i v hv => SS.strs_at hi i v (by rw [Array.getElem?_toList]; exact hv)
        refine loop_strs ((Walks.list hh3 _ l hneI items).toS) s.heap.objs.size
          hSf xs hsz (by rw [← hsz]; exact hn1) hval (items.size - 0) 0 _ (by omega) (Nat.zero_le _)
          ⟨⟨_, Heap.get?_push_size _ rfl, rfl, rfl⟩, (hl1.push _)⟩ ?hS0 ?hR
        case hS0 =>
          have hget : ((s.heap.push { cls := .type "set", dict := none, data := .set #[] 0 (.fresh 0 0 led) }).push { cls := .type "list_iterator", data := .fields #[.ref l, .int 0 0] }).get? s.heap.objs.size
              = some { cls := .type "set", dict := none, data := .set #[] 0 (.fresh 0 0 led) } := Heap.get?_push_of_some _ hS
          exact PyProof.Rows.SetOf_congr ((PyProof.Rows.setObjOf_fresh (knd := PySem.strKind prog w) led).setOf hget (by unfold scanBound; omega)) (fun _ => by simp) rfl
        case hR =>
          intro s' hm hS'
          obtain ⟨h', g', d', tk', os'⟩ := s'
          have eg : g' = s.gens := hm.gens
          have ed : d' = s.drawn := hm.drawn
          have eo : os' = s.os := hm.os
          subst eg; subst ed; subst eo
          show wpAny _ _ _ _ _ _
          refine wpAny_pure ?_
          show wpAny _ _ (ret Value.none) _ _ _
          refine wpAny_pure ⟨rfl, h', tk', rfl, hS', fun b o hb e => ?_⟩
          have hb1 : b ≠ s.heap.objs.size := Nat.ne_of_lt hb
          have hb2 : b ≠ (s.heap.push { cls := .type "set", dict := none, data := .set #[] 0 (.fresh 0 0 led) }).objs.size := by
            rw [szp]; exact Nat.ne_of_lt (Nat.lt_succ_of_lt hb)
          exact hm.heap b o (by simp only [List.mem_cons, List.not_mem_nil, or_false, not_or]; exact ⟨hb1, hb2⟩) (Heap.get?_push_of_some _ (Heap.get?_push_of_some _ e))
      · cases r₂ with
        | error e => exact hr₂
        | ok fl₂ =>
          cases fl₂ with
          | ret r =>
            obtain ⟨rfl, h', tk, rfl, hS', hk'⟩ := hr₂
            repeat (any_goals (first | assumption | wp_step))
            exact h _ _ hS' hk'
          | _ => exact hr₂.elim
    | _ => exact hr.elim
end

section
variable {X : Cx} {a : Expr} {ta : TE} {p p2 q pos : Pos}
/-- len(set(xs)), xs a list of texts -/
def tLenU (K : PySem.W.Frag) (ta : TE) : TE := fun σ H Q => ta σ H fun x H1 => ∃ (l : Addr) (xs : List Str), x = .ref l ∧ SqL K H1 l (xs.map V.str) ∧ xs.length ≤ 4000 ∧ Q (.int (uniq xs).length) H1
theorem pe_lenU (B : Bl X.mg) (ha : PE X a ta) (hc : X.calm = true := by rfl) (hg : Gl X "len" := by rfl) (hg2 : Gl X "set" := by rfl)
    (na : starEach [a] X.env = (false, eval a X.env) :: starEach [] X.env := by rfl) : PE X (.Call (.Name "len" p) [.Call (.Name "set" p2) [a] [] q] [] pos) (tLenU X.K ta) := by
  refine ⟨fun pins s σ H Q I h => ?_⟩
  refine Call_ (ld_blt I hg B.len boot_len ?_)
  refine PyProof.Rows.callWith_builtin1 (PyProof.Rows.args_cons ?_ rfl) rfl rfl
  refine Call_ (ld_blt I hg2 B.set boot_set ?_)
  refine PyProof.Rows.callWith_type1 (PyProof.Rows.args_cons (thn (ha.run pins s σ H _ I h) fun v s1 ⟨x, H1, I1, r1, l, xs, ex, hq, h1, q1⟩ => PyProof.Rows.args_nil ?_) na) na rfl
  subst ex
  cases r1
  obtain ⟨its, r, pl, hz⟩ := I1.list hq
  refine set_of_strs (I1.ok.hd hc) pl.isList (by simpa using strsAre_of r) (by unfold scanBound; omega) fun h' tk hS hk => ?_
  refine PyProof.Rows.args_nil ?_
  have hle := uniq_le xs
  obtain ⟨o, es, ep, t, ho, hex, hd, _, _, _, hf, hn⟩ := hS
  have I2 : Inv X pins σ H1 { s1 with heap := h', toks := tk } := I1.kept fun b o e => hk b o (Heap.lt_size e) e
  refine call_len_set ho hex hd hf (by rw [hn] <;> omega) ⟨.int (uniq xs).length, H1, I2.tok _, ⟨_, by rw [hn]⟩, q1⟩
end
end SL
set_option Elab.async false
set_option linter.all false
set_option maxRecDepth 100000
set_option maxHeartbeats 2000000
/-! own words, 5: the size of data (no less than its repr's), kinds as data -/
namespace SL
open PySem PySem.Spec PyProof.Rows L2 GxR NdefX GA
mutual
/-- no less than the signs of the repr -/
def wt : PyData → Nat
  | .none => 4
  | .bool _ => 5
  | .int i => (Str.ofString (toString i)).length + 4
  | .str x => 12 * x.length + 4
  | .list xs => wtAll xs + 4
  | .tuple xs => wtAll xs + 4
  | .dict kvs => 4 + 16777217 * kvs.length
def wtAll : List PyData → Nat
  | [] => 0
  | x :: xs => wt x + 2 + wtAll xs
end
theorem wtAll_append : ∀ (xs ys : List PyData), wtAll (xs ++ ys) = wtAll xs + wtAll ys
  | [], ys => by simp [wtAll]
  | x :: xs, ys => by
    have := wtAll_append xs ys
    simp only [List.cons_append, wtAll]
    omega
theorem wtAll_len : ∀ (xs : List PyData), 2 * xs.length ≤ wtAll xs
  | [] => by simp [wtAll]
  | x :: xs => by
    have := wtAll_len xs
    simp only [List.length_cons, wtAll]
    omega
theorem wtAll_take (xs : List PyData) (n : Nat) : wtAll (xs.take n) ≤ wtAll xs := by
  have := wtAll_append (xs.take n) (xs.drop n)
  rw [List.take_append_drop] at this
  omega
theorem wtAll_drop (xs : List PyData) (n : Nat) : wtAll (xs.drop n) ≤ wtAll xs := by
  have := wtAll_append (xs.take n) (xs.drop n)
  rw [List.take_append_drop] at this
  omega
theorem wt_get : ∀ {xs : List PyData} {i : Nat} {d : PyData}, xs[i]? = some d → wt d + 2 ≤ wtAll xs
  | [], _, _, h => by simp at h
  | x :: xs, 0, d, h => by
    simp at h
    subst h
    simp only [wtAll]
    omega
  | x :: xs, i + 1, d, h => by
    have := wt_get (xs := xs) (i := i) (d := d) (by simpa using h)
    simp only [wtAll]
    omega
theorem wt_mem {xs : List PyData} {d : PyData} (h : d ∈ xs) : wt d + 2 ≤ wtAll xs := by
  obtain ⟨i, hi⟩ := List.mem_iff_getElem?.mp h
  exact wt_get hi

/-! ### names as the document has them -/
def upC (c : Nat) : Bool := decide (65 ≤ c) && decide (c ≤ 90)
def loC (c : Nat) : Bool := decide (97 ≤ c) && decide (c ≤ 122)
def diC (c : Nat) : Bool := decide (48 ≤ c) && decide (c ≤ 57)
def anC (c : Nat) : Bool := upC c || loC c || diC c
def kept (x : Str) : Bool := decide (x = "fun") || decide (x = "kind") || decide (x = "number")
/-- a name -/
def nameS (x : Str) : Bool := decide (1 ≤ x.length) && decide (x.length ≤ 10) && x.cps.toList.all anC && (match x.cps.toList with | c :: _ => upC c || loC c | [] => false) && !kept x
def highS (x : Str) : Bool := nameS x && (match x.cps.toList with | c :: _ => upC c | [] => false)
def lowS (x : Str) : Bool := nameS x && (match x.cps.toList with | c :: _ => loC c | [] => false)
def highD : PyData → Bool
  | .str x => highS x
  | _ => false
/-! ### kinds -/
def tupB (d : PyData) (l m : Int) : Bool := match d with
  | .tuple xs => decide (l ≤ (xs.length : Int)) && decide ((xs.length : Int) ≤ m)
  | _ => false
def fstD : PyData → PyData
  | .tuple (a :: _) => a
  | _ => .none
def sndD : PyData → PyData
  | .tuple (_ :: b :: _) => b
  | _ => .none
def itemsD : PyData → List PyData
  | .tuple l => l
  | _ => []
def strD : PyData → Str
  | .str x => x
  | _ => Str.empty
def makerB (d : PyData) : Bool := tupB d 2 2 && highD (fstD d) && tupB (sndD d) 0 4 && (itemsD (sndD d)).all isStr
def kindB (d : PyData) : Bool := tupB d 2 2 && highD (fstD d) && tupB (sndD d) 1 6 && (itemsD (sndD d)).all makerB
def titlesD (d : PyData) : List PyData := (itemsD d).map fstD
def makersD (d : PyData) : List PyData := (itemsD d).flatMap fun k => itemsD (sndD k)
def mnamesD (d : PyData) : List PyData := (makersD d).map fstD
def fieldsD (d : PyData) : List PyData := (makersD d).flatMap fun m => itemsD (sndD m)
def unl (l : List PyData) : Bool := decide ((l.map strD).Nodup)
def fieldOk (d : PyData) (f : PyData) : Bool := decide (strD f = "number") || decide (strD f ∈ (titlesD d).map strD)
/-- kinds -/
def kindsB (d : PyData) : Bool := tupB d 1 6 && (itemsD d).all kindB && unl (titlesD d) && unl (mnamesD d) && (fieldsD d).all (fieldOk d)
theorem tup2 {d : PyData} (h : tupB d 2 2 = true) : ∃ x y, d = .tuple [x, y] := by
  cases d with
  | tuple xs =>
    simp only [tupB, Bool.and_eq_true, decide_eq_true_eq] at h
    match xs, h with
    | [x, y], _ => exact ⟨x, y, rfl⟩
    | [], h => simp at h
    | [_], h => simp at h
    | _ :: _ :: _ :: r, h => simp only [List.length_cons] at h; omega
  | _ => simp [tupB] at h
theorem tupOf {d : PyData} {l m : Int} (h : tupB d l m = true) : ∃ xs, d = .tuple xs ∧ l ≤ (xs.length : Int) ∧ (xs.length : Int) ≤ m := by
  cases d with
  | tuple xs =>
    simp only [tupB, Bool.and_eq_true, decide_eq_true_eq] at h
    exact ⟨xs, rfl, h.1, h.2⟩
  | _ => simp [tupB] at h
theorem dv_pair {M : List Addr} {H : Hp} {v : V} {x y : PyData} (h : Dv M H v (.tuple [x, y])) : ∃ a vx vy, v = .ref a ∧ H a = some (.tup [vx, vy]) ∧ a ∉ M ∧ Dv M H vx x ∧ Dv M H vy y := by
  cases h with
  | tup e n r =>
    cases r with
    | cons h1 r =>
      cases r with
      | cons h2 r =>
        cases r
        exact ⟨_, _, _, rfl, e, n, h1, h2⟩
theorem dv_tup {M : List Addr} {H : Hp} {v : V} {xs : List PyData} (h : Dv M H v (.tuple xs)) : ∃ a vs, v = .ref a ∧ H a = some (.tup vs) ∧ a ∉ M ∧ DvAll M H vs xs := by
  cases h with
  | tup e n r => exact ⟨_, _, rfl, e, n, r⟩
theorem wt_pair (x y : PyData) : wt (.tuple [x, y]) = wt x + wt y + 8 := by
  simp only [wt, wtAll]
  omega
theorem wt_tup (xs : List PyData) : wt (.tuple xs) = wtAll xs + 4 := by simp only [wt]
end SL
set_option Elab.async false
set_option linter.all false
set_option maxRecDepth 100000
set_option maxHeartbeats 2000000
/-! own words, 6: signs below 128 -/
namespace SL
open PySem PySem.Spec PyProof.Rows L2 GxR NdefX GA
theorem sign_tab : (List.range 128).all (fun c => (Unicode.isAlnum c == anC c) && (Unicode.isAlpha c == (upC c || loC c)) && ((Unicode.isUpper c && !(Unicode.isLower c || Unicode.isTitle c)) == upC c) && ((Unicode.isLower c && !(Unicode.isUpper c || Unicode.isTitle c)) == loC c)) = true := by decide +kernel
theorem sign_at {c : Nat} (h : c < 128) : Unicode.isAlnum c = anC c ∧ Unicode.isAlpha c = (upC c || loC c) ∧ (Unicode.isUpper c && !(Unicode.isLower c || Unicode.isTitle c)) = upC c ∧ (Unicode.isLower c && !(Unicode.isUpper c || Unicode.isTitle c)) = loC c := by
  have := List.all_eq_true.mp sign_tab c (List.mem_range.mpr h)
  simp only [Bool.and_eq_true, beq_iff_eq] at this
  obtain ⟨⟨⟨h1, h2⟩, h3⟩, h4⟩ := this
  exact ⟨h1, h2, h3, h4⟩
theorem anC_lt {c : Nat} (h : anC c = true) : c < 128 := by
  unfold anC upC loC diC at h
  simp only [Bool.or_eq_true, Bool.and_eq_true, decide_eq_true_eq] at h
  omega
theorem run_iff (x : Str) : (Txt.isascii x && Txt.isalnum x) = (decide (1 ≤ x.length) && x.cps.toList.all anC) := by
  unfold Txt.isascii Txt.isalnum
  rw [Bool.eq_iff_iff]
  simp only [Bool.and_eq_true, Array.all_eq_true_iff_forall_mem, decide_eq_true_eq, List.all_eq_true, Array.mem_toList_iff]
  constructor
  · rintro ⟨h1, h2, h3⟩
    exact ⟨by have : x.length > 0 := h2; omega, fun c hc => by rw [← (sign_at (h1 c hc)).1]; exact h3 c hc⟩
  · rintro ⟨h1, h2⟩
    exact ⟨fun c hc => anC_lt (h2 c hc), by show x.length > 0; omega, fun c hc => by rw [(sign_at (anC_lt (h2 c hc))).1]; exact h2 c hc⟩
theorem alpha1 {c : Nat} (h : c < 128) : Txt.isalpha ⟨#[c]⟩ = (upC c || loC c) := by
  unfold Txt.isalpha
  rw [← (sign_at h).2.1]
  simp [Str.length]
theorem upper1 {c : Nat} (h : c < 128) : Txt.isupper ⟨#[c]⟩ = upC c := by
  unfold Txt.isupper
  rw [← (sign_at h).2.2.1]
  simp
theorem lower1 {c : Nat} (h : c < 128) : Txt.islower ⟨#[c]⟩ = loC c := by
  unfold Txt.islower
  rw [← (sign_at h).2.2.2]
  simp
theorem inV_strs (x : Str) : ∀ l : List Str, inV (.str x) (l.map V.str) = decide (x ∈ l)
  | [] => rfl
  | y :: r => by
    have ih := inV_strs x r
    unfold inV at ih ⊢
    rw [List.map_cons, List.any_cons, ih]
    have e : eqV (.str y) (.str x) = decide (x = y) := by
      unfold eqV
      first
        | (by_cases h : x = y
           · subst h; simp
           · simp [h, Ne.symm h])
    rw [e]
    by_cases h : x = y
    · subst h; simp
    · simp [h]
theorem goQ {Q : VK} {H : Hp} {b c : Bool} (q : Q (.bl b) H) (e : b = c) : Q (.bl c) H := by rw [← e]; exact q
theorem cons_of_len {x : Str} (h : 1 ≤ x.length) : ∃ c r, x.cps.toList = c :: r := by
  have e : x.length = x.cps.toList.length := by simp [Str.length]
  cases q : x.cps.toList with
  | nil => rw [e, q] at h; simp at h
  | cons c r => exact ⟨c, r, rfl⟩
end SL
set_option Elab.async false
set_option linter.all false
set_option maxRecDepth 100000
set_option maxHeartbeats 2000000
/-! own words, 7: a def whose code object is known -/
namespace SL
open PySem PySem.Spec PyProof.Rows L2 GxR NdefX GA
/-- a def of the top whose code object stands at c -/
structure FunT (K : PySem.W.Frag) (x qual : Str) (st : Stmt) (f : Addr) (fd : FuncData) (c : Addr) : Prop where
  ex : ∃ (oc : Value) (od : Option Addr) (kV doc pm : Value) (an : Option Addr) (ct : Value) (osl : Array (Option Value)),
    fd = PySem.W.fnOf x qual (defArgs st) (defBody st) (defScope st) .none kV doc pm an (.ref c) ct ∧ K.lookup f = some ⟨oc, od, .func fd, osl⟩ ∧ PySem.W.codeIn K (.ref c) qual = true
  kp : PySem.W.keepIn K (.ref f) = true
section
variable {P : Program} {w : World} {K : PySem.W.Frag} {mg : Str → Option Value} {base : Heap} {x qual : Str} {st : Stmt} {f c : Addr} {fd : FuncData} {N ps : List Str} {k : Nat} {sp : Sp}
theorem FunT.fn (F : FunT K x qual st f fd c) : Fun K x qual st f fd := by
  obtain ⟨oc, od, kV, doc, pm, an, ct, osl, e, l, h⟩ := F.ex
  exact ⟨⟨oc, od, kV, doc, pm, an, _, ct, osl, e, l, h⟩, F.kp⟩
theorem FunT.ok (F : FunT K x qual st f fd c) (S : FnScope N ps (defScope st)) (len : ∀ vs H Q E, sp vs H Q E → vs.length = ps.length)
    (hbody : ∀ (A : Around) (outer : List Env) (s : Shared) (H : Hp) (vs : List V) (Q : VK) (E : XK), Room k (A.deeper (envOfC qual (defScope st) s.heap.objs.size f (.ref c))) → sp vs H Q E →
      ∃ t, PSs (cxOf CX0 P w K mg base N qual (defScope st) f (.ref c) A outer s H E).nox (defBody st) t ∧ t { nx := fun _ H' => Q .non H', rt := Q } (start N vs) H) : FnOk P w K mg base CX0 (k + 1) f fd ps sp := by
  obtain ⟨oc, od, kV, doc, pm, an, ct, osl, rfl, lk, hcd⟩ := F.ex
  refine fn_of lk hcd S len fun A outer s H vs Q E hr hsp => ?_
  obtain ⟨t, h, q⟩ := hbody A outer s H vs Q E hr hsp
  exact ⟨t, h.nox, q⟩
theorem FunT.okX (F : FunT K x qual st f fd c) (S : FnScope N ps (defScope st)) (len : ∀ vs H Q E, sp vs H Q E → vs.length = ps.length)
    (hbody : ∀ (A : Around) (outer : List Env) (s : Shared) (H : Hp) (vs : List V) (Q : VK) (E : XK), Room k (A.deeper (envOfC qual (defScope st) s.heap.objs.size f (.ref c))) → sp vs H Q E →
      ∃ t, PSs (cxOf (L2.CX P w) P w K mg base N qual (defScope st) f (.ref c) A outer s H E) (defBody st) t ∧ t { nx := fun _ H' => Q .non H', rt := Q } (start N vs) H) : FnOk P w K mg base (L2.CX P w) (k + 1) f fd ps sp := by
  obtain ⟨oc, od, kV, doc, pm, an, ct, osl, rfl, lk, hcd⟩ := F.ex
  exact fn_of lk hcd S len hbody
end
section
variable {X : Cx} {T M : List Addr} {H : Hp} {K : PySem.W.Frag} {P a : Addr} {xs : List V} {ds : List PyData}
/-- the reading of all(test(x) for x in t), t a tuple of data, x in the slot j: b the truth of each -/
theorem all_tup {te : TE} {σ0 : L2.St} {Q : VK} {b : PyData → Bool} {j : Nat} (hx : H a = some (.tup xs)) (ha : a ∉ M) (hd : DvAll M H xs ds) (ht : Tabs T H) (hP : P ∈ T)
    (hb : ∀ (x : V) (d : PyData) (H' : Hp) (R : VK), d ∈ ds → Dv M H' x d → Go T M H H' → Tabs T H' → (∀ H'' , Go T M H' H'' → Tabs T H'' → R (.bl (b d)) H'') → te (σ0.set j (some x)) H' R)
    (hq : ∀ H', Go T M H H' → Tabs T H' → Q (.bl (ds.all b)) H') :
    TabG H P ∧ ∀ H2, Tabbed P H H2 → ∃ W, (∃ m, W 0 m σ0 H2) ∧ GTurn (Itt K a) (gName j) te W (fun H' => Q (.bl (!false)) H') (KB false W fun b H' => Q (.bl b) H') := by
  refine ⟨ht P hP, fun H2 tb => ?_⟩
  have hl := hd.length
  have g2 : Go T M H H2 := Go.tbd (ht P hP) tb
  refine ⟨fun i m σ H' => m = xs.length - i ∧ i ≤ xs.length ∧ Go T M H H' ∧ Tabs T H' ∧ (∀ v, σ.set j v = σ0.set j v) ∧ (ds.take i).all b = true, ⟨xs.length, rfl, Nat.zero_le _, g2, g2.tb ht, fun _ => rfl, by simp⟩, ?_⟩
  rintro i m σ H' ⟨rfl, hi, gg, tt, hs, hall⟩
  have hx' : SqT K H' a xs := SqT.of (gg.tup hx ha)
  by_cases hlt : i < xs.length
  · refine .inr ⟨⟨xs, xs[i], hx', by simp [hlt]⟩, by omega, fun x H'' y => ?_⟩
    obtain ⟨e, y⟩ := y
    subst e
    have ex : xs[i]? = some x := y xs hx'
    obtain ⟨d, ed, hv⟩ := hd.get ex
    show te (σ.set j (some x)) H'' _
    rw [hs]
    refine hb x d H'' _ (List.mem_of_getElem? ed) (hv.go gg) gg tt fun H3 g3 t3 => ?_
    refine ⟨b d, rfl, ?_⟩
    have et : ds.take (i + 1) = ds.take i ++ [d] := by rw [List.take_add_one, ed] <;> rfl
    cases c : b d with
    | true =>
      rw [if_neg (by simp)]
      exact ⟨xs.length - (i + 1), by omega, rfl, hlt, gg.trans g3, t3, fun v => by rw [List.set_set], by rw [et, List.all_append, hall]; simp [c]⟩
    | false =>
      rw [if_pos rfl]
      have : ds.all b = false := by
        rw [List.all_eq_false]
        exact ⟨d, List.mem_of_getElem? ed, by rw [c]; simp⟩
      rw [← this]
      exact hq H3 (gg.trans g3) t3
  · have e : i = xs.length := by omega
    subst e
    rw [hl, List.take_length] at hall
    refine .inl ⟨⟨xs, hx', Nat.le_refl _⟩, ?_⟩
    have := hq H' gg tt
    rw [hall] at this
    exact this
/-- .. over a list of data -/
theorem all_lst {te : TE} {σ0 : L2.St} {Q : VK} {b : PyData → Bool} {j : Nat} (hx : H a = some (.lst xs)) (ha : a ∉ M) (hd : DvAll M H xs ds) (ht : Tabs T H) (hP : P ∈ T)
    (hb : ∀ (x : V) (d : PyData) (H' : Hp) (R : VK), d ∈ ds → Dv M H' x d → Go T M H H' → Tabs T H' → (∀ H'' , Go T M H' H'' → Tabs T H'' → R (.bl (b d)) H'') → te (σ0.set j (some x)) H' R)
    (hq : ∀ H', Go T M H H' → Tabs T H' → Q (.bl (ds.all b)) H') :
    TabG H P ∧ ∀ H2, Tabbed P H H2 → ∃ W, (∃ m, W 0 m σ0 H2) ∧ GTurn (Itl K a) (gName j) te W (fun H' => Q (.bl (!false)) H') (KB false W fun b H' => Q (.bl b) H') := by
  refine ⟨ht P hP, fun H2 tb => ?_⟩
  have hl := hd.length
  have g2 : Go T M H H2 := Go.tbd (ht P hP) tb
  refine ⟨fun i m σ H' => m = xs.length - i ∧ i ≤ xs.length ∧ Go T M H H' ∧ Tabs T H' ∧ (∀ v, σ.set j v = σ0.set j v) ∧ (ds.take i).all b = true, ⟨xs.length, rfl, Nat.zero_le _, g2, g2.tb ht, fun _ => rfl, by simp⟩, ?_⟩
  rintro i m σ H' ⟨rfl, hi, gg, tt, hs, hall⟩
  have hx' : SqL K H' a xs := SqL.of (gg.lst hx ha)
  by_cases hlt : i < xs.length
  · refine .inr ⟨⟨xs, xs[i], hx', by simp [hlt]⟩, by omega, fun x H'' y => ?_⟩
    obtain ⟨e, y⟩ := y
    subst e
    have ex : xs[i]? = some x := y xs hx'
    obtain ⟨d, ed, hv⟩ := hd.get ex
    show te (σ.set j (some x)) H'' _
    rw [hs]
    refine hb x d H'' _ (List.mem_of_getElem? ed) (hv.go gg) gg tt fun H3 g3 t3 => ?_
    refine ⟨b d, rfl, ?_⟩
    have et : ds.take (i + 1) = ds.take i ++ [d] := by rw [List.take_add_one, ed] <;> rfl
    cases c : b d with
    | true =>
      rw [if_neg (by simp)]
      exact ⟨xs.length - (i + 1), by omega, rfl, hlt, gg.trans g3, t3, fun v => by rw [List.set_set], by rw [et, List.all_append, hall]; simp [c]⟩
    | false =>
      rw [if_pos rfl]
      have : ds.all b = false := by
        rw [List.all_eq_false]
        exact ⟨d, List.mem_of_getElem? ed, by rw [c]; simp⟩
      rw [← this]
      exact hq H3 (gg.trans g3) t3
  · have e : i = xs.length := by omega
    subst e
    rw [hl, List.take_length] at hall
    refine .inl ⟨⟨xs, hx', Nat.le_refl _⟩, ?_⟩
    have := hq H' gg tt
    rw [hall] at this
    exact this
end
end SL
set_option Elab.async false
set_option linter.all false
set_option maxRecDepth 100000
set_option maxHeartbeats 2000000
/-! own words, 8: comprehensions over data of pairs -/
namespace SL
open PySem PySem.Spec PyProof.Rows L2 GxR NdefX GA
section
variable {T M : List Addr} {H0 H1 : Hp} {K : PySem.W.Frag} {J : It} {G : Hp → Prop} {xs : List V} {ds : List PyData} {D : Addr} {Qd : Hp → Prop} {σ : L2.St}
theorem iteYes {A B : Prop} (h : A) : if true = true then A else B := by rw [if_pos rfl]; exact h
theorem dv_two {M : List Addr} {H : Hp} {v : V} {x y : PyData} (h : Dv M H v (.tuple [x, y])) : ∃ a vx vy, v = .ref a ∧ H a = some (.tup [vx, vy]) ∧ a ∉ M ∧ Dv M H vx x ∧ Dv M H vy y := dv_pair h
/-- [x for x, _ in pairs] -/
theorem lc_fst {i j : Nat} {vs : List Nat} (w : Walk J xs.length G (YAt xs)) (hG : ∀ H', Go T M H0 H' → G H') (hd : DvAll M H0 xs ds) (hp : ∀ d ∈ ds, ∃ x y, d = .tuple [x, y]) (g1 : Go T M H0 H1) (hD : H1 D = none) (hn : xs.length ≤ sizeLine)
    (hw : ∀ v1 v2, wipe (((wipe σ vs).set i (some v1)).set j (some v2)) vs = wipe σ vs) (hv : ∀ v1 v2, (((wipe σ vs).set i (some v1)).set j (some v2))[i]? = some (some v1))
    (hq : ∀ H' acc, Go T M H0 H' → H' D = some (.lst acc) → DvAll M H0 acc (ds.map fstD) → Qd H') :
    ∃ W : Nat → Nat → Hp → Prop, (∃ m, W 0 m (upd H1 D (.lst []))) ∧ ∀ i' m H, W i' m H →
      (J.stop i' H ∧ Qd H) ∨ (J.go i' H ∧ ∃ Nx : Hp → Prop, (∀ H', Nx H' → ∃ m', m' < m ∧ W (i' + 1) m' H') ∧ ∀ x H', J.yld i' H x H' → gTup K 2 (gCons (gName i) (gCons (gName j) gNil)) x (wipe σ vs) H' fun σ2 H2 => wipe σ2 vs = wipe σ vs ∧ tYes σ2 H2 fun b H3 =>
        if b = true then tVar i σ2 H3 fun y H4 => ∃ acc, H4 D = some (.lst acc) ∧ acc.length < sizeLine ∧ Nx (upd H4 D (.lst (acc ++ [y]))) else Nx H3) := by
  have hD0 : H0 D = none := g1.al D hD
  refine lc_it w (fun n H' => Go T M H0 H' ∧ ∃ acc, H' D = some (.lst acc) ∧ acc.length = n ∧ DvAll M H0 acc ((ds.take n).map fstD)) ⟨g1.trans (Go.new hD), [], upd_same, rfl, .nil⟩ (fun n H' _ h => hG H' h.1) (fun n x H' H'' hlt h y => ?_) (fun H' h => ?_)
  · obtain ⟨gg, acc, ea, el, da⟩ := h
    obtain ⟨rfl, ex⟩ := y
    obtain ⟨d, ed, hx⟩ := hd.get ex
    obtain ⟨p, q, rfl⟩ := hp d (List.mem_of_getElem? ed)
    obtain ⟨a, vx, vy, rfl, e, na, hx, hy⟩ := dv_pair hx
    refine ⟨a, _, rfl, SqT.of (gg.tup e na), rfl, _, _, rfl, _, _, rfl, rfl, ?_⟩
    refine ⟨hw vx vy, ?_⟩
    unfold tYes
    show if true = true then _ else _
    rw [if_pos rfl]
    refine ⟨vx, hv vx vy, acc, ea, by omega, gg.over hD0 ea (fun _ z => by cases z), acc ++ [vx], upd_same, by rw [List.length_append, el] <;> rfl, ?_⟩
    have : ds.take (n + 1) = ds.take n ++ [.tuple [p, q]] := by rw [List.take_add_one, ed] <;> rfl
    rw [this, List.map_append]
    exact da.append (.cons hx .nil)
  · obtain ⟨gg, acc, ea, el, da⟩ := h
    rw [hd.length, List.take_length] at da
    exact hq H' acc gg ea da
theorem sndD_pair (x y : PyData) : sndD (.tuple [x, y]) = y := rfl
/-- [x for _, own in pairs for x in own] -/
theorem lc2_snd {i j k : Nat} {vs vs1 : List Nat} {c : Nat} (w : Walk J xs.length G (YAt xs)) (hG : ∀ H', Go T M H0 H' → G H') (hd : DvAll M H0 xs ds) (hp : ∀ d ∈ ds, ∃ x l, d = .tuple [x, .tuple l] ∧ l.length ≤ c) (g1 : Go T M H0 H1) (hD : H1 D = none) (hn : xs.length * c ≤ sizeLine)
    (hw : ∀ v1 v2, wipe (((wipe σ vs).set i (some v1)).set j (some v2)) vs = wipe σ vs) (hv : ∀ v1 v2, (((wipe σ vs).set i (some v1)).set j (some v2))[j]? = some (some v2))
    (hw1 : ∀ v1 v2 v3, wipe ((wipe (((wipe σ vs).set i (some v1)).set j (some v2)) vs1).set k (some v3)) vs1 = wipe (((wipe σ vs).set i (some v1)).set j (some v2)) vs1)
    (hv1 : ∀ v1 v2 v3, ((wipe (((wipe σ vs).set i (some v1)).set j (some v2)) vs1).set k (some v3))[k]? = some (some v3))
    (hq : ∀ H' acc, Go T M H0 H' → H' D = some (.lst acc) → DvAll M H0 acc (ds.flatMap fun d => itemsD (sndD d)) → Qd H') :
    ∃ W : Nat → Nat → Hp → Prop, (∃ m, W 0 m (upd H1 D (.lst []))) ∧ ∀ i' m H, W i' m H →
  (J.stop i' H ∧ Qd H) ∨ (J.go i' H ∧ ∃ Nx : Hp → Prop, (∀ H', Nx H' → ∃ m', m' < m ∧ W (i' + 1) m' H') ∧ ∀ x H', J.yld i' H x H' → gTup K 2 (gCons (gName i) (gCons (gName j) gNil)) x (wipe σ vs) H' fun σ2 H2 => wipe σ2 vs = wipe σ vs ∧ tYes σ2 H2 fun b H3 =>
    if b = true then iTup K (tVar j) σ2 H3 fun J1 H4 => ∃ W1 : Nat → Nat → Hp → Prop, (∃ m, W1 0 m H4) ∧ ∀ j' k' H, W1 j' k' H →
      (J1.stop j' H ∧ Nx H) ∨ (J1.go j' H ∧ ∃ Nx1 : Hp → Prop, (∀ H', Nx1 H' → ∃ k'', k'' < k' ∧ W1 (j' + 1) k'' H') ∧ ∀ x H', J1.yld j' H x H' → gName k x (wipe σ2 vs1) H' fun σ3 H5 => wipe σ3 vs1 = wipe σ2 vs1 ∧ tYes σ3 H5 fun b H6 =>
        if b = true then tVar k σ3 H6 fun y H7 => ∃ acc, H7 D = some (.lst acc) ∧ acc.length < sizeLine ∧ Nx1 (upd H7 D (.lst (acc ++ [y]))) else Nx1 H6)
    else Nx H3) := by
  have hD0 : H0 D = none := g1.al D hD
  have hl0 := hd.length
  refine ⟨fun n m H' => m = xs.length - n ∧ n ≤ xs.length ∧ Go T M H0 H' ∧ ∃ acc, H' D = some (.lst acc) ∧ acc.length ≤ n * c ∧ DvAll M H0 acc ((ds.take n).flatMap fun d => itemsD (sndD d)), ⟨xs.length, rfl, Nat.zero_le _, g1.trans (Go.new hD), [], upd_same, by simp, .nil⟩, ?_⟩
  rintro n m H' ⟨rfl, hi, gg, acc, ea, el, da⟩
  by_cases hlt : n < xs.length
  · refine .inr ⟨w.goes n H' hlt (hG H' gg), fun H2 => Go T M H0 H2 ∧ ∃ acc, H2 D = some (.lst acc) ∧ acc.length ≤ (n + 1) * c ∧ DvAll M H0 acc ((ds.take (n + 1)).flatMap fun d => itemsD (sndD d)), fun H2 h2 => ⟨xs.length - (n + 1), by omega, rfl, hlt, h2⟩, fun x H2 y => ?_⟩
    obtain ⟨rfl, ex⟩ := w.yields n H' x H2 hlt (hG H' gg) y
    obtain ⟨d, ed, hx⟩ := hd.get ex
    obtain ⟨p, l, rfl, hc⟩ := hp d (List.mem_of_getElem? ed)
    obtain ⟨a, vx, vy, rfl, e, na, hx, hy⟩ := dv_pair hx
    obtain ⟨b, ws, rfl, eb, nb, hws⟩ := dv_tup hy
    have hl1 := hws.length
    have et : ds.take (n + 1) = ds.take n ++ [.tuple [p, .tuple l]] := by rw [List.take_add_one, ed] <;> rfl
    have em : (n + 1) * c = n * c + c := Nat.succ_mul n c
    have ec : (n + 1) * c ≤ xs.length * c := Nat.mul_le_mul_right c hlt
    refine ⟨a, _, rfl, SqT.of (gg.tup e na), rfl, _, _, rfl, _, _, rfl, rfl, ?_⟩
    refine ⟨hw _ _, ?_⟩
    unfold tYes
    show if true = true then _ else _
    rw [if_pos rfl]
    refine ⟨_, hv _ _, b, rfl, ⟨_, SqT.of (gg.tup eb nb)⟩, ?_⟩
    refine ⟨fun r m' H3 => m' = ws.length - r ∧ r ≤ ws.length ∧ Go T M H0 H3 ∧ ∃ acc, H3 D = some (.lst acc) ∧ acc.length ≤ n * c + r ∧ DvAll M H0 acc (((ds.take n).flatMap fun d => itemsD (sndD d)) ++ l.take r), ⟨ws.length, rfl, Nat.zero_le _, gg, acc, ea, by omega, by rw [List.take_zero, List.append_nil]; exact da⟩, ?_⟩
    rintro r m' H3 ⟨rfl, hr, g3, acc3, ea3, el3, da3⟩
    have sq : SqT K H3 b ws := SqT.of (g3.tup eb nb)
    by_cases hlt2 : r < ws.length
    · refine .inr ⟨⟨ws, ws[r], sq, by simp [hlt2]⟩, fun H4 => Go T M H0 H4 ∧ ∃ acc, H4 D = some (.lst acc) ∧ acc.length ≤ n * c + (r + 1) ∧ DvAll M H0 acc (((ds.take n).flatMap fun d => itemsD (sndD d)) ++ l.take (r + 1)), fun H4 h4 => ⟨ws.length - (r + 1), by omega, rfl, hlt2, h4⟩, fun x' H4 y' => ?_⟩
      obtain ⟨rfl, y'⟩ := y'
      have ex' := y' ws sq
      obtain ⟨d', ed', hx'⟩ := hws.get ex'
      refine ⟨hw1 _ _ x', ?_⟩
      show if true = true then _ else _
      rw [if_pos rfl]
      refine ⟨x', hv1 _ _ x', acc3, ea3, by omega, g3.over hD0 ea3 (fun _ z => by cases z), acc3 ++ [x'], upd_same, by rw [List.length_append, List.length_singleton]; omega, ?_⟩
      have et' : l.take (r + 1) = l.take r ++ [d'] := by rw [List.take_add_one, ed'] <;> rfl
      rw [et', ← List.append_assoc]
      exact da3.append (.cons hx' .nil)
    · have e : r = ws.length := by omega
      subst e
      refine .inl ⟨⟨ws, sq, Nat.le_refl _⟩, g3, acc3, ea3, by omega, ?_⟩
      rw [hl1, List.take_length] at da3
      have ef : ([PyData.tuple [p, .tuple l]] : List PyData).flatMap (fun d => itemsD (sndD d)) = l := List.append_nil l
      rw [et, List.flatMap_append, ef]
      exact da3
  · have e : n = xs.length := by omega
    subst e
    rw [hl0, List.take_length] at da
    exact .inl ⟨w.stops H' (hG H' gg), hq H' acc gg ea da⟩
/-- all(test(x) for x in source), x in the slot j; b the truth of each -/
theorem all_it {te : TE} {σ0 : L2.St} {S : Hp → Prop} {Z : Bool → Hp → Prop} {b : PyData → Bool} {j : Nat} {P : Addr} {H : Hp} (w : Walk J xs.length G (YAt xs)) (hG : ∀ H', Go T M H H' → G H') (hd : DvAll M H xs ds) (ht : Tabs T H) (hP : P ∈ T)
    (hb : ∀ (x : V) (d : PyData) (H' : Hp) (R : VK), d ∈ ds → Dv M H' x d → Go T M H H' → Tabs T H' → (∀ H'' , Go T M H' H'' → Tabs T H'' → R (.bl (b d)) H'') → te (σ0.set j (some x)) H' R)
    (hS : ∀ H', Go T M H H' → Tabs T H' → ds.all b = true → S H') (hZ : ∀ H', Go T M H H' → Tabs T H' → ds.all b = false → Z false H') :
    TabG H P ∧ ∀ H2, Tabbed P H H2 → ∃ W, (∃ m, W 0 m σ0 H2) ∧ GTurn J (gName j) te W S (KB false W Z) := by
  refine ⟨ht P hP, fun H2 tb => ?_⟩
  have hl := hd.length
  have g2 : Go T M H H2 := Go.tbd (ht P hP) tb
  refine ⟨fun i m σ H' => m = xs.length - i ∧ i ≤ xs.length ∧ Go T M H H' ∧ Tabs T H' ∧ (∀ v, σ.set j v = σ0.set j v) ∧ (ds.take i).all b = true, ⟨xs.length, rfl, Nat.zero_le _, g2, g2.tb ht, fun _ => rfl, by simp⟩, ?_⟩
  rintro i m σ H' ⟨rfl, hi, gg, tt, hs, hall⟩
  by_cases hlt : i < xs.length
  · refine .inr ⟨w.goes i H' hlt (hG H' gg), by omega, fun x H'' y => ?_⟩
    obtain ⟨rfl, ex⟩ := w.yields i H' x H'' hlt (hG H' gg) y
    obtain ⟨d, ed, hv⟩ := hd.get ex
    show te (σ.set j (some x)) H'' _
    rw [hs]
    refine hb x d H'' _ (List.mem_of_getElem? ed) (hv.go gg) gg tt fun H3 g3 t3 => ?_
    refine ⟨b d, rfl, ?_⟩
    have et : ds.take (i + 1) = ds.take i ++ [d] := by rw [List.take_add_one, ed] <;> rfl
    cases c : b d with
    | true =>
      rw [if_neg (by simp)]
      exact ⟨xs.length - (i + 1), by omega, rfl, hlt, gg.trans g3, t3, fun v => by rw [List.set_set], by rw [et, List.all_append, hall]; simp [c]⟩
    | false =>
      rw [if_pos rfl]
      refine hZ H3 (gg.trans g3) t3 ?_
      rw [List.all_eq_false]
      exact ⟨d, List.mem_of_getElem? ed, by rw [c]; simp⟩
  · have e : i = xs.length := by omega
    subst e
    rw [hl, List.take_length] at hall
    exact .inl ⟨w.stops H' (hG H' gg), hS H' gg tt hall⟩
end
end SL
set_option Elab.async false
set_option linter.all false
set_option maxRecDepth 100000
set_option maxHeartbeats 2000000
/-! own words, 9: calls with keywords alone; calls whose exception the slots' wish takes -/
namespace SL
open PySem PySem.Spec PyProof.Rows L2 GxR NdefX GA
/-- a def as it is called by all its keywords, in its parameters' order -/
structure Fnw (P : Program) (w : World) (K : PySem.W.Frag) (mg : Str → Option Value) (base : Heap) (CX : CXT) (k : Nat) (x : Str) (ps : List Str) (sp : Sp) : Prop where
  ex : ∃ (f : Addr) (fd : FuncData), FnOk P w K mg base CX k f fd ps sp ∧ mg x = some (.ref f) ∧ PySem.W.keepIn K (.ref f) = true ∧ ∀ (s : Shared) (ws : List Value), K.In s.heap → ws.length = ps.length → BindsTo s fd ⟨[], ps.zip ws⟩ (ps.zip ws)
section
variable {X : Cx} {CX : CXT} {k j : Nat} {x : Str} {ps : List Str} {sp : Sp} {e : Expr} {es : List Expr} {kws : List Keyword} {t tk : TA} {p pos : Pos} {E : L2.St → XK} {f : Addr} {fd : FuncData}
theorem run_fw {pins : List (Addr × Obj)} {σ : L2.St} {H : Hp} {s : Shared} {Q : VK} {us : List Value} {vs : List V} (F : FnOk X.prog X.w X.K X.mg X.base CX k f fd ps sp) (hr : Room k X.A)
    (hb : ∀ (s : Shared) (ws : List Value), X.K.In s.heap → ws.length = ps.length → BindsTo s fd ⟨[], ps.zip ws⟩ (ps.zip ws)) (hx : PassesAt CX X σ (E σ))
    (I : Inv X pins σ H s) (r : Vals vs us) (h : sp vs H Q (E σ)) : wpAny (model X.prog X.w) X.A (call (.ref f) [] (ps.zip us)) (EP X pins σ Q) X.xe s := by
  have hl : us.length = ps.length := by rw [← r.length]; exact F.len _ _ _ _ h
  refine wpAny_call (codeAny_mono (F.run X.A X.stack s H ⟨[], ps.zip us⟩ us vs Q (E σ) hr I.env0 (hb s us I.kIn hl) r h) fun r s' hq => ?_)
  cases r with
  | error e => exact hx pins H s e s' I hq
  | ok fl =>
    cases fl with
    | ret u => exact I.after hq
    | next => exact False.elim hq
    | brk => exact False.elim hq
    | cont => exact False.elim hq
/-- f(k = v, ..) -/
theorem pe_kw (F : Fnw X.prog X.w X.K X.mg X.base CX k x ps sp) (hr : Room j X.A) (hk : k ≤ j) (hx : ∀ σ, PassesAt CX X σ (E σ)) (hkw : PK X kws tk) (hg : Gl X x := by rfl)
    (hall : (backToKw pos (keywordEach kws X.env)).all (·.1.isSome) = true := by rfl) (hks : (backToKw pos (keywordEach kws X.env)).filterMap (·.1) = ps := by rfl) (hdb : (x == ("__debug__" : Str)) = false := by decide)
    (hpl : ((backTo pos (starEach [] X.env)).any (·.1) || (backToKw pos (keywordEach kws X.env)).any (·.1.isNone)) = false := by rfl) :
    PE X (.Call (.Name x p) [] kws pos) (tCallS sp E tk) := by
  obtain ⟨f, fd, G, m, kp, b⟩ := F.ex
  refine ⟨fun pins s σ H Q I h => ?_⟩
  refine wpAny_Call_Name_kw (ld_glob I hg m ?_ hdb)
  refine PySem.W.callWith_KW0 (h₀ := X.base) I.ok.mod.kin kp hall ?_ hpl
  refine thn (hkw.run pos pins s σ H _ I h) fun ws s2 ⟨zs, H2, I2, rz, q2⟩ => ⟨I2.kIn, ?_⟩
  rw [hks]
  exact run_fw G (hr.mono hk) b (hx σ) I2 rz q2
/-- f(e, ..), an exception of which is the slots' own wish -/
theorem pe_fnS (F : Fnn X.prog X.w X.K X.mg X.base CX k x ps sp) (hr : Room j X.A) (hk : k ≤ j) (hx : ∀ σ, PassesAt CX X σ (E σ)) (ha : PA X (e :: es) t) (hg : Gl X x := by rfl) (hdb : (x == ("__debug__" : Str)) = false := by decide)
    (he : starEach (e :: es) X.env = (false, eval e X.env) :: starEach es X.env := by rfl) (hpl : (backTo pos (starEach es X.env)).any (·.1) = false := by rfl) : PE X (.Call (.Name x p) (e :: es) [] pos) (tCallS sp E t) := by
  obtain ⟨f, fd, G, m, kp, b⟩ := F.ex
  exact pe_callS G (hr.mono hk) hg m kp b hx ha hdb he hpl
theorem pass0S {X : Cx} (σ : L2.St) : PassesAt CX0 X σ E0 := fun pins H s e s' I c => pass0 pins σ H s e s' I c
end
end SL
set_option Elab.async false
set_option linter.all false
set_option maxRecDepth 100000
set_option maxHeartbeats 2000000
/-! own words, 10: not in range(..); range(..) as a value; int(..); all(list); the reading of a list of truths -/
namespace SL
open PySem PySem.Spec PyProof.Rows L2 GxR NdefX GA
section
variable {X : Cx} {a b : Expr} {ta tb : TE} {p pos : Pos}
def rNotRng : R2 := fun x y H Q => ∃ i r lo hi, x = V.int i ∧ y = V.ref r ∧ H r = some (.rng lo hi) ∧ Q (.bl (!decide (lo ≤ i ∧ i < hi))) H
theorem op_outside : OpR X (compareOp .NotIn) rNotRng := by
  intro pins s σ H x y v u Q I rx ry h
  obtain ⟨i, r, lo, hi, rfl, rfl, hr, q⟩ := h
  obtain ⟨k, rfl⟩ := rx
  obtain rfl : u = Value.ref r := ry
  obtain ⟨t1, t2, t3, ho⟩ := I.hok r _ hr
  show wpAny _ _ (do return Value.bool (!(← contains (Value.ref r) (Value.int i k)))) _ _ s
  refine wpAny_bind (wpAny_contains_slot (T := "range") ⟨_, ho, rfl⟩ F.slot_range_contains (call_meets F.slot_range_contains ⟨_, ho, rfl⟩ F.entry_range_contains (F.args_range_contains_2 _ _) (q_contains r lo hi i t1 t2 t3 k) ⟨ho, ?_⟩))
  refine wpAny_truthy_bool (wpAny_pure ⟨.bl _, H, I, rfl, ?_⟩)
  rw [place1]
  exact q
def rRng : List V → Hp → VK → Prop := fun vs H Q => ∃ i j, vs = [V.int i, V.int j] ∧ ∀ p, H p = none → Q (.ref p) (upd H p (.rng i j))
theorem pe_rng (B : Bl X.mg) (ha : PE X a ta) (hb : PE X b tb) (h1 : Gl X "range" := by rfl) (he : starEach (a :: [b]) X.env = (false, eval a X.env) :: starEach [b] X.env := by rfl)
    (he2 : starEach (b :: []) X.env = (false, eval b X.env) :: starEach [] X.env := by rfl) (hpl : (backTo pos (starEach [b] X.env)).any (·.1) = false := by rfl) : PE X (.Call (.Name "range" p) [a, b] [] pos) (tCB rRng (tCons ta (tCons tb tNil))) :=
  pe_callTy cr_range2 h1 B.range (by decide +kernel) (pa_cons ha (pa_cons hb pa_nil he2) he) (by decide) (by decide) he hpl
def rInt : List V → Hp → VK → Prop := fun xs H Q => (∃ i, xs = [.int i] ∧ Q (.int i) H) ∨ ∃ k, xs = [.bl k] ∧ Q (.int (if k then 1 else 0)) H
theorem pe_toInt (B : Bl X.mg) (ha : PE X a ta) (h1 : Gl X "int" := by rfl) (he : starEach (a :: []) X.env = (false, eval a X.env) :: starEach [] X.env := by rfl) : PE X (.Call (.Name "int" p) [a] [] pos) (tCB rInt (tCons ta tNil)) :=
  pe_callTy call_int1 h1 B.int (by decide +kernel) (pa_cons ha pa_nil he) (by decide) (by decide) he
def rLst (K : PySem.W.Frag) : List V → Hp → VK → Prop := fun xs H Q => ∃ p ys, xs = [.ref p] ∧ (SqL K H p ys ∨ SqT K H p ys) ∧ ∀ l, H l = none → Q (.ref l) (upd H l (.lst ys))
theorem pe_toList (B : Bl X.mg) (ha : PE X a ta) (h1 : Gl X "list" := by rfl) (he : starEach (a :: []) X.env = (false, eval a X.env) :: starEach [] X.env := by rfl) : PE X (.Call (.Name "list" p) [a] [] pos) (tCB (rLst X.K) (tCons ta tNil)) :=
  pe_callTy call_list_of h1 B.list (by decide +kernel) (pa_cons ha pa_nil he) (by decide) (by decide) he
theorem pe_allL (hc : X.calm = true) (B : Bl X.mg) (ha : PE X a ta) (h1 : Gl X "all" := by rfl) (he : starEach (a :: []) X.env = (false, eval a X.env) :: starEach [] X.env := by rfl) : PE X (.Call (.Name "all" p) [a] [] pos) (tCB (rAll X.K) (tCons ta tNil)) :=
  pe_callB (cr_all hc) h1 B.all (by decide +kernel) (pa_cons ha pa_nil he) (by decide) (by decide) he
end
section
variable {T : List Addr} {H0 H1 : Hp} {J : It} {n : Nat} {G : Hp → Prop} {Y : Nat → Hp → V → Hp → Prop} {D : Addr} {Qd : Hp → Prop} {σ : L2.St} {g : TG} {te : TE} {vs : List Nat}
/-- [te for g in J]: f i the i-th value; what is made meanwhile stays -/
theorem lc_map (f : Nat → V) (w : Walk J n G Y) (hG : ∀ H', Go T [] H0 H' → G H') (ht : Tabs T H0) (g1 : Go T [] H0 H1) (hD : H1 D = none) (hn : n ≤ sizeLine)
    (hs : ∀ i x H' H'' (R : VK), i < n → Go T [] H0 H' → Tabs T H' → Y i H' x H'' → (∀ H3, Go T [] H' H3 → R (f i) H3) → g x (wipe σ vs) H'' fun σ2 H2 => wipe σ2 vs = wipe σ vs ∧ te σ2 H2 R)
    (hq : ∀ H', Go T [] H0 H' → Tabs T H' → H' D = some (.lst ((List.range n).map f)) → Qd H') :
    ∃ W : Nat → Nat → Hp → Prop, (∃ m, W 0 m (upd H1 D (.lst []))) ∧ ∀ i' m H, W i' m H →
      (J.stop i' H ∧ Qd H) ∨ (J.go i' H ∧ ∃ Nx : Hp → Prop, (∀ H', Nx H' → ∃ m', m' < m ∧ W (i' + 1) m' H') ∧ ∀ x H', J.yld i' H x H' → g x (wipe σ vs) H' fun σ2 H2 => wipe σ2 vs = wipe σ vs ∧ tYes σ2 H2 fun b H3 =>
        if b = true then te σ2 H3 fun y H4 => ∃ acc, H4 D = some (.lst acc) ∧ acc.length < sizeLine ∧ Nx (upd H4 D (.lst (acc ++ [y]))) else Nx H3) := by
  have hD0 : H0 D = none := g1.al D hD
  refine lc_it w (fun i H' => Go T [] H0 H' ∧ H' D = some (.lst ((List.range i).map f))) ⟨g1.trans (Go.new hD), upd_same⟩ (fun i H' _ h => hG H' h.1) (fun i x H' H'' hlt h y => ?_) (fun H' h => hq H' h.1 (h.1.tb ht) h.2)
  obtain ⟨gg, e⟩ := h
  refine hs i x H' H'' _ hlt gg (gg.tb ht) y fun H3 g3 => ?_
  have e3 := g3.lst e List.not_mem_nil
  refine ⟨_, e3, by rw [List.length_map, List.length_range]; omega, (gg.trans g3).over hD0 e3 (fun _ z => by cases z), ?_⟩
  rw [upd_same, List.range_succ, List.map_append] <;> rfl
end
theorem map_range_get {α β : Type} {xs : List α} {f : Nat → β} {g : α → β} (h : ∀ i x, xs[i]? = some x → f i = g x) : (List.range xs.length).map f = xs.map g := by
  apply List.ext_getElem?
  intro i
  rw [List.getElem?_map, List.getElem?_map]
  by_cases hi : i < xs.length
  · rw [List.getElem?_range hi, List.getElem?_eq_getElem hi]
    exact congrArg some (h i _ (List.getElem?_eq_getElem hi))
  · rw [List.getElem?_eq_none (by simpa using hi), List.getElem?_eq_none (by simpa using hi)] <;> rfl
end SL
set_option Elab.async false
set_option linter.all false
set_option maxRecDepth 100000
set_option maxHeartbeats 4000000
/-! own words, 30: {e for x in xs}, e an int or a text; len of such a set -/
namespace SL
open PySem PySem.Spec PyProof.Rows L2 GxR NdefX GA PpSet
section
variable {X : Cx}
/-- the reading: D the new set -/
def tScK (P : Program) (w : World) (wi : TI) (g : TG) (tt : TT) (te : TE) (vs : List Nat) : TE := fun σ H Q => wi σ H fun J H1 => ∀ D, H1 D = none → ∃ W : Nat → Nat → Hp → Prop, (∃ m, W 0 m (upd H1 D (SetK P w D (fun _ => false) 0))) ∧ ∀ i m H, W i m H →
  (J.stop i H ∧ Q (.ref D) H) ∨ (J.go i H ∧ ∃ Nx : Hp → Prop, (∀ H', Nx H' → ∃ m', m' < m ∧ W (i + 1) m' H') ∧ ∀ x H', J.yld i H x H' → g x (wipe σ vs) H' fun σ2 H2 => wipe σ2 vs = wipe σ vs ∧ tt σ2 H2 fun b H3 =>
    if b = true then te σ2 H3 fun y H4 => rSAddK P w (.ref D) [y] H4 fun _ H5 => Nx H5 else Nx H3)
theorem setK_fresh {H : Hp} {s : Shared} : ObjOk X.prog X.w H (s.heap.push { cls := .type "set", dict := none, data := .set #[] 0 (.fresh 0 0 (!X.w.params.followText "set-order")) }) s.heap.objs.size (SetK X.prog X.w s.heap.objs.size (fun _ => false) 0) :=
  setK_new ⟨_, #[], 0, _, Heap.get?_push_size _ rfl, ⟨rfl, rfl, rfl⟩, rfl, (fun e he => by simp at he), (fun k => by simp), (by decide), (by rfl), rfl⟩
theorem pe_scK {elt tg iter : Expr} {ifs : List Expr} {scope : Scope} {own : List (Str × Nat)} {pos : Pos} {wi : TI} {g : TG} {tt : TT} {te : TE} (hc : X.calm = true) (hN : X.N.Nodup) (hi : PI X tg iter wi) (ok : BlkOk X.N X.env.scope scope own)
    (hg : ∀ (s : Shared) (H : Hp) (C : Addr) (cl : List (Str × Addr)) (fp : List Addr), PG (X.blk s H scope (compEnvC scope cl C X.env) fp) tg g) (ht : ∀ (s : Shared) (H : Hp) (C : Addr) (cl : List (Str × Addr)) (fp : List Addr), PTs (X.blk s H scope (compEnvC scope cl C X.env) fp) ifs tt)
    (he : ∀ (s : Shared) (H : Hp) (C : Addr) (cl : List (Str × Addr)) (fp : List Addr), PE (X.blk s H scope (compEnvC scope cl C X.env) fp) elt te) (hs : ∀ x, foldedSetIterable iter X.env x = pure x := by intro _; rfl) :
    PE X (.SetComp elt [⟨tg, iter, ifs, 0⟩] scope pos) (tScK X.prog X.w wi g tt te (own.map (·.2))) := by
  refine ⟨fun pins s σ H Q I h => ?_⟩
  rw [eval_SetComp]
  refine wpAny_comprehension_free (use := none) rfl hs (closure_ok fun y hy e => (ok.free y hy e).elim (fun k => I.ok.has _ (.inl k)) fun k => I.ok.has _ (.inr k)) ok.kind (fun y hy e => by rw [ok.uniq y hy, e])
    (thn (hi.run pins s σ H _ I h) fun xv s1 hx => thn hx fun itv s2 h2 => ?_)
  obtain ⟨it, fp, tn, J, H2, rfl, I2, T, st2, f2, q⟩ := h2
  refine newSet_ok (newEnv_comp ?_)
  obtain ⟨W, ⟨m0, w0⟩, turn⟩ := q s2.heap.objs.size (I2.hok.fresh (Nat.le_refl _))
  have mk : ∀ S : Shared, S = { s2 with heap := s2.heap.push { cls := .type "set", dict := none, data := .set #[] 0 (.fresh 0 0 (!X.w.params.followText "set-order")) } } → Inv X pins σ (upd H2 s2.heap.objs.size (SetK X.prog X.w s2.heap.objs.size (fun _ => false) 0)) S := fun S e => by
    rw [e]
    exact I2.laid (t' := s2.toks) (fun b o z => Heap.get?_push_of_some _ z) (Nat.le_refl _) setK_fresh
  generalize hs3 : ({ s2 with heap := s2.heap.push { cls := .type "set", dict := none, data := .set #[] 0 (.fresh 0 0 (!X.w.params.followText "set-order")) } } : Shared) = s3 at mk
  have I3 := mk s3 rfl
  have h3 : s3.heap = s2.heap.push { cls := .type "set", dict := none, data := .set #[] 0 (.fresh 0 0 (!X.w.params.followText "set-order")) } := by rw [← hs3]
  have low : ∀ b ∈ fp, b < s2.heap.objs.size := fun b hb => let ⟨o, e, _⟩ := T.obj _ _ st2 b hb; Heap.lt_size e
  have f3 : ∀ b ∈ fp, FpOk X pins (upd H2 s2.heap.objs.size (SetK X.prog X.w s2.heap.objs.size (fun _ => false) 0)) b ∧ b < s3.heap.objs.size := fun b hb =>
    ⟨⟨by rw [upd_ne (Nat.ne_of_lt (low b hb))]; exact (f2 b hb).1, (f2 b hb).2⟩, by rw [h3, Heap.size_push]; exact Nat.lt_succ_of_lt (low b hb)⟩
  have st3 : tn 0 s3.heap := T.keep _ _ _ st2 fun b _ o e => by rw [h3]; exact Heap.get?_push_of_some _ e
  generalize upd H2 s2.heap.objs.size (SetK X.prog X.w s2.heap.objs.size (fun _ => false) 0) = H3 at I3 f3 w0
  generalize s2.heap.objs.size = D at *
  have I4 := block_start I3 ok hN f3
  have pg := hg s3 H3 s3.heap.objs.size (cellsFrom (s3.heap.objs.size + 1) scope.names (cloFrom X.env.cells scope.names [])) fp
  have pt := ht s3 H3 s3.heap.objs.size (cellsFrom (s3.heap.objs.size + 1) scope.names (cloFrom X.env.cells scope.names [])) fp
  have pe := he s3 H3 s3.heap.objs.size (cellsFrom (s3.heap.objs.size + 1) scope.names (cloFrom X.env.cells scope.names [])) fp
  show codeAny _ _ (.compStart (.SetComp elt [⟨tg, iter, ifs, 0⟩] scope pos) 0 (.ref it) (.ref D) (compEnvC scope (cellsFrom (s3.heap.objs.size + 1) scope.names (cloFrom X.env.cells scope.names [])) s3.heap.objs.size X.env)) (compPost (model X.prog X.w) X.A X.xe none (EP X pins σ Q) (.ref D) s3.heap.objs.size) { s3 with heap := pushCells (s3.heap.push { cls := .type "dict", data := .dict #[] }) scope.names }
  generalize hce : compEnvC scope (cellsFrom (s3.heap.objs.size + 1) scope.names (cloFrom X.env.cells scope.names [])) s3.heap.objs.size X.env = ce at I4 pg pt pe ⊢
  have cL : ce.locals = s3.heap.objs.size := by rw [← hce]; rfl
  generalize hs4 : ({ s3 with heap := pushCells (s3.heap.push { cls := .type "dict", data := .dict #[] }) scope.names } : Shared) = s4 at I4 ⊢
  have st4 : tn 0 s4.heap := T.keep _ _ _ st3 fun b _ o e => by rw [← hs4]; exact pushCells_keeps _ _ _ _ (Heap.get?_push_of_some _ e)
  have stat : ∀ {σ' : L2.St} {H' : Hp} {s' : Shared}, Inv (X.blk s3 H3 scope ce fp) [] σ' H' s' → (∀ b ∈ fp, H' b = none) → ∀ b ∈ fp, FpOk (X.blk s3 H3 scope ce fp) [] H' b := fun {σ' H' s'} I' hn b hb =>
    ⟨hn b hb, (I'.ok.exf b hb).1, I'.ok.exfs b hb, .inl hb, (I'.ok.exf b hb).2, fun p hp => absurd (show p ∈ ([] : List (Addr × Obj)) ++ [] from hp) (by simp)⟩
  have loop : codeAny (model X.prog X.w) X.A (.compLoop (.SetComp elt [⟨tg, iter, ifs, 0⟩] scope pos) 0 (.ref it) (.ref D) ce) (compPost (model X.prog X.w) X.A X.xe none (EP X pins σ Q) (.ref D) s3.heap.objs.size) s4 := by
    refine compLoopS_any (fun n s' => ∃ i H', Inv (X.blk s3 H3 scope ce fp) [] (wipe σ (own.map (·.2))) H' s' ∧ tn i s'.heap ∧ (∀ b ∈ fp, H' b = none) ∧ W i n H') ?_ m0 ⟨0, H3, I4, st4, fun b hb => (f3 b hb).1.1, w0⟩
    rintro n s5 ⟨i, H5, I5, st5, n5, w5⟩
    rcases turn i n H5 w5 with ⟨stop, qq⟩ | ⟨go, Nx, hNx, step⟩
    · refine thnF (T.done (X.blk s3 H3 scope ce fp) rfl rfl rfl hc i [] s5 _ H5 (fun _ _ => False) I5 (stat I5 n5) st5 stop) fun r s6 ⟨hr, I6⟩ => ?_
      subst hr
      have I7 : Inv X pins σ H5 s6 := I3.call' (ch := fp) I6.os I6.base I6.hok I6.bare fun b hb => ⟨(f3 b hb).1.2.2.2.1, (f3 b hb).1.2.1, (f3 b hb).1.2.2.2.2.1, (f3 b hb).1.2.2.2.2.2⟩
      have nC : H5 s3.heap.objs.size = none := by
        have z : H5 ce.locals = none := I6.free
        rw [cL] at z
        exact z
      obtain ⟨m, hn, _⟩ := I6.loc
      have hn : s6.heap.Ns ce.locals m := hn
      rw [cL] at hn
      obtain ⟨f0, f1, f4, f5, f6, f7⟩ := I3.fpOk (b := s3.heap.objs.size) (Nat.le_refl _) nC
      exact ⟨m, hn, fun h'' sb => ⟨.ref D, H5, I7.turned (t' := s6.toks) (fun b o hb e => (sb.2 b hb).trans e) f0 f1 f5 f6 f7, rfl, qq⟩⟩
    · refine thnF (T.item (X.blk s3 H3 scope ce fp) rfl rfl rfl hc i [] s5 _ H5 (fun _ _ => False) I5 (stat I5 n5) st5 go) fun r s6 ⟨u, hr, h6⟩ => ?_
      subst hr
      refine thnF h6 fun _ s7 ⟨x, H7, I7, r7, y7, st7, n7⟩ => ?_
      refine thnF (pg.run _ s7 _ H7 x u _ (I7.pinned (stat I7 n7) (T.obj _ _ st7)) r7 (step x H7 y7)) fun _ s8 ⟨σ8, H8, I8, hw8, q8⟩ => ?_
      refine thnF (pt.run _ s8 σ8 H8 _ I8 q8) fun b s9 ⟨H9, I9, q9⟩ => ?_
      have fin : ∀ {s' : Shared} {H' : Hp}, Inv (X.blk s3 H3 scope ce fp) ([] ++ pinsAt fp s7.heap) σ8 H' s' → Nx H' → ∃ m, m < n ∧ ∃ i H', Inv (X.blk s3 H3 scope ce fp) [] (wipe σ (own.map (·.2))) H' s' ∧ tn i s'.heap ∧ (∀ b ∈ fp, H' b = none) ∧ W i m H' := fun {s' H'} I' nx => by
        obtain ⟨m', hm, w'⟩ := hNx H' nx
        have pin' : ∀ b ∈ fp, ∀ o, s7.heap.get? b = some o → s'.heap.get? b = some o ∧ H' b = none := fun b hb o e =>
          let z := I'.pin (b, o) (List.mem_append_right _ (List.mem_append_right _ (mem_pinsAt hb e)))
          ⟨z.1, z.2.1⟩
        refine ⟨m', hm, i + 1, H', (I'.unpinned (pins := [])).weak (by rw [← hw8, wipe_length]) (fun j v e => ?_), T.keep _ _ _ st7 fun b hb o e => (pin' b hb o e).1, fun b hb => ?_, w'⟩
        · rw [← hw8] at e
          exact (wipe_some e).1
        · obtain ⟨o, e, _⟩ := T.obj _ _ st7 b hb
          exact (pin' b hb o e).2
      cases b with
      | false => exact fin I9 q9
      | true =>
        refine thnF (pe.run _ s9 σ8 H9 _ I9 q9) fun z s10 ⟨yv, H10, I10, r10, q10⟩ => ?_
        exact thnF (mt_saddK (X := X.blk s3 H3 scope ce fp) _ s10 σ8 H10 (.ref D) [yv] (.ref D) [z] _ I10 rfl (.cons r10 .nil) q10) fun _ s11 ⟨_, H11, I11, _, q11⟩ => fin I11 q11
  exact codeAny_compStart_set loop (T.self X.A 0 _ _ _ st4 loop)
/-- len of a set of keys -/
def rLenK (P : Program) (w : World) : List V → Hp → VK → Prop := fun vs H Q => ∃ (a : Addr) (S : Key → Bool) (n : Nat), vs = [V.ref a] ∧ H a = some (SetK P w a S n) ∧ Q (.int (n : Int)) H
theorem cr_lenK : CallR X (.builtin "len") (rLenK X.prog X.w) := by
  intro pins s σ H vs us Q I r h
  obtain ⟨a, S, n, rfl, ha, q⟩ := h
  obtain ⟨u, rfl, ru⟩ := r.one
  cases ru
  obtain ⟨o, es, ep, t, ho, hex, hd, _, _, hsz, hf, hn⟩ := setK_get I ha
  subst hn
  have hb : scanBound ≤ 2 ^ 62 := by decide
  refine call_len_set ho hex hd hf (by omega) ⟨.int (es.size : Int), H, I.tok _, ⟨_, rfl⟩, q⟩
theorem pe_lenK {a : Expr} {ta : TE} {p pos : Pos} (B : Bl X.mg) (ha : PE X a ta) (h1 : Gl X "len" := by rfl) (he : starEach (a :: []) X.env = (false, eval a X.env) :: starEach [] X.env := by rfl) : PE X (.Call (.Name "len" p) [a] [] pos) (tCB (rLenK X.prog X.w) (tCons ta tNil)) :=
  pe_callB cr_lenK h1 B.len PySem.boot_len (pa_cons ha pa_nil he) (by decide) (by decide) he
end
instance keyMem (k : L2.Key) (l : List L2.Key) : Decidable (k ∈ l) := @List.instDecidableMemOfLawfulBEq L2.Key instBEqOfDecidableEq inferInstance k l
/-- how many keys of a list are unlike -/
def distR : List Key → Nat
  | [] => 0
  | k :: r => if k ∈ r then distR r else distR r + 1
def distK (l : List Key) : Nat := distR l.reverse
theorem distK_snoc (l : List Key) (k : Key) : distK (l ++ [k]) = if k ∈ l then distK l else distK l + 1 := by
  unfold distK
  rw [List.reverse_append]
  show (if k ∈ l.reverse then distR l.reverse else distR l.reverse + 1) = _
  simp only [List.mem_reverse]
theorem distR_le : ∀ l : List Key, distR l ≤ l.length
  | [] => Nat.le_refl _
  | k :: r => by
    have := distR_le r
    show (if k ∈ r then distR r else distR r + 1) ≤ r.length + 1
    split <;> omega
theorem distR_nodup : ∀ l : List Key, distR l = l.length ↔ l.Nodup
  | [] => by simp [distR]
  | k :: r => by
    have h1 := distR_le r
    have h2 := distR_nodup r
    show (if k ∈ r then distR r else distR r + 1) = r.length + 1 ↔ _
    rw [List.nodup_cons]
    by_cases c : k ∈ r
    · rw [if_pos c]
      exact ⟨fun e => by omega, fun e => absurd c e.1⟩
    · rw [if_neg c, ← h2]
      exact ⟨fun e => ⟨c, by omega⟩, fun e => by omega⟩
theorem distK_le (l : List Key) : distK l ≤ l.length := by
  have := distR_le l.reverse
  rw [List.length_reverse] at this
  exact this
theorem distK_nodup (l : List Key) : distK l = l.length ↔ l.Nodup := by
  unfold distK
  rw [← List.length_reverse (as := l), distR_nodup]
  exact (List.Perm.nodup_iff (List.reverse_perm l))
/-- at most one key -/
theorem distR_one : ∀ l : List Key, distR l ≤ 1 ↔ ∀ a ∈ l, ∀ b ∈ l, a = b
  | [] => by simp [distR]
  | k :: r => by
    have ih := distR_one r
    have e : distR (k :: r) = if k ∈ r then distR r else distR r + 1 := rfl
    rw [e]
    by_cases c : k ∈ r
    · rw [if_pos c, ih]
      refine ⟨fun h a ha b hb => ?_, fun h a ha b hb => h a (List.mem_cons_of_mem _ ha) b (List.mem_cons_of_mem _ hb)⟩
      have key : ∀ x, x ∈ k :: r → x ∈ r := fun x hx => (List.mem_cons.mp hx).elim (fun z => by rw [z]; exact c) id
      exact h a (key a ha) b (key b hb)
    · rw [if_neg c]
      refine ⟨fun h => ?_, fun h => ?_⟩
      · have hz : r = [] := by
          cases r with
          | nil => rfl
          | cons x r =>
            have : 1 ≤ distR (x :: r) := by
              clear ih h e c
              induction r generalizing x with
              | nil => show (if x ∈ [] then _ else _) ≥ 1; rw [if_neg (by simp)]; exact Nat.succ_le_succ (Nat.zero_le _)
              | cons y r ih =>
                have := ih y
                show 1 ≤ if x ∈ y :: r then distR (y :: r) else distR (y :: r) + 1
                split <;> omega
            omega
        subst hz
        intro a ha b hb
        rw [List.mem_singleton.mp ha, List.mem_singleton.mp hb]
      · cases r with
        | nil => exact Nat.le_refl _
        | cons x r => exact absurd (by rw [h k List.mem_cons_self x (List.mem_cons_of_mem _ List.mem_cons_self)]; exact List.mem_cons_self) c
theorem distK_one (l : List Key) : distK l ≤ 1 ↔ ∀ a ∈ l, ∀ b ∈ l, a = b := by
  unfold distK
  rw [distR_one]
  simp only [List.mem_reverse]
/-- the set of the keys of a list -/
def SetL (P : Program) (w : World) (D : Addr) (l : List Key) : HO := SetK P w D (fun k => decide (k ∈ l)) (distK l)
section
variable {P : Program} {pw : World} {T : List Addr} {H0 H1 : Hp} {J : It} {n : Nat} {G : Hp → Prop} {Y : Nat → Hp → V → Hp → Prop} {D : Addr} {Qd : Hp → Prop} {σ : L2.St} {g : TG} {te : TE} {vs : List Nat}
theorem SetL_nil : SetK P pw D (fun _ => false) 0 = SetL P pw D [] := by
  unfold SetL
  congr 1
theorem SetL_snoc (l : List Key) (k : Key) : SetK P pw D (fun j => decide (j ∈ l) || decide (j = k)) (if decide (k ∈ l) = true then distK l else distK l + 1) = SetL P pw D (l ++ [k]) := by
  unfold SetL
  rw [distK_snoc]
  congr 1
  · funext j
    rw [← Bool.decide_or]
    exact decide_eq_decide.mpr (by simp)
  · simp only [decide_eq_true_eq]
/-- {te for g in J}: f i the i-th key; what is made meanwhile stays -/
theorem sc_map (f : Nat → Key) (w : Walk J n G Y) (hG : ∀ H', Go T [] H0 H' → G H') (ht : Tabs T H0) (g1 : Go T [] H0 H1) (hD : H1 D = none) (hn : n + 1 < scanBound)
    (hs : ∀ i x H' H'' (R : VK), i < n → Go T [] H0 H' → Tabs T H' → Y i H' x H'' → (∀ H3, Go T [] H' H3 → R (kV (f i)) H3) → g x (wipe σ vs) H'' fun σ2 H2 => wipe σ2 vs = wipe σ vs ∧ te σ2 H2 R)
    (hq : ∀ H', Go T [] H0 H' → Tabs T H' → H' D = some (SetL P pw D ((List.range n).map f)) → Qd H') :
    ∃ W : Nat → Nat → Hp → Prop, (∃ m, W 0 m (upd H1 D (SetK P pw D (fun _ => false) 0))) ∧ ∀ i' m H, W i' m H →
      (J.stop i' H ∧ Qd H) ∨ (J.go i' H ∧ ∃ Nx : Hp → Prop, (∀ H', Nx H' → ∃ m', m' < m ∧ W (i' + 1) m' H') ∧ ∀ x H', J.yld i' H x H' → g x (wipe σ vs) H' fun σ2 H2 => wipe σ2 vs = wipe σ vs ∧ tYes σ2 H2 fun b H3 =>
        if b = true then te σ2 H3 fun y H4 => rSAddK P pw (.ref D) [y] H4 fun _ H5 => Nx H5 else Nx H3) := by
  have hD0 : H0 D = none := g1.al D hD
  refine ⟨fun i m H' => m = n - i ∧ i ≤ n ∧ Go T [] H0 H' ∧ H' D = some (SetL P pw D ((List.range i).map f)), ⟨n, rfl, Nat.zero_le _, g1.trans (Go.new hD), by rw [upd_same, SetL_nil] <;> rfl⟩, ?_⟩
  rintro i m H' ⟨rfl, hi, gg, e⟩
  have q := hG H' gg
  by_cases hlt : i < n
  · refine .inr ⟨w.goes i H' hlt q, fun H2 => Go T [] H0 H2 ∧ H2 D = some (SetL P pw D ((List.range (i + 1)).map f)), fun H2 h => ⟨n - (i + 1), by omega, rfl, hlt, h.1, h.2⟩, fun x H2 y => ?_⟩
    refine hs i x H' H2 _ hlt gg (gg.tb ht) (w.yields i H' x H2 hlt q y) fun H3 g3 => ?_
    have e3 : H3 D = some (SetL P pw D ((List.range i).map f)) := g3.gr D _ e List.not_mem_nil (fun ps z => by unfold SetL SetK at z; cases z)
    have hle := distK_le ((List.range i).map f)
    rw [List.length_map, List.length_range] at hle
    refine ⟨D, f i, _, _, rfl, rfl, e3, by omega, (gg.trans g3).over hD0 e3 (fun ps z => by unfold SetL SetK at z; cases z), ?_⟩
    rw [upd_same, SetL_snoc, List.range_succ, List.map_append]
    rfl
  · have ei : i = n := by omega
    subst ei
    exact .inl ⟨w.stops H' q, hq H' gg (gg.tb ht) e⟩
end
end SL
set_option Elab.async false
set_option linter.all false
set_option maxRecDepth 100000
set_option maxHeartbeats 4000000
/-! own words, 30: zip of any number of tuples, a name as target -/
namespace ZN
open PySem RZ
open PySem.Sem (wp)
abbrev IsZ (h : Heap) (z TI TO : Addr) (f0 : Value) (f1 : Bool) : Prop :=
  h.get? z = some { cls := .type "zip", dict := none, data := .fields #[f0, .bool f1, .bool false, .ref TI, .ref TO], slots := #[] }
abbrev IsTp (h : Heap) (T : Addr) (vs : List Value) : Prop := h.get? T = some { cls := .type "tuple", data := .seq vs.toArray }
/-- an iterator, its tuple, the tuple's items -/
abbrev Cell := Addr × Addr × Array Value
def refs (cs : List Cell) : List Value := cs.map fun c => .ref c.1
def at_ (k : Nat) (cs : List Cell) : List Value := cs.map fun c => c.2.2.getD k .none
structure Apart (z TI TO : Addr) (cs : List Cell) : Prop where
  TIz : TI ≠ z
  TOz : TO ≠ z
  TITO : TI ≠ TO
  nz : z ∉ cs.map (·.1)
  nI : TI ∉ cs.map (·.1)
  nO : TO ∉ cs.map (·.1)
  nd : (cs.map (·.1)).Nodup
  tz : ∀ c ∈ cs, c.2.1 ≠ z
  tO : ∀ c ∈ cs, c.2.1 ≠ TO
  ti : ∀ c ∈ cs, c.2.1 ∉ cs.map (·.1)
/-- what stays but z, TO and the iterators -/
def Keeps (z TO : Addr) (cs : List Cell) (h h' : Heap) : Prop := ∀ c o, c ≠ z → c ≠ TO → c ∉ cs.map (·.1) → h.get? c = some o → h'.get? c = some o
section
variable {prog : Program} {w : World} {A : Around} {E : Value → Shared → Prop} {s : Shared}
theorem alive {a : Addr} {Q : Option Obj → Shared → Prop} (h : Q (s.heap.get? a) s) : wpAny (model prog w) A (loadIfAlive a) Q E s := fun _ _ _ => h

theorem free_or {z TI TO : Addr} {f0 : Value} {f1 : Bool} {Q : Bool → Shared → Prop} (hz : IsZ s.heap z TI TO f0 f1) (h0 : f0 = .none ∨ ∃ a : Nat, f0 = rawInt a)
    (ht : Q true s) (hf : ∀ h', IsZ h' z TI TO f0 true → Heap.SameBut z s.heap h' → Q false { s with heap := h' }) :
    wpAny (model prog w) A (Builtin.SmallTypes.ownedTupleIsFree (.ref z)) Q E s := by
  unfold Builtin.SmallTypes.ownedTupleIsFree
  rcases h0 with rfl | ⟨a, rfl⟩
  · exact wpAny_bind (wpAny_field hz rfl (x := .none) rfl (wpAny_pure ht))
  · refine wpAny_bind (wpAny_field hz rfl (x := rawInt a) rfl ?_)
    show wpAny _ _ (loadIfAlive ((a : Int).toNat) >>= _) _ _ _
    rw [Int.toNat_natCast]
    refine wpAny_bind (alive ?_)
    cases s.heap.get? a with
    | none => exact wpAny_pure ht
    | some o =>
      simp only [Option.isNone_some, Bool.false_eq_true, if_false]
      refine wpAny_bind (wpAny_field hz rfl (x := .bool f1) rfl ?_)
      cases f1 with
      | true =>
        rw [if_neg (show ¬ ((Value.bool true != Value.bool true) = true) from Bool.false_ne_true)]
        exact wpAny_pure (hf s.heap hz (Heap.SameBut.refl _ _))
      | false =>
        rw [if_pos (show (Value.bool false != Value.bool true) = true from rfl)]
        exact wpAny_bind (wpAny_setField_rec hz (by simp) fun h₁ hz₁ hs₁ => wpAny_pure (hf h₁ hz₁ hs₁))

/-- how far the draws have come: pre drawn, rest still to be drawn -/
structure Far (s : Heap) (z TO : Addr) (cs pre rest : List Cell) (k : Nat) (h : Heap) : Prop where
  cut : cs = pre ++ rest
  size : h.objs.size = s.objs.size
  keep : Keeps z TO cs s h
  done : ∀ c ∈ pre, h.IsTupleIter c.1 c.2.1 (k + 1)
  todo : ∀ c ∈ rest, h.IsTupleIter c.1 c.2.1 k
theorem Far.turn {s0 h h' : Heap} {z TI TO : Addr} {cs pre rest : List Cell} {c : Cell} {k : Nat} (D : Apart z TI TO cs) (F : Far s0 z TO cs pre (c :: rest) k h) (hs : Heap.SameBut c.1 h h') (hi : h'.IsTupleIter c.1 c.2.1 (k + 1)) :
    Far s0 z TO cs (pre ++ [c]) rest k h' := by
  have nd := D.nd
  rw [F.cut, List.map_append, List.map_cons] at nd
  have hc : c ∈ cs := by rw [F.cut]; simp
  refine ⟨by rw [F.cut]; simp, hs.1.trans F.size, fun d o d1 d2 d3 e => hs.extBut _ _ (fun x => d3 (by rw [x]; exact List.mem_map_of_mem hc)) (F.keep d o d1 d2 d3 e), fun d hd => ?_, fun d hd => ?_⟩
  · rcases List.mem_append.mp hd with q | q
    · refine (F.done d q).extBut hs.extBut fun x => ?_
      exact (List.nodup_append.mp nd).2.2 _ (List.mem_map_of_mem q) _ (List.mem_cons_self ..) x
    · rw [List.mem_singleton.mp q]; exact hi
  · refine (F.todo d (List.mem_cons_of_mem _ hd)).extBut hs.extBut fun x => ?_
    have nd2 := (List.nodup_append.mp nd).2.1
    exact (List.nodup_cons.mp nd2).1 (x ▸ List.mem_map_of_mem hd)
theorem Far.write {s0 h h' : Heap} {z TI TO : Addr} {cs pre rest : List Cell} {k : Nat} {a : Addr} (D : Apart z TI TO cs) (F : Far s0 z TO cs pre rest k h) (ha : a = z ∨ a = TO) (hs : Heap.SameBut a h h') :
    Far s0 z TO cs pre rest k h' := by
  have na : a ∉ cs.map (·.1) := by rcases ha with x | x <;> rw [x]; exact D.nz; exact D.nO
  refine ⟨F.cut, hs.1.trans F.size, fun d o d1 d2 d3 e => hs.extBut _ _ (fun x => by rcases ha with y | y; exact d1 (x.trans y); exact d2 (x.trans y)) (F.keep d o d1 d2 d3 e), fun d hd => ?_, fun d hd => ?_⟩
  · exact (F.done d hd).extBut hs.extBut fun x => na (x ▸ List.mem_map_of_mem (by rw [F.cut]; simp [hd]))
  · exact (F.todo d hd).extBut hs.extBut fun x => na (x ▸ List.mem_map_of_mem (by rw [F.cut]; simp [hd]))

theorem updateSeq_tp {T : Addr} {vs : List Value} {x : Value} {k : Nat} {Q : Unit → Shared → Prop} (hT : IsTp s.heap T vs) (hsz : vs.length ≤ sizeLine)
    (h : ∀ h', IsTp h' T (vs.set k x) → Heap.SameBut T s.heap h' → Q () { s with heap := h' }) : wpAny (model prog w) A (updateSeq T (·.setIfInBounds k x)) Q E s := by
  refine wpAny_updateSeq hT rfl (h _ ?_ (Heap.SameBut.update ..)) (by simpa using hsz) (by simpa using Nat.le_succ_of_le hsz)
  show Heap.get? _ T = _
  rw [Heap.get?_update_self _ hT rfl]
  simp [Obj.mapSeq]
theorem at_len (k : Nat) (cs : List Cell) : (at_ k cs).length = cs.length := List.length_map ..
theorem at_snoc (k : Nat) (pre : List Cell) (c : Cell) : at_ k (pre ++ [c]) = at_ k pre ++ [c.2.2.getD k .none] := by simp [at_]
theorem set_next (k : Nat) (pre : List Cell) (c : Cell) (vs : List Value) (h : pre.length < vs.length) :
    (at_ k pre ++ vs.drop pre.length).set pre.length (c.2.2.getD k .none) = at_ k (pre ++ [c]) ++ vs.drop (pre ++ [c]).length := by
  rw [at_snoc, List.drop_eq_getElem_cons h, List.set_append_right _ _ (by rw [at_len] <;> exact Nat.le_refl _), at_len, Nat.sub_self, List.set_cons_zero, List.append_assoc]
  simp
theorem Far.tuple {s0 h : Heap} {z TI TO : Addr} {cs pre rest : List Cell} {k : Nat} (D : Apart z TI TO cs) (F : Far s0 z TO cs pre rest k h) {c : Cell} (hc : c ∈ cs) (hl : s0.IsTuple c.2.1 c.2.2) : h.IsTuple c.2.1 c.2.2 :=
  hl.at fun o e => F.keep _ o (D.tz c hc) (D.tO c hc) (D.ti c hc) e

/-- the next tuple of zip, no end in sight -/
theorem next_item {z TI TO : Addr} {cs : List Cell} {k : Nat} {f0 : Value} {f1 : Bool} {vs : List Value} {Q : Value → Shared → Prop} (D : Apart z TI TO cs) (hne : cs ≠ []) (hlen : cs.length ≤ sizeLine)
    (hz : IsZ s.heap z TI TO f0 f1) (h0 : f0 = .none ∨ ∃ a : Nat, f0 = rawInt a) (hTI : IsTp s.heap TI (refs cs)) (hTO : IsTp s.heap TO vs) (hvs : vs.length = cs.length)
    (hi : ∀ c ∈ cs, s.heap.IsTupleIter c.1 c.2.1 k) (hl : ∀ c ∈ cs, s.heap.IsTuple c.2.1 c.2.2) (hk : ∀ c ∈ cs, k < c.2.2.size)
    (hQ : ∀ h' f0' f1' vs', IsZ h' z TI TO f0' f1' → (f0' = .none ∨ ∃ a : Nat, f0' = rawInt a) → IsTp h' TO vs' → vs'.length = cs.length → (∀ c ∈ cs, h'.IsTupleIter c.1 c.2.1 (k + 1)) →
      IsTp h' s.heap.objs.size (at_ k cs) → h'.objs.size = s.heap.objs.size + 1 → Keeps z TO cs s.heap h' → Q (.ref s.heap.objs.size) { s with heap := h' }) :
    wpAny (model prog w) A (Builtin.«zip.__next__» ⟨[.ref z], []⟩) (fun fin s' => ∃ v, fin = .done (.ret v) ∧ Q v s') E s := by
  show wpAny _ _ (field (.ref z) 2 >>= _) _ _ _
  refine wpAny_bind (wpAny_field hz rfl (x := .bool false) rfl ?_)
  show wpAny _ _ (field (.ref z) 3 >>= _) _ _ _
  refine wpAny_bind (wpAny_field hz rfl (x := .ref TI) rfl ?_)
  refine wpAny_bind (wpAny_seqItems hTI rfl ?_)
  have he : (refs cs).toArray.isEmpty = false := by
    cases cs with
    | nil => exact absurd rfl hne
    | cons c cs => rfl
  simp only [he, Bool.false_eq_true, if_false]
  show wpAny _ _ (Builtin.SmallTypes.ownedTupleIsFree (.ref z) >>= _) _ _ _
  refine wpAny_bind (free_or hz h0 ?_ fun h₁ hz₁ hs₁ => ?_)
  · simp only [if_true]
    refine wpAny_bind (wpAny_rule ?_)
    refine wpAny_bind (wpAny_field hz rfl (x := .ref TO) rfl ?_)
    refine wpAny_bind (wpAny_setField_rec hz (by simp) fun h₁ hz₁ hs₁ => ?_)
    replace hz₁ : IsZ h₁ z TI TO .ellipsis f1 := hz₁
    refine wpAny_bind ?_
    refine wpAny_forIn_list _ (fun l b s' => ∃ pre rest h', Far s.heap z TO cs pre rest k h' ∧ l = (refs rest).zipIdx pre.length ∧ b.1 = none ∧ s' = { s with heap := h' } ∧ IsZ h' z TI TO .ellipsis f1 ∧ IsTp h' TO (at_ k pre ++ vs.drop pre.length)) _ ?_ ?_ _ _
      ⟨[], cs, h₁, ⟨rfl, hs₁.1, fun c o c1 _ _ e => hs₁.extBut _ _ c1 e, fun c hc => (List.not_mem_nil hc).elim, fun c hc => (hi c hc).extBut hs₁.extBut fun x => D.nz (x ▸ List.mem_map_of_mem hc)⟩, rfl, rfl, rfl, hz₁, hs₁.extBut _ _ D.TOz hTO⟩
    · rintro x l b s' ⟨pre, rest, h', F, el, eb, rfl, hz', hTO'⟩
      cases rest with
      | nil => cases el
      | cons c rest =>
        have hc : c ∈ cs := by rw [F.cut]; simp
        have hcs : c.1 ∈ cs.map (·.1) := List.mem_map_of_mem hc
        have ek : (refs (c :: rest)).zipIdx pre.length = (.ref c.1, pre.length) :: (refs rest).zipIdx (pre ++ [c]).length := by
          rw [List.length_append]; rfl
        rw [ek] at el
        injection el with e1 e2
        subst e1 e2
        refine wpAny_bind (wpAny_onRaise ?_)
        show wpAny _ _ (Builtin.SmallTypes.nextOf (.ref c.1) >>= _) _ _ _
        refine wpAny_bind (nextOf_tuple_item (s := { s with heap := h' }) (F.todo c (List.mem_cons_self ..)) (F.tuple D hc (hl c hc)) (x := c.2.2.getD k .none) (by simp [hk c hc]) fun h₂ hi₂ hs₂ => wpAny_pure ?_)
        have F₂ := F.turn D hs₂ hi₂
        have hz₂ : IsZ h₂ z TI TO .ellipsis f1 := hs₂.extBut _ _ (fun x => D.nz (x ▸ hcs)) hz'
        have hTO₂ : IsTp h₂ TO (at_ k pre ++ vs.drop pre.length) := hs₂.extBut _ _ (fun x => D.nO (x ▸ hcs)) hTO'
        have hlt : pre.length < vs.length := by rw [hvs, F.cut]; simp
        have hsz : (at_ k pre ++ vs.drop pre.length).length ≤ sizeLine := by
          rw [List.length_append, at_len, List.length_drop]; omega
        refine wpAny_bind (wpAny_seqItems (s := { s with heap := h₂ }) hTO₂ rfl ?_)
        refine wpAny_bind (updateSeq_tp (s := { s with heap := h₂ }) hTO₂ hsz fun h₃ hTO₃ hs₃ => ?_)
        rw [set_next k pre c vs hlt] at hTO₃
        refine wpAny_bind (wpAny_letGo (wpAny_pure ?_))
        exact ⟨_, rest, h₃, F₂.write D (.inr rfl) hs₃, rfl, rfl, rfl, hs₃.extBut _ _ (Ne.symm D.TOz) hz₂, hTO₃⟩
    · rintro ⟨b1, b2⟩ s' ⟨pre, rest, h', F, el, eb, rfl, hz', hTO'⟩
      cases rest with
      | cons c rest => cases el
      | nil =>
        simp only at eb
        subst eb
        have ep : pre = cs := by rw [F.cut]; simp
        subst ep
        rw [← hvs, List.drop_length, List.append_nil] at hTO'
        refine wpAny_bind (wpAny_seqItems (s := { s with heap := h' }) hTO' rfl ?_)
        refine wpAny_bind (wpAny_newTuple ?_ (by rw [List.toList_toArray, at_len]; exact hlen))
        show wpAny _ _ (Builtin.SmallTypes.ownedTupleHandOut (.ref z) (.ref h'.objs.size) >>= _) _ _ _
        refine wpAny_bind ?_
        unfold Builtin.SmallTypes.ownedTupleHandOut
        have hzlt : z < h'.objs.size := Heap.lt_size hz'
        have hz₆ : IsZ (h'.push { cls := .type "tuple", data := .seq (at_ k pre).toArray }) z TI TO .ellipsis f1 := Heap.get?_push_of_some _ hz'
        refine wpAny_bind (wpAny_setField_rec hz₆ (by simp) fun h₇ hz₇ hs₇ => ?_)
        replace hz₇ : IsZ h₇ z TI TO (rawInt h'.objs.size) f1 := hz₇
        refine wpAny_setField_rec hz₇ (by simp) fun h₈ hz₈ hs₈ => ?_
        replace hz₈ : IsZ h₈ z TI TO (rawInt h'.objs.size) false := hz₈
        have up : ∀ c o, c ≠ z → h'.get? c = some o → h₈.get? c = some o := fun c o c1 e => hs₈.extBut _ _ c1 (hs₇.extBut _ _ c1 (Heap.get?_push_of_some _ e))
        have hT₈ : IsTp h₈ h'.objs.size (at_ k pre) := hs₈.extBut _ _ (Nat.ne_of_gt hzlt) (hs₇.extBut _ _ (Nat.ne_of_gt hzlt) (Heap.get?_push_size _ rfl))
        have hz8 : h₈.objs.size = h'.objs.size + 1 := by rw [hs₈.1, hs₇.1, Heap.size_push]
        rw [F.size] at hz₈ hT₈ hz8
        refine wpAny_pure ⟨_, rfl, ?_⟩
        show Q (.ref h'.objs.size) _
        rw [F.size]
        exact hQ h₈ _ _ _ hz₈ (.inr ⟨_, rfl⟩) (up _ _ D.TOz hTO') (at_len ..) (fun c hc => (F.done c hc).at fun o e => up _ o (fun x => D.nz (x ▸ List.mem_map_of_mem hc)) e) hT₈ hz8 fun c o c1 c2 c3 e => up c o c1 (F.keep c o c1 c2 c3 e)
  · simp only [Bool.false_eq_true, if_false]
    refine wpAny_bind ?_
    refine MeetsSeq2.wpAny_forIn_array _ (fun l b s' => ∃ pre rest h', Far s.heap z TO cs pre rest k h' ∧ l = refs rest ∧ b.1 = none ∧ b.2 = (at_ k pre).toArray ∧ s' = { s with heap := h' } ∧ IsZ h' z TI TO f0 true ∧ IsTp h' TO vs) _ ?_ ?_ _ _
      ⟨[], cs, h₁, ⟨rfl, hs₁.1, fun c o c1 _ _ e => hs₁.extBut _ _ c1 e, fun c hc => (List.not_mem_nil hc).elim, fun c hc => (hi c hc).extBut hs₁.extBut fun x => D.nz (x ▸ List.mem_map_of_mem hc)⟩, rfl, rfl, rfl, rfl, hz₁, hs₁.extBut _ _ D.TOz hTO⟩
    · rintro x l b s' ⟨pre, rest, h', F, el, eb, eb2, rfl, hz', hTO'⟩
      cases rest with
      | nil => cases el
      | cons c rest =>
        have hc : c ∈ cs := by rw [F.cut]; simp
        have hcs : c.1 ∈ cs.map (·.1) := List.mem_map_of_mem hc
        injection el with e1 e2
        subst e1 e2
        refine wpAny_bind (wpAny_holding ?_)
        show wpAny _ _ (Builtin.SmallTypes.nextOf (.ref c.1) >>= _) _ _ _
        refine wpAny_bind (nextOf_tuple_item (s := { s with heap := h' }) (F.todo c (List.mem_cons_self ..)) (F.tuple D hc (hl c hc)) (x := c.2.2.getD k .none) (by simp [hk c hc]) fun h₂ hi₂ hs₂ => wpAny_pure ?_)
        have F₂ := F.turn D hs₂ hi₂
        refine wpAny_pure ⟨_, rest, h₂, F₂, rfl, rfl, ?_, rfl, hs₂.extBut _ _ (fun x => D.nz (x ▸ hcs)) hz', hs₂.extBut _ _ (fun x => D.nO (x ▸ hcs)) hTO'⟩
        show b.2.push _ = _
        rw [eb2, at_snoc, List.push_toArray]
    · rintro ⟨b1, b2⟩ s' ⟨pre, rest, h', F, el, eb, eb2, rfl, hz', hTO'⟩
      cases rest with
      | cons c rest => cases el
      | nil =>
        simp only at eb eb2
        subst eb eb2
        have ep : pre = cs := by rw [F.cut]; simp
        subst ep
        refine wpAny_bind (wpAny_newTuple ?_ (by rw [List.toList_toArray, at_len]; exact hlen))
        refine wpAny_pure ⟨_, rfl, ?_⟩
        show Q (.ref h'.objs.size) _
        have hT : IsTp (h'.push { cls := .type "tuple", data := .seq (at_ k pre).toArray }) h'.objs.size (at_ k pre) := Heap.get?_push_size _ rfl
        have hz4 : (h'.push { cls := .type "tuple", data := .seq (at_ k pre).toArray }).objs.size = h'.objs.size + 1 := Heap.size_push ..
        rw [F.size] at hT hz4 ⊢
        exact hQ _ _ _ _ (Heap.get?_push_of_some _ hz') h0 (Heap.get?_push_of_some _ hTO') hvs (fun c hc => (F.done c hc).at fun o e => Heap.get?_push_of_some _ e) hT hz4 fun c o c1 c2 c3 e => Heap.get?_push_of_some _ (F.keep c o c1 c2 c3 e)

/-- the end: a tuple, and so the first, has no more items; or there is none -/
theorem next_end {z TI TO : Addr} {cs : List Cell} {k : Nat} {f0 : Value} {f1 : Bool} {vs : List Value} {Q : Fin → Shared → Prop} (hh : A.handled = none) (D : Apart z TI TO cs)
    (hz : IsZ s.heap z TI TO f0 f1) (h0 : f0 = .none ∨ ∃ a : Nat, f0 = rawInt a) (hTI : IsTp s.heap TI (refs cs))
    (hi : ∀ c ∈ cs, s.heap.IsTupleIter c.1 c.2.1 k) (hl : ∀ c ∈ cs, s.heap.IsTuple c.2.1 c.2.2) (hk : ∀ c ∈ cs, c.2.2.size ≤ k) (hTO : IsTp s.heap TO vs)
    (hE : ∀ h' e, Keeps z TO cs s.heap h' → (∃ o, h'.get? e = some o ∧ o.cls = .type "StopIteration") → E (.ref e) { s with heap := h' }) :
    wpAny (model prog w) A (Builtin.«zip.__next__» ⟨[.ref z], []⟩) Q E s := by
  show wpAny _ _ (field (.ref z) 2 >>= _) _ _ _
  refine wpAny_bind (wpAny_field hz rfl (x := .bool false) rfl ?_)
  show wpAny _ _ (field (.ref z) 3 >>= _) _ _ _
  refine wpAny_bind (wpAny_field hz rfl (x := .ref TI) rfl ?_)
  refine wpAny_bind (wpAny_seqItems hTI rfl ?_)
  cases cs with
  | nil =>
    have he : (refs []).toArray.isEmpty = true := rfl
    simp only [he, if_true]
    refine wpAny_bind (wpAny_rule (wpAny_bind ?_))
    show wpAny _ _ (newExc (.type "StopIteration") [] >>= _) _ _ _
    refine wpAny_bind ?_
    simp only [newExc, newTuple]
    refine wpAny_bind (wpAny_newObj_type ?_ (by size_fits))
    refine wpAny_bind (m := firstArgMember _ _) (wpAny_of_eq (a := Value.none) (by first | rfl | (simp only [firstArgMember]; rfl)) ?_)
    refine wpAny_newObj_type ?_ (by size_fits)
    simp only [raiseNew]
    refine wpAny_bind (wpAny_handled ?_)
    first | rw [show A.in1.handled = none from hh] | rw [hh]
    refine wpAny_bind (wpAny_pure (wpAny_throw ?_))
    exact hE _ _ (fun c o _ _ _ e => Heap.get?_push_of_some _ (Heap.get?_push_of_some _ e)) ⟨_, Heap.get?_push_size _ rfl, rfl⟩
  | cons c cs =>
    have he : (refs (c :: cs)).toArray.isEmpty = false := rfl
    have hcs : c.1 ∈ (c :: cs).map (·.1) := List.mem_map_of_mem (List.mem_cons_self ..)
    have hc : c ∈ c :: cs := List.mem_cons_self ..
    simp only [he, Bool.false_eq_true, if_false]
    show wpAny _ _ (Builtin.SmallTypes.ownedTupleIsFree (.ref z) >>= _) _ _ _
    refine wpAny_bind (free_or hz h0 ?_ fun h₁ hz₁ hs₁ => ?_)
    · simp only [if_true]
      refine wpAny_bind (wpAny_rule ?_)
      refine wpAny_bind (wpAny_field hz rfl (x := .ref TO) rfl ?_)
      refine wpAny_bind (wpAny_setField_rec hz (by simp) fun h₁ hz₁ hs₁ => ?_)
      replace hz₁ : IsZ h₁ z TI TO .ellipsis f1 := hz₁
      refine wpAny_bind ?_
      simp only [refs, List.map_cons, List.zipIdx_cons, List.forIn_cons]
      refine wpAny_bind (wpAny_bind (wpAny_onRaise ?_))
      show wpAny _ _ (Builtin.SmallTypes.nextOf (.ref c.1) >>= _) _ _ _
      refine wpAny_bind (nextOf_tuple_end (s := { s with heap := h₁ }) hh ((hi c hc).extBut hs₁.extBut fun x => D.nz (x ▸ hcs)) ((hl c hc).extBut hs₁.extBut (D.tz c hc)) (by simpa using hk c hc) fun h₂ e hs₂ he => ?_)
      obtain ⟨oe, hoe, hce⟩ := he
      have hz₂ : IsZ h₂ z TI TO .ellipsis f1 := hs₂ _ _ (fun x => D.nz (x ▸ hcs)) hz₁
      have hez : e ≠ z := fun x => by subst x; rw [hz₂] at hoe; cases hoe; simp at hce
      refine wpAny_setField_rec hz₂ (by simp) fun h₃ _ hs₃ => hE h₃ e (fun d o d1 d2 d3 x => hs₃.extBut _ _ d1 (hs₂ _ _ (fun q => d3 (by rw [q]; exact hcs)) (hs₁.extBut _ _ d1 x))) ⟨oe, hs₃.extBut _ _ hez hoe, hce⟩
    · simp only [Bool.false_eq_true, if_false]
      refine wpAny_bind ?_
      rw [← Array.forIn_toList]
      simp only [refs, List.map_cons, List.toList_toArray, List.forIn_cons]
      refine wpAny_bind (wpAny_bind (wpAny_holding ?_))
      show wpAny _ _ (Builtin.SmallTypes.nextOf (.ref c.1) >>= _) _ _ _
      refine wpAny_bind (nextOf_tuple_end (s := { s with heap := h₁ }) hh ((hi c hc).extBut hs₁.extBut fun x => D.nz (x ▸ hcs)) ((hl c hc).extBut hs₁.extBut (D.tz c hc)) (by simpa using hk c hc) fun h₂ e hs₂ he => ?_)
      exact hE h₂ e (fun d o d1 d2 d3 x => hs₂ _ _ (fun q => d3 (by rw [q]; exact hcs)) (hs₁.extBut _ _ d1 x)) he
end
end ZN
set_option Elab.async false
set_option linter.all false
set_option maxRecDepth 100000
set_option maxHeartbeats 4000000
/-! own words, 31: the making of a zip of any number of tuples, its walk -/
namespace ZN
open PySem RZ
open PySem.Sem (wp)
theorem typeCall (xs : List Value) : checkTypeCall "zip" ⟨xs, []⟩ = pure () := by kernel_rfl
theorem newCall (xs : List Value) : checkBuiltinCall "zip.__new__" ⟨.type "zip" :: xs, []⟩ = pure () := by
  cases xs with
  | nil => kernel_rfl
  | cons x xs => kernel_rfl
theorem initArgs (a : Value) (xs : List Value) : argsOk "object.__init__" ⟨a :: xs, []⟩ := by
  unfold argsOk; rw [signature?_of (id := "object.__init__") (n := ['_', '_', 't', 'i', 'n', 'i', '_', '_']) (o := ['t', 'c', 'e', 'j', 'b', 'o']) (by kernel_rfl) F.owner_object]; kernel_rfl
/-- the cells of tuples, the iterators laid from m on -/
def cells : Nat → List (Addr × Array Value) → List Cell
  | _, [] => []
  | m, t :: r => (m, t) :: cells (m + 1) r
theorem cells_snoc : ∀ (m : Nat) (pre : List (Addr × Array Value)) (t : Addr × Array Value), cells m (pre ++ [t]) = cells m pre ++ [(m + pre.length, t)]
  | m, [], t => rfl
  | m, p :: pre, t => by
    show (m, p) :: cells (m + 1) (pre ++ [t]) = _
    rw [cells_snoc (m + 1) pre t]
    show (m, p) :: (cells (m + 1) pre ++ [(m + 1 + pre.length, t)]) = (m, p) :: (cells (m + 1) pre ++ [(m + (pre.length + 1), t)])
    rw [Nat.add_right_comm m 1, Nat.add_assoc m]
theorem cells_len : ∀ (m : Nat) (ts : List (Addr × Array Value)), (cells m ts).length = ts.length
  | _, [] => rfl
  | m, t :: r => by show (cells (m + 1) r).length + 1 = _; rw [cells_len (m + 1) r]; rfl
theorem cells_mem : ∀ {m : Nat} {ts : List (Addr × Array Value)} {c : Cell}, c ∈ cells m ts → m ≤ c.1 ∧ c.1 < m + ts.length ∧ c.2 ∈ ts
  | m, t :: r, c, h => by
    rcases List.mem_cons.mp h with rfl | h
    · exact ⟨Nat.le_refl _, by simp, List.mem_cons_self ..⟩
    · obtain ⟨a, b, d⟩ := cells_mem h
      refine ⟨Nat.le_of_succ_le a, ?_, List.mem_cons_of_mem _ d⟩
      show c.1 < m + (r.length + 1)
      rw [← Nat.add_assoc, Nat.add_right_comm]
      exact b
theorem cells_nd : ∀ (m : Nat) (ts : List (Addr × Array Value)), ((cells m ts).map (·.1)).Nodup
  | _, [] => List.nodup_nil
  | m, t :: r => by
    refine List.nodup_cons.mpr ⟨fun h => ?_, cells_nd (m + 1) r⟩
    obtain ⟨c, hc, e⟩ := List.mem_map.mp h
    have q := (cells_mem hc).1
    rw [e] at q
    exact absurd q (Nat.not_succ_le_self _)
theorem apart_new {m : Nat} {ts : List (Addr × Array Value)} (h : ∀ t ∈ ts, t.1 < m) : Apart (m + ts.length + 2) (m + ts.length) (m + ts.length + 1) (cells m ts) := by
  have lt : ∀ a, m + ts.length ≤ a → a ∉ (cells m ts).map (·.1) := fun a ha q => by
    obtain ⟨c, hc, rfl⟩ := List.mem_map.mp q
    exact absurd (cells_mem hc).2.1 (Nat.not_lt.mpr ha)
  have l0 : m + ts.length ≤ m + ts.length := Nat.le_refl _
  have l1 : m + ts.length ≤ m + ts.length + 1 := Nat.le_succ _
  have l2 : m + ts.length ≤ m + ts.length + 2 := Nat.le_add_right _ _
  refine ⟨Nat.ne_of_lt (by omega), Nat.ne_of_lt (by omega), Nat.ne_of_lt (by omega), lt _ l2, lt _ l0, lt _ l1, cells_nd .., fun c hc => ?_, fun c hc => ?_, fun c hc q => ?_⟩
  · exact Nat.ne_of_lt (Nat.lt_of_lt_of_le (h _ (cells_mem hc).2.2) (by omega))
  · exact Nat.ne_of_lt (Nat.lt_of_lt_of_le (h _ (cells_mem hc).2.2) (by omega))
  · obtain ⟨d, hd, e⟩ := List.mem_map.mp q
    have q1 := h _ (cells_mem hc).2.2
    have q2 := (cells_mem hd).1
    rw [e] at q2
    exact absurd q1 (Nat.not_lt.mpr q2)
/-- the zip as made -/
structure Made (s h : Heap) (ts : List (Addr × Array Value)) : Prop where
  z : IsZ h (s.objs.size + ts.length + 2) (s.objs.size + ts.length) (s.objs.size + ts.length + 1) .none false
  ti : IsTp h (s.objs.size + ts.length) (refs (cells s.objs.size ts))
  to : IsTp h (s.objs.size + ts.length + 1) (ts.map fun _ => .none)
  it : ∀ c ∈ cells s.objs.size ts, h.IsTupleIter c.1 c.2.1 0
  size : h.objs.size = s.objs.size + ts.length + 3
  keep : ∀ c o, s.get? c = some o → h.get? c = some o
theorem meets_new (ts : List (Addr × Array Value)) (hlen : ts.length ≤ 4000) :
    Meets (Builtin.«zip.__new__» ⟨.type "zip" :: ts.map fun t => .ref t.1, []⟩) (fun _ R s => (∀ t ∈ ts, s.heap.IsTuple t.1 t.2) ∧
      ∀ h', Made s.heap h' ts → R (.ok (.ret (.ref (s.heap.objs.size + ts.length + 2)))) { s with heap := h' }) :=
  .of_wp fun prog w A R s h => by
    obtain ⟨hp, g, d, tk, os⟩ := s; obtain ⟨hl, h⟩ := h
    have hsub := sub_zip
    wp_walk using wpAny_forIn_list _ (fun l (b : Array Value) s' => ∃ pre rest h', ts = pre ++ rest ∧ l = rest.map (fun t => Value.ref t.1) ∧ b = (refs (cells hp.objs.size pre)).toArray ∧ s' = ⟨h', g, d, tk, os⟩ ∧ h'.objs.size = hp.objs.size + pre.length ∧
      (∀ c ∈ cells hp.objs.size pre, h'.IsTupleIter c.1 c.2.1 0) ∧ ∀ c o, hp.get? c = some o → h'.get? c = some o) _
    case turn =>
      rintro x l b s' ⟨pre, rest, h', ec, el, rfl, rfl, hsz, hi, hk⟩
      cases rest with
      | nil => cases el
      | cons t rest =>
        injection el with e1 e2
        subst e1 e2
        refine wpAny_bind (wpAny_holding (wpAny_pyIter_tuple (items := t.2) ((hl t (by rw [ec]; simp)).at fun o e => hk _ o e) ?_))
        refine wpAny_pure ⟨pre ++ [t], rest, _, by rw [ec]; simp, rfl, ?_, rfl, ?_, ?_, ?_⟩
        · show ((refs (cells hp.objs.size pre)).toArray).push (.ref h'.objs.size) = _
          rw [cells_snoc, hsz]
          simp [refs]
        · show (Heap.push h' _).objs.size = _
          rw [Heap.size_push, hsz, List.length_append]; rfl
        · intro c hc
          rw [cells_snoc] at hc
          rcases List.mem_append.mp hc with q | q
          · exact (hi c q).at fun o e => Heap.get?_push_of_some _ e
          · rw [List.mem_singleton.mp q, ← hsz]
            exact ⟨_, Heap.get?_push_size _ rfl, rfl, rfl⟩
        · exact fun c o e => Heap.get?_push_of_some _ (hk c o e)
    case fin =>
      rintro b s' ⟨pre, rest, h', ec, el, rfl, rfl, hsz, hi, hk⟩
      cases rest with
      | cons t rest => cases el
      | nil =>
        have ep : ts = pre := by rw [ec]; simp
        subst ep
        refine wpAny_pure ?_
        have hln : (refs (cells hp.objs.size ts)).length = ts.length := by rw [refs, List.length_map, cells_len]
        refine wpAny_bind (wpAny_newTuple ?_ (by rw [List.toList_toArray, hln]; exact Nat.le_trans hlen (by decide)))
        refine wpAny_bind (wpAny_newTuple ?_ (by rw [List.length_map, List.toList_toArray, hln]; exact Nat.le_trans hlen (by decide)))
        refine wpAny_bind ?_
        unfold Builtin.SmallTypes.newRecord
        refine wpAny_newObj_type ?_ (by show 5 ≤ sizeLine + 2; decide)
        refine wpAny_pure ⟨_, rfl, ?_⟩
        simp only [List.toList_toArray]
        have en : (refs (cells hp.objs.size ts)).map (fun _ => Value.none) = ts.map fun _ => Value.none := by
          rw [List.map_const', List.map_const', hln]
        rw [en]
        let o1 : Obj := { cls := .type "tuple", data := .seq (refs (cells hp.objs.size ts)).toArray }
        let o2 : Obj := { cls := .type "tuple", data := .seq (ts.map fun _ => Value.none).toArray }
        let o3 : Obj := { cls := .type "zip", data := .fields #[.none, .bool false, .bool false, .ref h'.objs.size, .ref (h'.push o1).objs.size] }
        have z1 : (h'.push o1).objs.size = hp.objs.size + ts.length + 1 := by rw [Heap.size_push, hsz]
        have z2 : ((h'.push o1).push o2).objs.size = hp.objs.size + ts.length + 2 := by rw [Heap.size_push, z1]
        have z3 : (((h'.push o1).push o2).push o3).objs.size = hp.objs.size + ts.length + 3 := by rw [Heap.size_push, z2]
        have g3 : (((h'.push o1).push o2).push o3).get? ((h'.push o1).push o2).objs.size = some o3 := Heap.get?_push_size _ rfl
        have g2 : (((h'.push o1).push o2).push o3).get? (h'.push o1).objs.size = some o2 := Heap.get?_push_of_some _ (Heap.get?_push_size _ rfl)
        have g1 : (((h'.push o1).push o2).push o3).get? h'.objs.size = some o1 := Heap.get?_push_of_some _ (Heap.get?_push_of_some _ (Heap.get?_push_size _ rfl))
        have up : ∀ c o, h'.get? c = some o → (((h'.push o1).push o2).push o3).get? c = some o := fun c o e => Heap.get?_push_of_some _ (Heap.get?_push_of_some _ (Heap.get?_push_of_some _ e))
        show R (.ok (.ret (.ref ((h'.push o1).push o2).objs.size))) ⟨((h'.push o1).push o2).push o3, g, d, tk, os⟩
        have eo : o3 = { cls := .type "zip", data := .fields #[.none, .bool false, .bool false, .ref (hp.objs.size + ts.length), .ref (hp.objs.size + ts.length + 1)] } := by
          show ({ cls := .type "zip", data := .fields #[.none, .bool false, .bool false, .ref h'.objs.size, .ref (h'.push o1).objs.size] } : Obj) = _
          rw [z1, hsz]
        rw [z2] at g3
        rw [z1] at g2
        rw [hsz] at g1
        rw [z2]
        exact h _ ⟨g3.trans (congrArg some eo), g1, g2, fun c hc => (hi c hc).at fun o e => up _ o e, z3, fun c o e => up c o (hk c o e)⟩
    case h => exact ⟨[], ts, hp, rfl, rfl, rfl, rfl, rfl, fun c hc => (List.not_mem_nil hc).elim, fun _ _ e => e⟩
end ZN
set_option Elab.async false
set_option linter.all false
set_option maxRecDepth 100000
set_option maxHeartbeats 4000000
/-! own words, 32: zip(*x) walked by a name -/
namespace ZN
open PySem PySem.Spec PyProof.Rows L2 RZ
section
variable {prog : Program} {w : World} {A : Around} {E : Value → Shared → Prop} {s : Shared}
theorem call_zipN {ts : List (Addr × Array Value)} {Q : Value → Shared → Prop} (hlen : ts.length ≤ 4000) (hl : ∀ t ∈ ts, s.heap.IsTuple t.1 t.2)
    (h : ∀ h', Made s.heap h' ts → Q (.ref (s.heap.objs.size + ts.length + 2)) { s with heap := h' }) : wpAny (model prog w) A (call (.type "zip") (ts.map fun t => .ref t.1)) Q E s := by
  refine callType_new F.called_zip (by decide) (typeCall _) (newCall _) (fun obj => initArgs obj _) F.entry_zip_new (meets_new ts hlen) ⟨hl, fun h' M => ?_⟩
  exact ⟨⟨_, M.z, rfl⟩, h h' M⟩
theorem pyNext_item {z TI TO : Addr} {cs : List Cell} {k : Nat} {f0 : Value} {f1 : Bool} {vs : List Value} {Q : Option Value → Shared → Prop} (D : Apart z TI TO cs) (hne : cs ≠ []) (hlen : cs.length ≤ sizeLine)
    (hz : IsZ s.heap z TI TO f0 f1) (h0 : f0 = .none ∨ ∃ a : Nat, f0 = rawInt a) (hTI : IsTp s.heap TI (refs cs)) (hTO : IsTp s.heap TO vs) (hvs : vs.length = cs.length)
    (hi : ∀ c ∈ cs, s.heap.IsTupleIter c.1 c.2.1 k) (hl : ∀ c ∈ cs, s.heap.IsTuple c.2.1 c.2.2) (hk : ∀ c ∈ cs, k < c.2.2.size)
    (hQ : ∀ h' f0' f1' vs', IsZ h' z TI TO f0' f1' → (f0' = .none ∨ ∃ a : Nat, f0' = rawInt a) → IsTp h' TO vs' → vs'.length = cs.length → (∀ c ∈ cs, h'.IsTupleIter c.1 c.2.1 (k + 1)) →
      IsTp h' s.heap.objs.size (at_ k cs) → h'.objs.size = s.heap.objs.size + 1 → Keeps z TO cs s.heap h' → Q (some (.ref s.heap.objs.size)) { s with heap := h' }) :
    wpAny (model prog w) A (pyNext (.ref z)) Q E s := by
  have hT : s.TypeIs (.ref z) "zip" := ⟨_, hz, rfl⟩
  unfold pyNext
  exact wpAny_bind (wpAny_attempt (wpAny_callSpecial?_slot (name := Str.ofString "__next__") hT F.slot_zip_next
    (wpAny_call_entry F.slot_zip_next hT F.entry_zip_next
      (next_item D hne hlen hz h0 hTI hTO hvs hi hl hk fun h' a b c a1 a2 a3 a4 a5 a6 a7 a8 => wpAny_pure (hQ h' a b c a1 a2 a3 a4 a5 a6 a7 a8)) (F.args_zip_next_1 _))))
theorem pyNext_end {z TI TO : Addr} {cs : List Cell} {k : Nat} {f0 : Value} {f1 : Bool} {vs : List Value} {Q : Option Value → Shared → Prop} (hh : A.handled = none) (D : Apart z TI TO cs)
    (hz : IsZ s.heap z TI TO f0 f1) (h0 : f0 = .none ∨ ∃ a : Nat, f0 = rawInt a) (hTI : IsTp s.heap TI (refs cs))
    (hi : ∀ c ∈ cs, s.heap.IsTupleIter c.1 c.2.1 k) (hl : ∀ c ∈ cs, s.heap.IsTuple c.2.1 c.2.2) (hk : ∀ c ∈ cs, c.2.2.size ≤ k) (hTO : IsTp s.heap TO vs)
    (hQ : ∀ h', Keeps z TO cs s.heap h' → Q none { s with heap := h' }) : wpAny (model prog w) A (pyNext (.ref z)) Q E s := by
  have hT : s.TypeIs (.ref z) "zip" := ⟨_, hz, rfl⟩
  unfold pyNext
  refine wpAny_bind (wpAny_attempt (wpAny_callSpecial?_slot (name := Str.ofString "__next__") hT F.slot_zip_next
    (wpAny_call_entry F.slot_zip_next hT F.entry_zip_next (next_end hh D hz h0 hTI hi hl hk hTO fun h' e hk he => ?_) (F.args_zip_next_1 _))))
  obtain ⟨o, ho, hc⟩ := he
  refine wpAny_bind (wpAny_isInstance (T := "StopIteration") (b := true) ⟨o, ho, hc⟩ isSubtype_stop ?_)
  exact wpAny_pure (hQ _ hk)
theorem pyIter_z {z TI TO : Addr} {f0 : Value} {f1 : Bool} {Q : Value → Shared → Prop} (hz : IsZ s.heap z TI TO f0 f1) (h : Q (.ref z) s) : wpAny (model prog w) A (pyIter (.ref z)) Q E s := by
  have hT : s.TypeIs (.ref z) "zip" := ⟨_, hz, rfl⟩
  refine wpAny_pyIter_slot hT F.slot_zip_iter (wpAny_call_entry F.slot_zip_iter hT F.entry_zip_iter ?_ (F.args_zip_iter_1 _))
  show wpAny _ _ (ret (.ref z)) _ _ s
  exact wpAny_pure ⟨_, rfl, "zip", _, hT, F.slot_zip_next.lookup, h⟩
end

/-- iterators and tuples, and what the tuples hold -/
def withF (f : Addr → Array Value) (ps : List (Addr × Addr)) : List Cell := ps.map fun p => (p.1, p.2, f p.2)
theorem withF_1 (f : Addr → Array Value) (ps : List (Addr × Addr)) : (withF f ps).map (·.1) = ps.map (·.1) := by simp [withF]
theorem refs_withF (f : Addr → Array Value) (ps : List (Addr × Addr)) : refs (withF f ps) = ps.map fun p => Value.ref p.1 := by simp [refs, withF]
theorem at_withF (i : Nat) (f : Addr → Array Value) (ps : List (Addr × Addr)) : at_ i (withF f ps) = ps.map fun p => (f p.2).getD i .none := by simp [at_, withF]
theorem mem_withF {f : Addr → Array Value} {ps : List (Addr × Addr)} {c : Cell} (h : c ∈ withF f ps) : ∃ p ∈ ps, c = (p.1, p.2, f p.2) := by
  obtain ⟨p, hp, e⟩ := List.mem_map.mp h
  exact ⟨p, hp, e.symm⟩
theorem Apart.other {z TI TO : Addr} {ps : List (Addr × Addr)} {f : Addr → Array Value} (D : Apart z TI TO (withF f ps)) (g : Addr → Array Value) : Apart z TI TO (withF g ps) := by
  have e : (withF g ps).map (·.1) = (withF f ps).map (·.1) := by rw [withF_1, withF_1]
  refine ⟨D.TIz, D.TOz, D.TITO, by rw [e]; exact D.nz, by rw [e]; exact D.nI, by rw [e]; exact D.nO, by rw [e]; exact D.nd, fun c hc => ?_, fun c hc => ?_, fun c hc => ?_⟩
  · obtain ⟨p, hp, rfl⟩ := mem_withF hc
    exact D.tz (p.1, p.2, f p.2) (List.mem_map_of_mem hp)
  · obtain ⟨p, hp, rfl⟩ := mem_withF hc
    exact D.tO (p.1, p.2, f p.2) (List.mem_map_of_mem hp)
  · obtain ⟨p, hp, rfl⟩ := mem_withF hc
    rw [e]
    exact D.ti (p.1, p.2, f p.2) (List.mem_map_of_mem hp)
structure Walking (z TI TO : Addr) (ps : List (Addr × Addr)) (i : Nat) (h : Heap) : Prop where
  z : ∃ f0 f1, IsZ h z TI TO f0 f1 ∧ (f0 = .none ∨ ∃ a : Nat, f0 = rawInt a)
  ti : IsTp h TI (ps.map fun p => Value.ref p.1)
  to : ∃ vs, IsTp h TO vs ∧ vs.length = ps.length
  it : ∀ p ∈ ps, h.IsTupleIter p.1 p.2 i
/-- the tuples at as, as they stand at each turn, the items in new tuples -/
def ItzN (K : PySem.W.Frag) (as : List Addr) : It :=
  ⟨fun i H => as ≠ [] ∧ ∀ a ∈ as, ∃ xs x, SqT K H a xs ∧ xs[i]? = some x,
    fun i H v H' => ∃ (T : Addr) (vs : List V), v = .ref T ∧ H T = none ∧ H' = upd H T (.tup vs) ∧ vs.length = as.length ∧ ∀ (j : Nat) (a : Addr), as[j]? = some a → ∀ xs, SqT K H a xs → vs[j]? = xs[i]?,
    fun i H => ∀ a ∈ as, ∃ xs, SqT K H a xs ∧ xs.length ≤ i⟩
theorem vals_map {α : Type} {x : α → V} {u : α → Value} : ∀ {ps : List α}, (∀ p ∈ ps, RelV (x p) (u p)) → Vals (ps.map x) (ps.map u)
  | [], _ => .nil
  | p :: ps, h => .cons (h p (List.mem_cons_self ..)) (vals_map fun q hq => h q (List.mem_cons_of_mem _ hq))
theorem turn_zipN {P : Program} {w : World} {K : PySem.W.Frag} {n : Str} {np : Pos} {z TI TO : Addr} {ps : List (Addr × Addr)} (hlen : ps.length ≤ 4000) (D : Apart z TI TO (withF (fun _ => #[]) ps)) :
    Turn P w K (.Name n np) (ItzN K (ps.map (·.2))) (z :: TI :: TO :: ps.map (·.1)) z (Walking z TI TO ps) where
  mem := by simp
  obj := fun i h W c hc => by
    obtain ⟨⟨f0, f1, hz, _⟩, hTI, ⟨vs, hTO, _⟩, hi⟩ := W
    rcases List.mem_cons.mp hc with rfl | hc
    · exact ⟨_, hz, fun v q => nomatch q⟩
    rcases List.mem_cons.mp hc with rfl | hc
    · exact ⟨_, hTI, fun v q => nomatch q⟩
    rcases List.mem_cons.mp hc with rfl | hc
    · exact ⟨_, hTO, fun v q => nomatch q⟩
    obtain ⟨p, hp, rfl⟩ := List.mem_map.mp hc
    obtain ⟨o, e, _, d⟩ := hi p hp
    exact ⟨o, e, fun v q => by rw [d] at q; cases q⟩
  keep := fun i h h' W k => by
    obtain ⟨⟨f0, f1, hz, h0⟩, hTI, ⟨vs, hTO, hv⟩, hi⟩ := W
    exact ⟨⟨f0, f1, k z (by simp) _ hz, h0⟩, k TI (by simp) _ hTI, ⟨vs, k TO (by simp) _ hTO, hv⟩, fun p hp => (hi p hp).at fun o q => k p.1 (by simp; right; right; right; exact ⟨_, hp⟩) o q⟩
  item := by
    intro X hP hw hK hc i pins s σ H E I hf W hg
    subst hP hw hK
    obtain ⟨hne, hg⟩ := hg
    have key : ∀ a : Addr, ∃ y : List Value × V × Value, a ∈ ps.map (·.2) → (∃ xs, SqT X.K H a xs ∧ xs[i]? = some y.2.1) ∧ y.1[i]? = some y.2.2 ∧ RelV y.2.1 y.2.2 ∧ s.heap.IsTuple a y.1.toArray := by
      intro a
      by_cases ha : a ∈ ps.map (·.2)
      · obtain ⟨xs, x, hq, hx⟩ := hg a ha
        obtain ⟨its, rv, p, _⟩ := I.tuple hq
        obtain ⟨u, hu, ru⟩ := rv.get hx
        exact ⟨(its, x, u), fun _ => ⟨⟨xs, hq, hx⟩, hu, ru, p⟩⟩
      · exact ⟨([], .non, .none), fun q => absurd q ha⟩
    obtain ⟨f, hf2⟩ := Classical.axiomOfChoice key
    have hm : ∀ p ∈ ps, p.2 ∈ ps.map (·.2) := fun p hp => List.mem_map_of_mem hp
    obtain ⟨⟨f0, f1, hz, h0⟩, hTI, ⟨vs, hTO, hv⟩, hi⟩ := id W
    have D2 := D.other fun a => (f a).1.toArray
    have hgl : ∀ p ∈ ps, (f p.2).1.toArray.getD i .none = (f p.2).2.2 := fun p hp => by
      have q := (hf2 p.2 (hm p hp)).2.1
      simp [Array.getD_eq_getD_getElem?, q]
    have hlt : ∀ p ∈ ps, i < (f p.2).1.toArray.size := fun p hp => by
      obtain ⟨q, _⟩ := List.getElem?_eq_some_iff.mp (hf2 p.2 (hm p hp)).2.1
      simpa using q
    refine pyNext_item (k := i) D2 (fun q => ?_) (by rw [withF, List.length_map]; exact Nat.le_trans hlen (by decide)) hz h0 (by rw [refs_withF]; exact hTI) hTO (by rw [withF, List.length_map]; exact hv)
      (fun c hc => ?_) (fun c hc => ?_) (fun c hc => ?_) fun h' f0' f1' vs' hz' h0' hTO' hv' hi' hT hsz hk => ?_
    · have : ps = [] := by simpa [withF] using q
      exact hne (by rw [this]; rfl)
    · obtain ⟨p, hp, rfl⟩ := mem_withF hc
      exact hi p hp
    · obtain ⟨p, hp, rfl⟩ := mem_withF hc
      exact (hf2 p.2 (hm p hp)).2.2.2
    · obtain ⟨p, hp, rfl⟩ := mem_withF hc
      exact hlt p hp
    · have ea : at_ i (withF (fun a => (f a).1.toArray) ps) = ps.map fun p => (f p.2).2.2 := by
        rw [at_withF]
        exact List.map_congr_left hgl
      rw [ea] at hT
      have keeps : ∀ c o, c ∉ z :: TI :: TO :: ps.map (·.1) → s.heap.get? c = some o → h'.get? c = some o := fun c o hb q =>
        hk c o (fun e => hb (by simp [e])) (fun e => hb (by simp [e])) (by rw [withF_1]; exact fun e => hb (List.mem_cons_of_mem _ (List.mem_cons_of_mem _ (List.mem_cons_of_mem _ e)))) q
      have new : ObjOk X.prog X.w (upd H s.heap.objs.size (.tup (ps.map fun p => (f p.2).2.1))) h' s.heap.objs.size (.tup (ps.map fun p => (f p.2).2.1)) :=
        ⟨by rw [List.length_map]; exact Nat.le_trans hlen (by decide), ps.map fun p => (f p.2).2.2, vals_map fun p hp => (hf2 p.2 (hm p hp)).2.2.1, ⟨_, hT, rfl, _, rfl⟩⟩
      have I1 : Inv X pins σ (upd H s.heap.objs.size (.tup (ps.map fun p => (f p.2).2.1))) { s with heap := h' } :=
        I.turnedNew (t' := s.toks) (ch := z :: TI :: TO :: ps.map (·.1)) keeps hf (Nat.le_refl _) new
      refine ⟨_, rfl, wpAny_pure ⟨.ref s.heap.objs.size, _, I1, rfl, ⟨_, _, rfl, I.hok.fresh (Nat.le_refl _), rfl, by rw [List.length_map, List.length_map], fun j a ej xs hq => ?_⟩, ⟨⟨f0', f1', hz', h0'⟩, ?_, ⟨vs', hTO', ?_⟩, fun p hp => ?_⟩, fun c hcm => ?_⟩⟩
      · rw [List.getElem?_map] at ej ⊢
        cases ep : ps[j]? with
        | none => rw [ep] at ej; cases ej
        | some p =>
          rw [ep] at ej
          have e1 : p.2 = a := by simpa using ej
          have hp : p ∈ ps := List.mem_of_getElem? ep
          obtain ⟨⟨ys, hy, ey⟩, _⟩ := hf2 p.2 (hm p hp)
          rw [e1] at hy
          rw [I.tuple_inj hq hy]
          exact ey.symm
      · exact hk _ _ D.TIz D.TITO (by rw [withF_1]; have := D.nI; rwa [withF_1] at this) hTI
      · rw [hv', withF, List.length_map]
      · exact hi' (p.1, p.2, (f p.2).1.toArray) (List.mem_map_of_mem hp)
      · have hlt : c < s.heap.objs.size := by
          rcases List.mem_cons.mp hcm with rfl | hcm
          · exact Heap.lt_size hz
          rcases List.mem_cons.mp hcm with rfl | hcm
          · exact Heap.lt_size hTI
          rcases List.mem_cons.mp hcm with rfl | hcm
          · exact Heap.lt_size hTO
          obtain ⟨p, hp, rfl⟩ := List.mem_map.mp hcm
          obtain ⟨_, e1, _⟩ := hi p hp
          exact Heap.lt_size e1
        rw [upd_ne (Nat.ne_of_lt hlt)]
        exact (hf c hcm).1
  done := by
    intro X hP hw hK hc i pins s σ H E I hf W hg
    subst hP hw hK
    have key : ∀ a : Addr, ∃ y : Array Value, a ∈ ps.map (·.2) → y.size ≤ i ∧ s.heap.IsTuple a y := by
      intro a
      by_cases ha : a ∈ ps.map (·.2)
      · obtain ⟨xs, hq, hx⟩ := hg a ha
        obtain ⟨its, rv, p, _⟩ := I.tuple hq
        have hl := rv.length
        exact ⟨its.toArray, fun _ => ⟨by rw [List.size_toArray]; omega, p⟩⟩
      · exact ⟨#[], fun q => absurd q ha⟩
    obtain ⟨f, hf2⟩ := Classical.axiomOfChoice key
    have hm : ∀ p ∈ ps, p.2 ∈ ps.map (·.2) := fun p hp => List.mem_map_of_mem hp
    obtain ⟨⟨f0, f1, hz, h0⟩, hTI, ⟨vs, hTO, hv⟩, hi⟩ := id W
    refine pyNext_end (k := i) (I.ok.hd hc) (D.other f) hz h0 (by rw [refs_withF]; exact hTI) (fun c hc => ?_) (fun c hc => ?_) (fun c hc => ?_) hTO fun h' hk => ⟨rfl, I.turnedL (t' := s.toks) (ch := z :: TI :: TO :: ps.map (·.1)) (fun c o hb q =>
      hk c o (fun e => hb (by simp [e])) (fun e => hb (by simp [e])) (by rw [withF_1]; exact fun e => hb (List.mem_cons_of_mem _ (List.mem_cons_of_mem _ (List.mem_cons_of_mem _ e)))) q) hf⟩
    · obtain ⟨p, hp, rfl⟩ := mem_withF hc
      exact hi p hp
    · obtain ⟨p, hp, rfl⟩ := mem_withF hc
      exact (hf2 p.2 (hm p hp)).2
    · obtain ⟨p, hp, rfl⟩ := mem_withF hc
      exact (hf2 p.2 (hm p hp)).1
  self := fun A i s Q E W h => by
    obtain ⟨⟨f0, f1, hz, _⟩, _⟩ := W
    exact pyIter_z hz h
end ZN
set_option Elab.async false
set_option linter.all false
set_option maxRecDepth 100000
set_option maxHeartbeats 4000000
/-! own words, 33: zip(*x) as what a loop or a comprehension walks -/
namespace ZN
open PySem PySem.Spec PyProof.Rows L2 RZ StX
def pairs : Nat → List Addr → List (Addr × Addr)
  | _, [] => []
  | m, a :: r => (m, a) :: pairs (m + 1) r
theorem pairs_len : ∀ (m : Nat) (as : List Addr), (pairs m as).length = as.length
  | _, [] => rfl
  | m, a :: r => by show (pairs (m + 1) r).length + 1 = _; rw [pairs_len (m + 1) r]; rfl
theorem pairs_2 : ∀ (m : Nat) (as : List Addr), (pairs m as).map (·.2) = as
  | _, [] => rfl
  | m, a :: r => by show a :: (pairs (m + 1) r).map (·.2) = _; rw [pairs_2 (m + 1) r]
theorem cells_pairs (f : Addr → Array Value) : ∀ (m : Nat) (as : List Addr), cells m (as.map fun a => (a, f a)) = withF f (pairs m as)
  | _, [] => rfl
  | m, a :: r => by
    show (m, a, f a) :: cells (m + 1) (r.map fun a => (a, f a)) = (m, a, f a) :: withF f (pairs (m + 1) r)
    rw [cells_pairs f (m + 1) r]
theorem vals_refs : ∀ {as : List Addr} {us : List Value}, Vals (as.map V.ref) us → us = as.map Value.ref
  | [], _, .nil => rfl
  | a :: as, _, .cons r t => by
    obtain rfl : _ = Value.ref a := r
    rw [vals_refs t]; rfl
/-- zip(*x), x a tuple or a list of tuples -/
def iZipN (K : PySem.W.Frag) (te : TE) : TI := fun σ H R => te σ H fun y H1 => ∃ (a : Addr) (as : List Addr), y = V.ref a ∧ (SqT K H1 a (as.map V.ref) ∨ SqL K H1 a (as.map V.ref)) ∧ (∀ b ∈ as, ∃ xs, SqT K H1 b xs) ∧ as.length ≤ 4000 ∧ R (ItzN K as) H1
theorem pi_zipN {X : Cx} {e : Expr} {te : TE} {n : Str} {np p sp_ pos : Pos} (hg : Gl X "zip") (hm : X.mg "zip" = none) (he : PE X e te)
    (hst : starEach [.Starred e sp_] X.env = [(true, eval e X.env)] := by rfl) :
    PI X (.Name n np) (.Call (.Name "zip" p) [.Starred e sp_] [] pos) (iZipN X.K te) := by
  refine ⟨fun pins s σ H R I h => ?_⟩
  refine Call_ (ld_blt I hg hm PyProof.Rows.boot_zip ?_)
  rw [hst]
  refine PySem.W.ks_call (P := fun _ => True) rfl (fun h _ => ⟨.machine, .inr (.inl rfl), PySem.W.Looks.of_pure rfl⟩) (PySem.W.ks_lone (thn (he.run pins s σ H _ I h) fun v s1 ⟨y, H1, I1, ry, a, as, ey, hx, hb, hl, q⟩ => ?_))
  subst ey
  obtain rfl : v = Value.ref a := ry
  refine star_any I1 hx fun us s2 I2 rv => ⟨trivial, ?_⟩
  rw [vals_refs rv]
  have key : ∀ b : Addr, ∃ y : Array Value, b ∈ as → s2.heap.IsTuple b y := by
    intro b
    by_cases hm : b ∈ as
    · obtain ⟨xs, hq⟩ := hb b hm
      obtain ⟨its, rv, p, _⟩ := I2.tuple hq
      exact ⟨its.toArray, fun _ => p⟩
    · exact ⟨#[], fun q => absurd q hm⟩
  obtain ⟨f, hf⟩ := Classical.axiomOfChoice key
  have et : as.map Value.ref = (as.map fun b => (b, f b)).map fun t => Value.ref t.1 := by simp
  have ln : (as.map fun b => (b, f b)).length = as.length := List.length_map ..
  show wpAny _ _ (call (.type "zip") (as.map Value.ref)) _ _ _
  rw [et]
  refine call_zipN (by rw [ln]; exact hl) (fun t ht => ?_) fun h' M => ?_
  · obtain ⟨b, hb2, rfl⟩ := List.mem_map.mp ht
    exact hf b hb2
  · refine pyIter_z (s := { s2 with heap := h' }) M.z ?_
    have I3 : Inv X pins σ H1 { s2 with heap := h' } := I2.kept (t' := s2.toks) M.keep
    have D := apart_new (m := s2.heap.objs.size) (ts := as.map fun b => (b, f b)) fun t ht => by
      obtain ⟨b, hb2, rfl⟩ := List.mem_map.mp ht
      obtain ⟨o, ho, _⟩ := hf b hb2
      exact Heap.lt_size ho
    have ti := M.ti
    have it := M.it
    rw [cells_pairs] at D ti it
    have pl : (pairs s2.heap.objs.size as).length ≤ 4000 := by rw [pairs_len]; exact hl
    have T := turn_zipN (P := X.prog) (w := X.w) (K := X.K) (n := n) (np := np) pl (D.other fun _ => #[])
    rw [pairs_2] at T
    rw [refs_withF] at ti
    refine ⟨_, _, _, _, H1, rfl, I3, T, ⟨⟨_, _, M.z, .inl rfl⟩, ti, ⟨_, M.to, by rw [List.length_map, ln, pairs_len]⟩, fun p hp => it (p.1, p.2, f p.2) (List.mem_map_of_mem hp)⟩, fun c hc => ?_, q⟩
    have hle : s2.heap.objs.size ≤ c := by
      rcases List.mem_cons.mp hc with rfl | hc
      · exact Nat.le_trans (Nat.le_add_right _ _) (Nat.le_add_right _ _)
      rcases List.mem_cons.mp hc with rfl | hc
      · exact Nat.le_add_right _ _
      rcases List.mem_cons.mp hc with rfl | hc
      · exact Nat.le_trans (Nat.le_add_right _ _) (Nat.le_add_right _ _)
      rw [← withF_1 f, ← cells_pairs] at hc
      obtain ⟨d, hd, rfl⟩ := List.mem_map.mp hc
      exact (cells_mem hd).1
    exact I2.fpOk hle (I2.hok.fresh hle)
end ZN
set_option Elab.async false
set_option linter.all false
set_option maxRecDepth 100000
set_option maxHeartbeats 4000000
/-! own words, 34: math.lcm; what a walk of zip(*x) draws -/
namespace ZN
open PySem PySem.Spec PyProof.Rows L2 RZ
section
variable {X : Cx}
/-- lcm(a, b), both below 2 ^ 64, b not below 1 nor a -/
def rLcm : List V → Hp → VK → Prop := fun vs H Q => ∃ a b : Nat, vs = [.int a, .int b] ∧ a < 2 ^ 64 ∧ b < 2 ^ 64 ∧ Q (.int ((Nat.lcm a b : Nat) : Int)) H
theorem lcm_fits {a b : Nat} (ha : a < 2 ^ 64) (hb : b < 2 ^ 64) : (Nat.lcm a b).log2 < bitsLine := by
  by_cases h0 : Nat.lcm a b = 0
  · rw [h0]; decide
  · have h1 : Nat.lcm a b ≤ a * b := Nat.div_le_self _ _
    have h2 : a * b < 2 ^ 64 * 2 ^ 64 := Nat.mul_lt_mul'' ha hb
    have h3 : Nat.lcm a b < 2 ^ 128 := by
      rw [show (2 : Nat) ^ 128 = 2 ^ 64 * 2 ^ 64 from by decide]
      exact Nat.lt_of_le_of_lt h1 h2
    exact Nat.lt_trans ((Nat.log2_lt h0).mpr h3) (by decide)
theorem cr_lcm : CallR X (.builtin "math.lcm") rLcm := by
  intro pins s σ H vs us Q I r h
  obtain ⟨a, b, rfl, ha, hb, q⟩ := h
  obtain ⟨t, u, rfl⟩ := Vals.int2 r
  refine PySem.W.mg_lcm_v (c := ((Nat.lcm a b : Nat) : Int)) (by simpa using ha) (by simpa using hb) (by simp) (by simpa using lcm_fits ha hb) ?_
  exact ⟨.int _, H, I.tok _, ⟨_, rfl⟩, q⟩
end
/-- the column i of rows -/
def col (rows : List (List V)) (i : Nat) : List V := rows.map fun r => r.getD i .non
/-- what the walk of zip(*x) yields at turn i: the column i, as a new tuple -/
theorem yld_col {K : PySem.W.Frag} {as : List Addr} {rows : List (List V)} {i : Nat} {H H' : Hp} {v : V} (hl : as.length = rows.length) (hr : ∀ (j : Nat) (a : Addr) (r : List V), as[j]? = some a → rows[j]? = some r → SqT K H a r ∧ i < r.length)
    (h : (ItzN K as).yld i H v H') : ∃ T : Addr, v = .ref T ∧ H T = none ∧ H' = upd H T (.tup (col rows i)) := by
  obtain ⟨T, vs, rfl, hT, rfl, hn, hv⟩ := h
  refine ⟨T, rfl, hT, ?_⟩
  have e : vs = col rows i := by
    refine List.ext_getElem? fun j => ?_
    rw [col, List.getElem?_map]
    by_cases hj : j < as.length
    · have ea := List.getElem?_eq_getElem hj
      have er := List.getElem?_eq_getElem (show j < rows.length by omega)
      obtain ⟨q, hlt⟩ := hr j _ _ ea er
      rw [hv j _ ea _ q, er]
      simp [hlt]
    · rw [List.getElem?_eq_none (by omega), List.getElem?_eq_none (by omega)]
      rfl
  rw [e]
/-- the walk of zip(*x), x rows of one width -/
theorem walkZN {K : PySem.W.Frag} {as : List Addr} {rows : List (List V)} {n : Nat} (hl : as.length = rows.length) (hne : as ≠ []) (hw : ∀ r ∈ rows, r.length = n) :
    Walk (ItzN K as) n (fun H => ∀ (j : Nat) (a : Addr) (r : List V), as[j]? = some a → rows[j]? = some r → SqT K H a r) (fun i H v G => ∃ T : Addr, v = .ref T ∧ H T = none ∧ G = upd H T (.tup (col rows i))) := by
  have get : ∀ {H : Hp}, (∀ (j : Nat) (a : Addr) (r : List V), as[j]? = some a → rows[j]? = some r → SqT K H a r) → ∀ a ∈ as, ∃ r, SqT K H a r ∧ r.length = n := fun {H} q a ha => by
    obtain ⟨j, hj⟩ := List.mem_iff_getElem?.mp ha
    obtain ⟨hjl, _⟩ := List.getElem?_eq_some_iff.mp hj
    have er := List.getElem?_eq_getElem (show j < rows.length by omega)
    exact ⟨_, q j _ _ hj er, hw _ (List.getElem_mem _)⟩
  refine ⟨fun i H hi q => ⟨hne, fun a ha => ?_⟩, fun H q a ha => ?_, fun i H v G hi q z => ?_⟩
  · obtain ⟨r, h1, h2⟩ := get q a ha
    exact ⟨r, r[i], h1, List.getElem?_eq_getElem (by omega)⟩
  · obtain ⟨r, h1, h2⟩ := get q a ha
    exact ⟨r, h1, Nat.le_of_eq h2⟩
  · exact yld_col hl (fun j a r h1 h2 => ⟨q j a r h1 h2, by rw [hw r (List.mem_of_getElem? h2)]; exact hi⟩) z
/-- .. of no rows: nothing -/
theorem walkZN0 {K : PySem.W.Frag} : Walk (ItzN K []) 0 (fun H => True) (fun i H v G => False) :=
  ⟨fun i H hi => absurd hi (Nat.not_lt_zero _), fun H _ a ha => (List.not_mem_nil ha).elim, fun i H v G hi => absurd hi (Nat.not_lt_zero _)⟩
end ZN
set_option Elab.async false
set_option linter.all false
set_option maxRecDepth 100000
set_option maxHeartbeats 4000000
/-! k41, the first defs: is_integer, is_tuple, is_ratio, ratio_of -/
namespace KM
open PySem PySem.Spec PyProof.Rows L2 GxR NdefX GA SL ZN
def top (i : Nat) : Stmt := PySem.Challenge.pw_sameontrees_k41_whole_products.main.body.getD i (.Pass ⟨0, 0, 0, 0⟩)
abbrev s_is_integer : Stmt := top 2
abbrev s_is_tuple : Stmt := top 3
abbrev s_is_ratio : Stmt := top 4
abbrev s_ratio_of : Stmt := top 5
/-- the module's constants -/
structure Cn (mg : Str → Option Value) : Prop where
  gcd : mg "gcd" = some (.builtin "math.gcd")
  lcm : mg "lcm" = some (.builtin "math.lcm")
  entries : ∃ t, mg "MOST_ENTRIES" = some (.int 48 t)
def intB (e : PyData) : Bool := isInt e && !isBool e
def sp_is_integer : Sp := fun vs H Q _ => ∃ (M : List Addr) (v : V) (e : PyData), vs = [v] ∧ Dv M H v e ∧ Q (.bl (intB e)) H
theorem sc_is_integer : FnScope ["thing"] ["thing"] (defScope s_is_integer) := ⟨rfl, rfl, rfl, by decide +kernel, rfl, by decide +kernel, by decide +kernel⟩
def sp_is_tuple : Sp := fun vs H Q _ => ∃ (M : List Addr) (v : V) (d : PyData) (l m : Int), vs = [v, .int l, .int m] ∧ Dv M H v d ∧ Q (.bl (tupB d l m)) H
theorem sc_is_tuple : FnScope ["thing", "least", "most"] ["thing", "least", "most"] (defScope s_is_tuple) := ⟨rfl, rfl, rfl, by decide +kernel, rfl, by decide +kernel, by decide +kernel⟩
/-- a ratio in lowest terms -/
def Low (t b : Int) : Prop := 1 ≤ b ∧ Nat.gcd t.natAbs b.natAbs = 1
abbrev rat (t b : Int) : PyData := .tuple [.int t, .int b]
def sp_is_ratio : Sp := fun vs H Q _ => ∃ (M : List Addr) (v : V) (t b : Int), vs = [v] ∧ Dv M H v (rat t b) ∧ Low t b ∧ Q (.bl true) H
theorem sc_is_ratio : FnScope ["thing", "top", "bottom"] ["thing"] (defScope s_is_ratio) := ⟨rfl, rfl, rfl, by decide +kernel, rfl, by decide +kernel, by decide +kernel⟩
def gcdI (t b : Int) : Int := ((Nat.gcd t.natAbs b.natAbs : Nat) : Int)
def sp_ratio_of : Sp := fun vs H Q _ => ∃ t b : Int, vs = [.int t, .int b] ∧ 0 < b ∧ b < 1073741824 ∧ ∀ T, H T = none → Q (.ref T) (upd H T (.tup [.int (t / gcdI t b), .int (b / gcdI t b)]))
theorem sc_ratio_of : FnScope ["top", "bottom", "shared"] ["top", "bottom"] (defScope s_ratio_of) := ⟨rfl, rfl, rfl, by decide +kernel, rfl, by decide +kernel, by decide +kernel⟩
theorem gcdI_pos {t b : Int} (h : 0 < b) : 0 < gcdI t b := by
  have : 0 < Nat.gcd t.natAbs b.natAbs := Nat.gcd_pos_of_pos_right _ (by omega)
  unfold gcdI
  omega
theorem gcdI_le {t b : Int} (h : 0 < b) : gcdI t b ≤ b := by
  have : Nat.gcd t.natAbs b.natAbs ≤ b.natAbs := Nat.gcd_le_right _ (by omega)
  unfold gcdI
  omega
section
variable {P : Program} {w : World} {K : PySem.W.Frag} {mg : Str → Option Value} {base : Heap} {f : Addr} {fd : FuncData}
theorem ok_is_integer (F : Fun K "is_integer" "is_integer" s_is_integer f fd) (B : Bl mg) : FnOk P w K mg base CX0 1 f fd ["thing"] sp_is_integer := by
  refine F.ok sc_is_integer (fun vs H Q E h => ?_) (fun cdv A outer s H vs Q E hr h => ?_)
  · obtain ⟨_, _, _, rfl, _⟩ := h
    rfl
  obtain ⟨M, v, e, rfl, hv, q⟩ := h
  refine ⟨_, pss_one (ps_ret (pe_and (pe_isi_int B (pv 0)) (pe_one (pe_not (pe_isi_bool B (pv 0)))))), ?_⟩
  refine ⟨_, rfl, _, _, _, rfl, hv, _, rfl, ?_⟩
  unfold intB at q
  cases c1 : isInt e with
  | true =>
    rw [c1, Bool.true_and] at q
    exact iteT ⟨_, rfl, _, _, _, rfl, hv, _, rfl, q⟩
  | false =>
    rw [c1, Bool.false_and] at q
    exact iteF q
theorem ok_is_tuple (F : Fun K "is_tuple" "is_tuple" s_is_tuple f fd) (B : Bl mg) : FnOk P w K mg base CX0 1 f fd ["thing", "least", "most"] sp_is_tuple := by
  refine F.ok sc_is_tuple (fun vs H Q E h => ?_) (fun cdv A outer s H vs Q E hr h => ?_)
  · obtain ⟨_, _, _, _, _, rfl, _⟩ := h
    rfl
  obtain ⟨M, v, d, l, m, rfl, hv, q⟩ := h
  refine ⟨_, pss_one (ps_ret (pe_and (pe_isi_tuple B (pv 0)) (pe_one (pe_chain op_le op_le (pv 1) (pe_lenq B (pv 0)) (pv 2))))), ?_⟩
  refine ⟨_, rfl, _, _, _, rfl, hv, ?_⟩
  cases hv with
  | @tup a xs ds e n r =>
    refine ⟨_, rfl, iteT ?_⟩
    refine ⟨_, rfl, _, rfl, _, _, rfl, .inr (SqT.of e), _, _, rfl, rfl, _, rfl, ?_⟩
    have hl := r.length
    unfold tupB at q
    simp only [← hl] at q
    by_cases c : l ≤ (xs.length : Int)
    · rw [decide_eq_true c, Bool.true_and] at q
      refine if_true_of (decide_eq_true c) ?_
      exact ⟨_, rfl, _, _, rfl, rfl, q⟩
    · rw [decide_eq_false c, Bool.false_and] at q
      exact if_false_of (decide_eq_false c) q
  | _ => exact ⟨_, rfl, iteF q⟩
theorem ok_is_ratio (F : Fun K "is_ratio" "is_ratio" s_is_ratio f fd) (B : Bl mg) (C : Cn mg) (Ft : Fnn P w K mg base CX0 1 "is_tuple" ["thing", "least", "most"] sp_is_tuple) (Fi : Fnn P w K mg base CX0 1 "is_integer" ["thing"] sp_is_integer) :
    FnOk P w K mg base CX0 2 f fd ["thing"] sp_is_ratio := by
  refine F.ok sc_is_ratio (fun vs H Q E h => ?_) (fun cdv A outer s H vs Q E hr h => ?_)
  · obtain ⟨_, _, _, _, rfl, _⟩ := h
    rfl
  obtain ⟨M, v, t, b, rfl, hv, ⟨hb, hg⟩, q⟩ := h
  have nd := sc_is_ratio.nd
  refine ⟨_, pss_cons (ps_if (pt_not (pt_val (pe_fn Ft hr (by decide) pass0 (pa_cons (pv 0) (pa_cons pe_int (pa_cons pe_int pa_nil)))))) (pss_one (ps_ret pe_bl)) pss_nil)
    (pss_cons (ps_asg (pv 0) (pg_tup rfl (pgs_cons (pg_name (i := 1) nd rfl (.inl rfl)) (pgs_cons (pg_name (i := 2) nd rfl (.inl rfl)) pgs_nil))))
    (pss_one (ps_ret (pe_and (pe_fn Fi hr (by decide) pass0 (pa_cons (pv 1) pa_nil)) (pe_and (pe_fn Fi hr (by decide) pass0 (pa_cons (pv 2) pa_nil)) (pe_and (pe_cmpR op_ge (pv 2) pe_int (nomark _))
      (pe_one (pe_cmpR op_eq (pe_callBfun cr_gcd rfl C.gcd (pa_cons (pv 1) (pa_cons (pv 2) pa_nil))) pe_int (nomark _))))))))), ?_⟩
  obtain ⟨a, vx, vy, rfl, e, na, hx, hy⟩ := dv_pair hv
  cases hx
  cases hy
  refine ⟨_, rfl, M, _, _, 2, 2, rfl, hv, _, rfl, ?_⟩
  refine if_false_of rfl ?_
  refine ⟨_, rfl, a, _, rfl, SqT.of e, rfl, _, _, rfl, _, _, rfl, rfl, ?_⟩
  refine ⟨_, rfl, M, _, _, rfl, .int _, _, rfl, iteT ?_⟩
  refine ⟨_, rfl, M, _, _, rfl, .int _, _, rfl, iteT ?_⟩
  refine ⟨_, rfl, _, _, rfl, rfl, _, rfl, ?_⟩
  refine if_true_of (decide_eq_true hb) ?_
  refine ⟨_, rfl, _, rfl, t, b, rfl, rfl, ?_⟩
  rw [hg]
  exact q
theorem ok_ratio_of (F : Fun K "ratio_of" "ratio_of" s_ratio_of f fd) (C : Cn mg) : FnOk P w K mg base CX0 1 f fd ["top", "bottom"] sp_ratio_of := by
  refine F.ok sc_ratio_of (fun vs H Q E h => ?_) (fun cdv A outer s H vs Q E hr h => ?_)
  · obtain ⟨_, _, rfl, _⟩ := h
    rfl
  obtain ⟨t, b, rfl, h0, h1, q⟩ := h
  have nd := sc_ratio_of.nd
  refine ⟨_, pss_cons (ps_set (i := 2) nd rfl (Or.inl rfl) (pe_ifExp (pt_cmpR op_gt (pv 1) pe_int (nomark _)) (pe_callBfun cr_gcd rfl C.gcd (pa_cons (pv 0) (pa_cons (pv 1) pa_nil))) (pe_un un_neg (pe_callBfun cr_gcd rfl C.gcd (pa_cons (pv 0) (pa_cons (pv 1) pa_nil))))))
    (pss_one (ps_ret (pe_tup (pa_cons (pe_op op_fdiv (pv 0) (pv 2)) (pa_cons (pe_op op_fdiv (pv 1) (pv 2)) pa_nil))))), ?_⟩
  have g0 := gcdI_pos (t := t) h0
  have g1 := gcdI_le (t := t) h0
  refine ⟨_, rfl, _, _, rfl, rfl, _, rfl, ?_⟩
  refine if_true_of (decide_eq_true h0) ?_
  refine ⟨_, rfl, _, rfl, t, b, rfl, ?_⟩
  have gg : ((t.natAbs.gcd b.natAbs : Nat) : Int) = gcdI t b := rfl
  rw [gg]
  refine ⟨_, rfl, _, rfl, _, _, rfl, rfl, ⟨g0, by omega⟩, _, rfl, _, rfl, _, _, rfl, rfl, ⟨g0, by omega⟩, ?_⟩
  exact ⟨by show 2 ≤ sizeLine; decide, fun T hT => q T hT⟩
end
end KM
set_option Elab.async false
set_option linter.all false
set_option maxRecDepth 100000
set_option maxHeartbeats 2000000
/-! own words, 11: how great data is; its repr; defs that are called with no guard about -/
namespace SL
open PySem PySem.Spec PyProof.Rows L2 GxR NdefX GA
def asc (x : Str) : Bool := x.cps.toList.all fun c => decide (c < 128)
mutual
/-- ints no greater than n, ascii texts, empty dicts -/
def nice (n : Nat) : PyData → Bool
  | .none => true
  | .bool _ => true
  | .int i => decide (i.natAbs ≤ n)
  | .str x => asc x
  | .list xs => niceAll n xs
  | .tuple xs => niceAll n xs
  | .dict kvs => kvs.isEmpty
def niceAll (n : Nat) : List PyData → Bool
  | [] => true
  | x :: xs => nice n x && niceAll n xs
end
theorem shown_repr (x : Str) (h : asc x = true) : (reprText x).length ≤ 10 * x.length + 2 := StrLaws.reprText_len x fun c hc => by
  have := List.all_eq_true.mp h c hc
  have := of_decide_eq_true this
  omega
mutual
theorem shown_le {n : Nat} : ∀ {d : PyData}, nice n d = true → d.shown.length ≤ wt d
  | .none, _ => by simp only [PyData.shown, wt]; decide
  | .bool b, _ => by cases b <;> simp only [PyData.shown, wt] <;> decide
  | .int i, _ => by
    simp only [PyData.shown, wt]
    exact Nat.le_add_right _ _
  | .str x, h => by
    have := shown_repr x (by simpa only [nice] using h)
    simp only [PyData.shown, wt]
    omega
  | .list xs, h => by
    have h1 := shownAll_le (xs := xs) (by simpa only [nice] using h)
    have h2 := listText_len_le (PyData.shownAll xs)
    simp only [PyData.shown, wt]
    omega
  | .tuple xs, h => by
    have h1 := shownAll_le (xs := xs) (by simpa only [nice] using h)
    have h2 := tupleText_len_le (PyData.shownAll xs)
    simp only [PyData.shown, wt]
    omega
  | .dict [], _ => by
    simp only [PyData.shown, PyData.shownKv, wt]
    decide +kernel
  | .dict (_ :: _), h => by simp [nice] at h
theorem shownAll_le {n : Nat} : ∀ {xs : List PyData}, niceAll n xs = true → ((PyData.shownAll xs).map (·.length)).sum + 2 * (PyData.shownAll xs).length ≤ wtAll xs
  | [], _ => by simp [PyData.shownAll, wtAll]
  | x :: xs, h => by
    simp only [niceAll, Bool.and_eq_true] at h
    have h1 := shown_le h.1
    have h2 := shownAll_le h.2
    simp only [PyData.shownAll, wtAll, List.map_cons, List.sum_cons, List.length_cons]
    omega
end
mutual
theorem showable_of {n : Nat} (hn : n.log2 < 1920) : ∀ {d : PyData}, nice n d = true → d.showable = true
  | .none, _ => by simp only [PyData.showable]
  | .bool b, _ => by simp only [PyData.showable]
  | .int i, h => by
    simp only [nice, decide_eq_true_eq] at h
    simp only [PyData.showable, decide_eq_true_eq]
    by_cases z : i.natAbs = 0
    · rw [z]; decide
    · have a1 := (Nat.le_log2 z).mp (Nat.le_refl i.natAbs.log2)
      have hz : n ≠ 0 := by omega
      have : i.natAbs.log2 ≤ n.log2 := (Nat.le_log2 hz).mpr (Nat.le_trans a1 h)
      omega
  | .str x, _ => by simp only [PyData.showable]
  | .list xs, h => by
    simp only [PyData.showable]
    exact showableAll_of hn (by simpa only [nice] using h)
  | .tuple xs, h => by
    simp only [PyData.showable]
    exact showableAll_of hn (by simpa only [nice] using h)
  | .dict [], _ => by simp only [PyData.showable, PyData.showableKv]
  | .dict (_ :: _), h => by simp [nice] at h
theorem showableAll_of {n : Nat} (hn : n.log2 < 1920) : ∀ {xs : List PyData}, niceAll n xs = true → PyData.showableAll xs = true
  | [], _ => by simp only [PyData.showableAll]
  | x :: xs, h => by
    simp only [niceAll, Bool.and_eq_true] at h
    simp only [PyData.showableAll, Bool.and_eq_true]
    exact ⟨showable_of hn h.1, showableAll_of hn h.2⟩
end
section
variable {P : Program} {w : World} {H : Hp} {h : Heap} {M : List Addr}
mutual
/-- what bears data is read as that data -/
theorem Dv.reads (ok : HOk P w H h) : ∀ {v : V} {d : PyData} {u : Value}, Dv M H v d → RelV v u → ∃ as, Reads h u d as ∧ ∀ b ∈ as, H b ≠ none
  | _, _, _, .non, r => ⟨[], by cases r; exact .none, by simp⟩
  | _, _, _, .bl b, r => ⟨[], by cases r; exact .bool b, by simp⟩
  | _, _, _, .int i, r => by
    obtain ⟨t, rfl⟩ := r
    exact ⟨[], .int i t, by simp⟩
  | _, _, _, .str x, r => by
    obtain ⟨t, rfl⟩ := r
    exact ⟨[], .str x t, by simp⟩
  | _, _, _, .lst (a := a) e n q, r => by
    cases r
    obtain ⟨z, its, k, rv, g⟩ := ok a _ e
    obtain ⟨as, r1, r2⟩ := DvAll.reads ok q rv
    refine ⟨a :: as, .list g rfl rfl (by simpa using r1), fun b hb => ?_⟩
    rcases List.mem_cons.mp hb with rfl | hb
    · rw [e]; simp
    · exact r2 b hb
  | _, _, _, .tup (a := a) e n q, r => by
    cases r
    obtain ⟨z, its, rv, t⟩ := ok a _ e
    obtain ⟨as, r1, r2⟩ := DvAll.reads ok q rv
    obtain ⟨o, g, c, k, dd⟩ := t
    exact ⟨as, .tuple g c dd (by simpa using r1), r2⟩
  | _, _, _, .dct (a := a) e n, r => by
    cases r
    obtain ⟨z, s, vs, kv, o, es, ep, g, x, dd, k1, k2, k3⟩ := ok a _ e
    cases kv
    have e0 : es.toList = [] := by
      generalize es.toList = l at k2
      cases k2
      rfl
    refine ⟨a :: [] ++ [], .dict g x.1 dd (by rw [e0]; exact .nil) (by rw [e0]; exact .nil), fun b hb => ?_⟩
    have : b = a := by simpa using hb
    rw [this, e]
    simp
theorem DvAll.reads (ok : HOk P w H h) : ∀ {vs : List V} {ds : List PyData} {us : List Value}, DvAll M H vs ds → Vals vs us → ∃ as, ReadsAll h us ds as ∧ ∀ b ∈ as, H b ≠ none
  | _, _, _, .nil, .nil => ⟨[], .nil, by simp⟩
  | _, _, _, .cons x y, .cons r s => by
    obtain ⟨as, r1, r2⟩ := Dv.reads ok x r
    obtain ⟨bs, s1, s2⟩ := DvAll.reads ok y s
    exact ⟨as ++ bs, .cons r1 s1, fun b hb => (List.mem_append.mp hb).elim (r2 b) (s2 b)⟩
end
end
end SL
namespace SL
open PySem PySem.Spec PyProof.Rows L2 GxR NdefX GA
/-- a def that is to be called where no collection is being shown -/
structure FnG (P : Program) (w : World) (K : PySem.W.Frag) (mg : Str → Option Value) (base : Heap) (k : Nat) (f : Addr) (fd : FuncData) (ps : List Str) (sp : Sp) : Prop where
  len : ∀ vs H Q, sp vs H Q E0 → vs.length = ps.length
  run : ∀ (A : Around) (outer : List Env) (s : Shared) (H : Hp) (args : Args) (us : List Value) (vs : List V) (Q : VK), A.guards = some [] → Room k A → Env0 P w K mg base A outer s H → BindsTo s fd args (ps.zip us) → Vals vs us → sp vs H Q E0 →
    codeAny (model P w) A (.call (.ref f) args) (CR CX0 outer P w H s Q E0) s
/-- as its callers know it -/
structure Fng (P : Program) (w : World) (K : PySem.W.Frag) (mg : Str → Option Value) (base : Heap) (k : Nat) (x : Str) (ps : List Str) (sp : Sp) : Prop where
  ex : ∃ (f : Addr) (fd : FuncData), FnG P w K mg base k f fd ps sp ∧ mg x = some (.ref f) ∧ PySem.W.keepIn K (.ref f) = true ∧ Binds K fd ps []
section
variable {P : Program} {w : World} {K : PySem.W.Frag} {mg : Str → Option Value} {base : Heap} {k : Nat} {f c : Addr} {N ps : List Str} {sp : Sp} {x qual : Str} {st : Stmt} {fd : FuncData}
theorem FunT.okG (F : FunT K x qual st f fd c) (S : FnScope N ps (defScope st)) (len : ∀ vs H Q, sp vs H Q E0 → vs.length = ps.length)
    (hbody : ∀ (A : Around) (outer : List Env) (s : Shared) (H : Hp) (vs : List V) (Q : VK), A.guards = some [] → Room k (A.deeper (envOfC qual (defScope st) s.heap.objs.size f (.ref c))) → sp vs H Q E0 →
      ∃ t, PSs (cxOf CX0 P w K mg base N qual (defScope st) f (.ref c) A outer s H E0) (defBody st) t ∧ t { nx := fun _ H' => Q .non H', rt := Q } (start N vs) H) : FnG P w K mg base (k + 1) f fd ps sp := by
  obtain ⟨oc, od, kV, doc, pm, an, ct, osl, rfl, lk, hcd⟩ := F.ex
  refine ⟨len, fun A outer s H args us vs Q hg room env0 bind rel want => ?_⟩
  have inK : K.In s.heap := env0.mod.kin.keeps fun b o e => (env0.bs b o e).1
  have noLim : s.heap.NoLimit := env0.mod.nolimit.keeps fun b o e => (env0.bs b o e).1
  have kinds : ∀ y ∈ ps.zip us, (defScope st).names.lookup y.1 = some .local ∨ ((defScope st).names.lookup y.1 = some .cell ∧ ((cellsFrom (s.heap.objs.size + 1) (defScope st).names []).lookup y.1).isSome = true) := by
    rintro ⟨n, v⟩ hy
    have := S.par n (List.of_mem_zip hy).1
    exact this.imp id fun q => ⟨q, PySem.W.cellsFrom_some _ _ _ (.inl q)⟩
  refine codeAny_call_function room.depth (inK _ _ lk) rfl S.co S.gen rfl (PySem.W.codeRec_of inK hcd) (bind _ _ _ _ ?_)
  refine wpAny_newFunctionEnv_cells S.kind kinds ?_
  rintro env rfl s1 made
  refine ⟨noLim.keeps made.toInCall.keep, codeAny_func ?_⟩
  obtain ⟨t, ht, hq⟩ := hbody A outer s H vs Q hg (room.deeper _) want
  have I := inv_start (CX := CX0) (E := E0) S room.hd env0 (len _ _ _ want) rel made
  refine wpAny_mono (ht.run [] s1 (start N vs) H _ I hq) ?_ fun _ _ z => z
  have done : ∀ {σ' : L2.St} {H' : Hp} {s' : Shared} {v : V} {u : Value}, Inv (cxOf CX0 P w K mg base N qual (defScope st) f (.ref c) A outer s H E0) [] σ' H' s' → RelV v u → Q v H' → CE outer P w H s Q u s' :=
    fun {_ H' _ v _} J rv q => ⟨v, H', J.os, J.bare, J.base, J.hok, rv, q⟩
  rintro (_ | _ | _ | u) s' hs
  all_goals first
    | (obtain ⟨v, σ', H', J, rv, q⟩ := hs; exact done J rv q)
    | (obtain ⟨σ', H', J, q⟩ := hs; exact done (v := V.non) (u := Value.none) J rfl q)
    | (obtain ⟨_, _, _, q⟩ := hs; exact q.elim)
end
section
variable {X : Cx} {k j : Nat} {x : Str} {ps : List Str} {sp : Sp} {e : Expr} {es : List Expr} {t : TA} {p pos : Pos}
theorem pe_fnG (F : Fng X.prog X.w X.K X.mg X.base k x ps sp) (hG : X.A.guards = some []) (hr : Room j X.A) (hk : k ≤ j) (ha : PA X (e :: es) t) (hg : Gl X x := by rfl) (hdb : (x == ("__debug__" : Str)) = false := by decide)
    (he : starEach (e :: es) X.env = (false, eval e X.env) :: starEach es X.env := by rfl) (hpl : (backTo pos (starEach es X.env)).any (·.1) = false := by rfl) : PE X (.Call (.Name x p) (e :: es) [] pos) (tCall sp [] E0 t) := by
  obtain ⟨f, fd, G, m, kp, b⟩ := F.ex
  refine ⟨fun pins s σ H Q I h => ?_⟩
  refine wpAny_Call_Name_kw (ld_glob I hg m ?_ hdb)
  refine PySem.W.callWith_K (h₀ := X.base) I.ok.mod.kin kp (thn (ha.run pos pins s σ H _ I h) fun us s1 ⟨vs, H1, I1, r, q⟩ => ⟨I1.kIn, ?_⟩) he hpl
  have q : sp vs H1 Q E0 := by
    have q' : sp (vs ++ []) H1 Q E0 := q
    rw [List.append_nil] at q'
    exact q'
  have hl : us.length = ps.length := by rw [← r.length]; exact G.len _ _ _ q
  have bb := b s1 us I1.kIn (by rw [List.append_nil]; exact hl)
  rw [List.append_nil] at bb
  refine wpAny_call (codeAny_mono (G.run X.A X.stack s1 H1 ⟨us, []⟩ us vs Q hG (hr.mono hk) I1.env0 bb r q) ?_)
  rintro (err | fl) s' hq
  · exact hq.elim
  · rcases fl with _ | _ | _ | u
    all_goals first
      | exact I1.after hq
      | exact hq.elim
end
end SL
set_option Elab.async false
set_option linter.all false
set_option maxRecDepth 100000
set_option maxHeartbeats 2000000
/-! own words, 12: repr of data -/
namespace SL
open PySem PySem.Spec PyProof.Rows L2 GxR NdefX GA
/-- repr(v), v bearing data -/
def rRepr : List V → Hp → VK → Prop := fun xs H Q => ∃ (v : V) (M : List Addr) (d : PyData) (n : Nat), xs = [v] ∧ Dv M H v d ∧ nice n d = true ∧ n.log2 < 1920 ∧ wt d ≤ 4000000 ∧ d.depth ≤ 100 ∧ Q (.str d.shown) H
section
variable {X : Cx} {k : Nat} {a : Expr} {ta : TE} {p pos : Pos}
theorem cr_repr (hG : X.A.guards = some []) (hr : Room k X.A) (hm : ∃ o, X.base.get? sysModules = some o) : CallR X (.builtin "repr") rRepr := by
  intro pins s σ H xs us Q I r h
  obtain ⟨v, M, d, n, rfl, hv, hn, hl, hw, hd, q⟩ := h
  obtain ⟨u, rfl, ru⟩ := vals1 r
  have hln := shown_le hn
  have hz : d.shown.length ≤ sizeLine := by rw [sizeLine_eq]; omega
  have hs := showable_of hl hn
  obtain ⟨o, ho⟩ := hm
  have hfree : H sysModules = none := (I.bs _ _ ho).2
  obtain ⟨as, rd, tr⟩ := hv.reads I.hok ru
  have hno : sysModules ∉ as := fun m => tr _ m hfree
  have fin : ∀ h' u' tk, (∀ b o, s.heap.get? b = some o → h'.get? b = some o) → EP X pins σ Q (.str d.shown u') { s with heap := h', toks := tk } := fun h' u' tk hk => ⟨.str d.shown, H, I.kept (t' := tk) hk, ⟨_, rfl⟩, q⟩
  cases rd with
  | none => exact PySem.P.repr_of_none (fin s.heap _ _ fun _ _ e => e)
  | bool b =>
    refine PySem.P.repr_of_bool ?_
    have := fin s.heap s.toks (s.toks + 1) fun _ _ e => e
    simpa only [PyData.shown] using this
  | int i t =>
    refine PySem.P.repr_of_int (by simpa only [PyData.showable, decide_eq_true_eq] using hs) ?_
    have := fin s.heap s.toks (s.toks + 1) fun _ _ e => e
    simpa only [PyData.shown] using this
  | str x t =>
    refine PySem.P.repr_of_str ?_ (by simpa only [PyData.shown] using hz)
    have := fin s.heap s.toks (s.toks + 1) fun _ _ e => e
    simpa only [PyData.shown] using this
  | list h1 h2 h3 h4 => exact repr_of_reads' (.list h1 h2 h3 h4) hs (fun _ => hno) hG (by have := hr.un; omega) (fun _ _ e => e) (fun h' u tk hk => fin h' u tk hk) hz
  | tuple h1 h2 h3 h4 => exact repr_of_reads' (.tuple h1 h2 h3 h4) hs (fun _ => hno) hG (by have := hr.un; omega) (fun _ _ e => e) (fun h' u tk hk => fin h' u tk hk) hz
  | dict h1 h2 h3 h4 h5 => exact repr_of_reads' (.dict h1 h2 h3 h4 h5) hs (fun _ => hno) hG (by have := hr.un; omega) (fun _ _ e => e) (fun h' u tk hk => fin h' u tk hk) hz
theorem pe_repr (B : Bl X.mg) (hG : X.A.guards = some []) (hr : Room k X.A) (hm : ∃ o, X.base.get? sysModules = some o) (ha : PE X a ta) (h1 : Gl X "repr" := by rfl) (he : starEach (a :: []) X.env = (false, eval a X.env) :: starEach [] X.env := by rfl) :
    PE X (.Call (.Name "repr" p) [a] [] pos) (tCB rRepr (tCons ta tNil)) := pe_callB (cr_repr hG hr hm) h1 B.repr (by decide +kernel) (pa_cons ha pa_nil he) (by decide) (by decide) he
end
end SL
set_option Elab.async false
set_option linter.all false
set_option maxRecDepth 100000
set_option maxHeartbeats 2000000
/-! own words, 13: xs != [], t != (), t * k -/
namespace SL
open PySem PySem.Spec PyProof.Rows L2 GxR NdefX GA
section
variable {X : Cx}
/-- xs != ys, ys empty -/
def rNeNil (K : PySem.W.Frag) : R2 := fun x y H Q => ∃ a b xs, x = .ref a ∧ y = .ref b ∧ ((SqL K H a xs ∧ SqL K H b []) ∨ (SqT K H a xs ∧ SqT K H b [])) ∧ Q (.bl (!xs.isEmpty)) H
theorem op_neNil (hu : X.A.units < cLine) : OpR X (compareOp .NotEq) (rNeNil X.K) := by
  intro pins s σ H x y v u Q I rx ry h
  obtain ⟨a, b, xs, rfl, rfl, h, q⟩ := h
  cases rx
  cases ry
  show wpAny _ _ (richCompare .NotEq (.ref a) (.ref b)) _ _ _
  have fin : EP X pins σ Q (.bool (!xs.isEmpty)) s := ⟨.bl _, H, I, rfl, q⟩
  rcases h with ⟨h1, h2⟩ | ⟨h1, h2⟩
  · obtain ⟨its, r, p, _⟩ := I.list h1
    obtain ⟨its2, r2, p2, _⟩ := I.list h2
    cases r2
    obtain ⟨o, n, g, c, _, dd⟩ := p
    obtain ⟨o2, n2, g2, c2, _, dd2⟩ := p2
    have l1 : s.heap.IsList a its.toArray := ⟨o, g, c, n, dd⟩
    have l2 : s.heap.IsList b ([] : List Value).toArray := ⟨o2, g2, c2, n2, dd2⟩
    cases r with
    | nil => exact PySem.SeqAt.RcNeAt.lists l1 l2 rfl hu (e := fun _ => true) (fun j hj _ => absurd hj (Nat.not_lt_zero _)) _ _ _ _ fin
    | cons _ _ => exact PySem.SeqAt.RcNeAt.lists_lengths l1 l2 rfl hu _ _ _ _ fin
  · obtain ⟨its, r, ⟨o, g, c, n, dd⟩, _⟩ := I.tuple h1
    obtain ⟨its2, r2, ⟨o2, g2, c2, n2, dd2⟩, _⟩ := I.tuple h2
    cases r2
    have l1 : s.heap.IsTuple a its.toArray := ⟨o, g, c, n, dd⟩
    have l2 : s.heap.IsTuple b ([] : List Value).toArray := ⟨o2, g2, c2, n2, dd2⟩
    refine PySem.SeqAt.RcNeAt.tuples l1 l2 hu (e := fun _ => true) (fun j _ hj => absurd hj (Nat.not_lt_zero _)) _ _ _ _ ?_
    cases r with
    | nil => exact fin
    | cons _ _ => simpa using fin
/-- t * k, k being 2 or 3; the empty tuple is itself -/
def rTimes (K : PySem.W.Frag) : R2 := fun x y H Q => ∃ l k xs, x = .ref l ∧ y = .int k ∧ SqT K H l xs ∧ 2 ≤ k ∧ k ≤ 3 ∧ xs.length ≤ 2000000 ∧ (xs = [] → Q (.ref l) H) ∧ (xs ≠ [] → ∀ p, H p = none → Q (.ref p) (upd H p (.tup (List.replicate k.toNat xs).flatten)))
theorem mul_nil (l : Addr) (n : Nat) (dd : Option Addr) (sl : Array (Option Value)) (x : Int) (u : Tok) (c0 : (decide (x < -(2 ^ 63)) || decide (x ≥ 2 ^ 63)) = false) :
    Meets (Builtin.«tuple.__mul__» ⟨[.ref l, .int x u], []⟩) (fun _ R s => s.heap.get? l = some { cls := .type "tuple", dict := dd, data := .seq #[] n, slots := sl } ∧ R (.ok (.ret (.ref l))) s) :=
  .of_wp fun prog w A R s h => by
    obtain ⟨hp, g, d, tk, os⟩ := s
    obtain ⟨hl, h⟩ := h
    have f1 := AutoSeq1.idx_int
    wp_walk using wpAny_loadPart' hl
    repeat (first
      | (refine wpAny_ite_false (decide_eq_false (by rw [c0]; exact Bool.false_ne_true)) ?_; wp_walk using wpAny_loadPart' hl))
    exact ⟨_, rfl, h⟩
theorem op_times : OpR X (binaryOp .Mult) (rTimes X.K) := by
  intro pins s σ H x y v u Q I rx ry h
  obtain ⟨l, k, xs, rfl, rfl, hT, k2, k3, hz, q0, q1⟩ := h
  cases rx
  obtain ⟨t, rfl⟩ := ry
  obtain ⟨its, r, ⟨⟨cls, dd, data, sl⟩, ho, hc, n, hd⟩, _⟩ := I.tuple hT
  simp only at hc hd
  subst hc hd
  have hle : its.length = xs.length := r.length.symm
  have c0 : (decide (k < -(2 ^ 63)) || decide (k ≥ 2 ^ 63)) = false := by
    rw [decide_eq_false (by omega), decide_eq_false (by omega)] <;> rfl
  refine wpAny_binaryOp_repeat_ref (T := "tuple") (U := "int") (by decide) ⟨_, ho, rfl⟩ (fun s' => typeIs_int s' k t) noFill_tuple_mul F.fills_int_mul F.slot_int_rmul repeat_tuple F.slot_int_index.lookup
    (call_meets F.slot_int_rmul (typeIs_int s k t) F.entry_int_rmul (F.args_int_rmul_2 _ _) (int_rmul_tuple k t l its.toArray n dd sl) ⟨ho, rfl, ⟨_, ho, rfl⟩, ?_⟩)
  by_cases hne : xs = []
  · subst hne
    cases r
    exact call_meets F.slot_tuple_mul ⟨_, ho, rfl⟩ F.entry_tuple_mul (F.args_tuple_mul_2 _ _) (mul_nil l n dd sl k t c0) ⟨ho, .ref l, H, I, rfl, q0 rfl⟩
  · have hi : its.toArray.isEmpty = false := by
      cases r with
      | nil => exact absurd rfl hne
      | cons _ _ => rfl
    have hsz0 : its.toArray.size = xs.length := by rw [List.size_toArray, hle]
    have hm : ((its.toArray.size : Nat) : Int) * k ≤ 6000000 := by
      rw [hsz0]
      have a1 : ((xs.length : Nat) : Int) * k ≤ 2000000 * k := Int.mul_le_mul_of_nonneg_right (by omega) (by omega)
      omega
    have lim : k.toNat * xs.length ≤ 3 * 2000000 := Nat.mul_le_mul (by omega) hz
    have flen : (List.replicate k.toNat its).flatten.length ≤ sizeLine := by
      rw [PyProof.Rows.lm_len_rep_flat, hle, sizeLine_eq]
      omega
    have c1 : (its.toArray.isEmpty || k == 1) = false := by
      rw [hi, Bool.false_or]
      exact beq_eq_false_iff_ne.mpr (by omega)
    have c2 : (decide (k ≤ 0) || its.toArray.isEmpty) = false := by
      rw [hi, Bool.or_false]
      exact decide_eq_false (by omega)
    have c4 : Builtin.Tuple.tupleTooMany (((its.toArray.size : Nat) : Int) * k) = false := by
      unfold Builtin.Tuple.tupleTooMany
      rw [sizeLine_eq]
      exact decide_eq_false (by omega)
    refine call_meets F.slot_tuple_mul ⟨_, ho, rfl⟩ F.entry_tuple_mul (F.args_tuple_mul_2 _ _) (tuple_mulW l its.toArray n dd sl k t c0 c1 c2 (by omega) c4 (by rw [size_rep, List.size_toArray]; exact flen)) ⟨ho, ?_⟩
    rw [size_rep]
    refine ⟨.ref s.heap.objs.size, _, I.laid (t' := s.toks) (o := .tup (List.replicate k.toNat xs).flatten) (fun b ob q => Heap.get?_push_of_some _ q) (Nat.le_refl _) ?_, rfl, q1 hne _ (I.hok.fresh (Nat.le_refl _))⟩
    exact ⟨by rw [PyProof.Rows.lm_len_rep_flat, sizeLine_eq]; omega, _, r.rep k.toNat, IsTup.new _ _⟩
end
end SL
set_option Elab.async false
set_option linter.all false
set_option maxRecDepth 100000
set_option maxHeartbeats 2000000
/-! own words, 14: ascii texts -/
namespace SL
open PySem PySem.Spec PyProof.Rows L2 GxR NdefX GA
theorem asc_mem {x : Str} (h : asc x = true) : ∀ c ∈ x.cps.toList, c < 128 := fun c hc => of_decide_eq_true (List.all_eq_true.mp h c hc)
theorem asc_of {x : Str} (h : ∀ c ∈ x.cps.toList, c < 128) : asc x = true := List.all_eq_true.mpr fun c hc => decide_eq_true (h c hc)
theorem cps_add (x y : Str) : (x ++ y).cps.toList = x.cps.toList ++ y.cps.toList := by
  show (x.cps ++ y.cps).toList = _
  simp
theorem asc_add {x y : Str} (h : asc x = true) (k : asc y = true) : asc (x ++ y) = true := asc_of fun c hc => by
  rw [cps_add] at hc
  exact (List.mem_append.mp hc).elim (asc_mem h c) (asc_mem k c)
theorem asc_one {x : Str} {c : Nat} (h : asc x = true) (hc : c ∈ x.cps.toList) : asc ⟨#[c]⟩ = true := asc_of fun d hd => by
  have : d = c := by simpa using hd
  rw [this]
  exact asc_mem h c hc
theorem cutS_list (z : Str) (lo hi : Option Int) : (cutS z lo hi).cps.toList = (z.cps.toList.drop (HT.sIx z.length 0 lo)).take (HT.sIx z.length z.length hi - HT.sIx z.length 0 lo) := by
  unfold cutS
  simp
theorem len_list (z : Str) : z.length = z.cps.toList.length := by simp [Str.length]
theorem asc_cut {z : Str} (h : asc z = true) (lo hi : Option Int) : asc (cutS z lo hi) = true := asc_of fun c hc => by
  rw [cutS_list] at hc
  exact asc_mem h c (List.mem_of_mem_drop (List.mem_of_mem_take hc))
theorem len_cut (z : Str) (lo hi : Option Int) : (cutS z lo hi).length ≤ z.length := by
  rw [len_list, cutS_list, List.length_take, List.length_drop, ← len_list]
  omega
/-- z[1:10] has nine signs at most -/
theorem len_cut9 (z : Str) : (cutS z (some 1) (some 10)).length ≤ 9 := by
  have a := HT.sIx_nat z.length 0 1
  have b := HT.sIx_nat z.length z.length 10
  have a : HT.sIx z.length 0 (some 1) = min 1 z.length := a
  have b : HT.sIx z.length z.length (some 10) = min 10 z.length := b
  rw [len_list, cutS_list, List.length_take, List.length_drop, a, b, ← len_list]
  omega
theorem up_len {x : Str} (h : asc x = true) : (Txt.upper x).length = x.length ∧ asc (Txt.upper x) = true := by
  rw [PyProof.Rows.upper_ascii (asc_mem h)]
  refine ⟨by simp [Str.length], asc_of fun c hc => ?_⟩
  have hc : c ∈ (x.cps.map up1).toList := hc
  rw [Array.toList_map] at hc
  obtain ⟨d, hd, rfl⟩ := List.mem_map.mp hc
  have := asc_mem h d hd
  unfold up1
  split <;> omega
theorem lo_len {x : Str} (h : asc x = true) : (Txt.lower x).length = x.length ∧ asc (Txt.lower x) = true := by
  rw [PyProof.Rows.lower_ascii (asc_mem h)]
  refine ⟨by simp [Str.length], asc_of fun c hc => ?_⟩
  have hc : c ∈ (x.cps.map lo1).toList := hc
  rw [Array.toList_map] at hc
  obtain ⟨d, hd, rfl⟩ := List.mem_map.mp hc
  have := asc_mem h d hd
  unfold lo1
  split <;> omega
theorem join_nil (ys : List Str) : Txt.join (⟨#[]⟩ : Str) ys = Str.join ⟨#[]⟩ ys := eq_of_beq (join_closes rfl)
/-- texts of one sign each, joined -/
theorem join_ones : ∀ {ys : List Str}, (∀ y ∈ ys, y.length ≤ 1 ∧ asc y = true) → (Str.join ⟨#[]⟩ ys).length ≤ ys.length ∧ asc (Str.join ⟨#[]⟩ ys) = true
  | [], _ => ⟨Nat.le_refl _, rfl⟩
  | y :: r, h => by
    have ih := join_ones fun z hz => h z (List.mem_cons_of_mem _ hz)
    have hy := h y List.mem_cons_self
    rw [show Str.join ⟨#[]⟩ (y :: r) = y ++ Str.join ⟨#[]⟩ r from join_nil_cons y r]
    refine ⟨?_, asc_add hy.2 ih.2⟩
    rw [strLen_append, List.length_cons]
    omega
theorem str_400 : (List.range 400).all (fun k : Nat => asc (Str.ofString (toString (k : Int))) && decide ((Str.ofString (toString (k : Int))).length ≤ 3)) = true := by decide +kernel
theorem str_100 : ((List.range 100).map fun k : Nat => Str.ofString (toString (k : Int))).Nodup := by decide +kernel
end SL
set_option Elab.async false
set_option linter.all false
set_option maxRecDepth 100000
set_option maxHeartbeats 2000000
/-! own words, 15: a, b, c = x, y, z with three local names -/
namespace SL
open PySem PySem.Spec PyProof.Rows L2 GxR NdefX GA
def tPar3 (i j k : Nat) (ta : TA) : TS := fun D σ H => ta σ H fun vs H1 => ∃ u v w, vs = [u, v, w] ∧ D.nx (((σ.set k (some w)).set j (some v)).set i (some u)) H1
theorem ps_par3 {X : Cx} {i j k : Nat} {x y z : Str} {a b c : Expr} {ta : TA} {px py pz pt pos : Pos} {kt k2 pt2} (hc : X.calm = true) (hN : X.N.Nodup) (hi : X.N[i]? = some x) (hj : X.N[j]? = some y) (hk : X.N[k]? = some z)
    (hx : X.env.scope.names.lookup x = some .local) (hy : X.env.scope.names.lookup y = some .local) (hz : X.env.scope.names.lookup z = some .local) (ha : PA X [a, b, c] ta)
    (hw : swappedStores [.Tuple [.Name x px, .Name y py, .Name z pz] kt pt] (.Tuple [a, b, c] k2 pt2) X.env = pure (some [x, y, z]))
    (hs : swapsWithSole [.Tuple [.Name x px, .Name y py, .Name z pz] kt pt] (.Tuple [a, b, c] k2 pt2) pos.line X.env = pure false := by rfl) :
    PS X (.Assign [.Tuple [.Name x px, .Name y py, .Name z pz] kt pt] (.Tuple [a, b, c] k2 pt2) pos) (tPar3 i j k ta) := by
  refine ⟨fun pins s σ H D I h => ?_⟩
  rw [exec_Assign_arm]
  refine wpAny_bind (wpAny_standAt ?_)
  rw [hs]
  refine wpAny_bind (wpAny_pure ?_)
  rw [if_neg (by decide)]
  refine wpAny_bind (Tuple_ (thn (ha.run _ pins s σ H _ I h) fun us s1 hh => ?_))
  obtain ⟨vs, H1, I1, r1, u, v, w, rfl, q1⟩ := hh
  obtain ⟨u1, u2, u3, rfl, ru, rv, rw'⟩ : ∃ u1 u2 u3, us = [u1, u2, u3] ∧ RelV u u1 ∧ RelV v u2 ∧ RelV w u3 := by
    rcases r1 with _ | ⟨p, _ | ⟨p2, _ | ⟨p3, r⟩⟩⟩
    cases r
    exact ⟨_, _, _, rfl, p, p2, p3⟩
  refine wpAny_newObj_type ?_ (by show 3 ≤ sizeLine; decide)
  have I2 : Inv X pins σ H1 { s1 with heap := s1.heap.push { cls := .type "tuple", data := .seq [u1, u2, u3].toArray } } := I1.kept (t' := s1.toks) fun b o e => Heap.get?_push_of_some _ e
  rw [hw]
  refine wpAny_bind (wpAny_pure ?_)
  show wpAny (model X.prog X.w) X.A (do rule "assign.swapped-stores"; let items ← unpackItems (.ref s1.heap.objs.size) 3 none; assignInOrder [fun v => bindName X.env z v, fun v => bindName X.env y v, fun v => bindName X.env x v] items.reverse; pure Flow.next) _ _ _
  refine wpAny_bind (wpAny_rule (wpAny_bind (unpackItems_tuple (items := #[u1, u2, u3]) (I.ok.hd hc) (IsTup.new s1.heap _) fun h' hx' => ?_)))
  have I3 := I2.kept (h' := h') (t' := s1.toks) fun b o e => hx' b o (Nat.ne_of_lt (Heap.lt_size e)) e
  show wpAny _ _ (assignInOrder [fun v => bindName X.env z v, fun v => bindName X.env y v, fun v => bindName X.env x v] [u3, u2, u1] >>= fun _ => pure Flow.next) _ _ _
  refine wpAny_bind (assignInOrder_cons (wpAny_bindName (store_ok I3 hN hk (.inl hz) rw' (fun s2 I4 => ?_) (.inr hz))))
  refine assignInOrder_cons (wpAny_bindName (store_ok I4 hN hj (.inl hy) rv (fun s3 I5 => ?_) (.inr hy)))
  refine assignInOrder_cons (wpAny_bindName (store_ok I5 hN hi (.inl hx) ru (fun s4 I6 => assignInOrder_nil (wpAny_pure ?_)) (.inr hx)))
  exact ⟨_, _, I6, q1⟩
end SL
set_option Elab.async false
set_option linter.all false
set_option maxRecDepth 100000
set_option maxHeartbeats 2000000
/-! own words, 16: +, -, * with a whole number or a truth on the left; str of these -/
namespace SL
open PySem PySem.Spec PyProof.Rows L2 GxR NdefX GA
/-- a whole number or a truth, and as a number -/
def numV (x : V) (i : Int) : Prop := x = .int i ∨ ∃ b, x = .bl b ∧ i = if b = true then 1 else 0
section
variable {X : Cx}
def rNumI (C : Int → Int → Prop) (g : Int → Int → Int) : R2 := fun x y H Q => ∃ i j, numV x i ∧ y = .int j ∧ C i j ∧ Q (.int (g i j)) H
theorem op_addB : OpR X (binaryOp .Add) (rNumI (fun _ _ => True) (· + ·)) := by
  intro pins s σ H x y v u Q I rx ry h
  obtain ⟨i, j, hx, rfl, _, q⟩ := h
  obtain ⟨t, rfl⟩ := ry
  have fin : EP X pins σ Q (.int (i + j) s.toks) { s with toks := s.toks + 1 } := ⟨.int (i + j), H, I.tok _, ⟨_, rfl⟩, q⟩
  rcases hx with rfl | ⟨b, rfl, rfl⟩
  · obtain ⟨t', rfl⟩ := rx
    exact add_int fin
  · cases rx
    exact IntBool.add_bool_int fin
theorem op_subB : OpR X (binaryOp .Sub) (rNumI (fun _ _ => True) (· - ·)) := by
  intro pins s σ H x y v u Q I rx ry h
  obtain ⟨i, j, hx, rfl, _, q⟩ := h
  obtain ⟨t, rfl⟩ := ry
  have fin : EP X pins σ Q (.int (i - j) s.toks) { s with toks := s.toks + 1 } := ⟨.int (i - j), H, I.tok _, ⟨_, rfl⟩, q⟩
  rcases hx with rfl | ⟨b, rfl, rfl⟩
  · obtain ⟨t', rfl⟩ := rx
    exact sub_int fin
  · cases rx
    exact IntBool.sub_bool_int fin
theorem op_mulB : OpR X (binaryOp .Mult) (rNumI CMul (· * ·)) := by
  intro pins s σ H x y v u Q I rx ry h
  obtain ⟨i, j, hx, rfl, hc, q⟩ := h
  obtain ⟨t, rfl⟩ := ry
  have fin : EP X pins σ Q (.int (i * j) s.toks) { s with toks := s.toks + 1 } := ⟨.int (i * j), H, I.tok _, ⟨_, rfl⟩, q⟩
  rcases hx with rfl | ⟨b, rfl, rfl⟩
  · obtain ⟨t', rfl⟩ := rx
    exact mul_int fin hc.ok
  · cases rx
    exact IntBool.mul_bool_int fin
theorem neg_bool {prog : Program} {w : World} {A : Around} {E : Value → Shared → Prop} {s : Shared} {b : Bool} {Q : Value → Shared → Prop} (h : Q (.int (-(if b = true then 1 else 0)) s.toks) { s with toks := s.toks + 1 }) : wpAny (model prog w) A (unaryOp .USub (.bool b)) Q E s := by
  refine unaryOp_gives (op := .USub) (PySem.typeIs_bool s b) rfl F.slot_bool_neg F.entry_int_neg (F.args_int_neg_1 _) (m := Made.int (-(if b = true then 1 else 0))) (by cases b <;> exact .of_eq rfl) h
def rNegB : V → Hp → VK → Prop := fun x H Q => ∃ i, numV x i ∧ Q (.int (-i)) H
theorem un_negB {X : Cx} : UnR X (unaryOp .USub) rNegB := by
  intro pins s σ H x v Q I rx h
  obtain ⟨i, hx, q⟩ := h
  have fin : EP X pins σ Q (.int (-i) s.toks) { s with toks := s.toks + 1 } := ⟨.int (-i), H, I.tok _, ⟨_, rfl⟩, q⟩
  rcases hx with rfl | ⟨b, rfl, rfl⟩
  · obtain ⟨t', rfl⟩ := rx
    exact neg_int fin
  · cases rx
    exact neg_bool fin
/-- str(x) of a whole number or a truth: some ascii text -/
def rStrN : List V → Hp → VK → Prop := fun xs H Q => (∃ i, xs = [.int i] ∧ i.natAbs.log2 < 1920 ∧ Q (.str (toString i)) H) ∨ ∃ b, xs = [.bl b] ∧ Q (.str (if b = true then "True" else "False")) H
theorem cr_strN : CallR X (.type "str") rStrN := by
  intro pins s σ H xs us Q I r h
  rcases h with ⟨i, rfl, hz, q⟩ | ⟨b, rfl, q⟩
  · exact call_str_int pins s σ H _ us Q I r ⟨i, rfl, hz, q⟩
  · obtain ⟨u, rfl, ru⟩ := vals1 r
    cases ru
    exact PySem.P.str_of_bool ⟨.str _, H, I.tok _, ⟨_, rfl⟩, q⟩
end
end SL
set_option Elab.async false
set_option linter.all false
set_option maxRecDepth 100000
set_option maxHeartbeats 2000000
/-! own words, 17: parts of data lists: ints, depth, slices -/
namespace SL
open PySem PySem.Spec PyProof.Rows L2 GxR NdefX GA
theorem niceAll_iff {n : Nat} : ∀ {xs : List PyData}, niceAll n xs = true ↔ ∀ d ∈ xs, nice n d = true
  | [] => by simp [niceAll]
  | x :: xs => by
    simp only [niceAll, Bool.and_eq_true, List.mem_cons, forall_eq_or_imp]
    exact and_congr Iff.rfl niceAll_iff
theorem depthAll_le {D : Nat} : ∀ {xs : List PyData}, PyData.depthAll xs ≤ D ↔ ∀ d ∈ xs, d.depth ≤ D
  | [] => by simp [PyData.depthAll]
  | x :: xs => by
    have ih := depthAll_le (D := D) (xs := xs)
    simp only [PyData.depthAll, List.mem_cons, forall_eq_or_imp]
    rw [← ih]
    omega
theorem nice_tup {n : Nat} {xs : List PyData} : nice n (.tuple xs) = true ↔ ∀ d ∈ xs, nice n d = true := by
  simp only [nice]
  exact niceAll_iff
theorem nice_lst {n : Nat} {xs : List PyData} : nice n (.list xs) = true ↔ ∀ d ∈ xs, nice n d = true := by
  simp only [nice]
  exact niceAll_iff
theorem depth_tup {D : Nat} {xs : List PyData} : (PyData.tuple xs).depth ≤ D + 1 ↔ ∀ d ∈ xs, d.depth ≤ D := by
  rw [← depthAll_le]
  simp only [PyData.depth]
  omega
theorem depth_lst {D : Nat} {xs : List PyData} : (PyData.list xs).depth ≤ D + 1 ↔ ∀ d ∈ xs, d.depth ≤ D := by
  rw [← depthAll_le]
  simp only [PyData.depth]
  omega
theorem wt_tupl (xs : List PyData) : wt (.tuple xs) = wtAll xs + 4 := by simp only [wt]
theorem wt_lst (xs : List PyData) : wt (.list xs) = wtAll xs + 4 := by simp only [wt]
/-- the slice of data -/
def cutD (ds : List PyData) (lo hi : Option Int) : List PyData := (ds.drop (HT.sIx ds.length 0 lo)).take (HT.sIx ds.length ds.length hi - HT.sIx ds.length 0 lo)
theorem cutD_mem {ds : List PyData} {lo hi : Option Int} {d : PyData} (h : d ∈ cutD ds lo hi) : d ∈ ds := List.mem_of_mem_drop (List.mem_of_mem_take h)
theorem cutD_wt (ds : List PyData) (lo hi : Option Int) : wtAll (cutD ds lo hi) ≤ wtAll ds := Nat.le_trans (wtAll_take _ _) (wtAll_drop _ _)
theorem cutD_len (ds : List PyData) (lo hi : Option Int) : (cutD ds lo hi).length ≤ ds.length := by
  unfold cutD
  rw [List.length_take, List.length_drop]
  omega
theorem DvAll.cutD {M : List Addr} {H : Hp} {xs : List V} {ds : List PyData} (h : DvAll M H xs ds) (lo hi : Option Int) : DvAll M H (cutV xs lo hi) (cutD ds lo hi) := h.cut lo hi
theorem rep_mem {n : Nat} {ds : List PyData} {d : PyData} (h : d ∈ (List.replicate n ds).flatten) : d ∈ ds := by
  obtain ⟨l, hl, hd⟩ := List.mem_flatten.mp h
  rw [(List.mem_replicate.mp hl).2] at hd
  exact hd
theorem DvAll.rep {M : List Addr} {H : Hp} {xs : List V} {ds : List PyData} (h : DvAll M H xs ds) : ∀ n : Nat, DvAll M H (List.replicate n xs).flatten (List.replicate n ds).flatten
  | 0 => .nil
  | n + 1 => by
    rw [List.replicate_succ, List.flatten_cons, List.replicate_succ, List.flatten_cons]
    exact h.append (DvAll.rep h n)
theorem rep_wt (ds : List PyData) : ∀ n : Nat, wtAll (List.replicate n ds).flatten = n * wtAll ds
  | 0 => by simp [wtAll]
  | n + 1 => by
    rw [List.replicate_succ, List.flatten_cons, wtAll_append, rep_wt ds n, Nat.succ_mul]
    omega
theorem cutD_lo {ds : List PyData} {i : Nat} (h : i ≤ ds.length) : cutD ds none (some (i : Int)) = ds.take i := by
  unfold cutD
  rw [HT.sIx_none, HT.sIx_nat, List.drop_zero, Nat.sub_zero, Nat.min_eq_left h]
theorem cutD_hi {ds : List PyData} {i : Nat} (h : i ≤ ds.length) : cutD ds (some (i : Int)) none = ds.drop i := by
  unfold cutD
  rw [HT.sIx_none, HT.sIx_nat, Nat.min_eq_left h]
  exact List.take_of_length_le (by rw [List.length_drop]; omega)
theorem wt_around {ds : List PyData} {i : Nat} {d : PyData} (h : ds[i]? = some d) : wtAll (ds.take i) + (wt d + 2 + wtAll (ds.drop (i + 1))) = wtAll ds := by
  have hi : i < ds.length := (List.getElem?_eq_some_iff.mp h).1
  have e : ds.drop i = d :: ds.drop (i + 1) := by
    rw [List.drop_eq_getElem_cons hi]
    congr 1
    exact (List.getElem?_eq_some_iff.mp h).2
  have w := wtAll_append (ds.take i) (ds.drop i)
  rw [List.take_append_drop, e] at w
  simp only [wtAll] at w
  omega
end SL
set_option Elab.async false
set_option linter.all false
set_option maxRecDepth 100000
set_option maxHeartbeats 2000000
/-! own words, 18: the law's def called where no guard is about, beside tables of code objects -/
namespace SL
open PySem PySem.Spec PyProof.Rows L2 GxR NdefX GA
abbrev scrO (us : List Value) : Obj := { cls := .type "list", data := .seq us.toArray }
abbrev tblO : Obj := { cls := .none, data := .fields #[] }
/-- where the law is called: the written part, the names, code objects cs with their empty tables, the script -/
structure Stand (K : PySem.W.Frag) (mg mb : Str → Option Value) (cs : List (Addr × Addr)) (s : Shared) (a : Addr) (us : List Value) (ns : List Int) : Prop where
  kin : K.In s.heap
  glo : s.heap.Ns mainGlobals mg
  blt : s.heap.Ns builtinsNs mb
  boot : ∀ y : Str, y ≠ "__name__" → mb y = bootBuiltins y
  lim : s.heap.NoLimit
  gens : s.gens = #[]
  tab : ∀ p ∈ cs, s.heap.get? p.2 = some tblO
  tabK : ∀ p ∈ cs, K.lookup p.2 = none
  code : ∀ p ∈ cs, PySem.W.CodeHd s.heap p.1 p.2
  bm : ∃ (m : Addr) (ob : Obj), mg "__builtins__" = some (.ref m) ∧ m ≠ builtinsNs ∧ s.heap.get? m = some ob ∧ ob.cls = .type "module" ∧ ob.dict = some builtinsNs ∧ ob.data = .plain
  scr : s.heap.get? a = some (scrO us)
  mods : ∃ m, s.heap.Ns sysModules m
  nums : IntsAre us ns
  short : ns.length ≤ sizeLine
/-- what is tracked there: the tables; the script, unless the top has written it -/
def trk0 (K : PySem.W.Frag) (cs : List (Addr × Addr)) (a : Addr) (us : List Value) (ns : List Int) : Hp := fun b =>
  if b ∈ cs.map (·.2) then some (.tbl #[]) else if b = a ∧ (K.lookup a).isNone = true then some (.frz (scrO us) (.lst (ns.map V.int))) else none
section
variable {P : Program} {w : World} {K : PySem.W.Frag} {mg mb : Str → Option Value} {cs : List (Addr × Addr)} {s : Shared} {a b : Addr} {us : List Value} {ns : List Int} {o : Obj} {u : HO}
theorem trk0_tab {p : Addr × Addr} (h : p ∈ cs) : trk0 K cs a us ns p.2 = some (.tbl #[]) := if_pos (List.mem_map_of_mem h)
theorem Stand.cases (S : Stand K mg mb cs s a us ns) (h : trk0 K cs a us ns b = some u) :
    (u = .tbl #[] ∧ s.heap.get? b = some tblO ∧ ∃ p ∈ cs, p.2 = b) ∨ (u = .frz (scrO us) (.lst (ns.map V.int)) ∧ b = a ∧ K.lookup a = none) := by
  unfold trk0 at h
  split at h
  · rename_i m
    obtain ⟨p, hp, e⟩ := List.mem_map.mp m
    cases h
    exact .inl ⟨rfl, by rw [← e]; exact S.tab p hp, p, hp, e⟩
  · split at h
    · rename_i m
      cases h
      exact .inr ⟨rfl, m.1, by simpa using m.2⟩
    · cases h
/-- what is neither a list nor a table is not tracked -/
theorem Stand.off (S : Stand K mg mb cs s a us ns) (e : s.heap.get? b = some o) (n1 : ∀ vs n, o.data ≠ .seq vs n) (n2 : o.data ≠ .fields #[]) : trk0 K cs a us ns b = none := by
  cases q : trk0 K cs a us ns b with
  | none => rfl
  | some u =>
    rcases S.cases q with ⟨_, e2, _⟩ | ⟨_, rfl, _⟩
    · rw [e] at e2
      cases e2
      exact absurd rfl n2
    · rw [S.scr] at e
      cases e
      exact absurd rfl (n1 _ _)
theorem Stand.base (S : Stand K mg mb cs s a us ns) (e : s.heap.get? b = some o) (n1 : ∀ vs n, o.data ≠ .seq vs n) (n2 : o.data ≠ .fields #[]) : (hidT s.heap (trk0 K cs a us ns)).get? b = some o := hidT_get e (S.off e n1 n2)
theorem Stand.named (S : Stand K mg mb cs s a us ns) {g : Addr} {m : Str → Option Value} (h : s.heap.Ns g m) : (hidT s.heap (trk0 K cs a us ns)).Ns g m := by
  obtain ⟨o, es, ep, e, d, r⟩ := h
  exact ⟨o, es, ep, S.base e (by rw [d]; intro _ _ z; cases z) (by rw [d]; intro z; cases z), d, r⟩
theorem Stand.kinB (S : Stand K mg mb cs s a us ns) : K.In (hidT s.heap (trk0 K cs a us ns)) := fun b o e => by
  refine hidT_get (S.kin b o e) ?_
  cases q : trk0 K cs a us ns b with
  | none => rfl
  | some u =>
    rcases S.cases q with ⟨_, _, p, hp, rfl⟩ | ⟨_, rfl, k⟩
    · rw [S.tabK p hp] at e
      cases e
    · rw [k] at e
      cases e
theorem Stand.mod (S : Stand K mg mb cs s a us ns) : L2.Mod K mg (hidT s.heap (trk0 K cs a us ns)) := by
  obtain ⟨mc, l1, l2⟩ := S.lim
  exact ⟨S.kinB, S.named S.glo, ⟨mb, S.named S.blt, S.boot⟩, mc, S.named l1, l2⟩
theorem Stand.tabB (S : Stand K mg mb cs s a us ns) {p : Addr × Addr} (hp : p ∈ cs) : GxR.TabB (hidT s.heap (trk0 K cs a us ns)) mg p.1 p.2 := by
  have ht := S.tab p hp
  refine ⟨?_, ?_, ?_⟩
  · obtain ⟨o, vs, file, tf, flags, tg, inF, text, tt, e, r1, r2, r3, r⟩ := S.code p hp
    refine ⟨o, vs, file, tf, flags, tg, inF, text, tt, S.base e (by rw [r2]; intro _ _ z; cases z) ?_, r1, r2, r3, r⟩
    rw [r2]
    intro z
    cases z
    simp at r3
  · obtain ⟨m, ob, b1, b2, b3, b4, b5, b6⟩ := S.bm
    refine ⟨m, ob, b1, b2, ?_, ?_, S.base b3 (by rw [b6]; intro _ _ z; cases z) (by rw [b6]; intro z; cases z), b4, b5, b6⟩
    · rintro rfl
      obtain ⟨o, es, ep, e, d, _⟩ := S.glo
      rw [b3] at e
      cases e
      rw [b6] at d
      cases d
    · rintro rfl
      rw [ht] at b3
      cases b3
      cases b6
  · intro z
    obtain ⟨o, es, ep, e, d, _⟩ := S.glo
    rw [z, ht] at e
    cases e
    cases d
theorem Stand.hok (S : Stand K mg mb cs s a us ns) : HOk P w (trk0 K cs a us ns) s.heap := fun b u h => by
  rcases S.cases h with ⟨rfl, e, _⟩ | ⟨rfl, rfl, _⟩
  · exact e
  · exact ⟨S.scr, by rw [List.length_map]; exact S.short, us, _, vals_ints S.nums, S.scr⟩
theorem Stand.sq (S : Stand K mg mb cs s a us ns) : SqL K (trk0 K cs a us ns) a (ns.map V.int) := by
  have na : a ∉ cs.map (·.2) := fun m => by
    obtain ⟨p, hp, e⟩ := List.mem_map.mp m
    have t := S.tab p hp
    rw [e, S.scr] at t
    cases t
  cases k : K.lookup a with
  | none => exact .inl (.inr ⟨scrO us, (if_neg na).trans (if_pos ⟨rfl, by rw [k] <;> rfl⟩)⟩)
  | some o =>
    have e := S.kin a o k
    rw [S.scr] at e
    cases e
    exact .inr ⟨_, us.toArray, _, k, rfl, rfl, rfl, by rw [List.size_toArray, S.nums.length]; exact S.short, by simpa using vals_ints S.nums⟩
theorem Stand.env (S : Stand K mg mb cs s a us ns) : Env0 P w K mg (hidT s.heap (trk0 K cs a us ns)) callerA [] s (trk0 K cs a us ns) where
  frames := rfl
  mod := S.mod
  bs := fun _ _ e => of_hidT e
  bsz := Nat.le_of_eq (hidT_size _ _)
  funs := trivial
  frf := fun _ h => absurd h List.not_mem_nil
  hok := S.hok
  bare := .of_eq S.gens
/-- what stood before stands behind the call, the tables grown -/
theorem Stand.old (S : Stand K mg mb cs s a us ns) {s' : Shared} {H' : Hp} (un : Un [] [] (trk0 K cs a us ns) H' s.heap s'.heap) (ok : HOk P w H' s'.heap) : OldK s.heap s'.heap := by
  have grown : ∀ p ∈ cs, ∃ more : Array Value, s'.heap.get? p.2 = some { cls := .none, data := .fields more } := fun p hp => by
    obtain ⟨more, e⟩ := un.tbls p.2 #[] (trk0_tab hp)
    exact ⟨_, ok _ _ e⟩
  have each : ∀ b o, s.heap.get? b = some o → s'.heap.get? b = some o ∨ ∃ p ∈ cs, p.2 = b := fun b o e => by
    cases q : trk0 K cs a us ns b with
    | none => exact .inl (un.keep b o e q List.not_mem_nil List.not_mem_nil)
    | some u =>
      rcases S.cases q with ⟨_, _, h⟩ | ⟨rfl, rfl, _⟩
      · exact .inr h
      · refine .inl ?_
        have k := (ok _ _ (un.frzs _ _ _ q)).1
        rw [S.scr] at e
        cases e
        exact k
  refine ⟨fun b o e => ?_, fun b o e => ?_⟩
  · rcases each b o e with h | ⟨p, hp, rfl⟩
    · exact .inl h
    · obtain ⟨more, hm⟩ := grown p hp
      rw [S.tab p hp] at e
      cases e
      exact .inr (.inl ⟨((S.code p hp).tab (S.tab p hp)).isCodeTable, rfl, #[], more, rfl, by rw [Array.empty_append]; exact hm⟩)
  · rcases each b o e with h | ⟨p, hp, rfl⟩
    · exact ⟨o, h⟩
    · obtain ⟨more, hm⟩ := grown p hp
      exact ⟨_, hm⟩
/-- the call gives True -/
theorem Stand.run (S : Stand K mg mb cs s a us ns) {k : Nat} {fa : Addr} {fd : FuncData} {x : Str} {sp : Sp} (hr : Room k callerA) (F : ∀ base : Heap, K.In base → base.Ns mainGlobals mg → (∃ o, base.get? sysModules = some o) → (∀ p ∈ cs, GxR.TabB base mg p.1 p.2) → FnG P w K mg base k fa fd [x] sp)
    (hb : ∀ (t : Shared) (v : Value), BindsTo t fd ⟨[v], []⟩ [(x, v)]) (hsp : ∀ H : Hp, (∀ p ∈ cs, H p.2 = some (.tbl #[])) → SqL K H a (ns.map V.int) → sp [.ref a] H (fun v _ => v = .bl true) E0) :
    codeAny (model P w) callerA (.call (.ref fa) ⟨[.ref a], []⟩) (fun r s' => r = .ok (.ret (.bool true)) ∧ OldK s.heap s'.heap ∧ s'.os = s.os ∧ AllBare s'.gens) s := by
  obtain ⟨m, hm⟩ := S.mods
  obtain ⟨ob, _, _, eb, _⟩ := S.named hm
  have G := F _ S.kinB (S.named S.glo) ⟨ob, eb⟩ fun p hp => S.tabB hp
  have go := G.run callerA [] s (trk0 K cs a us ns) ⟨[.ref a], []⟩ [.ref a] [.ref a] _ rfl hr S.env (hb s (.ref a)) (.cons rfl .nil) (hsp _ (fun _ hp => trk0_tab hp) S.sq)
  refine codeAny_mono go ?_
  rintro (err | fl) s' h
  · exact False.elim h
  · rcases fl with _ | _ | _ | v
    · exact False.elim h
    · exact False.elim h
    · exact False.elim h
    · obtain ⟨y, H', os, bare, un, ok, rel, rfl⟩ := h
      cases rel
      exact ⟨rfl, S.old un ok, os, bare⟩
end
/-- the law's row, once its def is shown to give True -/
theorem walkG {l : PySem.W.OpenLaw} {n k : Nat} {q : Program} {loose : List Str} {XP : (Str → Option Value) → Heap → Prop} {YP : World → Heap → Prop} {d : DefRec} {K : Params → PySem.W.Frag} {x : Str}
    (hn : l.most = some n) (hn2 : n ≤ sizeLine) (hdf : d.params.defaults = []) (hq : importsNone q = true) (hr : Room k callerA) (hY : ∀ (w : World) (h : Heap), YP w h → (K w.params).In h)
    (F : ∀ (w : World) (mg : Str → Option Value) (fa : Addr) (h : Heap), (K w.params).In h → h.Ns mainGlobals mg → mg d.name = some (.ref fa) →
      (∀ (e : DefRec) (y : Str) (c Q : Addr), (recsOf q).find? (fun r => r.name == y) = some e → PySem.W.tabIn (K w.params) y = some (c, Q) → PySem.W.CodeHd h c Q ∧ h.get? Q = some tblO) →
      ∃ (fd : FuncData) (cs : List (Addr × Addr)) (sp : Sp), (∀ p ∈ cs, h.get? p.2 = some tblO ∧ (K w.params).lookup p.2 = none ∧ PySem.W.CodeHd h p.1 p.2) ∧ (∀ (t : Shared) (v : Value), BindsTo t fd ⟨[v], []⟩ [(x, v)]) ∧
        (∀ (H : Hp) (a : Addr) (ns : List Int), ns.length ≤ n → (∀ p ∈ cs, H p.2 = some (.tbl #[])) → SqL (K w.params) H a (ns.map V.int) → sp [.ref a] H (fun v _ => v = .bl true) E0) ∧
        ∀ base : Heap, (K w.params).In base → base.Ns mainGlobals mg → (∃ o, base.get? sysModules = some o) → (∀ p ∈ cs, GxR.TabB base mg p.1 p.2) → FnG l.prog w (K w.params) mg base k fa fd [x] sp) :
    PySem.W.WalkO q loose XP YP l.row.toRowW d [] (fun f vs => PySem.call f vs) := by
  refine Att.attach_callB hn hdf fun w s₀ s₁ mg mb fa o pm cd doc a us ns G Y _ _ _ hmg hobj hints hlen _ hg => ?_
  have KX := hY w _ Y
  obtain ⟨fd, cs, sp, ht, hb, hsp, hF⟩ := F w mg fa _ KX G.T.g hmg fun e y c Q h1 h2 => PySem.W.tab_of G.T KX h1 h2
  obtain ⟨mm, hmm, _⟩ := (G.T.seer hq).mods
  have S : Stand (K w.params) mg mb cs s₁ a us ns := ⟨KX, G.T.g, G.T.b, G.T.builtins, G.T.nolimit, hg, fun p hp => (ht p hp).1, fun p hp => (ht p hp).2.1, fun p hp => (ht p hp).2.2, G.T.bmain, hobj, ⟨mm, hmm⟩, hints, Nat.le_trans hlen hn2⟩
  exact S.run hr hF hb fun H h1 h2 => hsp H a ns hlen h1 h2
end SL
set_option Elab.async false
set_option linter.all false
set_option maxRecDepth 100000
set_option maxHeartbeats 2000000
/-! own words, 19: enumerate of a tuple -/
namespace SL
open PySem PySem.Spec PyProof.Rows L2 GxR NdefX GA
open AutoSeq1 (wpAny_loadPart')
/-- the pairs of places and items of the tuple at a -/
def ItN (K : PySem.W.Frag) (a : Addr) : It where
  go := fun i H => ∃ xs x, SqT K H a xs ∧ xs[i]? = some x
  yld := fun i H v G => ∃ p x, v = .ref p ∧ H p = none ∧ G = upd H p (.tup [.int (i : Nat), x]) ∧ ∀ xs, SqT K H a xs → xs[i]? = some x
  stop := fun i H => ∃ xs, SqT K H a xs ∧ xs.length ≤ i
theorem enumT_new (a : Addr) (us : Array Value) (n : Nat) (dd : Option Addr) (ss : Array (Option Value)) :
    Meets (Builtin.«enumerate.__new__» ⟨[.type "enumerate", .ref a], []⟩) (fun _ G t => t.heap.get? a = some { cls := .type "tuple", dict := dd, data := .seq us n, slots := ss } ∧
      G (.ok (.ret (.ref (t.heap.push { cls := .type "tuple_iterator", data := .fields #[.ref a, .int 0 0] }).objs.size)))
        { t with heap := (t.heap.push { cls := .type "tuple_iterator", data := .fields #[.ref a, .int 0 0] }).push { cls := .type "enumerate", data := .fields #[.none, .bool false, .ref t.heap.objs.size, rawInt 0, .none, .none] } }) :=
  .of_wp fun pr wd ar G t z => by
    obtain ⟨hh, gg, dr, to, oo⟩ := t
    obtain ⟨ha, z⟩ := z
    have h1 := sub_enumerate
    have h2 : Heap.IsTuple (Shared.heap ⟨hh, gg, dr, to, oo⟩) a us := ⟨_, ha, rfl, n, rfl⟩
    wp_walk using wpAny_loadPart' ha
    refine wpAny_stack_any fun _ => wpAny_pure ?_
    split
    · rename_i c _ _ _ _ _
      by_cases e : (c == Value.type "enumerate") = true
      all_goals first
        | simp only [e]
        | skip
      all_goals
        wp_walk using wpAny_loadPart' ha, wpAny_pyIter_tuple h2
        exact ⟨_, rfl, z⟩
    · wp_walk using wpAny_loadPart' ha, wpAny_pyIter_tuple h2
      exact ⟨_, rfl, z⟩
section
variable {prog : Program} {w : World} {A : Around} {E : Value → Shared → Prop} {s : Shared}
theorem call_enumT {a : Addr} {us : Array Value} {Q : Value → Shared → Prop} (h : s.heap.IsTuple a us)
    (q : ∀ h', IsEnum h' (s.heap.objs.size + 1) s.heap.objs.size 0 .none → h'.IsTupleIter s.heap.objs.size a 0 → (∀ b o, s.heap.get? b = some o → h'.get? b = some o) → Q (.ref (s.heap.objs.size + 1)) { s with heap := h' }) :
    wpAny (model prog w) A (call (.type "enumerate") [.ref a]) Q E s := by
  obtain ⟨⟨c, dd, dt, ss⟩, g, e1, n, e2⟩ := h
  simp only at e1 e2
  subst e1 e2
  refine callType_new F.called_enumerate (by decide) (F.typeCall_enumerate_1 _) (F.newCall_enumerate_1 _) (fun z => F.args_object_init_2 z _) F.entry_enumerate_new (enumT_new a us n dd ss) ⟨g, ?_⟩
  obtain ⟨h1, eh⟩ : ∃ h1, h1 = s.heap.push { cls := .type "tuple_iterator", data := .fields #[.ref a, .int 0 0] } := ⟨_, rfl⟩
  have z1 : h1.objs.size = s.heap.objs.size + 1 := by rw [eh]; exact Heap.size_push ..
  have g1 : h1.get? s.heap.objs.size = some { cls := .type "tuple_iterator", data := .fields #[.ref a, .int 0 0] } := by rw [eh]; exact Heap.get?_push_size _ rfl
  have k1 : ∀ b o, s.heap.get? b = some o → h1.get? b = some o := fun b o x => by rw [eh]; exact Heap.get?_push_of_some _ x
  rw [← eh]
  show _ ∧ _
  rw [z1]
  have en := Heap.get?_push_size h1 (o := { cls := .type "enumerate", data := .fields #[.none, .bool false, .ref s.heap.objs.size, rawInt 0, .none, .none] }) rfl
  rw [z1] at en
  exact ⟨⟨_, en, rfl⟩, q _ en ⟨_, Heap.get?_push_of_some _ g1, rfl, rfl⟩ fun b o x => Heap.get?_push_of_some _ (k1 b o x)⟩
end
theorem turnN {P : Program} {w : World} {K : PySem.W.Frag} {elts : List Expr} {kk : Nat} {tpos : Pos} (a e it : Addr) :
    Turn P w K (.Tuple elts kk tpos) (ItN K a) [e, it] e (fun i h => (∃ old, IsEnum h e it ((i : Nat) : Int) old) ∧ h.IsTupleIter it a i ∧ e ≠ it) where
  mem := List.mem_cons_self
  obj := fun i h st b hb => by
    obtain ⟨⟨_, he⟩, ⟨o, ho, _, hd⟩, _⟩ := st
    rcases List.mem_cons.mp hb with rfl | hb
    · exact ⟨_, he, fun v z => nomatch z⟩
    · rw [List.mem_singleton.mp hb]
      exact ⟨o, ho, fun v z => by rw [hd] at z; cases z⟩
  keep := fun i h h' st k => by
    obtain ⟨⟨old, he⟩, hi, hne⟩ := st
    exact ⟨⟨old, k e List.mem_cons_self _ he⟩, hi.at fun o z => k it (by simp) o z, hne⟩
  item := by
    intro X hP hw hK hc i pins s σ H E I hf st hg
    subst hP hw hK
    obtain ⟨⟨old, he⟩, hit, hne⟩ := st
    obtain ⟨xs, x, hq, hx⟩ := hg
    obtain ⟨its, rv, pt, _⟩ := I.tuple hq
    obtain ⟨u, hu, ru⟩ := rv.get hx
    have tup : s.heap.IsTuple a its.toArray := by
      obtain ⟨o, g, c, n, d⟩ := pt
      exact ⟨o, g, c, n, d⟩
    have ai : a ≠ it := by
      rintro rfl
      obtain ⟨o, g, c, _⟩ := tup
      obtain ⟨o', g', c', _⟩ := hit
      rw [g] at g'
      cases g'
      rw [c] at c'
      exact absurd c' (by decide)
    have ae : e ∉ [it, a] := fun z => by
      rcases List.mem_cons.mp z with z | z
      · exact hne z
      · obtain ⟨o, g, c, _⟩ := tup
        rw [← List.mem_singleton.mp z, he] at g
        cases g
        have c' : Value.type "enumerate" = .type "tuple" := c
        exact absurd c' (by decide)
    have lte : e < s.heap.objs.size := Heap.lt_size he
    have lti : it < s.heap.objs.size := by
      obtain ⟨_, z, _⟩ := hit
      exact Heap.lt_size z
    have hi : i < its.toArray.size := by
      rw [List.size_toArray]
      exact (List.getElem?_eq_some_iff.mp hu).1
    refine wpAny_pyNext_enum_itemD (Draws.tuple (show X.A.in1.handled = none from I.ok.hd hc) it a ai its.toArray) he ⟨hit, tup⟩ hi hne ae fun v h' tk hv ho ⟨hit', _⟩ hT _ hk => ?_
    have ev : v = u := by
      have hv' : its[i]? = some v := by simpa using hv
      rw [hu] at hv'
      exact (Option.some.inj hv').symm
    subst ev
    refine ⟨_, rfl, wpAny_letOwnedTupleGo_enum (s := { s with heap := h', toks := tk + 1 }) ho fun h2 he2 sb => ?_⟩
    have onT : h2.get? s.heap.objs.size = some { cls := .type "tuple", data := .seq #[.int i tk, v] } := (sb.2 _ (Nat.ne_of_gt lte)).trans hT
    obtain ⟨G, eG⟩ : ∃ G, G = upd H s.heap.objs.size (.tup [.int (i : Nat), x]) := ⟨_, rfl⟩
    have fit : ObjOk X.prog X.w G h2 s.heap.objs.size (.tup [.int (i : Nat), x]) := ⟨by show 2 ≤ sizeLine; decide, [.int i tk, v], .cons ⟨_, rfl⟩ (.cons ru .nil), _, onT, rfl, _, rfl⟩
    have J : Inv X pins σ G { s with heap := h2, toks := tk + 1 } := by
      rw [eG] at fit ⊢
      refine I.turnedNew (ch := [e, it]) (fun b ob hb z => ?_) hf (Nat.le_refl _) fit
      have b1 : b ≠ e := fun y => hb (by simp [y])
      have b2 : b ≠ it := fun y => hb (by simp [y])
      exact (sb.2 b b1).trans (hk b ob b1 b2 z)
    refine ⟨.ref s.heap.objs.size, G, J, rfl, ⟨_, x, rfl, I.hok.fresh (Nat.le_refl _), eG, fun ys hy => by rw [I.tuple_inj hy hq]; exact hx⟩, ⟨⟨v, ?_⟩, hit'.at fun o z => (sb.2 it hne.symm).trans z, hne⟩, fun b hb => ?_⟩
    · have : ((i + 1 : Nat) : Int) = (i : Int) + 1 := by omega
      rw [this]
      exact he2
    · have lt : b < s.heap.objs.size := by
        rcases List.mem_cons.mp hb with rfl | hb
        · exact lte
        · rw [List.mem_singleton.mp hb]
          exact lti
      rw [eG, upd_ne (Nat.ne_of_lt lt)]
      exact (hf b hb).1
  done := by
    intro X hP hw hK hc i pins s σ H E I hf st hg
    subst hP hw hK
    obtain ⟨⟨old, he⟩, hit, hne⟩ := st
    obtain ⟨xs, hq, hx⟩ := hg
    obtain ⟨its, rv, pt, _⟩ := I.tuple hq
    have tup : s.heap.IsTuple a its.toArray := by
      obtain ⟨o, g, c, n, d⟩ := pt
      exact ⟨o, g, c, n, d⟩
    obtain ⟨f0, f1, _, f3, f4, f5⟩ := hf it (by simp)
    have none_ : its.toArray[i]? = none := by
      have hl := rv.length
      simp
      omega
    have D : Draws X.prog X.w X.A.in1 it [it, a] i (fun _ _ => True) (fun j h => j = i ∧ h.IsTupleIter it a i ∧ h.IsTuple a its.toArray) :=
      { live := fun _ _ z => let ⟨o, ho, _⟩ := z.2.1; ⟨o, ho⟩
        frame := fun _ _ _ z k => ⟨z.1, z.2.1.at fun o y => k it (by simp) o y, z.2.2.at fun o y => k a (by simp) o y⟩
        item := fun j s Q E lt z _ => absurd z.1 (Nat.ne_of_lt lt)
        done := fun s Q E z hE => wpAny_nextOf_tuple_end (show X.A.in1.handled = none from I.ok.hd hc) z.2.1 z.2.2 none_ hE }
    exact wpAny_pyNext_enum_endD D he ⟨rfl, hit, tup⟩ fun h' eb => ⟨rfl, I.turned (t' := s.toks) (fun b o hb z => eb b o hb z) f0 f1 f3 f4 f5⟩
  self := fun A i s Q E st h => by
    obtain ⟨⟨_, he⟩, _⟩ := st
    exact wpAny_pyIter_enum he h
def iEnumT (K : PySem.W.Frag) (ta : TA) : TI := fun σ H R => ta σ H fun vs G => ∃ a xs, vs = [.ref a] ∧ SqT K G a xs ∧ R (ItN K a) G
theorem pi_enumT {X : Cx} {e : Expr} {ta : TA} {p pos tpos : Pos} {elts : List Expr} {kk : Nat} (hm : X.mg "enumerate" = none) (ha : PA X [e] ta) (hg : Gl X "enumerate" := by rfl) (hs : starEach [e] X.env = [(false, eval e X.env)] := by rfl) :
    PI X (.Tuple elts kk tpos) (.Call (.Name "enumerate" p) [e] [] pos) (iEnumT X.K ta) := by
  constructor
  intro pins s σ H R I h
  refine Call_ (ld_blt I hg hm boot_enumerate (PyProof.Rows.callWith_type1 (thn (ha.run pos pins s σ H _ I h) fun us s1 z => ?_) hs rfl))
  obtain ⟨vs, H1, J, r1, a, xs, rfl, hq, q⟩ := z
  obtain ⟨u, rfl, ru⟩ := vals1 r1
  cases ru
  obtain ⟨its, _, ⟨o, g, c, n, d⟩, _⟩ := J.tuple hq
  refine call_enumT ⟨o, g, c, n, d⟩ fun h' he hit hk => wpAny_pyIter_enum he ?_
  have I2 : Inv X pins σ H1 { s1 with heap := h' } := J.kept (t' := s1.toks) hk
  refine ⟨s1.heap.objs.size + 1, [s1.heap.objs.size + 1, s1.heap.objs.size], _, _, H1, rfl, I2, turnN a (s1.heap.objs.size + 1) s1.heap.objs.size, ⟨⟨.none, he⟩, hit, Nat.succ_ne_self _⟩, fun b hb => ?_, q⟩
  have le : s1.heap.objs.size ≤ b := by
    rcases List.mem_cons.mp hb with rfl | hb
    · exact Nat.le_succ _
    · rw [List.mem_singleton.mp hb]
      exact Nat.le_refl _
  exact J.fpOk le (J.hok.fresh le)
/-- its walk -/
theorem walkN {K : PySem.W.Frag} {a : Addr} {xs : List V} : Walk (ItN K a) xs.length (fun H => SqT K H a xs) (fun i H v G => ∃ p x, v = .ref p ∧ H p = none ∧ G = upd H p (.tup [.int (i : Nat), x]) ∧ xs[i]? = some x) :=
  ⟨fun i _ hi q => ⟨xs, xs[i], q, by simp [hi]⟩, fun _ q => ⟨xs, q, Nat.le_refl _⟩, fun _ _ _ _ _ q ⟨p, x, e1, e2, e3, e4⟩ => ⟨p, x, e1, e2, e3, e4 xs q⟩⟩
end SL
set_option Elab.async false
set_option linter.all false
set_option maxRecDepth 100000
set_option maxHeartbeats 4000000
/-! k41: scaled -/
namespace KM
open PySem PySem.Spec PyProof.Rows L2 GxR NdefX GA SL ZN
abbrev s_scaled : Stmt := top 6
theorem sc_scaled : FnScope ["ratios", "bottom", "_", "part", "top"] ["ratios"] (defScope s_scaled) := ⟨rfl, rfl, rfl, by decide +kernel, rfl, by decide +kernel, by decide +kernel⟩
abbrev rowR (rs : List (Int × Int)) : PyData := .tuple (rs.map fun r => rat r.1 r.2)
/-- the least common multiple of the bottoms -/
def lcms (rs : List (Int × Int)) : Nat := (rs.map fun r => r.2.natAbs).foldl Nat.lcm 1
theorem lcms_snoc (rs : List (Int × Int)) (r : Int × Int) : lcms (rs ++ [r]) = Nat.lcm (lcms rs) r.2.natAbs := by
  unfold lcms
  rw [List.map_append, List.foldl_append]
  rfl
theorem foldl_dvd : ∀ (bs : List Nat) (a : Nat), a ∣ bs.foldl Nat.lcm a
  | [], a => Nat.dvd_refl a
  | b :: bs, a => Nat.dvd_trans (Nat.dvd_lcm_left a b) (foldl_dvd bs (Nat.lcm a b))
theorem foldl_dvd_mem : ∀ {bs : List Nat} {a b : Nat}, b ∈ bs → b ∣ bs.foldl Nat.lcm a
  | c :: bs, a, b, h => by
    rcases List.mem_cons.mp h with rfl | h
    · exact Nat.dvd_trans (Nat.dvd_lcm_right a b) (foldl_dvd bs _)
    · exact foldl_dvd_mem (bs := bs) (a := Nat.lcm a c) h
theorem foldl_pos : ∀ {bs : List Nat} {a : Nat}, 0 < a → (∀ b ∈ bs, 0 < b) → 0 < bs.foldl Nat.lcm a
  | [], a, h, _ => h
  | b :: bs, a, h, hb => foldl_pos (bs := bs) (a := Nat.lcm a b) (Nat.lcm_pos h (hb b (List.mem_cons_self ..))) fun c hc => hb c (List.mem_cons_of_mem _ hc)
theorem lcms_pos {rs : List (Int × Int)} (h : ∀ r ∈ rs, 1 ≤ r.2) : 0 < lcms rs := by
  refine foldl_pos (by decide) fun b hb => ?_
  obtain ⟨r, hr, rfl⟩ := List.mem_map.mp hb
  have := h r hr
  omega
theorem lcms_mem {rs : List (Int × Int)} {r : Int × Int} (h : r ∈ rs) : r.2.natAbs ∣ lcms rs := foldl_dvd_mem (List.mem_map_of_mem (f := fun r : Int × Int => r.2.natAbs) h)
theorem lcms_take (rs : List (Int × Int)) (i : Nat) : lcms (rs.take i) ∣ lcms rs := by
  have e : rs = rs.take i ++ rs.drop i := (List.take_append_drop i rs).symm
  rw [show lcms rs = lcms (rs.take i ++ rs.drop i) from congrArg lcms e]
  unfold lcms
  rw [List.map_append, List.foldl_append]
  exact foldl_dvd _ _
/-- the ratios over one bottom -/
def tops (rs : List (Int × Int)) : List Int := rs.map fun r => r.1 * ((lcms rs : Int) / r.2)
def sp_scaled (T : List Addr) : Sp := fun vs H Q _ => ∃ (M : List Addr) (v : V) (rs : List (Int × Int)), vs = [v] ∧ Dv M H v (rowR rs) ∧ rs.length ≤ 4000 ∧ (∀ r ∈ rs, 1 ≤ r.2) ∧ lcms rs < 1073741824 ∧ Tabs T H ∧ (∀ b ∈ M, H b ≠ none) ∧
  ∀ v' H', Go T [] H H' → Tabs T H' → Dv M H' v' (.tuple [.list ((tops rs).map .int), .int (lcms rs : Nat)]) → Q v' H'
section
variable {P : Program} {w : World} {K : PySem.W.Frag} {mg : Str → Option Value} {base : Heap} {f : Addr} {fd : FuncData} {T : List Addr}
theorem ok_scaled (F : Fun K "scaled" "scaled" s_scaled f fd) (C : Cn mg) : FnOk P w K mg base CX0 1 f fd ["ratios"] (sp_scaled T) := by
  refine F.ok sc_scaled (fun vs H Q E h => ?_) (fun cdv A outer s H vs Q E hr h => ?_)
  · obtain ⟨_, _, _, rfl, _⟩ := h
    rfl
  obtain ⟨M, v, rs, rfl, hv, hl, hb, hB, ht, hM, q⟩ := h
  have nd := sc_scaled.nd
  have nn : ∀ b : Addr, b ∉ ([] : List Addr) := fun b => List.not_mem_nil
  refine ⟨_, pss_cons (ps_set (i := 1) nd rfl (.inr rfl) pe_int)
    (pss_cons (ps_for PassesOwn.never rfl (pi_tup (pv 0)) (pg_tup rfl (pgs_cons (pg_name (i := 2) nd rfl (.inl rfl)) (pgs_cons (pg_name (i := 3) nd rfl (.inl rfl)) pgs_nil)))
      (pss_one (ps_set (i := 1) nd rfl (.inr rfl) (pe_callBfun cr_lcm rfl C.lcm (pa_cons (pv 1) (pa_cons (pv 3) pa_nil))))))
    (pss_one (ps_ret (pe_tup (pa_cons (pe_lc (own := [("top", 4), ("part", 3)]) (g := gTup K 2 (gCons (gName 4) (gCons (gName 3) gNil))) (tt := tYes) rfl nd (pi_tup (pv 0))
        (blkOk_by (own := [("top", 4), ("part", 3)]) (N := ["ratios", "bottom", "_", "part", "top"]) (sc := defScope s_scaled) (by decide +kernel))
        (fun _ _ _ _ _ => pg_tup rfl (pgs_cons (pg_name (i := 4) nd rfl (.inl rfl)) (pgs_cons (pg_name (i := 3) nd rfl (.inl rfl)) pgs_nil))) (fun _ _ _ _ _ => pts_nil)
        (fun _ _ _ _ _ => pe_op op_mul (pv 4) (pe_op op_fdiv (pv 1) (pv 3)))) (pa_cons (pv 1) pa_nil)))))), ?_⟩
  obtain ⟨a, xs, rfl, ea, _, dx⟩ := dv_tup hv
  have lx := dx.length
  rw [List.length_map] at lx
  refine ⟨_, rfl, a, rfl, ⟨_, SqT.of ea⟩, ?_⟩
  have p0 := lcms_pos hb
  refine for_it (n := xs.length) walk_tup (fun i σ H' => H' = H ∧ ∃ p2 p3, σ = [some (.ref a), some (.int (lcms (rs.take i) : Nat)), p2, p3, none]) ⟨rfl, none, none, rfl⟩
    (fun i σ H' _ ⟨e, _⟩ => by rw [e]; exact SqT.of ea) (fun i x σ H3 H4 hi h y => ?_) (fun σ H3 h => ?_)
  · obtain ⟨rfl, p2, p3, rfl⟩ := h
    obtain ⟨rfl, ex⟩ := y
    obtain ⟨d, ed, hx⟩ := dx.get ex
    rw [List.getElem?_map] at ed
    obtain ⟨⟨tp, bt⟩, er, rfl⟩ := Option.map_eq_some_iff.mp ed
    obtain ⟨r, vx, vy, rfl, er', nr, hvx, hvy⟩ := dv_pair hx
    cases hvx
    cases hvy
    have hm : (tp, bt) ∈ rs := List.mem_of_getElem? er
    have hb1 : 1 ≤ bt := hb _ hm
    have l1 : lcms (rs.take i) ≤ lcms rs := Nat.le_of_dvd p0 (lcms_take rs i)
    have l2 : bt.natAbs ≤ lcms rs := Nat.le_of_dvd p0 (lcms_mem hm)
    have e3 : lcms (rs.take (i + 1)) = Nat.lcm (lcms (rs.take i)) bt.natAbs := by
      rw [List.take_add_one, er]
      exact lcms_snoc _ _
    refine ⟨r, _, rfl, SqT.of er', rfl, _, _, rfl, _, _, rfl, rfl, ?_⟩
    refine ⟨_, rfl, _, rfl, lcms (rs.take i), bt.natAbs, by rw [Int.natAbs_of_nonneg (by omega)], by omega, by omega, ?_⟩
    exact ⟨rfl, some (.int tp), some (.int bt), by rw [e3]; rfl⟩
  · obtain ⟨rfl, p2, p3, rfl⟩ := h
    rw [lx, List.take_length]
    refine ⟨_, rfl, a, rfl, ⟨_, SqT.of ea⟩, fun L hL => ?_⟩
    refine lc_map (T := T) (fun j => V.int ((tops rs).getD j 0)) (walk_tup (xs := xs)) (fun H' g' => SqT.of (g'.tup ea (nn _))) ht Go.refl hL (by rw [sizeLine_eq]; omega) (fun j v H6 H7 R hj g6 t6 y hR => ?_) (fun H6 g6 t6 ed6 => ?_)
    · obtain ⟨rfl, ey⟩ := y
      obtain ⟨d, ed, hx⟩ := (dx.go g6.of0).get ey
      rw [List.getElem?_map] at ed
      obtain ⟨⟨tp, bt⟩, er, rfl⟩ := Option.map_eq_some_iff.mp ed
      obtain ⟨r, vx, vy, rfl, er', nr, hvx, hvy⟩ := dv_pair hx
      cases hvx
      cases hvy
      have hm : (tp, bt) ∈ rs := List.mem_of_getElem? er
      have hb1 : 1 ≤ bt := hb _ hm
      have l2 : bt.natAbs ≤ lcms rs := Nat.le_of_dvd p0 (lcms_mem hm)
      have d1 : 0 ≤ (lcms rs : Int) / bt := Int.ediv_nonneg (by omega) (by omega)
      have d2 : (lcms rs : Int) / bt ≤ lcms rs := Int.ediv_le_self _ (by omega)
      have et : (tops rs).getD j 0 = tp * ((lcms rs : Int) / bt) := by
        rw [List.getD_eq_getElem?_getD, tops, List.getElem?_map, er]
        rfl
      rw [et] at hR
      refine ⟨r, _, rfl, SqT.of er', rfl, _, _, rfl, _, _, rfl, rfl, rfl, _, rfl, _, rfl, _, rfl, _, _, rfl, rfl, ⟨by omega, by omega⟩, _, _, rfl, rfl, .inr ⟨by show -(2 ^ 64) < (lcms rs : Int) / bt; omega, by show (lcms rs : Int) / bt < 2 ^ 64; omega⟩, ?_⟩
      exact hR _ Go.refl
    · refine ⟨_, rfl, by show 2 ≤ sizeLine; decide, fun p hp => ?_⟩
      have u := Go.new (T := T) (M := []) (o := .tup [V.ref L, V.int (lcms rs : Nat)]) hp
      refine q _ _ (g6.trans u) ((g6.trans u).tb ht) ?_
      have em : (List.range xs.length).map (fun j => V.int ((tops rs).getD j 0)) = (tops rs).map V.int := by
        refine List.ext_getElem? fun j => ?_
        rw [List.getElem?_map, List.getElem?_map]
        have lt : (tops rs).length = xs.length := by rw [tops, List.length_map, lx]
        by_cases hj : j < xs.length
        · rw [List.getElem?_range hj, List.getElem?_eq_getElem (show j < (tops rs).length by omega)]
          simp [List.getD_eq_getElem?_getD, List.getElem?_eq_getElem (show j < (tops rs).length by omega)]
        · rw [List.getElem?_eq_none (by rw [List.length_range]; omega), List.getElem?_eq_none (by omega)]
          rfl
      rw [em] at ed6
      exact .tup upd_same (fun z => hM p z (g6.al p hp)) (.cons (.lst (u.lst ed6 (nn _)) (fun z => hM L z hL) (DvAll.ints _)) (.cons (.int _) .nil))
end
end KM
set_option Elab.async false
set_option linter.all false
set_option maxRecDepth 100000
set_option maxHeartbeats 4000000
/-! own words, 20: a dict comprehension of two clauses without tests -/
namespace SL
open PySem PySem.Spec PyProof.Rows L2 GxR NdefX GA
abbrev two (kx vx t0 i0 t1 i1 : Expr) (sc : Scope) (pos : Pos) : Expr := .DictComp kx vx [⟨t0, i0, [], 0⟩, ⟨t1, i1, [], 0⟩] sc pos
section
variable {P : Program} {w : World} {A : Around} {R : Result → Shared → Prop} {s : Shared} {kx vx t0 i0 t1 i1 : Expr} {sc : Scope} {pos : Pos} {it : Value} {D : Addr} {env : Env}
abbrev Nv {α : Type} (P : Program) (w : World) (A : Around) (t : Sem α) (Q : α → Shared → Prop) (s : Shared) : Prop := wpAny (model P w) A t Q (fun _ _ => False) s
/-- the first clause's loop -/
theorem two_out (hs : ∀ x, foldedSetIterable i1 env x = pure x) (I : Nat → Shared → Prop)
    (turn : ∀ n s, I n s → Nv P w A (pyNext it) (fun r s1 => match r with
      | none => R (.ok .next) s1
      | some v => Nv P w A (letOwnedTupleGo t0 it v) (fun _ s2 => Nv P w A (assign t0 env v) (fun _ s3 => Nv P w A (eval i1 env) (fun x s4 => Nv P w A (pyIter x) (fun j s5 =>
          codeAny (model P w) A (.compStart (two kx vx t0 i0 t1 i1 sc pos) 1 j (.ref D) env) (fun r s' => match r with
            | .ok _ => ∃ m, m < n ∧ I m s'
            | .error _ => False) s5) s4) s3) s2) s1) s) (n : Nat) (h : I n s) : codeAny (model P w) A (.compLoop (two kx vx t0 i0 t1 i1 sc pos) 0 it (.ref D) env) R s := by
  refine codeAny_loop rfl I (fun n s hI => ?_) n h
  show wpAny _ A ((compTurn (two kx vx t0 i0 t1 i1 sc pos) 0 it (.ref D) env).onRaise (fun x => do noteFrame x env; theTreesLotGoes x)) _ _ s
  refine wpAny_noted ?_
  have e : compTurn (two kx vx t0 i0 t1 i1 sc pos) 0 it (.ref D) env = (do
      standAt i0.pos
      let r ← pyNext it
      match r with
      | none => pure (.done .next)
      | some v => do
        letOwnedTupleGo t0 it v
        assign t0 env v
        let ok ← forIn ([] : List Expr) true fun c r => if r = true then do let ok ← isTrue c env (eval c env); pure (ForInStep.yield ok) else pure (ForInStep.yield r)
        if ok = true then do
          let x ← eval i1 env
          standAt i1.pos
          let x ← foldedSetIterable i1 env x
          let _ ← runOwn (.compStart (two kx vx t0 i0 t1 i1 sc pos) 1 (← holding [x] (pyIter x)) (.ref D) env) env
          again (.compLoop (two kx vx t0 i0 t1 i1 sc pos) 0 it (.ref D) env)
        else again (.compLoop (two kx vx t0 i0 t1 i1 sc pos) 0 it (.ref D) env)) := by rfl
  rw [e]
  refine wpAny_bind (wpAny_standAt (wpAny_bind (thnF (turn n s hI) fun r s1 h1 => ?_)))
  cases r with
  | none => exact wpAny_pure h1
  | some v =>
    refine wpAny_bind (thnF h1 fun _ s2 h2 => wpAny_bind (thnF h2 fun _ s3 h3 => wpAny_bind (wpAny_tests_nil ?_)))
    rw [if_pos rfl]
    refine wpAny_bind (thnF h3 fun x s4 h4 => wpAny_bind (wpAny_standAt (wpAny_bind (wpAny_of_eq (hs x) (wpAny_bind (wpAny_holding (thnF h4 fun j s5 h5 => ?_)))))))
    refine wpAny_bind (wpAny_runOwn ?_)
    rw [Around.mark_none]
    refine codeAny_mono h5 fun r s' hr => ?_
    cases r with
    | ok f => exact wpAny_pure ⟨rfl, hr⟩
    | error e => exact hr.elim
/-- the second clause's loop -/
theorem two_in (I : Nat → Shared → Prop)
    (turn : ∀ n s, I n s → Nv P w A (pyNext it) (fun r s1 => match r with
      | none => R (.ok .next) s1
      | some v => Nv P w A (letOwnedTupleGo t1 it v) (fun _ s2 => Nv P w A (assign t1 env v) (fun _ s3 => Nv P w A (eval kx env) (fun u s4 => Nv P w A (eval vx env) (fun z s5 => Nv P w A (dictSet D u z) (fun _ s6 => ∃ m, m < n ∧ I m s6) s5) s4) s3) s2) s1) s)
    (n : Nat) (h : I n s) : codeAny (model P w) A (.compLoop (two kx vx t0 i0 t1 i1 sc pos) 1 it (.ref D) env) R s := by
  refine codeAny_loop rfl I (fun n s hI => ?_) n h
  show wpAny _ A ((compTurn (two kx vx t0 i0 t1 i1 sc pos) 1 it (.ref D) env).onRaise (fun x => do noteFrame x env; theTreesLotGoes x)) _ _ s
  refine wpAny_noted ?_
  have e : compTurn (two kx vx t0 i0 t1 i1 sc pos) 1 it (.ref D) env = (do
      standAt i1.pos
      let r ← pyNext it
      match r with
      | none => pure (.done .next)
      | some v => do
        letOwnedTupleGo t1 it v
        assign t1 env v
        let ok ← forIn ([] : List Expr) true fun c r => if r = true then do let ok ← isTrue c env (eval c env); pure (ForInStep.yield ok) else pure (ForInStep.yield r)
        if ok = true then do
          (do
            let u ← eval kx env
            let z ← holding [u] (eval vx env)
            standAt { kx.pos with endLine := vx.pos.endLine, endCol := vx.pos.endCol }
            holding [u, z] (dictSet D u z))
          again (.compLoop (two kx vx t0 i0 t1 i1 sc pos) 1 it (.ref D) env)
        else again (.compLoop (two kx vx t0 i0 t1 i1 sc pos) 1 it (.ref D) env)) := by rfl
  rw [e]
  refine wpAny_bind (wpAny_standAt (wpAny_bind (thnF (turn n s hI) fun r s1 h1 => ?_)))
  cases r with
  | none => exact wpAny_pure h1
  | some v =>
    refine wpAny_bind (thnF h1 fun _ s2 h2 => wpAny_bind (thnF h2 fun _ s3 h3 => wpAny_bind (wpAny_tests_nil ?_)))
    rw [if_pos rfl]
    refine wpAny_bind (wpAny_bind (thnF h3 fun u s4 h4 => wpAny_bind (wpAny_holding (thnF h4 fun z s5 h5 => wpAny_bind (wpAny_standAt (wpAny_holding (thnF h5 fun _ s6 h6 => wpAny_pure ⟨rfl, h6⟩)))))))
theorem two_start (h0 : codeAny (model P w) A (.compLoop (two kx vx t0 i0 t1 i1 sc pos) 1 it (.ref D) env) R s)
    (h : Nv P w A (pyIter it) (fun j s' => codeAny (model P w) A (.compLoop (two kx vx t0 i0 t1 i1 sc pos) 1 j (.ref D) env) R s') s) :
    codeAny (model P w) A (.compStart (two kx vx t0 i0 t1 i1 sc pos) 1 it (.ref D) env) R s := by
  refine codeAny_of_tree ?_
  show wpAny _ _ ((compStart (two kx vx t0 i0 t1 i1 sc pos) 1 it (.ref D) env).onRaise (fun x => do noteFrame x env; standAt theWindowsPlace)) _ _ s
  refine wpAny_notedAt ?_
  unfold compStart
  show wpAny _ _ (ask >>= _) _ _ s
  refine wpAny_bind (wpAny_askSetting (wpAny_ite ?_))
  split
  · first
      | exact wpAny_pure ⟨rfl, h0⟩
      | exact wpAny_bind (wpAny_pure (wpAny_pure ⟨rfl, h0⟩))
  · refine wpAny_bind (wpAny_rule ?_)
    first
      | exact wpAny_bind (wpAny_standAt (wpAny_bind (thnF h fun _ _ z => wpAny_pure ⟨rfl, z⟩)))
      | (show wpAny _ _ (standAt i1.pos >>= _) _ _ s; exact wpAny_bind (wpAny_standAt (wpAny_bind (thnF h fun _ _ z => wpAny_pure ⟨rfl, z⟩))))
end
section
/-- where a block's loop is: its iterator stands at its i-th turn, what is tracked is as W has it -/
def Sit (Y : Cx) (pins : List (Addr × Obj)) (σ : L2.St) (tn : Nat → Heap → Prop) (fp : List Addr) (W : Nat → Nat → Hp → Prop) (n : Nat) (s : Shared) : Prop := ∃ i H, Inv Y pins σ H s ∧ tn i s.heap ∧ (∀ b ∈ fp, H b = none) ∧ W i n H
/-- one turn of it, up to the store; Bd: what the store has to end in -/
theorem sit_turn {Y : Cx} {pins : List (Addr × Obj)} {σ : L2.St} {tg : Expr} {J : It} {fp : List Addr} {it : Addr} {tn : Nat → Heap → Prop} {g : TG} {W : Nat → Nat → Hp → Prop} {QQ : Hp → Prop} {Bd : (Hp → Prop) → L2.St → Hp → Prop} {vs : List Nat}
    (hc : Y.calm = true) (hx : Y.xe = fun _ _ => False) (T : Turn Y.prog Y.w Y.K tg J fp it tn) (pg : PG Y tg g) (stat : ∀ {σ' : L2.St} {H' : Hp} {s' : Shared}, Inv Y pins σ' H' s' → (∀ b ∈ fp, H' b = none) → ∀ b ∈ fp, FpOk Y pins H' b)
    (turn : ∀ i m H, W i m H → (J.stop i H ∧ QQ H) ∨ (J.go i H ∧ ∃ Nx : Hp → Prop, (∀ H', Nx H' → ∃ m', m' < m ∧ W (i + 1) m' H') ∧ ∀ x H', J.yld i H x H' → g x σ H' fun σ2 H2 => wipe σ2 vs = σ ∧ Bd Nx σ2 H2)) {n : Nat} {s : Shared} (h : Sit Y pins σ tn fp W n s) :
    Nv Y.prog Y.w Y.A (pyNext (.ref it)) (fun r s1 => match r with
      | none => ∃ H, Inv Y pins σ H s1 ∧ QQ H
      | some v => Nv Y.prog Y.w Y.A (letOwnedTupleGo tg (.ref it) v) (fun _ s2 => Nv Y.prog Y.w Y.A (assign tg Y.env v) (fun _ s3 => ∃ (Nx : Hp → Prop) (σ3 : L2.St) (H3 : Hp) (ps : List (Addr × Obj)), Inv Y (pins ++ ps) σ3 H3 s3 ∧ wipe σ3 vs = σ ∧ Bd Nx σ3 H3 ∧
          ∀ (σ' : L2.St) (H' : Hp) (s' : Shared), Inv Y (pins ++ ps) σ' H' s' → σ.length = σ'.length → (∀ (j : Nat) v, σ[j]? = some (some v) → σ'[j]? = some (some v)) → Nx H' → ∃ m, m < n ∧ Sit Y pins σ tn fp W m s') s2) s1) s := by
  obtain ⟨i, H, I, st, hn, hw⟩ := h
  rcases turn i n H hw with ⟨stop, q⟩ | ⟨go, Nx, hNx, step⟩
  · refine thnF (T.done Y rfl rfl rfl hc i pins s σ H (fun _ _ => False) I (stat I hn) st stop) fun r s1 ⟨e, I1⟩ => ?_
    subst e
    exact ⟨H, I1, q⟩
  · refine thnF (T.item Y rfl rfl rfl hc i pins s σ H (fun _ _ => False) I (stat I hn) st go) fun r s1 ⟨u, e, h1⟩ => ?_
    subst e
    refine thnF h1 fun _ s2 ⟨x, H2, I2, rx, y, st2, n2⟩ => ?_
    have run := pg.run _ s2 σ H2 x u _ (I2.pinned (stat I2 n2) (T.obj _ _ st2)) rx (step x H2 y)
    rw [hx] at run
    refine thnF run fun _ s3 ⟨σ3, H3, I3, hw3, b3⟩ => ⟨Nx, σ3, H3, pinsAt fp s2.heap, I3, hw3, b3, fun σ' H' s' I' hl hk nx => ?_⟩
    obtain ⟨m', lt, w'⟩ := hNx H' nx
    have held : ∀ b ∈ fp, ∀ o, s2.heap.get? b = some o → s'.heap.get? b = some o ∧ H' b = none := fun b hb o e => by
      have z := I'.pin (b, o) (List.mem_append_right _ (List.mem_append_right _ (mem_pinsAt hb e)))
      exact ⟨z.1, z.2.1⟩
    refine ⟨m', lt, i + 1, H', I'.unpinned.weak hl hk, T.keep _ _ _ st2 fun b hb o e => (held b hb o e).1, fun b hb => ?_, w'⟩
    obtain ⟨o, e, _⟩ := T.obj _ _ st2 b hb
    exact (held b hb o e).2
end
section
variable {X : Cx}
/-- {k: v for t0 in i0 for t1 in i1}: D is the new dict; vs: the block's names, vs1: those of the second target -/
def tDc2 (wi : TI) (g : TG) (wi1 : TI) (g1 : TG) (tk tv : TE) (vs vs1 : List Nat) : TE := fun σ H Q => wi σ H fun J H1 => ∀ D, H1 D = none → ∃ W : Nat → Nat → Hp → Prop, (∃ m, W 0 m (upd H1 D (.dK []))) ∧ ∀ i m H, W i m H →
  (J.stop i H ∧ Q (.ref D) H) ∨ (J.go i H ∧ ∃ Nx : Hp → Prop, (∀ H', Nx H' → ∃ m', m' < m ∧ W (i + 1) m' H') ∧ ∀ x H', J.yld i H x H' → g x (wipe σ vs) H' fun σ2 H2 => wipe σ2 vs = wipe σ vs ∧
    wi1 σ2 H2 fun J1 H3 => ∃ W1 : Nat → Nat → Hp → Prop, (∃ m1, W1 0 m1 H3) ∧ ∀ j k H, W1 j k H →
      (J1.stop j H ∧ Nx H) ∨ (J1.go j H ∧ ∃ Nx1 : Hp → Prop, (∀ H', Nx1 H' → ∃ k', k' < k ∧ W1 (j + 1) k' H') ∧ ∀ y H', J1.yld j H y H' → g1 y (wipe σ2 vs1) H' fun σ4 H4 => wipe σ4 vs1 = wipe σ2 vs1 ∧
        tk σ4 H4 fun u H5 => tv σ4 H5 fun z H6 => ∃ kvs key, u = kV key ∧ H6 D = some (.dK kvs) ∧ kvs.length < sizeLine ∧ Nx1 (upd H6 D (.dK (putK kvs key z)))))
theorem pe_dc2 {kx vx t0 i0 t1 i1 : Expr} {scope : Scope} {own : List (Str × Nat)} {vs1 : List Nat} {pos : Pos} {wi wi1 : TI} {g g1 : TG} {tk tv : TE} (hc : X.calm = true) (hN : X.N.Nodup) (hi : PI X t0 i0 wi) (ok : BlkOk X.N X.env.scope scope own) (hv : ∀ i ∈ vs1, i ∈ own.map (·.2))
    (hg : ∀ s H C cl fp, PG (X.blk s H scope (compEnvC scope cl C X.env) fp) t0 g) (hi1 : ∀ s H C cl fp, PI (X.blk s H scope (compEnvC scope cl C X.env) fp) t1 i1 wi1) (hg1 : ∀ s H C cl fp, PG (X.blk s H scope (compEnvC scope cl C X.env) fp) t1 g1)
    (hk : ∀ s H C cl fp, PE (X.blk s H scope (compEnvC scope cl C X.env) fp) kx tk) (he : ∀ s H C cl fp, PE (X.blk s H scope (compEnvC scope cl C X.env) fp) vx tv)
    (hs : ∀ x, foldedSetIterable i0 X.env x = pure x := by intro _; rfl) (hs1 : ∀ env x, foldedSetIterable i1 env x = pure x := by intro _ _; rfl) : PE X (.DictComp kx vx [⟨t0, i0, [], 0⟩, ⟨t1, i1, [], 0⟩] scope pos) (tDc2 wi g wi1 g1 tk tv (own.map (·.2)) vs1) := by
  constructor
  intro pins s σ H Q I h
  rw [arm_eval_DictComp]
  have hfree : ∀ y ∈ scope.names, y.2 = .free → ∃ c, X.env.cells.lookup y.1 = some c := fun y hy e => (ok.free y hy e).elim (fun k => I.ok.has _ (.inl k)) fun k => I.ok.has _ (.inr k)
  refine wpAny_comprehension_free rfl hs (closure_ok hfree) ok.kind (fun y hy e => by rw [ok.uniq y hy, e]) (thn (hi.run pins s σ H _ I h) fun xv s1 hx => thn hx fun itv s2 h2 => ?_)
  obtain ⟨it, fp, tn, J, H2, rfl, I2, T, st2, f2, q⟩ := h2
  refine wpAny_newObj_type (newEnv_comp ?_)
  obtain ⟨D, hD⟩ : ∃ D, D = s2.heap.objs.size := ⟨_, rfl⟩
  have hDn : H2 D = none := I2.hok.fresh (Nat.le_of_eq hD.symm)
  obtain ⟨W, ⟨m0, w0⟩, turn⟩ := q D hDn
  rw [← hD]
  obtain ⟨H3, hH3⟩ : ∃ H3, H3 = upd H2 D (.dK []) := ⟨_, rfl⟩
  obtain ⟨s3, hs3⟩ : ∃ s3 : Shared, s3 = { s2 with heap := s2.heap.push { cls := .type "dict", data := .dict #[] } } := ⟨_, rfl⟩
  have h3 : s3.heap = s2.heap.push { cls := .type "dict", data := .dict #[] } := by rw [hs3]
  have I3 : Inv X pins σ H3 s3 := by
    rw [hs3, hH3]
    refine I2.laid (t' := s2.toks) (fun b o e => Heap.get?_push_of_some _ e) (Nat.le_of_eq hD.symm) ?_
    rw [hD]
    exact dk_empty s2.heap I2.big
  have f3 : ∀ b ∈ fp, FpOk X pins H3 b ∧ b < s3.heap.objs.size := fun b hb => by
    obtain ⟨o, e, _⟩ := T.obj _ _ st2 b hb
    have lt := Heap.lt_size e
    refine ⟨⟨?_, (f2 b hb).2⟩, by rw [h3, Heap.size_push]; exact Nat.lt_succ_of_lt lt⟩
    rw [hH3, upd_ne (by rw [hD]; exact Nat.ne_of_lt lt)]
    exact (f2 b hb).1
  have st3 : tn 0 s3.heap := T.keep _ _ _ st2 fun b _ o e => by rw [h3]; exact Heap.get?_push_of_some _ e
  have I4 := block_start I3 ok hN f3
  rw [← hs3]
  rw [← hH3] at w0
  obtain ⟨ce, hce⟩ : ∃ ce, ce = compEnvC scope (cellsFrom (s3.heap.objs.size + 1) scope.names (cloFrom X.env.cells scope.names [])) s3.heap.objs.size X.env := ⟨_, rfl⟩
  have pg : PG (X.blk s3 H3 scope ce fp) t0 g := by rw [hce]; exact hg ..
  have pi1 : PI (X.blk s3 H3 scope ce fp) t1 i1 wi1 := by rw [hce]; exact hi1 ..
  have pg1 : PG (X.blk s3 H3 scope ce fp) t1 g1 := by rw [hce]; exact hg1 ..
  have pk : PE (X.blk s3 H3 scope ce fp) kx tk := by rw [hce]; exact hk ..
  have pv : PE (X.blk s3 H3 scope ce fp) vx tv := by rw [hce]; exact he ..
  have cL : ce.locals = s3.heap.objs.size := by rw [hce]; rfl
  rw [← hce] at I4
  show codeAny _ _ (.compStart (two kx vx t0 i0 t1 i1 scope pos) 0 (.ref it) (.ref D) (compEnvC scope (cellsFrom (s3.heap.objs.size + 1) scope.names (cloFrom X.env.cells scope.names [])) s3.heap.objs.size X.env)) _ _
  rw [← hce]
  obtain ⟨s4, hs4⟩ : ∃ s4 : Shared, s4 = { s3 with heap := pushCells (s3.heap.push { cls := .type "dict", data := .dict #[] }) scope.names } := ⟨_, rfl⟩
  rw [← hs4] at I4
  show codeAny _ _ _ _ { s3 with heap := pushCells (s3.heap.push { cls := .type "dict", data := .dict #[] }) scope.names }
  rw [← hs4]
  have st4 : tn 0 s4.heap := T.keep _ _ _ st3 fun b _ o e => by rw [hs4]; exact pushCells_keeps _ _ _ _ (Heap.get?_push_of_some _ e)
  have stat : ∀ {σ' : L2.St} {H' : Hp} {s' : Shared}, Inv (X.blk s3 H3 scope ce fp) [] σ' H' s' → (∀ b ∈ fp, H' b = none) → ∀ b ∈ fp, FpOk (X.blk s3 H3 scope ce fp) [] H' b := fun {σ' H' s'} J' hn b hb => by
    have z := J'.ok.exf b hb
    exact ⟨hn b hb, z.1, J'.ok.exfs b hb, .inl hb, fun x c e => z.2 x c e, fun p hp => by cases hp⟩
  have loop : codeAny (model X.prog X.w) X.A (.compLoop (two kx vx t0 i0 t1 i1 scope pos) 0 (.ref it) (.ref D) ce) (compPost (model X.prog X.w) X.A X.xe none (EP X pins σ Q) (.ref D) s3.heap.objs.size) s4 := by
    refine two_out (hs1 ce) (Sit (X.blk s3 H3 scope ce fp) [] (wipe σ (own.map (·.2))) tn fp W) (fun n s5 S5 => ?_) m0 ⟨0, H3, I4, st4, fun b hb => (f3 b hb).1.1, w0⟩
    refine thnF (sit_turn (Y := X.blk s3 H3 scope ce fp) (vs := own.map (·.2)) hc rfl T pg stat turn S5) fun r s6 h6 => ?_
    cases r with
    | none =>
      obtain ⟨H6, I6, qq⟩ := h6
      have I7 : Inv X pins σ H6 s6 := I3.call' (ch := fp) I6.os I6.base I6.hok I6.bare fun b hb => by
        obtain ⟨⟨_, g1, g2, g3, g4, g5⟩, _⟩ := f3 b hb
        exact ⟨g3, g1, g4, g5⟩
      have nC : H6 s3.heap.objs.size = none := by
        rw [← cL]
        exact I6.free
      obtain ⟨m, hn, _⟩ := I6.loc
      have hn : s6.heap.Ns ce.locals m := hn
      rw [cL] at hn
      obtain ⟨g0, g1, g2, g3, g4, g5⟩ := I3.fpOk (H' := H6) (Nat.le_refl _) nC
      exact ⟨m, hn, fun h'' sb => ⟨.ref D, H6, I7.turned (t' := s6.toks) (fun b o hb e => (sb.2 b hb).trans e) g0 g1 g3 g4 g5, rfl, qq⟩⟩
    | some v =>
      refine thnF h6 fun _ s7 h7 => thnF h7 fun _ s8 ⟨Nx, σ8, H8, ps, I8, hw8, b8, fin⟩ => ?_
      refine thnF (pi1.run _ s8 σ8 H8 _ I8 b8) fun x s9 hx9 => thnF hx9 fun j s10 ⟨it1, fp1, tn1, J1, H10, e1, I10, T1, st10, f10, W1, ⟨m1, w1⟩, turn1⟩ => ?_
      subst e1
      have l8 : (wipe σ (own.map (·.2))).length = σ8.length := by rw [← hw8, wipe_length]
      have loop1 : codeAny (model X.prog X.w) X.A (.compLoop (two kx vx t0 i0 t1 i1 scope pos) 1 (.ref it1) (.ref D) ce) (fun r s' => match r with
          | .ok _ => ∃ m, m < n ∧ Sit (X.blk s3 H3 scope ce fp) [] (wipe σ (own.map (·.2))) tn fp W m s'
          | .error _ => False) s10 := by
        refine two_in (Sit (X.blk s3 H3 scope ce fp) ([] ++ ps) (wipe σ8 vs1) tn1 fp1 W1) (fun k s11 S11 => ?_) m1 ⟨0, H10, I10.weak (wipe_length _ _) (fun _ _ e => (wipe_some e).1), st10, fun b hb => (f10 b hb).1, w1⟩
        refine thnF (sit_turn (Y := X.blk s3 H3 scope ce fp) (vs := vs1) hc rfl T1 pg1 (fun {_ _ _} _ hn b hb => ⟨hn b hb, (f10 b hb).2⟩) turn1 S11) fun r s12 h12 => ?_
        cases r with
        | none =>
          obtain ⟨H12, I12, nx⟩ := h12
          refine fin _ H12 s12 I12 (l8.trans (wipe_length σ8 vs1).symm) (fun j v e => ?_) nx
          rw [← hw8] at e
          obtain ⟨e2, e3⟩ := wipe_some e
          rw [wipe_out fun z => e3 (hv j z)]
          exact e2
        | some v1 =>
          refine thnF h12 fun _ s13 h13 => thnF h13 fun _ s14 ⟨Nx1, σ14, H14, ps1, I14, hw14, b14, fin1⟩ => ?_
          refine thnF (pk.run _ s14 σ14 H14 _ I14 b14) fun u s15 ⟨yk, H15, I15, r15, b15⟩ => thnF (pv.run _ s15 σ14 H15 _ I15 b15) fun z s16 ⟨yv, H16, I16, r16, kvs, key, ek, hD16, hz16, nx⟩ => ?_
          subst ek
          refine d_dictSet (X := X.blk s3 H3 scope ce fp) I16 hD16 hz16 r15 r16 fun s17 I17 => fin1 _ _ s17 I17 (by rw [← hw14, wipe_length]) (fun j v e => ?_) nx
          rw [← hw14] at e
          exact (wipe_some e).1
      exact two_start loop1 (T1.self X.A 0 _ _ _ st10 loop1)
  exact codeAny_compStart_dict loop (T.self X.A 0 _ _ _ st4 loop)
end
end SL
set_option Elab.async false
set_option linter.all false
set_option maxRecDepth 100000
set_option maxHeartbeats 4000000
/-! own words, 21: xs.extend(t), t a tuple; walks of zip over tuples -/
namespace SL
open PySem PySem.Spec PyProof.Rows L2 GxR NdefX GA RZ
set_option maxRecDepth 8000 in
theorem ext_tup (l b : Addr) (us vs : Array Value) (n n2 : Nat) (dd : Option Addr) (ss : Array (Option Value)) (c0 : ¬(!us.isEmpty && Builtin.List.listTooLong (us.size + vs.size)) = true) (c1 : us.size ≤ sizeLine) (c2 : us.size + vs.size ≤ sizeLine + 1) :
    Meets (Builtin.«list.extend» ⟨[.ref l, .ref b], []⟩) (fun _ G t => t.heap.get? l = some { cls := .type "list", dict := none, data := .seq us n, slots := #[] } ∧ t.heap.get? b = some { cls := .type "tuple", dict := dd, data := .seq vs n2, slots := ss } ∧
      G (.ok (.ret Value.none)) { t with heap := t.heap.update l (Obj.mapSeq fun x => x ++ vs), toks := t.toks }) :=
  .of_wp fun pr wd ar G t z => by
    obtain ⟨hh, gg, dr, to, oo⟩ := t
    obtain ⟨hl, hb, z⟩ := z
    have z1 := AutoSeq1.idx_int
    have z2 := AutoSeq1.sub_tuple_tuple
    have z3 := AutoSeq1.sub_list_list
    have z4 := AutoSeq1.sub_tuple_list
    have z5 := AutoSeq1.sub_list_tuple
    have zz : (us ++ vs).size ≤ sizeLine + 1 := by rw [Array.size_append]; exact c2
    wp_walk using (wpAny_updateSeq hl rfl (hz := c1) (_hz' := zz)), AutoSeq1.wpAny_loadPart' hl, AutoSeq1.wpAny_loadPart' hb
    exact ⟨_, rfl, z⟩
def rExtT (K : PySem.W.Frag) : V → List V → Hp → VK → Prop := fun x vs H Q => ∃ l b xs zs, x = .ref l ∧ vs = [.ref b] ∧ H l = some (.lst xs) ∧ SqT K H b zs ∧ xs.length + zs.length ≤ sizeLine ∧ Q .non (upd H l (.lst (xs ++ zs)))
theorem mt_extT {X : Cx} : MtM X "list.extend" (rExtT X.K) := by
  intro pins s σ H x vs v us Q I rx rv h
  obtain ⟨l, b, xs, zs, rfl, rfl, hl, hb, hz, q⟩ := h
  cases rx
  obtain ⟨u, rfl, ru⟩ := rv.one
  cases ru
  obtain ⟨_, its, n, r, el, e⟩ := I.lstM hl
  obtain ⟨its2, r2, ⟨⟨cls, dd, data, ss⟩, e2, hc, n2, hd⟩, _⟩ := I.tuple hb
  simp only at hc hd
  subst hc hd
  have l2 := r2.length
  have sz : its.toArray.size + its2.toArray.size ≤ sizeLine := by
    rw [List.size_toArray, List.size_toArray]
    omega
  have long : ¬(!its.toArray.isEmpty && Builtin.List.listTooLong (its.toArray.size + its2.toArray.size)) = true := by
    rw [notLongL sz, Bool.and_false]
    exact Bool.false_ne_true
  refine call_meets F.slot_list_extend ⟨_, e, rfl⟩ F.entry_list_extend (F.args_list_extend_2 _ _) (ext_tup l b its.toArray its2.toArray n n2 dd ss long (by rw [List.size_toArray]; omega) (by omega)) ⟨e, e2, ?_⟩
  refine ⟨.non, _, I.lset (its' := its ++ its2) hl e (by simp) (r.append r2) ?_, rfl, q⟩
  rw [List.length_append]
  omega
/-- the walk of zip over two tuples of one length -/
theorem walkZ {K : PySem.W.Frag} {a b : Addr} {xs ys : List V} (hl : xs.length = ys.length) : Walk (ItzT K a b) xs.length (fun H => SqT K H a xs ∧ SqT K H b ys) (fun i H v G => ∃ p x y, v = .ref p ∧ H p = none ∧ G = upd H p (.tup [x, y]) ∧ xs[i]? = some x ∧ ys[i]? = some y) := by
  refine ⟨fun i H hi q => ?_, fun H q => ⟨xs, ys, q.1, q.2, .inl (Nat.le_refl _)⟩, fun i H v G hi q z => ?_⟩
  · exact ⟨xs, ys, xs[i], ys[i]'(by omega), q.1, q.2, by simp [hi], by simp [show i < ys.length by omega]⟩
  · obtain ⟨p, x, y, e1, e2, e3, e4, e5⟩ := z
    exact ⟨p, x, y, e1, e2, e3, e4 xs q.1, e5 ys q.2⟩
end SL
set_option Elab.async false
set_option linter.all false
set_option maxRecDepth 100000
set_option maxHeartbeats 4000000
/-! k41: _product_of_scaled -/
namespace KM
open PySem PySem.Spec PyProof.Rows L2 GxR NdefX GA SL ZN RZ
/-- the walk of zip over two lists of one length -/
theorem walkZL {K : PySem.W.Frag} {a b : Addr} {xs ys : List V} (hl : xs.length = ys.length) : Walk (Itz K a b) xs.length (fun H => SqL K H a xs ∧ SqL K H b ys) (fun i H v G => ∃ p x y, v = .ref p ∧ H p = none ∧ G = upd H p (.tup [x, y]) ∧ xs[i]? = some x ∧ ys[i]? = some y) := by
  refine ⟨fun i H hi q => ?_, fun H q => ⟨xs, ys, q.1, q.2, .inl (Nat.le_refl _)⟩, fun i H v G hi q z => ?_⟩
  · exact ⟨xs, ys, xs[i], ys[i]'(by omega), q.1, q.2, by simp [hi], by simp [show i < ys.length by omega]⟩
  · obtain ⟨p, x, y, e1, e2, e3, e4, e5⟩ := z
    exact ⟨p, x, y, e1, e2, e3, e4 xs q.1, e5 ys q.2⟩
theorem of_ints {M : List Addr} {H : Hp} : ∀ {vs : List V} {zs : List Int}, DvAll M H vs (zs.map PyData.int) → vs = zs.map V.int
  | [], [], _ => rfl
  | _ :: _, _ :: _, .cons h t => by
    cases h
    rw [of_ints t] <;> rfl
abbrev s_product_of_scaled : Stmt := top 18
theorem sc_product_of_scaled : FnScope ["one", "other", "tops", "bottom", "others", "below", "top", "factor"] ["one", "other"] (defScope s_product_of_scaled) := ⟨rfl, rfl, rfl, by decide +kernel, rfl, by decide +kernel, by decide +kernel⟩
def dot (ts os : List Int) : List Int := (List.range ts.length).map fun i => ts.getD i 0 * os.getD i 0
abbrev scD (ts : List Int) (b : Int) : PyData := .tuple [.list (ts.map .int), .int b]
def sp_product (T : List Addr) : Sp := fun vs H Q _ => ∃ (M : List Addr) (v1 v2 : V) (ts os : List Int) (b1 b2 : Int), vs = [v1, v2] ∧ Dv M H v1 (scD ts b1) ∧ Dv M H v2 (scD os b2) ∧ ts.length = os.length ∧ ts.length ≤ 4000 ∧
  (∀ t ∈ ts, t.natAbs.log2 < 100000) ∧ (∀ t ∈ os, t.natAbs.log2 < 100000) ∧ (1 ≤ b1 ∧ b1 < 1073741824) ∧ 1 ≤ b2 ∧ b1 * b2 < 1073741824 ∧ Tabs T H ∧ (∀ b ∈ M, H b ≠ none) ∧
  ∀ v' H', Go T [] H H' → Tabs T H' → Dv M H' v' (rat ((dot ts os).sum / gcdI (dot ts os).sum (b1 * b2)) (b1 * b2 / gcdI (dot ts os).sum (b1 * b2))) → Q v' H'
section
variable {P : Program} {w : World} {K : PySem.W.Frag} {mg : Str → Option Value} {base : Heap} {f : Addr} {fd : FuncData} {T : List Addr}
theorem ok_product_of_scaled (F : Fun K "_product_of_scaled" "_product_of_scaled" s_product_of_scaled f fd) (hz : mg "zip" = none) (hsum : mg "sum" = none) (Fr : Fnn P w K mg base CX0 1 "ratio_of" ["top", "bottom"] sp_ratio_of) :
    FnOk P w K mg base CX0 2 f fd ["one", "other"] (sp_product T) := by
  refine F.ok sc_product_of_scaled (fun vs H Q E h => ?_) (fun cdv A outer s H vs Q E hr h => ?_)
  · obtain ⟨_, _, _, _, _, _, _, rfl, _⟩ := h
    rfl
  obtain ⟨M, v1, v2, ts, os, b1, b2, rfl, hv1, hv2, hll, hl, hts, hos, ⟨hb1, hb1'⟩, hb2, hbb, ht, hM, q⟩ := h
  have nd := sc_product_of_scaled.nd
  have nn : ∀ b : Addr, b ∉ ([] : List Addr) := fun b => List.not_mem_nil
  refine ⟨_, pss_cons (ps_asg (pv 0) (pg_tup rfl (pgs_cons (pg_name (i := 2) nd rfl (.inl rfl)) (pgs_cons (pg_name (i := 3) nd rfl (.inl rfl)) pgs_nil))))
    (pss_cons (ps_asg (pv 1) (pg_tup rfl (pgs_cons (pg_name (i := 4) nd rfl (.inl rfl)) (pgs_cons (pg_name (i := 5) nd rfl (.inl rfl)) pgs_nil))))
    (pss_one (ps_ret (pe_fn Fr hr (by decide) pass0 (pa_cons (pe_callB (cr_sum rfl) rfl hsum (by decide +kernel) (pa_cons (pe_lc (own := [("top", 6), ("factor", 7)]) (g := gTup K 2 (gCons (gName 6) (gCons (gName 7) gNil))) (tt := tYes) rfl nd (pi_zipA rfl hz (pa_cons (pv 2) (pa_cons (pv 4) pa_nil)))
        (blkOk_by (own := [("top", 6), ("factor", 7)]) (N := ["one", "other", "tops", "bottom", "others", "below", "top", "factor"]) (sc := defScope s_product_of_scaled) (by decide +kernel))
        (fun _ _ _ _ _ => pg_tup rfl (pgs_cons (pg_name (i := 6) nd rfl (.inl rfl)) (pgs_cons (pg_name (i := 7) nd rfl (.inl rfl)) pgs_nil))) (fun _ _ _ _ _ => pts_nil)
        (fun _ _ _ _ _ => pe_op op_mulW (pv 6) (pv 7))) pa_nil)) (pa_cons (pe_op op_mul (pv 3) (pv 5)) pa_nil)))))), ?_⟩
  obtain ⟨a, vx, vy, rfl, ea, _, hx, hy⟩ := dv_pair hv1
  cases hy
  obtain ⟨a2, vx2, vy2, rfl, ea2, _, hx2, hy2⟩ := dv_pair hv2
  cases hy2
  cases hx with
  | @lst l xs ds el nl dl =>
  cases hx2 with
  | @lst l2 xs2 ds2 el2 nl2 dl2 =>
  have e1 := of_ints dl
  have e2 := of_ints dl2
  subst e1 e2
  refine ⟨_, rfl, a, _, rfl, SqT.of ea, rfl, _, _, rfl, _, _, rfl, rfl, ?_⟩
  refine ⟨_, rfl, a2, _, rfl, SqT.of ea2, rfl, _, _, rfl, _, _, rfl, rfl, ?_⟩
  refine ⟨_, rfl, _, rfl, l, l2, _, _, rfl, .inl ⟨SqL.of el, SqL.of el2, fun L hL => ?_⟩⟩
  refine lc_map (T := T) (fun j => V.int (ts.getD j 0 * os.getD j 0)) (walkZL (xs := ts.map V.int) (ys := os.map V.int) (by rw [List.length_map, List.length_map, hll])) (fun H' g' => ⟨SqL.of (g'.lst el (nn _)), SqL.of (g'.lst el2 (nn _))⟩) ht Go.refl hL (by rw [List.length_map, sizeLine_eq]; omega) (fun j v H6 H7 R hj g6 t6 y hR => ?_) (fun H6 g6 t6 ed6 => ?_)
  · obtain ⟨p, x, y', rfl, hn, rfl, ex, ey⟩ := y
    rw [List.getElem?_map] at ex ey
    obtain ⟨t1, et1, rfl⟩ := Option.map_eq_some_iff.mp ex
    obtain ⟨t2, et2, rfl⟩ := Option.map_eq_some_iff.mp ey
    rw [List.getD_eq_getElem?_getD, List.getD_eq_getElem?_getD, et1, et2] at hR
    have z1 := hts t1 (List.mem_of_getElem? et1)
    have z2 := hos t2 (List.mem_of_getElem? et2)
    refine ⟨p, _, rfl, SqT.of upd_same, rfl, _, _, rfl, _, _, rfl, rfl, rfl, _, rfl, _, rfl, _, _, rfl, rfl, by unfold CMulW; omega, ?_⟩
    exact hR _ (Go.new hn)
  · rw [List.length_map] at ed6
    have em : (List.range ts.length).map (fun j => V.int (ts.getD j 0 * os.getD j 0)) = (dot ts os).map V.int := by simp [dot]
    rw [em] at ed6
    refine ⟨L, dot ts os, rfl, SqL.of ed6, _, rfl, _, rfl, _, _, rfl, rfl, .inl ⟨by omega, by omega⟩, ?_⟩
    refine ⟨_, _, rfl, Int.mul_pos (by omega) (by omega), hbb, fun p hp => ?_⟩
    have u := Go.new (T := T) (M := []) (o := .tup [V.int ((dot ts os).sum / gcdI (dot ts os).sum (b1 * b2)), V.int (b1 * b2 / gcdI (dot ts os).sum (b1 * b2))]) hp
    exact q _ _ (g6.trans u) ((g6.trans u).tb ht) (.tup upd_same (fun z => hM p z (g6.al p hp)) (.cons (.int _) (.cons (.int _) .nil)))
end
end KM
set_option Elab.async false
set_option linter.all false
set_option maxRecDepth 100000
set_option maxHeartbeats 4000000
/-! k41: is_vector -/
namespace KM
open PySem PySem.Spec PyProof.Rows L2 GxR NdefX GA SL ZN RZ
abbrev s_is_vector : Stmt := top 14
theorem sc_is_vector : FnScope ["thing"] ["thing"] (defScope s_is_vector) := ⟨rfl, rfl, rfl, by decide +kernel, rfl, by decide +kernel, by decide +kernel⟩
/-- ratios in lowest terms, at most 48 -/
def RowOk (rs : List (Int × Int)) : Prop := rs.length ≤ 48 ∧ ∀ r ∈ rs, Low r.1 r.2
def sp_is_vector (T : List Addr) : Sp := fun vs H Q _ => ∃ (M : List Addr) (v : V) (rs : List (Int × Int)), vs = [v] ∧ Dv M H v (rowR rs) ∧ RowOk rs ∧ Tabs T H ∧ ∀ H', Go T M H H' → Tabs T H' → Q (.bl true) H'
section
variable {P : Program} {w : World} {K : PySem.W.Frag} {mg : Str → Option Value} {base : Heap} {f c Pt : Addr} {fd : FuncData} {T : List Addr}
theorem ok_is_vector (F : FunT K "is_vector" "is_vector" s_is_vector f fd c) (B : Bl mg) (C : Cn mg) (TB : TabB base mg c Pt) (hP : Pt ∈ T) (Ft : Fnn P w K mg base CX0 1 "is_tuple" ["thing", "least", "most"] sp_is_tuple)
    (Fr : Fnn P w K mg base CX0 2 "is_ratio" ["thing"] sp_is_ratio) : FnOk P w K mg base CX0 4 f fd ["thing"] (sp_is_vector T) := by
  obtain ⟨te, mE⟩ := C.entries
  refine F.ok sc_is_vector (fun vs H Q E h => ?_) (fun A outer s H vs Q E hr h => ?_)
  · obtain ⟨_, _, _, rfl, _⟩ := h
    rfl
  obtain ⟨M, v, rs, rfl, hv, ⟨hl, hL⟩, ht, q⟩ := h
  have nd := sc_is_vector.nd
  refine ⟨_, pss_one (ps_ret (pe_and (pe_fn Ft hr (by decide) pass0 (pa_cons (pv 0) (pa_cons pe_int (pa_cons (pe_glob (v := .int 48) rfl mE ⟨_, rfl⟩) pa_nil))))
    (pe_one (pe_all (N := ["entry"]) (fr := []) (js := []) hr rfl B.all TB rfl (gsc_by (by decide +kernel)) (by simp) rfl (pi_tup (pv 0)) (fun _ _ _ _ _ _ _ => pg_name (i := 0) (show (["entry"] : List Str).Nodup by decide +kernel) rfl (.inl rfl))
      (fun _ _ _ _ _ _ _ hr' => pe_fn Fr hr' (by decide) pass0 (pa_cons (pv 0) pa_nil)))))), ?_⟩
  refine ⟨_, rfl, M, v, rowR rs, 0, 48, rfl, hv, _, rfl, ?_⟩
  have e1 : tupB (rowR rs) 0 48 = true := by
    simp only [tupB, rowR, List.length_map]
    rw [Bool.and_eq_true, decide_eq_true_eq, decide_eq_true_eq]
    omega
  rw [e1]
  refine iteT ?_
  obtain ⟨a, xs, rfl, ea, na, dx⟩ := dv_tup hv
  refine ⟨_, rfl, a, rfl, ⟨_, SqT.of ea⟩, all_tup (b := fun _ => true) ea na dx ht hP (fun x' d' H' R hd hv' g' t' hR => ?_) fun H' g t => ?_⟩
  · obtain ⟨r, hr2, rfl⟩ := List.mem_map.mp hd
    exact ⟨_, rfl, _, _, _, _, rfl, hv', hL r hr2, hR H' Go.refl t'⟩
  · have e2 : (rs.map fun r => rat r.1 r.2).all (fun _ => true) = true := List.all_eq_true.mpr fun _ _ => rfl
    rw [e2]
    exact q H' g t
end
end KM
set_option Elab.async false
set_option linter.all false
set_option maxRecDepth 100000
set_option maxHeartbeats 4000000
/-! k41: is_matrix -/
namespace KM
open PySem PySem.Spec PyProof.Rows L2 GxR NdefX GA SL ZN RZ
abbrev s_is_matrix : Stmt := top 15
theorem sc_is_matrix : FnScope ["thing", "row"] ["thing"] (defScope s_is_matrix) := ⟨rfl, rfl, rfl, by decide +kernel, rfl, by decide +kernel, by decide +kernel⟩
abbrev Mat := List (List (Int × Int))
abbrev matD (m : Mat) : PyData := .tuple (m.map rowR)
def MatOk (m : Mat) (n : Nat) : Prop := m.length ≤ 48 ∧ ∀ r ∈ m, r.length = n ∧ RowOk r
def sp_is_matrix (T : List Addr) : Sp := fun vs H Q _ => ∃ (v : V) (m : Mat) (n : Nat), vs = [v] ∧ Dv [] H v (matD m) ∧ MatOk m n ∧ Tabs T H ∧ ∀ H', Go T [] H H' → Tabs T H' → Q (.bl true) H'
section
variable {P : Program} {w : World} {K : PySem.W.Frag} {mg : Str → Option Value} {base : Heap} {f c Pt : Addr} {fd : FuncData} {T : List Addr}
theorem ok_is_matrix (F : FunT K "is_matrix" "is_matrix" s_is_matrix f fd c) (B : Bl mg) (C : Cn mg) (TB : TabB base mg c Pt) (hP : Pt ∈ T) (Ft : Fnn P w K mg base CX0 1 "is_tuple" ["thing", "least", "most"] sp_is_tuple)
    (Fv : Fnn P w K mg base CX0 4 "is_vector" ["thing"] (sp_is_vector T)) : FnOk P w K mg base CX0 6 f fd ["thing"] (sp_is_matrix T) := by
  obtain ⟨te, mE⟩ := C.entries
  refine F.ok sc_is_matrix (fun vs H Q E h => ?_) (fun A outer s H vs Q E hr h => ?_)
  · obtain ⟨_, _, _, rfl, _⟩ := h
    rfl
  obtain ⟨v, m, n, rfl, hv, ⟨hl, hR⟩, ht, q⟩ := h
  have nd := sc_is_matrix.nd
  have nn : ∀ b : Addr, b ∉ ([] : List Addr) := fun b => List.not_mem_nil
  refine ⟨_, pss_cons (ps_if (PW.pt (pw_or (pt_not (pt_val (pe_fn Ft hr (by decide) pass0 (pa_cons (pv 0) (pa_cons pe_int (pa_cons (pe_glob (v := .int 48) rfl mE ⟨_, rfl⟩) pa_nil)))))) (pw_or1 (pt_not (pt_val
      (pe_all (N := ["row"]) (fr := []) (js := []) hr rfl B.all TB rfl (gsc_by (by decide +kernel)) (by simp) rfl (pi_tup (pv 0)) (fun _ _ _ _ _ _ _ => pg_name (i := 0) (show (["row"] : List Str).Nodup by decide +kernel) rfl (.inl rfl))
        (fun _ _ _ _ _ _ _ hr' => pe_fn Fv hr' (by decide) pass0 (pa_cons (pv 0) pa_nil)))))))) (pss_one (ps_ret pe_bl)) pss_nil)
    (pss_one (ps_ret (pe_cmpR op_le (pe_lenK B (pe_scK (own := [("row", 1)]) (g := gName 1) (tt := tYes) (te := tCB (fun xs H Q => ∃ p ys, xs = [.ref p] ∧ (SqL K H p ys ∨ SqT K H p ys) ∧ Q (.int (ys.length : Nat)) H) (tCons (tVar 1) tNil)) rfl nd (pi_tup (pv 0))
        (blkOk_by (own := [("row", 1)]) (N := ["thing", "row"]) (sc := defScope s_is_matrix) (by decide +kernel))
        (fun _ _ _ _ _ => pg_name (i := 1) nd rfl (.inl rfl)) (fun _ _ _ _ _ => pts_nil) (fun _ _ _ _ _ => pe_lenq B (pv 1)))) pe_int (nomark _)))), ?_⟩
  refine ⟨_, rfl, [], v, matD m, 0, 48, rfl, hv, _, rfl, ?_⟩
  have e1 : tupB (matD m) 0 48 = true := by
    simp only [tupB, matD, List.length_map]
    rw [Bool.and_eq_true, decide_eq_true_eq, decide_eq_true_eq]
    omega
  rw [e1]
  refine iteF ?_
  obtain ⟨a, xs, rfl, ea, na, dx⟩ := dv_tup hv
  have lx := dx.length
  rw [List.length_map] at lx
  have main : ∀ Q2 : VK, (∀ H', Go T [] H H' → Tabs T H' → Q2 (.bl true) H') → tGen Pt (iTup K (tVar 0)) (gName 0) (tCall (sp_is_vector T) [] E0 (tCons (tVar 0) tNil)) ["row"] [] false (L2.start ["thing", "row"] [V.ref a]) H Q2 := fun Q2 hQ2 => by
    refine ⟨_, rfl, a, rfl, ⟨_, SqT.of ea⟩, all_tup (b := fun _ => true) ea na dx ht hP (fun x' d' H' R hd hv' g' t' hR' => ?_) fun H' g t => ?_⟩
    · obtain ⟨r, hr2, rfl⟩ := List.mem_map.mp hd
      exact ⟨_, rfl, _, _, _, rfl, hv', (hR r hr2).2, t', fun H2 g2 t2 => hR' H2 g2 t2⟩
    · have e2 : (m.map rowR).all (fun _ => true) = true := List.all_eq_true.mpr fun _ _ => rfl
      rw [e2]
      exact hQ2 H' g t
  have main2 : ∀ Qc : Bool → Hp → Prop, (∀ H', Go T [] H H' → Tabs T H' → Qc false H') → tNot (tB (tGen Pt (iTup K (tVar 0)) (gName 0) (tCall (sp_is_vector T) [] E0 (tCons (tVar 0) tNil)) ["row"] [] false)) (L2.start ["thing", "row"] [V.ref a]) H Qc :=
    fun Qc h => main (fun x H1 => ∃ c, x = V.bl c ∧ Qc (!c) H1) fun H' g t => ⟨_, rfl, h H' g t⟩
  refine main2 _ fun H' g t => ?_
  refine iteF ?_
  have ea' := g.tup ea (nn _)
  refine ⟨_, rfl, a, rfl, ⟨_, SqT.of ea'⟩, fun D hD => ?_⟩
  refine sc_map (T := T) (fun j => .inl (n : Int)) (walk_tup (xs := xs)) (fun H2 g2 => SqT.of (g2.tup ea' (nn _))) t Go.refl hD (by unfold scanBound; omega) (fun j v H6 H7 R hj g6 t6 y hR2 => ?_) (fun H6 g6 t6 ed6 => ?_)
  · obtain ⟨rfl, ey⟩ := y
    obtain ⟨d, ed, hx⟩ := ((dx.go g).go g6).get ey
    rw [List.getElem?_map] at ed
    obtain ⟨r, er, rfl⟩ := Option.map_eq_some_iff.mp ed
    obtain ⟨b, ys, rfl, eb, nb, dy⟩ := dv_tup hx
    have ly := dy.length
    rw [List.length_map, (hR r (List.mem_of_getElem? er)).1] at ly
    refine ⟨rfl, _, rfl, b, ys, rfl, .inr (SqT.of eb), ?_⟩
    rw [ly]
    exact hR2 _ Go.refl
  · refine ⟨D, _, _, rfl, ed6, _, _, rfl, rfl, ?_⟩
    have e3 : distK ((List.range xs.length).map fun _ => (Sum.inl (n : Int) : Key)) ≤ 1 := (distK_one _).mpr fun a ha b hb => by
      obtain ⟨_, _, rfl⟩ := List.mem_map.mp ha
      obtain ⟨_, _, rfl⟩ := List.mem_map.mp hb
      rfl
    have e4 : decide (((distK ((List.range xs.length).map fun _ => (Sum.inl (n : Int) : Key)) : Nat) : Int) ≤ 1) = true := decide_eq_true (by omega)
    show Q (V.bl (decide (((distK ((List.range xs.length).map fun _ => (Sum.inl (n : Int) : Key)) : Nat) : Int) ≤ 1))) H6
    rw [e4]
    exact q H6 (g.trans g6) t6
end
end KM
set_option Elab.async false
set_option linter.all false
set_option maxRecDepth 100000
set_option maxHeartbeats 2000000
/-! own words, 22: x is True, x no truth -/
namespace SL
open PySem PySem.Spec PyProof.Rows L2 GxR NdefX GA RZ
def rIsTr : R2 := fun x y H Q => ∃ b, y = .bl b ∧ (∀ c, x ≠ .bl c) ∧ Q (.bl false) H
theorem op_isTr {X : Cx} : OpR X (compareOp .Is) rIsTr := by
  intro pins s σ H x y v u Q I rx ry h
  obtain ⟨b, rfl, hx, q⟩ := h
  have fin : ∀ e : Bool, e = false → wpAny (model X.prog X.w) X.A (pure (Value.bool e) : Sem Value) (EP X pins σ Q) X.xe s := fun e he => by
    subst he
    exact wpAny_pure ⟨.bl false, H, I, rfl, q⟩
  cases ry
  cases x with
  | bl c => exact absurd rfl (hx c)
  | non => cases rx; exact fin (Value.none == Value.bool b) rfl
  | int i => obtain ⟨t, rfl⟩ := rx; exact fin (Value.int i t == Value.bool b) rfl
  | str i => obtain ⟨t, rfl⟩ := rx; exact fin (Value.str i t == Value.bool b) rfl
  | byt i => obtain ⟨t, rfl⟩ := rx; exact fin (Value.bytes i t == Value.bool b) rfl
  | flt i => obtain ⟨t, rfl⟩ := rx; exact fin (Value.float i t == Value.bool b) rfl
  | ref a => cases rx; exact fin (Value.ref a == Value.bool b) rfl
  | ty n => cases rx; exact fin (Value.type n == Value.bool b) rfl
end SL
set_option Elab.async false
set_option linter.all false
set_option maxRecDepth 100000
set_option maxHeartbeats 2000000
/-! own words, 23: tuple + tuple -/
namespace SL
open PySem PySem.Spec PyProof.Rows L2 GxR NdefX GA RZ
theorem catT_ok {K : PySem.W.Frag} {T M : List Addr} {H : Hp} {p q : Addr} {xs ys : List V} {Q : VK} (hp : H p = some (.tup xs)) (hq : H q = some (.tup ys)) (np : p ∉ M) (nq : q ∉ M) (hl : xs.length + ys.length ≤ 16777216) (fresh : ∀ r, H r = none → r ∉ M)
    (k : ∀ r H', H' r = some (.tup (xs ++ ys)) → r ∉ M → Go T [] H H' → Q (.ref r) H') : rCatA K (.ref p) (.ref q) H Q := by
  refine ⟨p, q, xs, ys, rfl, rfl, SqT.of hp, SqT.of hq, sz hl, fun e => ?_, fun _ e => ?_, fun _ _ r hr => k r _ upd_same (fresh r hr) (Go.new hr)⟩
  · subst e
    exact k q H hq nq Go.refl
  · subst e
    exact k p H (by rw [List.append_nil]; exact hp) np Go.refl
end SL
set_option Elab.async false
set_option linter.all false
set_option maxRecDepth 100000
set_option maxHeartbeats 2000000
/-! own words, 24: isinstance(x, list) -/
namespace SL
open PySem PySem.Spec PyProof.Rows L2 GxR NdefX GA RZ
def isList : PyData → Bool
  | .list _ => true
  | _ => false
theorem isi_list {M : List Addr} {H : Hp} {K : PySem.W.Frag} {v : V} {d : PyData} {Q : VK} (h : Dv M H v d) (q : Q (.bl (isList d)) H) : rIsi K [v, .ty "list"] H Q := by
  refine isi_of h ?_ q
  cases d <;> first
    | exact (by decide +kernel : kitB "NoneType" "list" = some false)
    | exact (by decide +kernel : kitB "bool" "list" = some false)
    | exact (by decide +kernel : kitB "int" "list" = some false)
    | exact (by decide +kernel : kitB "str" "list" = some false)
    | exact (by decide +kernel : kitB "list" "list" = some true)
    | exact (by decide +kernel : kitB "tuple" "list" = some false)
    | exact (by decide +kernel : kitB "dict" "list" = some false)
section
variable {X : Cx} {a : Expr} {ta : TE} {p q pos : Pos}
theorem call_isi_list : CallR X (.builtin "isinstance") (rIsiD "list" isList) := fun pins s σ H xs us Q I r ⟨x, M, d, e, h, q⟩ => call_isi pins s σ H xs us Q I r (by rw [e]; exact isi_list h q)
theorem pe_isi_list (B : Bl X.mg) (ha : PE X a ta) (h1 : Gl X "isinstance" := by rfl) (h2 : Gl X "list" := by rfl)
    (he : starEach (a :: [.Name "list" q]) X.env = (false, eval a X.env) :: starEach [.Name "list" q] X.env := by rfl) : PE X (.Call (.Name "isinstance" p) [a, .Name "list" q] [] pos) (tCB (rIsiD "list" isList) (tCons ta (tCons (tC (.ty "list")) tNil))) :=
  pe_callB call_isi_list h1 B.isinst (by decide +kernel) (pa_cons ha (pa_cons (pe_bltn (v := .ty "list") h2 B.list (by decide +kernel) rfl) pa_nil) he) (by decide) (by decide) he
end
end SL
set_option Elab.async false
set_option linter.all false
set_option maxRecDepth 100000
set_option maxHeartbeats 2000000
/-! own words, 25: xs == []; what stays but lists -/
namespace SL
open PySem PySem.Spec PyProof.Rows L2 GxR NdefX GA RZ
section
variable {X : Cx}
def rEqNil (K : PySem.W.Frag) : R2 := fun x y H Q => ∃ a b xs, x = .ref a ∧ y = .ref b ∧ SqL K H a xs ∧ SqL K H b [] ∧ Q (.bl xs.isEmpty) H
theorem op_eqNil (hu : X.A.units < cLine) : OpR X (compareOp .Eq) (rEqNil X.K) := by
  intro pins s σ H x y v u Q I rx ry h
  obtain ⟨a, b, xs, rfl, rfl, h1, h2, q⟩ := h
  cases rx
  cases ry
  show wpAny _ _ (richCompare .Eq (.ref a) (.ref b)) _ _ _
  have fin : EP X pins σ Q (.bool xs.isEmpty) s := ⟨.bl _, H, I, rfl, q⟩
  obtain ⟨its, r, p, _⟩ := I.list h1
  obtain ⟨its2, r2, p2, _⟩ := I.list h2
  cases r2
  obtain ⟨o, n, g, c, _, dd⟩ := p
  obtain ⟨o2, n2, g2, c2, _, dd2⟩ := p2
  have l1 : s.heap.IsList a its.toArray := ⟨o, g, c, n, dd⟩
  have l2 : s.heap.IsList b ([] : List Value).toArray := ⟨o2, g2, c2, n2, dd2⟩
  cases r with
  | nil => exact PySem.SeqAt.RcAt.lists l1 l2 rfl hu (e := fun _ => true) (fun j hj _ => absurd hj (Nat.not_lt_zero _)) _ _ _ _ fin
  | cons _ _ => exact PySem.SeqAt.RcAt.lists_lengths l1 l2 rfl hu _ _ _ _ fin
end
/-- all stays but lists and tables -/
def ST (H H' : Hp) : Prop := ∀ p o, H p = some o → (∀ xs, o ≠ .lst xs) → (∀ ps, o ≠ .tbl ps) → H' p = some o
theorem ST.refl {H : Hp} : ST H H := fun _ _ e _ _ => e
theorem ST.trans {H H1 H2 : Hp} (a : ST H H1) (b : ST H1 H2) : ST H H2 := fun p o e l t => b p o (a p o e l t) l t
theorem ST.go {T M : List Addr} {H H' : Hp} (g : Go T M H H') (hM : ∀ b ∈ M, ∃ ys, H b = some (.lst ys)) : ST H H' := fun p o e l t => g.gr p o e (fun z => by obtain ⟨ys, ey⟩ := hM p z; rw [e] at ey; exact l ys (Option.some.inj ey)) t
theorem ST.go0 {T : List Addr} {H H' : Hp} (g : Go T [] H H') : ST H H' := ST.go g fun _ z => absurd z List.not_mem_nil
theorem ST.set {H : Hp} {p : Addr} {ys : List V} {o' : HO} (e : H p = some (.lst ys)) : ST H (upd H p o') := fun q o e' l _ => by
  by_cases c : q = p
  · subst c
    rw [e] at e'
    exact absurd (Option.some.inj e').symm (l ys)
  · rw [upd_ne c]
    exact e'
theorem ST.tup {H H' : Hp} (s : ST H H') {p : Addr} {xs : List V} (e : H p = some (.tup xs)) : H' p = some (.tup xs) := s p _ e (fun _ z => by cases z) (fun _ z => by cases z)
theorem ST.dk {H H' : Hp} (s : ST H H') {p : Addr} {kvs : List (Key × V)} (e : H p = some (.dK kvs)) : H' p = some (.dK kvs) := s p _ e (fun _ z => by cases z) (fun _ z => by cases z)
end SL
set_option Elab.async false
set_option linter.all false
set_option maxRecDepth 100000
set_option maxHeartbeats 2000000
namespace SL
open PySem PySem.Spec PyProof.Rows L2 GxR NdefX GA
/-- the top's name x is the def st -/
def IsDef (K : PySem.W.Frag) (x : Str) (st : Stmt) : Prop := ∃ (f : Addr) (fd : FuncData), PySem.W.nsIn K mainGlobals x = some (some (.ref f)) ∧ Fun K x x st f fd
/-- .. its code object at c -/
def IsDefC (K : PySem.W.Frag) (x : Str) (st : Stmt) : Prop := ∃ (f c : Addr) (fd : FuncData), PySem.W.nsIn K mainGlobals x = some (some (.ref f)) ∧ FunT K x x st f fd c
/-- .. and its table, not of the written part -/
def IsDefT (K : PySem.W.Frag) (x : Str) (st : Stmt) : Prop := ∃ (f c Q : Addr) (fd : FuncData), PySem.W.nsIn K mainGlobals x = some (some (.ref f)) ∧ FunT K x x st f fd c ∧ PySem.W.tabIn K x = some (c, Q) ∧ K.lookup Q = none
section
variable {K : PySem.W.Frag} {x : Str} {st : Stmt} {f c Q : Addr} {oc kV dc pm cdv ct : Value} {od an : Option Addr} {sl : Array (Option Value)}
theorem isDef (a : PySem.W.nsIn K mainGlobals x = some (some (.ref f))) (l : K.lookup f = some ⟨oc, od, .func (PySem.W.fnOf x x (defArgs st) (defBody st) (defScope st) .none kV dc pm an cdv ct), sl⟩) (h : PySem.W.codeIn K cdv x = true) (k : PySem.W.keepIn K (.ref f) = true) : IsDef K x st :=
  ⟨f, _, a, fun_mk l h k⟩
theorem isDefC (a : PySem.W.nsIn K mainGlobals x = some (some (.ref f))) (l : K.lookup f = some ⟨oc, od, .func (PySem.W.fnOf x x (defArgs st) (defBody st) (defScope st) .none kV dc pm an (.ref c) ct), sl⟩) (h : PySem.W.codeIn K (.ref c) x = true) (k : PySem.W.keepIn K (.ref f) = true) : IsDefC K x st :=
  ⟨f, c, _, a, ⟨oc, od, kV, dc, pm, an, ct, sl, rfl, l, h⟩, k⟩
theorem isDefT {cc : Value} {cd : Option Addr} {vs : Array Value} {csl : Array (Option Value)} (a : PySem.W.nsIn K mainGlobals x = some (some (.ref f))) (l : K.lookup f = some ⟨oc, od, .func (PySem.W.fnOf x x (defArgs st) (defBody st) (defScope st) .none kV dc pm an (.ref c) ct), sl⟩) (h : PySem.W.codeIn K (.ref c) x = true) (k : PySem.W.keepIn K (.ref f) = true)
    (m : K.lookup c = some ⟨cc, cd, .fields vs, csl⟩) (v : (vs[11]? : Option Value) = some (.ref Q)) (n : K.lookup Q = none) : IsDefT K x st := by
  refine ⟨f, c, Q, _, a, ⟨⟨oc, od, kV, dc, pm, an, ct, sl, rfl, l, h⟩, k⟩, ?_, n⟩
  unfold PySem.W.tabIn
  rw [a]
  simp only [l, PySem.W.fnOf, m, v]
theorem Fun.kwb {fd : FuncData} {ps : List Str} (F : Fun K x x st f fd)
    (h : ∀ (kV doc pm : Value) (an : Option Addr) (cdv ct : Value) (us : List Value), us.length = ps.length → bindArgs (PySem.W.fnOf x x (defArgs st) (defBody st) (defScope st) .none kV doc pm an cdv ct) ⟨[], ps.zip us⟩ = pure (ps.zip us)) (s : Shared) (us : List Value) (_ : K.In s.heap) (hl : us.length = ps.length) : BindsTo s fd ⟨[], ps.zip us⟩ (ps.zip us) := by
  obtain ⟨oc, od, kV, doc, pm, an, cdv, ct, osl, rfl, _, _⟩ := F.ex
  exact .of_eq (h kV doc pm an cdv ct us hl)
/-- whether an error of the class at S is taken by «except C» -/
theorem exmOf {S C : Addr} {b : Bool} (h1 : PySem.W.subIn K (.ref C) (.type "BaseException") = some true) (h2 : PySem.W.isClsIn K C = true) (h3 : PySem.W.typeIn K (.ref C) = some (.type "type")) (h4 : PySem.W.subIn K (.ref S) (.ref C) = some b) : PySem.W.exmOne K (.ref S) (.ref C) = some b := by
  have z : (PySem.W.clsIn K C).isSome = true := h2
  unfold PySem.W.exmOne PySem.W.kitCls
  simp [h1, h3, h4, z]
theorem hasInt {x : Str} {i : Int} {t : Tok} (h : PySem.W.nsIn K mainGlobals x = some (some (.int i t))) : ∃ t, PySem.W.nsIn K mainGlobals x = some (some (.int i t)) := ⟨t, h⟩

end
end SL
set_option Elab.async false
set_option linter.all false
set_option maxRecDepth 100000
set_option maxHeartbeats 4000000
/-! k41: demand_matrix, for matrices -/
namespace KM
open PySem PySem.Spec PyProof.Rows L2 GxR NdefX GA SL ZN RZ
/-- an own error class of the module -/
structure Xc (K : PySem.W.Frag) (mg : Str → Option Value) (x : Str) (C : Addr) : Prop where
  g : mg x = some (.ref C)
  x : PySem.W.excIn K C [.type "ValueError", .type "Exception", .type "BaseException", .type "object"] "ValueError.__new__" = true
  k : PySem.W.keepIn K (.ref C) = true
  b : PySem.W.subIn K (.ref C) (.type "BaseException") = some true
  t : PySem.W.typeIn K (.ref C) = some (.type "type")
theorem ps_raiseX {X : Cx} {W : WX} {C : Addr} {x m : Str} {j : Nat} {p p2 pos pos2 : Pos} (hc : X.calm = true) (T : Xc X.K X.mg x C) (tk : Takes X W) (hg : Gl X x := by rfl) (hdb : (x == ("__debug__" : Str)) = false := by decide) :
    PS X (.Raise (some (.Call (.Name x p) [.Constant (.str m) j p2] [] pos)) none pos2) (fun _ σ H => W (.ref C) none σ H) := ps_raise hc tk (pmk_own PySem.F.excBase_ValueError T.x T.g T.k (raises_own T.b T.t) hg hdb)
abbrev s_demand_matrix : Stmt := top 16
theorem sc_demand_matrix : FnScope ["rows"] ["rows"] (defScope s_demand_matrix) := ⟨rfl, rfl, rfl, by decide +kernel, rfl, by decide +kernel, by decide +kernel⟩
def sp_demand_matrix (T : List Addr) : Sp := fun vs H Q _ => ∃ (v : V) (m : Mat) (n : Nat), vs = [v] ∧ Dv [] H v (matD m) ∧ MatOk m n ∧ Tabs T H ∧ ∀ H', Go T [] H H' → Tabs T H' → Q .non H'
section
variable {P : Program} {w : World} {K : PySem.W.Frag} {mg : Str → Option Value} {base : Heap} {f CR : Addr} {fd : FuncData} {T : List Addr}
theorem ok_demand_matrix (F : Fun K "demand_matrix" "demand_matrix" s_demand_matrix f fd) (XR : Xc K mg "BadMatrix" CR) (Fi : Fnn P w K mg base CX0 6 "is_matrix" ["thing"] (sp_is_matrix T)) : FnOk P w K mg base CX0 7 f fd ["rows"] (sp_demand_matrix T) := by
  refine F.ok sc_demand_matrix (fun vs H Q E h => ?_) (fun cdv A outer s H vs Q E hr h => ?_)
  · obtain ⟨_, _, _, rfl, _⟩ := h
    rfl
  obtain ⟨v, m, n, rfl, hv, hm, ht, q⟩ := h
  refine ⟨_, pss_one (ps_if (pt_not (pt_val (pe_fn Fi hr (by decide) pass0 (pa_cons (pv 0) pa_nil)))) (pss_one (ps_raiseX rfl XR LamX.takes0)) pss_nil), ?_⟩
  exact ⟨_, rfl, v, m, n, rfl, hv, hm, ht, fun H' g t => ⟨_, rfl, iteF (q H' g t)⟩⟩
end
end KM
set_option Elab.async false
set_option linter.all false
set_option maxRecDepth 100000
set_option maxHeartbeats 4000000
/-! ratios: sums of products, matrices -/
namespace KM
open PySem PySem.Spec PyProof.Rows L2 GxR NdefX GA SL ZN RZ
def prs (qs : List Rat) : List (Int × Int) := qs.map fun q => (q.num, (q.den : Int))
def dotQ : List Rat → List Rat → Rat
  | q :: qs, p :: ps => q * p + dotQ qs ps
  | _, _ => 0
def colQ (m : List (List Rat)) (k : Nat) : List Rat := m.map fun r => r.getD k 0
def prodQ (one other : List (List Rat)) (n : Nat) : List (List Rat) := one.map fun r => (List.range n).map fun k => dotQ r (colQ other k)
theorem dotQ_nil (ps : List Rat) : dotQ [] ps = 0 := by cases ps <;> rfl
theorem dotQ_snoc : ∀ {a b : List Rat} (x y : Rat), a.length = b.length → dotQ (a ++ [x]) (b ++ [y]) = dotQ a b + x * y
  | [], [], x, y, _ => by show x * y + 0 = 0 + x * y; rw [Rat.add_zero, Rat.zero_add]
  | p :: a, q :: b, x, y, h => by
    have := dotQ_snoc (a := a) (b := b) x y (by simpa using h)
    show p * q + dotQ (a ++ [x]) (b ++ [y]) = p * q + dotQ a b + x * y
    rw [this, Rat.add_assoc]
theorem dotQ_zero (n : Nat) : ∀ (l : List Nat) (c : List Rat), dotQ (l.map fun _ => 0) c = 0
  | [], c => dotQ_nil c
  | _ :: l, [] => rfl
  | _ :: l, x :: c => by
    show 0 * x + dotQ (l.map fun _ => 0) c = 0
    rw [dotQ_zero n l c, Rat.zero_mul, Rat.add_zero]
theorem dotQ_lin (x : Rat) (f g : Nat → Rat) : ∀ (l : List Nat) (c : List Rat), dotQ (l.map fun k => x * f k + g k) c = x * dotQ (l.map f) c + dotQ (l.map g) c
  | [], c => by rw [List.map_nil, List.map_nil, List.map_nil, dotQ_nil, Rat.mul_zero, Rat.add_zero]
  | k :: l, [] => by show (0 : Rat) = x * 0 + 0; rw [Rat.mul_zero, Rat.add_zero]
  | k :: l, y :: c => by
    show (x * f k + g k) * y + dotQ (l.map fun k => x * f k + g k) c = x * (f k * y + dotQ (l.map f) c) + (g k * y + dotQ (l.map g) c)
    rw [dotQ_lin x f g l c]
    grind
theorem range_getD (s : List Rat) : (List.range s.length).map (fun k => s.getD k 0) = s := by
  refine List.ext_getElem? fun j => ?_
  rw [List.getElem?_map]
  by_cases h : j < s.length
  · rw [List.getElem?_range h, List.getElem?_eq_getElem h]
    simp [List.getD_eq_getElem?_getD, List.getElem?_eq_getElem h]
  · rw [List.getElem?_eq_none (by simpa using h), List.getElem?_eq_none (by omega)]
    rfl
theorem dotQ_swap : ∀ (r : List Rat) (two : List (List Rat)) (c : List Rat) (n : Nat), c.length = n → (∀ s ∈ two, s.length = n) → r.length = two.length →
    dotQ ((List.range n).map fun k => dotQ r (colQ two k)) c = dotQ r (two.map fun s => dotQ s c)
  | [], [], c, n, _, _, _ => by
    have : ((List.range n).map fun k => dotQ [] (colQ [] k)) = (List.range n).map fun _ => 0 := rfl
    rw [this, dotQ_zero n]
    rfl
  | x :: r, s :: two, c, n, hc, hs, hl => by
    have ih := dotQ_swap r two c n hc (fun t ht => hs t (List.mem_cons_of_mem _ ht)) (by simpa using hl)
    show dotQ ((List.range n).map fun k => x * s.getD k 0 + dotQ r (colQ two k)) c = x * dotQ s c + dotQ r (two.map fun s => dotQ s c)
    rw [dotQ_lin x (fun k => s.getD k 0) (fun k => dotQ r (colQ two k)), ih]
    have hn := hs s List.mem_cons_self
    subst hn
    rw [range_getD]
theorem colQ_prod {two three : List (List Rat)} {n l : Nat} (h : l < n) : colQ (prodQ two three n) l = two.map fun s => dotQ s (colQ three l) := by
  unfold colQ prodQ
  rw [List.map_map]
  refine List.map_congr_left fun s _ => ?_
  simp [colQ, List.getD_eq_getElem?_getD, List.getElem?_map, List.getElem?_range h]
theorem prodQ_assoc {one two three : List (List Rat)} {n2 n3 : Nat} (h1 : ∀ r ∈ one, r.length = two.length) (h2 : ∀ s ∈ two, s.length = n2) (h3 : three.length = n2) :
    prodQ (prodQ one two n2) three n3 = prodQ one (prodQ two three n3) n3 := by
  unfold prodQ
  rw [List.map_map]
  refine List.map_congr_left fun r hr => ?_
  refine List.map_congr_left fun l hl => ?_
  have e := colQ_prod (two := two) (three := three) (List.mem_range.mp hl)
  unfold prodQ at e
  show dotQ ((List.range n2).map fun k => dotQ r (colQ two k)) (colQ three l) = _
  rw [e]
  exact dotQ_swap r two _ n2 (by unfold colQ; rw [List.length_map, h3]) h2 (h1 r hr)
/-- lowest terms, as both sides compute them -/
theorem low_of {t b : Int} (h : 0 < b) : (t / ((Nat.gcd t.natAbs b.natAbs : Nat) : Int), b / ((Nat.gcd t.natAbs b.natAbs : Nat) : Int)) = ((Rat.divInt t b).num, ((Rat.divInt t b).den : Int)) := by
  have e : Int.gcd b t = Nat.gcd t.natAbs b.natAbs := by
    show Nat.gcd b.natAbs t.natAbs = _
    exact Nat.gcd_comm ..
  rw [Rat.num_divInt, Rat.den_divInt, if_neg (by omega), e, Int.sign_eq_one_of_pos h, Int.one_mul]
  congr 1
  rw [Int.natCast_ediv, Int.natAbs_of_nonneg (by omega)]
theorem den_mul_self (q : Rat) : q * (q.den : Rat) = (q.num : Rat) := by
  have h : (q.den : Rat) ≠ 0 := by
    have := q.den_nz
    simpa using this
  have e : q = (q.num : Rat) / (q.den : Rat) := by
    rw [← Rat.mkRat_eq_div, Rat.mkRat_self]
  rw [show q * (q.den : Rat) = (q.num : Rat) / (q.den : Rat) * (q.den : Rat) from by rw [← e]]
  exact Rat.div_mul_cancel h

theorem foldl_lcm_dvd {D : Nat} : ∀ {bs : List Nat} {a : Nat}, a ∣ D → (∀ b ∈ bs, b ∣ D) → bs.foldl Nat.lcm a ∣ D
  | [], a, h, _ => h
  | b :: bs, a, h, hb => foldl_lcm_dvd (bs := bs) (a := Nat.lcm a b) (Nat.lcm_dvd h (hb b List.mem_cons_self)) fun c hc => hb c (List.mem_cons_of_mem _ hc)
theorem lcms_dvd {qs : List Rat} {D : Nat} (h : ∀ q ∈ qs, q.den ∣ D) : lcms (prs qs) ∣ D := by
  unfold lcms
  refine foldl_lcm_dvd (Nat.one_dvd D) fun b hb => ?_
  simp only [prs, List.mem_map] at hb
  obtain ⟨r, ⟨q, hq, rfl⟩, rfl⟩ := hb
  exact h q hq
theorem prs_pos {qs : List Rat} : ∀ r ∈ prs qs, 1 ≤ r.2 := fun r hr => by
  obtain ⟨q, _, rfl⟩ := List.mem_map.mp hr
  have := q.den_pos
  show 1 ≤ (q.den : Int)
  omega
theorem dot_cons (t o : Int) (ts os : List Int) : dot (t :: ts) (o :: os) = t * o :: dot ts os := by
  unfold dot
  rw [List.length_cons, List.range_succ_eq_map, List.map_cons, List.map_map]
  rfl
/-- entries over a common bottom -/
def over (L : Nat) (qs : List Rat) : List Int := qs.map fun q => q.num * ((L : Int) / (q.den : Int))
theorem tops_over (qs : List Rat) : tops (prs qs) = over (lcms (prs qs)) qs := by
  unfold tops over prs
  rw [List.map_map]
  rfl
theorem over_cast {L : Nat} {q : Rat} (h : q.den ∣ L) : ((q.num * ((L : Int) / (q.den : Int)) : Int) : Rat) = q * (L : Rat) := by
  obtain ⟨c, rfl⟩ := h
  have : (((q.den * c : Nat) : Int) / (q.den : Int)) = (c : Int) := by
    rw [Int.natCast_mul]
    exact Int.mul_ediv_cancel_left _ (by have := q.den_pos; omega)
  rw [this, Rat.intCast_mul, ← den_mul_self, Rat.natCast_mul, Rat.mul_assoc]
  rfl
theorem dot_over {L L' : Nat} : ∀ {qs ps : List Rat}, qs.length = ps.length → (∀ q ∈ qs, q.den ∣ L) → (∀ q ∈ ps, q.den ∣ L') → (((dot (over L qs) (over L' ps)).sum : Int) : Rat) = ((L * L' : Nat) : Rat) * dotQ qs ps
  | [], [], _, _, _ => by show ((0 : Int) : Rat) = _ * 0; rw [Rat.mul_zero]; rfl
  | q :: qs, p :: ps, h, h1, h2 => by
    have ih := dot_over (qs := qs) (ps := ps) (by simpa using h) (fun z m => h1 z (List.mem_cons_of_mem _ m)) (fun z m => h2 z (List.mem_cons_of_mem _ m))
    have e1 := over_cast (h1 q List.mem_cons_self)
    have e2 := over_cast (h2 p List.mem_cons_self)
    show (((dot (q.num * ((L : Int) / (q.den : Int)) :: over L qs) (p.num * ((L' : Int) / (p.den : Int)) :: over L' ps)).sum : Int) : Rat) = _ * (q * p + dotQ qs ps)
    rw [dot_cons, List.sum_cons, Rat.intCast_add, ih, Rat.intCast_mul, e1, e2, Rat.natCast_mul]
    grind
theorem divInt_dot {L L' : Nat} {qs ps : List Rat} (h : qs.length = ps.length) (h1 : ∀ q ∈ qs, q.den ∣ L) (h2 : ∀ q ∈ ps, q.den ∣ L') (h0 : 0 < L) (h0' : 0 < L') :
    Rat.divInt (dot (over L qs) (over L' ps)).sum ((L * L' : Nat) : Int) = dotQ qs ps := by
  have z : ((L * L' : Nat) : Rat) ≠ 0 := by
    have : L * L' ≠ 0 := Nat.ne_of_gt (Nat.mul_pos h0 h0')
    exact fun e => this (by exact_mod_cast e)
  rw [Rat.divInt_eq_div, dot_over h h1 h2]
  show ((L * L' : Nat) : Rat) * dotQ qs ps / ((L * L' : Nat) : Rat) = _
  rw [Rat.mul_comm, Rat.mul_div_cancel z]
/-- bounded: the bottom divides D, the top is at most N -/
def Bd (D N : Nat) (q : Rat) : Prop := q.den ∣ D ∧ q.num.natAbs ≤ N
theorem sum_le {B : Nat} : ∀ {l : List Int}, (∀ z ∈ l, z.natAbs ≤ B) → l.sum.natAbs ≤ l.length * B
  | [], _ => by simp
  | z :: l, h => by
    have h1 := h z List.mem_cons_self
    have h2 := sum_le (B := B) (l := l) fun y hy => h y (List.mem_cons_of_mem _ hy)
    have h3 := Int.natAbs_add_le z l.sum
    rw [List.sum_cons, List.length_cons, Nat.succ_mul]
    omega
theorem over_le {L N : Nat} {qs : List Rat} (h : ∀ q ∈ qs, q.num.natAbs ≤ N) : ∀ z ∈ over L qs, z.natAbs ≤ N * L := fun z hz => by
  obtain ⟨q, hq, rfl⟩ := List.mem_map.mp hz
  rw [Int.natAbs_mul]
  refine Nat.mul_le_mul (h q hq) ?_
  have := Int.natAbs_ediv_le_natAbs (L : Int) (q.den : Int)
  simpa using this
theorem dot_mem {ts os : List Int} {z : Int} (hl : ts.length = os.length) (h : z ∈ dot ts os) : ∃ t ∈ ts, ∃ o ∈ os, z = t * o := by
  obtain ⟨i, hi, rfl⟩ := List.mem_map.mp h
  have hi := List.mem_range.mp hi
  refine ⟨ts[i], List.getElem_mem _, os[i], List.getElem_mem _, ?_⟩
  simp [List.getD_eq_getElem?_getD, List.getElem?_eq_getElem hi, List.getElem?_eq_getElem (show i < os.length by omega)]
theorem dot_len (ts os : List Int) : (dot ts os).length = ts.length := by simp [dot]
theorem over_len (L : Nat) (qs : List Rat) : (over L qs).length = qs.length := by simp [over]
theorem dot_le {L L' N N' : Nat} {qs ps : List Rat} (h : qs.length = ps.length) (h1 : ∀ q ∈ qs, q.num.natAbs ≤ N) (h2 : ∀ q ∈ ps, q.num.natAbs ≤ N') : (dot (over L qs) (over L' ps)).sum.natAbs ≤ qs.length * ((N * L) * (N' * L')) := by
  have := sum_le (B := (N * L) * (N' * L')) (l := dot (over L qs) (over L' ps)) fun z hz => by
    obtain ⟨t, ht, o, ho, rfl⟩ := dot_mem (by rw [over_len, over_len, h]) hz
    rw [Int.natAbs_mul]
    exact Nat.mul_le_mul (over_le h1 t ht) (over_le h2 o ho)
  rwa [dot_len, over_len] at this
theorem dotQ_bd {D D' N N' : Nat} {qs ps : List Rat} (hD : 0 < D) (hD' : 0 < D') (h : qs.length = ps.length) (h1 : ∀ q ∈ qs, Bd D N q) (h2 : ∀ q ∈ ps, Bd D' N' q) : Bd (D * D') (qs.length * ((N * D) * (N' * D'))) (dotQ qs ps) := by
  have e := divInt_dot (L := D) (L' := D') h (fun q m => (h1 q m).1) (fun q m => (h2 q m).1) hD hD'
  have l := dot_le (L := D) (L' := D') h (fun q m => (h1 q m).2) (fun q m => (h2 q m).2)
  have p : (0 : Int) < ((D * D' : Nat) : Int) := by have := Nat.mul_pos hD hD'; omega
  have lo := low_of (t := (dot (over D qs) (over D' ps)).sum) p
  rw [e] at lo
  obtain ⟨a1, a2⟩ := Prod.mk.inj lo
  refine ⟨?_, ?_⟩
  · have : (((dotQ qs ps).den : Nat) : Int) ∣ ((D * D' : Nat) : Int) := by
      rw [← a2]
      exact Int.ediv_dvd_of_dvd (Int.natCast_dvd_natCast.mpr (by have := Nat.gcd_dvd_right (dot (over D qs) (over D' ps)).sum.natAbs ((D * D' : Nat) : Int).natAbs; rwa [show ((D * D' : Nat) : Int).natAbs = D * D' from rfl] at this))
    exact Int.natCast_dvd_natCast.mp this
  · rw [← a1]
    exact Nat.le_trans (Int.natAbs_ediv_le_natAbs _ _) l
/-- the sums of products as the law makes them -/
def totQ : List Rat → List Rat → Int × Int
  | qs, ps => (List.range qs.length).foldl (fun s k => if (qs.getD k 0).num ≠ 0 ∧ (ps.getD k 0).num ≠ 0 then (s.1 * ((qs.getD k 0).den * (ps.getD k 0).den) + (qs.getD k 0).num * (ps.getD k 0).num * s.2, s.2 * ((qs.getD k 0).den * (ps.getD k 0).den)) else s) (0, 1)
/-- a turn of it -/
structure Tot (B N k : Nat) (qs ps : List Rat) (t b : Int) : Prop where
  p : 0 < b
  e : Rat.divInt t b = dotQ (qs.take k) (ps.take k)
  b : b.natAbs ≤ B ^ k
  t : t.natAbs ≤ k * (N * B ^ k)
theorem Tot.zero {B N : Nat} {qs ps : List Rat} : Tot B N 0 qs ps 0 1 := ⟨by decide, by rw [List.take_zero, dotQ_nil, Rat.zero_divInt], by simp, by simp⟩
theorem Tot.skip {B N k : Nat} {qs ps : List Rat} {t b : Int} {q p : Rat} (h : Tot B N k qs ps t b) (hB : 0 < B) (hq : qs[k]? = some q) (hp : ps[k]? = some p) (z : q.num = 0 ∨ p.num = 0) : Tot B N (k + 1) qs ps t b := by
  have l1 := (List.getElem?_eq_some_iff.mp hq).1
  have l2 := (List.getElem?_eq_some_iff.mp hp).1
  have hpow : B ^ k ≤ B ^ (k + 1) := Nat.pow_le_pow_right hB (Nat.le_succ k)
  refine ⟨h.p, ?_, Nat.le_trans h.b hpow, Nat.le_trans h.t (Nat.mul_le_mul (Nat.le_succ k) (Nat.mul_le_mul (Nat.le_refl _) hpow))⟩
  rw [List.take_add_one, List.take_add_one, hq, hp]
  show _ = dotQ (qs.take k ++ [q]) (ps.take k ++ [p])
  rw [dotQ_snoc q p (by rw [List.length_take, List.length_take]; omega), h.e]
  have e : q * p = 0 := by
    rcases z with z | z
    · rw [Rat.num_eq_zero.mp z, Rat.zero_mul]
    · rw [Rat.num_eq_zero.mp z, Rat.mul_zero]
  rw [e, Rat.add_zero]
theorem Tot.next {B N k : Nat} {qs ps : List Rat} {t b : Int} {q p : Rat} (h : Tot B N k qs ps t b) (hB : 0 < B) (hq : qs[k]? = some q) (hp : ps[k]? = some p) (hb : q.den * p.den ≤ B) (hn : q.num.natAbs * p.num.natAbs ≤ N) :
    Tot B N (k + 1) qs ps (t * ((q.den : Int) * (p.den : Int)) + q.num * p.num * b) (b * ((q.den : Int) * (p.den : Int))) := by
  have l1 := (List.getElem?_eq_some_iff.mp hq).1
  have l2 := (List.getElem?_eq_some_iff.mp hp).1
  have d1 := q.den_pos
  have d2 := p.den_pos
  have dd : (0 : Int) < (q.den : Int) * (p.den : Int) := Int.mul_pos (by omega) (by omega)
  have nd : ((q.den : Int) * (p.den : Int)).natAbs = q.den * p.den := by rw [Int.natAbs_mul]; simp
  refine ⟨Int.mul_pos h.p dd, ?_, ?_, ?_⟩
  · rw [List.take_add_one, List.take_add_one, hq, hp]
    show _ = dotQ (qs.take k ++ [q]) (ps.take k ++ [p])
    rw [dotQ_snoc q p (by rw [List.length_take, List.length_take]; omega), ← h.e]
    have e : q * p = Rat.divInt (q.num * p.num) ((q.den : Int) * (p.den : Int)) := by
      rw [← Rat.divInt_mul_divInt, Rat.num_divInt_den, Rat.num_divInt_den]
    rw [e, Rat.divInt_add_divInt _ _ (by have := h.p; omega) (by omega)]
  · rw [Int.natAbs_mul, nd, Nat.pow_succ]
    exact Nat.mul_le_mul h.b hb
  · have h3 := Int.natAbs_add_le (t * ((q.den : Int) * (p.den : Int))) (q.num * p.num * b)
    rw [Int.natAbs_mul, nd, Int.natAbs_mul, Int.natAbs_mul] at h3
    have h4 : t.natAbs * (q.den * p.den) ≤ k * (N * B ^ k) * B := Nat.mul_le_mul h.t hb
    have h5 : q.num.natAbs * p.num.natAbs * b.natAbs ≤ N * B ^ k := Nat.mul_le_mul hn h.b
    have h6 : k * (N * B ^ k) * B = k * (N * B ^ (k + 1)) := by rw [Nat.pow_succ]; simp [Nat.mul_assoc]
    have h7 : N * B ^ k ≤ N * B ^ (k + 1) := Nat.mul_le_mul (Nat.le_refl _) (Nat.pow_le_pow_right hB (Nat.le_succ k))
    rw [Nat.succ_mul]
    omega
end KM
set_option Elab.async false
set_option linter.all false
set_option maxRecDepth 100000
set_option maxHeartbeats 4000000
/-! own words, 35: a list comprehension whose values are data, made meanwhile -/
namespace SL
open PySem PySem.Spec PyProof.Rows L2 GxR NdefX GA
section
variable {T M : List Addr} {H0 H1 : Hp} {J : It} {n : Nat} {G : Hp → Prop} {Y : Nat → Hp → V → Hp → Prop} {D : Addr} {Qd : Hp → Prop} {σ : L2.St} {g : TG} {te : TE} {vs : List Nat}
/-- [te for g in J]: F i the i-th value, as data that does not hold the list itself, nor what M names -/
theorem lc_dv (F : Nat → PyData) (w : Walk J n G Y) (hG : ∀ H', Go T [] H0 H' → G H') (ht : Tabs T H0) (g1 : Go T [] H0 H1) (hD : H1 D = none) (hn : n ≤ sizeLine)
    (hs : ∀ i x H' H'' (R : VK), i < n → Go T [] H0 H' → Tabs T H' → H' D ≠ none → Y i H' x H'' → (∀ v H3, Go T [] H' H3 → Dv (D :: M) H3 v (F i) → R v H3) → g x (wipe σ vs) H'' fun σ2 H2 => wipe σ2 vs = wipe σ vs ∧ te σ2 H2 R)
    (hq : ∀ H' ys, Go T [] H0 H' → Tabs T H' → H' D = some (.lst ys) → DvAll (D :: M) H' ys ((List.range n).map F) → Qd H') :
    ∃ W : Nat → Nat → Hp → Prop, (∃ m, W 0 m (upd H1 D (.lst []))) ∧ ∀ i' m H, W i' m H →
      (J.stop i' H ∧ Qd H) ∨ (J.go i' H ∧ ∃ Nx : Hp → Prop, (∀ H', Nx H' → ∃ m', m' < m ∧ W (i' + 1) m' H') ∧ ∀ x H', J.yld i' H x H' → g x (wipe σ vs) H' fun σ2 H2 => wipe σ2 vs = wipe σ vs ∧ tYes σ2 H2 fun b H3 =>
        if b = true then te σ2 H3 fun y H4 => ∃ acc, H4 D = some (.lst acc) ∧ acc.length < sizeLine ∧ Nx (upd H4 D (.lst (acc ++ [y]))) else Nx H3) := by
  have hD0 : H0 D = none := g1.al D hD
  refine lc_it w (fun i H' => Go T [] H0 H' ∧ ∃ ys, H' D = some (.lst ys) ∧ ys.length = i ∧ DvAll (D :: M) H' ys ((List.range i).map F)) ⟨g1.trans (Go.new hD), [], upd_same, rfl, .nil⟩ (fun i H' _ h => hG H' h.1) (fun i x H' H'' hlt h y => ?_)
    (fun H' ⟨gg, ys, e, _, da⟩ => hq H' ys gg (gg.tb ht) e da)
  obtain ⟨gg, ys, e, el, da⟩ := h
  refine hs i x H' H'' _ hlt gg (gg.tb ht) (by rw [e]; exact fun z => by cases z) y fun v H3 g3 dv => ?_
  have e3 := g3.lst e List.not_mem_nil
  have gs := Go.set (T := T) (M := D :: M) (o := .lst (ys ++ [v])) e3 (fun _ z => by cases z) (List.mem_cons_self ..)
  refine ⟨ys, e3, by omega, (gg.trans g3).over hD0 e3 (fun _ z => by cases z), ys ++ [v], upd_same, by rw [List.length_append, el] <;> rfl, ?_⟩
  rw [List.range_succ, List.map_append]
  exact DvAll.append ((da.go g3.of0).go gs) (.cons (dv.go gs) .nil)
end
end SL
set_option Elab.async false
set_option linter.all false
set_option maxRecDepth 100000
set_option maxHeartbeats 8000000
/-! k41: product_of_matrices -/
namespace KM
open PySem PySem.Spec PyProof.Rows L2 GxR NdefX GA SL ZN RZ
abbrev s_product_of_matrices : Stmt := top 17
theorem sc_product_of_matrices : FnScope ["one", "other", "rows", "columns", "row", "column"] ["one", "other"] (defScope s_product_of_matrices) := ⟨rfl, rfl, rfl, by decide +kernel, rfl, by decide +kernel, by decide +kernel⟩
abbrev MatQ := List (List Rat)
abbrev rowQ (qs : List Rat) : PyData := rowR (prs qs)
abbrev matQ (m : MatQ) : PyData := matD (m.map prs)
theorem matQ_map (m : MatQ) : (m.map prs).map rowR = m.map rowQ := by rw [List.map_map]; rfl
/-- rows of n entries, bounded -/
def MQ (m : MatQ) (n D N : Nat) : Prop := m.length ≤ 48 ∧ n ≤ 48 ∧ ∀ r ∈ m, r.length = n ∧ ∀ q ∈ r, Bd D N q
def RowsV (M : List Addr) (H : Hp) : List (List V) → MatQ → Prop
  | [], [] => True
  | r :: rows, q :: m => DvAll M H r ((prs q).map fun r => rat r.1 r.2) ∧ RowsV M H rows m
  | _, _ => False
theorem rows_of {M : List Addr} {H : Hp} : ∀ {xs : List V} {m : MatQ}, DvAll M H xs (m.map rowQ) → ∃ (as : List Addr) (rows : List (List V)), xs = as.map V.ref ∧ as.length = rows.length ∧ RowsV M H rows m ∧ ∀ (j : Nat) (a : Addr) (r : List V), as[j]? = some a → rows[j]? = some r → H a = some (.tup r)
  | [], [], _ => ⟨[], [], rfl, rfl, True.intro, fun j a r e _ => by simp at e⟩
  | x :: xs, q :: m, .cons h t => by
    obtain ⟨as, rows, e1, e2, e3, e4⟩ := rows_of t
    obtain ⟨a, r, rfl, ea, na, dr⟩ := dv_tup h
    refine ⟨a :: as, r :: rows, by rw [e1]; rfl, by simp [e2], ⟨dr, e3⟩, fun j b s h1 h2 => ?_⟩
    cases j with
    | zero =>
      cases Option.some.inj h1
      cases Option.some.inj h2
      exact ea
    | succ j => exact e4 j b s (by simpa using h1) (by simpa using h2)
theorem RowsV.len {M : List Addr} {H : Hp} : ∀ {rows : List (List V)} {m : MatQ}, RowsV M H rows m → rows.length = m.length
  | [], [], _ => rfl
  | _ :: _, _ :: _, h => by rw [List.length_cons, List.length_cons, RowsV.len h.2]
theorem RowsV.wide {M : List Addr} {H : Hp} {n : Nat} : ∀ {rows : List (List V)} {m : MatQ}, RowsV M H rows m → (∀ q ∈ m, q.length = n) → ∀ r ∈ rows, r.length = n
  | [], [], _, _, r, hr => absurd hr List.not_mem_nil
  | r :: rows, q :: m, h, hn, s, hs => by
    rcases List.mem_cons.mp hs with rfl | hs
    · have := h.1.length
      rw [List.length_map, prs, List.length_map, hn q List.mem_cons_self] at this
      exact this
    · exact RowsV.wide h.2 (fun q hq => hn q (List.mem_cons_of_mem _ hq)) s hs
theorem RowsV.col {M M' : List Addr} {H H' : Hp} {i : Nat} (g : ∀ {v : V} {d : PyData}, Dv M H v d → Dv M' H' v d) : ∀ {rows : List (List V)} {m : MatQ}, RowsV M H rows m → (∀ q ∈ m, i < q.length) → DvAll M' H' (ZN.col rows i) ((prs (colQ m i)).map fun r => rat r.1 r.2)
  | [], [], _, _ => .nil
  | r :: rows, q :: m, h, hn => by
    have hi := hn q List.mem_cons_self
    have e : ((prs q).map fun r => rat r.1 r.2)[i]? = some (rat q[i].num q[i].den) := by
      rw [prs, List.map_map, List.getElem?_map, List.getElem?_eq_getElem hi]
      rfl
    obtain ⟨x, ex, dx⟩ := h.1.getD e
    have e1 : r.getD i .non = x := by rw [List.getD_eq_getElem?_getD, ex] <;> rfl
    have e2 : q.getD i 0 = q[i] := by rw [List.getD_eq_getElem?_getD, List.getElem?_eq_getElem hi] <;> rfl
    show DvAll M' H' (r.getD i .non :: ZN.col rows i) (rat (q.getD i 0).num (q.getD i 0).den :: (prs (colQ m i)).map fun r => rat r.1 r.2)
    rw [e1, e2]
    exact .cons (g dx) (RowsV.col g h.2 fun q hq => hn q (List.mem_cons_of_mem _ hq))
abbrev NP : List Str := ["one", "other", "rows", "columns", "row", "column"]
def sp_prod (T : List Addr) : Sp := fun vs H Q _ => ∃ (v1 v2 : V) (m1 m2 : MatQ) (n D1 N1 D2 N2 : Nat), vs = [v1, v2] ∧ Dv [] H v1 (matQ m1) ∧ Dv [] H v2 (matQ m2) ∧ MQ m1 m2.length D1 N1 ∧ MQ m2 n D2 N2 ∧ (m2 = [] → n = 0) ∧ 0 < D1 ∧ 0 < D2 ∧ D1 * D2 < 1073741824 ∧
  N1 < 2 ^ 40000 ∧ N2 < 2 ^ 40000 ∧ Tabs T H ∧ ∀ v' H', Go T [] H H' → Tabs T H' → Dv [] H' v' (matQ (prodQ m1 m2 n)) → Q v' H'
theorem log2_le {z : Int} {D N : Nat} (h : z.natAbs ≤ N * D) (hN : N < 2 ^ 40000) (hD : D < 1073741824) : z.natAbs.log2 < 100000 := by
  by_cases h0 : z.natAbs = 0
  · rw [h0]; decide
  · refine (Nat.log2_lt h0).mpr ?_
    have h1 : N * D < 2 ^ 40000 * 2 ^ 30 := Nat.mul_lt_mul'' hN (Nat.lt_of_lt_of_le hD (by decide))
    rw [← Nat.pow_add] at h1
    exact Nat.lt_of_le_of_lt h (Nat.lt_of_lt_of_le h1 (Nat.pow_le_pow_right (by decide) (by decide)))
theorem colQ_len (m : MatQ) (i : Nat) : (colQ m i).length = m.length := by unfold colQ; rw [List.length_map]
theorem colQ_bd {m : MatQ} {n D N i : Nat} (h : ∀ r ∈ m, r.length = n ∧ ∀ q ∈ r, Bd D N q) (hi : i < n) : ∀ q ∈ colQ m i, Bd D N q := fun q hq => by
  obtain ⟨r, hr, rfl⟩ := List.mem_map.mp hq
  obtain ⟨h1, h2⟩ := h r hr
  rw [List.getD_eq_getElem?_getD, List.getElem?_eq_getElem (by omega)]
  exact h2 _ (List.getElem_mem _)
/-- what scaled gives of ratios -/
abbrev scQ (qs : List Rat) : PyData := scD (tops (prs qs)) (lcms (prs qs) : Nat)
theorem prod_entry {qs ps : List Rat} (h : qs.length = ps.length) : rat ((dot (tops (prs qs)) (tops (prs ps))).sum / gcdI (dot (tops (prs qs)) (tops (prs ps))).sum ((lcms (prs qs) : Int) * (lcms (prs ps) : Int))) (((lcms (prs qs) : Int) * (lcms (prs ps) : Int)) / gcdI (dot (tops (prs qs)) (tops (prs ps))).sum ((lcms (prs qs) : Int) * (lcms (prs ps) : Int))) = rat (dotQ qs ps).num (dotQ qs ps).den := by
  have p1 := lcms_pos (prs_pos (qs := qs))
  have p2 := lcms_pos (prs_pos (qs := ps))
  have m1 : ∀ q ∈ qs, q.den ∣ lcms (prs qs) := fun q hq => by
    have := lcms_mem (rs := prs qs) (r := (q.num, (q.den : Int))) (List.mem_map_of_mem (f := fun q : Rat => (q.num, (q.den : Int))) hq)
    exact this
  have m2 : ∀ q ∈ ps, q.den ∣ lcms (prs ps) := fun q hq => by
    have := lcms_mem (rs := prs ps) (r := (q.num, (q.den : Int))) (List.mem_map_of_mem (f := fun q : Rat => (q.num, (q.den : Int))) hq)
    exact this
  have e := divInt_dot h m1 m2 p1 p2
  rw [tops_over, tops_over]
  have z : ((lcms (prs qs) : Int) * (lcms (prs ps) : Int)) = ((lcms (prs qs) * lcms (prs ps) : Nat) : Int) := (Int.natCast_mul ..).symm
  rw [z]
  have lo := low_of (t := (dot (over (lcms (prs qs)) qs) (over (lcms (prs ps)) ps)).sum) (b := ((lcms (prs qs) * lcms (prs ps) : Nat) : Int)) (by have := Nat.mul_pos p1 p2; omega)
  rw [e] at lo
  obtain ⟨a1, a2⟩ := Prod.mk.inj lo
  unfold gcdI
  rw [a1, a2]
section
variable {P : Program} {w : World} {K : PySem.W.Frag} {mg : Str → Option Value} {base : Heap} {f : Addr} {fd : FuncData} {T : List Addr}
theorem ok_product_of_matrices (F : Fun K "product_of_matrices" "product_of_matrices" s_product_of_matrices f fd) (B : Bl mg) (hz : mg "zip" = none) (Fs : Fnn P w K mg base CX0 1 "scaled" ["ratios"] (sp_scaled T)) (Fp : Fnn P w K mg base CX0 2 "_product_of_scaled" ["one", "other"] (sp_product T)) :
    FnOk P w K mg base CX0 3 f fd ["one", "other"] (sp_prod T) := by
  refine F.ok sc_product_of_matrices (fun vs H Q E h => ?_) (fun cdv A outer s H vs Q E hr h => ?_)
  · obtain ⟨_, _, _, _, _, _, _, _, _, rfl, _⟩ := h
    rfl
  obtain ⟨v1, v2, m1, m2, n, D1, N1, D2, N2, rfl, hv1, hv2, ⟨l1, l2, hm1⟩, ⟨_, l3, hm2⟩, hn0, hD1, hD2, hDD, hN1, hN2, ht, q⟩ := h
  have nd := sc_product_of_matrices.nd
  have nn : ∀ b : Addr, b ∉ ([] : List Addr) := fun b => List.not_mem_nil
  refine ⟨_, pss_cons (ps_setLc (i := 2) (own := [("row", 4)]) (g := gName 4) (tt := tYes) (te := tCall (sp_scaled T) [] E0 (tCons (tVar 4) tNil)) rfl nd rfl rfl (sw_true rfl rfl rfl (by decide +kernel)) (pi_tup (pv 0)) (blkOk_by (own := [("row", 4)]) (N := NP) (sc := defScope s_product_of_matrices) (by decide +kernel))
      (fun _ _ _ _ _ => pg_name (i := 4) nd rfl (.inl rfl)) (fun _ _ _ _ _ => pts_nil) (fun _ _ _ _ _ => pe_fn Fs hr (by decide) pass0 (pa_cons (pv 4) pa_nil)))
    (pss_cons (ps_set (i := 3) nd rfl (.inr rfl) (pe_lc (own := [("column", 5)]) (g := gName 5) (tt := tYes) (te := tCall (sp_scaled T) [] E0 (tCons (tVar 5) tNil)) rfl nd (pi_zipN rfl hz (pv 1)) (blkOk_by (own := [("column", 5)]) (N := NP) (sc := defScope s_product_of_matrices) (by decide +kernel))
      (fun _ _ _ _ _ => pg_name (i := 5) nd rfl (.inl rfl)) (fun _ _ _ _ _ => pts_nil) (fun _ _ _ _ _ => pe_fn Fs hr (by decide) pass0 (pa_cons (pv 5) pa_nil))))
    (pss_one (ps_ret (pe_tupleOf rfl B.tuple (pe_lc (own := [("row", 4)]) (g := gName 4) (tt := tYes) (te := tThen (tLc (iList K (tVar 3)) (gName 5) tYes (tCall (sp_product T) [] E0 (tCons (tVar 4) (tCons (tVar 5) tNil))) ([(("column" : Str), 5)].map (·.2))) (kTup K)) rfl nd (pi_list (pv 2)) (blkOk_by (own := [("row", 4)]) (N := NP) (sc := defScope s_product_of_matrices) (by decide +kernel))
      (fun _ _ _ _ _ => pg_name (i := 4) nd rfl (.inr rfl)) (fun _ _ _ _ _ => pts_nil) (fun _ _ _ _ _ => pe_tupleOf rfl B.tuple (pe_lc (own := [("column", 5)]) (g := gName 5) (tt := tYes) (te := tCall (sp_product T) [] E0 (tCons (tVar 4) (tCons (tVar 5) tNil))) rfl nd (pi_list (pv 3)) (blkOk_by (own := [("column", 5)]) (N := NP)
        (sc := { kind := ScopeKind.function, names := [(".0", NameKind.local), ("row", NameKind.cell), ("tuple", NameKind.globalImplicit), ("columns", NameKind.cell)], isGenerator := false, isCoroutine := false })
        (scope := { kind := ScopeKind.function, names := [(".0", NameKind.local), ("column", NameKind.local), ("_product_of_scaled", NameKind.globalImplicit), ("row", NameKind.free)], isGenerator := false, isCoroutine := false }) (by decide +kernel))
        (fun _ _ _ _ _ => pg_name (i := 5) nd rfl (.inl rfl)) (fun _ _ _ _ _ => pts_nil) (fun _ _ _ _ _ => pe_fn Fp hr (by decide) pass0 (pa_cons (pv 4) (pa_cons (pv 5) pa_nil)))))))))), ?_⟩
  have hD1' : D1 < 1073741824 := Nat.lt_of_le_of_lt (Nat.le_mul_of_pos_right D1 hD2) hDD
  have hD2' : D2 < 1073741824 := Nat.lt_of_le_of_lt (Nat.le_mul_of_pos_left D2 hD1) hDD
  obtain ⟨a1, xs1, rfl, ea1, _, dx1⟩ := dv_tup hv1
  rw [matQ_map] at dx1
  have lx1 := dx1.length
  rw [List.length_map] at lx1
  obtain ⟨a2, xs2, rfl, ea2, _, dx2⟩ := dv_tup hv2
  rw [matQ_map] at dx2
  refine ⟨_, rfl, a1, rfl, ⟨_, SqT.of ea1⟩, fun D hD => ?_⟩
  refine lc_dv (T := T) (M := []) (fun j => scQ (m1.getD j [])) (walk_tup (xs := xs1)) (fun H' g' => SqT.of (g'.tup ea1 (nn _))) ht Go.refl hD (by rw [sizeLine_eq]; omega) (fun j v H6 H7 R hj g6 t6 hne y hR => ?_) (fun H6 ys1 g6 t6 ed6 dy1 => ?_)
  · obtain ⟨rfl, ey⟩ := y
    obtain ⟨d, ed, hx⟩ := ((dx1.hide hD).go g6.of0).get ey
    rw [List.getElem?_map] at ed
    obtain ⟨r, er, rfl⟩ := Option.map_eq_some_iff.mp ed
    have e : m1.getD j [] = r := by rw [List.getD_eq_getElem?_getD, er] <;> rfl
    obtain ⟨hl, hb⟩ := hm1 r (List.mem_of_getElem? er)
    rw [e] at hR
    refine ⟨rfl, _, rfl, [D], _, prs r, rfl, hx, by rw [prs, List.length_map]; omega, prs_pos, ?_, t6, fun b hb' => by rw [List.mem_singleton.mp hb']; exact hne, fun v' H3 g3 t3 dv => hR v' H3 g3 dv⟩
    exact Nat.lt_of_le_of_lt (Nat.le_of_dvd hD1 (lcms_dvd fun q hq => (hb q hq).1)) hD1'
  obtain ⟨as, rows, rfl, la, RV, eas⟩ := rows_of (dx2.go g6)
  have lr := RV.len
  have ea2' := g6.tup ea2 (nn _)
  have wide := RV.wide fun q hq => (hm2 q hq).1
  have main : ∀ (Qc : VK), (∀ D2 H' ys, Go T [] H6 H' → Tabs T H' → H' D2 = some (.lst ys) → DvAll [D2] H' ys ((List.range n).map fun j => scQ (colQ m2 j)) → Qc (.ref D2) H') →
      tLc (iZipN K (tVar 1)) (gName 5) tYes (tCall (sp_scaled T) [] E0 (tCons (tVar 5) tNil)) ([(("column" : Str), 5)].map (·.2)) [some (V.ref a1), some (.ref a2), some (.ref D), none, none, none] H6 Qc := fun Qc hQc => by
    refine ⟨_, rfl, a2, as, rfl, .inl (SqT.of ea2'), fun b hb => ?_, by omega, fun D2 hW2 => ?_⟩
    · obtain ⟨j, hj⟩ := List.mem_iff_getElem?.mp hb
      obtain ⟨hjl, _⟩ := List.getElem?_eq_some_iff.mp hj
      exact ⟨_, SqT.of (eas j _ _ hj (List.getElem?_eq_getElem (show j < rows.length by omega)))⟩
    · have stepW : ∀ (j : Nat) (v : V) (H8 H9 : Hp) (R : VK), j < n → Go T [] H6 H8 → Tabs T H8 → H8 D2 ≠ none → (∃ p : Addr, v = .ref p ∧ H8 p = none ∧ H9 = upd H8 p (.tup (ZN.col rows j))) → (∀ v' H3, Go T [] H8 H3 → Dv [D2] H3 v' (scQ (colQ m2 j)) → R v' H3) →
          gName 5 v (wipe [some (V.ref a1), some (.ref a2), some (.ref D), none, none, none] [5]) H9 fun σ2 H2 => wipe σ2 [5] = wipe [some (V.ref a1), some (.ref a2), some (.ref D), none, none, none] [5] ∧ tCall (sp_scaled T) [] E0 (tCons (tVar 5) tNil) σ2 H2 R := fun j v H8 H9 R hj g8 t8 hne ⟨p, e1, hp, e2⟩ hR => by
        subst e1 e2
        have u := Go.new (T := T) (M := []) (o := .tup (ZN.col rows j)) hp
        have dc : DvAll [D2] (upd H8 p (.tup (ZN.col rows j))) (ZN.col rows j) ((prs (colQ m2 j)).map fun r => rat r.1 r.2) := RV.col (fun dv => ((dv.hide hW2).go g8.of0).go u.of0) fun q hq => by rw [(hm2 q hq).1]; exact hj
        refine ⟨rfl, _, rfl, [D2], _, prs (colQ m2 j), rfl, .tup upd_same (fun z => by rw [List.mem_singleton.mp z] at hp; exact hne hp) dc, by rw [prs, List.length_map, colQ_len]; omega, prs_pos, ?_, u.tb t8, fun b hb' => by rw [List.mem_singleton.mp hb', upd_ne (fun z => by rw [z] at hne; exact hne hp)]; exact hne, fun v' H3 g3 t3 dv => hR v' H3 (u.trans g3) dv⟩
        exact Nat.lt_of_le_of_lt (Nat.le_of_dvd hD2 (lcms_dvd fun q hq => (colQ_bd hm2 hj q hq).1)) hD2'
      by_cases hne : as = []
      · subst hne
        have hm0 : m2 = [] := List.length_eq_zero_iff.mp (by rw [← lr, ← la] <;> rfl)
        have e0 := hn0 hm0
        subst e0
        exact lc_dv (T := T) (M := []) (fun j => scQ (colQ m2 j)) walkZN0 (fun _ _ => True.intro) t6 Go.refl hW2 (by rw [sizeLine_eq]; omega) (fun j v H8 H9 R hj => absurd hj (Nat.not_lt_zero _)) (fun H' ys g t e d => hQc D2 H' ys g t e d)
      · exact lc_dv (T := T) (M := []) (fun j => scQ (colQ m2 j)) (walkZN la hne wide) (fun H' g' j a r h1 h2 => SqT.of (g'.tup (eas j a r h1 h2) (nn _))) t6 Go.refl hW2 (by rw [sizeLine_eq]; omega) stepW (fun H' ys g t e d => hQc D2 H' ys g t e d)
  refine main (fun x H1 => gName 3 x _ H1 _) fun E2 H7 ys2 g7 t7 ee2 dy2 => ?_
  have ed7 := g7.lst ed6 (nn _)
  have dy1' := (dy1.less (M' := []) (by simp)).go g7
  have dy2' := dy2.less (M' := []) (by simp)
  have ly1 := dy1'.length
  rw [List.length_map, List.length_range] at ly1
  have ly2 := dy2'.length
  rw [List.length_map, List.length_range] at ly2
  refine ⟨_, rfl, D, rfl, ⟨_, SqL.of ed7⟩, fun D3 hD3 => ?_⟩
  refine lc_dv (T := T) (M := []) (fun i => rowQ ((List.range n).map fun k => dotQ (m1.getD i []) (colQ m2 k))) (walk_list (xs := ys1)) (fun H' g' => SqL.of (g'.lst ed7 (nn _))) t7 Go.refl hD3 (by rw [sizeLine_eq]; omega) (fun i v H8 H9 R hi g8 t8 hne y hR => ?_) (fun H8 zs g8 t8 ez dz => ?_)
  · obtain ⟨rfl, ey⟩ := y
    obtain ⟨d, ed, hx⟩ := ((dy1'.hide hD3).go g8.of0).get ey
    rw [List.getElem?_map, List.getElem?_range (by omega)] at ed
    cases ed
    have hi1 : i < m1.length := by omega
    have e : m1.getD i [] = m1[i] := by rw [List.getD_eq_getElem?_getD, List.getElem?_eq_getElem hi1] <;> rfl
    obtain ⟨hl, hb⟩ := hm1 m1[i] (List.getElem_mem _)
    have hx : Dv [D3] H9 v (scQ (m1.getD i [])) := hx
    rw [e] at hR hx
    refine ⟨rfl, _, rfl, E2, rfl, ⟨_, SqL.of (g8.lst ee2 (nn _))⟩, fun D4 hD4 => ?_⟩
    refine lc_dv (T := T) (M := [D3]) (fun k => rat (dotQ m1[i] (colQ m2 k)).num (dotQ m1[i] (colQ m2 k)).den) (walk_list (xs := ys2)) (fun H' g' => SqL.of (g'.lst (g8.lst ee2 (nn _)) (nn _))) t8 Go.refl hD4 (by rw [sizeLine_eq]; omega) (fun k v2 H10 H11 R2 hk g10 t10 hne4 y2 hR2 => ?_) (fun H10 ws g10 t10 ew dw => ?_)
    · obtain ⟨rfl, ey2⟩ := y2
      obtain ⟨d2, ed2, hx2⟩ := ((((dy2'.hide hD3).go g8.of0).hide hD4).go g10.of0).get ey2
      rw [List.getElem?_map, List.getElem?_range (by omega)] at ed2
      cases ed2
      have hk' : k < n := by omega
      have hb2 := colQ_bd hm2 hk'
      have p1 := lcms_pos (prs_pos (qs := m1[i]))
      have p2 := lcms_pos (prs_pos (qs := colQ m2 k))
      have q1 := Nat.le_of_dvd hD1 (lcms_dvd fun q hq => (hb q hq).1)
      have q2 := Nat.le_of_dvd hD2 (lcms_dvd fun q hq => (hb2 q hq).1)
      have q12 := Nat.mul_le_mul q1 q2
      have ll : m1[i].length = (colQ m2 k).length := by rw [hl, colQ_len]
      refine ⟨rfl, _, rfl, _, rfl, [D4, D3], _, _, tops (prs m1[i]), tops (prs (colQ m2 k)), _, _, rfl, (hx.hide hD4).go g10.of0, hx2, ?_, ?_, ?_, ?_, ⟨by omega, by omega⟩, by omega, ?_, t10, fun b hb' => ?_, fun v' H3 g3 t3 dv => hR2 v' H3 g3 ?_⟩
      · rw [tops_over, tops_over, over_len, over_len, ll]
      · rw [tops_over, over_len]; omega
      · rw [tops_over]
        exact fun t ht' => log2_le (over_le (fun q hq => (hb q hq).2) t ht') hN1 (by omega)
      · rw [tops_over]
        exact fun t ht' => log2_le (over_le (fun q hq => (hb2 q hq).2) t ht') hN2 (by omega)
      · rw [← Int.natCast_mul]
        omega
      · rcases List.mem_cons.mp hb' with rfl | hb'
        · exact hne4
        · rw [List.mem_singleton.mp hb']
          cases e3 : H9 D3 with
          | none => exact absurd e3 hne
          | some o =>
            intro z
            exact hne (g10.al _ z)
      · rw [← prod_entry ll]
        exact dv
    · refine .inl ⟨D4, ws, rfl, SqL.of ew, fun p hp => ?_⟩
      have u := Go.new (T := T) (M := []) (o := .tup ws) hp
      refine hR _ _ (g10.trans u) (.tup upd_same (fun z => ?_) ?_)
      · rw [List.mem_singleton.mp z] at hp
        exact hne (g10.al _ hp)
      · have e5 : (prs ((List.range n).map fun k => dotQ m1[i] (colQ m2 k))).map (fun r => rat r.1 r.2) = (List.range ys2.length).map fun k => rat (dotQ m1[i] (colQ m2 k)).num (dotQ m1[i] (colQ m2 k)).den := by
          rw [prs, List.map_map, List.map_map, ly2]
          rfl
        rw [e5]
        exact (dw.less (M' := [D3]) (by simp)).go u.of0
  · refine .inl ⟨D3, zs, rfl, SqL.of ez, fun p hp => ?_⟩
    have u := Go.new (T := T) (M := []) (o := .tup zs) hp
    have G := ((g6.trans g7).trans g8).trans u
    refine q _ _ G (G.tb ht) (.tup upd_same (nn _) ?_)
    rw [matQ_map]
    have e5 : (prodQ m1 m2 n).map rowQ = (List.range ys1.length).map fun i => rowQ ((List.range n).map fun k => dotQ (m1.getD i []) (colQ m2 k)) := by
      rw [ly1, lx1, prodQ, List.map_map]
      refine List.ext_getElem? fun j => ?_
      rw [List.getElem?_map, List.getElem?_map]
      by_cases hj : j < m1.length
      · rw [List.getElem?_range hj, List.getElem?_eq_getElem hj]
        simp [List.getD_eq_getElem?_getD, List.getElem?_eq_getElem hj]
      · rw [List.getElem?_eq_none (l := m1) (by omega), List.getElem?_eq_none (by rw [List.length_range]; omega)]
        rfl
    rw [e5]
    exact (dz.less (M' := []) (by simp)).go u
end
end KM
set_option Elab.async false
set_option linter.all false
set_option maxRecDepth 100000
set_option maxHeartbeats 2000000
/-! own words, 36: calls with keywords alone, in the parameters' order turned round -/
namespace SL
open PySem PySem.Spec PyProof.Rows L2 GxR NdefX GA
/-- a def as it is called by all its keywords, the last parameter's first -/
structure Fnr (P : Program) (w : World) (K : PySem.W.Frag) (mg : Str → Option Value) (base : Heap) (CX : CXT) (k : Nat) (x : Str) (ps : List Str) (sp : Sp) : Prop where
  ex : ∃ (f : Addr) (fd : FuncData), FnOk P w K mg base CX k f fd ps sp ∧ mg x = some (.ref f) ∧ PySem.W.keepIn K (.ref f) = true ∧ ∀ (s : Shared) (ws : List Value), K.In s.heap → ws.length = ps.length → BindsTo s fd ⟨[], ps.reverse.zip ws⟩ (ps.zip ws.reverse)
section
variable {X : Cx} {CX : CXT} {k j : Nat} {x : Str} {ps : List Str} {sp : Sp} {e : Expr} {es : List Expr} {kws : List Keyword} {t tk : TA} {p pos : Pos} {E : L2.St → XK} {f : Addr} {fd : FuncData}
def tCallR (sp : Sp) (E : L2.St → XK) (tk : TA) : TE := fun σ H Q => tk σ H fun vs H1 => sp vs.reverse H1 Q (E σ)
theorem run_fr {pins : List (Addr × Obj)} {σ : L2.St} {H : Hp} {s : Shared} {Q : VK} {us : List Value} {vs : List V} (F : FnOk X.prog X.w X.K X.mg X.base CX k f fd ps sp) (hr : Room k X.A)
    (hb : ∀ (s : Shared) (ws : List Value), X.K.In s.heap → ws.length = ps.length → BindsTo s fd ⟨[], ps.reverse.zip ws⟩ (ps.zip ws.reverse)) (hx : PassesAt CX X σ (E σ))
    (I : Inv X pins σ H s) (r : Vals vs us) (h : sp vs.reverse H Q (E σ)) : wpAny (model X.prog X.w) X.A (call (.ref f) [] (ps.reverse.zip us)) (EP X pins σ Q) X.xe s := by
  have hl : us.length = ps.length := by rw [← r.length, ← List.length_reverse]; exact F.len _ _ _ _ h
  refine wpAny_call (codeAny_mono (F.run X.A X.stack s H ⟨[], ps.reverse.zip us⟩ us.reverse vs.reverse Q (E σ) hr I.env0 (hb s us I.kIn hl) r.reverse h) fun r s' hq => ?_)
  cases r with
  | error e => exact hx pins H s e s' I hq
  | ok fl =>
    cases fl with
    | ret u => exact I.after hq
    | next => exact False.elim hq
    | brk => exact False.elim hq
    | cont => exact False.elim hq
/-- f(b = v, a = u) -/
theorem pe_kwR (F : Fnr X.prog X.w X.K X.mg X.base CX k x ps sp) (hr : Room j X.A) (hk : k ≤ j) (hx : ∀ σ, PassesAt CX X σ (E σ)) (hkw : PK X kws tk) (hg : Gl X x := by rfl)
    (hall : (backToKw pos (keywordEach kws X.env)).all (·.1.isSome) = true := by rfl) (hks : (backToKw pos (keywordEach kws X.env)).filterMap (·.1) = ps.reverse := by rfl) (hdb : (x == ("__debug__" : Str)) = false := by decide)
    (hpl : ((backTo pos (starEach [] X.env)).any (·.1) || (backToKw pos (keywordEach kws X.env)).any (·.1.isNone)) = false := by rfl) :
    PE X (.Call (.Name x p) [] kws pos) (tCallR sp E tk) := by
  obtain ⟨f, fd, G, m, kp, b⟩ := F.ex
  refine ⟨fun pins s σ H Q I h => ?_⟩
  refine wpAny_Call_Name_kw (ld_glob I hg m ?_ hdb)
  refine PySem.W.callWith_KW0 (h₀ := X.base) I.ok.mod.kin kp hall ?_ hpl
  refine thn (hkw.run pos pins s σ H _ I h) fun ws s2 ⟨zs, H2, I2, rz, q2⟩ => ⟨I2.kIn, ?_⟩
  rw [hks]
  exact run_fr G (hr.mono hk) b (hx σ) I2 rz q2
end
end SL
set_option Elab.async false
set_option linter.all false
set_option maxRecDepth 100000
set_option maxHeartbeats 8000000
/-! k41: times_matrix -/
namespace KM
open PySem PySem.Spec PyProof.Rows L2 GxR NdefX GA SL ZN RZ
abbrev s_times_matrix : Stmt := top 13
theorem sc_times_matrix : FnScope ["one", "other"] ["one", "other"] (defScope s_times_matrix) := ⟨rfl, rfl, rfl, by decide +kernel, rfl, by decide +kernel, by decide +kernel⟩
theorem low_q (q : Rat) : Low q.num q.den := ⟨by have := q.den_pos; omega, q.reduced⟩
theorem matOk_q {m : MatQ} {n D N : Nat} (h : MQ m n D N) : MatOk (m.map prs) n := by
  obtain ⟨h1, h2, h3⟩ := h
  refine ⟨by rw [List.length_map]; exact h1, fun r hr => ?_⟩
  obtain ⟨s, hs, rfl⟩ := List.mem_map.mp hr
  have hl : (prs s).length = n := by rw [prs, List.length_map]; exact (h3 s hs).1
  refine ⟨hl, by omega, fun t ht => ?_⟩
  obtain ⟨q, _, rfl⟩ := List.mem_map.mp ht
  exact low_q q
section
variable {P : Program} {w : World} {K : PySem.W.Frag} {mg : Str → Option Value} {base : Heap} {f CU : Addr} {fd : FuncData} {T : List Addr}
theorem ok_times_matrix (F : Fun K "times_matrix" "times_matrix" s_times_matrix f fd) (B : Bl mg) (XU : Xc K mg "Unlike" CU) (Fd : Fnn P w K mg base CX0 7 "demand_matrix" ["rows"] (sp_demand_matrix T)) (Fp : Fnn P w K mg base CX0 3 "product_of_matrices" ["one", "other"] (sp_prod T)) :
    FnOk P w K mg base CX0 8 f fd ["one", "other"] (sp_prod T) := by
  refine F.ok sc_times_matrix (fun vs H Q E h => ?_) (fun cdv A outer s H vs Q E hr h => ?_)
  · obtain ⟨_, _, _, _, _, _, _, _, _, rfl, _⟩ := h
    rfl
  obtain ⟨v1, v2, m1, m2, n, D1, N1, D2, N2, rfl, hv1, hv2, hm1, hm2, hn0, hD1, hD2, hDD, hN1, hN2, ht, q⟩ := h
  have nn : ∀ b : Addr, b ∉ ([] : List Addr) := fun b => List.not_mem_nil
  refine ⟨_, pss_cons (ps_expr (pe_fn Fd hr (by decide) pass0 (pa_cons (pv 0) pa_nil))) (pss_cons (ps_expr (pe_fn Fd hr (by decide) pass0 (pa_cons (pv 1) pa_nil)))
    (pss_cons (ps_if (PW.pt (pw_and (pt_cmpR op_gt (pe_lenq B (pv 0)) pe_int (nomark _)) (pw_and1 (pt_cmpR op_ne (pe_lenq B (pe_ix ix_tup (pv 0) pe_int (fun _ _ => rfl))) (pe_lenq B (pv 1)) (nomark _))))) (pss_one (ps_raiseX rfl XU LamX.takes0)) pss_nil)
    (pss_one (ps_ret (pe_fn Fp hr (by decide) pass0 (pa_cons (pv 0) (pa_cons (pv 1) pa_nil))))))), ?_⟩
  refine ⟨_, rfl, v1, m1.map prs, _, rfl, hv1, matOk_q hm1, ht, fun H2 g2 t2 => ?_⟩
  have hv1' := hv1.go g2
  have hv2' := hv2.go g2
  refine ⟨_, rfl, v2, m2.map prs, _, rfl, hv2', matOk_q hm2, t2, fun H3 g3 t3 => ?_⟩
  have hv1'' := hv1'.go g3
  have hv2'' := hv2'.go g3
  have fin : ∀ (Q2 : VK), Q2 = Q → (tCall (sp_prod T) [] E0 (tCons (tVar 0) (tCons (tVar 1) tNil))) [some v1, some v2] H3 Q2 := fun Q2 e => by
    subst e
    exact ⟨_, rfl, _, rfl, v1, v2, m1, m2, n, D1, N1, D2, N2, rfl, hv1'', hv2'', hm1, hm2, hn0, hD1, hD2, hDD, hN1, hN2, t3, fun v' H' g' t' dv => q v' H' ((g2.trans g3).trans g') t' dv⟩
  obtain ⟨a1, xs1, rfl, ea1, _, dx1⟩ := dv_tup hv1''
  rw [matQ_map] at dx1
  have lx1 := dx1.length
  rw [List.length_map] at lx1
  obtain ⟨a2, xs2, rfl, ea2, _, dx2⟩ := dv_tup hv2''
  have lx2 := dx2.length
  rw [List.length_map, List.length_map] at lx2
  refine ⟨_, rfl, a1, xs1, rfl, .inr (SqT.of ea1), _, _, rfl, rfl, _, rfl, ?_⟩
  cases m1 with
  | nil =>
    refine if_false_of (by rw [lx1]; rfl) ?_
    exact iteF (fin _ rfl)
  | cons r m1 =>
    refine if_true_of (decide_eq_true (by rw [lx1, List.length_cons]; omega)) ?_
    cases dx1 with
    | @cons x xs d ds hx hxs =>
    obtain ⟨b, ys, rfl, eb, nb, dy⟩ := dv_tup hx
    have ly := dy.length
    rw [List.length_map, prs, List.length_map, (hm1.2.2 r List.mem_cons_self).1] at ly
    refine ⟨_, rfl, a1, _, 0, _, rfl, rfl, SqT.of ea1, atI_nat (j := 0) rfl, b, ys, rfl, .inr (SqT.of eb), _, rfl, a2, xs2, rfl, .inr (SqT.of ea2), rfl, _, rfl, ?_⟩
    refine if_false_of (by rw [ly, lx2]; simp) ?_
    exact fin _ rfl
end
end KM
set_option Elab.async false
set_option linter.all false
set_option maxRecDepth 100000
set_option maxHeartbeats 8000000
/-! k41: _law_cup, _law_sip -/
namespace KM
open PySem PySem.Spec PyProof.Rows L2 GxR NdefX GA SL ZN RZ
abbrev s_law_cup : Stmt := top 20
abbrev s_law_sip : Stmt := top 21
theorem sc_law_cup : FnScope ["script", "blend", "cell"] ["script"] (defScope s_law_cup) := ⟨rfl, rfl, rfl, by decide +kernel, rfl, by decide +kernel, by decide +kernel⟩
theorem sc_law_sip : FnScope ["cup", "many", "size", "drawn"] ["cup", "many"] (defScope s_law_sip) := ⟨rfl, rfl, rfl, by decide +kernel, rfl, by decide +kernel, by decide +kernel⟩
/-- the cup at a, its cells at l; drawn at most k times behind them -/
def CupAt (a l : Addr) (H : Hp) (k : Int) : Prop := ∃ (ns : List Int) (z s c : Int), a ≠ l ∧ H a = some (.lst [.int z, .int s, .int c, .ref l]) ∧ H l = some (.lst (ns.map V.int)) ∧ 0 ≤ z ∧ 0 ≤ s ∧ s < 2147483648 ∧ 0 ≤ c ∧ c ≤ k
def sp_cup (K : PySem.W.Frag) (T : List Addr) : Sp := fun vs H Q _ => ∃ (b : Addr) (ns : List Int), vs = [.ref b] ∧ SqL K H b (ns.map V.int) ∧ ns.length ≤ 1000000 ∧ Tabs T H ∧ ∀ a l H', H a = none → H l = none → CupAt a l H' 0 → Go T [] H H' → Tabs T H' → Q (.ref a) H'
def sp_sip (T : List Addr) : Sp := fun vs H Q _ => ∃ (a l : Addr) (k many : Int), vs = [.ref a, .int many] ∧ 0 < many ∧ many.natAbs < 2 ^ 8000 ∧ k ≤ 1099511627776 ∧ CupAt a l H k ∧ Tabs T H ∧ ∀ i H', 0 ≤ i → i < many → CupAt a l H' (k + 1) → Go T [a, l] H H' → Tabs T H' → Q (.int i) H'
section
variable {P : Program} {w : World} {K : PySem.W.Frag} {mg : Str → Option Value} {base : Heap} {f c CK CN CT CR : Addr} {fd : FuncData} {T : List Addr}
theorem ok_law_cup (F : Fun K "_law_cup" "_law_cup" s_law_cup f fd) (B : Bl mg) : FnOk P w K mg base CX0 1 f fd ["script"] (sp_cup K T) := by
  have nd := sc_law_cup.nd
  refine F.ok sc_law_cup (fun vs H Q E h => ?_) (fun cdv A outer s H vs Q E hr h => ?_)
  · obtain ⟨_, _, rfl, _⟩ := h
    rfl
  obtain ⟨b, ns, rfl, hb, hl, ht, q⟩ := h
  have nn : ∀ b : Addr, b ∉ ([] : List Addr) := fun b => List.not_mem_nil
  refine ⟨_, (pss_cons (ps_set (i := 1) nd rfl (Or.inl rfl) pe_int)
    (pss_cons (ps_for PassesOwn.never rfl (pi_list (pv 0)) (pg_name (i := 2) nd rfl (Or.inl rfl))
    (pss_one (ps_set (i := 1) nd rfl (Or.inl rfl) (pe_op op_add (pe_op op_mod (pe_toInt B (pe_op op_add (pe_op op_mul (pv 1) pe_int) (pv 2))) pe_int) pe_int))))
    (pss_one (ps_ret (pe_lst (pa_cons pe_int (pa_cons (pv 1) (pa_cons pe_int (pa_cons (pe_toList B (pv 0)) pa_nil)))))))))
    , ?_⟩
  refine ⟨_, rfl, b, rfl, ⟨_, hb⟩, ?_⟩
  refine for_it (n := (ns.map V.int).length) walk_list (fun i σ H' => H' = H ∧ ∃ (s : Int) (p : Option V), σ = [some (.ref b), some (.int s), p] ∧ 0 ≤ s ∧ s < 2147483648) ⟨rfl, 1, none, rfl, by decide, by decide⟩ (fun i σ H' _ h => by rw [h.1]; exact hb) (fun i x σ H' H'' hi h y => ?_) (fun σ H' h => ?_)
  · obtain ⟨rfl, s1, p, rfl, a1, a2⟩ := h
    obtain ⟨rfl, ex⟩ := y
    rw [List.getElem?_map] at ex
    obtain ⟨z, _, rfl⟩ := Option.map_eq_some_iff.mp ex
    refine ⟨_, rfl, _, _, rfl, rfl, .inl ⟨by omega, by omega⟩, _, rfl, _, _, rfl, rfl, .inl ⟨_, rfl, _, _, rfl, rfl, (show (0 : Int) < 2147483629 by decide), _, _, rfl, rfl, ?_⟩⟩
    have b1 := Int.emod_nonneg (s1 * 31 + z) (show (2147483629 : Int) ≠ 0 by decide)
    have b2 := Int.emod_lt_of_pos (s1 * 31 + z) (show (0 : Int) < 2147483629 by decide)
    exact ⟨rfl, _, _, rfl, by omega, by omega⟩
  obtain ⟨rfl, s1, p, rfl, a1, a2⟩ := h
  refine ⟨_, rfl, _, rfl, b, _, rfl, .inl hb, fun l hl' => ?_⟩
  have gl := Go.new (T := T) (M := []) (o := .lst (ns.map V.int)) hl'
  refine ⟨by show 4 ≤ sizeLine; decide, fun p hp => ?_⟩
  have gn := Go.new (T := T) (M := []) (o := .lst [.int 0, .int s1, .int 0, .ref l]) hp
  exact q p l _ (gl.al _ hp) hl' ⟨ns, 0, s1, 0, (ne_of_none (upd_same (H := H') (a := l)) hp).symm, upd_same, gn.lst upd_same (nn _), by decide, a1, a2, by decide, by decide⟩ (gl.trans gn) ((gl.trans gn).tb ht)
theorem ok_law_sip (F : Fun K "_law_sip" "_law_sip" s_law_sip f fd) (B : Bl mg) (habs : mg "abs" = none) : FnOk P w K mg base CX0 1 f fd ["cup", "many"] (sp_sip T) := by
  have nd := sc_law_sip.nd
  refine F.ok sc_law_sip (fun vs H Q E h => ?_) (fun cdv A outer s H vs Q E hr h => ?_)
  · obtain ⟨_, _, _, _, rfl, _⟩ := h
    rfl
  obtain ⟨a, l, k, many, rfl, m1, m2, hk, ⟨ns, z0, s0, c0, hal, ea, el, z1, s1, s2, c1, c2⟩, ht, q⟩ := h
  have nn : ∀ b : Addr, b ∉ ([] : List Addr) := fun b => List.not_mem_nil
  have hu : (A.deeper (envOfC "_law_sip" (defScope s_law_sip) s.heap.objs.size f cdv)).units < cLine := by
    have := hr.un
    omega
  refine ⟨_, (pss_cons (ps_if (PW.pt (pw_and (pt_cmpR op_eq (pe_ix ix_list (pv 0) pe_int (fun _ _ => rfl)) pe_int (nomark _)) (pw_and1 (pt_cmpR (op_neNil hu) (pe_ix ix_list (pv 0) pe_int (fun _ _ => rfl)) (pe_lst pa_nil) (nomark _)))))
      (pss_cons (ps_set (i := 2) nd rfl (Or.inl rfl) (pe_callB call_abs rfl habs (by decide +kernel) (pa_cons (pe_toInt B (pe_bm PySem.F.plainAttrs_list PySem.F.slot_list_pop PySem.F.type_list_pop mt_popAt (pe_ix ix_list (pv 0) pe_int (fun _ _ => rfl)) (pa_cons pe_int pa_nil))) pa_nil) (by decide) (by decide)))
      (pss_one (ps_asg (pe_ifExp (pt_cmpR op_ge (pv 2) (pe_op op_pow pe_int pe_int) (nomark _)) (pv 2) (pe_op op_add (pe_op op_mul (pe_op op_fdiv (pe_op op_mul (pv 2) (pv 2)) pe_int) pe_int) (pv 2))) (pg_sub (pv 0) pe_int set_list)))) pss_nil)
    (pss_cons (ps_if (pt_cmpR op_gt (pe_ix ix_list (pv 0) pe_int (fun _ _ => rfl)) pe_int (nomark _)) (pss_cons (ps_set (i := 3) nd rfl (Or.inl rfl) (pe_op op_mod (pe_toInt B (pe_ix ix_list (pv 0) pe_int (fun _ _ => rfl))) (pv 1)))
      (pss_cons (ps_asg (pe_op op_fdivW (pe_ix ix_list (pv 0) pe_int (fun _ _ => rfl)) (pv 1)) (pg_sub (pv 0) pe_int set_list))
      (pss_one (ps_ret (pv 3))))) pss_nil)
    (pss_cons (ps_asg (pe_op op_add (pe_ix ix_list (pv 0) pe_int (fun _ _ => rfl)) pe_int) (pg_sub (pv 0) pe_int set_list))
    (pss_cons (ps_asg (pe_op op_mod (pe_toInt B (pe_op op_add (pe_op op_add (pe_op op_mul (pe_ix ix_list (pv 0) pe_int (fun _ _ => rfl)) pe_int) (pe_op op_mul (pe_op op_mul (pe_ix ix_list (pv 0) pe_int (fun _ _ => rfl)) (pe_ix ix_list (pv 0) pe_int (fun _ _ => rfl))) pe_int)) pe_int)) pe_int) (pg_sub (pv 0) pe_int set_list))
    (pss_one (ps_ret (pe_op op_mod (pe_op op_fdiv (pe_op op_mod (pe_toInt B (pe_op op_mul (pe_ix ix_list (pv 0) pe_int (fun _ _ => rfl)) (pe_op op_add (pe_op op_fdiv (pe_ix ix_list (pv 0) pe_int (fun _ _ => rfl)) pe_int) pe_int))) pe_int) pe_int) (pv 1)))))))), ?_⟩
  have ma : a ∈ [a, l] := by simp
  have ml : l ∈ [a, l] := by simp
  refine ⟨_, rfl, a, _, 0, _, rfl, rfl, SqL.of ea, rfl, rfl, _, rfl, ?_⟩
  by_cases hz : z0 = 0
  case' neg =>
    refine if_false_of (decide_eq_false (fun e => hz (by injection e))) (iteF ?_)
    obtain ⟨ns', EL⟩ : ∃ ns' : List Int, H l = some (.lst (ns'.map V.int)) := ⟨ns, el⟩
    have E := ea
    have G : Go T [a, l] H H := Go.refl
    have Z := z1
    obtain ⟨zz, hzz⟩ : ∃ zz : Int, zz = z0 := ⟨_, rfl⟩
  case' pos =>
    subst hz
    refine if_true_of (by rfl) ?_
    refine ⟨_, rfl, a, _, 3, _, rfl, rfl, SqL.of ea, rfl, by show 0 ≤ sizeLine; omega, fun e1 he1 => ?_⟩
    have g1 : Go T [a, l] H (upd H e1 (.lst [])) := Go.new he1
    have na : a ≠ e1 := ne_of_none ea he1
    have nl : l ≠ e1 := ne_of_none el he1
    have ea1 : upd H e1 (.lst []) a = some (.lst [.int 0, .int s0, .int c0, .ref l]) := by rw [upd_ne na]; exact ea
    have el1 : upd H e1 (.lst []) l = some (.lst (ns.map V.int)) := by rw [upd_ne nl]; exact el
    refine ⟨l, e1, ns.map V.int, rfl, rfl, .inl ⟨SqL.of el1, SqL.of upd_same⟩, _, rfl, ?_⟩
    rcases ns with _ | ⟨x, r⟩
    case' nil =>
      refine iteF ?_
      obtain ⟨ns', EL⟩ : ∃ ns' : List Int, upd H e1 (.lst []) l = some (.lst (ns'.map V.int)) := ⟨[], el1⟩
      have E := ea1
      have G := g1
      have Z := z1
      obtain ⟨zz, hzz⟩ : ∃ zz : Int, zz = 0 := ⟨_, rfl⟩
    case' cons =>
      refine iteT ?_
      have hix : ixN ((x :: r).map V.int).length 0 = some 0 := by
        unfold ixN
        rw [if_pos (by decide), if_pos (by rw [List.length_map, List.length_cons]; omega)] <;> rfl
      refine ⟨_, rfl, a, _, 3, _, rfl, rfl, SqL.of ea1, rfl, .inl ⟨rfl, _, SqL.of el1⟩, l, _, 0, 0, .int x, rfl, rfl, el1, by decide, by decide, (ixN_seq hix).1, rfl, .inl ⟨_, rfl, _, rfl, ?_⟩⟩
      have g2 := g1.trans (Go.set (T := T) (M := [a, l]) (o := .lst (r.map V.int)) el1 (fun _ z => by cases z) ml)
      have ea2 : upd (upd H e1 (.lst [])) l (.lst (r.map V.int)) a = some (.lst [.int 0, .int s0, .int c0, .ref l]) := by rw [upd_ne hal]; exact ea1
      have sx : 0 ≤ (if x < 0 then -x else x) := by split <;> omega
      generalize (if x < 0 then -x else x) = sz at sx ⊢
      refine ⟨_, rfl, _, _, rfl, rfl, ⟨by decide, by decide, by decide⟩, _, _, rfl, rfl, _, rfl, ?_⟩
      by_cases hs : (1000000000000000000 : Int) ≤ sz
      case' pos =>
        refine if_true_of (decide_eq_true (show (10 : Int) ^ ((18 : Int).toNat) ≤ sz from hs)) ?_
        refine ⟨_, rfl, _, rfl, a, _, 0, 0, rfl, rfl, ea2, rfl, ?_⟩
        have G := g2.trans (Go.set (T := T) (M := [a, l]) (o := .lst [.int sz, .int s0, .int c0, .ref l]) ea2 (fun _ z => by cases z) ma)
        have E : upd (upd (upd H e1 (.lst [])) l (.lst (r.map V.int))) a (.lst [.int sz, .int s0, .int c0, .ref l]) a = some (.lst [.int sz, .int s0, .int c0, .ref l]) := upd_same
        obtain ⟨ns', EL⟩ : ∃ ns' : List Int, upd (upd (upd H e1 (.lst [])) l (.lst (r.map V.int))) a (.lst [.int sz, .int s0, .int c0, .ref l]) l = some (.lst (ns'.map V.int)) := ⟨r, by rw [upd_ne hal.symm]; exact upd_same⟩
        have Z := sx
        obtain ⟨zz, hzz⟩ : ∃ zz : Int, zz = sz := ⟨_, rfl⟩
      case' neg =>
        refine if_false_of (decide_eq_false (show ¬ (10 : Int) ^ ((18 : Int).toNat) ≤ sz from hs)) ?_
        have w1 : 0 ≤ sz * sz / 97 := Int.ediv_nonneg (Int.mul_nonneg sx sx) (by decide)
        refine ⟨_, rfl, _, rfl, _, _, rfl, rfl, .inl ⟨by omega, by omega⟩, _, _, rfl, rfl, ⟨by decide, by decide⟩, _, _, rfl, rfl, .inr ⟨by decide, by decide⟩, _, rfl, _, _, rfl, rfl, _, rfl, a, _, 0, 0, rfl, rfl, ea2, rfl, ?_⟩
        have sx : 0 ≤ sz * sz / 97 * 48271 + sz := by omega
        have G := g2.trans (Go.set (T := T) (M := [a, l]) (o := .lst [.int (sz * sz / 97 * 48271 + sz), .int s0, .int c0, .ref l]) ea2 (fun _ z => by cases z) ma)
        have E : upd (upd (upd H e1 (.lst [])) l (.lst (r.map V.int))) a (.lst [.int (sz * sz / 97 * 48271 + sz), .int s0, .int c0, .ref l]) a = some (.lst [.int (sz * sz / 97 * 48271 + sz), .int s0, .int c0, .ref l]) := upd_same
        obtain ⟨ns', EL⟩ : ∃ ns' : List Int, upd (upd (upd H e1 (.lst [])) l (.lst (r.map V.int))) a (.lst [.int (sz * sz / 97 * 48271 + sz), .int s0, .int c0, .ref l]) l = some (.lst (ns'.map V.int)) := ⟨r, by rw [upd_ne hal.symm]; exact upd_same⟩
        have Z := sx
        obtain ⟨zz, hzz⟩ : ∃ zz : Int, zz = (sz * sz / 97 * 48271 + sz) := ⟨_, rfl⟩
  all_goals
    refine ⟨_, rfl, a, _, 0, _, rfl, rfl, SqL.of E, rfl, _, _, rfl, rfl, _, rfl, ?_⟩
    by_cases hp : 0 < zz
    · subst hzz
      refine if_true_of (decide_eq_true hp) ?_
      refine ⟨_, rfl, a, _, 0, _, rfl, rfl, SqL.of E, rfl, .inl ⟨_, rfl, _, rfl, _, _, rfl, rfl, m1, ?_⟩⟩
      refine ⟨_, rfl, a, _, 0, _, rfl, rfl, SqL.of E, rfl, _, rfl, _, _, rfl, rfl, wide_div m1 m2 (by decide) (by decide), _, rfl, a, _, 0, 0, rfl, rfl, E, rfl, _, rfl, ?_⟩
      refine q _ _ (Int.emod_nonneg _ (by omega)) (Int.emod_lt_of_pos _ m1) ⟨ns', _, s0, c0, hal, upd_same, by rw [upd_ne hal.symm]; exact EL, Int.ediv_nonneg Z (by omega), s1, s2, c1, by omega⟩ (G.trans (Go.set E (fun _ z => by cases z) ma)) ((G.trans (Go.set E (fun _ z => by cases z) ma)).tb ht)
    · subst hzz
      refine if_false_of (decide_eq_false hp) ?_
      refine ⟨_, rfl, a, _, 2, _, rfl, rfl, SqL.of E, rfl, _, _, rfl, rfl, _, rfl, a, _, 2, 2, rfl, rfl, E, rfl, ?_⟩
      have ub : ∀ {X : Hp} {o : HO}, upd X a o a = some o := fun {X o} => upd_same
      refine ⟨_, rfl, a, _, 1, _, rfl, rfl, SqL.of upd_same, rfl, _, _, rfl, rfl, .inl ⟨by omega, by omega⟩, ?_⟩
      refine ⟨_, rfl, a, _, 2, _, rfl, rfl, SqL.of upd_same, rfl, _, rfl, a, _, 2, _, rfl, rfl, SqL.of upd_same, rfl, _, _, rfl, rfl, .inl ⟨by omega, by omega⟩, _, _, rfl, rfl, .inr ⟨by decide, by decide⟩, _, _, rfl, rfl, _, _, rfl, rfl, .inl ⟨_, rfl, _, _, rfl, rfl, (show (0 : Int) < 2147483647 by decide), _, rfl, a, _, 1, 1, rfl, rfl, upd_same, rfl, ?_⟩⟩
      have b1 := Int.emod_nonneg (s0 * 16807 + (c0 + 1) * (c0 + 1) * 4099 + 77) (show (2147483647 : Int) ≠ 0 by decide)
      have b2 := Int.emod_lt_of_pos (s0 * 16807 + (c0 + 1) * (c0 + 1) * 4099 + 77) (show (0 : Int) < 2147483647 by decide)
      refine ⟨_, rfl, a, _, 1, _, rfl, rfl, SqL.of upd_same, rfl, _, rfl, a, _, 1, _, rfl, rfl, SqL.of upd_same, rfl, _, _, rfl, rfl, ⟨by decide, by decide⟩, _, _, rfl, rfl, _, _, rfl, rfl, .inl ⟨by omega, by omega⟩, .inl ⟨_, rfl, _, _, rfl, rfl, (show (0 : Int) < 2147483629 by decide), _, _, rfl, rfl, ⟨by decide, by decide⟩, _, rfl, _, _, rfl, rfl, m1, ?_⟩⟩
      refine q _ _ (Int.emod_nonneg _ (by omega)) (Int.emod_lt_of_pos _ m1) ⟨ns', _, _, _, hal, upd_same, by rw [upd_ne hal.symm, upd_ne hal.symm]; exact EL, Z, b1, by omega, (show 0 ≤ c0 + 1 by omega), by omega⟩ ((G.trans (Go.set E (fun _ z => by cases z) ma)).trans (Go.set upd_same (fun _ z => by cases z) ma)) (((G.trans (Go.set E (fun _ z => by cases z) ma)).trans (Go.set upd_same (fun _ z => by cases z) ma)).tb ht)
end
end KM
set_option Elab.async false
set_option linter.all false
set_option maxRecDepth 100000
set_option maxHeartbeats 8000000
/-! k41: _law_ratio, _law_total -/
namespace KM
open PySem PySem.Spec PyProof.Rows L2 GxR NdefX GA SL ZN RZ
abbrev s_law_ratio : Stmt := top 22
abbrev s_law_total : Stmt := top 23
theorem sc_law_ratio : FnScope ["top", "bottom", "common", "other"] ["top", "bottom"] (defScope s_law_ratio) := ⟨rfl, rfl, rfl, by decide +kernel, rfl, by decide +kernel, by decide +kernel⟩
theorem sc_law_total : FnScope ["ones", "others", "top", "bottom", "k", "low"] ["ones", "others"] (defScope s_law_total) := ⟨rfl, rfl, rfl, by decide +kernel, rfl, by decide +kernel, by decide +kernel⟩
def sp_lratio : Sp := fun vs H Q _ => ∃ t b : Int, vs = [.int t, .int b] ∧ 0 < b ∧ b.natAbs < 2 ^ 8000 ∧ ∀ T, H T = none → Q (.ref T) (upd H T (.tup [.int (Rat.divInt t b).num, .int ((Rat.divInt t b).den : Int)]))
def sp_total (T : List Addr) : Sp := fun vs H Q _ => ∃ (M : List Addr) (v1 v2 : V) (qs ps : List Rat) (D1 N1 D2 N2 : Nat), vs = [v1, v2] ∧ Dv M H v1 (rowQ qs) ∧ Dv M H v2 (.list ((prs ps).map fun r => rat r.1 r.2)) ∧ qs.length = ps.length ∧ qs.length ≤ 48 ∧ (∀ q ∈ qs, Bd D1 N1 q) ∧ (∀ q ∈ ps, Bd D2 N2 q) ∧
  0 < D1 ∧ 0 < D2 ∧ D1 * D2 < 1073741824 ∧ N1 < 2 ^ 40000 ∧ N2 < 2 ^ 40000 ∧ Tabs T H ∧ ∀ p t b H', H p = none → Go T [] H H' → Tabs T H' → H' p = some (.tup [.int t, .int b]) → 0 < b → b.natAbs < 2 ^ 8000 → Rat.divInt t b = dotQ qs ps → Q (.ref p) H'
/-- the i-th ratio of a row -/
theorem rat_at {M : List Addr} {H : Hp} {xs : List V} {qs : List Rat} {i : Nat} (h : DvAll M H xs ((prs qs).map fun r => rat r.1 r.2)) (hi : i < qs.length) : ∃ r : Addr, xs[i]? = some (.ref r) ∧ H r = some (.tup [.int (qs.getD i 0).num, .int ((qs.getD i 0).den : Int)]) ∧ r ∉ M := by
  have e : ((prs qs).map fun r => rat r.1 r.2)[i]? = some (rat qs[i].num qs[i].den) := by
    rw [prs, List.map_map, List.getElem?_map, List.getElem?_eq_getElem hi]
    rfl
  obtain ⟨x, ex, dx⟩ := h.getD e
  obtain ⟨r, vx, vy, rfl, er, nr, hvx, hvy⟩ := dv_pair dx
  cases hvx
  cases hvy
  rw [List.getD_eq_getElem?_getD, List.getElem?_eq_getElem hi]
  exact ⟨r, ex, er, nr⟩
theorem fits64 {d D1 D2 : Nat} (h : d ≤ D1) (h2 : 0 < D2) (hDD : D1 * D2 < 1073741824) : -(2 ^ 64 : Int) < (d : Int) ∧ (d : Int) < 2 ^ 64 := by
  have := Nat.le_mul_of_pos_right D1 h2
  omega
theorem pow_le_of {D1 D2 k : Nat} (h : D1 * D2 < 1073741824) (hk : k ≤ 48) : (D1 * D2) ^ k ≤ 2 ^ 1440 := by
  refine Nat.le_trans (Nat.pow_le_pow_left (Nat.le_of_lt h) k) ?_
  rw [show (1073741824 : Nat) = 2 ^ 30 from rfl, ← Nat.pow_mul]
  exact Nat.pow_le_pow_right (by decide) (by omega)
theorem Tot.small {D1 D2 N1 N2 k : Nat} {qs ps : List Rat} {t b : Int} (h : Tot (D1 * D2) (N1 * N2) k qs ps t b) (hk : k ≤ 48) (hD : D1 * D2 < 1073741824) (h1 : N1 < 2 ^ 40000) (h2 : N2 < 2 ^ 40000) : b.natAbs < 2 ^ 8000 ∧ t.natAbs < 2 ^ 90000 := by
  have p := pow_le_of hD hk
  have hb := h.b
  have ht := h.t
  refine ⟨Nat.lt_of_le_of_lt (Nat.le_trans hb p) (Nat.pow_lt_pow_right (by decide) (by decide)), ?_⟩
  have n12 : N1 * N2 < 2 ^ 40000 * 2 ^ 40000 := Nat.mul_lt_mul'' h1 h2
  rw [← Nat.pow_add] at n12
  have a1 : N1 * N2 * (D1 * D2) ^ k ≤ 2 ^ 80000 * 2 ^ 1440 := Nat.mul_le_mul (Nat.le_of_lt n12) p
  have a2 : k * (N1 * N2 * (D1 * D2) ^ k) ≤ 2 ^ 6 * (2 ^ 80000 * 2 ^ 1440) := Nat.mul_le_mul (by omega) a1
  rw [← Nat.pow_add, ← Nat.pow_add] at a2
  exact Nat.lt_of_le_of_lt (Nat.le_trans ht a2) (Nat.pow_lt_pow_right (by decide) (by decide))
section
variable {P : Program} {w : World} {K : PySem.W.Frag} {mg : Str → Option Value} {base : Heap} {f c CK CN CT CR : Addr} {fd : FuncData} {T : List Addr}
theorem ok_law_ratio (F : Fun K "_law_ratio" "_law_ratio" s_law_ratio f fd) (B : Bl mg) (habs : mg "abs" = none) : FnOk P w K mg base CX0 1 f fd ["top", "bottom"] sp_lratio := by
  have nd := sc_law_ratio.nd
  refine F.ok sc_law_ratio (fun vs H Q E h => ?_) (fun cdv A outer s H vs Q E hr h => ?_)
  · obtain ⟨_, _, rfl, _⟩ := h
    rfl
  obtain ⟨t, b, rfl, h0, h1, q⟩ := h
  refine ⟨_, pss_cons (ps_par (i := 2) (j := 3) rfl nd rfl rfl (by decide) rfl rfl (pa_cons (pe_callB call_abs rfl habs (by decide +kernel) (pa_cons (pv 1) pa_nil) (by decide) (by decide)) (pa_cons (pe_callB call_abs rfl habs (by decide +kernel) (pa_cons (pv 0) pa_nil) (by decide) (by decide)) pa_nil)) rfl)
    (pss_cons (ps_while PassesOwn.never (pt_cmpR op_gt (pv 3) pe_int (nomark _)) (pss_one (ps_par (i := 2) (j := 3) rfl nd rfl rfl (by decide) rfl rfl (pa_cons (pv 3) (pa_cons (pe_op op_mod (pe_toInt B (pv 2)) (pv 3)) pa_nil)) rfl)))
    (pss_cons (ps_if (pt_cmpR op_lt (pv 1) pe_int (nomark _)) (pss_one (ps_set (i := 2) nd rfl (.inl rfl) (pe_un un_neg (pv 2)))) pss_nil)
    (pss_one (ps_ret (pe_tup (pa_cons (pe_op op_fdivW (pv 0) (pv 2)) (pa_cons (pe_op op_fdivW (pv 1) (pv 2)) pa_nil))))))), ?_⟩
  refine ⟨_, rfl, _, rfl, _, rfl, _, rfl, _, _, rfl, ?_⟩
  have eb : (if b < 0 then -b else b) = ((b.natAbs : Nat) : Int) := by split <;> omega
  have et : (if t < 0 then -t else t) = ((t.natAbs : Nat) : Int) := by split <;> omega
  rw [eb, et]
  refine ⟨fun m σ H' => ∃ (c o : Nat), m = o ∧ H' = H ∧ σ = [some (.int t), some (.int b), some (.int (c : Int)), some (.int (o : Int))] ∧ Nat.gcd c o = Nat.gcd t.natAbs b.natAbs, ⟨_, b.natAbs, t.natAbs, rfl, rfl, rfl, Nat.gcd_comm _ _⟩, ?_⟩
  rintro m σ H' ⟨c, o, rfl, rfl, rfl, hg⟩
  refine ⟨_, rfl, _, _, rfl, rfl, _, rfl, ?_⟩
  by_cases ho : 0 < m
  · refine if_true_of (decide_eq_true (by omega)) ?_
    refine ⟨fun σ' H'' => H'' = H' ∧ σ' = [some (.int t), some (.int b), some (.int (m : Int)), some (.int ((c % m : Nat) : Int))], fun σ' H'' ⟨e1, e2⟩ => ⟨c % m, Nat.mod_lt _ ho, m, c % m, rfl, e1, e2, ?_⟩, ?_⟩
    · rw [← hg, Nat.gcd_comm m (c % m), ← Nat.gcd_rec, Nat.gcd_comm]
    · exact ⟨_, rfl, _, rfl, .inl ⟨_, rfl, _, rfl, _, _, rfl, rfl, (by show (0 : Int) < (m : Int); omega), _, _, rfl, rfl, rfl⟩⟩
  · refine if_false_of (decide_eq_false (by omega)) ?_
    have hm : m = 0 := by omega
    subst hm
    rw [Nat.gcd_zero_right] at hg
    subst hg
    have hp : 0 < Nat.gcd t.natAbs b.natAbs := Nat.gcd_pos_of_pos_right _ (by omega)
    have hle : Nat.gcd t.natAbs b.natAbs ≤ b.natAbs := Nat.gcd_le_right _ (by omega)
    obtain ⟨a1, a2⟩ := Prod.mk.inj (low_of (t := t) h0)
    refine ⟨_, rfl, _, _, rfl, rfl, _, rfl, ?_⟩
    refine if_false_of (decide_eq_false (by omega)) ?_
    have cd : CDivW t ((Nat.gcd t.natAbs b.natAbs : Nat) : Int) := wide_div (b := 8000) (by omega) (by omega) (by decide) (by decide)
    refine ⟨_, rfl, _, rfl, _, _, rfl, rfl, cd, _, rfl, _, rfl, _, _, rfl, rfl, cd, ?_⟩
    refine ⟨by show 2 ≤ sizeLine; decide, fun p hp => ?_⟩
    have z := q p hp
    rw [← a1, ← a2] at z
    exact z
theorem ok_law_total (F : Fun K "_law_total" "_law_total" s_law_total f fd) (B : Bl mg) : FnOk P w K mg base CX0 1 f fd ["ones", "others"] (sp_total T) := by
  have nd := sc_law_total.nd
  refine F.ok sc_law_total (fun vs H Q E h => ?_) (fun cdv A outer s H vs Q E hr h => ?_)
  · obtain ⟨_, _, _, _, _, _, _, _, _, rfl, _⟩ := h
    rfl
  obtain ⟨M, v1, v2, qs, ps, D1, N1, D2, N2, rfl, hv1, hv2, hl, hl48, hb1, hb2, hD1, hD2, hDD, hN1, hN2, tT, q⟩ := h
  refine ⟨_, pss_cons (ps_asg (pe_tup (pa_cons pe_int (pa_cons pe_int pa_nil))) (pg_tup rfl (pgs_cons (pg_name (i := 2) nd rfl (.inl rfl)) (pgs_cons (pg_name (i := 3) nd rfl (.inl rfl)) pgs_nil))))
    (pss_cons (ps_for PassesOwn.never rfl (pi_range1 rfl B.range (pa_cons (pe_lenq B (pv 0)) pa_nil)) (pg_name (i := 4) nd rfl (.inl rfl))
      (pss_one (ps_if (PW.pt (pw_and (pt_cmpR op_ne (pe_ix ix_tup (pe_ix ix_tup (pv 0) (pv 4) (fun _ _ => rfl)) pe_int (fun _ _ => rfl)) pe_int (nomark _)) (pw_and1 (pt_cmpR op_ne (pe_ix ix_tup (pe_ix ix_list (pv 1) (pv 4) (fun _ _ => rfl)) pe_int (fun _ _ => rfl)) pe_int (nomark _)))))
        (pss_cons (ps_set (i := 5) nd rfl (.inl rfl) (pe_op op_mul (pe_ix ix_tup (pe_ix ix_tup (pv 0) (pv 4) (fun _ _ => rfl)) pe_int (fun _ _ => rfl)) (pe_ix ix_tup (pe_ix ix_list (pv 1) (pv 4) (fun _ _ => rfl)) pe_int (fun _ _ => rfl))))
        (pss_one (ps_par (i := 2) (j := 3) rfl nd rfl rfl (by decide) rfl rfl (pa_cons (pe_op op_add (pe_op op_mulW (pv 2) (pv 5)) (pe_op op_mulW (pe_op op_mulW (pe_ix ix_tup (pe_ix ix_tup (pv 0) (pv 4) (fun _ _ => rfl)) pe_int (fun _ _ => rfl)) (pe_ix ix_tup (pe_ix ix_list (pv 1) (pv 4) (fun _ _ => rfl)) pe_int (fun _ _ => rfl))) (pv 3))) (pa_cons (pe_op op_mulW (pv 3) (pv 5)) pa_nil)) rfl))) pss_nil)))
    (pss_one (ps_ret (pe_tup (pa_cons (pv 2) (pa_cons (pv 3) pa_nil)))))), ?_⟩
  obtain ⟨a, xs, rfl, ea, na, dx⟩ := dv_tup hv1
  have lx := dx.length
  rw [List.length_map, prs, List.length_map] at lx
  cases hv2 with
  | @lst a2 ys ds ea2 na2 dy =>
  refine ⟨by show 2 ≤ sizeLine; decide, fun p0 hp0 => ?_⟩
  refine ⟨p0, _, rfl, SqT.of upd_same, rfl, _, _, rfl, _, _, rfl, rfl, ?_⟩
  have g0 := Go.new (T := T) (M := []) (o := .tup [.int 0, .int 1]) hp0
  have ea0 := g0.tup ea List.not_mem_nil
  have ea20 := g0.lst ea2 List.not_mem_nil
  have dx0 := dx.go g0.of0
  have dy0 := dy.go g0.of0
  have t0 := g0.tb tT
  generalize upd H p0 (.tup [.int 0, .int 1]) = H0 at *
  refine ⟨_, rfl, a, xs, rfl, .inr (SqT.of ea0), ?_⟩
  refine ⟨_, rfl, by omega, by omega, ?_⟩
  refine for_it (walk_range (lo := 0) (n := (((xs.length : Nat) : Int).toNat))) (fun k σ H' => H' = H0 ∧ ∃ (t b : Int) (p4 p5 : Option V), σ = [some (.ref a), some (.ref a2), some (.int t), some (.int b), p4, p5] ∧ Tot (D1 * D2) (N1 * N2) k qs ps t b)
    ⟨rfl, 0, 1, none, none, rfl, Tot.zero⟩ (fun _ _ _ _ _ => trivial) (fun k x σ H3 H4 hk h y => ?_) (fun σ H3 h => ?_)
  · obtain ⟨rfl, t, b, p4, p5, rfl, ht⟩ := h
    obtain ⟨rfl, ey⟩ := y
    have ey2 : x = V.int (k : Int) := by rw [ey]; show V.int (0 + (k : Int)) = _; rw [Int.zero_add]
    clear ey
    subst ey2
    rw [Int.toNat_natCast, lx] at hk
    obtain ⟨r1, ex1, er1, _⟩ := rat_at dx0 hk
    obtain ⟨r2, ex2, er2, _⟩ := rat_at dy0 (show k < ps.length by omega)
    have eq1 : qs[k]? = some (qs.getD k 0) := by rw [List.getD_eq_getElem?_getD, List.getElem?_eq_getElem hk] <;> rfl
    have eq2 : ps[k]? = some (ps.getD k 0) := by rw [List.getD_eq_getElem?_getD, List.getElem?_eq_getElem (show k < ps.length by omega)] <;> rfl
    have bq := hb1 _ (List.mem_of_getElem? eq1)
    have bp := hb2 _ (List.mem_of_getElem? eq2)
    generalize qs.getD k 0 = qk at *
    generalize ps.getD k 0 = pk at *
    have dq : qk.den ≤ D1 := Nat.le_of_dvd hD1 bq.1
    have dp : pk.den ≤ D2 := Nat.le_of_dvd hD2 bp.1
    have dd : qk.den * pk.den ≤ D1 * D2 := Nat.mul_le_mul dq dp
    have n1 : ∃ y, y = (0 : Nat) := ⟨_, rfl⟩
    have hB : 0 < D1 * D2 := Nat.mul_pos hD1 hD2
    have z2 := ht.small (by omega) hDD hN1 hN2
    refine ⟨_, rfl, _, rfl, a, _, (k : Int), _, rfl, rfl, SqT.of ea0, atI_nat ex1, r1, _, 0, _, rfl, rfl, SqT.of er1, atI_nat (j := 0) rfl, rfl, _, rfl, ?_⟩
    by_cases z1 : qk.num = 0
    · refine if_false_of (by rw [z1]; rfl) (iteF ?_)
      exact ⟨rfl, t, b, _, _, rfl, ht.skip hB eq1 eq2 (.inl z1)⟩
    refine if_true_of (by simp [z1]) ?_
    refine ⟨_, rfl, _, rfl, a2, _, (k : Int), _, rfl, rfl, SqL.of ea20, atI_nat ex2, r2, _, 0, _, rfl, rfl, SqT.of er2, atI_nat (j := 0) rfl, rfl, _, rfl, ?_⟩
    by_cases z3 : pk.num = 0
    · refine if_false_of (by rw [z3]; rfl) ?_
      exact ⟨rfl, t, b, _, _, rfl, ht.skip hB eq1 eq2 (.inr z3)⟩
    refine if_true_of (by simp [z3]) ?_
    have dd1 : (0 : Int) < (qk.den : Int) * (pk.den : Int) := Int.mul_pos (by have := qk.den_pos; omega) (by have := pk.den_pos; omega)
    have dd2 : ((qk.den : Int) * (pk.den : Int)).natAbs < 2 ^ 30 := by
      rw [Int.natAbs_mul]
      show qk.den * pk.den < 2 ^ 30
      exact Nat.lt_of_le_of_lt dd hDD
    have q30 : qk.num.natAbs < 2 ^ 40000 := Nat.lt_of_le_of_lt bq.2 hN1
    have p30 : pk.num.natAbs < 2 ^ 40000 := Nat.lt_of_le_of_lt bp.2 hN2
    have qp30 := wide_lt q30 p30
    have sm := ht.small (by omega) hDD hN1 hN2
    refine ⟨_, rfl, _, rfl, a, _, (k : Int), _, rfl, rfl, SqT.of ea0, atI_nat ex1, r1, _, 1, _, rfl, rfl, SqT.of er1, atI_nat (j := 1) rfl, _, rfl, _, rfl, a2, _, (k : Int), _, rfl, rfl, SqL.of ea20, atI_nat ex2, r2, _, 1, _, rfl, rfl, SqT.of er2, atI_nat (j := 1) rfl, _, _, rfl, rfl,
      .inl (fits64 dq hD2 hDD), ?_⟩
    refine ⟨_, rfl, _, rfl, _, _, rfl, rfl, wide_mul sm.2 dd2 (by decide) (by decide) (by decide), ?_⟩
    refine ⟨_, rfl, _, rfl, a, _, (k : Int), _, rfl, rfl, SqT.of ea0, atI_nat ex1, r1, _, 0, _, rfl, rfl, SqT.of er1, atI_nat (j := 0) rfl, _, rfl, _, rfl, a2, _, (k : Int), _, rfl, rfl, SqL.of ea20, atI_nat ex2, r2, _, 0, _, rfl, rfl, SqT.of er2, atI_nat (j := 0) rfl, _, _, rfl, rfl,
      wide_mul q30 p30 (by decide) (by decide) (by decide), ?_⟩
    refine ⟨_, rfl, _, _, rfl, rfl, wide_mul qp30 sm.1 (by decide) (by decide) (by decide), _, _, rfl, rfl, _, rfl, _, rfl, _, _, rfl, rfl, wide_mul sm.1 dd2 (by decide) (by decide) (by decide), ?_⟩
    refine ⟨_, _, rfl, rfl, _, _, _, _, rfl, ?_⟩
    exact ht.next hB eq1 eq2 dd (Nat.mul_le_mul bq.2 bp.2)
  · obtain ⟨rfl, t, b, p4, p5, rfl, ht⟩ := h
    rw [Int.toNat_natCast, lx] at ht
    have e1 : qs.take qs.length = qs := List.take_length
    have e2 : ps.take qs.length = ps := by rw [hl, List.take_length]
    have he := ht.e
    rw [e1, e2] at he
    exact ⟨_, rfl, _, rfl, by show 2 ≤ sizeLine; decide, fun p hp => q p t b _ (g0.al _ hp) (g0.trans (Go.new hp)) ((Go.new (T := T) (M := []) hp).tb t0) upd_same ht.p (ht.small hl48 hDD hN1 hN2).1 he⟩
end
end KM
set_option Elab.async false
set_option linter.all false
set_option maxRecDepth 100000
set_option maxHeartbeats 4000000
/-! own words, 37: a list comprehension whose values are data drawn from objects at M0 that change -/
namespace SL
open PySem PySem.Spec PyProof.Rows L2 GxR NdefX GA
section
variable {T M M0 : List Addr} {H0 H1 : Hp} {J : It} {n : Nat} {G : Hp → Prop} {Y : Nat → Hp → V → Hp → Prop} {D : Addr} {Qd : Hp → Prop} {σ : L2.St} {g : TG} {te : TE} {vs : List Nat} {α : Type}
theorem lc_dw (Fa : α → PyData) (Pq : α → Prop) (W : Nat → Hp → Prop) (w : Walk J n G Y) (hG : ∀ H', Go T M0 H0 H' → G H') (ht : Tabs T H0) (g1 : Go T M0 H0 H1) (hD : H1 D = none) (hDM : D ∉ M0) (hM : ∀ b ∈ M0, b ∈ M) (hn : n ≤ sizeLine) (hW0 : W 0 H1)
    (hWs : ∀ i H' ys xs, W i H' → H' D = some (.lst xs) → W i (upd H' D (.lst ys))) (hWn : ∀ i H' ys, W i H' → H' D = none → W i (upd H' D (.lst ys)))
    (hs : ∀ i x H' H'' (R : VK), i < n → Go T M0 H0 H' → Tabs T H' → W i H' → H' D ≠ none → Y i H' x H'' → (∀ v q H3, Go T M0 H' H3 → W (i + 1) H3 → Dv (D :: M) H3 v (Fa q) → Pq q → R v H3) → g x (wipe σ vs) H'' fun σ2 H2 => wipe σ2 vs = wipe σ vs ∧ te σ2 H2 R)
    (hq : ∀ (H' : Hp) (ys : List V) (qs : List α), Go T M0 H0 H' → Tabs T H' → W n H' → H' D = some (.lst ys) → DvAll (D :: M) H' ys (qs.map Fa) → qs.length = n → (∀ q ∈ qs, Pq q) → Qd H') :
    ∃ W : Nat → Nat → Hp → Prop, (∃ m, W 0 m (upd H1 D (.lst []))) ∧ ∀ i' m H, W i' m H →
      (J.stop i' H ∧ Qd H) ∨ (J.go i' H ∧ ∃ Nx : Hp → Prop, (∀ H', Nx H' → ∃ m', m' < m ∧ W (i' + 1) m' H') ∧ ∀ x H', J.yld i' H x H' → g x (wipe σ vs) H' fun σ2 H2 => wipe σ2 vs = wipe σ vs ∧ tYes σ2 H2 fun b H3 =>
        if b = true then te σ2 H3 fun y H4 => ∃ acc, H4 D = some (.lst acc) ∧ acc.length < sizeLine ∧ Nx (upd H4 D (.lst (acc ++ [y]))) else Nx H3) := by
  have hD0 : H0 D = none := g1.al D hD
  refine lc_it w (fun i H' => Go T M0 H0 H' ∧ W i H' ∧ ∃ (ys : List V) (qs : List α), H' D = some (.lst ys) ∧ ys.length = i ∧ DvAll (D :: M) H' ys (qs.map Fa) ∧ qs.length = i ∧ ∀ q ∈ qs, Pq q) ⟨g1.trans (Go.new hD), hWn _ _ _ hW0 hD, [], [], upd_same, rfl, .nil, rfl, fun q h => absurd h List.not_mem_nil⟩ (fun i H' _ h => hG H' h.1) (fun i x H' H'' hlt h y => ?_)
    (fun H' ⟨gg, hw, ys, qs, e, _, da, lq, pq⟩ => hq H' ys qs gg (gg.tb ht) hw e da lq pq)
  obtain ⟨gg, hw, ys, qs, e, el, da, lq, pq⟩ := h
  refine hs i x H' H'' _ hlt gg (gg.tb ht) hw (by rw [e]; exact fun z => by cases z) y fun v q H3 g3 w3 dv pv => ?_
  have e3 := g3.lst e hDM
  have gs := Go.set (T := T) (M := D :: M) (o := .lst (ys ++ [v])) e3 (fun _ z => by cases z) (List.mem_cons_self ..)
  refine ⟨ys, e3, by omega, (gg.trans g3).over hD0 e3 (fun _ z => by cases z), hWs _ _ _ _ w3 e3, ys ++ [v], qs ++ [q], upd_same, by rw [List.length_append, el] <;> rfl, ?_, by rw [List.length_append, lq] <;> rfl, fun q' hq' => ?_⟩
  · rw [List.map_append]
    exact DvAll.append ((da.go (g3.more fun b hb => List.mem_cons_of_mem _ (hM b hb))).go gs) (.cons (dv.go gs) .nil)
  · rcases List.mem_append.mp hq' with h | h
    · exact pq q' h
    · rw [List.mem_singleton.mp h]; exact pv
end
end SL
set_option Elab.async false
set_option linter.all false
set_option maxRecDepth 100000
set_option maxHeartbeats 8000000
/-! k41: _law_entry, _law_matrix -/
namespace KM
open PySem PySem.Spec PyProof.Rows L2 GxR NdefX GA SL ZN RZ
abbrev s_law_entry : Stmt := top 24
abbrev s_law_matrix : Stmt := top 26
theorem sc_law_entry : FnScope ["cup", "great", "top"] ["cup", "great"] (defScope s_law_entry) := ⟨rfl, rfl, rfl, by decide +kernel, rfl, by decide +kernel, by decide +kernel⟩
theorem sc_law_matrix : FnScope ["cup", "many", "size", "great", "turn", "k"] ["cup", "many", "size", "great"] (defScope s_law_matrix) := ⟨rfl, rfl, rfl, by decide +kernel, rfl, by decide +kernel, by decide +kernel⟩
abbrev NL : List Str := ["cup", "many", "size", "great", "turn", "k"]
def N0 : Nat := 10 ^ 40
section
variable {T M : List Addr} {H H' : Hp} {a l p : Addr} {k k' : Int} {o : HO}
theorem CupAt.go (W : CupAt a l H k) (g : Go T [] H H') : CupAt a l H' k := by
  obtain ⟨ns, z, s, c, h1, h2, h3, h4⟩ := W
  exact ⟨ns, z, s, c, h1, g.lst h2 List.not_mem_nil, g.lst h3 List.not_mem_nil, h4⟩
theorem CupAt.up (W : CupAt a l H k) (h : k ≤ k') : CupAt a l H k' := by
  obtain ⟨ns, z, s, c, h1, h2, h3, h4, h5, h6, h7, h8⟩ := W
  exact ⟨ns, z, s, c, h1, h2, h3, h4, h5, h6, h7, by omega⟩
theorem CupAt.ne (W : CupAt a l H k) (hp : H p = none) : p ∉ [a, l] := by
  obtain ⟨ns, z, s, c, h1, h2, h3, h4⟩ := W
  intro h
  simp only [List.mem_cons, List.not_mem_nil, or_false] at h
  rcases h with rfl | rfl
  · rw [h2] at hp; cases hp
  · rw [h3] at hp; cases hp
theorem CupAt.lists (W : CupAt a l H k) : ∀ b ∈ [a, l], H b ≠ none := by
  intro b hb e
  exact W.ne e hb
theorem CupAt.set (W : CupAt a l H k) (hp : p ∉ [a, l]) : CupAt a l (upd H p o) k := by
  obtain ⟨ns, z, s, c, h1, h2, h3, h4⟩ := W
  simp only [List.mem_cons, List.not_mem_nil, or_false, not_or] at hp
  exact ⟨ns, z, s, c, h1, by rw [upd_ne (fun e => hp.1 e.symm)]; exact h2, by rw [upd_ne (fun e => hp.2 e.symm)]; exact h3, h4⟩
end
theorem bd_of {t b : Int} (h : 0 < b) (hb : b ∣ 42) (ht : t.natAbs ≤ N0) : Bd 42 N0 (Rat.divInt t b) := by
  obtain ⟨a1, a2⟩ := Prod.mk.inj (low_of (t := t) h)
  refine ⟨?_, ?_⟩
  · have : (((Rat.divInt t b).den : Nat) : Int) ∣ b := by
      rw [← a2]
      refine Int.ediv_dvd_of_dvd ?_
      have := Nat.gcd_dvd_right t.natAbs b.natAbs
      exact Int.dvd_natAbs.mp (Int.natCast_dvd_natCast.mpr this)
    exact Int.natCast_dvd_natCast.mp (Int.dvd_trans this hb)
  · rw [← a1]
    exact Nat.le_trans (Int.natAbs_ediv_le_natAbs _ _) ht
def sp_entry (T : List Addr) : Sp := fun vs H Q _ => ∃ (a l : Addr) (k : Int) (g : Bool), vs = [.ref a, .bl g] ∧ k ≤ 549755813888 ∧ CupAt a l H k ∧ Tabs T H ∧ ∀ r q H', H r = none → H' r = some (.tup [.int q.num, .int (q.den : Int)]) → Bd 42 N0 q → CupAt a l H' (k + 6) → Go T [a, l] H H' → Tabs T H' → Q (.ref r) H'
def sp_lmatrix (T : List Addr) : Sp := fun vs H Q _ => ∃ (M : List Addr) (a l : Addr) (k : Int) (m n : Nat) (g : Bool), vs = [.ref a, .int m, .int n, .bl g] ∧ m ≤ 48 ∧ n ≤ 48 ∧ k ≤ 274877906944 ∧ CupAt a l H k ∧ Tabs T H ∧ (∀ b ∈ [a, l], b ∈ M) ∧ (∀ b ∈ M, H b ≠ none) ∧ ∀ v mq H', Dv M H' v (matQ mq) → MQ mq n 42 N0 → mq.length = m → CupAt a l H' (k + 20000) → Go T [a, l] H H' → Tabs T H' → Q v H'
theorem at2 {i : Int} (h0 : 0 ≤ i) (h1 : i < 2) : ∃ z : Int, atI [V.int 1, V.int (-1)] i = some (.int z) ∧ z.natAbs = 1 := by
  have : i = 0 ∨ i = 1 := by omega
  rcases this with rfl | rfl
  · exact ⟨1, rfl, rfl⟩
  · exact ⟨-1, rfl, rfl⟩
theorem at7 {i : Int} (h0 : 0 ≤ i) (h1 : i < 7) : ∃ z : Int, atI [V.int 1, V.int 1, V.int 2, V.int 1, V.int 3, V.int 1, V.int 7] i = some (.int z) ∧ 0 < z ∧ z ≤ 7 ∧ z ∣ 42 := by
  have : i = 0 ∨ i = 1 ∨ i = 2 ∨ i = 3 ∨ i = 4 ∨ i = 5 ∨ i = 6 := by omega
  rcases this with rfl | rfl | rfl | rfl | rfl | rfl | rfl
  · exact ⟨1, rfl, by decide⟩
  · exact ⟨1, rfl, by decide⟩
  · exact ⟨2, rfl, by decide⟩
  · exact ⟨1, rfl, by decide⟩
  · exact ⟨3, rfl, by decide⟩
  · exact ⟨1, rfl, by decide⟩
  · exact ⟨7, rfl, by decide⟩
section
variable {P : Program} {w : World} {K : PySem.W.Frag} {mg : Str → Option Value} {base : Heap} {f c CK CN CT CR : Addr} {fd : FuncData} {T : List Addr}
theorem ok_law_entry (F : Fun K "_law_entry" "_law_entry" s_law_entry f fd) (Fd : Fnn P w K mg base CX0 1 "_law_sip" ["cup", "many"] (sp_sip T)) (Fr : Fnn P w K mg base CX0 1 "_law_ratio" ["top", "bottom"] sp_lratio) : FnOk P w K mg base CX0 2 f fd ["cup", "great"] (sp_entry T) := by
  have nd := sc_law_entry.nd
  refine F.ok sc_law_entry (fun vs H Q E h => ?_) (fun cdv A outer s H vs Q E hr h => ?_)
  · obtain ⟨_, _, _, _, rfl, _⟩ := h
    rfl
  obtain ⟨a, l, k, g, rfl, hk, W, ht, q⟩ := h
  have nn : ∀ b : Addr, b ∉ ([] : List Addr) := fun b => List.not_mem_nil
  refine ⟨_, pss_cons (ps_set (i := 2) nd rfl (.inl rfl) (pe_op op_sub (pe_fn Fd hr (by decide) pass0 (pa_cons (pv 0) (pa_cons pe_int pa_nil))) pe_int))
    (pss_cons (ps_if (PW.pt (pw_and (pt_val (pv 1)) (pw_and1 (pt_cmpR op_eq (pe_fn Fd hr (by decide) pass0 (pa_cons (pv 0) (pa_cons pe_int pa_nil))) pe_int (nomark _)))))
      (pss_one (ps_set (i := 2) nd rfl (.inl rfl) (pe_op op_mul (pe_ix ix_list (pe_lst (pa_cons pe_int (pa_cons (pe_un un_neg pe_int) pa_nil))) (pe_fn Fd hr (by decide) pass0 (pa_cons (pv 0) (pa_cons pe_int pa_nil))) (fun _ _ => rfl)) (pe_fn Fd hr (by decide) pass0 (pa_cons (pv 0) (pa_cons (pe_op op_pow pe_int pe_int) pa_nil)))))) pss_nil)
    (pss_one (ps_ret (pe_fn Fr hr (by decide) pass0 (pa_cons (pv 2) (pa_cons (pe_ix ix_list (pe_lst (pa_cons pe_int (pa_cons pe_int (pa_cons pe_int (pa_cons pe_int (pa_cons pe_int (pa_cons pe_int (pa_cons pe_int pa_nil)))))))) (pe_fn Fd hr (by decide) pass0 (pa_cons (pv 0) (pa_cons pe_int pa_nil))) (fun _ _ => rfl)) pa_nil)))))), ?_⟩
  have n10 : N0 = 10000000000000000000000000000000000000000 := by decide
  refine ⟨_, rfl, a, l, k, 9, rfl, by decide, by decide, by omega, W, ht, fun i1 H1 i10 i11 W1 g1 t1 => ?_⟩
  refine ⟨_, _, rfl, rfl, ?_⟩
  have fin : ∀ (tp : Int) (H' : Hp) (Q2 : VK), tp.natAbs ≤ N0 → CupAt a l H' (k + 5) → Go T [a, l] H H' → Q2 = Q → tCall sp_lratio [] E0 (tCons (tVar 2) (tCons (tOp (rIxL K) (tLst (tCons (tC (.int 1)) (tCons (tC (.int 1)) (tCons (tC (.int 2)) (tCons (tC (.int 1)) (tCons (tC (.int 3)) (tCons (tC (.int 1)) (tCons (tC (.int 7)) tNil)))))))) (tCall (sp_sip T) [] E0 (tCons (tVar 0) (tCons (tC (.int 7)) tNil)))) tNil)) [some (.ref a), some (.bl g), some (.int tp)] H' Q2 := fun tp H' Q2 htp W' G e => by
    subst e
    refine ⟨_, rfl, by show 7 ≤ sizeLine; decide, fun p hp => ?_⟩
    have u := Go.new (T := T) (M := []) (o := .lst [.int 1, .int 1, .int 2, .int 1, .int 3, .int 1, .int 7]) hp
    have np := W'.ne hp
    refine ⟨_, rfl, a, l, k + 5, 7, rfl, by decide, by decide, by omega, W'.go u, (G.trans u.of0).tb ht, fun i2 H2 i20 i21 W2 g2 t2 => ?_⟩
    obtain ⟨z, ez, z0, z7, zd⟩ := at7 i20 i21
    refine ⟨p, _, i2, _, rfl, rfl, SqL.of (g2.lst upd_same np), ez, tp, z, rfl, z0, Nat.lt_of_le_of_lt (show z.natAbs ≤ 7 by omega) (by decide), fun r hr => ?_⟩
    have G2 := ((G.trans u.of0).trans g2).trans ((Go.new (T := T) (M := []) (o := .tup [.int (Rat.divInt tp z).num, .int ((Rat.divInt tp z).den : Int)]) hr).of0)
    exact q r (Rat.divInt tp z) _ (((G.trans u.of0).trans g2).al _ hr) upd_same (bd_of z0 zd htp) ((W2.up (by omega)).go (Go.new (T := T) hr)) G2 (G2.tb ht)
  have b1 : (i1 - 4).natAbs ≤ N0 := by rw [n10]; omega
  cases g with
  | false =>
    refine ⟨_, rfl, _, rfl, iteF (iteF ?_)⟩
    exact fin _ _ _ b1 (W1.up (by omega)) g1 rfl
  | true =>
    refine ⟨_, rfl, _, rfl, iteT ?_⟩
    refine ⟨_, rfl, a, l, k + 1, 3, rfl, by decide, by decide, by omega, W1, t1, fun i2 H2 i20 i21 W2 g2 t2 => ?_⟩
    refine ⟨rfl, _, rfl, ?_⟩
    by_cases h0 : i2 = 0
    · refine if_true_of (by rw [h0]; rfl) ?_
      refine ⟨1, rfl, by show 2 ≤ sizeLine; decide, fun p hp => ?_⟩
      have u := Go.new (T := T) (M := []) (o := .lst [.int 1, .int (-1)]) hp
      have np := W2.ne hp
      refine ⟨_, rfl, a, l, k + 1 + 1, 2, rfl, by decide, by decide, by omega, W2.go u, u.tb t2, fun i3 H3 i30 i31 W3 g3 t3 => ?_⟩
      obtain ⟨z, ez, z1⟩ := at2 i30 i31
      refine ⟨p, _, i3, _, rfl, rfl, SqL.of (g3.lst upd_same np), ez, ?_⟩
      refine ⟨_, rfl, _, _, rfl, rfl, ⟨by decide, by decide, by decide⟩, a, l, k + 1 + 1 + 1, _, rfl, by decide, by decide, by omega, W3, t3, fun i4 H4 i40 i41 W4 g4 t4 => ?_⟩
      refine ⟨_, _, rfl, rfl, .inl ⟨by omega, by omega⟩, ?_⟩
      refine fin _ _ _ ?_ (W4.up (by omega)) ((((g1.trans g2).trans u.of0).trans g3).trans g4) rfl
      rw [Int.natAbs_mul, z1, Nat.one_mul]
      have h10 : (10 : Int) ^ ((40 : Int).toNat) = 10000000000000000000000000000000000000000 := by decide
      have i41' : i4 < (10 : Int) ^ ((40 : Int).toNat) := i41
      rw [h10] at i41'
      rw [n10]
      omega
    · refine if_false_of (by simp [h0]) ?_
      exact fin _ _ _ b1 (W2.up (by omega)) (g1.trans g2) rfl
theorem ok_law_matrix (F : Fun K "_law_matrix" "_law_matrix" s_law_matrix f fd) (B : Bl mg) (Fe : Fnn P w K mg base CX0 2 "_law_entry" ["cup", "great"] (sp_entry T)) : FnOk P w K mg base CX0 3 f fd ["cup", "many", "size", "great"] (sp_lmatrix T) := by
  have nd := sc_law_matrix.nd
  refine F.ok sc_law_matrix (fun vs H Q E h => ?_) (fun cdv A outer s H vs Q E hr h => ?_)
  · obtain ⟨_, _, _, _, _, _, _, rfl, _⟩ := h
    rfl
  obtain ⟨M, a, l, k, m, n, g, rfl, hm, hn, hk, W, ht, hM0, hM, q⟩ := h
  have nn : ∀ b : Addr, b ∉ ([] : List Addr) := fun b => List.not_mem_nil
  refine ⟨_, pss_one (ps_ret (pe_tupleOf rfl B.tuple (pe_lc (own := [("turn", 4)]) (g := gName 4) (tt := tYes) (te := tThen (tLc (iRng1 (tCons (tVar 2) tNil)) (gName 5) tYes (tCall (sp_entry T) [] E0 (tCons (tVar 0) (tCons (tVar 3) tNil))) ([(("k" : Str), 5)].map (·.2))) (kTup K)) rfl nd (pi_range1 (by rfl) B.range (pa_cons (pv 1) pa_nil)) (blkOk_by (own := [("turn", 4)]) (N := NL) (sc := defScope s_law_matrix) (by decide +kernel))
      (fun _ _ _ _ _ => pg_name (i := 4) nd rfl (.inl rfl)) (fun _ _ _ _ _ => pts_nil) (fun _ _ _ _ _ => pe_tupleOf rfl B.tuple (pe_lc (own := [("k", 5)]) (g := gName 5) (tt := tYes) (te := tCall (sp_entry T) [] E0 (tCons (tVar 0) (tCons (tVar 3) tNil))) rfl nd (pi_range1 (by rfl) B.range (pa_cons (pv 2) pa_nil)) (blkOk_by (own := [("k", 5)]) (N := NL)
        (sc := { kind := ScopeKind.function, names := [(".0", NameKind.local), ("turn", NameKind.local), ("tuple", NameKind.globalImplicit), ("range", NameKind.globalImplicit), ("cup", NameKind.cell), ("great", NameKind.cell), ("size", NameKind.cell)], isGenerator := false, isCoroutine := false })
        (scope := { kind := ScopeKind.function, names := [(".0", NameKind.local), ("k", NameKind.local), ("_law_entry", NameKind.globalImplicit), ("cup", NameKind.free), ("great", NameKind.free)], isGenerator := false, isCoroutine := false }) (by decide +kernel))
        (fun _ _ _ _ _ => pg_name (i := 5) nd rfl (.inl rfl)) (fun _ _ _ _ _ => pts_nil) (fun _ _ _ _ _ => pe_fn Fe hr (by decide) pass0 (pa_cons (pv 0) (pa_cons (pv 3) pa_nil)))))))), ?_⟩
  refine ⟨_, rfl, _, rfl, by omega, by omega, fun D hD => ?_⟩
  have nD := W.ne hD
  refine lc_dw (T := T) (M := M) (M0 := [a, l]) rowQ (fun r => r.length = n ∧ ∀ q ∈ r, Bd 42 N0 q) (fun i H' => CupAt a l H' (k + 300 * (i : Int))) (walk_range (lo := 0) (n := ((m : Nat) : Int).toNat)) (fun _ _ => trivial) ht Go.refl hD nD hM0 (by rw [sizeLine_eq]; omega) (W.up (by omega)) (fun i H' ys xs w e => w.set nD) (fun i H' ys w e => w.set nD)
    (fun i x H1 H2 R hi g1 t1 W1 hne y hR => ?_) (fun H1 ys qs g1 t1 W1 ed da lq pq => ?_)
  · obtain ⟨rfl, ey⟩ := y
    clear ey
    rw [Int.toNat_natCast] at hi
    refine ⟨rfl, _, rfl, _, rfl, by omega, by omega, fun D4 hD4 => ?_⟩
    have nD4 := W1.ne hD4
    refine lc_dw (T := T) (M := D :: M) (M0 := [a, l]) (fun q : Rat => rat q.num (q.den : Int)) (Bd 42 N0) (fun j H' => CupAt a l H' (k + 300 * (i : Int) + 6 * (j : Int))) (walk_range (lo := 0) (n := ((n : Nat) : Int).toNat)) (fun _ _ => trivial) t1 Go.refl hD4 nD4 (fun _ h => List.mem_cons_of_mem _ (hM0 _ h)) (by rw [sizeLine_eq]; omega) (W1.up (by omega)) (fun i H' ys xs w e => w.set nD4) (fun i H' ys w e => w.set nD4)
      (fun j x2 H3 H4 R2 hj g3 t3 W3 hne4 y2 hR2 => ?_) (fun H3 ws rs g3 t3 W3 ew dw lr pr => ?_)
    · obtain ⟨rfl, ey⟩ := y2
      clear ey
      rw [Int.toNat_natCast] at hj
      refine ⟨rfl, _, rfl, _, rfl, a, l, _, g, rfl, by omega, W3, t3, fun r q' H5 hr5 er bq W5 g5 t5 => ?_⟩
      refine hR2 _ q' H5 g5 (W5.up (by omega)) (.tup er (fun z => ?_) (.cons (.int _) (.cons (.int _) .nil))) bq
      rcases List.mem_cons.mp z with rfl | z
      · exact hne4 hr5
      rcases List.mem_cons.mp z with rfl | z
      · exact hne (g3.al _ hr5)
      · exact hM _ z ((g1.trans g3).al _ hr5)
    · rw [Int.toNat_natCast] at lr W3
      refine .inl ⟨D4, ws, rfl, SqL.of ew, fun p hp => ?_⟩
      have u := Go.new (T := T) (M := []) (o := .tup ws) hp
      refine hR _ rs _ (g3.trans u.of0) ((W3.go u).up (by omega)) (.tup upd_same (fun z => ?_) ?_) ⟨lr, pr⟩
      · rcases List.mem_cons.mp z with rfl | z
        · exact hne (g3.al _ hp)
        · exact hM _ z ((g1.trans g3).al _ hp)
      · have e5 : (prs rs).map (fun r => rat r.1 r.2) = rs.map fun q : Rat => rat q.num (q.den : Int) := by
          rw [prs, List.map_map]
          rfl
        rw [e5]
        exact (dw.less (M' := D :: M) (fun b hb => List.mem_cons_of_mem _ hb)).go u.of0
  · rw [Int.toNat_natCast] at lq W1
    refine .inl ⟨D, ys, rfl, SqL.of ed, fun p hp => ?_⟩
    have u := Go.new (T := T) (M := []) (o := .tup ys) hp
    refine q _ qs _ (.tup upd_same (fun z => hM _ z (g1.al _ hp)) ?_) ⟨by omega, hn, pq⟩ lq ((W1.go u).up (by omega)) (g1.trans u.of0) ((g1.trans u.of0).tb ht)
    rw [matQ_map]
    exact (da.less (M' := M) (fun b hb => List.mem_cons_of_mem _ hb)).go u.of0
end
end KM
set_option Elab.async false
set_option linter.all false
set_option maxRecDepth 100000
set_option maxHeartbeats 8000000
/-! k41: _law_same -/
namespace KM
open PySem PySem.Spec PyProof.Rows L2 GxR NdefX GA SL ZN RZ
abbrev s_law_same : Stmt := top 25
theorem sc_law_same : FnScope ["found", "due", "k"] ["found", "due"] (defScope s_law_same) := ⟨rfl, rfl, rfl, by decide +kernel, rfl, by decide +kernel, by decide +kernel⟩
/-- what is compared: integers, tuples of such -/
def okS : Nat → PyData → Prop
  | 0, d => ∃ z, d = .int z
  | n + 1, d => (∃ z, d = .int z) ∨ ∃ ws, d = .tuple ws ∧ ws.length ≤ 5000 ∧ ∀ e ∈ ws, okS n e
theorem okS_cases {n : Nat} {d : PyData} (h : okS n d) : (∃ z, d = .int z) ∨ ∃ ws j, j < n ∧ d = .tuple ws ∧ ws.length ≤ 5000 ∧ ∀ e ∈ ws, okS j e := by
  cases n with
  | zero => exact .inl h
  | succ n =>
    rcases h with h | ⟨ws, h1, h2, h3⟩
    · exact .inl h
    · exact .inr ⟨ws, n, Nat.lt_succ_self n, h1, h2, h3⟩
theorem okS_mat {m : MatQ} {n D N : Nat} (h : MQ m n D N) : okS 3 (matQ m) := by
  obtain ⟨h1, h2, h3⟩ := h
  refine .inr ⟨_, rfl, by rw [List.length_map, List.length_map]; omega, fun e he => ?_⟩
  rw [matQ_map] at he
  obtain ⟨r, hr, rfl⟩ := List.mem_map.mp he
  refine .inr ⟨_, rfl, by rw [List.length_map, prs, List.length_map, (h3 r hr).1]; omega, fun e he => ?_⟩
  obtain ⟨q, _, rfl⟩ := List.mem_map.mp he
  refine .inr ⟨_, rfl, by show 2 ≤ 5000; decide, fun e he => ?_⟩
  simp only [List.mem_cons, List.not_mem_nil, or_false] at he
  rcases he with rfl | rfl
  · exact ⟨_, rfl⟩
  · exact ⟨_, rfl⟩
def sp_same (T : List Addr) (n : Nat) : Sp := fun vs H Q _ => ∃ (v v' : V) (M M' : List Addr) (d : PyData), vs = [v, v'] ∧ Dv M H v d ∧ Dv M' H v' d ∧ okS n d ∧ Tabs T H ∧ ∀ H', Go T [] H H' → Tabs T H' → Q (.bl true) H'
section
variable {P : Program} {w : World} {K : PySem.W.Frag} {mg : Str → Option Value} {base : Heap} {f c Pt CK CR : Addr} {fd : FuncData} {T : List Addr}
theorem ok_law_same_step (n : Nat) (F : Fun K "_law_same" "_law_same" s_law_same f fd) (B : Bl mg) (Fs : Fnn P w K mg base CX0 n "_law_same" ["found", "due"] (fun vs H Q E => ∃ j, j < n ∧ sp_same T j vs H Q E)) : FnOk P w K mg base CX0 (n + 1) f fd ["found", "due"] (sp_same T n) := by
  have nd := sc_law_same.nd
  refine F.ok sc_law_same (fun vs H Q E h => ?_) (fun cdv A outer s H vs Q E hr h => ?_)
  · obtain ⟨_, _, _, _, _, rfl, _⟩ := h
    rfl
  obtain ⟨v, v', M, M', d, rfl, hv, hv', hd, ht, q⟩ := h
  refine ⟨_, pss_cons (ps_if (pt_val (pe_isi_tuple B (pv 1))) (pss_cons (ps_if (PW.pt (pw_or (pt_not (pt_val (pe_isi_tuple B (pv 0)))) (pw_or1 (pt_cmpR op_ne (pe_lenq B (pv 0)) (pe_lenq B (pv 1)) (nomark _))))) (pss_one (ps_ret pe_bl)) pss_nil)
      (pss_one (ps_ret (pe_allL rfl B (pe_lc (own := [("k", 2)]) (g := gName 2) (tt := tYes) (te := tCall (fun vs H Q E => ∃ j, j < n ∧ sp_same T j vs H Q E) [] E0 (tCons (tOp (rIxT K) (tVar 0) (tVar 2)) (tCons (tOp (rIxT K) (tVar 1) (tVar 2)) tNil))) rfl nd (pi_range1 (by rfl) B.range (pa_cons (pe_lenq B (pv 1)) pa_nil))
      (blkOk_by (own := [("k", 2)]) (N := ["found", "due", "k"]) (sc := defScope s_law_same) (by decide +kernel)) (fun _ _ _ _ _ => pg_name (i := 2) nd rfl (.inl rfl)) (fun _ _ _ _ _ => pts_nil)
      (fun _ _ _ _ _ => pe_fn Fs hr (by omega) pass0 (pa_cons (pe_ix ix_tup (pv 0) (pv 2) (fun _ _ => rfl)) (pa_cons (pe_ix ix_tup (pv 1) (pv 2) (fun _ _ => rfl)) pa_nil)))))))) pss_nil)
    (pss_cons (ps_if (pt_cmpR op_isN (pv 1) pe_non (nomark _)) (pss_one (ps_ret (pe_cmpR op_isN (pv 0) pe_non (nomark _)))) pss_nil)
    (pss_cons (ps_if (pt_val (pe_isi_bool B (pv 1))) (pss_one (ps_ret (pe_and (pe_isi_bool B (pv 0)) (pe_one (pe_cmpR op_eq (pv 0) (pv 1) (nomark _)))))) pss_nil)
    (pss_cons (ps_if (pt_val (pe_isi_int B (pv 1))) (pss_one (ps_ret (pe_and (pe_isi_int B (pv 0)) (pe_and (pe_not (pe_isi_bool B (pv 0))) (pe_one (pe_cmpR op_eq (pv 0) (pv 1) (nomark _))))))) pss_nil)
    (pss_one (ps_ret (pe_and (pe_isi_str B (pv 0)) (pe_one (pe_cmpR op_eq (pv 0) (pv 1) (nomark _))))))))), ?_⟩
  rcases okS_cases hd with ⟨z, rfl⟩ | ⟨ws, j, hj, rfl, lw, hws⟩
  · cases hv'
    cases hv
    refine ⟨_, rfl, _, _, _, rfl, Dv.int (M := []) z, _, rfl, iteF ?_⟩
    refine ⟨_, rfl, rfl, _, rfl, iteF ?_⟩
    refine ⟨_, rfl, _, _, _, rfl, Dv.int (M := []) z, _, rfl, iteF ?_⟩
    refine ⟨_, rfl, _, _, _, rfl, Dv.int (M := []) z, _, rfl, iteT ?_⟩
    refine ⟨_, rfl, _, _, _, rfl, Dv.int (M := []) z, _, rfl, ?_⟩
    split
    · refine ⟨_, rfl, _, _, _, rfl, Dv.int (M := []) z, _, rfl, _, rfl, ?_⟩
      split
      · refine ⟨_, rfl, _, rfl, rfl, ?_⟩
        exact goQ (q H Go.refl ht) (decide_eq_true rfl).symm
      · rename_i h
        exact absurd rfl h
    · rename_i h
      exact absurd rfl h
  · obtain ⟨p1, xs, rfl, e1, n1, d1⟩ := dv_tup hv
    obtain ⟨p2, ys, rfl, e2, n2, d2⟩ := dv_tup hv'
    have l1 := d1.length
    have l2 := d2.length
    have nn : ∀ b : Addr, b ∉ ([] : List Addr) := fun b => List.not_mem_nil
    refine ⟨_, rfl, _, _, _, rfl, hv', _, rfl, iteT ?_⟩
    refine ⟨_, rfl, _, _, _, rfl, hv, _, rfl, iteF ?_⟩
    refine ⟨_, rfl, p1, xs, rfl, .inr (SqT.of e1), _, rfl, p2, ys, rfl, .inr (SqT.of e2), rfl, _, rfl, ?_⟩
    refine if_false_of (by rw [l1, l2]; simp) ?_
    refine ⟨_, rfl, p2, ys, rfl, .inr (SqT.of e2), _, rfl, by omega, by omega, fun D hD => ?_⟩
    have gD := Go.new (T := T) (M := []) (o := .lst []) hD
    refine lc_map (T := T) (H0 := H) (H1 := H) (fun _ => V.bl true) (walk_range (lo := 0) (n := ((ys.length : Nat) : Int).toNat)) (fun _ _ => trivial) ht Go.refl hD (by rw [sizeLine_eq]; omega) (fun i x H' H'' R hi g' t' y k => ?_) (fun H' g' t' e' => ?_)
    · obtain ⟨rfl, ey⟩ := y
      have ey2 : x = V.int (i : Int) := by rw [ey]; show V.int (0 + (i : Int)) = _; rw [Int.zero_add]
      clear ey
      subst ey2
      rw [Int.toNat_natCast] at hi
      have hx : xs[i]? = some xs[i] := List.getElem?_eq_getElem (by omega)
      have hy : ys[i]? = some ys[i] := List.getElem?_eq_getElem hi
      generalize xs[i] = x1 at hx
      generalize ys[i] = y1 at hy
      obtain ⟨e, ee, dx⟩ := d1.get hx
      obtain ⟨e0, ee0, dy⟩ := d2.get hy
      rw [ee] at ee0
      cases ee0
      refine ⟨rfl, _, rfl, _, rfl, p1, xs, (i : Int), x1, rfl, rfl, SqT.of (g'.tup e1 (nn _)), atI_nat hx, _, rfl, _, rfl, p2, ys, (i : Int), y1, rfl, rfl, SqT.of (g'.tup e2 (nn _)), atI_nat hy, j, hj, x1, y1, M, M', e, rfl, dx.go g'.of0, dy.go g'.of0, hws e (List.mem_of_getElem? ee), t', fun H3 g3 _ => k H3 g3⟩
    · refine ⟨D, (List.range ((ys.length : Nat) : Int).toNat).map fun _ => true, rfl, SqL.of (by rw [List.map_map]; exact e'), ?_⟩
      exact goQ (q H' g' t') (by simp)
theorem ok_law_same (F : Fun K "_law_same" "_law_same" s_law_same f fd) (hm : mg "_law_same" = some (.ref f)) (hb : Binds K fd ["found", "due"] []) (B : Bl mg) (n : Nat) : FnOk P w K mg base CX0 (n + 1) f fd ["found", "due"] (sp_same T n) := by
  induction n using Nat.strongRecOn with
  | ind n ih =>
    refine ok_law_same_step n F B ⟨f, fd, ⟨?_, ?_⟩, hm, F.kp, hb⟩
    · rintro vs H Q E ⟨j, hj, h⟩
      exact (ih j hj).len vs H Q E h
    · rintro A outer s H args us vs Q E hr env hbt hv ⟨j, hj, h⟩
      exact (ih j hj).run A outer s H args us vs Q E (hr.mono (by omega)) env hbt hv h
end
end KM
set_option Elab.async false
set_option linter.all false
set_option maxRecDepth 100000
set_option maxHeartbeats 8000000
/-! k41: _law_due -/
namespace KM
open PySem PySem.Spec PyProof.Rows L2 GxR NdefX GA SL ZN RZ
abbrev s_law_due : Stmt := top 27
abbrev ND : List Str := ["one", "other", "size", "rows", "row", "entries", "k", "total", "line"]
theorem sc_law_due : FnScope ["one", "other", "size", "rows", "row", "entries", "k", "total", "line"] ["one", "other", "size"] (defScope s_law_due) := ⟨rfl, rfl, rfl, by decide +kernel, rfl, by decide +kernel, by decide +kernel⟩
def sp_due (T : List Addr) : Sp := fun vs H Q _ => ∃ (M : List Addr) (v1 v2 : V) (m1 m2 : MatQ) (n D1 N1 D2 N2 : Nat), vs = [v1, v2, .int n] ∧ Dv M H v1 (matQ m1) ∧ Dv M H v2 (matQ m2) ∧ MQ m1 m2.length D1 N1 ∧ MQ m2 n D2 N2 ∧ 0 < D1 ∧ 0 < D2 ∧ D1 * D2 < 1073741824 ∧
  N1 < 2 ^ 40000 ∧ N2 < 2 ^ 40000 ∧ Tabs T H ∧ (∀ b ∈ M, H b ≠ none) ∧ ∀ v' H', Go T [] H H' → Tabs T H' → Dv M H' v' (matQ (prodQ m1 m2 n)) → Q v' H'
theorem col_data (m : MatQ) (k : Nat) : ((prs (colQ m k)).map fun r => rat r.1 r.2) = (List.range m.length).map fun j => rat ((m.getD j []).getD k 0).num (((m.getD j []).getD k 0).den : Int) := by
  rw [prs, colQ, List.map_map, List.map_map]
  refine List.ext_getElem? fun j => ?_
  rw [List.getElem?_map, List.getElem?_map]
  by_cases hj : j < m.length
  · rw [List.getElem?_range hj, List.getElem?_eq_getElem hj]
    simp [List.getD_eq_getElem?_getD, List.getElem?_eq_getElem hj]
  · rw [List.getElem?_eq_none (l := m) (by omega), List.getElem?_eq_none (by rw [List.length_range]; omega)]
    rfl
section
variable {P : Program} {w : World} {K : PySem.W.Frag} {mg : Str → Option Value} {base : Heap} {f c Pt CK CR : Addr} {fd : FuncData} {T : List Addr}
theorem ok_law_due (F : Fun K "_law_due" "_law_due" s_law_due f fd) (B : Bl mg) (Ft : Fnn P w K mg base CX0 1 "_law_total" ["ones", "others"] (sp_total T)) (Fr : Fnn P w K mg base CX0 1 "_law_ratio" ["top", "bottom"] sp_lratio) : FnOk P w K mg base CX0 2 f fd ["one", "other", "size"] (sp_due T) := by
  have nd := sc_law_due.nd
  refine F.ok sc_law_due (fun vs H Q E h => ?_) (fun cdv A outer s H vs Q E hr h => ?_)
  · obtain ⟨_, _, _, _, _, _, _, _, _, _, rfl, _⟩ := h
    rfl
  obtain ⟨M, v1, v2, m1, m2, n, D1, N1, D2, N2, rfl, hv1, hv2, ⟨l1, l2, hm1⟩, ⟨_, l3, hm2⟩, hD1, hD2, hDD, hN1, hN2, ht, hM, q⟩ := h
  have nn : ∀ b : Addr, b ∉ ([] : List Addr) := fun b => List.not_mem_nil
  refine ⟨_, pss_cons (ps_set (i := 3) nd rfl (.inl rfl) (pe_lst pa_nil))
    (pss_cons (ps_for PassesOwn.never rfl (pi_tup (pv 0)) (pg_name (i := 4) nd rfl (.inl rfl))
      (pss_cons (ps_set (i := 5) nd rfl (.inl rfl) (pe_lst pa_nil))
      (pss_cons (ps_for PassesOwn.never rfl (pi_range1 (by rfl) B.range (pa_cons (pv 2) pa_nil)) (pg_name (i := 6) nd rfl (.inr rfl))
        (pss_cons (ps_set (i := 7) nd rfl (.inl rfl) (pe_fn Ft hr (by decide) pass0 (pa_cons (pv 4) (pa_cons (pe_lc (own := [("line", 8)]) (g := gName 8) (tt := tYes) (te := tOp (rIxT K) (tVar 8) (tVar 6)) rfl nd (pi_tup (pv 1)) (blkOk_by (own := [("line", 8)]) (N := ND) (sc := defScope s_law_due) (by decide +kernel))
          (fun _ _ _ _ _ => pg_name (i := 8) nd rfl (.inl rfl)) (fun _ _ _ _ _ => pts_nil) (fun _ _ _ _ _ => pe_ix ix_tup (pv 8) (pv 6) (fun _ _ => rfl))) pa_nil))))
        (pss_one (ps_expr (pe_bm PySem.F.plainAttrs_list PySem.F.slot_list_append PySem.F.type_list_append mt_append (pv 5) (pa_cons (pe_fn Fr hr (by decide) pass0 (pa_cons (pe_ix ix_tup (pv 7) pe_int (fun _ _ => rfl)) (pa_cons (pe_ix ix_tup (pv 7) pe_int (fun _ _ => rfl)) pa_nil))) pa_nil))))))
      (pss_one (ps_expr (pe_bm PySem.F.plainAttrs_list PySem.F.slot_list_append PySem.F.type_list_append mt_append (pv 3) (pa_cons (pe_tupleOf (by rfl) B.tuple (pv 5)) pa_nil)))))))
    (pss_one (ps_ret (pe_tupleOf (by rfl) B.tuple (pv 3))))), ?_⟩
  obtain ⟨a1, xs1, rfl, ea1, na1, dx1⟩ := dv_tup hv1
  rw [matQ_map] at dx1
  have lx1 := dx1.length
  rw [List.length_map] at lx1
  obtain ⟨a2, xs2, rfl, ea2, na2, dx2⟩ := dv_tup hv2
  rw [matQ_map] at dx2
  have lx2 := dx2.length
  rw [List.length_map] at lx2
  refine ⟨by show 0 ≤ sizeLine; omega, fun ra hra => ?_⟩
  have g0 := Go.new (T := T) (M := []) (o := .lst []) hra
  have nra : ra ∉ M := fun z => hM _ z hra
  refine ⟨_, rfl, a1, rfl, ⟨_, SqT.of (g0.tup ea1 (nn _))⟩, ?_⟩
  refine for_it (n := xs1.length) walk_tup (fun i σ H' => Go T [] H H' ∧ ∃ (rl : List V) (p4 p5 p6 p7 : Option V), σ = [some (.ref a1), some (.ref a2), some (.int (n : Int)), some (.ref ra), p4, p5, p6, p7, none] ∧ H' ra = some (.lst rl) ∧ rl.length = i ∧ DvAll (ra :: M) H' rl ((List.range i).map fun i => rowQ ((List.range n).map fun k => dotQ (m1.getD i []) (colQ m2 k))))
    ⟨g0, [], none, none, none, none, rfl, upd_same, rfl, .nil⟩ (fun i σ H' _ h => SqT.of (h.1.tup ea1 (nn _))) (fun i x σ H1 H2 hi h y => ?_) (fun σ H1 h => ?_)
  · obtain ⟨g1, rl, p4, p5, p6, p7, rfl, er, lr, dr⟩ := h
    obtain ⟨rfl, ex⟩ := y
    have t1 := g1.tb ht
    have hi1 : i < m1.length := by omega
    obtain ⟨d, ed, hx⟩ := (dx1.go g1.of0).get ex
    rw [List.getElem?_map, List.getElem?_eq_getElem hi1] at ed
    cases ed
    have e : m1.getD i [] = m1[i] := by rw [List.getD_eq_getElem?_getD, List.getElem?_eq_getElem hi1] <;> rfl
    obtain ⟨hl, hb⟩ := hm1 m1[i] (List.getElem_mem _)
    generalize m1[i] = r at *
    refine ⟨by show 0 ≤ sizeLine; omega, fun en hen => ?_⟩
    have gen := Go.new (T := T) (M := []) (o := .lst []) hen
    have nre : ra ≠ en := ne_of_none er hen
    refine ⟨_, rfl, _, rfl, by omega, by omega, ?_⟩
    refine for_it (walk_range (lo := 0) (n := ((n : Nat) : Int).toNat)) (fun k σ H' => Go T [] H2 H' ∧ ∃ (es : List V) (p6 p7 : Option V), σ = [some (.ref a1), some (.ref a2), some (.int (n : Int)), some (.ref ra), some x, some (.ref en), p6, p7, none] ∧ H' en = some (.lst es) ∧ es.length = k ∧ DvAll (en :: ra :: M) H' es ((List.range k).map fun k => rat (dotQ r (colQ m2 k)).num ((dotQ r (colQ m2 k)).den : Int)))
      ⟨gen, [], p6, p7, rfl, upd_same, rfl, .nil⟩ (fun _ _ _ _ _ => trivial) (fun k x2 σ H3 H4 hk h y2 => ?_) (fun σ H3 h => ?_)
    · obtain ⟨g3, es, p6, p7, rfl, ee, le, de⟩ := h
      obtain ⟨rfl, ey⟩ := y2
      have ey2 : x2 = V.int (k : Int) := by rw [ey]; show V.int (0 + (k : Int)) = _; rw [Int.zero_add]
      clear ey
      subst ey2
      rw [Int.toNat_natCast] at hk
      have t3 := g3.tb t1
      refine ⟨_, rfl, _, rfl, a2, rfl, ⟨_, SqT.of ((g1.trans g3).tup ea2 (nn _))⟩, fun D hD => ?_⟩
      refine lc_dv (T := T) (M := []) (fun j => rat ((m2.getD j []).getD k 0).num (((m2.getD j []).getD k 0).den : Int)) (walk_tup (xs := xs2)) (fun H' g' => SqT.of (((g1.trans g3).trans g').tup ea2 (nn _))) t3 Go.refl hD (by rw [sizeLine_eq]; omega) (fun j v H5 H6 R hj g5 t5 hne y hR => ?_) (fun H5 ys g5 t5 eD dD => ?_)
      · obtain ⟨rfl, ey⟩ := y
        obtain ⟨d, ed, hx2⟩ := (((dx2.less (M' := []) (by simp)).go (g1.trans g3)).hide hD |>.go g5.of0).get ey
        rw [List.getElem?_map] at ed
        obtain ⟨s, es2, rfl⟩ := Option.map_eq_some_iff.mp ed
        obtain ⟨b, ws, rfl, eb, nb, dw⟩ := dv_tup hx2
        have hs := hm2 s (List.mem_of_getElem? es2)
        obtain ⟨r', er', eq', nr'⟩ := rat_at dw (show k < s.length by rw [hs.1]; exact hk)
        have em : m2.getD j [] = s := by rw [List.getD_eq_getElem?_getD, es2] <;> rfl
        rw [em] at hR
        refine ⟨rfl, _, rfl, _, rfl, b, ws, (k : Int), _, rfl, rfl, SqT.of eb, atI_nat er', ?_⟩
        exact hR _ _ Go.refl (.tup eq' nr' (.cons (.int _) (.cons (.int _) .nil)))
      · rw [lx2, ← col_data] at dD
        have gx := (g1.trans g3).trans g5
        refine ⟨[], x, .ref D, r, colQ m2 k, D1, N1, D2, N2, rfl, (hx.less (M' := []) (by simp)).go (g3.trans g5), .lst eD (nn _) (dD.less (M' := []) (by simp)), by rw [colQ_len, hl], by omega, hb, colQ_bd hm2 hk, hD1, hD2, hDD, hN1, hN2, t5, fun p t b H7 hp g7 t7 ep b0 b8 eqd => ?_⟩
        refine ⟨_, rfl, .inl ⟨rfl, _, SqL.of ((g5.trans g7).lst ee (nn _))⟩, ?_⟩
        refine ⟨_, rfl, p, _, 0, _, rfl, rfl, SqT.of ep, atI_nat (j := 0) rfl, _, rfl, p, _, 1, _, rfl, rfl, SqT.of ep, atI_nat (j := 1) rfl, t, b, rfl, b0, b8, fun pr hpr => ?_⟩
        rw [eqd]
        have u := Go.new (T := T) (M := []) (o := .tup [.int (dotQ r (colQ m2 k)).num, .int ((dotQ r (colQ m2 k)).den : Int)]) hpr
        have g57 := g5.trans g7
        have e8 := (g57.trans u).lst ee (nn _)
        have gs := Go.set (T := T) (M := en :: ra :: M) (o := .lst (es ++ [V.ref pr])) e8 (fun _ z => by cases z) (List.mem_cons_self ..)
        refine ⟨en, _, _, rfl, rfl, e8, by rw [sizeLine_eq]; omega, ?_⟩
        have gen1 : H2 en = none := hen
        refine ⟨((g3.trans g57).trans u).over gen1 e8 (fun _ z => by cases z), es ++ [V.ref pr], _, _, rfl, upd_same, by rw [List.length_append, le] <;> rfl, ?_⟩
        rw [List.range_succ, List.map_append]
        refine DvAll.append ((de.go (g57.trans u).of0).go gs) (.cons (Dv.go (.tup upd_same (fun z => ?_) (.cons (.int _) (.cons (.int _) .nil))) gs) .nil)
        have gall := (g1.trans g3).trans g57
        rcases List.mem_cons.mp z with rfl | z
        · rw [g57.lst ee (nn _)] at hpr
          cases hpr
        rcases List.mem_cons.mp z with rfl | z
        · rw [(g3.trans g57).lst er (nn _)] at hpr
          cases hpr
        · exact hM _ z (gall.al _ hpr)
    · obtain ⟨g3, es, p6, p7, rfl, ee, le, de⟩ := h
      rw [Int.toNat_natCast] at le de
      refine ⟨_, rfl, .inl ⟨rfl, _, SqL.of (g3.lst er (nn _))⟩, ?_⟩
      refine ⟨_, rfl, .inl ⟨en, es, rfl, SqL.of ee, fun p hp => ?_⟩⟩
      have u := Go.new (T := T) (M := []) (o := .tup es) hp
      have e8 := (g3.trans u).lst er (nn _)
      have gs := Go.set (T := T) (M := ra :: M) (o := .lst (rl ++ [V.ref p])) e8 (fun _ z => by cases z) (List.mem_cons_self ..)
      refine ⟨ra, _, _, rfl, rfl, e8, by rw [sizeLine_eq]; omega, ?_⟩
      refine ⟨((g1.trans g3).trans u).over hra e8 (fun _ z => by cases z), rl ++ [V.ref p], _, _, _, _, rfl, upd_same, by rw [List.length_append, lr] <;> rfl, ?_⟩
      rw [List.range_succ, List.map_append]
      refine DvAll.append ((dr.go (g3.trans u).of0).go gs) (.cons (Dv.go (.tup upd_same (fun z => ?_) ?_) gs) .nil)
      · rcases List.mem_cons.mp z with rfl | z
        · rw [g3.lst er (nn _)] at hp
          cases hp
        · exact hM _ z ((g1.trans g3).al _ hp)
      · have e5 : (prs ((List.range n).map fun k => dotQ (m1.getD i []) (colQ m2 k))).map (fun r => rat r.1 r.2) = (List.range n).map fun k => rat (dotQ r (colQ m2 k)).num (dotQ r (colQ m2 k)).den := by
          rw [prs, List.map_map, List.map_map, e]
          rfl
        rw [e5]
        exact (de.less (M' := ra :: M) (fun b hb => List.mem_cons_of_mem _ hb)).go u.of0
  · obtain ⟨g1, rl, p4, p5, p6, p7, rfl, er, lr, dr⟩ := h
    refine ⟨_, rfl, .inl ⟨ra, rl, rfl, SqL.of er, fun p hp => ?_⟩⟩
    have u := Go.new (T := T) (M := []) (o := .tup rl) hp
    refine q _ _ (g1.trans u) ((g1.trans u).tb ht) (.tup upd_same (fun z => hM _ z (g1.al _ hp)) ?_)
    rw [matQ_map]
    have e5 : (prodQ m1 m2 n).map rowQ = (List.range xs1.length).map fun i => rowQ ((List.range n).map fun k => dotQ (m1.getD i []) (colQ m2 k)) := by
      rw [lx1, prodQ, List.map_map]
      refine List.ext_getElem? fun j => ?_
      rw [List.getElem?_map, List.getElem?_map]
      by_cases hj : j < m1.length
      · rw [List.getElem?_range hj, List.getElem?_eq_getElem hj]
        simp [List.getD_eq_getElem?_getD, List.getElem?_eq_getElem hj]
      · rw [List.getElem?_eq_none (l := m1) (by omega), List.getElem?_eq_none (by rw [List.length_range]; omega)]
        rfl
    rw [e5]
    exact (dr.less (M' := M) (fun b hb => List.mem_cons_of_mem _ hb)).go u.of0
end
end KM
set_option Elab.async false
set_option linter.all false
set_option maxRecDepth 100000
set_option maxHeartbeats 2000000
/-! own words, 38: t == () -/
namespace SL
open PySem PySem.Spec PyProof.Rows L2 GxR NdefX GA RZ
section
variable {X : Cx}
def rEqNilT (K : PySem.W.Frag) : R2 := fun x y H Q => ∃ a b xs, x = .ref a ∧ y = .ref b ∧ SqT K H a xs ∧ SqT K H b [] ∧ Q (.bl xs.isEmpty) H
theorem op_eqNilT (hu : X.A.units < cLine) : OpR X (compareOp .Eq) (rEqNilT X.K) := by
  intro pins s σ H x y v u Q I rx ry h
  obtain ⟨a, b, xs, rfl, rfl, h1, h2, q⟩ := h
  cases rx
  cases ry
  show wpAny _ _ (richCompare .Eq (.ref a) (.ref b)) _ _ _
  have fin : EP X pins σ Q (.bool xs.isEmpty) s := ⟨.bl _, H, I, rfl, q⟩
  obtain ⟨its, r, ⟨o, g, c, n, dd⟩, _⟩ := I.tuple h1
  obtain ⟨its2, r2, ⟨o2, g2, c2, n2, dd2⟩, _⟩ := I.tuple h2
  cases r2
  have l1 : s.heap.IsTuple a its.toArray := ⟨o, g, c, n, dd⟩
  have l2 : s.heap.IsTuple b ([] : List Value).toArray := ⟨o2, g2, c2, n2, dd2⟩
  refine PySem.SeqAt.RcAt.tuples l1 l2 hu (e := fun _ => true) (fun j _ hj => absurd hj (Nat.not_lt_zero _)) _ _ _ _ ?_
  cases r with
  | nil => exact fin
  | cons _ _ => simpa using fin
end
end SL
set_option Elab.async false
set_option linter.all false
set_option maxRecDepth 100000
set_option maxHeartbeats 16000000
/-! k41: law -/
namespace KM
open PySem PySem.Spec PyProof.Rows L2 GxR NdefX GA SL ZN RZ
abbrev s_law : Stmt := top 28
abbrev NW : List Str := ["script", "cup", "turn", "great", "sizes", "one", "two", "three", "due", "left", "size", "flat", "tall", "k", "entry"]
theorem sc_law : FnScope ["script", "cup", "turn", "great", "sizes", "one", "two", "three", "due", "left", "size", "flat", "tall", "k", "entry"] ["script"] (defScope s_law) := ⟨rfl, rfl, rfl, by decide +kernel, rfl, by decide +kernel, by decide +kernel⟩
def sp_law (K : PySem.W.Frag) (T : List Addr) : Sp := fun vs H Q _ => ∃ (b : Addr) (ns : List Int), vs = [.ref b] ∧ SqL K H b (ns.map V.int) ∧ ns.length ≤ 63 ∧ Tabs T H ∧ ∀ H', Q (.bl true) H'
theorem four_of {qs : List Nat} (h : qs.length = 4) : ∃ n0 n1 n2 n3, qs = [n0, n1, n2, n3] := match qs, h with | [a, b, c, d], _ => ⟨a, b, c, d, rfl⟩
theorem three_of {qs : List Nat} (h : qs.length = 3) : ∃ n0 n1 n2, qs = [n0, n1, n2] := match qs, h with | [a, b, c], _ => ⟨a, b, c, rfl⟩
def N1 : Nat := 48 * ((N0 * 42) * (N0 * 42))
theorem n0_lt : N0 < 2 ^ 40000 := Nat.lt_of_lt_of_le (show N0 < 2 ^ 200 by decide +kernel) (Nat.pow_le_pow_right (by decide) (by decide))
theorem n1_lt : N1 < 2 ^ 40000 := Nat.lt_of_lt_of_le (show N1 < 2 ^ 400 by decide +kernel) (Nat.pow_le_pow_right (by decide) (by decide))
theorem prodQ_len (m1 m2 : MatQ) (n : Nat) : (prodQ m1 m2 n).length = m1.length := by rw [prodQ, List.length_map]
theorem prodQ_MQ {m1 m2 : MatQ} {n : Nat} (h1 : MQ m1 m2.length 42 N0) (h2 : MQ m2 n 42 N0) : MQ (prodQ m1 m2 n) n (42 * 42) N1 := by
  refine ⟨by rw [prodQ_len]; exact h1.1, h2.2.1, fun r hr => ?_⟩
  obtain ⟨s, hs, rfl⟩ := List.mem_map.mp hr
  refine ⟨by rw [List.length_map, List.length_range], fun q hq => ?_⟩
  obtain ⟨k, hk, rfl⟩ := List.mem_map.mp hq
  obtain ⟨hl, hb⟩ := h1.2.2 s hs
  have z := dotQ_bd (D := 42) (D' := 42) (N := N0) (N' := N0) (by decide) (by decide) (show s.length = (colQ m2 k).length by rw [colQ_len, hl]) hb (colQ_bd h2.2.2 (List.mem_range.mp hk))
  refine ⟨z.1, Nat.le_trans z.2 (Nat.mul_le_mul ?_ (Nat.le_refl _))⟩
  rw [hl]
  exact h1.2.1
theorem okS_any {m : MatQ} {n : Nat} (h1 : m.length ≤ 48) (h2 : ∀ r ∈ m, r.length ≤ 48) : okS 3 (matQ m) := by
  refine .inr ⟨_, rfl, by rw [List.length_map, List.length_map]; omega, fun e he => ?_⟩
  rw [matQ_map] at he
  obtain ⟨r, hr, rfl⟩ := List.mem_map.mp he
  refine .inr ⟨_, rfl, by rw [List.length_map, prs, List.length_map]; have := h2 r hr; omega, fun e he => ?_⟩
  obtain ⟨q, _, rfl⟩ := List.mem_map.mp he
  refine .inr ⟨_, rfl, by show 2 ≤ 5000; decide, fun e he => ?_⟩
  simp only [List.mem_cons, List.not_mem_nil, or_false] at he
  rcases he with rfl | rfl
  · exact ⟨_, rfl⟩
  · exact ⟨_, rfl⟩
theorem okS_prod (m1 m2 : MatQ) {n : Nat} (h1 : m1.length ≤ 48) (h2 : n ≤ 48) : okS 3 (matQ (prodQ m1 m2 n)) := by
  refine okS_any (n := n) (by rw [prodQ_len]; exact h1) fun r hr => ?_
  obtain ⟨s, _, rfl⟩ := List.mem_map.mp hr
  rw [List.length_map, List.length_range]
  exact h2
theorem MQ_nil {n D N : Nat} (h : n ≤ 48) : MQ [] n D N := ⟨Nat.zero_le _, h, fun r hr => absurd hr List.not_mem_nil⟩
theorem hid3 {a l sz : Addr} {H : Hp} {k : Int} (W : CupAt a l H k) (h : H sz ≠ none) : ∀ b ∈ [a, l, sz], H b ≠ none := fun b hb => by
  simp only [List.mem_cons, List.not_mem_nil, or_false] at hb
  rcases hb with rfl | rfl | rfl
  · exact W.lists _ (by simp)
  · exact W.lists _ (by simp)
  · exact h
theorem al3 {a l sz : Addr} : ∀ b ∈ [a, l], b ∈ [a, l, sz] := fun b hb => by
  simp only [List.mem_cons, List.not_mem_nil, or_false] at hb ⊢
  rcases hb with rfl | rfl <;> simp
theorem emp_iff {xs : List V} {n : Nat} (h : xs.length = n) : xs.isEmpty = decide (n = 0) := by
  subst h
  cases xs <;> rfl
theorem one_of {m : MatQ} (h : m.length = 1) : ∃ r, m = [r] := match m, h with | [r], _ => ⟨r, rfl⟩
/-- a row set upright -/
def upQ (r : List Rat) : MatQ := r.map fun q => [q]
theorem upQ_MQ {r : List Rat} {D N : Nat} (h : r.length ≤ 48) (hb : ∀ q ∈ r, Bd D N q) : MQ (upQ r) 1 D N := by
  refine ⟨by rw [upQ, List.length_map]; exact h, by decide, fun s hs => ?_⟩
  obtain ⟨q, hq, rfl⟩ := List.mem_map.mp hs
  refine ⟨rfl, fun p hp => ?_⟩
  rw [List.mem_singleton.mp hp]
  exact hb q hq
theorem upQ_len (r : List Rat) : (upQ r).length = r.length := by rw [upQ, List.length_map]
theorem upQ_data (r : List Rat) : (upQ r).map rowQ = (List.range r.length).map fun j => rowQ [r.getD j 0] := by
  rw [upQ, List.map_map]
  refine List.ext_getElem? fun j => ?_
  rw [List.getElem?_map, List.getElem?_map]
  by_cases hj : j < r.length
  · rw [List.getElem?_range hj, List.getElem?_eq_getElem hj]
    simp [List.getD_eq_getElem?_getD, List.getElem?_eq_getElem hj]
  · rw [List.getElem?_eq_none (l := r) (by omega), List.getElem?_eq_none (by rw [List.length_range]; omega)]
    rfl
section
variable {P : Program} {w : World} {K : PySem.W.Frag} {mg : Str → Option Value} {base : Heap} {f c Pt CK CR : Addr} {fd : FuncData} {T : List Addr}
theorem ok_law (F : Fun K "law" "law" s_law f fd) (B : Bl mg) (Fc : Fnn P w K mg base CX0 1 "_law_cup" ["script"] (sp_cup K T)) (Fd : Fnn P w K mg base CX0 1 "_law_sip" ["cup", "many"] (sp_sip T)) (Fm : Fnn P w K mg base CX0 3 "_law_matrix" ["cup", "many", "size", "great"] (sp_lmatrix T))
    (Ft : Fnn P w K mg base CX0 8 "times_matrix" ["one", "other"] (sp_prod T)) (Fk : Fnr P w K mg base CX0 8 "times_matrix" ["one", "other"] (sp_prod T)) (Fs : Fnn P w K mg base CX0 4 "_law_same" ["found", "due"] (sp_same T 3)) (Fu : Fnn P w K mg base CX0 2 "_law_due" ["one", "other", "size"] (sp_due T)) : FnOk P w K mg base CX0 9 f fd ["script"] (sp_law K T) := by
  have nd := sc_law.nd
  refine F.ok sc_law (fun vs H Q E h => ?_) (fun cdv A outer s H vs Q E hr h => ?_)
  · obtain ⟨_, _, rfl, _⟩ := h
    rfl
  obtain ⟨b, ns, rfl, hS, hl, ht, q⟩ := h
  have nn : ∀ b : Addr, b ∉ ([] : List Addr) := fun b => List.not_mem_nil
  have hu : (A.deeper (envOfC "law" (defScope s_law) s.heap.objs.size f cdv)).units < cLine := by
    have := hr.un
    omega
  refine ⟨_, (pss_cons (ps_set (i := 1) nd rfl (Or.inr rfl) (pe_fn Fc hr (by decide) pass0 (pa_cons (pv 0) pa_nil)))
    (pss_cons (ps_for PassesOwn.never rfl (pi_range1 (by rfl) B.range (pa_cons pe_int pa_nil)) (pg_name (i := 2) nd rfl (Or.inl rfl))
    (pss_cons (ps_set (i := 3) nd rfl (Or.inl rfl) (pe_cmpR op_eq (pe_fn Fd hr (by decide) pass0 (pa_cons (pv 1) (pa_cons pe_int pa_nil))) pe_int (nomark _)))
    (pss_cons (ps_setLc (i := 4) (own := [("k", 13)]) (g := gName 13) (tt := tYes) (te := tCall (sp_sip T) [] E0 (tCons (tVar 1) (tCons (tC (.int 6)) tNil))) rfl nd rfl rfl (sw_true rfl rfl rfl (by decide +kernel)) (pi_range1 (by rfl) B.range (pa_cons pe_int pa_nil)) (blkOk_by (own := [("k", 13)]) (N := NW) (sc := defScope s_law) (by decide +kernel))
        (fun _ _ _ _ _ => (pg_name (i := 13) nd rfl (Or.inl rfl))) (fun _ _ _ _ _ => pts_nil) (fun _ _ _ _ _ => (pe_fn Fd hr (by decide) pass0 (pa_cons (pv 1) (pa_cons pe_int pa_nil)))))
    (pss_cons (ps_par (i := 5) (j := 6) rfl nd rfl rfl (by decide) rfl rfl (pa_cons (pe_fn Fm hr (by decide) pass0 (pa_cons (pv 1) (pa_cons (pe_ix ix_list (pv 4) pe_int (fun _ _ => rfl)) (pa_cons (pe_ix ix_list (pv 4) pe_int (fun _ _ => rfl)) (pa_cons (pv 3) pa_nil))))) (pa_cons (pe_fn Fm hr (by decide) pass0 (pa_cons (pv 1) (pa_cons (pe_ix ix_list (pv 4) pe_int (fun _ _ => rfl)) (pa_cons (pe_ix ix_list (pv 4) pe_int (fun _ _ => rfl)) (pa_cons (pv 3) pa_nil))))) pa_nil)) rfl)
    (pss_cons (ps_set (i := 7) nd rfl (Or.inl rfl) (pe_fn Fm hr (by decide) pass0 (pa_cons (pv 1) (pa_cons (pe_ix ix_list (pv 4) pe_int (fun _ _ => rfl)) (pa_cons (pe_ix ix_list (pv 4) pe_int (fun _ _ => rfl)) (pa_cons (pv 3) pa_nil))))))
    (pss_cons (ps_if (pt_cmpR (op_eqNilT hu) (pv 6) (pe_tup pa_nil) (nomark _)) (pss_one (ps_asg pe_int (pg_sub (pv 4) pe_int set_list))) pss_nil)
    (pss_cons (ps_if (pt_cmpR (op_eqNilT hu) (pv 5) (pe_tup pa_nil) (nomark _)) (pss_one (ps_set (i := 6) nd rfl (Or.inl rfl) (pe_fn Fm hr (by decide) pass0 (pa_cons (pv 1) (pa_cons (pe_fn Fd hr (by decide) pass0 (pa_cons (pv 1) (pa_cons pe_int pa_nil))) (pa_cons (pe_ix ix_list (pv 4) pe_int (fun _ _ => rfl)) (pa_cons (pv 3) pa_nil))))))) pss_nil)
    (pss_cons (ps_set (i := 8) nd rfl (Or.inl rfl) (pe_fn Fu hr (by decide) pass0 (pa_cons (pv 5) (pa_cons (pv 6) (pa_cons (pe_ix ix_list (pv 4) pe_int (fun _ _ => rfl)) pa_nil)))))
    (pss_cons (ps_if (PW.pt (pw_or (pt_not (pt_val (pe_fn Fs hr (by decide) pass0 (pa_cons (pe_fn Ft hr (by decide) pass0 (pa_cons (pv 5) (pa_cons (pv 6) pa_nil))) (pa_cons (pv 8) pa_nil))))) (pw_or1 (pt_not (pt_val (pe_fn Fs hr (by decide) pass0 (pa_cons (pe_kwR Fk hr (by decide) (fun σ => pass0S σ) (pk_cons (pv 6) (pk_cons (pv 5) pk_nil))) (pa_cons (pv 8) pa_nil)))))))) (pss_one (ps_ret pe_bl)) pss_nil)
    (pss_one (ps_if (PW.pt (pw_and (pt_cmpR (op_neNil hu) (pv 5) (pe_tup pa_nil) (nomark _)) (pw_and (pt_cmpR (op_neNil hu) (pv 6) (pe_tup pa_nil) (nomark _)) (pw_and1 (pt_cmpR (op_neNil hu) (pv 7) (pe_tup pa_nil) (nomark _)))))) (pss_cons (ps_set (i := 9) nd rfl (Or.inl rfl) (pe_fn Ft hr (by decide) pass0 (pa_cons (pe_fn Ft hr (by decide) pass0 (pa_cons (pv 5) (pa_cons (pv 6) pa_nil))) (pa_cons (pv 7) pa_nil))))
    (pss_cons (ps_if (pt_not (pt_val (pe_fn Fs hr (by decide) pass0 (pa_cons (pv 9) (pa_cons (pe_fn Fu hr (by decide) pass0 (pa_cons (pv 8) (pa_cons (pv 7) (pa_cons (pe_ix ix_list (pv 4) pe_int (fun _ _ => rfl)) pa_nil)))) pa_nil))))) (pss_one (ps_ret pe_bl)) pss_nil)
    (pss_one (ps_if (pt_not (pt_val (pe_fn Fs hr (by decide) pass0 (pa_cons (pe_fn Ft hr (by decide) pass0 (pa_cons (pv 5) (pa_cons (pe_fn Ft hr (by decide) pass0 (pa_cons (pv 6) (pa_cons (pv 7) pa_nil))) pa_nil))) (pa_cons (pv 9) pa_nil))))) (pss_one (ps_ret pe_bl)) pss_nil)))) pss_nil)))))))))))
    (pss_cons (ps_if (pt_cmpR op_eq (pe_fn Fd hr (by decide) pass0 (pa_cons (pv 1) (pa_cons pe_int pa_nil))) pe_int (nomark _)) (pss_cons (ps_setLc (i := 4) (own := [("k", 13)]) (g := gName 13) (tt := tYes) (te := tOp (rI0 fun i j => .int (i + j)) (tC (.int 6)) (tCall (sp_sip T) [] E0 (tCons (tVar 1) (tCons (tC (.int 11)) tNil)))) rfl nd rfl rfl (sw_true rfl rfl rfl (by decide +kernel)) (pi_range1 (by rfl) B.range (pa_cons pe_int pa_nil)) (blkOk_by (own := [("k", 13)]) (N := NW) (sc := defScope s_law) (by decide +kernel))
        (fun _ _ _ _ _ => (pg_name (i := 13) nd rfl (Or.inl rfl))) (fun _ _ _ _ _ => pts_nil) (fun _ _ _ _ _ => (pe_op op_add pe_int (pe_fn Fd hr (by decide) pass0 (pa_cons (pv 1) (pa_cons pe_int pa_nil))))))
    (pss_cons (ps_par (i := 5) (j := 6) rfl nd rfl rfl (by decide) rfl rfl (pa_cons (pe_fn Fm hr (by decide) pass0 (pa_cons (pv 1) (pa_cons (pe_ix ix_list (pv 4) pe_int (fun _ _ => rfl)) (pa_cons (pe_ix ix_list (pv 4) pe_int (fun _ _ => rfl)) (pa_cons pe_bl pa_nil))))) (pa_cons (pe_fn Fm hr (by decide) pass0 (pa_cons (pv 1) (pa_cons (pe_ix ix_list (pv 4) pe_int (fun _ _ => rfl)) (pa_cons (pe_ix ix_list (pv 4) pe_int (fun _ _ => rfl)) (pa_cons pe_bl pa_nil))))) pa_nil)) rfl)
    (pss_one (ps_if (pt_not (pt_val (pe_fn Fs hr (by decide) pass0 (pa_cons (pe_fn Ft hr (by decide) pass0 (pa_cons (pv 5) (pa_cons (pv 6) pa_nil))) (pa_cons (pe_fn Fu hr (by decide) pass0 (pa_cons (pv 5) (pa_cons (pv 6) (pa_cons (pe_ix ix_list (pv 4) pe_int (fun _ _ => rfl)) pa_nil)))) pa_nil))))) (pss_one (ps_ret pe_bl)) pss_nil)))) pss_nil)
    (pss_cons (ps_set (i := 10) nd rfl (Or.inl rfl) (pe_op op_sub pe_int (pe_fn Fd hr (by decide) pass0 (pa_cons (pv 1) (pa_cons pe_int pa_nil)))))
    (pss_cons (ps_set (i := 11) nd rfl (Or.inl rfl) (pe_fn Fm hr (by decide) pass0 (pa_cons (pv 1) (pa_cons pe_int (pa_cons (pv 10) (pa_cons pe_bl pa_nil))))))
    (pss_cons (ps_set (i := 12) nd rfl (Or.inl rfl) (pe_tupleOf (by rfl) B.tuple (pe_lc (own := [("entry", 14)]) (g := gName 14) (tt := tYes) (te := tTup (tCons (tVar 14) tNil)) rfl nd (pi_tup (pe_ix ix_tup (pe_fn Fm hr (by decide) pass0 (pa_cons (pv 1) (pa_cons pe_int (pa_cons (pv 10) (pa_cons pe_bl pa_nil))))) pe_int (fun _ _ => rfl))) (blkOk_by (own := [("entry", 14)]) (N := NW) (sc := defScope s_law) (by decide +kernel))
        (fun _ _ _ _ _ => (pg_name (i := 14) nd rfl (Or.inl rfl))) (fun _ _ _ _ _ => pts_nil) (fun _ _ _ _ _ => (pe_tup (pa_cons (pv 14) pa_nil))))))
    (pss_cons (ps_if (pt_not (pt_val (pe_fn Fs hr (by decide) pass0 (pa_cons (pe_fn Ft hr (by decide) pass0 (pa_cons (pv 11) (pa_cons (pv 12) pa_nil))) (pa_cons (pe_fn Fu hr (by decide) pass0 (pa_cons (pv 11) (pa_cons (pv 12) (pa_cons pe_int pa_nil)))) pa_nil))))) (pss_one (ps_ret pe_bl)) pss_nil)
    (pss_cons (ps_if (PW.pt (pw_and (pt_cmpR op_eq (pe_fn Fd hr (by decide) pass0 (pa_cons (pv 1) (pa_cons pe_int pa_nil))) pe_int (nomark _)) (pw_and1 (pt_not (pt_val (pe_fn Fs hr (by decide) pass0 (pa_cons (pe_fn Ft hr (by decide) pass0 (pa_cons (pv 12) (pa_cons (pv 11) pa_nil))) (pa_cons (pe_fn Fu hr (by decide) pass0 (pa_cons (pv 12) (pa_cons (pv 11) (pa_cons (pv 10) pa_nil)))) pa_nil)))))))) (pss_one (ps_ret pe_bl)) pss_nil)
    (pss_one (ps_ret (pe_and (pe_fn Fs hr (by decide) pass0 (pa_cons (pe_fn Ft hr (by decide) pass0 (pa_cons (pe_tup pa_nil) (pa_cons (pv 11) pa_nil))) (pa_cons (pe_tup pa_nil) pa_nil))) (pe_one (pe_fn Fs hr (by decide) pass0 (pa_cons (pe_fn Ft hr (by decide) pass0 (pa_cons (pe_tup (pa_cons (pe_tup pa_nil) pa_nil)) (pa_cons (pe_tup pa_nil) pa_nil))) (pa_cons (pe_tup (pa_cons (pe_tup pa_nil) pa_nil)) pa_nil))))))))))))))), ?_⟩
  refine ⟨_, rfl, b, ns, rfl, hS, by omega, ht, fun a l H1 ha hl1 W1 g1 t1 => ?_⟩
  refine ⟨_, rfl, by decide, by decide, ?_⟩
  refine for_it (walk_range (lo := 0) (n := ((3 : Int).toNat))) (fun i σ H' => ∃ p2 p3 p4 p5 p6 p7 p8 p9 : Option V, σ = [some (.ref b), some (.ref a), p2, p3, p4, p5, p6, p7, p8, p9, none, none, none, none, none] ∧ CupAt a l H' (100000 * (i : Int)) ∧ Tabs T H')
    ⟨none, none, none, none, none, none, none, none, rfl, W1.up (by omega), t1⟩ (fun _ _ _ _ _ => trivial) (fun i x σ H2 H3 hi h y => ?_) (fun σ H2 h => ?_)
  · obtain ⟨p2, p3, p4, p5, p6, p7, p8, p9, rfl, W2, t2⟩ := h
    obtain ⟨rfl, ey⟩ := y
    clear ey
    have hi : i < 3 := hi
    refine ⟨_, rfl, a, l, _, 4, rfl, by decide, by decide, by omega, W2, t2, fun i1 H4 i10 i11 W4 g4 t4 => ⟨rfl, ?_⟩⟩
    refine ⟨_, rfl, by decide, by decide, fun sz hsz => ?_⟩
    have nsz := W4.ne hsz
    refine lc_dw (T := T) (M := [a, l]) (M0 := [a, l]) (fun n : Nat => .int (n : Int)) (fun n => n < 6) (fun j H' => CupAt a l H' (100000 * (i : Int) + 1 + (j : Int))) (walk_range (lo := 0) (n := ((4 : Int).toNat))) (fun _ _ => trivial) t4 Go.refl hsz nsz (fun _ h => h) (by rw [sizeLine_eq]; decide) (W4.up (by omega)) (fun i H' ys xs w e => w.set nsz) (fun i H' ys w e => w.set nsz)
      (fun j x2 H5 H6 R hj g5 t5 W5 hne y2 hR => ?_) (fun H5 ys qs g5 t5 W5 esz dz lq pq => ?_)
    · obtain ⟨rfl, ey⟩ := y2
      clear ey
      have hj : j < 4 := hj
      refine ⟨rfl, _, rfl, a, l, _, 6, rfl, by decide, by decide, by omega, W5, t5, fun z H7 z0 z1 W7 g7 t7 => ?_⟩
      obtain ⟨n, rfl⟩ : ∃ n : Nat, z = (n : Int) := ⟨z.toNat, by omega⟩
      exact hR _ n H7 g7 (W7.up (by omega)) (.int _) (by omega)
    obtain ⟨n0, n1, n2, n3, rfl⟩ := four_of lq
    have q0 : n0 < 6 := pq n0 (by simp)
    have q1 : n1 < 6 := pq n1 (by simp)
    have q2 : n2 < 6 := pq n2 (by simp)
    have q3 : n3 < 6 := pq n3 (by simp)
    have eys := of_ints (zs := [(n0 : Int), n1, n2, n3]) dz
    subst eys
    clear dz pq lq
    have c4 : (((4 : Int).toNat : Nat) : Int) = 4 := rfl
    rw [c4] at W5
    have tu3 := al3 (a := a) (l := l) (sz := sz)
    have sz5 : H5 sz ≠ none := by rw [esz]; exact fun z => by cases z
    refine ⟨_, rfl, _, rfl, sz, _, 0, _, rfl, rfl, SqL.of esz, rfl, _, rfl, sz, _, 1, _, rfl, rfl, SqL.of esz, rfl, _, rfl, [a, l, sz], a, l, _, n0, n1, _, rfl, by omega, by omega, by omega, W5, t5, tu3, hid3 W5 sz5, fun v1 m1 H6 d1 M1 ln1 W6 g6 t6 => ?_⟩
    have esz6 := g6.lst esz nsz
    have sz6 : H6 sz ≠ none := by rw [esz6]; exact fun z => by cases z
    refine ⟨_, rfl, _, rfl, sz, _, 1, _, rfl, rfl, SqL.of esz6, rfl, _, rfl, sz, _, 2, _, rfl, rfl, SqL.of esz6, rfl, _, rfl, [a, l, sz], a, l, _, n1, n2, _, rfl, by omega, by omega, by omega, W6, t6, tu3, hid3 W6 sz6, fun v2 m2 H7 d2 M2 ln2 W7 g7 t7 => ?_⟩
    have esz7 := g7.lst esz6 nsz
    have sz7 : H7 sz ≠ none := by rw [esz7]; exact fun z => by cases z
    refine ⟨_, _, rfl, ?_⟩
    refine ⟨_, rfl, _, rfl, sz, _, 2, _, rfl, rfl, SqL.of esz7, rfl, _, rfl, sz, _, 3, _, rfl, rfl, SqL.of esz7, rfl, _, rfl, [a, l, sz], a, l, _, n2, n3, _, rfl, by omega, by omega, by omega, W7, t7, tu3, hid3 W7 sz7, fun v3 m3 H8 d3 M3 ln3 W8 g8 t8 => ?_⟩
    have esz8 := g8.lst esz7 nsz
    have d1 := (d1.go (g7.more tu3)).go (g8.more tu3)
    have d2 := d2.go (g8.more tu3)
    obtain ⟨a1, xs1, rfl, ea1, na1, dx1⟩ := dv_tup d1
    have lx1 := dx1.length
    rw [List.length_map, List.length_map] at lx1
    obtain ⟨a2, xs2, rfl, ea2, na2, dx2⟩ := dv_tup d2
    have lx2 := dx2.length
    rw [List.length_map, List.length_map] at lx2
    refine ⟨_, rfl, by show 0 ≤ sizeLine; omega, fun e1 he1 => ?_⟩
    have u1 := Go.new (T := T) (M := []) (o := .tup []) he1
    have esz9 := u1.lst esz8 (nn _)
    have d1 := d1.go u1.of0
    have d2 := d2.go u1.of0
    have d3 := d3.go u1.of0
    have W9 := W8.go u1
    have t9 := u1.tb t8
    refine ⟨a2, e1, xs2, rfl, rfl, SqT.of (u1.tup ea2 (nn _)), SqT.of upd_same, _, rfl, ?_⟩
    have ea1 := u1.tup ea1 (nn _)
    generalize upd H8 e1 (.tup []) = H9 at *
    rw [emp_iff (lx2.trans ln2)]
    by_cases hn1 : n1 = 0
    case' neg =>
      refine if_false_of (decide_eq_false hn1) ?_
      have esz10 := esz9
      have d1 := d1.less (M' := [a, l]) tu3
      have d2 := d2.less (M' := [a, l]) tu3
      have d3 := d3.less (M' := [a, l]) tu3
      have W10 := W9
      have t10 := t9
      obtain ⟨nk, hnk⟩ : ∃ nk, nk = n2 := ⟨_, rfl⟩
      have hk1 : m2 = [] → nk = 0 := fun e => absurd (by rw [← ln2, e] <;> rfl) hn1
      have hk2 : m2 ≠ [] → nk = n2 := fun _ => hnk
      rw [← hnk] at esz10
      have M2k : MQ m2 nk 42 N0 := hnk ▸ M2
    case' pos =>
      refine if_true_of (decide_eq_true hn1) ?_
      refine ⟨_, rfl, sz, _, 2, 2, rfl, rfl, esz9, rfl, ?_⟩
      have gs := Go.set (T := T) (M := [a, l, sz]) (o := .lst [.int (n0 : Int), .int n1, .int 0, .int n3]) esz9 (fun _ z => by cases z) (by simp)
      have esz10 : upd H9 sz (.lst [.int (n0 : Int), .int n1, .int 0, .int n3]) sz = some (.lst [.int (n0 : Int), .int n1, .int ((0 : Nat) : Int), .int n3]) := upd_same
      have d1 := (d1.go gs).less (M' := [a, l]) tu3
      have d2 := (d2.go gs).less (M' := [a, l]) tu3
      have d3 := (d3.go gs).less (M' := [a, l]) tu3
      have W10 := W9.set (o := .lst [.int (n0 : Int), .int n1, .int 0, .int n3]) nsz
      have t10 := gs.tb t9
      have ea1 := gs.tup ea1 na1
      have m20 : m2 = [] := List.length_eq_zero_iff.mp (by omega)
      obtain ⟨nk, hnk⟩ : ∃ nk, nk = 0 := ⟨_, rfl⟩
      have hk1 : m2 = [] → nk = 0 := fun _ => hnk
      have hk2 : m2 ≠ [] → nk = n2 := fun e => absurd m20 e
      rw [← hnk] at esz10
      have M2k : MQ m2 nk 42 N0 := by rw [m20]; exact MQ_nil (by omega)
    all_goals
      have hk5 : nk ≤ 5 := by omega
      refine ⟨_, rfl, by show 0 ≤ sizeLine; omega, fun e2 he2 => ?_⟩
      have u2 := Go.new (T := T) (M := []) (o := .tup []) he2
      have esz11 := u2.lst esz10 (nn _)
      have d1 := d1.go u2.of0
      have d2 := d2.go u2.of0
      have d3 := d3.go u2.of0
      have W11 := W10.go u2
      have t11 := u2.tb t10
      refine ⟨a1, e2, xs1, rfl, rfl, SqT.of (u2.tup ea1 (nn _)), SqT.of upd_same, _, rfl, ?_⟩
      clear ea1
      rw [emp_iff (lx1.trans ln1)]
      have esz11 := esz11
      by_cases hn0 : n0 = 0
      case' neg =>
        refine if_false_of (decide_eq_false hn0) ?_
        obtain ⟨mk, hmk⟩ : ∃ mk, mk = m2 := ⟨_, rfl⟩
        obtain ⟨nT, hnT⟩ : ∃ nT, nT = nk := ⟨_, rfl⟩
        have d2k := d2
        rw [← hmk] at d2k
        have P1 : MQ m1 mk.length 42 N0 := by rw [hmk, ln2]; exact M1
        have P2d : MQ mk nk 42 N0 := hmk ▸ M2k
        have P2 : MQ mk nT 42 N0 := hnT ▸ P2d
        have P3 : mk = [] → nT = 0 := fun e => hnT.trans (hk1 (hmk.symm.trans e))
        have P4 : prodQ m1 mk nT = prodQ m1 mk nk := by rw [hnT]
        have P5 : m1 ≠ [] → mk ≠ [] → m3.length = nk ∧ nT = nk := fun _ e => ⟨by rw [ln3, hk2 (hmk ▸ e)], hnT⟩
        have W13 := W11.up (show 100000 * (i : Int) + 1 + 4 + 20000 + 20000 + 20000 ≤ 100000 * (i : Int) + 90000 by omega)
        have t13 := t11
        have esz13 := esz11
      case' pos =>
        refine if_true_of (decide_eq_true hn0) ?_
        refine ⟨_, rfl, _, rfl, a, l, _, 4, rfl, by decide, by decide, by omega, W11, t11, fun z H12 z0 z1 W12 g12 t12 => ?_⟩
        obtain ⟨nz, rfl⟩ : ∃ nz : Nat, z = (nz : Int) := ⟨z.toNat, by omega⟩
        have esz12 := g12.lst esz11 nsz
        refine ⟨_, rfl, sz, _, 2, _, rfl, rfl, SqL.of esz12, rfl, _, rfl, [a, l], a, l, _, nz, nk, _, rfl, by omega, by omega, by omega, W12, t12, fun _ h => h, W12.lists, fun vk mk H13 dk Mk lk W13 g13 t13 => ?_⟩
        have esz13 := g13.lst esz12 nsz
        have d1 := (d1.go g12).go g13
        have d3 := (d3.go g12).go g13
        have m10 : m1 = [] := List.length_eq_zero_iff.mp (by omega)
        obtain ⟨nT, hnT⟩ : ∃ nT, nT = (if mk = [] then 0 else nk) := ⟨_, rfl⟩
        have d2k := dk
        have P1 : MQ m1 mk.length 42 N0 := by rw [m10]; exact MQ_nil Mk.1
        have P2d : MQ mk nk 42 N0 := Mk
        have P2 : MQ mk nT 42 N0 := by
          rw [hnT]
          split
          · rename_i e
            rw [e]
            exact MQ_nil (by omega)
          · exact P2d
        have P3 : mk = [] → nT = 0 := fun e => by rw [hnT, if_pos e]
        have P4 : prodQ m1 mk nT = prodQ m1 mk nk := by rw [m10] <;> rfl
        have P5 : m1 ≠ [] → mk ≠ [] → m3.length = nk ∧ nT = nk := fun e => absurd m10 e
        have W13 := W13.up (show 100000 * (i : Int) + 1 + 4 + 20000 + 20000 + 20000 + 1 + 20000 ≤ 100000 * (i : Int) + 90000 by omega)
    all_goals
      have d1 := d1.less (M' := []) (by simp)
      have d2k := d2k.less (M' := []) (by simp)
      have d3 := d3.less (M' := []) (by simp)
      have d42 : (42 * 42 : Nat) < 1073741824 := by decide
      refine ⟨_, rfl, _, rfl, _, rfl, sz, _, 2, _, rfl, rfl, SqL.of esz13, rfl, [], _, _, m1, mk, nk, 42, N0, 42, N0, rfl, d1, d2k, P1, P2d, by decide, by decide, d42, n0_lt, n0_lt, t13, by simp, fun vd H14 g14 t14 dd => ?_⟩
      rw [← P4] at dd
      have okP := okS_prod m1 mk (n := nT) P1.1 P2.2.1
      have d1 := d1.go g14
      have d2k := d2k.go g14
      have d3 := d3.go g14
      have esz14 := g14.lst esz13 (nn _)
      have W14 := W13.go g14
      refine ⟨_, rfl, _, rfl, _, _, m1, mk, nT, 42, N0, 42, N0, rfl, d1, d2k, P1, P2, P3, by decide, by decide, d42, n0_lt, n0_lt, t14, fun vt H15 g15 t15 dt => ?_⟩
      refine ⟨_, rfl, vt, vd, [], [], _, rfl, dt, dd.go g15, okP, t15, fun H16 g16 t16 => ⟨_, rfl, iteF ?_⟩⟩
      have g16 := g15.trans g16
      have d1 := d1.go g16
      have d2k := d2k.go g16
      have d3 := d3.go g16
      have dd := dd.go g16
      have esz16 := g16.lst esz14 (nn _)
      have W16 := W14.go g16
      refine ⟨_, rfl, _, rfl, _, _, m1, mk, nT, 42, N0, 42, N0, rfl, d1, d2k, P1, P2, P3, by decide, by decide, d42, n0_lt, n0_lt, t16, fun vt2 H17 g17 t17 dt2 => ?_⟩
      refine ⟨_, rfl, vt2, vd, [], [], _, rfl, dt2, dd.go g17, okP, t17, fun H18 g18 t18 => ⟨_, rfl, iteF ?_⟩⟩
      have g18 := g17.trans g18
      have d1 := d1.go g18
      have d2k := d2k.go g18
      have d3 := d3.go g18
      have dd := dd.go g18
      have esz18 := g18.lst esz16 (nn _)
      have W18 := W16.go g18
      obtain ⟨b1, ys1, eb1, eB1, _, dy1⟩ := dv_tup d1
      obtain ⟨b2, ys2, eb2, eB2, _, dy2⟩ := dv_tup d2k
      obtain ⟨b3, ys3, eb3, eB3, _, dy3⟩ := dv_tup d3
      have ly1 := dy1.length
      have ly2 := dy2.length
      have ly3 := dy3.length
      rw [List.length_map, List.length_map] at ly1 ly2 ly3
      refine ⟨_, rfl, by show 0 ≤ sizeLine; omega, fun e3 he3 => ?_⟩
      have u3 := Go.new (T := T) (M := []) (o := .tup []) he3
      refine ⟨b1, e3, ys1, eb1, rfl, .inr ⟨SqT.of (u3.tup eB1 (nn _)), SqT.of upd_same⟩, _, rfl, ?_⟩
      rw [emp_iff ly1]
      by_cases z1 : m1.length = 0
      · refine if_false_of (by simp [z1]) (iteF ?_)
        exact ⟨_, _, _, _, _, _, _, _, rfl, (W18.go u3).up (by omega), u3.tb t18⟩
      refine if_true_of (by simp [z1]) ?_
      refine ⟨_, rfl, by show 0 ≤ sizeLine; omega, fun e4 he4 => ?_⟩
      have u4 := u3.trans (Go.new (T := T) (M := []) (o := .tup []) he4)
      refine ⟨b2, e4, ys2, eb2, rfl, .inr ⟨SqT.of (u4.tup eB2 (nn _)), SqT.of upd_same⟩, _, rfl, ?_⟩
      rw [emp_iff ly2]
      by_cases z2 : mk.length = 0
      · refine if_false_of (by simp [z2]) (iteF ?_)
        exact ⟨_, _, _, _, _, _, _, _, rfl, (W18.go u4).up (by omega), u4.tb t18⟩
      refine if_true_of (by simp [z2]) ?_
      refine ⟨_, rfl, by show 0 ≤ sizeLine; omega, fun e5 he5 => ?_⟩
      have u5 := u4.trans (Go.new (T := T) (M := []) (o := .tup []) he5)
      refine ⟨b3, e5, ys3, eb3, rfl, .inr ⟨SqT.of (u5.tup eB3 (nn _)), SqT.of upd_same⟩, _, rfl, ?_⟩
      rw [emp_iff ly3]
      by_cases z3 : m3.length = 0
      · refine if_false_of (by simp [z3]) ?_
        exact ⟨_, _, _, _, _, _, _, _, rfl, (W18.go u5).up (by omega), u5.tb t18⟩
      refine if_true_of (by simp [z3]) ?_
      have t19 := u5.tb t18
      have d1 := d1.go u5
      have d2k := d2k.go u5
      have d3 := d3.go u5
      have dd := dd.go u5
      have esz19 := u5.lst esz18 (nn _)
      have W19 := W18.go u5
      generalize upd (upd (upd H18 e3 (.tup [])) e4 (.tup [])) e5 (.tup []) = H19 at *
      obtain ⟨P6, P7⟩ := P5 (fun e => z1 (by rw [e] <;> rfl)) (fun e => z2 (by rw [e] <;> rfl))
      have PM := prodQ_MQ P1 P2
      have e3 : m3.length = nT := P6.trans P7.symm
      have PM3 : MQ (prodQ m1 mk nT) m3.length (42 * 42) N1 := by rw [e3]; exact PM
      have P23 : MQ mk m3.length 42 N0 := by rw [e3]; exact P2
      have ne3 : m3 = [] → n3 = 0 := fun e => absurd (by rw [e] <;> rfl) z3
      have dd42 : (42 * 42 * 42 : Nat) < 1073741824 := by decide
      have dd42' : (42 * (42 * 42) : Nat) < 1073741824 := by decide
      have n35 : n3 ≤ 48 := by omega
      refine ⟨_, rfl, _, rfl, _, _, m1, mk, nT, 42, N0, 42, N0, rfl, d1, d2k, P1, P2, P3, by decide, by decide, d42, n0_lt, n0_lt, t19, fun vp H20 g20 t20 dp => ?_⟩
      refine ⟨_, rfl, vp, v3, prodQ m1 mk nT, m3, n3, 42 * 42, N1, 42, N0, rfl, dp, d3.go g20, PM3, M3, ne3, by decide, by decide, dd42, n1_lt, n0_lt, t20, fun vl H21 g21 t21 dl => ?_⟩
      have g21 := g20.trans g21
      have d1 := d1.go g21
      have d2k := d2k.go g21
      have d3 := d3.go g21
      have dd := dd.go g21
      have esz21 := g21.lst esz19 (nn _)
      have W21 := W19.go g21
      have okL := okS_prod (prodQ m1 mk nT) m3 (n := n3) PM.1 n35
      refine ⟨_, rfl, _, rfl, _, rfl, _, rfl, sz, _, 3, _, rfl, rfl, SqL.of esz21, rfl, [], vd, v3, prodQ m1 mk nT, m3, n3, 42 * 42, N1, 42, N0, rfl, dd, d3, PM3, M3, by decide, by decide, dd42, n1_lt, n0_lt, t21, by simp, fun vu H22 g22 t22 du => ?_⟩
      refine ⟨vl, vu, [], [], _, rfl, dl.go g22, du, okL, t22, fun H23 g23 t23 => ⟨_, rfl, iteF ?_⟩⟩
      have g23 := g22.trans g23
      have d1 := d1.go g23
      have d2k := d2k.go g23
      have d3 := d3.go g23
      have dl := dl.go g23
      have W23 := W21.go g23
      refine ⟨_, rfl, _, rfl, _, rfl, _, _, mk, m3, n3, 42, N0, 42, N0, rfl, d2k, d3, P23, M3, ne3, by decide, by decide, d42, n0_lt, n0_lt, t23, fun vq H24 g24 t24 dq => ?_⟩
      refine ⟨_, vq, m1, prodQ mk m3 n3, n3, 42, N0, 42 * 42, N1, rfl, d1.go g24, dq, by rw [prodQ_len]; exact P1, prodQ_MQ P23 M3, fun e => absurd (by rw [← prodQ_len mk m3 n3, e] <;> rfl) z2, by decide, by decide, dd42', n0_lt, n1_lt, t24, fun vr H25 g25 t25 dr => ?_⟩
      have eas := prodQ_assoc (one := m1) (two := mk) (three := m3) (n2 := nT) (n3 := n3) (fun r hr => (P1.2.2 r hr).1) (fun r hr => (P2.2.2 r hr).1) e3
      rw [eas] at dl okL
      refine ⟨_, rfl, vr, vl, [], [], _, rfl, dr, dl.go (g24.trans g25), okL, t25, fun H26 g26 t26 => ⟨_, rfl, iteF ?_⟩⟩
      exact ⟨_, _, _, _, _, _, _, _, rfl, ((W23.go (g24.trans g25)).go g26).up (by omega), t26⟩
  · obtain ⟨p2, p3, p4, p5, p6, p7, p8, p9, rfl, W2, t2⟩ := h
    have W2 := W2.up (show 100000 * ((((3 : Int).toNat : Nat)) : Int) ≤ 300000 by decide)
    have d42 : (42 * 42 : Nat) < 1073741824 := by decide
    refine ⟨_, rfl, a, l, _, 6, rfl, by decide, by decide, by omega, W2, t2, fun z H3 z0 z1 W3 g3 t3 => ⟨rfl, _, rfl, ?_⟩⟩
    by_cases hz : z = 0
    case' neg =>
      refine if_false_of (by simp [hz]) ?_
      have W4 := W3.up (show (300000 : Int) + 1 ≤ 400000 by decide)
      have t4 := t3
    case' pos =>
      refine if_true_of (by simp [hz]) ?_
      refine ⟨_, rfl, by decide, by decide, fun sz hsz => ?_⟩
      have nsz := W3.ne hsz
      refine lc_dw (T := T) (M := [a, l]) (M0 := [a, l]) (fun n : Nat => .int (n : Int)) (fun n => 6 ≤ n ∧ n ≤ 16) (fun j H' => CupAt a l H' (300001 + (j : Int))) (walk_range (lo := 0) (n := ((3 : Int).toNat))) (fun _ _ => trivial) t3 Go.refl hsz nsz (fun _ h => h) (by rw [sizeLine_eq]; decide) (W3.up (by omega)) (fun i H' ys xs w e => w.set nsz) (fun i H' ys w e => w.set nsz)
        (fun j x2 H5 H6 R hj g5 t5 W5 hne y2 hR => ?_) (fun H5 ys qs g5 t5 W5 esz dz lq pq => ?_)
      case refine_1 =>
        obtain ⟨rfl, ey⟩ := y2
        clear ey
        have hj : j < 3 := hj
        refine ⟨rfl, _, rfl, a, l, _, 11, rfl, by decide, by decide, by omega, W5, t5, fun z H7 z0 z1 W7 g7 t7 => ?_⟩
        refine ⟨_, _, rfl, rfl, ?_⟩
        obtain ⟨n, rfl⟩ : ∃ n : Nat, z = (n : Int) := ⟨z.toNat, by omega⟩
        exact hR _ (6 + n) H7 g7 (W7.up (by omega)) (.int _) (by omega)
      obtain ⟨n0, n1, n2, rfl⟩ := three_of lq
      have q0 := pq n0 (by simp)
      have q1 := pq n1 (by simp)
      have q2 := pq n2 (by simp)
      have eys := of_ints (zs := [(n0 : Int), n1, n2]) dz
      subst eys
      clear dz pq lq
      have c3 : (((3 : Int).toNat : Nat) : Int) = 3 := rfl
      rw [c3] at W5
      refine ⟨_, rfl, _, rfl, sz, _, 0, _, rfl, rfl, SqL.of esz, rfl, _, rfl, sz, _, 1, _, rfl, rfl, SqL.of esz, rfl, [a, l], a, l, _, n0, n1, _, rfl, by omega, by omega, by omega, W5, t5, fun _ h => h, W5.lists, fun v1 m1 H6 d1 M1 ln1 W6 g6 t6 => ?_⟩
      have esz6 := g6.lst esz nsz
      refine ⟨_, rfl, _, rfl, sz, _, 1, _, rfl, rfl, SqL.of esz6, rfl, _, rfl, sz, _, 2, _, rfl, rfl, SqL.of esz6, rfl, [a, l], a, l, _, n1, n2, _, rfl, by omega, by omega, by omega, W6, t6, fun _ h => h, W6.lists, fun v2 m2 H7 d2 M2 ln2 W7 g7 t7 => ?_⟩
      have esz7 := g7.lst esz6 nsz
      refine ⟨_, _, rfl, ?_⟩
      have d1 := (d1.go g7).less (M' := []) (by simp)
      have d2 := d2.less (M' := []) (by simp)
      have P1 : MQ m1 m2.length 42 N0 := by rw [ln2]; exact M1
      have P3 : m2 = [] → n2 = 0 := fun e => absurd (show n1 = 0 by rw [← ln2, e] <;> rfl) (by omega)
      refine ⟨_, rfl, _, rfl, _, _, m1, m2, n2, 42, N0, 42, N0, rfl, d1, d2, P1, M2, P3, by decide, by decide, d42, n0_lt, n0_lt, t7, fun vt H8 g8 t8 dt => ?_⟩
      refine ⟨_, rfl, _, rfl, _, rfl, sz, _, 2, _, rfl, rfl, SqL.of (g8.lst esz7 (nn _)), rfl, [], _, _, m1, m2, n2, 42, N0, 42, N0, rfl, d1.go g8, d2.go g8, P1, M2, by decide, by decide, d42, n0_lt, n0_lt, t8, by simp, fun vd H9 g9 t9 dd => ?_⟩
      refine ⟨vt, vd, [], [], _, rfl, dt.go g9, dd, okS_prod m1 m2 P1.1 M2.2.1, t9, fun H10 g10 t10 => ⟨_, rfl, iteF ?_⟩⟩
      have W4 := (((W7.go g8).go g9).go g10).up (show 300001 + (3 : Int) + 20000 + 20000 ≤ 400000 by decide)
      have t4 := t10
    all_goals
      refine ⟨_, rfl, a, l, _, 9, rfl, by decide, by decide, by omega, W4, t4, fun zs H12 zs0 zs1 W12 g12 t12 => ⟨_, _, rfl, rfl, ?_⟩⟩
      obtain ⟨sn, hsn, sn1, sn2⟩ : ∃ sn : Nat, (48 : Int) - zs = (sn : Int) ∧ 40 ≤ sn ∧ sn ≤ 48 := ⟨(48 - zs).toNat, by omega, by omega, by omega⟩
      refine ⟨_, rfl, _, rfl, [a, l], a, l, _, 1, sn, _, by rw [← hsn] <;> rfl, by decide, by omega, by omega, W12, t12, fun _ h => h, W12.lists, fun vf mf H13 df Mf lf W13 g13 t13 => ?_⟩
      obtain ⟨fr, rfl⟩ := one_of lf
      refine ⟨_, rfl, _, rfl, [a, l], a, l, _, 1, sn, _, by rw [← hsn] <;> rfl, by decide, by omega, by omega, W13, t13, fun _ h => h, W13.lists, fun vm mm H14 dm Mm lm W14 g14 t14 => ?_⟩
      obtain ⟨tr, rfl⟩ := one_of lm
      have df := df.go g14
      obtain ⟨am, xm, rfl, em, nm, dxm⟩ := dv_tup dm
      cases dxm with
      | @cons x0 xs0 e0 es0 hx0 hxs0 =>
      cases hxs0
      obtain ⟨ar, xr, rfl, er, nr, dr⟩ := dv_tup hx0
      have ltr : tr.length = sn := (Mm.2.2 tr (by simp)).1
      have lr := dr.length
      rw [List.length_map, prs, List.length_map, ltr] at lr
      refine ⟨am, _, 0, _, rfl, rfl, SqT.of em, atI_nat (j := 0) rfl, ar, rfl, ⟨_, SqT.of er⟩, fun D hD => ?_⟩
      refine lc_dv (T := T) (M := [a, l]) (fun j => rowQ [tr.getD j 0]) (walk_tup (xs := xr)) (fun H' g' => SqT.of (g'.tup er (nn _))) t14 Go.refl hD (by rw [sizeLine_eq]; omega) (fun j v H15 H16 R hj g15 t15 hne y hR => ?_) (fun H15 ys g15 t15 eD dD => ?_)
      case refine_1 =>
        obtain ⟨rfl, ex⟩ := y
        obtain ⟨d, ed, hx⟩ := ((dr.hide hD).go g15.of0).get ex
        have hj' : j < tr.length := by omega
        have e2 : ((prs tr).map fun r => rat r.1 r.2)[j]? = some (rat (tr.getD j 0).num ((tr.getD j 0).den : Int)) := by
          rw [prs, List.map_map, List.getElem?_map, List.getD_eq_getElem?_getD, List.getElem?_eq_getElem hj']
          rfl
        rw [e2] at ed
        cases ed
        refine ⟨rfl, _, rfl, by show 1 ≤ sizeLine; decide, fun p hp => ?_⟩
        have u := Go.new (T := T) (M := []) (o := .tup [v]) hp
        refine hR _ _ u (.tup upd_same (fun z => ?_) (.cons (hx.go u.of0) .nil))
        rcases List.mem_cons.mp z with rfl | z
        · exact hne hp
        · exact (W14.go g15).ne hp z
      rw [lr, ← ltr, ← upQ_data] at dD
      refine .inl ⟨D, ys, rfl, SqL.of eD, fun p hp => ?_⟩
      have u := Go.new (T := T) (M := []) (o := .tup ys) hp
      have W16 := (W14.go g15).go u
      have t16 := u.tb t15
      have dtl : Dv [a, l] (upd H15 p (.tup ys)) (.ref p) (matQ (upQ tr)) := .tup upd_same ((W14.go g15).ne hp) (by
        rw [matQ_map]
        exact (dD.less (M' := [a, l]) (fun b hb => List.mem_cons_of_mem _ hb)).go u.of0)
      have df := (df.go g15.of0).go u.of0
      generalize upd H15 p (.tup ys) = H16 at *
      have Mt : MQ (upQ tr) 1 42 N0 := upQ_MQ (by omega) (Mm.2.2 tr (by simp)).2
      have lup : (upQ tr).length = sn := (upQ_len tr).trans ltr
      have Pft : MQ [fr] (upQ tr).length 42 N0 := by rw [lup]; exact Mf
      have nup : upQ tr ≠ [] := fun e => by rw [e] at lup; have : (0 : Nat) = sn := lup; omega
      have df0 := df.less (M' := []) (by simp)
      have dt0 := dtl.less (M' := []) (by simp)
      refine ⟨_, rfl, _, rfl, _, _, [fr], upQ tr, 1, 42, N0, 42, N0, rfl, df0, dt0, Pft, Mt, fun e => absurd e nup, by decide, by decide, d42, n0_lt, n0_lt, t16, fun vt H17 g17 t17 dt => ?_⟩
      refine ⟨_, rfl, _, rfl, [], _, _, [fr], upQ tr, 1, 42, N0, 42, N0, rfl, df0.go g17, dt0.go g17, Pft, Mt, by decide, by decide, d42, n0_lt, n0_lt, t17, by simp, fun vd H18 g18 t18 dd => ?_⟩
      refine ⟨vt, vd, [], [], _, rfl, dt.go g18, dd, okS_prod [fr] (upQ tr) Pft.1 (by decide), t18, fun H19 g19 t19 => ⟨_, rfl, iteF ?_⟩⟩
      have g19 := (g17.trans g18).trans g19
      have df := df.go g19.of0
      have dtl := dtl.go g19.of0
      have W19 := W16.go g19
      refine ⟨_, rfl, a, l, _, 6, rfl, by decide, by decide, by omega, W19, t19, fun zz H20 zz0 zz1 W20 g20 t20 => ⟨rfl, _, rfl, ?_⟩⟩
      have df := (df.go g20).less (M' := []) (by simp)
      have dtl := (dtl.go g20).less (M' := []) (by simp)
      by_cases hzz : zz = 0
      case' neg =>
        refine if_false_of (by simp [hzz]) (iteF ?_)
        have t21 := t20
      case' pos =>
        refine if_true_of (by simp [hzz]) ?_
        have Ptf : MQ (upQ tr) [fr].length 42 N0 := Mt
        refine ⟨_, rfl, _, rfl, _, _, upQ tr, [fr], sn, 42, N0, 42, N0, rfl, dtl, df, Ptf, Mf, fun e => absurd e (by simp), by decide, by decide, d42, n0_lt, n0_lt, t20, fun vt2 H21 g21 t21 dt2 => ?_⟩
        refine ⟨_, rfl, _, rfl, _, rfl, [], _, _, upQ tr, [fr], sn, 42, N0, 42, N0, by rw [← hsn] <;> rfl, dtl.go g21, df.go g21, Ptf, Mf, by decide, by decide, d42, n0_lt, n0_lt, t21, by simp, fun vd2 H22 g22 t22 dd2 => ?_⟩
        refine ⟨vt2, vd2, [], [], _, rfl, dt2.go g22, dd2, okS_prod (upQ tr) [fr] Mt.1 Mf.2.1, t22, fun H23 g23 t23 => ⟨_, rfl, iteF ?_⟩⟩
        have df := df.go ((g21.trans g22).trans g23)
        have t21 := t23
      all_goals
        refine ⟨by show 0 ≤ sizeLine; omega, fun c1 hc1 => ?_⟩
        have v1 := Go.new (T := T) (M := []) (o := .tup []) hc1
        refine ⟨_, rfl, .ref c1, _, [], [fr], sn, 42, N0, 42, N0, rfl, .tup upd_same (nn _) .nil, df.go v1, MQ_nil (by show 1 ≤ 48; decide), Mf, fun e => absurd e (by simp), by decide, by decide, d42, n0_lt, n0_lt, v1.tb t21, fun vt3 K1 h1 s1 dt3 => ?_⟩
        refine ⟨by show 0 ≤ sizeLine; omega, fun c2 hc2 => ?_⟩
        have v2 := Go.new (T := T) (M := []) (o := .tup []) hc2
        refine ⟨vt3, .ref c2, [], [], matQ [], rfl, dt3.go v2, .tup upd_same (nn _) .nil, okS_any (n := 0) (by decide) (by simp), v2.tb s1, fun K2 h2 s2 => ⟨_, rfl, iteT ?_⟩⟩
        refine ⟨by show 0 ≤ sizeLine; omega, fun c3 hc3 => ⟨by show 1 ≤ sizeLine; decide, fun c4 hc4 => ⟨by show 0 ≤ sizeLine; omega, fun c5 hc5 => ?_⟩⟩⟩
        have w1 := Go.new (T := T) (M := []) (o := .tup []) hc3
        have w2 := Go.new (T := T) (M := []) (o := .tup [V.ref c3]) hc4
        have w3 := Go.new (T := T) (M := []) (o := .tup []) hc5
        have dA : Dv [] (upd (upd (upd K2 c3 (.tup [])) c4 (.tup [V.ref c3])) c5 (.tup [])) (.ref c4) (matQ [[]]) := Dv.go (.tup upd_same (nn _) (.cons (Dv.go (.tup upd_same (nn _) .nil) w2) .nil)) w3
        refine ⟨.ref c4, .ref c5, [[]], [], 0, 42, N0, 42, N0, rfl, dA, .tup upd_same (nn _) .nil, ⟨by decide, by decide, fun r hr => by rw [List.mem_singleton.mp hr]; exact ⟨rfl, fun q hq => absurd hq List.not_mem_nil⟩⟩, MQ_nil (by decide), fun _ => rfl, by decide, by decide, d42, n0_lt, n0_lt, ((w1.trans w2).trans w3).tb s2, fun vt4 K3 h3 s3 dt4 => ?_⟩
        refine ⟨by show 0 ≤ sizeLine; omega, fun c6 hc6 => ⟨by show 1 ≤ sizeLine; decide, fun c7 hc7 => ?_⟩⟩
        have w4 := Go.new (T := T) (M := []) (o := .tup []) hc6
        have w5 := Go.new (T := T) (M := []) (o := .tup [V.ref c6]) hc7
        have dB : Dv [] (upd (upd K3 c6 (.tup [])) c7 (.tup [V.ref c6])) (.ref c7) (matQ [[]]) := .tup upd_same (nn _) (.cons (Dv.go (.tup upd_same (nn _) .nil) w5) .nil)
        exact ⟨vt4, .ref c7, [], [], matQ [[]], rfl, dt4.go (w4.trans w5), dB, okS_any (n := 0) (by decide) (by simp), (w4.trans w5).tb s3, fun K4 h4 s4 => q K4⟩
end
end KM
set_option Elab.async false
set_option linter.all false
set_option maxRecDepth 100000
set_option maxHeartbeats 2000000
/-! own words, 39: FnOk.toG; a def bound by its keywords turned round -/
namespace SL
open PySem PySem.Spec PyProof.Rows L2 GxR NdefX GA
section
variable {P : Program} {w : World} {K : PySem.W.Frag} {mg : Str → Option Value} {base : Heap} {k : Nat} {f : Addr} {ps : List Str} {sp : Sp} {x : Str} {st : Stmt} {fd : FuncData}
theorem FnOk.toG (h : FnOk P w K mg base CX0 k f fd ps sp) : FnG P w K mg base k f fd ps sp :=
  ⟨fun vs H Q => h.len vs H Q E0, fun A outer s H args us vs Q _ room env bind rel want => h.run A outer s H args us vs Q E0 room env bind rel want⟩
theorem Fun.kwr (F : Fun K x x st f fd)
    (h : ∀ (kV doc pm : Value) (an : Option Addr) (cdv ct : Value) (us : List Value), us.length = ps.length → bindArgs (PySem.W.fnOf x x (defArgs st) (defBody st) (defScope st) .none kV doc pm an cdv ct) ⟨[], ps.reverse.zip us⟩ = pure (ps.zip us.reverse)) (s : Shared) (us : List Value) (_ : K.In s.heap) (hl : us.length = ps.length) : BindsTo s fd ⟨[], ps.reverse.zip us⟩ (ps.zip us.reverse) := by
  obtain ⟨oc, od, kV, doc, pm, an, cdv, ct, osl, rfl, _, _⟩ := F.ex
  exact .of_eq (h kV doc pm an cdv ct us hl)
end
end SL
set_option Elab.async false
set_option linter.all false
set_option maxRecDepth 100000
set_option maxHeartbeats 2000000
namespace KM
open PySem PySem.Spec PyProof.Rows L2 GxR NdefX GA SL RZ
/-- what the top has written, as far as the proof asks it -/
structure Top0 (K : PySem.W.Frag) (CM CU : Addr) : Prop where
  blt : ∀ x ∈ (["isinstance", "len", "all", "any", "set", "range", "tuple", "list", "int", "str", "bool", "repr", "sum", "zip", "abs"] : List Str), PySem.W.nsIn K mainGlobals x = some none
  entries : ∃ t, PySem.W.nsIn K mainGlobals "MOST_ENTRIES" = some (some (.int 48 t))
  gM : PySem.W.nsIn K mainGlobals "BadMatrix" = some (some (.ref CM))
  xM : PySem.W.excIn K CM [.type "ValueError", .type "Exception", .type "BaseException", .type "object"] "ValueError.__new__" = true
  kM : PySem.W.keepIn K (.ref CM) = true
  bM : PySem.W.subIn K (.ref CM) (.type "BaseException") = some true
  tM : PySem.W.typeIn K (.ref CM) = some (.type "type")
  gU : PySem.W.nsIn K mainGlobals "Unlike" = some (some (.ref CU))
  xU : PySem.W.excIn K CU [.type "ValueError", .type "Exception", .type "BaseException", .type "object"] "ValueError.__new__" = true
  kU : PySem.W.keepIn K (.ref CU) = true
  bU : PySem.W.subIn K (.ref CU) (.type "BaseException") = some true
  tU : PySem.W.typeIn K (.ref CU) = some (.type "type")
  gcdB : PySem.W.nsIn K mainGlobals "gcd" = some (some (.builtin "math.gcd"))
  lcmB : PySem.W.nsIn K mainGlobals "lcm" = some (some (.builtin "math.lcm"))
  d_in : IsDef K "is_integer" s_is_integer
  d_tp : IsDef K "is_tuple" s_is_tuple
  d_ra : IsDef K "is_ratio" s_is_ratio
  d_ro : IsDef K "ratio_of" s_ratio_of
  d_sc : IsDef K "scaled" s_scaled
  d_iv : IsDefT K "is_vector" s_is_vector
  d_im : IsDefT K "is_matrix" s_is_matrix
  d_dm : IsDef K "demand_matrix" s_demand_matrix
  d_ps : IsDef K "_product_of_scaled" s_product_of_scaled
  d_pm : IsDef K "product_of_matrices" s_product_of_matrices
  d_tm : IsDef K "times_matrix" s_times_matrix
  d_lc : IsDef K "_law_cup" s_law_cup
  d_ls : IsDef K "_law_sip" s_law_sip
  d_lr : IsDef K "_law_ratio" s_law_ratio
  d_lt : IsDef K "_law_total" s_law_total
  d_le : IsDef K "_law_entry" s_law_entry
  d_lm : IsDef K "_law_same" s_law_same
  d_lx : IsDef K "_law_matrix" s_law_matrix
  d_ld : IsDef K "_law_due" s_law_due
  d_lo : IsDefC K "law" s_law
theorem all_mk {P : Program} {w : World} {K : PySem.W.Frag} {h : Heap} {mg : Str → Option Value} {fa CM CU : Addr} (X : K.In h) (G : h.Ns mainGlobals mg) (hfa : mg "law" = some (.ref fa)) (Z : Top0 K CM CU)
    (tb : ∀ x ∈ (["is_vector", "is_matrix"] : List Str), ∀ c Q : Addr, PySem.W.tabIn K x = some (c, Q) → PySem.W.CodeHd h c Q ∧ h.get? Q = some tblO) :
    ∃ (fd : FuncData) (cs : List (Addr × Addr)) (sp : Sp), (∀ p ∈ cs, h.get? p.2 = some tblO ∧ K.lookup p.2 = none ∧ PySem.W.CodeHd h p.1 p.2) ∧ (∀ (t : Shared) (v : Value), BindsTo t fd ⟨[v], []⟩ [("script", v)]) ∧
      (∀ (H : Hp) (a : Addr) (ns : List Int), ns.length ≤ 63 → (∀ p ∈ cs, H p.2 = some (.tbl #[])) → SqL K H a (ns.map V.int) → sp [.ref a] H (fun v _ => v = .bl true) E0) ∧
      ∀ base : Heap, K.In base → base.Ns mainGlobals mg → (∃ o, base.get? sysModules = some o) → (∀ p ∈ cs, GxR.TabB base mg p.1 p.2) → FnG P w K mg base 9 fa fd ["script"] sp := by
  obtain ⟨f_in, g_in, a_in, F_in⟩ := Z.d_in
  obtain ⟨f_tp, g_tp, a_tp, F_tp⟩ := Z.d_tp
  obtain ⟨f_ra, g_ra, a_ra, F_ra⟩ := Z.d_ra
  obtain ⟨f_ro, g_ro, a_ro, F_ro⟩ := Z.d_ro
  obtain ⟨f_sc, g_sc, a_sc, F_sc⟩ := Z.d_sc
  obtain ⟨f_iv, c_iv, q_iv, g_iv, a_iv, F_iv, i_iv, n_iv⟩ := Z.d_iv
  have h_iv := tb "is_vector" (by simp) _ _ i_iv
  obtain ⟨f_im, c_im, q_im, g_im, a_im, F_im, i_im, n_im⟩ := Z.d_im
  have h_im := tb "is_matrix" (by simp) _ _ i_im
  obtain ⟨f_dm, g_dm, a_dm, F_dm⟩ := Z.d_dm
  obtain ⟨f_ps, g_ps, a_ps, F_ps⟩ := Z.d_ps
  obtain ⟨f_pm, g_pm, a_pm, F_pm⟩ := Z.d_pm
  obtain ⟨f_tm, g_tm, a_tm, F_tm⟩ := Z.d_tm
  obtain ⟨f_lc, g_lc, a_lc, F_lc⟩ := Z.d_lc
  obtain ⟨f_ls, g_ls, a_ls, F_ls⟩ := Z.d_ls
  obtain ⟨f_lr, g_lr, a_lr, F_lr⟩ := Z.d_lr
  obtain ⟨f_lt, g_lt, a_lt, F_lt⟩ := Z.d_lt
  obtain ⟨f_le, g_le, a_le, F_le⟩ := Z.d_le
  obtain ⟨f_lm, g_lm, a_lm, F_lm⟩ := Z.d_lm
  obtain ⟨f_lx, g_lx, a_lx, F_lx⟩ := Z.d_lx
  obtain ⟨f_ld, g_ld, a_ld, F_ld⟩ := Z.d_ld
  obtain ⟨f_lo, c_lo, g_lo, a_lo, F_lo⟩ := Z.d_lo
  have e := hfa.symm.trans (PySem.W.mg_of X G a_lo)
  cases e
  have no : ∀ x ∈ (["isinstance", "len", "all", "any", "set", "range", "tuple", "list", "int", "str", "bool", "repr", "sum", "zip", "abs"] : List Str), mg x = none := fun x hx => PySem.W.mg_none_of X G (Z.blt x hx)
  have B : Bl mg := ⟨no "isinstance" (by simp), no "len" (by simp), no "all" (by simp), no "any" (by simp), no "set" (by simp), no "range" (by simp), no "tuple" (by simp), no "list" (by simp), no "int" (by simp), no "str" (by simp), no "bool" (by simp), no "repr" (by simp)⟩
  have int1 : ∀ {x : Str} {i : Int}, (∃ t, PySem.W.nsIn K mainGlobals x = some (some (.int i t))) → ∃ t, mg x = some (.int i t) := fun ⟨t, ht⟩ => ⟨t, PySem.W.mg_of X G ht⟩
  have C : Cn mg := ⟨PySem.W.mg_of X G Z.gcdB, PySem.W.mg_of X G Z.lcmB, int1 Z.entries⟩
  have XM : Xc K mg "BadMatrix" CM := ⟨PySem.W.mg_of X G Z.gM, Z.xM, Z.kM, Z.bM, Z.tM⟩
  have XU : Xc K mg "Unlike" CU := ⟨PySem.W.mg_of X G Z.gU, Z.xU, Z.kU, Z.bU, Z.tU⟩
  have b_in : Binds K g_in ["thing"] [] := (F_in).binds fun _ _ _ _ _ _ us hl => match us, hl with | [_], _ => rfl
  have b_tp : Binds K g_tp ["thing", "least", "most"] [] := (F_tp).binds fun _ _ _ _ _ _ us hl => match us, hl with | [_, _, _], _ => rfl
  have b_ra : Binds K g_ra ["thing"] [] := (F_ra).binds fun _ _ _ _ _ _ us hl => match us, hl with | [_], _ => rfl
  have b_ro : Binds K g_ro ["top", "bottom"] [] := (F_ro).binds fun _ _ _ _ _ _ us hl => match us, hl with | [_, _], _ => rfl
  have b_sc : Binds K g_sc ["ratios"] [] := (F_sc).binds fun _ _ _ _ _ _ us hl => match us, hl with | [_], _ => rfl
  have b_iv : Binds K g_iv ["thing"] [] := (F_iv.fn).binds fun _ _ _ _ _ _ us hl => match us, hl with | [_], _ => rfl
  have b_im : Binds K g_im ["thing"] [] := (F_im.fn).binds fun _ _ _ _ _ _ us hl => match us, hl with | [_], _ => rfl
  have b_dm : Binds K g_dm ["rows"] [] := (F_dm).binds fun _ _ _ _ _ _ us hl => match us, hl with | [_], _ => rfl
  have b_ps : Binds K g_ps ["one", "other"] [] := (F_ps).binds fun _ _ _ _ _ _ us hl => match us, hl with | [_, _], _ => rfl
  have b_pm : Binds K g_pm ["one", "other"] [] := (F_pm).binds fun _ _ _ _ _ _ us hl => match us, hl with | [_, _], _ => rfl
  have b_tm : Binds K g_tm ["one", "other"] [] := (F_tm).binds fun _ _ _ _ _ _ us hl => match us, hl with | [_, _], _ => rfl
  have b_lc : Binds K g_lc ["script"] [] := (F_lc).binds fun _ _ _ _ _ _ us hl => match us, hl with | [_], _ => rfl
  have b_ls : Binds K g_ls ["cup", "many"] [] := (F_ls).binds fun _ _ _ _ _ _ us hl => match us, hl with | [_, _], _ => rfl
  have b_lr : Binds K g_lr ["top", "bottom"] [] := (F_lr).binds fun _ _ _ _ _ _ us hl => match us, hl with | [_, _], _ => rfl
  have b_lt : Binds K g_lt ["ones", "others"] [] := (F_lt).binds fun _ _ _ _ _ _ us hl => match us, hl with | [_, _], _ => rfl
  have b_le : Binds K g_le ["cup", "great"] [] := (F_le).binds fun _ _ _ _ _ _ us hl => match us, hl with | [_, _], _ => rfl
  have b_lm : Binds K g_lm ["found", "due"] [] := (F_lm).binds fun _ _ _ _ _ _ us hl => match us, hl with | [_, _], _ => rfl
  have b_lx : Binds K g_lx ["cup", "many", "size", "great"] [] := (F_lx).binds fun _ _ _ _ _ _ us hl => match us, hl with | [_, _, _, _], _ => rfl
  have b_ld : Binds K g_ld ["one", "other", "size"] [] := (F_ld).binds fun _ _ _ _ _ _ us hl => match us, hl with | [_, _, _], _ => rfl
  have b_lo : Binds K g_lo ["script"] [] := (F_lo.fn).binds fun _ _ _ _ _ _ us hl => match us, hl with | [_], _ => rfl
  refine ⟨g_lo, [(c_iv, q_iv), (c_im, q_im)], sp_law K [q_iv, q_im], fun p hp => ?_, fun t v => ?_, fun H a ns hl ht hS => ?_, fun base _ _ hS0 TB => ?_⟩
  · simp only [List.mem_cons, List.not_mem_nil, or_false] at hp
    rcases hp with rfl | rfl
    · exact ⟨h_iv.2, n_iv, h_iv.1⟩
    · exact ⟨h_im.2, n_im, h_im.1⟩
  · obtain ⟨_, _, _, _, _, _, _, _, rfl, _, _⟩ := F_lo.ex
    exact .of_eq rfl
  · refine ⟨a, ns, rfl, hS, hl, fun Q hQ => ?_, fun _ => rfl⟩
    have e : H Q = some (.tbl #[]) := by
      simp only [List.mem_cons, List.not_mem_nil, or_false] at hQ
      rcases hQ with rfl | rfl
      · exact ht (c_iv, _) (by simp)
      · exact ht (c_im, _) (by simp)
    exact ⟨#[], e, True.intro⟩
  have tiv : GxR.TabB base mg c_iv q_iv := TB (c_iv, q_iv) (by simp)
  have tim : GxR.TabB base mg c_im q_im := TB (c_im, q_im) (by simp)
  have O_in : FnOk P w K mg base CX0 1 f_in g_in ["thing"] sp_is_integer := ok_is_integer F_in B
  have N_in : Fnn P w K mg base CX0 1 "is_integer" ["thing"] sp_is_integer := ⟨f_in, g_in, O_in, PySem.W.mg_of X G a_in, F_in.kp, b_in⟩
  have O_tp : FnOk P w K mg base CX0 1 f_tp g_tp ["thing", "least", "most"] sp_is_tuple := ok_is_tuple F_tp B
  have N_tp : Fnn P w K mg base CX0 1 "is_tuple" ["thing", "least", "most"] sp_is_tuple := ⟨f_tp, g_tp, O_tp, PySem.W.mg_of X G a_tp, F_tp.kp, b_tp⟩
  have O_ra : FnOk P w K mg base CX0 2 f_ra g_ra ["thing"] sp_is_ratio := ok_is_ratio F_ra B C N_tp N_in
  have N_ra : Fnn P w K mg base CX0 2 "is_ratio" ["thing"] sp_is_ratio := ⟨f_ra, g_ra, O_ra, PySem.W.mg_of X G a_ra, F_ra.kp, b_ra⟩
  have O_ro : FnOk P w K mg base CX0 1 f_ro g_ro ["top", "bottom"] sp_ratio_of := ok_ratio_of F_ro C
  have N_ro : Fnn P w K mg base CX0 1 "ratio_of" ["top", "bottom"] sp_ratio_of := ⟨f_ro, g_ro, O_ro, PySem.W.mg_of X G a_ro, F_ro.kp, b_ro⟩
  have O_sc : FnOk P w K mg base CX0 1 f_sc g_sc ["ratios"] (sp_scaled [q_iv, q_im]) := ok_scaled F_sc C
  have N_sc : Fnn P w K mg base CX0 1 "scaled" ["ratios"] (sp_scaled [q_iv, q_im]) := ⟨f_sc, g_sc, O_sc, PySem.W.mg_of X G a_sc, F_sc.kp, b_sc⟩
  have O_iv : FnOk P w K mg base CX0 4 f_iv g_iv ["thing"] (sp_is_vector [q_iv, q_im]) := ok_is_vector F_iv B C tiv (by simp) N_tp N_ra
  have N_iv : Fnn P w K mg base CX0 4 "is_vector" ["thing"] (sp_is_vector [q_iv, q_im]) := ⟨f_iv, g_iv, O_iv, PySem.W.mg_of X G a_iv, F_iv.kp, b_iv⟩
  have O_im : FnOk P w K mg base CX0 6 f_im g_im ["thing"] (sp_is_matrix [q_iv, q_im]) := ok_is_matrix F_im B C tim (by simp) N_tp N_iv
  have N_im : Fnn P w K mg base CX0 6 "is_matrix" ["thing"] (sp_is_matrix [q_iv, q_im]) := ⟨f_im, g_im, O_im, PySem.W.mg_of X G a_im, F_im.kp, b_im⟩
  have O_dm : FnOk P w K mg base CX0 7 f_dm g_dm ["rows"] (sp_demand_matrix [q_iv, q_im]) := ok_demand_matrix F_dm XM N_im
  have N_dm : Fnn P w K mg base CX0 7 "demand_matrix" ["rows"] (sp_demand_matrix [q_iv, q_im]) := ⟨f_dm, g_dm, O_dm, PySem.W.mg_of X G a_dm, F_dm.kp, b_dm⟩
  have O_ps : FnOk P w K mg base CX0 2 f_ps g_ps ["one", "other"] (sp_product [q_iv, q_im]) := ok_product_of_scaled F_ps (no "zip" (by simp)) (no "sum" (by simp)) N_ro
  have N_ps : Fnn P w K mg base CX0 2 "_product_of_scaled" ["one", "other"] (sp_product [q_iv, q_im]) := ⟨f_ps, g_ps, O_ps, PySem.W.mg_of X G a_ps, F_ps.kp, b_ps⟩
  have O_pm : FnOk P w K mg base CX0 3 f_pm g_pm ["one", "other"] (sp_prod [q_iv, q_im]) := ok_product_of_matrices F_pm B (no "zip" (by simp)) N_sc N_ps
  have N_pm : Fnn P w K mg base CX0 3 "product_of_matrices" ["one", "other"] (sp_prod [q_iv, q_im]) := ⟨f_pm, g_pm, O_pm, PySem.W.mg_of X G a_pm, F_pm.kp, b_pm⟩
  have O_tm : FnOk P w K mg base CX0 8 f_tm g_tm ["one", "other"] (sp_prod [q_iv, q_im]) := ok_times_matrix F_tm B XU N_dm N_pm
  have N_tm : Fnn P w K mg base CX0 8 "times_matrix" ["one", "other"] (sp_prod [q_iv, q_im]) := ⟨f_tm, g_tm, O_tm, PySem.W.mg_of X G a_tm, F_tm.kp, b_tm⟩
  have R_tm : Fnr P w K mg base CX0 8 "times_matrix" ["one", "other"] (sp_prod [q_iv, q_im]) := ⟨f_tm, g_tm, O_tm, PySem.W.mg_of X G a_tm, F_tm.kp, Fun.kwr (F_tm) fun _ _ _ _ _ _ us hl => match us, hl with | [_, _], _ => rfl⟩
  have O_lc : FnOk P w K mg base CX0 1 f_lc g_lc ["script"] (sp_cup K [q_iv, q_im]) := ok_law_cup F_lc B
  have N_lc : Fnn P w K mg base CX0 1 "_law_cup" ["script"] (sp_cup K [q_iv, q_im]) := ⟨f_lc, g_lc, O_lc, PySem.W.mg_of X G a_lc, F_lc.kp, b_lc⟩
  have O_ls : FnOk P w K mg base CX0 1 f_ls g_ls ["cup", "many"] (sp_sip [q_iv, q_im]) := ok_law_sip F_ls B (no "abs" (by simp))
  have N_ls : Fnn P w K mg base CX0 1 "_law_sip" ["cup", "many"] (sp_sip [q_iv, q_im]) := ⟨f_ls, g_ls, O_ls, PySem.W.mg_of X G a_ls, F_ls.kp, b_ls⟩
  have O_lr : FnOk P w K mg base CX0 1 f_lr g_lr ["top", "bottom"] sp_lratio := ok_law_ratio F_lr B (no "abs" (by simp))
  have N_lr : Fnn P w K mg base CX0 1 "_law_ratio" ["top", "bottom"] sp_lratio := ⟨f_lr, g_lr, O_lr, PySem.W.mg_of X G a_lr, F_lr.kp, b_lr⟩
  have O_lt : FnOk P w K mg base CX0 1 f_lt g_lt ["ones", "others"] (sp_total [q_iv, q_im]) := ok_law_total F_lt B
  have N_lt : Fnn P w K mg base CX0 1 "_law_total" ["ones", "others"] (sp_total [q_iv, q_im]) := ⟨f_lt, g_lt, O_lt, PySem.W.mg_of X G a_lt, F_lt.kp, b_lt⟩
  have O_le : FnOk P w K mg base CX0 2 f_le g_le ["cup", "great"] (sp_entry [q_iv, q_im]) := ok_law_entry F_le N_ls N_lr
  have N_le : Fnn P w K mg base CX0 2 "_law_entry" ["cup", "great"] (sp_entry [q_iv, q_im]) := ⟨f_le, g_le, O_le, PySem.W.mg_of X G a_le, F_le.kp, b_le⟩
  have O_lm : FnOk P w K mg base CX0 4 f_lm g_lm ["found", "due"] (sp_same [q_iv, q_im] 3) := ok_law_same F_lm (PySem.W.mg_of X G a_lm) b_lm B 3
  have N_lm : Fnn P w K mg base CX0 4 "_law_same" ["found", "due"] (sp_same [q_iv, q_im] 3) := ⟨f_lm, g_lm, O_lm, PySem.W.mg_of X G a_lm, F_lm.kp, b_lm⟩
  have O_lx : FnOk P w K mg base CX0 3 f_lx g_lx ["cup", "many", "size", "great"] (sp_lmatrix [q_iv, q_im]) := ok_law_matrix F_lx B N_le
  have N_lx : Fnn P w K mg base CX0 3 "_law_matrix" ["cup", "many", "size", "great"] (sp_lmatrix [q_iv, q_im]) := ⟨f_lx, g_lx, O_lx, PySem.W.mg_of X G a_lx, F_lx.kp, b_lx⟩
  have O_ld : FnOk P w K mg base CX0 2 f_ld g_ld ["one", "other", "size"] (sp_due [q_iv, q_im]) := ok_law_due F_ld B N_lt N_lr
  have N_ld : Fnn P w K mg base CX0 2 "_law_due" ["one", "other", "size"] (sp_due [q_iv, q_im]) := ⟨f_ld, g_ld, O_ld, PySem.W.mg_of X G a_ld, F_ld.kp, b_ld⟩
  exact FnOk.toG (ok_law F_lo.fn B N_lc N_ls N_lx N_tm R_tm N_lm N_ld)
end KM
set_option Elab.async false
open PySem PySem.W PyProof.Rows
set_option maxRecDepth 100000 in
set_option maxHeartbeats 0 in
theorem PySem.Challenge.cw_sameontrees_k41_whole_products_holds : PySem.Challenge.rw_sameontrees_k41_whole_products.Holds := by
  w_on; o_law; k_head; (case hw => w_witness2)
  k_fill
  refine SL.walkG (l := PySem.Challenge.rw_sameontrees_k41_whole_products) (n := 63) (k := 9) (x := "script") rfl (by decide) rfl (by first | rfl | decide +kernel | kernel_rfl) ⟨rfl, by decide, by decide⟩ (fun w h Y => by first | exact kIn_of Y | exact km_in_of Y) ?F
  case F =>
    intro w mg fa h KX G hmg tb
    refine' KM.all_mk KX G hmg ?Z (fun x hx c Q hc => ?tab)
    case tab =>
      simp only [List.mem_cons, List.not_mem_nil, or_false] at hx
      rcases hx with rfl | rfl
      · exact tb _ _ _ _ rfl hc
      · exact tb _ _ _ _ rfl hc
    case Z =>
      refine' ⟨?blt, SL.hasInt ?entries, ?gM, ?xM, ?kM, ?bM, ?tM, ?gU, ?xU, ?kU, ?bU, ?tU, ?gcdB, ?lcmB, ?d_in, ?d_tp, ?d_ra, ?d_ro, ?d_sc, ?d_iv, ?d_im, ?d_dm, ?d_ps, ?d_pm, ?d_tm, ?d_lc, ?d_ls, ?d_lr, ?d_lt, ?d_le, ?d_lm, ?d_lx, ?d_ld, ?d_lo⟩
      (case blt => intro x hx; simp only [List.mem_cons, List.not_mem_nil, or_false] at hx; (rcases hx with rfl | rfl | rfl | rfl | rfl | rfl | rfl | rfl | rfl | rfl | rfl | rfl | rfl | rfl | rfl <;> k_is))
      (case entries => k_is)
      (case gM => k_is)
      (case xM => first | k_exc)
      (case kM => k_is)
      (case bM => k_is)
      (case tM => k_is)
      (case gU => k_is)
      (case xU => first | k_exc)
      (case kU => k_is)
      (case bU => k_is)
      (case tU => k_is)
      (case gcdB => k_is)
      (case lcmB => k_is)
      case d_in =>
        refine' SL.isDef ?a ?l ?h ?k
        (case a => k_is)
        (case l => k_is)
        (case h => k_is)
        (case k => k_is)
      case d_tp =>
        refine' SL.isDef ?a ?l ?h ?k
        (case a => k_is)
        (case l => k_is)
        (case h => k_is)
        (case k => k_is)
      case d_ra =>
        refine' SL.isDef ?a ?l ?h ?k
        (case a => k_is)
        (case l => k_is)
        (case h => k_is)
        (case k => k_is)
      case d_ro =>
        refine' SL.isDef ?a ?l ?h ?k
        (case a => k_is)
        (case l => k_is)
        (case h => k_is)
        (case k => k_is)
      case d_sc =>
        refine' SL.isDef ?a ?l ?h ?k
        (case a => k_is)
        (case l => k_is)
        (case h => k_is)
        (case k => k_is)
      case d_iv =>
        refine' SL.isDefT ?a ?l ?h ?k ?m ?v ?n
        (case a => k_is)
        (case l => k_is)
        (case h => k_is)
        (case k => k_is)
        (case m => k_is)
        (case v => first | rfl)
        (case n => first | kernel_rfl)
      case d_im =>
        refine' SL.isDefT ?a ?l ?h ?k ?m ?v ?n
        (case a => k_is)
        (case l => k_is)
        (case h => k_is)
        (case k => k_is)
        (case m => k_is)
        (case v => first | rfl)
        (case n => first | kernel_rfl)
      case d_dm =>
        refine' SL.isDef ?a ?l ?h ?k
        (case a => k_is)
        (case l => k_is)
        (case h => k_is)
        (case k => k_is)
      case d_ps =>
        refine' SL.isDef ?a ?l ?h ?k
        (case a => k_is)
        (case l => k_is)
        (case h => k_is)
        (case k => k_is)
      case d_pm =>
        refine' SL.isDef ?a ?l ?h ?k
        (case a => k_is)
        (case l => k_is)
        (case h => k_is)
        (case k => k_is)
      case d_tm =>
        refine' SL.isDef ?a ?l ?h ?k
        (case a => k_is)
        (case l => k_is)
        (case h => k_is)
        (case k => k_is)
      case d_lc =>
        refine' SL.isDef ?a ?l ?h ?k
        (case a => k_is)
        (case l => k_is)
        (case h => k_is)
        (case k => k_is)
      case d_ls =>
        refine' SL.isDef ?a ?l ?h ?k
        (case a => k_is)
        (case l => k_is)
        (case h => k_is)
        (case k => k_is)
      case d_lr =>
        refine' SL.isDef ?a ?l ?h ?k
        (case a => k_is)
        (case l => k_is)
        (case h => k_is)
        (case k => k_is)
      case d_lt =>
        refine' SL.isDef ?a ?l ?h ?k
        (case a => k_is)
        (case l => k_is)
        (case h => k_is)
        (case k => k_is)
      case d_le =>
        refine' SL.isDef ?a ?l ?h ?k
        (case a => k_is)
        (case l => k_is)
        (case h => k_is)
        (case k => k_is)
      case d_lm =>
        refine' SL.isDef ?a ?l ?h ?k
        (case a => k_is)
        (case l => k_is)
        (case h => k_is)
        (case k => k_is)
      case d_lx =>
        refine' SL.isDef ?a ?l ?h ?k
        (case a => k_is)
        (case l => k_is)
        (case h => k_is)
        (case k => k_is)
      case d_ld =>
        refine' SL.isDef ?a ?l ?h ?k
        (case a => k_is)
        (case l => k_is)
        (case h => k_is)
        (case k => k_is)
      case d_lo =>
        refine' SL.isDefC ?a ?l ?h ?k
        (case a => k_is)
        (case l => k_is)
        (case h => k_is)
        (case k => k_is)
