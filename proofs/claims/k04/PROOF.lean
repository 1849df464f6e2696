import PyProof.Rows.All
import Wide.All
import OpenK.AllK
import Wide.FinOn
import PySem.Challenge.RW_flywright_k04_machines_and_boxes
import HandS.ForMost
import HandS.Evl
import HandS.Wide
import HandS.Flt
import HandS.IsInst
import HandS.Walk
import HandS.Exc
import HandS.ExcOwn
import HandS.ExcIs
import HandS.RaiseMore
import HandS.FStr
import HandS.WordsExc
import HandS.WordsDict
import HandS.DictComp
import HandS.GenOver
import HandS.AnyAll
import HandS.EndTab
import HandS.Conv
import HandS.CallSlots
import HandS.ClsMeth
import PyProof.GenCompD
import PyProof.ConsumeS
import PyProof.SumAnyB
import PyProof.GenQ
import KE.GoesMore
import HandS.Nested
import KE.KSuper
import KE.KStateDown
import KE.KNestM
import HandS.Words
import HandS.Defaults
import HandS.Head0
import HandS.Head1
import HandS.Head2
import HandS.HeadEnd
import HandS.HeadHook1
import HandS.HeadHook2
import HandS.HeadHook3
import HandS.HeadHook4
import HandS.HeadWalk
set_option Elab.async false
set_option linter.all false
set_option maxRecDepth 100000
set_option maxHeartbeats 4000000
/-! ### generator expressions handed to any, all, sum: their own frame as a context of the hand layer -/
namespace L2
open PySem PySem.Spec PyProof.Rows GenW
/-- the context of a generator expression's frame: made at s, its iterator's objects at fp; B: its around; pn: the generator's object -/
abbrev Cx.gx (X : Cx) (s : Shared) (H : Hp) (ge : Env) (B : Around) (fp : List Addr) (pn : List (Addr × Obj)) : Cx :=
  { X with s_0 := s, H_0 := H, env := ge, outer := X.stack, stack := ge :: X.stack, A := B, ex := fp, fn := fun _ => false, pn := pn, xe := fun _ _ => False }
theorem gx_start {X : Cx} {pins hp pn : List (Addr × Obj)} {σ : St} {H : Hp} {s s' : Shared} {scope : Scope} {own : List (Str × Nat)} {fp : List Addr} {B : Around} {code : Value} {m : Str → Option Value} {ge : Env}
    (I : Inv X pins σ H s) (ok : BlkOk X.N X.env.scope scope own) (hcell : ∀ y ∈ scope.names, y.2 ≠ .cell) (hN : X.N.Nodup) (hfp : ∀ b ∈ fp, FpOk X pins H b ∧ b < s.heap.objs.size)
    (hB : B.frames = some (ge :: X.stack)) (hBh : B.handled = none) (hge : ge = genEnv scope (cloFrom X.env.cells scope.names []) s.heap.objs.size code builtinsNs X.env)
    (os : s'.os = s.os) (bare : AllBare s'.gens) (kp : ∀ b o, s.heap.get? b = some o → s'.heap.get? b = some o) (hn : s'.heap.Ns s.heap.objs.size m)
    (hpin : ∀ p ∈ pn ++ hp, s'.heap.get? p.1 = some p.2 ∧ H p.1 = none ∧ p.1 ≠ s.heap.objs.size ∧ p.1 ∉ frs X.stack ∧ ∀ v, p.2.data ≠ .cell v) :
    Inv (X.gx s H ge B fp pn) hp (wipe σ (own.map (·.2))) H s' := by
  have gf : ∀ y ∈ scope.names, y.2 = .free → ∃ c, X.env.cells.lookup y.1 = some c := fun y hy e => (ok.free y hy e).elim (fun k => I.ok.has _ (.inl k)) (fun k => I.ok.has _ (.inr k))
  have hL : ge.locals = s.heap.objs.size := by rw [hge]; rfl
  have hcl : ge.cells = cloFrom X.env.cells scope.names [] := by rw [hge]; rfl
  have hsc : ge.scope = scope := by rw [hge]; rfl
  have cm : ∀ {y c}, ge.cells.lookup y = some c → X.env.cells.lookup y = some c ∧ c < s.heap.objs.size := fun {y c} e => by
    rw [hcl] at e
    rcases cloFrom_mem (PySem.mem_of_lookup e) with hm | ⟨h1, rfl⟩
    · cases hm
    · obtain ⟨c, hc⟩ := gf _ h1 rfl
      rw [hc]
      exact ⟨rfl, (I.cell _ _ hc).elim fun _ z => z.lt⟩
  have look : ∀ {y}, scope.names.lookup y = some .free → ∃ c, ge.cells.lookup y = some c ∧ X.env.cells.lookup y = some c := fun {y} hl => by
    obtain ⟨c', e'⟩ := mem_lookup (cloFrom_has (cells := X.env.cells) (acc := []) (PySem.mem_of_lookup hl))
    rw [← hcl] at e'
    exact ⟨c', e', (cm e').1⟩
  have okG : (X.gx s H ge B fp pn).Ok := by
    refine ⟨I.ok.mod, by show ge.scope.kind = _; rw [hsc]; exact ok.kind, by show ge.globals = _; rw [hge]; exact I.ok.glob, by show ge.builtins = _; rw [hge]; rfl, Nat.le_of_eq hL.symm,
      fun y z c e1 e2 => I.ok.inj y z c (cm e1).1 (cm e2).1, fun y hy => ?_, fun y c z e => absurd z Bool.false_ne_true, fun _ => hBh, hB, .inr ⟨rfl, by show ge.frame = _; rw [hge]; rfl⟩,
      fun b hb => ⟨by show b ≠ ge.locals; rw [hL]; exact Nat.ne_of_lt (hfp b hb).2, fun y c e z => (hfp b hb).1.2.2.2.2.1 y c (cm e).1 z⟩, I.bs, Nat.le_trans I.ok.bsz I.sz, fun b o e hb => ?_, fun b hb z => ?_, I.stack, I.stkFree⟩
    · have hy : scope.names.lookup y = some .cell ∨ scope.names.lookup y = some .free := by rw [← hsc]; exact hy
      rcases hy with hy | hy
      · exact absurd rfl (hcell _ (PySem.mem_of_lookup hy))
      · obtain ⟨c, e, _⟩ := look hy
        exact ⟨c, e⟩
    · rcases (hfp b hb).1.2.2.2.1 with z | z
      · exact I.ok.noex b o e z
      · exact absurd (Nat.lt_of_lt_of_le (Heap.lt_size e) (Nat.le_trans I.ok.bsz z)) (Nat.lt_irrefl _)
    · rcases List.mem_cons.mp (I.stkSub b z) with z | z
      · exact (hfp b hb).1.2.1 z
      · exact (hfp b hb).1.2.2.1 z
  refine ⟨okG, os, bare, Un.kept kp, ⟨m, by show Heap.Ns _ ge.locals _; rw [hL]; exact hn, fun i y av e1 e2 e3 => ?_⟩, fun y c e => ?_, by show H ge.locals = none; rw [hL]; exact I.hok.fresh (Nat.le_refl _), fun y c e => I.freeC y c (cm e).1,
    fun p hp => by show _ ∧ _ ∧ p.1 ≠ ge.locals ∧ _; rw [hL]; exact hpin p hp, I.hok.kept kp, by rw [wipe_length]; exact I.len⟩
  · obtain ⟨e2, hne⟩ := wipe_some e2
    have no : ∀ k, scope.names.lookup y = some k → ¬ (k = .local ∨ k = .cell) := fun k e hh => by
      rcases ok.own _ (PySem.mem_of_lookup e) hh with e' | e'
      · obtain ⟨p, hp, hpy⟩ := List.mem_map.mp e'
        have e3 := ok.ix p hp
        rw [show p.1 = y from hpy] at e3
        exact hne (List.mem_map.mpr ⟨p, hp, nodup_ix hN e3 e1⟩)
      · exact e' (List.mem_of_getElem? e1)
    have e3 : Vis scope y := by rw [← hsc]; exact e3
    have hfr : scope.names.lookup y = some .free := by
      rcases e3 with e3 | e3 | e3
      · exact absurd (.inl rfl) (no _ e3)
      · exact absurd (.inr rfl) (no _ e3)
      · exact e3
    have fr := ok.free _ (PySem.mem_of_lookup hfr) rfl
    obtain ⟨m1, hn1, hl⟩ := I.loc
    obtain ⟨w, r, q⟩ := hl i y av e1 e2 (fr.elim (fun k => .inr (.inl k)) (fun k => .inr (.inr k)))
    refine ⟨w, r, .inr ⟨.inr (by show ge.scope.names.lookup y = _; rw [hsc]; exact hfr), ?_⟩⟩
    obtain ⟨c, h1, h2⟩ := look hfr
    rcases q with ⟨k, _⟩ | ⟨_, c', e', z⟩
    · have k : X.env.scope.names.lookup y = some .local := k
      rcases fr with k' | k' <;> rw [show X.env.scope.names.lookup y = _ from k'] at k <;> cases k
    · rw [h2] at e'; cases e'
      exact ⟨c, h1, z.keeps kp⟩
  · obtain ⟨w, z⟩ := I.cell y c (cm e).1
    exact ⟨w, z.keeps kp⟩

/-! ### what passes between the generator and its consumer -/
/-- the generator sleeps: only its consumer's own objects, at Ss, change -/
structure Nap (Ss : List Addr) (s s' : Shared) : Prop where
  os : s'.os = s.os
  bare : AllBare s'.gens
  keep : ∀ b o, b ∉ Ss → s.heap.get? b = some o → s'.heap.get? b = some o
  own : ∀ S ∈ Ss, ∃ o, s'.heap.get? S = some o ∧ ∀ v, o.data ≠ .cell v
def SameAt (Ss : List Addr) (H : Hp) (s s' : Shared) : Prop := ∀ S ∈ Ss, H S = none ∧ ∀ o, s.heap.get? S = some o → s'.heap.get? S = some o
/-- an item y is handed out; c: what the consumer has so far (Ck: as it stands in the state), step: what it wants of an item, k: what it may go on with -/
def GxY (X : Cx) (pins : List (Addr × Obj)) (σ : St) {C : Type} (Ss : List Addr) (Ck : C → Shared → Prop) (step : C → V → Hp → (C → Prop) → Prop) (a : Addr) (g : Nat) : Protocol := fun n s₀ v s1 kap =>
  ∃ c y H k, Ck c s₀ ∧ RelV y v ∧ Inv X pins σ H s1 ∧ s1.heap.IsGen a g ∧ SameAt Ss H s₀ s1 ∧ step c y H k ∧ ∀ c' s2, Nap Ss s1 s2 → Ck c' s2 → k c' → kap (.send .none) s2
def GxE (X : Cx) (pins : List (Addr × Obj)) (σ : St) {C : Type} (Ss : List Addr) (Ck : C → Shared → Prop) (fin : C → Hp → Prop) : Nat → Shared → Shared → Prop := fun n s₀ s1 =>
  ∃ c H, Ck c s₀ ∧ Inv X pins σ H s1 ∧ SameAt Ss H s₀ s1 ∧ fin c H
/-- the end of a run -/
abbrev GxEnd (P : Nat → Shared → Shared → Prop) : GenEnd := fun n s₀ r s₁ => r = .ok .next ∧ P n s₀ s₁
/-- woken again -/
theorem Inv.awake {X : Cx} {σ : St} {H : Hp} {s₀ s s' : Shared} {Ss : List Addr} {ip : List (Addr × Obj)} (I : Inv X (pinsAt Ss s₀.heap ++ ip) σ H s) (h0 : ∀ S ∈ Ss, ∃ o, s₀.heap.get? S = some o)
    (hS : ∀ S ∈ Ss, X.s_0.heap.objs.size ≤ S ∧ S ≠ X.env.locals ∧ (∀ x c, X.env.cells.lookup x = some c → c ≠ S) ∧ ∀ p ∈ X.pn ++ ip, p.1 ≠ S) (z : Nap Ss s s') : Inv X (pinsAt Ss s'.heap ++ ip) σ H s' := by
  have I0 : Inv X ip σ H s := I.pins_of fun p hp => I.pin p (List.mem_append_right _ (List.mem_append_right _ hp))
  have at0 : ∀ S ∈ Ss, H S = none ∧ S ∉ X.fs := fun S h => by
    obtain ⟨o, e⟩ := h0 S h
    obtain ⟨_, h2, _, h4, _⟩ := I.pin (S, o) (List.mem_append_right _ (List.mem_append_left _ (mem_pinsAt h e)))
    exact ⟨h2, h4⟩
  have nt : ∀ b u, H b = some u → b ∉ Ss := fun b u q hb => by rw [(at0 b hb).1] at q; cases q
  have un : Un (frs X.stack) Ss H H s.heap s'.heap := ⟨fun b o q n _ hx => z.keep b o hx q, fun b o q n _ hx => ⟨o.slots, z.keep b o hx q⟩, fun _ _ _ n _ => n, fun b o q hx => ⟨o, z.keep b o hx q⟩, fun _ _ q => q, fun _ _ _ q => q, fun b ps q => ⟨#[], by rw [q]; simp⟩⟩
  have hok : HOk X.prog X.w H s'.heap := fun b u q => (I0.hok b u q).stay (fun c v hc y => z.keep c v (by
    rcases hc with y | y
    · rw [y]; exact nt b u q
    · exact nt c _ y) y) (fun _ y => y) fun _ _ y => y
  have J : Inv X ip σ H s' := I0.call' z.os un hok z.bare fun b hb => ⟨.inr (hS b hb).1, (hS b hb).2.1, (hS b hb).2.2.1, (hS b hb).2.2.2⟩
  refine J.pins_of fun p hp => ?_
  rcases List.mem_append.mp hp with hp | hp
  · obtain ⟨hb, e⟩ := of_pinsAt hp
    obtain ⟨o, e', d⟩ := z.own p.1 hb
    rw [e] at e'; cases e'
    exact ⟨e, (at0 _ hb).1, (hS _ hb).2.1, (at0 _ hb).2, d⟩
  · exact J.pin p (List.mem_append_right _ hp)

/-- the turns of a generator expression of one clause, from the turn i on: n is above the measure -/
theorem gx_loop {X : Cx} {pins : List (Addr × Obj)} {σ : St} {H3 : Hp} {s3 : Shared} {C : Type} {Ss : List Addr} {Ck : C → Shared → Prop} {fin : C → Hp → Prop} {step : C → V → Hp → (C → Prop) → Prop} {a : Addr} {g : Nat} {go : Obj}
    {elt tg iter : Expr} {scope : Scope} {pos : Pos} {own : List (Str × Nat)} {fp : List Addr} {it : Addr} {tn : Nat → Heap → Prop} {J : It} {ge : Env} {B0 B : Around} {gg : TG} {te : TE} {W : Nat → Nat → C → Hp → Prop}
    (hc : X.calm = true) (hco : ge.scope.isCoroutine = false) (I3 : Inv X pins σ H3 s3) (f3 : ∀ b ∈ fp, FpOk X pins H3 b) (T : Turn X.prog X.w X.K tg J fp it tn) (hgo : ∀ h : Heap, h.get? a = some go → h.IsGen a g) (ha : a ∉ fp)
    (hov : B0.over (.compLoop (.GeneratorExp elt [⟨tg, iter, [], 0⟩] scope pos) 0 (.ref it) .none ge) [] = B)
    (pg : PG (X.gx s3 H3 ge B fp [(a, go)]) tg gg) (pe : PE (X.gx s3 H3 ge B fp [(a, go)]) elt te)
    (hSs : ∀ S ∈ Ss, s3.heap.objs.size ≤ S ∧ S ≠ ge.locals ∧ (∀ x c, ge.cells.lookup x = some c → c ≠ S) ∧ S ∉ fp ∧ a ≠ S)
    (turn : ∀ i m c H, W i m c H → (J.stop i H ∧ fin c H) ∨ (J.go i H ∧ ∃ Nx : C → Hp → Prop, (∀ c' H', Nx c' H' → ∃ m', m' < m ∧ W (i + 1) m' c' H') ∧ ∀ x H', J.yld i H x H' → gg x (wipe σ (own.map (·.2))) H' fun σ2 H2 =>
      wipe σ2 (own.map (·.2)) = wipe σ (own.map (·.2)) ∧ te σ2 H2 fun y H4 => step c y H4 fun c' => Nx c' H4)) :
    ∀ (n m i : Nat) (c : C) (s₀ s : Shared) (H : Hp), m < n → W i m c H → Ck c s₀ → Inv (X.gx s3 H3 ge B fp [(a, go)]) (pinsAt Ss s₀.heap) (wipe σ (own.map (·.2))) H s → tn i s.heap → (∀ b ∈ fp, H b = none) → (∀ S ∈ Ss, ∃ o, s₀.heap.get? S = some o) →
      Seg (model X.prog X.w) B0 (GxEnd (GxE X pins σ Ss Ck fin)) (GxY X pins σ Ss Ck step a g) n s₀ (.compLoop (.GeneratorExp elt [⟨tg, iter, [], 0⟩] scope pos) 0 (.ref it) .none ge)
        ((model X.prog X.w).den (.compLoop (.GeneratorExp elt [⟨tg, iter, [], 0⟩] scope pos) 0 (.ref it) .none ge)) [] s := by
  -- what stands outside
  have out : ∀ {hp : List (Addr × Obj)} {σ' : St} {H' : Hp} {s' : Shared}, Inv (X.gx s3 H3 ge B fp [(a, go)]) hp σ' H' s' → Inv X pins σ H' s' ∧ s'.heap.IsGen a g := fun {hp σ' H' s'} I' =>
    ⟨I3.call' (ch := fp) I'.os I'.base I'.hok I'.bare fun b hb => ⟨(f3 b hb).2.2.2.1, (f3 b hb).2.1, (f3 b hb).2.2.2.2.1, (f3 b hb).2.2.2.2.2⟩, hgo _ (I'.pin (a, go) (List.mem_append_left _ List.mem_cons_self)).1⟩
  have stat : ∀ {hp : List (Addr × Obj)} {σ' : St} {H' : Hp} {s' : Shared} (s₀ : Shared), hp = pinsAt Ss s₀.heap → Inv (X.gx s3 H3 ge B fp [(a, go)]) hp σ' H' s' → (∀ b ∈ fp, H' b = none) → ∀ b ∈ fp, FpOk (X.gx s3 H3 ge B fp [(a, go)]) hp H' b := fun {hp σ' H' s'} s₀ e I' hn b hb =>
    ⟨hn b hb, (I'.ok.exf b hb).1, I'.ok.exfs b hb, .inl hb, fun x c e => (I'.ok.exf b hb).2 x c e, fun p hp' z => by
      rcases List.mem_append.mp hp' with q | q
      · rw [List.mem_singleton.mp q] at z
        exact ha (by rw [show a = b from z]; exact hb)
      · rw [e] at q
        exact (hSs p.1 (of_pinsAt q).1).2.2.2.1 (by rw [z]; exact hb)⟩
  intro n
  induction n with
  | zero => intro m i c s₀ s H hm; exact absurd hm (Nat.not_lt_zero _)
  | succ n ih =>
    intro m i c s₀ s H hm hw hck I5 st5 n5 h0
    show Seg _ B0 _ _ _ s₀ _ ((compTurn (.GeneratorExp elt [⟨tg, iter, [], 0⟩] scope pos) 0 (.ref it) .none ge).onRaise (leaving ge)) [] s
    rw [compTurn_gen, Sem.onRaise_eq_wrap]
    refine seg_bind_wrap (wpAny_standAt ?_)
    have same : ∀ {ip : List (Addr × Obj)} {σ' : St} {H' : Hp} {s' : Shared}, Inv (X.gx s3 H3 ge B fp [(a, go)]) (pinsAt Ss s₀.heap ++ ip) σ' H' s' → SameAt Ss H' s₀ s' := fun {ip σ' H' s'} I' S hS =>
      ⟨(h0 S hS).elim fun o e => (I'.pin (S, o) (List.mem_append_right _ (List.mem_append_left _ (mem_pinsAt hS e)))).2.1, fun o e => (I'.pin (S, o) (List.mem_append_right _ (List.mem_append_left _ (mem_pinsAt hS e)))).1⟩
    rcases turn i m c H hw with ⟨stop, qq⟩ | ⟨gone, Nx, hNx, stp⟩
    · refine seg_bind_wrap ?_
      rw [hov]
      refine thnF (T.done (X.gx s3 H3 ge B fp [(a, go)]) rfl rfl rfl hc i _ s _ H (fun _ _ => False) I5 (stat s₀ rfl I5 n5) st5 stop) fun r s6 ⟨hr, I6⟩ => ?_
      subst hr
      exact seg_end (.ok .next) ⟨rfl, c, H, hck, (out I6).1, same (ip := []) (by rw [List.append_nil]; exact I6), qq⟩
    · refine seg_bind_wrap ?_
      rw [hov]
      refine thnF (T.item (X.gx s3 H3 ge B fp [(a, go)]) rfl rfl rfl hc i _ s _ H (fun _ _ => False) I5 (stat s₀ rfl I5 n5) st5 gone) fun r s6 ⟨u, hr, h6⟩ => ?_
      subst hr
      refine seg_bind_wrap ?_
      rw [hov]
      refine thnF h6 fun _ s7 ⟨x, H7, I7, r7, y7, st7, n7⟩ => ?_
      have I7' := I7.pinned (stat s₀ rfl I7 n7) (T.obj _ _ st7)
      refine seg_bind_wrap ?_
      rw [hov]
      refine thnF (pg.run _ s7 _ H7 x u _ I7' r7 (stp x H7 y7)) fun _ s8 ⟨σ8, H8, I8, hw8, q8⟩ => ?_
      refine seg_bind_wrap (wpAny_tests_nil ?_)
      rw [if_pos rfl]
      have hy : ∀ v, yieldOut ge v = yieldValue v := fun v => by simp only [yieldOut, hco, Bool.false_eq_true, if_false]
      simp only [hy]
      rw [Sem.bind_eq_wrap', Sem.bind_eq_wrap', Sem.wrap_wrap, Sem.wrap_wrap]
      refine seg_wrap ?_
      rw [hov]
      refine thnF (pe.run _ s8 σ8 H8 _ I8 q8) fun v s9 ⟨y, H9, I9, r9, q9⟩ => ?_
      refine seg_at (seg_yield rfl rfl rfl ⟨c, y, H9, _, hck, r9, (out I9).1, (out I9).2, same I9, q9, fun c' s10 nap ck' nx => ?_⟩)
      obtain ⟨m', hm', w'⟩ := hNx c' H9 nx
      have I10 := I9.awake h0 (fun S hS => ⟨(hSs S hS).1, (hSs S hS).2.1, (hSs S hS).2.2.1, fun p hp z => by
        rcases List.mem_append.mp hp with q | q
        · rw [List.mem_singleton.mp q] at z
          exact (hSs S hS).2.2.2.2 z
        · exact (hSs S hS).2.2.2.1 (by rw [← z]; exact (of_pinsAt q).1)⟩) nap
      have pin' : ∀ b ∈ fp, ∀ o, s7.heap.get? b = some o → s10.heap.get? b = some o ∧ H9 b = none := fun b hb o e =>
        let z := I10.pin (b, o) (List.mem_append_right _ (List.mem_append_right _ (mem_pinsAt hb e)))
        ⟨z.1, z.2.1⟩
      refine seg_again rfl (ih m' (i + 1) c' s10 s10 H9 (by omega) w' ck' ((I10.unpinned).weak (by rw [← hw8, wipe_length]) fun j v e => by rw [← hw8] at e; exact (wipe_some e).1) (T.keep _ _ _ st7 fun b hb o e => (pin' b hb o e).1) (fun b hb => ?_) fun S hS => ?_)
      · obtain ⟨o, e, _⟩ := T.obj _ _ st7 b hb
        exact (pin' b hb o e).2
      · obtain ⟨o, e, _⟩ := nap.own S hS
        exact ⟨o, e⟩
end L2
namespace L2
open PySem PySem.Spec PyProof.Rows GenW
theorem Inv.calm' {X : Cx} {pins : List (Addr × Obj)} {σ : St} {H : Hp} {s s' : Shared} (I : Inv X pins σ H s) (os : s'.os = s.os) (bare : AllBare s'.gens) (kp : ∀ b o, s.heap.get? b = some o → s'.heap.get? b = some o) : Inv X pins σ H s' :=
  I.call' (ch := []) os (Un.kept kp) (I.hok.kept kp) bare fun b hb => absurd hb (by simp)
/-- the consumer's turns, from the first one on -/
def GxI {C : Type} (J : It) (gg : TG) (te : TE) (vs : List Nat) (σ : St) (H0 : Hp) (c0 : C) (fin : C → Hp → Prop) (step : C → V → Hp → (C → Prop) → Prop) : Prop :=
  ∃ W : Nat → Nat → C → Hp → Prop, (∃ m, W 0 m c0 H0) ∧ ∀ i m c H, W i m c H → (J.stop i H ∧ fin c H) ∨ (J.go i H ∧ ∃ Nx : C → Hp → Prop, (∀ c' H', Nx c' H' → ∃ m', m' < m ∧ W (i + 1) m' c' H') ∧
    ∀ x H', J.yld i H x H' → gg x (wipe σ vs) H' fun σ2 H2 => wipe σ2 vs = wipe σ vs ∧ te σ2 H2 fun y H4 => step c y H4 fun c' => Nx c' H4)
/-- at a stands a generator that has not begun -/
def GxMade (X : Cx) (pins : List (Addr × Obj)) (σ : St) (elt tg iter : Expr) (scope : Scope) (pos : Pos) (Rr : It → Hp → Prop) (a : Addr) (s5 : Shared) : Prop :=
  ∃ (g : Nat) (go : Obj) (it : Addr) (fp : List Addr) (tn : Nat → Heap → Prop) (J : It) (H2 : Hp) (s4 : Shared) (code : Value) (m : Str → Option Value),
    Inv X pins σ H2 s4 ∧ (∀ b ∈ fp, FpOk X pins H2 b ∧ b < s4.heap.objs.size) ∧ Turn X.prog X.w X.K tg J fp it tn ∧ tn 0 s4.heap ∧ Rr J H2 ∧ (∀ h : Heap, h.get? a = some go → h.IsGen a g) ∧ (∀ v, go.data ≠ .cell v) ∧
    s5.heap.get? a = some go ∧ s4.heap.objs.size < a ∧ s5.gens[g]? = some (.fresh (.compStart (.GeneratorExp elt [⟨tg, iter, [], 0⟩] scope pos) 0 (.ref it) .none (genEnv scope (cloFrom X.env.cells scope.names []) s4.heap.objs.size code builtinsNs X.env))) ∧
    s5.os = s4.os ∧ AllBare s5.gens ∧ (∀ b o, s4.heap.get? b = some o → s5.heap.get? b = some o) ∧ s5.heap.Ns s4.heap.objs.size m
/-- a generator expression's scope: .0 the walked thing; no cells of its own -/
structure GxS (scope : Scope) : Prop where
  co : scope.isCoroutine = false
  cell : ∀ y ∈ scope.names, y.2 ≠ .cell
  dot : scope.names.lookup (".0" : Str) = some NameKind.local
def gxC (scope : Scope) : Bool := (!scope.isCoroutine) && (scope.names.all fun y => match y.2 with | .cell => false | _ => true) && decide (scope.names.lookup (".0" : Str) = some NameKind.local)
theorem gxS_by {scope : Scope} (h : gxC scope = true) : GxS scope := by
  unfold gxC at h
  simp only [Bool.and_eq_true, List.all_eq_true, decide_eq_true_eq, Bool.not_eq_true'] at h
  refine ⟨h.1.1, fun y hy e => ?_, h.2⟩
  have q := h.1.2 y hy
  rw [e] at q
  cases q
theorem gx_eval {X : Cx} {pins : List (Addr × Obj)} {σ : St} {H : Hp} {s : Shared} {k : Nat} {c P : Addr} {elt tg iter : Expr} {scope : Scope} {gpos : Pos} {own : List (Str × Nat)} {wi : TI} {Rr : It → Hp → Prop} {Q' : Value → Shared → Prop}
    (hr : Room k X.A) (TB : GxR.TabB X.base X.mg c P) (hcode : X.env.code = .ref c) (ok : BlkOk X.N X.env.scope scope own) (S : GxS scope) (hi : PI X tg iter wi) (hs : ∀ v, genFold iter X.env v = pure v)
    (I : Inv X pins σ H s) (h : wi σ H fun J H1 => GxR.TabG H1 P ∧ ∀ H2, GxR.Tabbed P H1 H2 → Rr J H2) (hQ : ∀ a s5, GxMade X pins σ elt tg iter scope gpos Rr a s5 → Q' (.ref a) s5) :
    wpAny (model X.prog X.w) X.A (eval (.GeneratorExp elt [⟨tg, iter, [], 0⟩] scope gpos) X.env) Q' X.xe s := by
  have gf : ∀ y ∈ scope.names, y.2 = .free → ∃ c, X.env.cells.lookup y.1 = some c := fun y hy e => (ok.free y hy e).elim (fun k => I.ok.has _ (.inl k)) (fun k => I.ok.has _ (.inr k))
  refine wpAny_GeneratorExp_make S.co (closure_ok gf) S.cell S.dot ok.kind (by have := hr.dp; omega) (thn (hi.run pins s σ H _ I h) fun xv s1 hx => thn hx fun itv s2 h2 => ?_) hs
  obtain ⟨it, fp, tn, J, H1, e, I2, T, st2, f2, ⟨ps, hP, ht⟩, q⟩ := h2
  subst e
  have hPs : s2.heap.get? P = some { cls := .none, data := .fields ps } := I2.hok P _ hP
  have cd : PySem.W.CodeHd s2.heap c P := TB.code.keeps I2.bk
  have nP : ∀ b ∈ fp, b ≠ P := fun b hb z => by
    have := (f2 b hb).1
    rw [z, hP] at this
    cases this
  have lt2 : ∀ b ∈ fp, b < s2.heap.objs.size := fun b hb => by
    obtain ⟨o, e, _⟩ := T.obj _ _ st2 b hb
    exact Heap.lt_size e
  refine ⟨I2.nolimit, ?_⟩
  have cont : ∀ (code : Value) (h3 : Heap) (tk : Nat) (H2 : Hp), GxR.Tabbed P H1 H2 → Inv X pins σ H2 { s2 with heap := h3, toks := tk } → (∀ b o, b ≠ P → s2.heap.get? b = some o → h3.get? b = some o) → s2.heap.objs.size ≤ h3.objs.size →
      wpAny (model X.prog X.w) X.A (builtinsFor X.env.globals X.env.builtins) (fun bi s₄ => ∀ h', h'.Ns s₄.heap.objs.size (fun y => if y = ".0" then some (.ref it) else none) → Heap.SameBut s₄.heap.objs.size (s₄.heap.push { cls := .type "frame", data := .dict #[] }) h' →
        Q' (.ref h'.objs.size) { s₄ with
          gens := s₄.gens.push (.fresh (.compStart (.GeneratorExp elt [⟨tg, iter, [], 0⟩] scope gpos) 0 (.ref it) .none (genEnv scope (cloFrom X.env.cells scope.names []) s₄.heap.objs.size code bi X.env))), toks := s₄.toks + 1 + 1 + 1,
          heap := h'.push { cls := .type "generator", data := .fields #[.int s₄.gens.size 0, .str "<genexpr>" (s₄.toks + 1), .str (X.env.qual ++ "<genexpr>") (s₄.toks + 1 + 1)] } }) X.xe { s2 with heap := h3, toks := tk } := by
    intro code h3 tk H2 hT J3 k3 sz3
    obtain ⟨bm, ob, e1, e2, e3, e4, e5, e6, e7, e8⟩ := TB.bm
    refine wpAny_builtinsFor (m := X.mg) (by rw [J3.ok.glob]; exact J3.mod.glob.keeps J3.bk) e1 e2 (J3.bk _ _ e5) e6 e7 e8 fun h' hn' hs' => ?_
    have sz' : h'.objs.size = h3.objs.size + 1 := by rw [hs'.1, Heap.size_push]
    have kp' : ∀ b o, h3.get? b = some o → h'.get? b = some o := fun b o e => hs'.extBut b o (Nat.ne_of_lt (Heap.lt_size e)) (Heap.get?_push_of_some _ e)
    refine hQ _ _ ⟨s2.gens.size, _, it, fp, tn, J, H2, { s2 with heap := h3, toks := tk }, code, _, J3, fun b hb => ⟨⟨?_, (f2 b hb).2⟩, Nat.lt_of_lt_of_le (lt2 b hb) sz3⟩, T, T.keep _ _ _ st2 fun b hb o e => k3 b o (nP b hb) e, q H2 hT,
      fun h e => ⟨_, _, _, e, rfl, rfl, rfl⟩, fun v z => (by cases z), Heap.get?_push_size _ rfl, ?_, Array.getElem?_push_size .., rfl, AllBare.push I2.bare rfl, fun b o e => Heap.get?_push_of_some _ (kp' b o e), hn'.push _⟩
    · rw [hT.2 b (nP b hb)]
      exact (f2 b hb).1
    · show h3.objs.size < h'.objs.size
      omega
  cases hf : codeAmong gpos ps.toList with
  | none =>
    refine wpAny_genexprCodeX hcode (cd.code hPs ht) (cd.tab hPs) hf fun c' h' tk hx hge hlt hco' _ htab' _ => ?_
    obtain ⟨o1, vs, f1, tf, fl, tg', inF, tx, tt, op, _, _, _, _, _, _, _, _, _, htr, _⟩ := hco'
    have JJ := GxR.inv_tab (h' := h') (g' := s2.gens) (d' := s2.drawn) (t' := tk) I2 hP (fun b o hb e => hx b o hb e) htab'.2 I2.bare
    exact cont _ h' tk _ ⟨⟨_, upd_same, htr⟩, fun b hb => upd_ne hb⟩ JJ (fun b o hb e => hx b o hb e) (Nat.le_trans hge (Nat.le_of_lt hlt))
  | some cv => exact wpAny_genexprCode_hit hcode (cd.code hPs ht) hf (cont cv s2.heap s2.toks H1 ⟨⟨ps, hP, ht⟩, fun _ _ => rfl⟩ I2 (fun _ _ _ e => e) (Nat.le_refl _))
end L2
namespace L2
open PySem PySem.Spec PyProof.Rows GenW
/-- the generator may be woken for the first time -/
theorem gx_goes {X : Cx} {pins : List (Addr × Obj)} {σ : St} {k : Nat} {C : Type} {Ck : C → Shared → Prop} {fin : C → Hp → Prop} {step : C → V → Hp → (C → Prop) → Prop} {elt tg iter : Expr} {scope : Scope} {gpos : Pos} {own : List (Str × Nat)} {gg : TG} {te : TE} {a : Addr} {s5 : Shared} {c0 : C} {B0 : Around}
    (hr : Room (k + 1) B0) (hB0 : B0.frames = X.A.frames) (hc : X.calm = true) (hN : X.N.Nodup) (ok : BlkOk X.N X.env.scope scope own) (S : GxS scope)
    (hg : ∀ (s : Shared) (H : Hp) (L : Addr) (cl : List (Str × Addr)) (cv : Value) (B : Around) (fp : List Addr) (pn : List (Addr × Obj)), Room k B → PG (X.gx s H (genEnv scope cl L cv builtinsNs X.env) B fp pn) tg gg)
    (he : ∀ (s : Shared) (H : Hp) (L : Addr) (cl : List (Str × Addr)) (cv : Value) (B : Around) (fp : List Addr) (pn : List (Addr × Obj)), Room k B → PE (X.gx s H (genEnv scope cl L cv builtinsNs X.env) B fp pn) elt te)
    (M : GxMade X pins σ elt tg iter scope gpos (fun J H2 => GxI J gg te (own.map (·.2)) σ H2 c0 fin step) a s5) :
    ∃ g H2, s5.heap.IsGen a g ∧ Inv X pins σ H2 s5 ∧ a < s5.heap.objs.size ∧ ∃ gs n, s5.gens[g]? = some gs ∧ ∀ (Ss : List Addr) (s6 : Shared), (∀ S ∈ Ss, s5.heap.objs.size ≤ S) → (∀ b o, s5.heap.get? b = some o → s6.heap.get? b = some o) → (∀ S ∈ Ss, ∃ o, s6.heap.get? S = some o ∧ ∀ v, o.data ≠ .cell v) →
      s6.os = s5.os → AllBare s6.gens → Ck c0 s6 → gs.Goes (model X.prog X.w) B0 (GxEnd (GxE X pins σ Ss Ck fin)) (GxY X pins σ Ss Ck step a g) n (.send .none) s6 := by
  obtain ⟨g, go, it, fp, tn, J, H2, s4, code, m, I4, f4, T, st4, ⟨W, ⟨m0, w0⟩, turn⟩, hgo, hgc, ea, la, hgs, os5, ba5, k45, ns5⟩ := M
  have J5 : Inv X pins σ H2 s5 := I4.calm' os5 ba5 k45
  refine ⟨g, H2, hgo _ ea, J5, Heap.lt_size ea, _, m0 + 1, hgs, fun Ss s6 hSs k56 own6 os6 ba6 ck => ⟨rfl, ?_⟩⟩
  generalize hge : genEnv scope (cloFrom X.env.cells scope.names []) s4.heap.objs.size code builtinsNs X.env = ge
  have hL : ge.locals = s4.heap.objs.size := by rw [← hge]; rfl
  have hcl : ge.cells = cloFrom X.env.cells scope.names [] := by rw [← hge]; rfl
  have lt45 : s4.heap.objs.size ≤ s5.heap.objs.size := Nat.le_of_lt (Nat.lt_trans la (Heap.lt_size ea))
  have fr : (B0.over (.compLoop (.GeneratorExp elt [⟨tg, iter, [], 0⟩] scope gpos) 0 (.ref it) .none ge) []).frames = some (ge :: X.stack) := by
    show pushEnvs [ge] (pushEnvs [] B0.frames) = _
    rw [hB0, I4.ok.frames]
    rfl
  have rm : Room k (B0.over (.compLoop (.GeneratorExp elt [⟨tg, iter, [], 0⟩] scope gpos) 0 (.ref it) .none ge) []) := hr.deeper ge
  have aft : a ∉ fp := fun z => absurd (Nat.lt_trans (f4 a z).2 la) (Nat.lt_irrefl _)
  have ccl : ∀ x c, ge.cells.lookup x = some c → c < s4.heap.objs.size := fun x c e => by
    rw [hcl] at e
    rcases cloFrom_mem (PySem.mem_of_lookup e) with hm | ⟨h1, rfl⟩
    · cases hm
    · obtain ⟨c, hc⟩ := (ok.free _ h1 rfl).elim (fun k => I4.ok.has _ (.inl k)) (fun k => I4.ok.has _ (.inr k))
      rw [hc]
      exact (I4.cell _ _ hc).elim fun _ z => z.lt
  have young : ∀ b, s4.heap.objs.size < b → H2 b = none ∧ b ≠ s4.heap.objs.size ∧ b ∉ frs X.stack := fun b hb => by
    refine ⟨I4.hok.fresh (Nat.le_of_lt hb), Nat.ne_of_gt hb, fun z => ?_⟩
    rcases List.mem_cons.mp (I4.stkSub b z) with z | z
    · rw [z] at hb
      exact absurd (Nat.lt_trans hb I4.lt) (Nat.lt_irrefl _)
    · exact I4.nofs (Nat.le_of_lt hb) z
  have I6 : Inv (X.gx s4 H2 ge (B0.over (.compLoop (.GeneratorExp elt [⟨tg, iter, [], 0⟩] scope gpos) 0 (.ref it) .none ge) []) fp [(a, go)]) (pinsAt Ss s6.heap) (wipe σ (own.map (·.2))) H2 s6 := by
    refine gx_start (m := m) I4 ok S.cell hN f4 fr rm.hd hge.symm (os6.trans os5) ba6 (fun b o e => k56 b o (k45 b o e)) (ns5.keeps k56) fun p hp => ?_
    rcases List.mem_append.mp hp with z | z
    · rw [List.mem_singleton.mp z]
      obtain ⟨y1, y2, y3⟩ := young a la
      exact ⟨k56 _ _ ea, y1, y2, y3, hgc⟩
    · obtain ⟨hb, e⟩ := of_pinsAt z
      obtain ⟨o, e', d⟩ := own6 _ hb
      rw [e] at e'; cases e'
      obtain ⟨y1, y2, y3⟩ := young p.1 (Nat.lt_of_lt_of_le (Nat.lt_trans la (Heap.lt_size ea)) (hSs _ hb))
      exact ⟨e, y1, y2, y3, d⟩
  have hco : ge.scope.isCoroutine = false := by rw [← hge]; exact S.co
  have loop := gx_loop (own := own) (elt := elt) (iter := iter) (scope := scope) (pos := gpos) (Ss := Ss) (Ck := Ck) (pins := pins) (B0 := B0) hc hco I4 (fun b hb => (f4 b hb).1) T hgo aft rfl (by rw [← hge]; exact hg _ _ _ _ _ _ _ _ (by rw [hge]; exact rm)) (by rw [← hge]; exact he _ _ _ _ _ _ _ _ (by rw [hge]; exact rm))
    (fun S hS => by
      have q := Nat.lt_of_lt_of_le (Heap.lt_size ea) (hSs S hS)
      refine ⟨Nat.le_of_lt (Nat.lt_trans la q), by rw [hL]; exact Nat.ne_of_gt (Nat.lt_trans la q), fun x c e z => ?_, fun z => ?_, Nat.ne_of_lt q⟩
      · have := ccl x c e
        rw [z] at this
        exact absurd (Nat.lt_trans this (Nat.lt_trans la q)) (Nat.lt_irrefl _)
      · exact absurd (Nat.lt_trans (f4 S z).2 (Nat.lt_trans la q)) (Nat.lt_irrefl _)) turn (m0 + 1) m0 0 c0 s6 s6 H2 (Nat.lt_succ_self _) w0 ck I6 (T.keep _ _ _ st4 fun b _ o e => k56 b o (k45 b o e)) (fun b hb => (f4 b hb).1.1) fun S hS => (own6 S hS).elim fun o e => ⟨o, e.1⟩
  show Seg _ B0 _ _ _ s6 _ ((compStart (.GeneratorExp elt [⟨tg, iter, [], 0⟩] scope gpos) 0 (.ref it) .none ge).onRaise (leaving ge)) [] s6
  unfold compStart; rw [Sem.onRaise_eq_wrap]
  show Seg _ B0 _ _ _ s6 _ ((ask >>= _).wrap _ _ _ _) [] s6
  refine seg_bind_wrap (wpAny_askSetting ?_); split
  · exact seg_again rfl loop
  · refine seg_bind_wrap (wpAny_rule ?_)
    first
      | exact seg_bind_wrap (wpAny_standAt (seg_bind_wrap (T.self _ 0 s6 _ _ (T.keep _ _ _ st4 fun b _ o e => k56 b o (k45 b o e)) (seg_again rfl loop))))
      | (show Seg _ B0 _ _ _ s6 _ ((standAt iter.pos >>= _).wrap _ _ _ _) [] s6; exact seg_bind_wrap (wpAny_standAt (seg_bind_wrap (T.self _ 0 s6 _ _ (T.keep _ _ _ st4 fun b _ o e => k56 b o (k45 b o e)) (seg_again rfl loop)))))
theorem allBare_set {s : Shared} {g : Nat} {x : GenState} (h : AllBare s.gens) (hx : x.bare = true) : AllBare (s.setGen g x).gens := fun y hy => by
  have hy : y ∈ s.gens.setIfInBounds g x := hy
  rcases Array.mem_or_eq_of_mem_setIfInBounds hy with z | z
  · exact h y z
  · rw [z]; exact hx
theorem setGen_got {s : Shared} {g : Nat} {x : GenState} (h : g < s.gens.size) : (s.setGen g x).gens[g]? = some x := by
  show (s.gens.setIfInBounds g x)[g]? = some x
  simp [h]
theorem nap0 {s s' : Shared} (h1 : s'.os = s.os) (h2 : AllBare s'.gens) (h3 : s'.heap = s.heap) : Nap [] s s' := ⟨h1, h2, fun b o _ e => by rw [h3]; exact e, fun S hS => absurd hS (by simp)⟩
def stepAny (Q : VK) : Unit → V → Hp → (Unit → Prop) → Prop := fun _ y H k => ∃ b, y = .bl b ∧ if b = true then Q (.bl true) H else k ()
def stepAll (Q : VK) : Unit → V → Hp → (Unit → Prop) → Prop := fun _ y H k => ∃ b, y = .bl b ∧ if b = true then k () else Q (.bl false) H
def stepSum : Int → V → Hp → (Int → Prop) → Prop := fun c y H k => ∃ i, y = .int i ∧ k (c + i)
section
variable {X : Cx} {pins : List (Addr × Obj)} {σ : St} {Q : VK} {A : Around} {a : Addr} {g : Nat}
theorem any_run (hh : A.handled = none) (hd : A.depth < recursionLimit) : ∀ (n : Nat) (s : Shared), s.heap.IsGen a g → s.heap.NoLimit →
    (∃ gs, s.gens[g]? = some gs ∧ gs.Goes (model X.prog X.w) A.in1.in1 (GxEnd (GxE X pins σ [] (fun (_ : Unit) _ => True) fun _ H => Q (.bl false) H)) (GxY X pins σ [] (fun (_ : Unit) _ => True) (stepAny Q) a g) n (.send .none) (s.setGen g .running)) →
    codeAny (model X.prog X.w) A (.builtin "any.loop" ⟨[.ref a], []⟩) (fun r s' => ∃ b H, r = .ok (.ret (.bool b)) ∧ Inv X pins σ H s' ∧ Q (.bl b) H) s := by
  intro n
  induction n with
  | zero =>
    rintro s hg hl ⟨gs, hgs, hgo⟩
    refine codeAny_builtin F.entry_any_loop ?_; rw [Around.under_plainId F.plain_any_loop _]; show wpAny _ A.in1 (pyNext (.ref a) >>= _) _ _ s; refine wpAny_bind (wpAny_pyNext_genexpQ (A := A.in1) hh hl hd hg hgs hgo (fun v s1 gs' hb hv => ?_) fun s1 hp h' hk => ?_)
    · obtain ⟨c, y, H, k, _, rv, J, hg1, _, ⟨b, rfl, q⟩, wake⟩ := hv
      obtain rfl : v = .bool b := rv
      refine wpAny_bind (wpAny_holding (wpAny_truthy_bool (wpAny_bind (wpAny_letGo ?_))))
      cases b with
      | true => exact wpAny_bind (wpAny_rule (wpAny_pure ⟨true, H, rfl, J.calm' rfl (allBare_set J.bare hb) fun _ _ e => e, q⟩))
      | false => exact (wake () s1 (nap0 rfl J.bare rfl) trivial q).elim
    · obtain ⟨c, H, _, J, _, q⟩ := hp
      exact wpAny_bind (wpAny_rule (wpAny_pure ⟨false, H, rfl, J.calm' rfl (allBare_set (s := s1) J.bare rfl) hk, q⟩))
  | succ n ih =>
    rintro s hg hl ⟨gs, hgs, hgo⟩
    have hgl : g < s.gens.size := (Array.getElem?_eq_some_iff.mp hgs).1
    refine codeAny_builtin F.entry_any_loop ?_; rw [Around.under_plainId F.plain_any_loop _]; show wpAny _ A.in1 (pyNext (.ref a) >>= _) _ _ s; refine wpAny_bind (wpAny_gsz (n := g + 1) hgl (wpAny_pyNext_genexpQ (A := A.in1) hh hl hd hg hgs hgo (fun v s1 gs' hb hv hsz => ?_) fun s1 hp h' hk hsz => ?_))
    · obtain ⟨c, y, H, k, _, rv, J, hg1, _, ⟨b, rfl, q⟩, wake⟩ := hv
      obtain rfl : v = .bool b := rv
      refine wpAny_bind (wpAny_holding (wpAny_truthy_bool (wpAny_bind (wpAny_letGo ?_))))
      cases b with
      | true => exact wpAny_bind (wpAny_rule (wpAny_pure ⟨true, H, rfl, J.calm' rfl (allBare_set J.bare hb) fun _ _ e => e, q⟩))
      | false =>
        have hsz' : g < s1.gens.size := by rw [setGen_size] at hsz; exact hsz
        exact wpAny_pure ⟨plainId_quiet F.plain_any_loop _, ih (s1.setGen g gs') hg1 J.nolimit ⟨gs', setGen_got hsz', wake () _ (nap0 rfl (allBare_set (s := s1.setGen g gs') (allBare_set J.bare hb) rfl) rfl) trivial q⟩⟩
    · obtain ⟨c, H, _, J, _, q⟩ := hp
      exact wpAny_bind (wpAny_rule (wpAny_pure ⟨false, H, rfl, J.calm' rfl (allBare_set (s := s1) J.bare rfl) hk, q⟩))
end
end L2
namespace L2
open PySem PySem.Spec PyProof.Rows GenW
section
variable {X : Cx} {pins : List (Addr × Obj)} {σ : St} {Q : VK} {A : Around} {a : Addr} {g : Nat}
theorem all_run (hh : A.handled = none) (hd : A.depth < recursionLimit) : ∀ (n : Nat) (s : Shared), s.heap.IsGen a g → s.heap.NoLimit →
    (∃ gs, s.gens[g]? = some gs ∧ gs.Goes (model X.prog X.w) A.in1.in1 (GxEnd (GxE X pins σ [] (fun (_ : Unit) _ => True) fun _ H => Q (.bl true) H)) (GxY X pins σ [] (fun (_ : Unit) _ => True) (stepAll Q) a g) n (.send .none) (s.setGen g .running)) →
    codeAny (model X.prog X.w) A (.builtin "all.loop" ⟨[.ref a], []⟩) (fun r s' => ∃ b H, r = .ok (.ret (.bool b)) ∧ Inv X pins σ H s' ∧ Q (.bl b) H) s := by
  intro n
  induction n with
  | zero =>
    rintro s hg hl ⟨gs, hgs, hgo⟩
    refine codeAny_builtin F.entry_all_loop ?_; rw [Around.under_plainId F.plain_all_loop _]; show wpAny _ A.in1 (pyNext (.ref a) >>= _) _ _ s; refine wpAny_bind (wpAny_pyNext_genexpQ (A := A.in1) hh hl hd hg hgs hgo (fun v s1 gs' hb hv => ?_) fun s1 hp h' hk => ?_)
    · obtain ⟨c, y, H, k, _, rv, J, hg1, _, ⟨b, rfl, q⟩, wake⟩ := hv
      obtain rfl : v = .bool b := rv
      refine wpAny_bind (wpAny_holding (wpAny_truthy_bool (wpAny_bind (wpAny_letGo ?_))))
      cases b with
      | false => exact wpAny_bind (wpAny_rule (wpAny_pure ⟨false, H, rfl, J.calm' rfl (allBare_set J.bare hb) fun _ _ e => e, q⟩))
      | true => exact (wake () s1 (nap0 rfl J.bare rfl) trivial q).elim
    · obtain ⟨c, H, _, J, _, q⟩ := hp
      exact wpAny_bind (wpAny_rule (wpAny_pure ⟨true, H, rfl, J.calm' rfl (allBare_set (s := s1) J.bare rfl) hk, q⟩))
  | succ n ih =>
    rintro s hg hl ⟨gs, hgs, hgo⟩
    have hgl : g < s.gens.size := (Array.getElem?_eq_some_iff.mp hgs).1
    refine codeAny_builtin F.entry_all_loop ?_; rw [Around.under_plainId F.plain_all_loop _]; show wpAny _ A.in1 (pyNext (.ref a) >>= _) _ _ s; refine wpAny_bind (wpAny_gsz (n := g + 1) hgl (wpAny_pyNext_genexpQ (A := A.in1) hh hl hd hg hgs hgo (fun v s1 gs' hb hv hsz => ?_) fun s1 hp h' hk hsz => ?_))
    · obtain ⟨c, y, H, k, _, rv, J, hg1, _, ⟨b, rfl, q⟩, wake⟩ := hv
      obtain rfl : v = .bool b := rv
      refine wpAny_bind (wpAny_holding (wpAny_truthy_bool (wpAny_bind (wpAny_letGo ?_))))
      cases b with
      | false => exact wpAny_bind (wpAny_rule (wpAny_pure ⟨false, H, rfl, J.calm' rfl (allBare_set J.bare hb) fun _ _ e => e, q⟩))
      | true =>
        have hsz' : g < s1.gens.size := by rw [setGen_size] at hsz; exact hsz
        exact wpAny_pure ⟨plainId_quiet F.plain_all_loop _, ih (s1.setGen g gs') hg1 J.nolimit ⟨gs', setGen_got hsz', wake () _ (nap0 rfl (allBare_set (s := s1.setGen g gs') (allBare_set J.bare hb) rfl) rfl) trivial q⟩⟩
    · obtain ⟨c, H, _, J, _, q⟩ := hp
      exact wpAny_bind (wpAny_rule (wpAny_pure ⟨true, H, rfl, J.calm' rfl (allBare_set (s := s1) J.bare rfl) hk, q⟩))

/-- the sum so far, in the consumer's own list at S -/
def SumAt (S : Addr) (c : Int) (s : Shared) : Prop := ∃ (t : Tok) (n : Nat), s.heap.get? S = some { cls := .type "list", dict := none, data := .seq #[.int c t] n, slots := #[] }
theorem sum_run {S : Addr} (hh : A.handled = none) (hd : A.depth < recursionLimit) (hSa : S ≠ a) (hSc : S ≠ cStatics) (hf : ∀ H', H' S = none → FpOk X pins H' S) : ∀ (n : Nat) (s : Shared) (c : Int) (st : Int), (st = 0 ∨ st = 2) → s.heap.IsGen a g → s.heap.NoLimit → SumAt S c s →
    (∃ gs, s.gens[g]? = some gs ∧ gs.Goes (model X.prog X.w) A.in1.in1 (GxEnd (GxE X pins σ [S] (SumAt S) fun c H => Q (.int c) H)) (GxY X pins σ [S] (SumAt S) stepSum a g) n (.send .none) (s.setGen g .running)) →
    codeAny (model X.prog X.w) A (.builtin "sum.loop" ⟨[.ref a, .ref S, rawInt st, rawInt 0], []⟩) (fun r s' => ∃ i t H, r = .ok (.ret (.int i t)) ∧ Inv X pins σ H s' ∧ Q (.int i) H) s := by
  have sat : ∀ {c c' : Int} {s s' : Shared}, s'.heap = s.heap → SumAt S c s → SumAt S c' s' → c' = c := fun {c c' s s'} e h h' => by
    obtain ⟨t, n, e1⟩ := h
    obtain ⟨t', n', e2⟩ := h'
    rw [e, e1] at e2
    cases e2
    rfl
  intro n
  induction n with
  | zero =>
    rintro s c st hst hg hl hS ⟨gs, hgs, hgo⟩
    obtain ⟨tA, cc, eS⟩ := id hS
    refine codeAny_builtin F.entry_sum_loop ?_; rw [Around.under_plainId F.plain_sum_loop _]; show wpAny _ A.in1 (seqItems? (.ref S) >>= _) _ _ s; refine wpAny_bind (wpAny_seqItems eS rfl ?_)
    show wpAny _ A.in1 (tryCatch (pyNext (.ref a)) _ >>= _) _ _ s; refine wpAny_bind (wpAny_tryCatch (wpAny_pyNext_genexpQ (A := A.in1) hh hl hd hg hgs hgo (fun v s1 gs' hb hv => ?_) fun s1 hp h' hk => ?_))
    · obtain ⟨c', y, H, k, hck, rv, J, hg1, sm, ⟨i, rfl, q⟩, wake⟩ := hv
      have sc : c' = c := sat rfl hS hck
      subst sc
      obtain ⟨hn, sm⟩ := sm S List.mem_cons_self
      have eS1 := sm _ eS
      refine (wake (c' + i) { s1 with heap := s1.heap.update S (Obj.mapSeq fun _ => #[.int (c' + i) 0]) } ⟨rfl, J.bare, fun b o hb e => ?_, fun S' hS' => ?_⟩ ⟨0, _, Heap.get?_update_self _ eS1 rfl⟩ q).elim
      · exact (Heap.get?_update_other _ _ (fun z : S = b => hb (by rw [z]; exact List.mem_cons_self))).trans e
      · rw [List.mem_singleton.mp hS']
        exact ⟨_, Heap.get?_update_self _ eS1 rfl, fun v z => by cases z⟩
    · obtain ⟨c', H, hck, J, _, q⟩ := hp
      have sc : c' = c := sat rfl hS hck
      subst sc
      exact wpAny_pure ⟨c', tA, H, rfl, J.calm' rfl (allBare_set (s := s1) J.bare rfl) hk, q⟩
  | succ n ih =>
    rintro s c st hst hg hl hS ⟨gs, hgs, hgo⟩
    obtain ⟨tA, cc, eS⟩ := id hS
    have hgl : g < s.gens.size := (Array.getElem?_eq_some_iff.mp hgs).1
    refine codeAny_builtin F.entry_sum_loop ?_; rw [Around.under_plainId F.plain_sum_loop _]; show wpAny _ A.in1 (seqItems? (.ref S) >>= _) _ _ s; refine wpAny_bind (wpAny_seqItems eS rfl ?_)
    show wpAny _ A.in1 (tryCatch (pyNext (.ref a)) _ >>= _) _ _ s; refine wpAny_bind (wpAny_tryCatch (wpAny_gsz (n := g + 1) hgl (wpAny_pyNext_genexpQ (A := A.in1) hh hl hd hg hgs hgo (fun v s1 gs' hb hv hsz => ?_) fun s1 hp h' hk hsz => ?_)))
    · obtain ⟨c', y, H, k, hck, rv, J, hg1, sm, ⟨i, rfl, q⟩, wake⟩ := hv
      have sc : c' = c := sat rfl hS hck
      subst sc
      obtain ⟨hn, sm⟩ := sm S List.mem_cons_self
      have eS1 := sm _ eS
      obtain ⟨t, rfl⟩ : ∃ t, v = .int i t := rv
      have hsz' : g < s1.gens.size := by rw [setGen_size] at hsz; exact hsz
      have fin : ∀ (h' : Heap) (tk : Nat) (st' : Int), (st' = 0 ∨ st' = 2) → (∀ b o, b ≠ S → s1.heap.get? b = some o → h'.get? b = some o) → SumAt S (c' + i) { s1.setGen g gs' with heap := h', toks := tk } →
          codeAny (model X.prog X.w) A (.builtin "sum.loop" ⟨[.ref a, .ref S, rawInt st', rawInt 0], []⟩) (fun r s' => ∃ i t H, r = .ok (.ret (.int i t)) ∧ Inv X pins σ H s' ∧ Q (.int i) H) { s1.setGen g gs' with heap := h', toks := tk } := fun h' tk st' hs2 k2 sm2 => by
        obtain ⟨f0, f1, f2, f3, f4, f5⟩ := hf H hn
        have J2 : Inv X pins σ H { s1.setGen g gs' with heap := h', toks := tk } := (J.calm' (s' := s1.setGen g gs') rfl (allBare_set J.bare hb) fun _ _ e => e).turned (t' := tk) k2 f0 f1 f3 f4 f5
        refine ih _ (c' + i) st' hs2 ?_ J2.nolimit sm2 ⟨gs', setGen_got hsz', wake (c' + i) _ ⟨rfl, allBare_set (s := { s1.setGen g gs' with heap := h', toks := tk }) (allBare_set J.bare hb) rfl, fun b o hb e => k2 b o (fun z => hb (by rw [z]; exact List.mem_cons_self)) e, fun S' hS' => ?_⟩ sm2 q⟩
        · obtain ⟨o, nm, qn, ho, r⟩ := hg1
          exact ⟨o, nm, qn, k2 a o (Ne.symm hSa) ho, r⟩
        · obtain ⟨t2, n2, e2⟩ := sm2
          rw [List.mem_singleton.mp hS']
          exact ⟨_, e2, fun v z => by cases z⟩
      have other : ∀ (h : Heap) (f : Obj → Obj) (b : Addr) (o : Obj), b ≠ S → h.get? b = some o → (h.update S f).get? b = some o := fun h f b o hb e => (Heap.get?_update_other _ _ (Ne.symm hb)).trans e
      rcases hst with rfl | rfl
      · show wpAny _ A.in1 (if (_ : Bool) = true then (mkInt (c' + i) >>= _) else _) _ _ _
        split
        · refine wpAny_bind (wpAny_mkInt ?_); show wpAny _ A.in1 (updateSeq S (fun _ => #[.int (c' + i) s1.toks]) >>= _) _ _ _
          refine wpAny_bind (wpAny_updateSeq eS1 rfl (wpAny_pure ⟨plainId_quiet F.plain_sum_loop _, fin _ _ 0 (.inl rfl) (fun b o hb e => other _ _ b o hb e) ⟨_, _, Heap.get?_update_self _ eS1 rfl⟩⟩))
        · refine wpAny_bind (wpAny_rule (wpAny_bind (wpAny_attempt (wpAny_holding (wpAny_add_int ?_))))); show wpAny _ A.in1 (updateSeq S (fun _ => #[.int (c' + i) s1.toks]) >>= _) _ _ _
          have eS2 := Heap.get?_update_self (Obj.mapSeq fun _ => #[Value.int (c' + i) s1.toks]) eS1 rfl
          refine wpAny_bind (wpAny_updateSeq eS1 rfl (wpAny_bind (wpAny_letGo (wpAny_bind (wpAny_updateSeq eS2 rfl (wpAny_pure ⟨plainId_quiet F.plain_sum_loop _, fin _ _ 2 (.inr rfl) (fun b o hb e => other _ _ b o hb (other _ _ b o hb e)) ⟨_, _, Heap.get?_update_self _ eS2 rfl⟩⟩))))))
      · show wpAny _ A.in1 ((holding [Value.int i t] (binaryOp .Add (.int c' tA) (.int i t))).attempt >>= _) _ _ _
        refine wpAny_bind (wpAny_attempt (wpAny_holding (wpAny_add_int ?_))); show wpAny _ A.in1 (updateSeq S (fun _ => #[.int (c' + i) s1.toks]) >>= _) _ _ _
        have eS2 := Heap.get?_update_self (Obj.mapSeq fun _ => #[Value.int (c' + i) s1.toks]) eS1 rfl
        refine wpAny_bind (wpAny_updateSeq eS1 rfl (wpAny_bind (wpAny_letGo (wpAny_bind (wpAny_updateSeq eS2 rfl (wpAny_pure ⟨plainId_quiet F.plain_sum_loop _, fin _ _ 2 (.inr rfl) (fun b o hb e => other _ _ b o hb (other _ _ b o hb e)) ⟨_, _, Heap.get?_update_self _ eS2 rfl⟩⟩))))))
    · obtain ⟨c', H, hck, J, _, q⟩ := hp
      have sc : c' = c := sat rfl hS hck
      subst sc
      exact wpAny_pure ⟨c', tA, H, rfl, J.calm' rfl (allBare_set (s := s1) J.bare rfl) hk, q⟩
end
end L2
namespace L2
open PySem PySem.Spec PyProof.Rows GenW
/-- any(..), all(..), sum(..) of a generator expression of one clause; P: the table of the def's code object -/
def tAnyG (P : Addr) (wi : TI) (gg : TG) (te : TE) (vs : List Nat) : TE := fun σ H Q => wi σ H fun J H1 => GxR.TabG H1 P ∧ ∀ H2, GxR.Tabbed P H1 H2 → GxI J gg te vs σ H2 () (fun _ H' => Q (.bl false) H') (stepAny Q)
def tAllG (P : Addr) (wi : TI) (gg : TG) (te : TE) (vs : List Nat) : TE := fun σ H Q => wi σ H fun J H1 => GxR.TabG H1 P ∧ ∀ H2, GxR.Tabbed P H1 H2 → GxI J gg te vs σ H2 () (fun _ H' => Q (.bl true) H') (stepAll Q)
def tSumG (P : Addr) (wi : TI) (gg : TG) (te : TE) (vs : List Nat) : TE := fun σ H Q => wi σ H fun J H1 => GxR.TabG H1 P ∧ ∀ H2, GxR.Tabbed P H1 H2 → GxI J gg te vs σ H2 (0 : Int) (fun c H' => Q (.int c) H') stepSum
section
variable {X : Cx} {k : Nat} {c P : Addr} {elt tg iter : Expr} {scope : Scope} {gpos p pos : Pos} {own : List (Str × Nat)} {wi : TI} {gg : TG} {te : TE}
theorem pe_anyG (hr : Room (k + 2) X.A) (hc : X.calm = true) (hN : X.N.Nodup) (TB : GxR.TabB X.base X.mg c P) (hcode : X.env.code = .ref c) (hm : X.mg "any" = none) (ok : BlkOk X.N X.env.scope scope own) (S : GxS scope) (hi : PI X tg iter wi)
    (hg : ∀ (s : Shared) (H : Hp) (L : Addr) (cl : List (Str × Addr)) (cv : Value) (B : Around) (fp : List Addr) (pn : List (Addr × Obj)), Room k B → PG (X.gx s H (genEnv scope cl L cv builtinsNs X.env) B fp pn) tg gg)
    (he : ∀ (s : Shared) (H : Hp) (L : Addr) (cl : List (Str × Addr)) (cv : Value) (B : Around) (fp : List Addr) (pn : List (Addr × Obj)), Room k B → PE (X.gx s H (genEnv scope cl L cv builtinsNs X.env) B fp pn) elt te)
    (hgl : Gl X "any" := by rfl) (hs : ∀ v, genFold iter X.env v = pure v := by intro _; rfl)
    (hst : starEach [.GeneratorExp elt [⟨tg, iter, [], 0⟩] scope gpos] X.env = (false, eval (.GeneratorExp elt [⟨tg, iter, [], 0⟩] scope gpos) X.env) :: starEach [] X.env := by rfl) :
    PE X (.Call (.Name "any" p) [.GeneratorExp elt [⟨tg, iter, [], 0⟩] scope gpos] [] pos) (tAnyG P wi gg te (own.map (·.2))) := by
  refine ⟨fun pins s σ H Q I h => wpAny_Call_Name_kw (ld_blt I hgl hm boot_any (PyProof.Rows.callWith_builtin1 ?_ hst (by rfl)))⟩
  rw [hst]
  show wpAny _ _ (spliced ((false, eval (.GeneratorExp elt [⟨tg, iter, [], 0⟩] scope gpos) X.env) :: backTo pos (starEach [] X.env))) _ _ s
  refine Calls.spliced_cons (gx_eval hr TB hcode ok S hi hs I h fun a s5 M => Calls.spliced_nil ?_)
  obtain ⟨g, H2, hg5, I5, la, gs, n, hgs, goes⟩ := gx_goes (Ck := fun (_ : Unit) _ => True) (B0 := X.A.in1.in1) ⟨hr.hd, by have := hr.dp; show X.A.depth + 3 * (k + 1) + 5 < _; omega, by have := hr.un; show X.A.units + 1 + 1 + 16 * (k + 1) + 200 < _; omega⟩ rfl hc hN ok S hg he M
  refine call_function_tree F.kind_any F.plain_any F.entry_any (F.args_any1 _) ?_
  unfold Builtin.«any»; refine wpAny_bind (m := oneArg "any" _) (wpAny_pure (wpAny_bind (wpAny_pyIter_gen hg5 (wpAny_pure ⟨plainId_quiet F.plain_any_loop _, codeAny_mono (any_run (Q := Q) hr.hd (by have := hr.dp; omega) n s5 hg5 I5.nolimit ⟨gs, hgs, goes [] _ (fun _ z => absurd z (by simp)) (fun _ _ e => e) (fun _ z => absurd z (by simp)) rfl (allBare_set I5.bare rfl) trivial⟩) fun r s' ⟨b, H', e, J, q⟩ => ?_⟩))))
  subst e
  exact ⟨.bl b, H', J, rfl, q⟩
theorem pe_allG (hr : Room (k + 2) X.A) (hc : X.calm = true) (hN : X.N.Nodup) (TB : GxR.TabB X.base X.mg c P) (hcode : X.env.code = .ref c) (hm : X.mg "all" = none) (ok : BlkOk X.N X.env.scope scope own) (S : GxS scope) (hi : PI X tg iter wi)
    (hg : ∀ (s : Shared) (H : Hp) (L : Addr) (cl : List (Str × Addr)) (cv : Value) (B : Around) (fp : List Addr) (pn : List (Addr × Obj)), Room k B → PG (X.gx s H (genEnv scope cl L cv builtinsNs X.env) B fp pn) tg gg)
    (he : ∀ (s : Shared) (H : Hp) (L : Addr) (cl : List (Str × Addr)) (cv : Value) (B : Around) (fp : List Addr) (pn : List (Addr × Obj)), Room k B → PE (X.gx s H (genEnv scope cl L cv builtinsNs X.env) B fp pn) elt te)
    (hgl : Gl X "all" := by rfl) (hb : bootBuiltins "all" = some (.builtin "all") := by rfl) (hs : ∀ v, genFold iter X.env v = pure v := by intro _; rfl)
    (hst : starEach [.GeneratorExp elt [⟨tg, iter, [], 0⟩] scope gpos] X.env = (false, eval (.GeneratorExp elt [⟨tg, iter, [], 0⟩] scope gpos) X.env) :: starEach [] X.env := by rfl) :
    PE X (.Call (.Name "all" p) [.GeneratorExp elt [⟨tg, iter, [], 0⟩] scope gpos] [] pos) (tAllG P wi gg te (own.map (·.2))) := by
  refine ⟨fun pins s σ H Q I h => wpAny_Call_Name_kw (ld_blt I hgl hm hb (PyProof.Rows.callWith_builtin1 ?_ hst (by rfl)))⟩
  rw [hst]
  show wpAny _ _ (spliced ((false, eval (.GeneratorExp elt [⟨tg, iter, [], 0⟩] scope gpos) X.env) :: backTo pos (starEach [] X.env))) _ _ s
  refine Calls.spliced_cons (gx_eval hr TB hcode ok S hi hs I h fun a s5 M => Calls.spliced_nil ?_)
  obtain ⟨g, H2, hg5, I5, la, gs, n, hgs, goes⟩ := gx_goes (Ck := fun (_ : Unit) _ => True) (B0 := X.A.in1.in1) ⟨hr.hd, by have := hr.dp; show X.A.depth + 3 * (k + 1) + 5 < _; omega, by have := hr.un; show X.A.units + 1 + 1 + 16 * (k + 1) + 200 < _; omega⟩ rfl hc hN ok S hg he M
  refine call_function_tree F.kind_all F.plain_all F.entry_all (F.args_all1 _) ?_
  unfold Builtin.«all»; refine wpAny_bind (m := oneArg "all" _) (wpAny_pure (wpAny_bind (wpAny_pyIter_gen hg5 (wpAny_pure ⟨plainId_quiet F.plain_all_loop _, codeAny_mono (all_run (Q := Q) hr.hd (by have := hr.dp; omega) n s5 hg5 I5.nolimit ⟨gs, hgs, goes [] _ (fun _ z => absurd z (by simp)) (fun _ _ e => e) (fun _ z => absurd z (by simp)) rfl (allBare_set I5.bare rfl) trivial⟩) fun r s' ⟨b, H', e, J, q⟩ => ?_⟩))))
  subst e
  exact ⟨.bl b, H', J, rfl, q⟩
theorem pe_sumG (hr : Room (k + 2) X.A) (hc : X.calm = true) (hN : X.N.Nodup) (TB : GxR.TabB X.base X.mg c P) (hcode : X.env.code = .ref c) (hm : X.mg "sum" = none) (ok : BlkOk X.N X.env.scope scope own) (S : GxS scope) (hi : PI X tg iter wi)
    (hg : ∀ (s : Shared) (H : Hp) (L : Addr) (cl : List (Str × Addr)) (cv : Value) (B : Around) (fp : List Addr) (pn : List (Addr × Obj)), Room k B → PG (X.gx s H (genEnv scope cl L cv builtinsNs X.env) B fp pn) tg gg)
    (he : ∀ (s : Shared) (H : Hp) (L : Addr) (cl : List (Str × Addr)) (cv : Value) (B : Around) (fp : List Addr) (pn : List (Addr × Obj)), Room k B → PE (X.gx s H (genEnv scope cl L cv builtinsNs X.env) B fp pn) elt te)
    (hgl : Gl X "sum" := by rfl) (hb : bootBuiltins "sum" = some (.builtin "sum") := by rfl) (hs : ∀ v, genFold iter X.env v = pure v := by intro _; rfl)
    (hst : starEach [.GeneratorExp elt [⟨tg, iter, [], 0⟩] scope gpos] X.env = (false, eval (.GeneratorExp elt [⟨tg, iter, [], 0⟩] scope gpos) X.env) :: starEach [] X.env := by rfl) :
    PE X (.Call (.Name "sum" p) [.GeneratorExp elt [⟨tg, iter, [], 0⟩] scope gpos] [] pos) (tSumG P wi gg te (own.map (·.2))) := by
  refine ⟨fun pins s σ H Q I h => wpAny_Call_Name_kw (ld_blt I hgl hm hb (PyProof.Rows.callWith_builtin1 ?_ hst (by rfl)))⟩
  rw [hst]
  show wpAny _ _ (spliced ((false, eval (.GeneratorExp elt [⟨tg, iter, [], 0⟩] scope gpos) X.env) :: backTo pos (starEach [] X.env))) _ _ s
  refine Calls.spliced_cons (gx_eval hr TB hcode ok S hi hs I h fun a s5 M => Calls.spliced_nil ?_)
  obtain ⟨g, H2, hg5, I5, la, gs, n, hgs, goes⟩ := gx_goes (Ck := SumAt s5.heap.objs.size) (B0 := X.A.in1.in1) ⟨hr.hd, by have := hr.dp; show X.A.depth + 3 * (k + 1) + 5 < _; omega, by have := hr.un; show X.A.units + 1 + 1 + 16 * (k + 1) + 200 < _; omega⟩ rfl hc hN ok S hg he M
  have hcl : cStatics < s5.heap.objs.size := let ⟨_, hn, _⟩ := I5.nolimit; hn.lt
  refine call_function_tree F.kind_sum F.plain_sum F.entry_sum (F.args_sum1 _) ?_
  unfold Builtin.«sum»; simp only [List.length_cons, List.length_nil]; rw [if_neg (by decide)]
  refine wpAny_bind (wpAny_of_eq (show Builtin.Builtins.bindParams "sum" ["start"] 0 { } = pure [none] from rfl) (wpAny_bind (wpAny_pyIter_gen hg5 (wpAny_bind (wpAny_mkInt (wpAny_bind (wpAny_pure ?_)))))))
  simp only [List.forIn_cons, List.forIn_nil]
  refine wpAny_bind (wpAny_bind (wpAny_bind (wpAny_isInstance (T := "int") (b := false) (typeIs_int _ _ _) PySem.sub_int_str ?_))); simp only [Bool.false_eq_true, if_false]
  refine wpAny_pure (wpAny_bind (wpAny_bind (wpAny_isInstance (T := "int") (b := false) (typeIs_int _ _ _) PySem.sub_int_bytes ?_))); simp only [Bool.false_eq_true, if_false]
  refine wpAny_pure (wpAny_bind (wpAny_bind (wpAny_isInstance (T := "int") (b := false) (typeIs_int _ _ _) PySem.sub_int_bytearray ?_))); simp only [Bool.false_eq_true, if_false]
  refine wpAny_pure (wpAny_pure (wpAny_bind (wpAny_newObj_type ?_)))
  have I6 := fun (o : Obj) (tk : Nat) => I5.calm' (s' := { s5 with heap := s5.heap.push o, toks := tk }) rfl I5.bare fun _ _ e => Heap.get?_push_of_some _ e
  refine wpAny_pure ⟨plainId_quiet F.plain_sum_loop _, codeAny_mono (sum_run (Q := Q) (S := s5.heap.objs.size) hr.hd (by have := hr.dp; omega) (Nat.ne_of_gt la) (Nat.ne_of_gt hcl) (fun H' z => I5.fpOk (Nat.le_refl _) z) n _ 0 0 (.inl rfl) (hg5.keeps fun _ _ e => Heap.get?_push_of_some _ e) (I6 _ _).nolimit ⟨_, _, Heap.get?_push_size _ rfl⟩
    ⟨gs, hgs, goes [s5.heap.objs.size] _ (fun S z => Nat.le_of_eq (List.mem_singleton.mp z).symm) (fun _ _ e => Heap.get?_push_of_some _ e) (fun S z => ?_) rfl (allBare_set (s := { s5 with heap := _ }) I5.bare rfl) ⟨_, _, Heap.get?_push_size _ rfl⟩⟩) fun r s' ⟨i, t, H', e, J, q⟩ => ?_⟩
  · rw [List.mem_singleton.mp z]
    exact ⟨_, Heap.get?_push_size _ rfl, fun v z => by cases z⟩
  · subst e
    exact ⟨.int i, H', J, ⟨t, rfl⟩, q⟩
end
end L2
/-! ### generator expressions of two clauses -/
namespace L2
open PySem PySem.Spec PyProof.Rows GenW
abbrev gx2E (elt t0 i0 t1 i1 : Expr) (scope : Scope) (pos : Pos) : Expr := .GeneratorExp elt [⟨t0, i0, [], 0⟩, ⟨t1, i1, [], 0⟩] scope pos
theorem gx2_out (elt t0 i0 t1 i1 : Expr) (scope : Scope) (pos : Pos) (it acc : Value) (env : Env) : compTurn (gx2E elt t0 i0 t1 i1 scope pos) 0 it acc env =
    (standAt i0.pos >>= fun _ => pyNext it >>= fun r => match r with
      | none => pure (.done .next)
      | some v => letOwnedTupleGo t0 it v >>= fun _ => assign t0 env v >>= fun _ => eval i1 env >>= fun x => standAt i1.pos >>= fun _ => foldedSetIterable i1 env x >>= fun y => holding [y] (pyIter y) >>= fun it1 =>
        runOwn (.compStart (gx2E elt t0 i0 t1 i1 scope pos) 1 it1 acc env) env >>= fun _ => again (.compLoop (gx2E elt t0 i0 t1 i1 scope pos) 0 it acc env)) := by rfl
theorem gx2_in (elt t0 i0 t1 i1 : Expr) (scope : Scope) (pos : Pos) (it acc : Value) (env : Env) : compTurn (gx2E elt t0 i0 t1 i1 scope pos) 1 it acc env =
    (standAt i1.pos >>= fun _ => pyNext it >>= fun r => match r with
      | none => pure (.done .next)
      | some v => letOwnedTupleGo t1 it v >>= fun _ => assign t1 env v >>= fun _ => (eval elt env >>= fun v => standAt elt.pos >>= fun _ => yieldOut env v >>= fun _ => pure ()) >>= fun _ => again (.compLoop (gx2E elt t0 i0 t1 i1 scope pos) 1 it acc env)) := by rfl
theorem gx2_den1 (elt t0 i0 t1 i1 : Expr) (scope : Scope) (pos : Pos) (it acc : Value) (env : Env) (P : Program) (w : World) : ∃ h, (model P w).den (.compLoop (gx2E elt t0 i0 t1 i1 scope pos) 1 it acc env) = (compTurn (gx2E elt t0 i0 t1 i1 scope pos) 1 it acc env).onRaise h := ⟨_, rfl⟩
theorem gx2_dens (elt t0 i0 t1 i1 : Expr) (scope : Scope) (pos : Pos) (it acc : Value) (env : Env) (P : Program) (w : World) : ∃ h, (model P w).den (.compStart (gx2E elt t0 i0 t1 i1 scope pos) 1 it acc env) = (compStart (gx2E elt t0 i0 t1 i1 scope pos) 1 it acc env).onRaise h := ⟨_, rfl⟩
/-- the turns of both clauses: m falls from item to item; W at the first clause's turn, W1 at the second's -/
def GxT2 {C : Type} (J : It) (g0 : TG) (wi1 : TI) (g1 : TG) (te : TE) (vs vs1 : List Nat) (σ : St) (fin : C → Hp → Prop) (step : C → V → Hp → (C → Prop) → Prop) (W : Nat → Nat → C → Hp → Prop) : Prop :=
  ∀ i m c H, W i m c H → (J.stop i H ∧ fin c H) ∨ (J.go i H ∧ ∀ x H', J.yld i H x H' → g0 x (wipe σ vs) H' fun σ2 H2 => wipe σ2 vs = wipe σ vs ∧ wi1 σ2 H2 fun J1 H3 => ∃ W1 : Nat → Nat → C → Hp → Prop, (∃ m1, m1 < m ∧ W1 0 m1 c H3) ∧
    ∀ j m1 c H, W1 j m1 c H → (J1.stop j H ∧ ∃ m', m' ≤ m1 ∧ W (i + 1) m' c H) ∨ (J1.go j H ∧ ∀ y H', J1.yld j H y H' → g1 y (wipe σ2 vs1) H' fun σ3 H4 => wipe σ3 vs1 = wipe σ2 vs1 ∧ te σ3 H4 fun z H5 => step c z H5 fun c' => ∃ m', m' < m1 ∧ W1 (j + 1) m' c' H5))
theorem gx_loop2 {X : Cx} {pins : List (Addr × Obj)} {σ : St} {H3 : Hp} {s3 : Shared} {C : Type} {Ss : List Addr} {Ck : C → Shared → Prop} {fin : C → Hp → Prop} {step : C → V → Hp → (C → Prop) → Prop} {a : Addr} {g : Nat} {go : Obj}
    {elt t0 i0 t1 i1 : Expr} {scope : Scope} {pos : Pos} {own : List (Str × Nat)} {vs1 : List Nat} {fp : List Addr} {it : Addr} {tn : Nat → Heap → Prop} {J : It} {ge : Env} {B0 B : Around} {g0 g1 : TG} {wi1 : TI} {te : TE} {W : Nat → Nat → C → Hp → Prop}
    (hc : X.calm = true) (hco : ge.scope.isCoroutine = false) (I3 : Inv X pins σ H3 s3) (f3 : ∀ b ∈ fp, FpOk X pins H3 b) (T : Turn X.prog X.w X.K t0 J fp it tn) (hgo : ∀ h : Heap, h.get? a = some go → h.IsGen a g) (ha : a ∉ fp)
    (hov : B0.over (.compLoop (gx2E elt t0 i0 t1 i1 scope pos) 0 (.ref it) .none ge) [] = B) (hv : ∀ i ∈ vs1, i ∈ own.map (·.2)) (hs1 : ∀ x, foldedSetIterable i1 ge x = pure x)
    (pg : PG (X.gx s3 H3 ge B fp [(a, go)]) t0 g0) (pi1 : PI (X.gx s3 H3 ge B fp [(a, go)]) t1 i1 wi1) (pg1 : PG (X.gx s3 H3 ge B fp [(a, go)]) t1 g1) (pe : PE (X.gx s3 H3 ge B fp [(a, go)]) elt te)
    (hSs : ∀ S ∈ Ss, s3.heap.objs.size ≤ S ∧ S ≠ ge.locals ∧ (∀ x c, ge.cells.lookup x = some c → c ≠ S) ∧ S ∉ fp ∧ a ≠ S)
    (turn : GxT2 J g0 wi1 g1 te (own.map (·.2)) vs1 σ fin step W) :
    ∀ (m n i : Nat) (c : C) (s₀ s : Shared) (H : Hp), m < n → W i m c H → Ck c s₀ → Inv (X.gx s3 H3 ge B fp [(a, go)]) (pinsAt Ss s₀.heap) (wipe σ (own.map (·.2))) H s → tn i s.heap → (∀ b ∈ fp, H b = none) → (∀ S ∈ Ss, ∃ o, s₀.heap.get? S = some o) →
      Seg (model X.prog X.w) B0 (GxEnd (GxE X pins σ Ss Ck fin)) (GxY X pins σ Ss Ck step a g) n s₀ (.compLoop (gx2E elt t0 i0 t1 i1 scope pos) 0 (.ref it) .none ge)
        ((model X.prog X.w).den (.compLoop (gx2E elt t0 i0 t1 i1 scope pos) 0 (.ref it) .none ge)) [] s := by
  have out : ∀ {hp : List (Addr × Obj)} {σ' : St} {H' : Hp} {s' : Shared}, Inv (X.gx s3 H3 ge B fp [(a, go)]) hp σ' H' s' → Inv X pins σ H' s' ∧ s'.heap.IsGen a g := fun {hp σ' H' s'} I' =>
    ⟨I3.call' (ch := fp) I'.os I'.base I'.hok I'.bare fun b hb => ⟨(f3 b hb).2.2.2.1, (f3 b hb).2.1, (f3 b hb).2.2.2.2.1, (f3 b hb).2.2.2.2.2⟩, hgo _ (I'.pin (a, go) (List.mem_append_left _ List.mem_cons_self)).1⟩
  have stat : ∀ {hp : List (Addr × Obj)} {σ' : St} {H' : Hp} {s' : Shared} (s₀ : Shared), hp = pinsAt Ss s₀.heap → Inv (X.gx s3 H3 ge B fp [(a, go)]) hp σ' H' s' → (∀ b ∈ fp, H' b = none) → ∀ b ∈ fp, FpOk (X.gx s3 H3 ge B fp [(a, go)]) hp H' b := fun {hp σ' H' s'} s₀ e I' hn b hb =>
    ⟨hn b hb, (I'.ok.exf b hb).1, I'.ok.exfs b hb, .inl hb, fun x c e => (I'.ok.exf b hb).2 x c e, fun p hp' z => by
      rcases List.mem_append.mp hp' with q | q
      · rw [List.mem_singleton.mp q] at z
        exact ha (by rw [show a = b from z]; exact hb)
      · rw [e] at q
        exact (hSs p.1 (of_pinsAt q).1).2.2.2.1 (by rw [z]; exact hb)⟩
  have same : ∀ {s₀ : Shared} {ip : List (Addr × Obj)} {σ' : St} {H' : Hp} {s' : Shared}, (∀ S ∈ Ss, ∃ o, s₀.heap.get? S = some o) → Inv (X.gx s3 H3 ge B fp [(a, go)]) (pinsAt Ss s₀.heap ++ ip) σ' H' s' → SameAt Ss H' s₀ s' := fun {s₀ ip σ' H' s'} h0 I' S hS =>
    ⟨(h0 S hS).elim fun o e => (I'.pin (S, o) (List.mem_append_right _ (List.mem_append_left _ (mem_pinsAt hS e)))).2.1, fun o e => (I'.pin (S, o) (List.mem_append_right _ (List.mem_append_left _ (mem_pinsAt hS e)))).1⟩
  have hy : ∀ v, yieldOut ge v = yieldValue v := fun v => by simp only [yieldOut, hco, Bool.false_eq_true, if_false]
  intro m
  induction m using Nat.strongRecOn with
  | ind m ih =>
    intro n i c s₀ s H hm hw hck I5 st5 n5 h0
    show Seg _ B0 _ _ _ s₀ _ ((compTurn (gx2E elt t0 i0 t1 i1 scope pos) 0 (.ref it) .none ge).onRaise (leaving ge)) [] s
    rw [gx2_out, Sem.onRaise_eq_wrap]
    refine seg_bind_wrap (wpAny_standAt ?_)
    rcases turn i m c H hw with ⟨stop, qq⟩ | ⟨gone, stp⟩
    · refine seg_bind_wrap ?_
      rw [hov]
      refine thnF (T.done (X.gx s3 H3 ge B fp [(a, go)]) rfl rfl rfl hc i _ s _ H (fun _ _ => False) I5 (stat s₀ rfl I5 n5) st5 stop) fun r s6 ⟨hr, I6⟩ => ?_
      subst hr
      exact seg_end (.ok .next) ⟨rfl, c, H, hck, (out I6).1, same (ip := []) h0 (by rw [List.append_nil]; exact I6), qq⟩
    · refine seg_bind_wrap ?_
      rw [hov]
      refine thnF (T.item (X.gx s3 H3 ge B fp [(a, go)]) rfl rfl rfl hc i _ s _ H (fun _ _ => False) I5 (stat s₀ rfl I5 n5) st5 gone) fun r s6 ⟨u, hr, h6⟩ => ?_
      subst hr
      refine seg_bind_wrap ?_
      rw [hov]
      refine thnF h6 fun _ s7 ⟨x, H7, I7, r7, y7, st7, n7⟩ => ?_
      have I7' := I7.pinned (stat s₀ rfl I7 n7) (T.obj _ _ st7)
      refine seg_bind_wrap ?_
      rw [hov]
      refine thnF (pg.run _ s7 _ H7 x u _ I7' r7 (stp x H7 y7)) fun _ s8 ⟨σ8, H8, I8, hw8, q8⟩ => ?_
      refine seg_bind_wrap ?_
      rw [hov]
      refine thnF (pi1.run _ s8 σ8 H8 _ I8 q8) fun xv s9 hx9 => ?_
      refine seg_bind_wrap (wpAny_standAt (seg_bind_wrap (wpAny_of_eq (hs1 xv) (seg_bind_wrap (wpAny_holding ?_)))))
      rw [hov]
      refine thnF hx9 fun itv s10 h10 => ?_
      obtain ⟨it1, fp1, tn1, J1, H10, e1, I10, T1, st10, f10, W1, ⟨m1, hm1, w1⟩, turn1⟩ := h10
      subst e1
      -- what the second clause may not touch
      have pf : ∀ b ∈ fp, ∃ o, s7.heap.get? b = some o := fun b hb => (T.obj _ _ st7 b hb).elim fun o e => ⟨o, e.1⟩
      have d1 : ∀ b ∈ fp1, b ∉ Ss ∧ b ∉ fp ∧ a ≠ b := fun b hb => by
        have q := (f10 b hb).2.2.2.2.2
        refine ⟨fun z => ?_, fun z => ?_, fun z => q (a, go) (List.mem_append_left _ List.mem_cons_self) z⟩
        · obtain ⟨o, e⟩ := h0 b z
          exact q (b, o) (List.mem_append_right _ (List.mem_append_left _ (mem_pinsAt z e))) rfl
        · obtain ⟨o, e⟩ := pf b z
          exact q (b, o) (List.mem_append_right _ (List.mem_append_right _ (mem_pinsAt z e))) rfl
      have stat1 : ∀ {s₀ : Shared} {H' : Hp}, (∀ b ∈ fp1, H' b = none) → ∀ b ∈ fp1, FpOk (X.gx s3 H3 ge B fp [(a, go)]) (pinsAt Ss s₀.heap ++ pinsAt fp s7.heap) H' b := fun {s₀ H'} hn b hb =>
        ⟨hn b hb, (f10 b hb).2.1, (f10 b hb).2.2.1, (f10 b hb).2.2.2.1, (f10 b hb).2.2.2.2.1, fun p hp z => by
          rcases List.mem_append.mp hp with q | q
          · rw [List.mem_singleton.mp q] at z
            exact (d1 b hb).2.2 z
          · rcases List.mem_append.mp q with q | q
            · exact (d1 b hb).1 (by rw [← z]; exact (of_pinsAt q).1)
            · exact (d1 b hb).2.1 (by rw [← z]; exact (of_pinsAt q).1)⟩
      have hl8 : (wipe σ (own.map (·.2))).length = (wipe σ8 vs1).length := by rw [wipe_length σ8, ← hw8, wipe_length]
      have hk8 : ∀ (j : Nat) v, (wipe σ (own.map (·.2)))[j]? = some (some v) → (wipe σ8 vs1)[j]? = some (some v) := fun j v e => by
        rw [← hw8] at e
        obtain ⟨e1, e2⟩ := wipe_some e
        rw [wipe_out fun z => e2 (hv j z)]
        exact e1
      refine seg_call fun p => ?_
      generalize hK : (fun r => _ : Result → Sem PySem.Fin) = K
      have kend : ∀ {n : Nat} {s₀ s' : Shared}, Seg (model X.prog X.w) B0 (GxEnd (GxE X pins σ Ss Ck fin)) (GxY X pins σ Ss Ck step a g) n s₀ (.compLoop (gx2E elt t0 i0 t1 i1 scope pos) 0 (.ref it) .none ge) (.pure (.again (.compLoop (gx2E elt t0 i0 t1 i1 scope pos) 0 (.ref it) .none ge))) [] s' →
          Seg (model X.prog X.w) B0 (GxEnd (GxE X pins σ Ss Ck fin)) (GxY X pins σ Ss Ck step a g) n s₀ (.compLoop (gx2E elt t0 i0 t1 i1 scope pos) 0 (.ref it) .none ge) (K (.ok .next)) [] s' := fun {n s₀ s'} h => by
        rw [← hK]
        exact h
      have over1 : ∀ (c' : Code) (l : List Value), c'.weight = 0 → c'.cUnits = 0 → B0.over c' [.ret K none false l (.compLoop (gx2E elt t0 i0 t1 i1 scope pos) 0 (.ref it) .none ge) p []] = B := fun c' l h1 h2 => (over_loop h1 h2).trans hov
      have loop1 : ∀ (m2 n j : Nat) (c : C) (s₀ s : Shared) (H : Hp), m2 < m → m2 < n → W1 j m2 c H → Ck c s₀ → Inv (X.gx s3 H3 ge B fp [(a, go)]) (pinsAt Ss s₀.heap ++ pinsAt fp s7.heap) (wipe σ8 vs1) H s → tn1 j s.heap → (∀ b ∈ fp1, H b = none) → (∀ S ∈ Ss, ∃ o, s₀.heap.get? S = some o) →
          Seg (model X.prog X.w) B0 (GxEnd (GxE X pins σ Ss Ck fin)) (GxY X pins σ Ss Ck step a g) n s₀ (.compLoop (gx2E elt t0 i0 t1 i1 scope pos) 1 (.ref it1) .none ge)
            ((model X.prog X.w).den (.compLoop (gx2E elt t0 i0 t1 i1 scope pos) 1 (.ref it1) .none ge)) [.ret K none false [] (.compLoop (gx2E elt t0 i0 t1 i1 scope pos) 0 (.ref it) .none ge) p []] s := by
        intro m2
        induction m2 using Nat.strongRecOn with
        | ind m2 ih1 =>
          intro n j c s₀ s H hlt hmn w2 hck I12 st12 n12 h0
          obtain ⟨hh, eh⟩ := gx2_den1 elt t0 i0 t1 i1 scope pos (.ref it1) .none ge X.prog X.w
          rw [eh, gx2_in, Sem.onRaise_eq_wrap]
          refine seg_bind_wrap (wpAny_standAt ?_)
          rcases turn1 j m2 c H w2 with ⟨stop1, m', hm', wN⟩ | ⟨go1, step1⟩
          · refine seg_bind_wrap ?_
            rw [over1 _ _ rfl rfl]
            refine thnF (T1.done (X.gx s3 H3 ge B fp [(a, go)]) rfl rfl rfl hc j _ s _ H (fun _ _ => False) I12 (stat1 n12) st12 stop1) fun r s13 ⟨hr, I13⟩ => ?_
            subst hr
            have pin' : ∀ b ∈ fp, ∀ o, s7.heap.get? b = some o → s13.heap.get? b = some o ∧ H b = none := fun b hb o e =>
              let z := I13.pin (b, o) (List.mem_append_right _ (List.mem_append_right _ (mem_pinsAt hb e)))
              ⟨z.1, z.2.1⟩
            refine seg_leaf (.ok .next) (kend (seg_again rfl (ih m' (by omega) n (i + 1) c s₀ s13 H (by omega) wN hck (I13.unpinned.weak hl8 hk8) (T.keep _ _ _ st7 fun b hb o e => (pin' b hb o e).1) (fun b hb => ?_) h0)))
            obtain ⟨o, e⟩ := pf b hb
            exact (pin' b hb o e).2
          · refine seg_bind_wrap ?_
            rw [over1 _ _ rfl rfl]
            refine thnF (T1.item (X.gx s3 H3 ge B fp [(a, go)]) rfl rfl rfl hc j _ s _ H (fun _ _ => False) I12 (stat1 n12) st12 go1) fun r s13 ⟨u1, hr, h13⟩ => ?_
            subst hr
            refine seg_bind_wrap ?_
            rw [over1 _ _ rfl rfl]
            refine thnF h13 fun _ s14 ⟨x1, H14, I14, r14, y14, st14, n14⟩ => ?_
            have I14' := I14.pinned (stat1 n14) (T1.obj _ _ st14)
            refine seg_bind_wrap ?_
            rw [over1 _ _ rfl rfl]
            refine thnF (pg1.run _ s14 _ H14 x1 u1 _ I14' r14 (step1 x1 H14 y14)) fun _ s15 ⟨σ15, H15, I15, hw15, q15⟩ => ?_
            simp only [hy]
            rw [Sem.bind_eq_wrap', Sem.bind_eq_wrap', Sem.wrap_wrap, Sem.wrap_wrap]
            refine seg_wrap ?_
            rw [over1 _ _ rfl rfl]
            refine thnF (pe.run _ s15 σ15 H15 _ I15 q15) fun v s16 ⟨y, H16, I16, r16, q16⟩ => ?_
            obtain ⟨n, rfl⟩ : ∃ n', n = n' + 1 := ⟨n - 1, by omega⟩
            rw [List.append_assoc] at I16
            refine seg_at (seg_yield rfl rfl rfl ⟨c, y, H16, _, hck, r16, (out I16).1, (out I16).2, same h0 I16, q16, fun c' s17 nap ck' nx => ?_⟩)
            obtain ⟨m', hm', w'⟩ := nx
            have I17 := I16.awake h0 (fun S hS => ⟨(hSs S hS).1, (hSs S hS).2.1, (hSs S hS).2.2.1, fun p hp z => by
              rcases List.mem_append.mp hp with q | q
              · rw [List.mem_singleton.mp q] at z
                exact (hSs S hS).2.2.2.2 z
              · rcases List.mem_append.mp q with q | q
                · exact (hSs S hS).2.2.2.1 (by rw [← z]; exact (of_pinsAt q).1)
                · exact (d1 p.1 (of_pinsAt q).1).1 (by rw [z]; exact hS)⟩) nap
            rw [← List.append_assoc] at I17
            have pin1 : ∀ b ∈ fp1, ∀ o, s14.heap.get? b = some o → s17.heap.get? b = some o ∧ H16 b = none := fun b hb o e =>
              let z := I17.pin (b, o) (List.mem_append_right _ (List.mem_append_right _ (mem_pinsAt hb e)))
              ⟨z.1, z.2.1⟩
            refine seg_again rfl (ih1 m' hm' n (j + 1) c' s17 s17 H16 (by omega) (by omega) w' ck' (I17.unpinned.weak (by rw [← hw15, wipe_length]) fun j v e => by rw [← hw15] at e; exact (wipe_some e).1) (T1.keep _ _ _ st14 fun b hb o e => (pin1 b hb o e).1) (fun b hb => ?_) fun S hS => (nap.own S hS).elim fun o e => ⟨o, e.1⟩)
            obtain ⟨o, e, _⟩ := T1.obj _ _ st14 b hb
            exact (pin1 b hb o e).2
      have lp := loop1 m1 n 0 c s₀ s10 H10 hm1 (by omega) w1 hck (I10.weak (wipe_length _ _) fun j v e => (wipe_some e).1) st10 (fun b hb => (f10 b hb).1) h0
      obtain ⟨hh, eh⟩ := gx2_dens elt t0 i0 t1 i1 scope pos (.ref it1) .none ge X.prog X.w
      show Seg _ B0 _ _ _ s₀ _ ((model X.prog X.w).den (.compStart (gx2E elt t0 i0 t1 i1 scope pos) 1 (.ref it1) .none ge)) [.ret K none false [] (.compLoop (gx2E elt t0 i0 t1 i1 scope pos) 0 (.ref it) .none ge) p []] s10
      rw [eh]
      unfold compStart; rw [Sem.onRaise_eq_wrap]
      show Seg _ B0 _ _ _ s₀ _ ((ask >>= _).wrap _ _ _ _) _ s10
      refine seg_bind_wrap (wpAny_askSetting ?_); split
      · exact seg_again rfl lp
      · refine seg_bind_wrap (wpAny_rule ?_)
        first
          | exact seg_bind_wrap (wpAny_standAt (seg_bind_wrap (T1.self _ 0 s10 _ _ st10 (seg_again rfl lp))))
          | (show Seg _ B0 _ _ _ s₀ _ ((standAt i1.pos >>= _).wrap _ _ _ _) _ s10; exact seg_bind_wrap (wpAny_standAt (seg_bind_wrap (T1.self _ 0 s10 _ _ st10 (seg_again rfl lp)))))
end L2
namespace L2
open PySem PySem.Spec PyProof.Rows GenW
theorem eval_gx2 (elt t0 i0 t1 i1 : Expr) (scope : Scope) (pos : Pos) (env : Env) (hco : scope.isCoroutine = false) : eval (gx2E elt t0 i0 t1 i1 scope pos) env =
    (eval i0 env >>= fun x => standAt i0.pos >>= fun _ => genFold i0 env x >>= fun y => holding [y] (pyIter y) >>= fun it => enterFrame >>= fun _ => closureFor scope env >>= fun cl => genexprCode env pos (env.qual ++ "<genexpr>") scope >>= fun code =>
      builtinsFor env.globals env.builtins >>= fun bi => newFunctionEnv scope env.globals cl [(".0", it)] (env.qual ++ "<genexpr>.") none code none bi >>= fun cenv => newGenerator (.compStart (gx2E elt t0 i0 t1 i1 scope pos) 0 it .none cenv) "<genexpr>" (env.qual ++ "<genexpr>")) := by
  rw [arm_eval_GeneratorExp]; simp only [hco, Bool.false_eq_true, if_false]; cases i0 <;> rfl
theorem wpAny_gx2_make {M : Model} {A : Around} {E : Value → Shared → Prop} {s : Shared} {env : Env} {elt target iter t1 i1 : Expr} {scope : Scope} {cl : List (Str × Addr)} {pos : Pos} {Q : Value → Shared → Prop}
    (hco : scope.isCoroutine = false) (hclos : closureFor scope env = pure cl) (hcell : ∀ y ∈ scope.names, y.2 ≠ .cell) (h0 : scope.names.lookup (".0" : Str) = some NameKind.local) (hkind : scope.kind = .function) (hroom : A.depth < recursionLimit)
    (h : wpAny M A (eval iter env) (fun xv s₁ => wpAny M A (pyIter xv) (fun it s₂ => s₂.heap.NoLimit ∧ wpAny M A (genexprCode env pos (env.qual ++ "<genexpr>") scope) (fun code s₃ => wpAny M A (builtinsFor env.globals env.builtins) (fun bi s₄ =>
        ∀ h', h'.Ns s₄.heap.objs.size (fun y => if y = ".0" then some it else none) → Heap.SameBut s₄.heap.objs.size (s₄.heap.push { cls := .type "frame", data := .dict #[] }) h' →
          Q (.ref h'.objs.size) { s₄ with gens := s₄.gens.push (.fresh (.compStart (gx2E elt target iter t1 i1 scope pos) 0 it .none (genEnv scope cl s₄.heap.objs.size code bi env))), toks := s₄.toks + 1 + 1 + 1, heap := h'.push { cls := .type "generator", data := .fields #[.int s₄.gens.size 0, .str "<genexpr>" (s₄.toks + 1), .str (env.qual ++ "<genexpr>") (s₄.toks + 1 + 1)] } }) E s₃) E s₂) E s₁) E s)
    (hs : ∀ x, genFold iter env x = pure x) : wpAny M A (eval (gx2E elt target iter t1 i1 scope pos) env) Q E s := by
  rw [eval_gx2 _ _ _ _ _ _ _ _ hco, hclos]
  refine wpAny_bind (wpAny_mono h (fun xv s₁ h₁ => ?_) fun _ _ z => z)
  refine wpAny_bind (wpAny_standAt (wpAny_bind (wpAny_of_eq (hs xv) (wpAny_bind (wpAny_holding (wpAny_mono h₁ (fun it s₂ h₂ => ?_) fun _ _ z => z))))))
  refine wpAny_bind (wpAny_enterFrame h₂.1 hroom (wpAny_bind (wpAny_pure (wpAny_bind (wpAny_mono h₂.2 (fun code s₃ h₃ => ?_) fun _ _ z => z)))))
  refine wpAny_bind (wpAny_mono h₃ (fun bi s₄ h₄ => ?_) fun _ _ z => z)
  have hb : ∀ y ∈ ([((".0" : Str), it)] : List (Str × Value)), scope.names.lookup y.1 = some NameKind.local := fun y hy => by rw [List.mem_singleton.mp hy]; exact h0
  refine wpAny_bind (wpAny_newFunctionEnv hcell hb (fun h' hn' hs' => ?_) hkind)
  have e : (fun y : Str => ([((".0" : Str), it)] : List (Str × Value)).reverse.lookup y) = fun y : Str => if y = (".0" : Str) then some it else none := funext fun y => by
    by_cases hy : y = ".0"
    · subst hy; simp
    · have q : (y == (".0" : Str)) = false := by simpa using hy
      simp [List.lookup, q, hy]
  rw [e] at hn'
  simp only [newGenerator, newFields]; refine wpAny_bind (wpAny_newGen (wpAny_bind (wpAny_mkText (wpAny_bind (wpAny_mkText (wpAny_newObj_type ?_ (by size_fits)))))))
  exact h₄ h' hn' hs'
def GxI2 {C : Type} (J : It) (g0 : TG) (wi1 : TI) (g1 : TG) (te : TE) (vs vs1 : List Nat) (σ : St) (H0 : Hp) (c0 : C) (fin : C → Hp → Prop) (step : C → V → Hp → (C → Prop) → Prop) : Prop := ∃ W : Nat → Nat → C → Hp → Prop, (∃ m, W 0 m c0 H0) ∧ GxT2 J g0 wi1 g1 te vs vs1 σ fin step W
/-- at a stands one of two clauses, not begun -/
def GxMade2 (X : Cx) (pins : List (Addr × Obj)) (σ : St) (elt tg iter t1 i1 : Expr) (scope : Scope) (pos : Pos) (Rr : It → Hp → Prop) (a : Addr) (s5 : Shared) : Prop :=
  ∃ (g : Nat) (go : Obj) (it : Addr) (fp : List Addr) (tn : Nat → Heap → Prop) (J : It) (H2 : Hp) (s4 : Shared) (code : Value) (m : Str → Option Value),
    Inv X pins σ H2 s4 ∧ (∀ b ∈ fp, FpOk X pins H2 b ∧ b < s4.heap.objs.size) ∧ Turn X.prog X.w X.K tg J fp it tn ∧ tn 0 s4.heap ∧ Rr J H2 ∧ (∀ h : Heap, h.get? a = some go → h.IsGen a g) ∧ (∀ v, go.data ≠ .cell v) ∧
    s5.heap.get? a = some go ∧ s4.heap.objs.size < a ∧ s5.gens[g]? = some (.fresh (.compStart (gx2E elt tg iter t1 i1 scope pos) 0 (.ref it) .none (genEnv scope (cloFrom X.env.cells scope.names []) s4.heap.objs.size code builtinsNs X.env))) ∧
    s5.os = s4.os ∧ AllBare s5.gens ∧ (∀ b o, s4.heap.get? b = some o → s5.heap.get? b = some o) ∧ s5.heap.Ns s4.heap.objs.size m
theorem gx_eval2 {X : Cx} {pins : List (Addr × Obj)} {σ : St} {H : Hp} {s : Shared} {k : Nat} {c P : Addr} {elt tg iter t1 i1 : Expr} {scope : Scope} {gpos : Pos} {own : List (Str × Nat)} {wi : TI} {Rr : It → Hp → Prop} {Q' : Value → Shared → Prop}
    (hr : Room k X.A) (TB : GxR.TabB X.base X.mg c P) (hcode : X.env.code = .ref c) (ok : BlkOk X.N X.env.scope scope own) (S : GxS scope) (hi : PI X tg iter wi) (hs : ∀ v, genFold iter X.env v = pure v)
    (I : Inv X pins σ H s) (h : wi σ H fun J H1 => GxR.TabG H1 P ∧ ∀ H2, GxR.Tabbed P H1 H2 → Rr J H2) (hQ : ∀ a s5, GxMade2 X pins σ elt tg iter t1 i1 scope gpos Rr a s5 → Q' (.ref a) s5) :
    wpAny (model X.prog X.w) X.A (eval (gx2E elt tg iter t1 i1 scope gpos) X.env) Q' X.xe s := by
  have gf : ∀ y ∈ scope.names, y.2 = .free → ∃ c, X.env.cells.lookup y.1 = some c := fun y hy e => (ok.free y hy e).elim (fun k => I.ok.has _ (.inl k)) (fun k => I.ok.has _ (.inr k))
  refine wpAny_gx2_make S.co (closure_ok gf) S.cell S.dot ok.kind (by have := hr.dp; omega) (thn (hi.run pins s σ H _ I h) fun xv s1 hx => thn hx fun itv s2 h2 => ?_) hs
  obtain ⟨it, fp, tn, J, H1, e, I2, T, st2, f2, ⟨ps, hP, ht⟩, q⟩ := h2
  subst e
  have hPs : s2.heap.get? P = some { cls := .none, data := .fields ps } := I2.hok P _ hP
  have cd : PySem.W.CodeHd s2.heap c P := TB.code.keeps I2.bk
  have nP : ∀ b ∈ fp, b ≠ P := fun b hb z => by
    have := (f2 b hb).1
    rw [z, hP] at this
    cases this
  have lt2 : ∀ b ∈ fp, b < s2.heap.objs.size := fun b hb => by
    obtain ⟨o, e, _⟩ := T.obj _ _ st2 b hb
    exact Heap.lt_size e
  refine ⟨I2.nolimit, ?_⟩
  have cont : ∀ (code : Value) (h3 : Heap) (tk : Nat) (H2 : Hp), GxR.Tabbed P H1 H2 → Inv X pins σ H2 { s2 with heap := h3, toks := tk } → (∀ b o, b ≠ P → s2.heap.get? b = some o → h3.get? b = some o) → s2.heap.objs.size ≤ h3.objs.size →
      wpAny (model X.prog X.w) X.A (builtinsFor X.env.globals X.env.builtins) (fun bi s₄ => ∀ h', h'.Ns s₄.heap.objs.size (fun y => if y = ".0" then some (.ref it) else none) → Heap.SameBut s₄.heap.objs.size (s₄.heap.push { cls := .type "frame", data := .dict #[] }) h' →
        Q' (.ref h'.objs.size) { s₄ with
          gens := s₄.gens.push (.fresh (.compStart (gx2E elt tg iter t1 i1 scope gpos) 0 (.ref it) .none (genEnv scope (cloFrom X.env.cells scope.names []) s₄.heap.objs.size code bi X.env))), toks := s₄.toks + 1 + 1 + 1,
          heap := h'.push { cls := .type "generator", data := .fields #[.int s₄.gens.size 0, .str "<genexpr>" (s₄.toks + 1), .str (X.env.qual ++ "<genexpr>") (s₄.toks + 1 + 1)] } }) X.xe { s2 with heap := h3, toks := tk } := by
    intro code h3 tk H2 hT J3 k3 sz3
    obtain ⟨bm, ob, e1, e2, e3, e4, e5, e6, e7, e8⟩ := TB.bm
    refine wpAny_builtinsFor (m := X.mg) (by rw [J3.ok.glob]; exact J3.mod.glob.keeps J3.bk) e1 e2 (J3.bk _ _ e5) e6 e7 e8 fun h' hn' hs' => ?_
    have sz' : h'.objs.size = h3.objs.size + 1 := by rw [hs'.1, Heap.size_push]
    have kp' : ∀ b o, h3.get? b = some o → h'.get? b = some o := fun b o e => hs'.extBut b o (Nat.ne_of_lt (Heap.lt_size e)) (Heap.get?_push_of_some _ e)
    refine hQ _ _ ⟨s2.gens.size, _, it, fp, tn, J, H2, { s2 with heap := h3, toks := tk }, code, _, J3, fun b hb => ⟨⟨?_, (f2 b hb).2⟩, Nat.lt_of_lt_of_le (lt2 b hb) sz3⟩, T, T.keep _ _ _ st2 fun b hb o e => k3 b o (nP b hb) e, q H2 hT,
      fun h e => ⟨_, _, _, e, rfl, rfl, rfl⟩, fun v z => (by cases z), Heap.get?_push_size _ rfl, ?_, Array.getElem?_push_size .., rfl, AllBare.push I2.bare rfl, fun b o e => Heap.get?_push_of_some _ (kp' b o e), hn'.push _⟩
    · rw [hT.2 b (nP b hb)]
      exact (f2 b hb).1
    · show h3.objs.size < h'.objs.size
      omega
  cases hf : codeAmong gpos ps.toList with
  | none =>
    refine wpAny_genexprCodeX hcode (cd.code hPs ht) (cd.tab hPs) hf fun c' h' tk hx hge hlt hco' _ htab' _ => ?_
    obtain ⟨o1, vs, f1, tf, fl, tg', inF, tx, tt, op, _, _, _, _, _, _, _, _, _, htr, _⟩ := hco'
    have JJ := GxR.inv_tab (h' := h') (g' := s2.gens) (d' := s2.drawn) (t' := tk) I2 hP (fun b o hb e => hx b o hb e) htab'.2 I2.bare
    exact cont _ h' tk _ ⟨⟨_, upd_same, htr⟩, fun b hb => upd_ne hb⟩ JJ (fun b o hb e => hx b o hb e) (Nat.le_trans hge (Nat.le_of_lt hlt))
  | some cv => exact wpAny_genexprCode_hit hcode (cd.code hPs ht) hf (cont cv s2.heap s2.toks H1 ⟨⟨ps, hP, ht⟩, fun _ _ => rfl⟩ I2 (fun _ _ _ e => e) (Nat.le_refl _))
/-- it may be woken for the first time -/
theorem gx_goes2 {X : Cx} {pins : List (Addr × Obj)} {σ : St} {k : Nat} {C : Type} {Ck : C → Shared → Prop} {fin : C → Hp → Prop} {step : C → V → Hp → (C → Prop) → Prop} {elt tg iter t1 i1 : Expr} {scope : Scope} {gpos : Pos} {own : List (Str × Nat)} {gg g1 : TG} {wi1 : TI} {te : TE} {vs1 : List Nat} {a : Addr} {s5 : Shared} {c0 : C} {B0 : Around}
    (hr : Room (k + 1) B0) (hB0 : B0.frames = X.A.frames) (hc : X.calm = true) (hN : X.N.Nodup) (ok : BlkOk X.N X.env.scope scope own) (S : GxS scope)
    (hg : ∀ (s : Shared) (H : Hp) (L : Addr) (cl : List (Str × Addr)) (cv : Value) (B : Around) (fp : List Addr) (pn : List (Addr × Obj)), Room k B → PG (X.gx s H (genEnv scope cl L cv builtinsNs X.env) B fp pn) tg gg)
    (hv : ∀ i ∈ vs1, i ∈ own.map (·.2)) (hs1 : ∀ e x, foldedSetIterable i1 e x = pure x)
    (hi1 : ∀ (s : Shared) (H : Hp) (L : Addr) (cl : List (Str × Addr)) (cv : Value) (B : Around) (fp : List Addr) (pn : List (Addr × Obj)), Room k B → PI (X.gx s H (genEnv scope cl L cv builtinsNs X.env) B fp pn) t1 i1 wi1)
    (hg1 : ∀ (s : Shared) (H : Hp) (L : Addr) (cl : List (Str × Addr)) (cv : Value) (B : Around) (fp : List Addr) (pn : List (Addr × Obj)), Room k B → PG (X.gx s H (genEnv scope cl L cv builtinsNs X.env) B fp pn) t1 g1)
    (he : ∀ (s : Shared) (H : Hp) (L : Addr) (cl : List (Str × Addr)) (cv : Value) (B : Around) (fp : List Addr) (pn : List (Addr × Obj)), Room k B → PE (X.gx s H (genEnv scope cl L cv builtinsNs X.env) B fp pn) elt te)
    (M : GxMade2 X pins σ elt tg iter t1 i1 scope gpos (fun J H2 => GxI2 J gg wi1 g1 te (own.map (·.2)) vs1 σ H2 c0 fin step) a s5) :
    ∃ g H2, s5.heap.IsGen a g ∧ Inv X pins σ H2 s5 ∧ a < s5.heap.objs.size ∧ ∃ gs n, s5.gens[g]? = some gs ∧ ∀ (Ss : List Addr) (s6 : Shared), (∀ S ∈ Ss, s5.heap.objs.size ≤ S) → (∀ b o, s5.heap.get? b = some o → s6.heap.get? b = some o) → (∀ S ∈ Ss, ∃ o, s6.heap.get? S = some o ∧ ∀ v, o.data ≠ .cell v) →
      s6.os = s5.os → AllBare s6.gens → Ck c0 s6 → gs.Goes (model X.prog X.w) B0 (GxEnd (GxE X pins σ Ss Ck fin)) (GxY X pins σ Ss Ck step a g) n (.send .none) s6 := by
  obtain ⟨g, go, it, fp, tn, J, H2, s4, code, m, I4, f4, T, st4, ⟨W, ⟨m0, w0⟩, turn⟩, hgo, hgc, ea, la, hgs, os5, ba5, k45, ns5⟩ := M
  have J5 : Inv X pins σ H2 s5 := I4.calm' os5 ba5 k45
  refine ⟨g, H2, hgo _ ea, J5, Heap.lt_size ea, _, m0 + 1, hgs, fun Ss s6 hSs k56 own6 os6 ba6 ck => ⟨rfl, ?_⟩⟩
  generalize hge : genEnv scope (cloFrom X.env.cells scope.names []) s4.heap.objs.size code builtinsNs X.env = ge
  have hL : ge.locals = s4.heap.objs.size := by rw [← hge]; rfl
  have hcl : ge.cells = cloFrom X.env.cells scope.names [] := by rw [← hge]; rfl
  have lt45 : s4.heap.objs.size ≤ s5.heap.objs.size := Nat.le_of_lt (Nat.lt_trans la (Heap.lt_size ea))
  have fr : (B0.over (.compLoop (gx2E elt tg iter t1 i1 scope gpos) 0 (.ref it) .none ge) []).frames = some (ge :: X.stack) := by
    show pushEnvs [ge] (pushEnvs [] B0.frames) = _
    rw [hB0, I4.ok.frames]
    rfl
  have rm : Room k (B0.over (.compLoop (gx2E elt tg iter t1 i1 scope gpos) 0 (.ref it) .none ge) []) := hr.deeper ge
  have aft : a ∉ fp := fun z => absurd (Nat.lt_trans (f4 a z).2 la) (Nat.lt_irrefl _)
  have ccl : ∀ x c, ge.cells.lookup x = some c → c < s4.heap.objs.size := fun x c e => by
    rw [hcl] at e
    rcases cloFrom_mem (PySem.mem_of_lookup e) with hm | ⟨h1, rfl⟩
    · cases hm
    · obtain ⟨c, hc⟩ := (ok.free _ h1 rfl).elim (fun k => I4.ok.has _ (.inl k)) (fun k => I4.ok.has _ (.inr k))
      rw [hc]
      exact (I4.cell _ _ hc).elim fun _ z => z.lt
  have young : ∀ b, s4.heap.objs.size < b → H2 b = none ∧ b ≠ s4.heap.objs.size ∧ b ∉ frs X.stack := fun b hb => by
    refine ⟨I4.hok.fresh (Nat.le_of_lt hb), Nat.ne_of_gt hb, fun z => ?_⟩
    rcases List.mem_cons.mp (I4.stkSub b z) with z | z
    · rw [z] at hb
      exact absurd (Nat.lt_trans hb I4.lt) (Nat.lt_irrefl _)
    · exact I4.nofs (Nat.le_of_lt hb) z
  have I6 : Inv (X.gx s4 H2 ge (B0.over (.compLoop (gx2E elt tg iter t1 i1 scope gpos) 0 (.ref it) .none ge) []) fp [(a, go)]) (pinsAt Ss s6.heap) (wipe σ (own.map (·.2))) H2 s6 := by
    refine gx_start (m := m) I4 ok S.cell hN f4 fr rm.hd hge.symm (os6.trans os5) ba6 (fun b o e => k56 b o (k45 b o e)) (ns5.keeps k56) fun p hp => ?_
    rcases List.mem_append.mp hp with z | z
    · rw [List.mem_singleton.mp z]
      obtain ⟨y1, y2, y3⟩ := young a la
      exact ⟨k56 _ _ ea, y1, y2, y3, hgc⟩
    · obtain ⟨hb, e⟩ := of_pinsAt z
      obtain ⟨o, e', d⟩ := own6 _ hb
      rw [e] at e'; cases e'
      obtain ⟨y1, y2, y3⟩ := young p.1 (Nat.lt_of_lt_of_le (Nat.lt_trans la (Heap.lt_size ea)) (hSs _ hb))
      exact ⟨e, y1, y2, y3, d⟩
  have hco : ge.scope.isCoroutine = false := by rw [← hge]; exact S.co
  have loop := gx_loop2 (own := own) (vs1 := vs1) (elt := elt) (i0 := iter) (i1 := i1) (scope := scope) (pos := gpos) (Ss := Ss) (Ck := Ck) (pins := pins) (B0 := B0) hc hco I4 (fun b hb => (f4 b hb).1) T hgo aft rfl hv (hs1 ge) (by rw [← hge]; exact hg _ _ _ _ _ _ _ _ (by rw [hge]; exact rm)) (by rw [← hge]; exact hi1 _ _ _ _ _ _ _ _ (by rw [hge]; exact rm)) (by rw [← hge]; exact hg1 _ _ _ _ _ _ _ _ (by rw [hge]; exact rm)) (by rw [← hge]; exact he _ _ _ _ _ _ _ _ (by rw [hge]; exact rm))
    (fun S hS => by
      have q := Nat.lt_of_lt_of_le (Heap.lt_size ea) (hSs S hS)
      refine ⟨Nat.le_of_lt (Nat.lt_trans la q), by rw [hL]; exact Nat.ne_of_gt (Nat.lt_trans la q), fun x c e z => ?_, fun z => ?_, Nat.ne_of_lt q⟩
      · have := ccl x c e
        rw [z] at this
        exact absurd (Nat.lt_trans this (Nat.lt_trans la q)) (Nat.lt_irrefl _)
      · exact absurd (Nat.lt_trans (f4 S z).2 (Nat.lt_trans la q)) (Nat.lt_irrefl _)) turn m0 (m0 + 1) 0 c0 s6 s6 H2 (Nat.lt_succ_self _) w0 ck I6 (T.keep _ _ _ st4 fun b _ o e => k56 b o (k45 b o e)) (fun b hb => (f4 b hb).1.1) fun S hS => (own6 S hS).elim fun o e => ⟨o, e.1⟩
  show Seg _ B0 _ _ _ s6 _ ((compStart (gx2E elt tg iter t1 i1 scope gpos) 0 (.ref it) .none ge).onRaise (leaving ge)) [] s6
  unfold compStart; rw [Sem.onRaise_eq_wrap]
  show Seg _ B0 _ _ _ s6 _ ((ask >>= _).wrap _ _ _ _) [] s6
  refine seg_bind_wrap (wpAny_askSetting ?_); split
  · exact seg_again rfl loop
  · refine seg_bind_wrap (wpAny_rule ?_)
    first
      | exact seg_bind_wrap (wpAny_standAt (seg_bind_wrap (T.self _ 0 s6 _ _ (T.keep _ _ _ st4 fun b _ o e => k56 b o (k45 b o e)) (seg_again rfl loop))))
      | (show Seg _ B0 _ _ _ s6 _ ((standAt iter.pos >>= _).wrap _ _ _ _) [] s6; exact seg_bind_wrap (wpAny_standAt (seg_bind_wrap (T.self _ 0 s6 _ _ (T.keep _ _ _ st4 fun b _ o e => k56 b o (k45 b o e)) (seg_again rfl loop)))))

def tAnyG2 (P : Addr) (wi : TI) (gg : TG) (wi1 : TI) (g1 : TG) (te : TE) (vs vs1 : List Nat) : TE := fun σ H Q => wi σ H fun J H1 => GxR.TabG H1 P ∧ ∀ H2, GxR.Tabbed P H1 H2 → GxI2 J gg wi1 g1 te vs vs1 σ H2 () (fun _ H' => Q (.bl false) H') (stepAny Q)
def tAllG2 (P : Addr) (wi : TI) (gg : TG) (wi1 : TI) (g1 : TG) (te : TE) (vs vs1 : List Nat) : TE := fun σ H Q => wi σ H fun J H1 => GxR.TabG H1 P ∧ ∀ H2, GxR.Tabbed P H1 H2 → GxI2 J gg wi1 g1 te vs vs1 σ H2 () (fun _ H' => Q (.bl true) H') (stepAll Q)
section
variable {X : Cx} {k : Nat} {c P : Addr} {elt tg iter t1 i1 : Expr} {scope : Scope} {gpos p pos : Pos} {own : List (Str × Nat)} {wi wi1 : TI} {gg g1 : TG} {te : TE} {vs1 : List Nat}
theorem pe_anyG2 (hr : Room (k + 2) X.A) (hc : X.calm = true) (hN : X.N.Nodup) (TB : GxR.TabB X.base X.mg c P) (hcode : X.env.code = .ref c) (hm : X.mg "any" = none) (ok : BlkOk X.N X.env.scope scope own) (S : GxS scope) (hi : PI X tg iter wi)
    (hg : ∀ (s : Shared) (H : Hp) (L : Addr) (cl : List (Str × Addr)) (cv : Value) (B : Around) (fp : List Addr) (pn : List (Addr × Obj)), Room k B → PG (X.gx s H (genEnv scope cl L cv builtinsNs X.env) B fp pn) tg gg)
    (hv : ∀ i ∈ vs1, i ∈ own.map (·.2))
    (hi1 : ∀ (s : Shared) (H : Hp) (L : Addr) (cl : List (Str × Addr)) (cv : Value) (B : Around) (fp : List Addr) (pn : List (Addr × Obj)), Room k B → PI (X.gx s H (genEnv scope cl L cv builtinsNs X.env) B fp pn) t1 i1 wi1)
    (hg1 : ∀ (s : Shared) (H : Hp) (L : Addr) (cl : List (Str × Addr)) (cv : Value) (B : Around) (fp : List Addr) (pn : List (Addr × Obj)), Room k B → PG (X.gx s H (genEnv scope cl L cv builtinsNs X.env) B fp pn) t1 g1)
    (he : ∀ (s : Shared) (H : Hp) (L : Addr) (cl : List (Str × Addr)) (cv : Value) (B : Around) (fp : List Addr) (pn : List (Addr × Obj)), Room k B → PE (X.gx s H (genEnv scope cl L cv builtinsNs X.env) B fp pn) elt te)
    (hgl : Gl X "any" := by rfl) (hs : ∀ v, genFold iter X.env v = pure v := by intro _; rfl) (hs1 : ∀ e x, foldedSetIterable i1 e x = pure x := by intro _ _; rfl)
    (hst : starEach [gx2E elt tg iter t1 i1 scope gpos] X.env = (false, eval (gx2E elt tg iter t1 i1 scope gpos) X.env) :: starEach [] X.env := by rfl) :
    PE X (.Call (.Name "any" p) [gx2E elt tg iter t1 i1 scope gpos] [] pos) (tAnyG2 P wi gg wi1 g1 te (own.map (·.2)) vs1) := by
  refine ⟨fun pins s σ H Q I h => wpAny_Call_Name_kw (ld_blt I hgl hm boot_any (PyProof.Rows.callWith_builtin1 ?_ hst (by rfl)))⟩
  rw [hst]
  show wpAny _ _ (spliced ((false, eval (gx2E elt tg iter t1 i1 scope gpos) X.env) :: backTo pos (starEach [] X.env))) _ _ s
  refine Calls.spliced_cons (gx_eval2 hr TB hcode ok S hi hs I h fun a s5 M => Calls.spliced_nil ?_)
  obtain ⟨g, H2, hg5, I5, la, gs, n, hgs, goes⟩ := gx_goes2 (Ck := fun (_ : Unit) _ => True) (B0 := X.A.in1.in1) ⟨hr.hd, by have := hr.dp; show X.A.depth + 3 * (k + 1) + 5 < _; omega, by have := hr.un; show X.A.units + 1 + 1 + 16 * (k + 1) + 200 < _; omega⟩ rfl hc hN ok S hg hv hs1 hi1 hg1 he M
  refine call_function_tree F.kind_any F.plain_any F.entry_any (F.args_any1 _) ?_
  unfold Builtin.«any»; refine wpAny_bind (m := oneArg "any" _) (wpAny_pure (wpAny_bind (wpAny_pyIter_gen hg5 (wpAny_pure ⟨plainId_quiet F.plain_any_loop _, codeAny_mono (any_run (Q := Q) hr.hd (by have := hr.dp; omega) n s5 hg5 I5.nolimit ⟨gs, hgs, goes [] _ (fun _ z => absurd z (by simp)) (fun _ _ e => e) (fun _ z => absurd z (by simp)) rfl (allBare_set I5.bare rfl) trivial⟩) fun r s' ⟨b, H', e, J, q⟩ => ?_⟩))))
  subst e
  exact ⟨.bl b, H', J, rfl, q⟩
theorem pe_allG2 (hr : Room (k + 2) X.A) (hc : X.calm = true) (hN : X.N.Nodup) (TB : GxR.TabB X.base X.mg c P) (hcode : X.env.code = .ref c) (hm : X.mg "all" = none) (ok : BlkOk X.N X.env.scope scope own) (S : GxS scope) (hi : PI X tg iter wi)
    (hg : ∀ (s : Shared) (H : Hp) (L : Addr) (cl : List (Str × Addr)) (cv : Value) (B : Around) (fp : List Addr) (pn : List (Addr × Obj)), Room k B → PG (X.gx s H (genEnv scope cl L cv builtinsNs X.env) B fp pn) tg gg)
    (hv : ∀ i ∈ vs1, i ∈ own.map (·.2))
    (hi1 : ∀ (s : Shared) (H : Hp) (L : Addr) (cl : List (Str × Addr)) (cv : Value) (B : Around) (fp : List Addr) (pn : List (Addr × Obj)), Room k B → PI (X.gx s H (genEnv scope cl L cv builtinsNs X.env) B fp pn) t1 i1 wi1)
    (hg1 : ∀ (s : Shared) (H : Hp) (L : Addr) (cl : List (Str × Addr)) (cv : Value) (B : Around) (fp : List Addr) (pn : List (Addr × Obj)), Room k B → PG (X.gx s H (genEnv scope cl L cv builtinsNs X.env) B fp pn) t1 g1)
    (he : ∀ (s : Shared) (H : Hp) (L : Addr) (cl : List (Str × Addr)) (cv : Value) (B : Around) (fp : List Addr) (pn : List (Addr × Obj)), Room k B → PE (X.gx s H (genEnv scope cl L cv builtinsNs X.env) B fp pn) elt te)
    (hgl : Gl X "all" := by rfl) (hb : bootBuiltins "all" = some (.builtin "all") := by rfl) (hs : ∀ v, genFold iter X.env v = pure v := by intro _; rfl) (hs1 : ∀ e x, foldedSetIterable i1 e x = pure x := by intro _ _; rfl)
    (hst : starEach [gx2E elt tg iter t1 i1 scope gpos] X.env = (false, eval (gx2E elt tg iter t1 i1 scope gpos) X.env) :: starEach [] X.env := by rfl) :
    PE X (.Call (.Name "all" p) [gx2E elt tg iter t1 i1 scope gpos] [] pos) (tAllG2 P wi gg wi1 g1 te (own.map (·.2)) vs1) := by
  refine ⟨fun pins s σ H Q I h => wpAny_Call_Name_kw (ld_blt I hgl hm hb (PyProof.Rows.callWith_builtin1 ?_ hst (by rfl)))⟩
  rw [hst]
  show wpAny _ _ (spliced ((false, eval (gx2E elt tg iter t1 i1 scope gpos) X.env) :: backTo pos (starEach [] X.env))) _ _ s
  refine Calls.spliced_cons (gx_eval2 hr TB hcode ok S hi hs I h fun a s5 M => Calls.spliced_nil ?_)
  obtain ⟨g, H2, hg5, I5, la, gs, n, hgs, goes⟩ := gx_goes2 (Ck := fun (_ : Unit) _ => True) (B0 := X.A.in1.in1) ⟨hr.hd, by have := hr.dp; show X.A.depth + 3 * (k + 1) + 5 < _; omega, by have := hr.un; show X.A.units + 1 + 1 + 16 * (k + 1) + 200 < _; omega⟩ rfl hc hN ok S hg hv hs1 hi1 hg1 he M
  refine call_function_tree F.kind_all F.plain_all F.entry_all (F.args_all1 _) ?_
  unfold Builtin.«all»; refine wpAny_bind (m := oneArg "all" _) (wpAny_pure (wpAny_bind (wpAny_pyIter_gen hg5 (wpAny_pure ⟨plainId_quiet F.plain_all_loop _, codeAny_mono (all_run (Q := Q) hr.hd (by have := hr.dp; omega) n s5 hg5 I5.nolimit ⟨gs, hgs, goes [] _ (fun _ z => absurd z (by simp)) (fun _ _ e => e) (fun _ z => absurd z (by simp)) rfl (allBare_set I5.bare rfl) trivial⟩) fun r s' ⟨b, H', e, J, q⟩ => ?_⟩))))
  subst e
  exact ⟨.bl b, H', J, rfl, q⟩
end
end L2
/-! ### all that is known stays, but tables of code objects, which grow -/
namespace Evt
open PySem L2
def ExO (o : HO) (x : Option HO) : Prop := match o with
  | .tbl ps => ∃ qs, x = some (.tbl qs) ∧ (TriplesOk ps.toList → TriplesOk qs.toList)
  | o => x = some o
def Ex (H H' : Hp) : Prop := ∀ a o, H a = some o → ExO o (H' a)
theorem exo_same (o : HO) : ExO o (some o) := by
  cases o with
  | tbl ps => exact ⟨ps, rfl, fun h => h⟩
  | _ => rfl
theorem exo_of {o : HO} {x : Option HO} (h : x = some o) : ExO o x := h ▸ exo_same o
theorem Ex.refl (G : Hp) : Ex G G := fun a o e => exo_of e
theorem Ex.trans {G1 G2 G3 : Hp} (a : Ex G1 G2) (b : Ex G2 G3) : Ex G1 G3 := fun x o h => by
  have h1 := a x o h
  cases o with
  | tbl ps =>
    obtain ⟨qs, e, t⟩ := h1
    obtain ⟨rs, e2, t2⟩ := b x _ e
    exact ⟨rs, e2, fun z => t2 (t z)⟩
  | _ => exact b x _ h1
theorem exo_some {o : HO} {x : Option HO} (h : ExO o x) : ∃ u, x = some u := by
  cases o with
  | tbl ps =>
    obtain ⟨qs, e, _⟩ := h
    exact ⟨_, e⟩
  | _ => exact ⟨_, h⟩
theorem Ex.new {G : Hp} {p : Addr} {o : HO} (h : G p = none) : Ex G (upd G p o) := fun a u e => exo_of (by rw [upd_ne (ne_of_none e h)]; exact e)
theorem Ex.mut {G G' : Hp} {p : Addr} {o : HO} (e : Ex G G') (h : G p = none) : Ex G (upd G' p o) := fun a u ha => by
  have q := e a u ha
  rw [upd_ne (ne_of_none ha h)]
  exact q
theorem fresh_back {G G' : Hp} {p : Addr} (e : Ex G G') (h : G' p = none) : G p = none := by
  cases q : G p with
  | none => rfl
  | some o =>
    obtain ⟨u, z⟩ := exo_some (e p o q)
    rw [z] at h
    cases h
theorem ex_chg {H H' H'' : Hp} {l : Addr} (e : Ex H H') (hl : H l = none) (k : ∀ a, a ≠ l → H'' a = H' a) : Ex H H'' := fun a o h => by
  have q := e a o h
  rw [k a (ne_of_none h hl)]
  exact q
theorem ex_l {K : PySem.W.Frag} {H H' : Hp} {a : Addr} {xs : List V} (e : Ex H H') (h : SqL K H a xs) : SqL K H' a xs := by
  rcases h with (h | ⟨o, h⟩) | h
  · exact .inl (.inl (e a _ h))
  · exact .inl (.inr ⟨o, e a _ h⟩)
  · exact .inr h
theorem sq_of {K : PySem.W.Frag} {G : Hp} {a : Addr} {xs : List V} (h : G a = some (.lst xs)) : SqL K G a xs := .inl (.inl h)
theorem st_of {K : PySem.W.Frag} {G : Hp} {a : Addr} {xs : List V} (h : G a = some (.tup xs)) : SqT K G a xs := .inl (.inl h)
theorem sz_of {n : Nat} : n ≤ 100000 → n ≤ sizeLine := fun h => Nat.le_trans h (by decide)
theorem sz_lt {n : Nat} : n < 100000 → n < sizeLine := fun h => Nat.lt_of_lt_of_le h (by decide)
def RetL (xs : List V) (G : Hp) (Q : VK) : Prop := ∀ p G2, G p = none → Ex G G2 → G2 p = some (.lst xs) → Q (.ref p) G2
def RetV (v : V) (G : Hp) (Q : VK) : Prop := ∀ G2, Ex G G2 → Q v G2
theorem Ex.tab {H H' : Hp} {P : Addr} (e : Ex H H') (h : GxR.TabG H P) : GxR.TabG H' P := by
  obtain ⟨ps, h1, h2⟩ := h
  obtain ⟨qs, e1, e2⟩ := e P _ h1
  exact ⟨qs, e1, e2 h2⟩
theorem ex_tabbed {H H' : Hp} {P : Addr} (h : GxR.TabG H P) (t : GxR.Tabbed P H H') : Ex H H' := fun a o e => by
  by_cases z : a = P
  · subst z
    obtain ⟨ps, h1, h2⟩ := h
    rw [h1] at e
    cases e
    obtain ⟨qs, g1, g2⟩ := t.1
    exact ⟨qs, g1, fun _ => g2⟩
  · rw [t.2 a z]
    exact exo_of e
end Evt
namespace FW
/-- the sum of f 0 .. f (n - 1) -/
def S (f : Nat → Int) : Nat → Int
  | 0 => 0
  | n + 1 => S f n + f n
def tri : Nat → Int
  | 0 => 0
  | n + 1 => tri n + ((n : Int) + 1)
theorem S_le {f g : Nat → Int} : ∀ {n : Nat}, (∀ i, i < n → f i ≤ g i) → S f n ≤ S g n
  | 0, _ => Int.le_refl _
  | n + 1, h => by
    have h1 := S_le (n := n) (fun i hi => h i (by omega))
    have h2 := h n (by omega)
    show S f n + f n ≤ S g n + g n
    omega
theorem S_congr {f g : Nat → Int} {n : Nat} (h : ∀ i, i < n → f i = g i) : S f n = S g n :=
  Int.le_antisymm (S_le fun i hi => Int.le_of_eq (h i hi)) (S_le fun i hi => Int.le_of_eq (h i hi).symm)
theorem S_first (f : Nat → Int) : ∀ n : Nat, S f (n + 1) = f 0 + S (fun i => f (i + 1)) n
  | 0 => by
    show 0 + f 0 = f 0 + 0
    omega
  | n + 1 => by
    have h := S_first f n
    show S f (n + 1) + f (n + 1) = f 0 + (S (fun i => f (i + 1)) n + f (n + 1))
    omega
theorem S_ones : ∀ n : Nat, S (fun _ => 1) n = n
  | 0 => rfl
  | n + 1 => by
    have h := S_ones n
    show S (fun _ => 1) n + 1 = ((n + 1 : Nat) : Int)
    omega
theorem tri_two : ∀ n : Nat, 2 * tri n = (n : Int) * ((n : Int) + 1)
  | 0 => rfl
  | n + 1 => by
    have h := tri_two n
    show 2 * (tri n + ((n : Int) + 1)) = ((n + 1 : Nat) : Int) * (((n + 1 : Nat) : Int) + 1)
    have e1 : ((n + 1 : Nat) : Int) = (n : Int) + 1 := by omega
    rw [e1, Int.mul_add, h]
    generalize (n : Int) = z
    have e2 : (z + 1) * (z + 1 + 1) = z * (z + 1) + (z + 1) + (z + 1) := by
      simp only [Int.add_mul, Int.mul_add]
      omega
    rw [e2]
    omega
theorem tri_sq (n : Nat) : tri n + tri (n + 1) = ((n : Int) + 1) * ((n : Int) + 1) := by
  have h := tri_two n
  show tri n + (tri n + ((n : Int) + 1)) = _
  generalize (n : Int) = z at *
  have e : (z + 1) * (z + 1) = z * (z + 1) + (z + 1) := by
    simp only [Int.add_mul, Int.mul_add]
    omega
  omega
theorem tri_nn : ∀ n : Nat, 0 ≤ tri n
  | 0 => Int.le_refl _
  | n + 1 => by
    have h := tri_nn n
    show 0 ≤ tri n + ((n : Int) + 1)
    omega
/-- G (n - 0) + G (n - 1) + .. + G 1 -/
theorem S_down (G : Int) : ∀ n : Nat, S (fun i => G * ((n : Int) - (i : Int))) n = G * tri n
  | 0 => by
    show (0 : Int) = G * 0
    omega
  | n + 1 => by
    have h := S_down G n
    rw [S_first]
    have e : S (fun i => G * (((n + 1 : Nat) : Int) - ((i + 1 : Nat) : Int))) n = S (fun i => G * ((n : Int) - (i : Int))) n := S_congr fun i _ => by
      have e1 : ((n + 1 : Nat) : Int) - ((i + 1 : Nat) : Int) = (n : Int) - (i : Int) := by omega
      rw [e1]
    rw [e, h]
    show G * (((n + 1 : Nat) : Int) - ((0 : Nat) : Int)) + G * tri n = G * (tri n + ((n : Int) + 1))
    have e2 : ((n + 1 : Nat) : Int) - ((0 : Nat) : Int) = (n : Int) + 1 := by omega
    rw [e2, Int.mul_add G (tri n)]
    omega
/-- (x - G) + (x - 2 G) + .. + (x - n G) -/
theorem S_fall (G x : Int) : ∀ n : Nat, S (fun i => x - G * ((i : Int) + 1)) n = x * (n : Int) - G * tri n
  | 0 => by
    show (0 : Int) = x * ((0 : Nat) : Int) - G * 0
    simp
  | n + 1 => by
    have h := S_fall G x n
    show S (fun i => x - G * ((i : Int) + 1)) n + (x - G * ((n : Int) + 1)) = x * ((n + 1 : Nat) : Int) - G * (tri n + ((n : Int) + 1))
    have e1 : ((n + 1 : Nat) : Int) = (n : Int) + 1 := by omega
    rw [h, e1, Int.mul_add G (tri n), Int.mul_add x]
    omega

/-- the greatest sum of m steps behind a step s -/
def top (P G s : Int) (m i : Nat) : Int := min (min P (s + G * ((i : Int) + 1))) (G * ((m : Int) - (i : Int)))
def U (P G s : Int) (m : Nat) : Int := S (top P G s m) m
section
variable {P G s L : Int}
theorem pos_mul {a b : Int} (ha : 1 ≤ a) (hb : 1 ≤ b) : 1 ≤ a * b := by
  have h : 0 < a * b := Int.mul_pos (by omega) (by omega)
  omega
theorem U_ge (hP : 1 ≤ P) (hG : 1 ≤ G) (hs : 0 ≤ s) (m : Nat) : (m : Int) ≤ U P G s m := by
  rw [← S_ones m]
  refine S_le fun i hi => ?_
  have h1 : 1 ≤ G * ((i : Int) + 1) := pos_mul hG (by omega)
  have h2 : 1 ≤ G * ((m : Int) - (i : Int)) := pos_mul hG (by omega)
  unfold top
  omega
theorem U_le_tri (m : Nat) : U P G s m ≤ G * tri m := by
  rw [← S_down G m]
  refine S_le fun i _ => ?_
  unfold top
  omega
/-- what holds with m steps to go, behind a step s, L still to be gone -/
structure Go (P G s : Int) (m : Nat) (L : Int) : Prop where
  s0 : 0 ≤ s
  sP : s ≤ P
  most : L ≤ U P G s m
  fewest : ∀ b, m = b + 1 → U P G s b < L
  least : s * (m : Int) - G * tri m ≤ L
def next (P G s : Int) (b : Nat) (L : Int) : Int := min (min P (s + G)) ((L + G * tri b) / ((b : Int) + 1))
structure Good (P G s : Int) (b : Nat) (L x : Int) : Prop where
  x1 : 1 ≤ x
  xP : x ≤ P
  up : x ≤ s + G
  down : s - G ≤ x
  end_ : x ≤ G * ((b : Int) + 1)
  great : x = P ∨ x = s + G ∨ L < (x + 1) * ((b : Int) + 1) - G * tri b
  go : Go P G x b (L - x)
theorem le_of_mul {a b c : Int} (hc : 0 < c) (h : a * c ≤ b * c) : a ≤ b := Int.le_of_mul_le_mul_right h hc
theorem next_good (hP : 1 ≤ P) (hG : 1 ≤ G) {b : Nat} (I : Go P G s (b + 1) L) : Good P G s b L (next P G s b L) := by
  obtain ⟨s0, sP, most, fewest, least⟩ := I
  have few := fewest b rfl
  have hm : (0 : Int) < (b : Int) + 1 := by omega
  have q1 : (L + G * tri b) / ((b : Int) + 1) * ((b : Int) + 1) ≤ L + G * tri b := Int.ediv_mul_le _ (by omega)
  have q2 : L + G * tri b < ((L + G * tri b) / ((b : Int) + 1) + 1) * ((b : Int) + 1) := Int.lt_ediv_add_one_mul_self _ hm
  have qge : ∀ z : Int, z * ((b : Int) + 1) ≤ L + G * tri b → z ≤ (L + G * tri b) / ((b : Int) + 1) := fun z hz => (Int.le_ediv_iff_mul_le hm).mpr hz
  have hx : next P G s b L = min (min P (s + G)) ((L + G * tri b) / ((b : Int) + 1)) := rfl
  generalize (L + G * tri b) / ((b : Int) + 1) = q at *
  generalize next P G s b L = x at *
  have xq : x ≤ q := by omega
  have xP : x ≤ P := by omega
  have xs : x ≤ s + G := by omega
  have eT : tri (b + 1) = tri b + ((b : Int) + 1) := rfl
  have GT : G * tri (b + 1) = G * tri b + G * ((b : Int) + 1) := by rw [eT, Int.mul_add]
  have tnn := tri_nn b
  have Gt : 0 ≤ G * tri b := Int.mul_nonneg (by omega) tnn
  have xm : x * ((b : Int) + 1) ≤ L + G * tri b := Int.le_trans (Int.mul_le_mul_of_nonneg_right xq (by omega)) q1
  have ub := U_ge hP hG s0 b
  have lo1 : 1 ≤ q := qge 1 (by omega)
  have x1 : 1 ≤ x := by omega
  have cb : ((b + 1 : Nat) : Int) = (b : Int) + 1 := by omega
  rw [cb] at least
  have lo2 : s - G ≤ q := qge _ (by
    rw [Int.sub_mul]
    rw [GT] at least
    omega)
  have uT : U P G s (b + 1) ≤ G * tri (b + 1) := U_le_tri _
  have sq := tri_sq b
  have Gsq : G * tri b + G * tri (b + 1) = G * ((b : Int) + 1) * ((b : Int) + 1) := by
    rw [← Int.mul_add, sq, Int.mul_assoc]
  have xe : x ≤ G * ((b : Int) + 1) := le_of_mul hm (by omega)
  have xb : x * ((b : Int) + 1) = x * (b : Int) + x := by rw [Int.mul_add, Int.mul_one]
  refine ⟨x1, xP, xs, by omega, xe, ?_, ?_⟩
  · by_cases h1 : x = P
    · exact .inl h1
    · by_cases h2 : x = s + G
      · exact .inr (.inl h2)
      · have e : x = q := by omega
        subst e
        exact .inr (.inr (by omega))
  · refine ⟨by omega, xP, ?_, ?_, by omega⟩
    · by_cases h : x = P ∨ x = s + G
      · -- the first two
        have e1 : U P G s (b + 1) = top P G s (b + 1) 0 + S (fun i => top P G s (b + 1) (i + 1)) b := S_first _ _
        have e2 : top P G s (b + 1) 0 ≤ x := by
          unfold top
          have : s + G * (((0 : Nat) : Int) + 1) = s + G := by simp
          omega
        have e3 : S (fun i => top P G s (b + 1) (i + 1)) b ≤ U P G x b := S_le fun i hi => by
          unfold top
          have c1 : ((b + 1 : Nat) : Int) - ((i + 1 : Nat) : Int) = (b : Int) - (i : Int) := by omega
          have c2 : ((i + 1 : Nat) : Int) + 1 = ((i : Int) + 1) + 1 := by omega
          rw [c1, c2, Int.mul_add G ((i : Int) + 1) 1, Int.mul_one]
          have p1 : 1 ≤ G * ((i : Int) + 1) := pos_mul hG (by omega)
          omega
        omega
      · have e : x = q := by omega
        subst e
        have ex : (x + 1) * ((b : Int) + 1) = x * (b : Int) + x + ((b : Int) + 1) := by
          rw [Int.add_mul, Int.one_mul, xb]
        by_cases hl : x = G * ((b : Int) + 1)
        · have e1 : G * tri b ≤ U P G x b := by
            rw [← S_down G b]
            refine S_le fun i hi => ?_
            unfold top
            have m1 : G * ((b : Int) - (i : Int)) ≤ G * ((b : Int) + 1) := Int.mul_le_mul_of_nonneg_left (by omega) (by omega)
            have p1 : 1 ≤ G * ((i : Int) + 1) := pos_mul hG (by omega)
            omega
          omega
        · have e1 : (x + 1) * (b : Int) - G * tri b ≤ U P G x b := by
            rw [← S_fall G (x + 1) b]
            refine S_le fun i hi => ?_
            unfold top
            have p1 : 1 ≤ G * ((i : Int) + 1) := pos_mul hG (by omega)
            have c : G * ((b : Int) - (i : Int)) = G * ((b : Int) + 1) - G * ((i : Int) + 1) := by
              rw [← Int.mul_sub]
              congr 1
              omega
            omega
          rw [Int.add_mul, Int.one_mul] at e1
          omega
    · intro c hc
      subst hc
      have cb2 : ((c + 1 : Nat) : Int) = (c : Int) + 1 := by omega
      have xc : x * ((c + 1 : Nat) : Int) = x * ((c : Int) + 1) := by rw [cb2]
      by_cases hl : x ≤ G * ((c : Int) + 1)
      · have e1 : U P G s (c + 1) = top P G s (c + 1) 0 + S (fun i => top P G s (c + 1) (i + 1)) c := S_first _ _
        have e2 : x ≤ top P G s (c + 1) 0 := by
          unfold top
          have c1 : s + G * (((0 : Nat) : Int) + 1) = s + G := by simp
          have c2 : ((c + 1 : Nat) : Int) - ((0 : Nat) : Int) = (c : Int) + 1 := by omega
          rw [c1, c2]
          omega
        have e3 : U P G x c ≤ S (fun i => top P G s (c + 1) (i + 1)) c := S_le fun i hi => by
          unfold top
          have c1 : ((c + 1 : Nat) : Int) - ((i + 1 : Nat) : Int) = (c : Int) - (i : Int) := by omega
          have c2 : ((i + 1 : Nat) : Int) + 1 = ((i : Int) + 1) + 1 := by omega
          rw [c1, c2, Int.mul_add G ((i : Int) + 1) 1, Int.mul_one]
          omega
        omega
      · have u2 : U P G x c ≤ G * tri c := U_le_tri _
        have sq2 := tri_sq c
        have Gsq2 : G * tri c + G * tri (c + 1) = G * ((c : Int) + 1) * ((c : Int) + 1) := by
          rw [← Int.mul_add, sq2, Int.mul_assoc]
        have xl : (G * ((c : Int) + 1) + 1) * ((c : Int) + 1) ≤ x * ((c : Int) + 1) := Int.mul_le_mul_of_nonneg_right (by omega) (by omega)
        rw [Int.add_mul, Int.one_mul] at xl
        omega
/-- the row of steps -/
def row (P G : Int) : Nat → Int → Int → List Int
  | 0, _, _ => []
  | b + 1, s, L => next P G s b L :: row P G b (next P G s b L) (L - next P G s b L)
theorem row_len : ∀ (m : Nat) (s L : Int), (row P G m s L).length = m
  | 0, _, _ => rfl
  | b + 1, s, L => by
    show (row P G b _ _).length + 1 = b + 1
    rw [row_len b]
theorem Go.zero (I : Go P G s 0 L) : L = 0 := by
  have h1 := I.most
  have h2 := I.least
  have e1 : U P G s 0 = 0 := rfl
  have e2 : s * ((0 : Nat) : Int) - G * tri 0 = 0 := by
    show s * 0 - G * 0 = 0
    omega
  omega
theorem row_sum (hP : 1 ≤ P) (hG : 1 ≤ G) : ∀ (m : Nat) (s L : Int), Go P G s m L → (row P G m s L).sum = L
  | 0, s, L, I => by
    rw [I.zero]
    rfl
  | b + 1, s, L, I => by
    have g := next_good hP hG I
    have ih := row_sum hP hG b _ _ g.go
    show (next P G s b L :: row P G b _ _).sum = L
    rw [List.sum_cons, ih]
    omega
/-! ### the reach -/
/-- by the middle: f 1, f 1, f 2, f 2, .. -/
theorem S_mid : ∀ (n : Nat) (f : Nat → Int), S (fun i => f (min (i + 1) (n - i))) n = S (fun j => f ((j + 2) / 2)) n
  | 0, _ => rfl
  | 1, f => rfl
  | n + 2, f => by
    have ih := S_mid n (fun k => f (k + 1))
    have e1 : S (fun i => f (min (i + 1) (n + 2 - i))) (n + 2) = f 1 + S (fun i => f (min (i + 1) (n - i) + 1)) n + f 1 := by
      show S (fun i => f (min (i + 1) (n + 2 - i))) (n + 1) + f (min (n + 1 + 1) (n + 2 - (n + 1))) = _
      rw [S_first]
      have a1 : min (n + 1 + 1) (n + 2 - (n + 1)) = 1 := by omega
      have a2 : min (0 + 1) (n + 2 - 0) = 1 := by omega
      rw [a1, a2]
      have a3 : S (fun i => f (min (i + 1 + 1) (n + 2 - (i + 1)))) n = S (fun i => f (min (i + 1) (n - i) + 1)) n := S_congr fun i hi => by
        congr 1
        omega
      rw [a3]
    have e2 : S (fun j => f ((j + 2) / 2)) (n + 2) = f 1 + (f 1 + S (fun j => f ((j + 2) / 2 + 1)) n) := by
      rw [S_first, S_first]
      have a3 : S (fun i => f ((i + 1 + 1 + 2) / 2)) n = S (fun j => f ((j + 2) / 2 + 1)) n := S_congr fun i hi => by
        congr 1
        omega
      rw [a3]
    rw [e1, e2, ih]
    omega
/-- what one more step adds -/
def added (P G : Int) (j : Nat) : Int := min P (G * (((j : Int) + 1) / 2))
theorem U_reach (P G : Int) (hP : 0 ≤ P) (hG : 0 ≤ G) (n : Nat) : U P G 0 n = S (added P G) (n + 1) := by
  rw [S_first]
  have a0 : added P G 0 = 0 := by
    unfold added
    show min P (G * ((0 + 1) / 2)) = 0
    have : ((0 : Int) + 1) / 2 = 0 := by decide
    rw [this]
    omega
  rw [a0, Int.zero_add]
  have e1 : U P G 0 n = S (fun i => (fun k : Nat => min P (G * (k : Int))) (min (i + 1) (n - i))) n := S_congr fun i hi => by
    unfold top
    show min (min P (0 + G * ((i : Int) + 1))) (G * ((n : Int) - (i : Int))) = min P (G * ((min (i + 1) (n - i) : Nat) : Int))
    by_cases h : i + 1 ≤ n - i
    · have c : min (i + 1) (n - i) = i + 1 := by omega
      have m1 : G * ((i : Int) + 1) ≤ G * ((n : Int) - (i : Int)) := Int.mul_le_mul_of_nonneg_left (by omega) hG
      rw [c]
      have c2 : ((i + 1 : Nat) : Int) = (i : Int) + 1 := by omega
      rw [c2]
      omega
    · have c : min (i + 1) (n - i) = n - i := by omega
      have m1 : G * ((n : Int) - (i : Int)) ≤ G * ((i : Int) + 1) := Int.mul_le_mul_of_nonneg_left (by omega) hG
      rw [c]
      have c2 : ((n - i : Nat) : Int) = (n : Int) - (i : Int) := by omega
      rw [c2]
      omega
  rw [e1]
  refine (S_mid n (fun k : Nat => min P (G * (k : Int)))).trans ?_
  refine S_congr fun i _ => ?_
  unfold added
  show min P (G * (((i + 2) / 2 : Nat) : Int)) = min P (G * ((((i + 1 : Nat) : Int) + 1) / 2))
  have c : (((i + 2) / 2 : Nat) : Int) = (((i + 1 : Nat) : Int) + 1) / 2 := by omega
  rw [c]
theorem go_start (hP : 1 ≤ P) (hG : 1 ≤ G) {n : Nat} {d : Int} (hd : 0 ≤ d) (h1 : d ≤ U P G 0 n) (h2 : ∀ b, n = b + 1 → U P G 0 b < d) : Go P G 0 n d := by
  refine ⟨Int.le_refl _, by omega, h1, h2, ?_⟩
  have t := Int.mul_nonneg (show (0 : Int) ≤ G by omega) (tri_nn n)
  rw [Int.zero_mul]
  omega
end
end FW
/-! ### the layer of this hand: own defs by one fact each, constants of the top, the law's end with the loose names -/
namespace L2
open PySem PySem.Spec PyProof.Rows
/-- the def of the top called x keeps the promise sp -/
def Fn (P : Program) (w : World) (K : PySem.W.Frag) (mg : Str → Option Value) (base : Heap) (x : Str) (ps : List Str) (CX : CXT) (k : Nat) (sp : Sp) : Prop :=
  ∃ (f : Addr) (fd : FuncData), FnOk P w K mg base CX k f fd ps sp ∧ mg x = some (.ref f) ∧ PySem.W.keepIn K (.ref f) = true ∧ Binds K fd ps []
section
variable {X : Cx} {k : Nat} {ps : List Str} {sp : Sp} {x : Str} {p pos : Pos} {e : Expr} {es : List Expr} {t : TA} {ps : List Str}
theorem pe_fn (F : Fn X.prog X.w X.K X.mg X.base x ps CX0 k sp) (hr : Room k X.A) (ha : PA X (e :: es) t) (hg : Gl X x := by rfl) (hdb : (x == ("__debug__" : Str)) = false := by decide)
    (he : starEach (e :: es) X.env = (false, eval e X.env) :: starEach es X.env := by rfl) (hpl : (backTo pos (starEach es X.env)).any (·.1) = false := by rfl) :
    PE X (.Call (.Name x p) (e :: es) [] pos) (tCall sp [] E0 t) := by
  obtain ⟨f, fd, h1, h2, h3, h4⟩ := F
  exact pe_call h1 hr hg h2 h3 h4 .nil pass0 ha hdb he hpl
theorem pe_gint {i : Int} (h : ∃ t, X.mg x = some (.int i t)) (hg : Gl X x := by rfl) (hd : (x == ("__debug__" : Str)) = false := by decide) : PE X (.Name x pos) (tC (.int i)) := by
  obtain ⟨t, e⟩ := h
  exact pe_glob hg e ⟨_, rfl⟩ hd
end
theorem walk_ofX {l : PySem.W.OpenLaw} {n k : Nat} {q : Program} {loose : List Str} {XP : (Str → Option Value) → Heap → Prop} {YP : World → Heap → Prop} {d : DefRec} {K : Params → PySem.W.Frag} {sp : PySem.W.Frag → Sp} {x : Str}
    (hn : l.most = some n) (hn2 : n ≤ sizeLine) (hdf : d.params.defaults = []) (hr : Room k callerA)
    (hY : ∀ (w : World) (h : Heap), YP w h → (K w.params).In h)
    (F : ∀ (w : World) (mg : Str → Option Value) (fa : Addr) (h : Heap), (K w.params).In h → h.Ns mainGlobals mg → XP mg h → mg d.name = some (.ref fa) →
      ∃ fd : FuncData, (∀ (s : Shared) (u : Value), BindsTo s fd ⟨[u], []⟩ [(x, u)]) ∧
        ∀ base : Heap, (K w.params).In base → base.Ns mainGlobals mg → FnOk l.prog w (K w.params) mg base CX0 k fa fd [x] (sp (K w.params)))
    (hsp : ∀ (K : PySem.W.Frag) (H : Hp) (a : Addr) (ns : List Int), ns.length ≤ n → Only H → SqL K H a (ns.map V.int) → sp K [.ref a] H (fun v _ => v = .bl true) fun _ _ _ => False) :
    PySem.W.WalkO q loose XP YP l.row.toRowW d [] (fun f vs => PySem.call f vs) := by
  refine Att.attach_call hn hdf fun w s₀ s₁ mg mb fa o pm cd doc a vs ns G Y ho hd hcd hmg hobj hints hlen hg => ?_
  have KX := hY w _ Y
  obtain ⟨fd, hb, hF⟩ := F w mg fa _ KX G.T.g G.X hmg
  exact law_call KX G.T.g G.T.b G.T.builtins G.T.nolimit hg hobj hints (Nat.le_trans hlen hn2) hr hF hb (fun H hO hS => hsp (K w.params) H a ns hlen hO hS) fun H e s' z => z
theorem loose_int {lv : List (Str × PySem.W.WData)} {mg : Str → Option Value} {h : Heap} {q : Program} (X : PySem.W.XL q lv mg h) {x : Str} {i : Int} (hm : (x, PySem.W.WData.int i) ∈ lv) : ∃ t, mg x = some (.int i t) := by
  obtain ⟨v, e, r⟩ := X.2.val _ hm
  cases r
  exact ⟨_, e⟩
end L2
/-! ### readings, by what they come to -/
namespace L2
open PySem PySem.Spec PyProof.Rows Evt
theorem ex_upd {H : Hp} {p : Addr} {o : HO} (h : H p = none) : Ex H (upd H p o) := Ex.new h
theorem ifT {c : Bool} {A B : Prop} (hc : c = true) (h : A) : if c = true then A else B := by
  rw [if_pos hc]
  exact h
theorem ifF {c : Bool} {A B : Prop} (hc : c = false) (h : B) : if c = true then A else B := by
  rw [hc, if_neg Bool.false_ne_true]
  exact h
theorem cxK {CX : CXT} {P : Program} {w : World} {K : PySem.W.Frag} {mg : Str → Option Value} {base : Heap} {N : List Str} {q : Str} {sc : Scope} {f : Addr} {cdv : Value} {A : Around} {outer : List Env} {s : Shared} {H : Hp} {E : XK} :
    (cxOf CX P w K mg base N q sc f cdv A outer s H E).K = K := rfl
theorem isi_ty {K : PySem.W.Frag} {H : Hp} {x : V} {s n : String} {b : Bool} {Q : VK} (ht : TyX K H x (.type s)) (hk : kitB s n = some b) (q : Q (.bl b) H) : rIsi K [x, .ty n] H Q :=
  ⟨x, .ty n, .type s, .type n, b, rfl, .ty n, ht, kit_ty hk, q⟩
theorem isi_int {K : PySem.W.Frag} {H : Hp} {i : Int} {n : String} {b : Bool} {Q : VK} (hk : kitB "int" n = some b) (q : Q (.bl b) H) : rIsi K [.int i, .ty n] H Q := isi_ty (.base (.int i)) hk q
theorem min_if (a b : Int) : (if b < a then b else a) = min a b := by omega
theorem max_if (a b : Int) : (if b > a then b else a) = max a b := by omega
theorem min3_nu (a b c : Int) : nuMin3 (.int a) (.int b) (.int c) = some (.int (min (min a b) c)) := by
  unfold nuMin3 nuMin2 nuLt nuCB
  show (some (if decide (b < a) = true then V.int b else V.int a)).bind _ = _
  by_cases h : b < a
  · rw [decide_eq_true h, if_pos rfl, show min a b = b by omega]
    show some (if decide (c < b) = true then V.int c else V.int b) = _
    by_cases h2 : c < b
    · rw [decide_eq_true h2, if_pos rfl, show min b c = c by omega]
    · rw [decide_eq_false h2, if_neg Bool.false_ne_true, show min b c = b by omega]
  · rw [decide_eq_false h, if_neg Bool.false_ne_true, show min a b = a by omega]
    show some (if decide (c < a) = true then V.int c else V.int a) = _
    by_cases h2 : c < a
    · rw [decide_eq_true h2, if_pos rfl, show min a c = c by omega]
    · rw [decide_eq_false h2, if_neg Bool.false_ne_true, show min a c = a by omega]
theorem min3_eq {a b c : Int} {H : Hp} {Q : VK} : rNuC3 nuMin3 [.int a, .int b, .int c] H Q = Q (.int (min (min a b) c)) H := by
  refine propext ⟨fun h => ?_, fun q => ⟨_, _, _, _, rfl, min3_nu a b c, q⟩⟩
  obtain ⟨x, y, z, v, e, e2, q⟩ := h
  cases e
  rw [min3_nu] at e2
  cases e2
  exact q
theorem rEq_int {a b : Int} {H : Hp} {Q : VK} : rEq (.int a) (.int b) H Q = Q (.bl (decide (a = b))) H := by
  have e : decide (V.int a = V.int b) = decide (a = b) := by simp
  refine propext ⟨fun h => ?_, fun q => ⟨rfl, ?_⟩⟩
  · have h2 := h.2
    rw [e] at h2
    exact h2
  · rw [e]
    exact q
theorem rNe_int {a b : Int} {H : Hp} {Q : VK} : rNe (.int a) (.int b) H Q = Q (.bl (!decide (a = b))) H := by
  have e : decide (V.int a = V.int b) = decide (a = b) := by simp
  refine propext ⟨fun h => ?_, fun q => ⟨rfl, ?_⟩⟩
  · have h2 := h.2
    rw [e] at h2
    exact h2
  · rw [e]
    exact q
theorem cdw {i j : Int} (h : 0 < j) (h2 : j < 2 ^ 100) : CDivW i j := wide_div (b := 100) h (by omega) (by decide) (by decide)
theorem cmw {i j : Int} {a b : Nat} (hi : i.natAbs < 2 ^ a) (hj : j.natAbs < 2 ^ b) (h0 : 0 < a) (h1 : 0 < b) (h : a + b ≤ 1000000) : CMulW i j := wide_mul hi hj h0 h1 h
end L2
namespace L2
open PySem PySem.Spec PyProof.Rows Evt
/-- a loop over J -/
def LoopI (J : It) (g : TG) (tb : TS) (D : Ends) (σ : St) (H1 : Hp) : Prop := ∃ W : Nat → Nat → St → Hp → Prop, (∃ m, W 0 m σ H1) ∧ ∀ i m σ H, W i m σ H →
  (J.stop i H ∧ D.nx σ H) ∨ (J.go i H ∧ ∃ N : St → Hp → Prop, (∀ σ' H', N σ' H' → ∃ m', m' < m ∧ W (i + 1) m' σ' H') ∧ ∀ x H', J.yld i H x H' → g x σ H' fun σ2 H2 => tb { D with nx := N, ct := N, bk := D.nx } σ2 H2)
theorem tFor_eq {wi : TI} {g : TG} {tb : TS} {D : Ends} {σ : St} {H : Hp} : tFor wi g tb D σ H = wi σ H fun J H1 => LoopI J g tb D σ H1 := rfl
/-- a new object -/
def New (H : Hp) (o : HO) (R : Addr → Hp → Prop) : Prop := ∀ p, H p = none → R p (upd H p o)
theorem new_of {H : Hp} {o : HO} {R : Addr → Hp → Prop} (h : ∀ p H', H p = none → Ex H H' → H' p = some o → R p H') : New H o R := fun p np => h p _ np (Ex.new np) upd_same
/-- an object changes -/
def Chg (H : Hp) (l : Addr) (o : HO) (R : Hp → Prop) : Prop := R (upd H l o)
theorem chg_of {H : Hp} {l : Addr} {o : HO} {R : Hp → Prop} (h : ∀ H', (∀ a, a ≠ l → H' a = H a) → H' l = some o → R H') : Chg H l o R := h _ (fun _ ha => upd_ne ha) upd_same
theorem tLst_eq {t : TA} {σ : St} {H : Hp} {Q : VK} : tLst t σ H Q = t σ H fun xs H1 => xs.length ≤ sizeLine ∧ New H1 (.lst xs) fun p H2 => Q (.ref p) H2 := rfl
theorem tTup_eq {t : TA} {σ : St} {H : Hp} {Q : VK} : tTup t σ H Q = t σ H fun xs H1 => xs.length ≤ sizeLine ∧ New H1 (.tup xs) fun p H2 => Q (.ref p) H2 := rfl
theorem rCat_eq {x y : V} {H : Hp} {Q : VK} : rCat x y H Q = ∃ l b xs zs, x = .ref l ∧ y = .ref b ∧ H l = some (.lst xs) ∧ H b = some (.lst zs) ∧ xs.length + zs.length ≤ sizeLine ∧ New H (.lst (xs ++ zs)) fun p H2 => Q (.ref p) H2 := rfl
theorem rAppend_eq {x : V} {vs : List V} {H : Hp} {Q : VK} : rAppend x vs H Q = ∃ l xs y, x = .ref l ∧ vs = [y] ∧ H l = some (.lst xs) ∧ xs.length < sizeLine ∧ Chg H l (.lst (xs ++ [y])) fun H2 => Q .non H2 := rfl
/-- a comprehension over J, its list at Dl -/
def LcI (J : It) (g : TG) (tt : TT) (te : TE) (vs : List Nat) (σ : St) (H1 : Hp) (D : Addr) (Q : VK) : Prop := ∃ W : Nat → Nat → Hp → Prop, (∃ m, W 0 m (upd H1 D (.lst []))) ∧ ∀ i m H, W i m H →
  (J.stop i H ∧ Q (.ref D) H) ∨ (J.go i H ∧ ∃ Nx : Hp → Prop, (∀ H', Nx H' → ∃ m', m' < m ∧ W (i + 1) m' H') ∧ ∀ x H', J.yld i H x H' → g x (wipe σ vs) H' fun σ2 H2 => wipe σ2 vs = wipe σ vs ∧ tt σ2 H2 fun b H3 =>
    if b = true then te σ2 H3 fun y H4 => ∃ acc, H4 D = some (.lst acc) ∧ acc.length < sizeLine ∧ Nx (upd H4 D (.lst (acc ++ [y]))) else Nx H3)
theorem tLc_eq {wi : TI} {g : TG} {tt : TT} {te : TE} {vs : List Nat} {σ : St} {H : Hp} {Q : VK} : tLc wi g tt te vs σ H Q = wi σ H fun J H1 => ∀ D, H1 D = none → LcI J g tt te vs σ H1 D Q := rfl
section
variable {K : PySem.W.Frag} {a b : Addr} {xs ys : List V} {g : TG} {tb : TS} {D : Ends} {σ : St} {H : Hp}
theorem loop_range {lo : Int} {n : Nat} (Pv : Nat → St → Hp → Prop) (h0 : Pv 0 σ H) (hs : ∀ i σ H, i < n → Pv i σ H → g (.int (lo + i)) σ H fun σ2 H2 => tb { D with nx := Pv (i + 1), ct := Pv (i + 1), bk := D.nx } σ2 H2) (hd : ∀ σ H, Pv n σ H → D.nx σ H) :
    LoopI (Itr lo n) g tb D σ H := for_it walk_range Pv h0 (fun _ _ _ _ _ => trivial) (fun i x σ H H' hi p y => by obtain ⟨rfl, rfl⟩ := y; exact hs i σ _ hi p) hd
theorem loop_rangeC {lo c : Int} {n : Nat} (Pv : Nat → St → Hp → Prop) (h0 : Pv 0 σ H) (hs : ∀ i σ H, i < n → Pv i σ H → g (.int (lo + (i : Nat) * c)) σ H fun σ2 H2 => tb { D with nx := Pv (i + 1), ct := Pv (i + 1), bk := D.nx } σ2 H2) (hd : ∀ σ H, Pv n σ H → D.nx σ H) :
    LoopI (Itc lo c n) g tb D σ H := for_it walk_rangeC Pv h0 (fun _ _ _ _ _ => trivial) (fun i x σ H H' hi p y => by obtain ⟨rfl, rfl⟩ := y; exact hs i σ _ hi p) hd
theorem loop_list (Pv : Nat → St → Hp → Prop) (h0 : Pv 0 σ H) (hl : ∀ i σ H, Pv i σ H → SqL K H a xs) (hs : ∀ i x σ H, xs[i]? = some x → Pv i σ H → g x σ H fun σ2 H2 => tb { D with nx := Pv (i + 1), ct := Pv (i + 1), bk := D.nx } σ2 H2) (hd : ∀ σ H, Pv xs.length σ H → D.nx σ H) :
    LoopI (Itl K a) g tb D σ H := for_it (walk_list (xs := xs)) Pv h0 (fun i σ H _ p => hl i σ H p) (fun i x σ H H' hi p y => by obtain ⟨rfl, e⟩ := y; exact hs i x σ _ e p) hd
/-- the pair is a new tuple at T -/
theorem loop_enum (Pv : Nat → St → Hp → Prop) (h0 : Pv 0 σ H) (hl : ∀ i σ H, Pv i σ H → SqL K H a xs)
    (hs : ∀ i x σ H T H', xs[i]? = some x → Pv i σ H → H T = none → Ex H H' → H' T = some (.tup [.int (i : Nat), x]) → g (.ref T) σ H' fun σ2 H2 => tb { D with nx := Pv (i + 1), ct := Pv (i + 1), bk := D.nx } σ2 H2) (hd : ∀ σ H, Pv xs.length σ H → D.nx σ H) :
    LoopI (Ite K a) g tb D σ H := for_it (walk_enum (xs := xs)) Pv h0 (fun i σ H _ p => hl i σ H p) (fun i v σ H H' hi p y => by
      obtain ⟨T, x, y, rfl, nT, rfl, e1, e2⟩ := y
      cases e1
      exact hs i y σ H T _ e2 p nT (Ex.new nT) upd_same) hd
theorem loop_zip {n : Nat} (hn : n = min xs.length ys.length) (Pv : Nat → St → Hp → Prop) (h0 : Pv 0 σ H) (hl : ∀ i σ H, Pv i σ H → SqL K H a xs ∧ SqL K H b ys)
    (hs : ∀ i x y σ H T H', xs[i]? = some x → ys[i]? = some y → Pv i σ H → H T = none → Ex H H' → H' T = some (.tup [x, y]) → g (.ref T) σ H' fun σ2 H2 => tb { D with nx := Pv (i + 1), ct := Pv (i + 1), bk := D.nx } σ2 H2) (hd : ∀ σ H, Pv n σ H → D.nx σ H) :
    LoopI (Itz K a b) g tb D σ H := for_it (walk_zip hn) Pv h0 (fun i σ H _ p => hl i σ H p) (fun i v σ H H' hi p y => by
      obtain ⟨T, x, y, rfl, nT, rfl, e1, e2⟩ := y
      exact hs i x y σ H T _ e1 e2 p nT (Ex.new nT) upd_same) hd
/-- a comprehension's turns give what f says of each turn (none: passed over) -/
def gives (f : Nat → Option V) : Nat → List V
  | 0 => []
  | n + 1 => gives f n ++ (f n).toList
theorem gives_len (f : Nat → Option V) : ∀ n, (gives f n).length ≤ n
  | 0 => Nat.le_refl _
  | n + 1 => by
    have h := gives_len f n
    show (gives f n ++ (f n).toList).length ≤ n + 1
    rw [List.length_append]
    cases f n with
    | none => exact Nat.le_succ_of_le h
    | some v => exact Nat.succ_le_succ h
/-- the turn's item is laid; the turn is passed over -/
def Put (H : Hp) (Dl : Addr) (f : Nat → Option V) (i : Nat) (y : V) (H4 : Hp) : Prop := ∃ acc, H4 Dl = some (.lst acc) ∧ acc.length < sizeLine ∧ (Ex H (upd H4 Dl (.lst (acc ++ [y]))) ∧ upd H4 Dl (.lst (acc ++ [y])) Dl = some (.lst (gives f (i + 1))))
def Skip (H : Hp) (Dl : Addr) (f : Nat → Option V) (i : Nat) (H3 : Hp) : Prop := Ex H H3 ∧ H3 Dl = some (.lst (gives f (i + 1)))
theorem put_of {f : Nat → Option V} {i : Nat} {y : V} {H4 : Hp} {Dl : Addr} (hD : H Dl = none) (e : Ex H H4) (h4 : H4 Dl = some (.lst (gives f i))) (hi : i < sizeLine) (ef : f i = some y) : Put H Dl f i y H4 := by
  refine ⟨gives f i, h4, Nat.lt_of_le_of_lt (gives_len f i) hi, Ex.mut e hD, ?_⟩
  show upd H4 Dl _ Dl = some (.lst (gives f i ++ (f i).toList))
  rw [upd_same, ef]
  rfl
theorem skip_of {f : Nat → Option V} {i : Nat} {H3 : Hp} {Dl : Addr} (e : Ex H H3) (h3 : H3 Dl = some (.lst (gives f i))) (ef : f i = none) : Skip H Dl f i H3 := by
  refine ⟨e, ?_⟩
  show H3 Dl = some (.lst (gives f i ++ (f i).toList))
  rw [ef, h3]
  show _ = some (HO.lst (gives f i ++ []))
  rw [List.append_nil]
theorem lc_gives {J : It} {n : Nat} {G : Hp → Prop} {Y : Nat → Hp → V → Hp → Prop} (w : Walk J n G Y) {tt : TT} {te : TE} {vs : List Nat} {Q : VK} {Dl : Addr} (f : Nat → Option V) (hD : H Dl = none) (hG : ∀ H', Ex H H' → G H')
    (hs : ∀ i x H0 H', i < n → Ex H H0 → H0 Dl = some (.lst (gives f i)) → Y i H0 x H' → g x (wipe σ vs) H' fun σ2 H2 => wipe σ2 vs = wipe σ vs ∧ tt σ2 H2 fun b H3 => if b = true then te σ2 H3 fun y H4 => Put H Dl f i y H4 else Skip H Dl f i H3)
    (hd : ∀ H', Ex H H' → H' Dl = some (.lst (gives f n)) → Q (.ref Dl) H') : LcI J g tt te vs σ H Dl Q :=
  lc_it w (fun i H' => Ex H H' ∧ H' Dl = some (.lst (gives f i))) ⟨Ex.new hD, upd_same⟩ (fun i H' _ p => hG H' p.1) (fun i x H0 H' hi p y => hs i x H0 H' hi p.1 p.2 y) (fun H' p => hd H' p.1 p.2)
theorem gives_map (v : Nat → V) : ∀ n, gives (fun i => some (v i)) n = (List.range n).map v
  | 0 => rfl
  | n + 1 => by
    have h := gives_map v n
    show gives _ n ++ [v n] = _
    rw [h, List.range_succ, List.map_append]
    rfl
theorem gives_nil {f : Nat → Option V} : ∀ n, (∀ i, i < n → f i = none) → gives f n = []
  | 0, _ => rfl
  | n + 1, h => by
    show gives f n ++ (f n).toList = []
    rw [gives_nil n fun i hi => h i (by omega), h n (by omega)]
    rfl
end
end L2
namespace L2
open PySem PySem.Spec PyProof.Rows Evt
section
variable {X : Cx}
/-- xs + ys, of any lists (also the script) -/
def rCatS (K : PySem.W.Frag) : R2 := fun x y H Q => ∃ l b xs zs, x = .ref l ∧ y = .ref b ∧ SqL K H l xs ∧ SqL K H b zs ∧ xs.length + zs.length ≤ sizeLine ∧ New H (.lst (xs ++ zs)) fun p H2 => Q (.ref p) H2
theorem op_catS : OpR X (binaryOp .Add) (rCatS X.K) := by
  intro pins s σ H x y v u Q I rx ry h
  obtain ⟨l, b, xs, zs, rfl, rfl, hH, hB, hz, q⟩ := h
  cases rx
  cases ry
  obtain ⟨its, r, ⟨⟨cls, dd, data, sl⟩, n, ho, hc, hdd, hd⟩, _⟩ := I.list hH
  obtain ⟨its2, r2, ⟨⟨cls2, dd2, data2, sl2⟩, n2, ho2, hc2, hdd2, hd2⟩, _⟩ := I.list hB
  have l1 := r.length
  have l2 := r2.length
  simp only at hc hd hc2 hd2
  subst hc hd hc2 hd2
  have e : its.toArray ++ its2.toArray = (its ++ its2).toArray := by simp
  refine concat_meets ⟨_, ho, rfl⟩ ⟨_, ho2, rfl⟩ noFill_list_add seq_list_add PySem.F.slot_list_add PySem.F.entry_list_add (PySem.F.args_list_add_2 _ _) (list_addW l b its.toArray its2.toArray n n2 dd dd2 sl sl2 (by rw [List.size_toArray, List.size_toArray]; omega)) ⟨ho, ho2, ?_⟩
  rw [e]
  exact ⟨.ref _, _, I.lnew (t' := s.toks) (r.append r2) (by rw [List.length_append]; omega), rfl, q _ I.fresh⟩
end
theorem sum_S (f : Nat → Int) : ∀ n, ((List.range n).map f).sum = FW.S f n
  | 0 => rfl
  | n + 1 => by
    have h := sum_S f n
    rw [List.range_succ, List.map_append, List.sum_append, h]
    show FW.S f n + ([f n] : List Int).sum = FW.S f n + f n
    rw [List.sum_cons, List.sum_nil]
    omega
/-- an item of a written list at a drawn place -/
theorem at_mem {xs : List V} {i : Int} (h0 : 0 ≤ i) (h1 : i < (xs.length : Int)) : ∃ v, v ∈ xs ∧ atI xs i = some v := by
  have hj : i.toNat < xs.length := by omega
  exact ⟨xs[i.toNat], List.getElem_mem hj, at_of (j := i.toNat) (by omega) (List.getElem?_eq_getElem hj)⟩
end L2
namespace L2
open PySem PySem.Spec PyProof.Rows Evt
/-! ### lists of ints compared -/
theorem dp_ints {K : PySem.W.Frag} {H : Hp} : ∀ ns : List Int, DpAll K H (ns.map V.int) (ns.map PyData.int)
  | [] => .nil
  | n :: r => .cons (.int n) (dp_ints r)
theorem eqv_ints : ∀ xs ys : List Int, PyData.eqvAll (xs.map PyData.int) (ys.map PyData.int) = decide (xs = ys)
  | [], [] => rfl
  | [], _ :: _ => rfl
  | _ :: _, [] => rfl
  | x :: xs, y :: ys => by
    show (x == y && PyData.eqvAll (xs.map PyData.int) (ys.map PyData.int)) = _
    rw [eqv_ints xs ys]
    by_cases h : x = y
    · subst h
      by_cases h2 : xs = ys
      · subst h2
        simp
      · simp [h2]
    · have e : (x == y) = false := by simpa using h
      rw [e]
      simp [h]
theorem depth_ints : ∀ ns : List Int, PyData.depthAll (ns.map PyData.int) ≤ 1
  | [] => by simp [PyData.depthAll]
  | n :: r => by
    have h := depth_ints r
    simp only [List.map_cons, PyData.depthAll, PyData.depth]
    omega
theorem lay_ints : ∀ ns : List Int, PyData.canLayAll0 (ns.map PyData.int) = true
  | [] => rfl
  | n :: r => by
    have h := lay_ints r
    simp only [List.map_cons, PyData.canLayAll0, PyData.canLay0, h, Bool.and_self]
theorem shaped_ints (ns : List Int) : SeqAt.shaped (.list (ns.map PyData.int)) = true := by
  have h := depth_ints ns
  unfold SeqAt.shaped
  rw [Bool.and_eq_true]
  refine ⟨?_, decide_eq_true ?_⟩
  · simp only [PyData.canLay0]
    exact lay_ints ns
  · simp only [PyData.depth]
    omega
theorem neD_ints {K : PySem.W.Frag} {H : Hp} {a b : Addr} {xs ys : List Int} {Q : VK} (ha : SqL K H a (xs.map V.int)) (hb : SqL K H b (ys.map V.int)) (q : Q (.bl (!decide (xs = ys))) H) : rNeD K (.ref a) (.ref b) H Q := by
  refine ⟨_, _, .lst ha (dp_ints xs), .lst hb (dp_ints ys), shaped_ints xs, shaped_ints ys, ?_⟩
  show Q (.bl (!PyData.eqvAll _ _)) H
  rw [eqv_ints]
  exact q
theorem eqD_ints {K : PySem.W.Frag} {H : Hp} {a b : Addr} {xs ys : List Int} {Q : VK} (ha : SqL K H a (xs.map V.int)) (hb : SqL K H b (ys.map V.int)) (q : Q (.bl (decide (xs = ys))) H) : rEqD K (.ref a) (.ref b) H Q := by
  refine ⟨_, _, .lst ha (dp_ints xs), .lst hb (dp_ints ys), shaped_ints xs, shaped_ints ys, ?_⟩
  show Q (.bl (PyData.eqvAll _ _)) H
  rw [eqv_ints]
  exact q
end L2
namespace L2
open PySem PySem.Spec PyProof.Rows Evt
/-! ### the rules that name the written part, K told -/
section
variable {X : Cx} {K : PySem.W.Frag}
theorem k_isi (hK : X.K = K) : CallR X (.builtin "isinstance") (rIsi K) := hK ▸ call_isi
theorem k_isiT (hK : X.K = K) : CallR X (.builtin "isinstance") (rIsiT K) := hK ▸ call_isiT
theorem k_len (hK : X.K = K) : CallR X (.builtin "len") (fun xs H Q => ∃ p ys, xs = [.ref p] ∧ (SqL K H p ys ∨ SqT K H p ys) ∧ Q (.int ys.length) H) := hK ▸ call_len_seq
theorem k_sum (hK : X.K = K) (hc : X.calm = true) : CallR X (.builtin "sum") (rSum K) := hK ▸ cr_sum hc
theorem k_max (hK : X.K = K) (hc : X.calm = true) : CallR X (.builtin "max") (rMax K) := hK ▸ cr_max hc
theorem k_ixl (hK : X.K = K) : IxR X (rIxL K) := hK ▸ ix_list
theorem k_ixt (hK : X.K = K) : IxR X (rIxT K) := hK ▸ ix_tup
theorem k_catS (hK : X.K = K) : OpR X (binaryOp .Add) (rCatS K) := hK ▸ op_catS
theorem k_eqD (hK : X.K = K) (hu : X.A.units + 64 < cLine) : OpR X (compareOp .Eq) (rEqD K) := hK ▸ op_eqD hu
theorem k_neD (hK : X.K = K) (hu : X.A.units + 64 < cLine) : OpR X (compareOp .NotEq) (rNeD K) := hK ▸ op_neD hu
theorem k_listof (hK : X.K = K) : CallR X (.type "list") (fun xs H Q => ∃ p ys, xs = [.ref p] ∧ (SqL K H p ys ∨ SqT K H p ys) ∧ ∀ l, H l = none → Q (.ref l) (upd H l (.lst ys))) := hK ▸ call_list_of
theorem k_sll (hK : X.K = K) : SlR X (rSlL K) := hK ▸ sl_list
theorem k_pil {tg l : Expr} {tl : TE} (hK : X.K = K) (hl : PE X l tl) : PI X tg l (iList K tl) := hK ▸ pi_list hl
theorem k_pit {tg l : Expr} {tl : TE} (hK : X.K = K) (hl : PE X l tl) : PI X tg l (iTup K tl) := hK ▸ pi_tup hl
theorem k_pgt {es : List Expr} {k : Nat} {t : TGs} {n : Nat} {pos : Pos} (hK : X.K = K) (hc : X.calm = true) (h : PGs X es t) (hn : (assignEach es X.env).length = n := by rfl) (hst : (assignEach es X.env).findIdx? (·.1) = none := by rfl) : PG X (.Tuple es k pos) (gTup K n t) :=
  hK ▸ pg_tup hc h hn hst
end
def rListOf (K : PySem.W.Frag) : List V → Hp → VK → Prop := fun xs H Q => ∃ p ys, xs = [.ref p] ∧ (SqL K H p ys ∨ SqT K H p ys) ∧ New H (.lst ys) fun l H2 => Q (.ref l) H2
theorem k_listof2 {X : Cx} {K : PySem.W.Frag} (hK : X.K = K) : CallR X (.type "list") (rListOf K) := k_listof hK
theorem rSlL_eq {K : PySem.W.Frag} {x : V} {lo hi : Option Int} {H : Hp} {Q : VK} : rSlL K x lo hi H Q = ∃ a xs, x = .ref a ∧ SqL K H a xs ∧ New H (.lst (cutV xs lo hi)) fun p H2 => Q (.ref p) H2 := rfl
end L2
/-! ### defs that hold generator expressions; the law's end with tables and loose names; list(range(a, b, c)) -/
namespace L2
open PySem PySem.Spec PyProof.Rows
/-- as Fun, the code object told -/
structure FunT (K : PySem.W.Frag) (x qual : Str) (st : Stmt) (f : Addr) (fd : FuncData) (c : Addr) : Prop where
  ex : ∃ (oc : Value) (od : Option Addr) (kV doc pm : Value) (an : Option Addr) (ct : Value) (sl : Array (Option Value)), fd = PySem.W.fnOf x qual (defArgs st) (defBody st) (defScope st) .none kV doc pm an (.ref c) ct ∧ K.lookup f = some ⟨oc, od, .func fd, sl⟩ ∧ PySem.W.codeIn K (.ref c) qual = true
  kp : PySem.W.keepIn K (.ref f) = true
theorem FunT.to {K : PySem.W.Frag} {x qual : Str} {st : Stmt} {f : Addr} {fd : FuncData} {c : Addr} (F : FunT K x qual st f fd c) : Fun K x qual st f fd := by
  obtain ⟨oc, od, kV, doc, pm, an, ct, sl, h1, h2, h3⟩ := F.ex
  exact ⟨⟨oc, od, kV, doc, pm, an, _, ct, sl, h1, h2, h3⟩, F.kp⟩
section
variable {P : Program} {w : World} {K : PySem.W.Frag} {mg : Str → Option Value} {base : Heap} {x qual : Str} {st : Stmt} {f : Addr} {fd : FuncData} {N ps : List Str} {k : Nat} {sp : Sp} {c : Addr}
theorem FunT.okX (F : FunT K x qual st f fd c) (S : FnScope N ps (defScope st)) (len : ∀ vs H Q E, sp vs H Q E → vs.length = ps.length)
    (hb : ∀ (A : Around) (outer : List Env) (s : Shared) (H : Hp) (vs : List V) (Q : VK) (E : XK), Room k (A.deeper (envOfC qual (defScope st) s.heap.objs.size f (.ref c))) → sp vs H Q E →
      ∃ t, PSs (cxOf (L2.CX P w) P w K mg base N qual (defScope st) f (.ref c) A outer s H E) (defBody st) t ∧ t { nx := fun _ H' => Q .non H', rt := Q } (start N vs) H) : FnOk P w K mg base (L2.CX P w) (k + 1) f fd ps sp := by
  obtain ⟨oc, od, kV, doc, pm, an, ct, sl, rfl, h2, h3⟩ := F.ex
  exact fn_of h2 h3 S len fun A outer s H vs Q E hr hsp => hb A outer s H vs Q E hr hsp
theorem FunT.ok (F : FunT K x qual st f fd c) (S : FnScope N ps (defScope st)) (len : ∀ vs H Q E, sp vs H Q E → vs.length = ps.length)
    (hb : ∀ (A : Around) (outer : List Env) (s : Shared) (H : Hp) (vs : List V) (Q : VK) (E : XK), Room k (A.deeper (envOfC qual (defScope st) s.heap.objs.size f (.ref c))) → sp vs H Q E →
      ∃ t, PSs (cxOf CX0 P w K mg base N qual (defScope st) f (.ref c) A outer s H E).nox (defBody st) t ∧ t { nx := fun _ H' => Q .non H', rt := Q } (start N vs) H) : FnOk P w K mg base CX0 (k + 1) f fd ps sp := by
  obtain ⟨oc, od, kV, doc, pm, an, ct, sl, rfl, h2, h3⟩ := F.ex
  refine fn_of h2 h3 S len fun A outer s H vs Q E hr hsp => ?_
  obtain ⟨t, h, q⟩ := hb A outer s H vs Q E hr hsp
  exact ⟨t, h.nox, q⟩
end
theorem tab_in {K : PySem.W.Frag} {x : Str} {f c P : Addr} {oc e : Value} {od dd : Option Addr} {sl sl' : Array (Option Value)} {fd : FuncData} {vs : Array Value} (h1 : PySem.W.nsIn K mainGlobals x = some (some (.ref f))) (h2 : K.lookup f = some ⟨oc, od, .func fd, sl⟩) (h3 : fd.code = .ref c)
    (h4 : K.lookup c = some ⟨e, dd, .fields vs, sl'⟩) (h5 : vs[11]? = some (.ref P)) : PySem.W.tabIn K x = some (c, P) := by
  show (match PySem.W.nsIn K mainGlobals x with | _ => _) = _
  unfold PySem.W.tabIn
  rw [h1]
  show (match K.lookup f with | _ => _) = _
  rw [h2]
  show (match fd.code with | _ => _) = _
  rw [h3]
  show (match K.lookup c with | _ => _) = _
  rw [h4]
  show (match (vs[11]? : Option Value) with | _ => _) = _
  rw [h5]
open PySem.W in
theorem walk_ofTX {l : OpenLaw} {n k : Nat} {q : Program} {loose : List Str} {XP : (Str → Option Value) → Heap → Prop} {YP : World → Heap → Prop} {d : DefRec} {K : Params → Frag} {x : Str}
    (hn : l.most = some n) (hn2 : n ≤ sizeLine) (hdf : d.params.defaults = []) (hr : Room k callerA) (hY : ∀ (w : World) (h : Heap), YP w h → (K w.params).In h)
    (F : ∀ (w : World) (mg : Str → Option Value) (fa : Addr) (h : Heap), (K w.params).In h → h.Ns mainGlobals mg → XP mg h → (∀ (y : Str) (c P : Addr), ((recsOf q).find? (fun e => e.name == y)).isSome = true → tabIn (K w.params) y = some (c, P) → CodeHd h c P ∧ h.get? P = some (tabObj #[])) →
      mg d.name = some (.ref fa) → LamX.LawAtS l w (K w.params) CX0 k n x mg fa h) :
    WalkO q loose XP YP l.row.toRowW d [] (fun f vs => PySem.call f vs) := by
  refine Att.attach_callB hn hdf fun w s₀ s₁ mg mb fa o pm cd doc a vs ns G Y ho hd hcd hmg hobj hints hlen hbits hg => ?_
  have KX := hY w _ Y
  obtain ⟨fd, cs, sp, hT, nT, C, hb, hsp, hF⟩ := F w mg fa _ KX G.T.g G.X (fun y c P hs ht => by
    obtain ⟨e, he⟩ := Option.isSome_iff_exists.mp hs
    exact tab_of G.T KX he ht) hmg
  exact LamX.law_callTs KX G.T.g G.T.b G.T.builtins G.T.nolimit hg hT nT C G.T.bmain hobj hints (Nat.le_trans hlen hn2) hr hF hb (fun H hH hS => hsp H a ns hlen hbits hH hS) fun H e s' z => z
/-! ### list(range(a, b, c)) -/
def rgC (i c : Int) (n : Nat) : List V := (List.range n).map fun k => V.int (i + (k : Nat) * c)
def tLstR3 (ta : TA) : TE := fun σ H Q => ta σ H fun vs H1 => ∃ (i j c : Int) (n : Nat), vs = [.int i, .int j, .int c] ∧ RgC i j c n ∧ n ≤ 1000000 ∧ New H1 (.lst (rgC i c n)) fun p H2 => Q (.ref p) H2
theorem pe_listRg3 {X : Cx} {a b c : Expr} {ta : TA} {p pos p2 pos2 : Pos} (hc : X.calm = true) (hg : Gl X "list") (hm : X.mg "list" = none) (hg2 : Gl X "range") (hm2 : X.mg "range" = none) (ha : PA X [a, b, c] ta)
    (hs : starEach [a, b, c] X.env = (false, eval a X.env) :: starEach [b, c] X.env := by rfl) (hpl : (backTo pos2 (starEach [b, c] X.env)).any (·.1) = false := by rfl)
    (na : starEach [.Call (.Name "range" p2) [a, b, c] [] pos2] X.env = (false, eval (.Call (.Name "range" p2) [a, b, c] [] pos2) X.env) :: starEach [] X.env := by rfl) :
    PE X (.Call (.Name "list" p) [.Call (.Name "range" p2) [a, b, c] [] pos2] [] pos) (tLstR3 ta) := by
  refine ⟨fun pins s σ H Q I h => Call_ (ld_blt I hg hm boot_list (PyProof.Rows.callWith_type1 (args_cons (Call_ (ld_blt I hg2 hm2 boot_range (PyProof.Rows.callWith_type1 (thn (ha.run pos2 pins s σ H _ I h) fun us s1 ⟨vs, H1, I1, r1, q1⟩ => ?_) hs hpl))) na) na))⟩
  obtain ⟨i, j, k, n, e, ⟨c0, c1, c2, c3⟩, hn, q⟩ := q1
  subst e
  cases r1 with | cons r rr => cases rr with | cons r' rr => cases rr with | cons r'' rr =>
    cases rr
    obtain ⟨t, rfl⟩ := r
    obtain ⟨t', rfl⟩ := r'
    obtain ⟨t'', rfl⟩ := r''
    refine call_range_3 c0 (args_nil ?_) (.inl (PyProof.noPylong_small c1))
    have I2 : Inv X pins σ H1 { s1 with heap := s1.heap.push { cls := .type "range", data := .fields #[.int i t, .int j t', .int k t''] } } := I1.kept (t' := s1.toks) fun b o e => Heap.get?_push_of_some _ e
    refine call_list_range (n := n) (I1.ok.hd hc) (IsRange.new ..) c2 c3 (by omega) fun h' tk acc c' hk e' hi => ?_
    refine ⟨.ref _, upd H1 _ (.lst (rgC i k n)), I2.laid hk (Nat.le_refl _) (show ObjOk X.prog X.w _ _ _ (.lst (rgC i k n)) from ⟨?_, acc.toList, c', ?_, ?_⟩), rfl, q _ (I2.hok.fresh (Nat.le_refl _))⟩
    · unfold rgC
      rw [List.length_map, List.length_range, sizeLine_eq]
      omega
    · have e : acc.toList.length = n := by rw [Array.length_toList]; exact hi.1
      unfold rgC
      rw [← e]
      refine vals_of_get acc.toList _ fun j u hj => ?_
      obtain ⟨t, rfl⟩ := hi.2 j u (by rw [← hj, Array.getElem?_toList])
      exact ⟨t, rfl⟩
    · rw [Array.toArray_toList]; exact e'
/-! ### a generator expression's turns by an invariant -/
theorem gx_it {C : Type} {J : It} {n : Nat} {G : Hp → Prop} {Y : Nat → Hp → V → Hp → Prop} (w : Walk J n G Y) {gg : TG} {te : TE} {vs : List Nat} {σ : St} {H0 : Hp} {c0 : C} {fin : C → Hp → Prop} {step : C → V → Hp → (C → Prop) → Prop} (Pv : Nat → C → Hp → Prop) (h0 : Pv 0 c0 H0) (hG : ∀ i c H, i ≤ n → Pv i c H → G H)
    (hs : ∀ i x c H H', i < n → Pv i c H → Y i H x H' → gg x (wipe σ vs) H' fun σ2 H2 => wipe σ2 vs = wipe σ vs ∧ te σ2 H2 fun y H4 => step c y H4 fun c' => Pv (i + 1) c' H4) (hd : ∀ c H, Pv n c H → fin c H) : GxI J gg te vs σ H0 c0 fin step := by
  refine ⟨fun i m c H => m = n - i ∧ i ≤ n ∧ Pv i c H, ⟨n, rfl, Nat.zero_le _, h0⟩, ?_⟩
  rintro i m c H ⟨rfl, hi, p⟩
  have q := hG i c H hi p
  by_cases hlt : i < n
  · exact .inr ⟨w.goes i H hlt q, Pv (i + 1), fun c' H' p' => ⟨n - (i + 1), by omega, rfl, hlt, p'⟩, fun x H' y => hs i x c H H' hlt p (w.yields i H x H' hlt q y)⟩
  · have e : i = n := by omega
    subst e
    exact .inl ⟨w.stops H q, hd c H p⟩
end L2
/-! ### an exception that is caught and kept by a name -/
namespace L2
open PySem PySem.Spec PyProof.Rows Evt
/-- a caught exception of the class cls (its own dict d), at a -/
def ExK (cls : Value) (d : Option Addr) (a : Addr) : HO := .ext fun h => ∃ (oe : Obj) (vs : Array Value), h.get? a = some oe ∧ Zc cls d oe ∧ oe.data = .fields vs
theorem exK_ok {P : Program} {w : World} {H : Hp} {h : Heap} {a : Addr} {cls : Value} {d : Option Addr} {oe : Obj} {vs : Array Value} (e : h.get? a = some oe) (z : Zc cls d oe) (q : oe.data = .fields vs) : ObjOk P w H h a (ExK cls d a) :=
  ⟨⟨oe, vs, e, z, q⟩, ⟨oe, e⟩, fun _ _ k1 k2 => by
    obtain ⟨o, v, g, r⟩ := k1
    exact ⟨o, v, k2 o g, r⟩⟩
section
variable {X : Cx} {pins : List (Addr × Obj)} {σ : St} {H : Hp} {s : Shared}
/-- what stands in the heap untracked, and is no older than the def's entry, may be tracked -/
theorem Inv.track {a : Addr} {oe : Obj} {o : HO} {vs : Array Value} (J : Inv X pins σ H s) (ha : s.heap.get? a = some oe) (hd : oe.data = .fields vs) (na : H a = none) (nL : a ≠ X.env.locals) (n0 : X.s_0.heap.get? a = none) (hp : ∀ p ∈ X.pn ++ pins, p.1 ≠ a)
    (ho : ObjOk X.prog X.w (upd H a o) s.heap a o) : Inv X pins σ (upd H a o) s := by
  have old : ∀ b u, H b = some u → b ≠ a := fun b u e => ne_of_none e na
  have ent : ∀ b u, X.s_0.heap.get? b = some u → b ≠ a := fun b u e z => by
    rw [z, n0] at e
    exact nomatch e
  have U := J.base
  constructor
  · exact J.ok
  · exact J.os
  · exact J.bare
  · refine ⟨U.keep, U.slot, ?_, U.there, ?_, ?_, ?_⟩
    · intro b u e n hx
      rw [upd_ne (ent b u e)]
      exact U.free b u e n hx
    · intro b xs e
      have q := U.tups b xs e
      rw [upd_ne (old _ _ q), q]
    · intro b u v e
      have q := U.frzs b u v e
      rw [upd_ne (old _ _ q), q]
    · intro b ps e
      obtain ⟨m, q⟩ := U.tbls b ps e
      exact ⟨m, by rw [upd_ne (old _ _ q), q]⟩
  · exact J.loc
  · exact J.cell
  · rw [upd_ne (Ne.symm nL)]
    exact J.free
  · intro x c e
    have nc : c ≠ a := fun z => by
      obtain ⟨v, oc, q1, q2⟩ := J.cell x c e
      rw [z, ha] at q1
      cases q1
      rw [hd] at q2
      exact nomatch q2
    rw [upd_ne nc]
    exact J.freeC x c e
  · intro p h
    obtain ⟨q1, q2, q3⟩ := J.pin p h
    exact ⟨q1, by rw [upd_ne (hp p h)]; exact q2, q3⟩
  · intro b u e
    by_cases hb : b = a
    · rw [hb, upd_same] at e
      cases e
      rw [hb]
      exact ho
    · rw [upd_ne hb] at e
      exact (J.hok b u e).stay (fun _ _ _ q => q) (fun c q => by rw [upd_ne (old _ _ q)]; exact q) fun c xs q => by rw [upd_ne (old _ _ q)]; exact q
  · exact J.len
/-- the wish of «except c as n: y = n» (n in slot i, y in slot j): behind it y is the exception, tracked -/
def wKeep (K : PySem.W.Frag) (c : Value) (i j : Nat) (D : Ends) : WX := fun cls d σ H =>
  PySem.W.exmOne K cls c = some true ∧ ∀ a, H a = none → D.nx (((σ.set i (some (.ref a))).set j (some (.ref a))).set i none) (upd H a (ExK cls d a))
theorem ps_try_keep {x n y : Str} {c : Value} {i j : Nat} {body : List Stmt} {np p1 p2 p3 pos pos' : Pos} {tb : WX → TS} (hs : X.stack = X.env :: X.outer) (hf : X.env.frame = some X.env.locals) (hex : X.ex = []) (hN : X.N.Nodup) (hi : X.N[i]? = some n) (hj : X.N[j]? = some y)
    (kn : X.env.kindOf n = some .local) (ky : X.env.scope.names.lookup y = some .local) (vn : Vis X.env.scope n) (hc : Names X x c)
    (hb : ∀ (W : WX) (pn : List (Addr × Obj)) (xe : Value → Shared → Prop), Takes (X.tr pn xe) W → PassesOwn (model X.prog X.w) X.A X.env xe → PSs (X.tr pn xe) body (tb W))
    (sw : swapsWith (.Name n p2) (some (.Name y p1)) p3.line X.env = pure false := by rfl) (dn : (n == ("__debug__" : Str)) = false := by decide) (cn : (n == ("__classdict__" : Str)) = false := by decide) :
    PS X (.Try body [.ExceptHandler (some (.Name x np)) (some n) [.Assign [.Name y p1] (.Name n p2) p3] pos'] [] [] pos) (fun D σ H => tb (wKeep X.K c i j D) D σ H) := by
  constructor
  intro pins s σ H D I h
  have ok := I.ok
  have fr : X.A.frames = some (X.env :: X.outer) := ok.frames.trans (congrArg some hs)
  apply wpAny_Try_except
  refine wpAny_mono ((hb (wKeep X.K c i j D) (X.pn ++ pins) (fun e s₁ => wpAny (model X.prog X.w) X.A (noteFrame e X.env) (fun _ s₂ => wpAny (model X.prog X.w) X.A (setFlight e none)
    (fun _ s₃ => wpAny (model X.prog X.w) X.A (handleBy e X.env [.ExceptHandler (some (.Name x np)) (some n) [.Assign [.Name y p1] (.Name n p2) p3] pos']) (SP X pins D) X.xe s₃) X.xe s₂) X.xe s₁) ?hca PassesOwn.looking).run [] s σ H D (I.toTry _) h) (fun f s1 hsp => ?fin) (fun _ _ z => z)
  case hca =>
    rintro u s' ⟨a, B, sI, pq, σ', H', cls, d, rfl, J', nb, up, sky, na, os, ag, match_, then_⟩
    have J : Inv X pins σ' H' sI := J'.ofTry ok
    rw [show (X.tr (X.pn ++ pins) _).stack = X.env :: X.outer from hs] at sky
    refine Sky.land Zc.steady fr hf sky fun h3 fl3 up3 => ?_
    have J3 : Inv X pins σ' H' { s' with heap := h3 } := J.landed nb fl3.1 (up.trans up3) os ag
    obtain ⟨oe3, vs3, he3, hz3, hd3⟩ := fl3.there
    have nfr : a ∉ frs (X.env :: X.outer) := fun hm => by
      obtain ⟨_, o', e', hnf⟩ := fl3.2.2.1.mem hm
      rw [he3] at e'
      cases e'
      exact hnf _ hd3
    have nL : a ≠ X.env.locals := fun z => nfr (List.mem_filterMap.mpr ⟨X.env, List.mem_cons_self, by rw [hf, z]⟩)
    have nF : a ∉ X.fs := fun hm => by
      obtain ⟨e, he, q⟩ := List.mem_filterMap.mp hm
      exact nfr (List.mem_filterMap.mpr ⟨e, List.mem_cons_of_mem _ he, q⟩)
    have nI : sI.heap.get? a = none := by
      cases q : sI.heap.get? a with
      | none => rfl
      | some o => exact nomatch (fl3.2.1.symm.trans (nb a o q (by rw [hs]; exact nfr)))
    have n0 : X.s_0.heap.get? a = none := by
      cases q : X.s_0.heap.get? a with
      | none => rfl
      | some o =>
        obtain ⟨o', q'⟩ := J.base.there a o q (by rw [hex]; exact fun z => nomatch z)
        exact nomatch (nI.symm.trans q')
    have S3 := J3.suite he3 hd3 na nL nF
    refine wpAny_handleBy_cons (codeAny_handlers_test ?_) (fun q => nomatch q)
    have LT : PySem.W.Looks (model X.prog X.w) h3 (typeOf (.ref a)) cls := fun A Q E s k q => wpAny_typeOf_ref (k _ _ he3) (hz3.1.symm ▸ q)
    have LM := PySem.W.exm_one (M := model X.prog X.w) J3.kIn LT match_
    have named : ∀ {Q : Value → Shared → Prop} {E : Value → Shared → Prop}, Q c { s' with heap := h3 } → wpAny (model X.prog X.w) (X.A.mark (some (.ref a))) (eval (.Name x np) X.env) Q E { s' with heap := h3 } := by
      intro Q E q
      rcases hc with ⟨hg, hdbg, hm | ⟨hm, hv, hnn⟩⟩
      · exact ld_glob (X := X.suite a ((a, oe3) :: (X.pn ++ pins))) S3 hg hm q hdbg -- the clause's class
      · exact ld_blt (X := X.suite a ((a, oe3) :: (X.pn ++ pins))) S3 hg hm hv q hnn hdbg -- ..
    refine named (LM.here (codeAny_handlers_suite_as (HandSPX.lands_againZ fl3 fun h4 fl4 up4 => ?_)))
    have J4 : Inv X pins σ' H' { s' with heap := h4 } := J.landed nb fl4.1 ((up.trans up3).trans up4) os ag
    obtain ⟨oe, vs, he, hz, hd⟩ := fl4.there
    have S4 := J4.suite he hd na nL nF
    refine store_ok (X := X.suite a ((a, oe) :: (X.pn ++ pins))) (v := .ref a) S4 hN hi (.inl kn) rfl (fun s5 S5 => ?_) (.inr kn)
    have st : PSs (X.suite a ((a, oe) :: (X.pn ++ pins))) [.Assign [.Name y p1] (.Name n p2) p3] (tAsg (tVar i) (gName j)) := pss_one (ps_set (X := X.suite a ((a, oe) :: (X.pn ++ pins))) hN hj (.inl ky) (pe_var hi vn dn cn) sw (.inr ky))
    have li : i < σ'.length := by
      rw [J.len]
      exact (List.getElem?_eq_some_iff.mp hi).1
    refine wpAny_mono (st.run [] s5 _ H' { nx := fun σ6 H6 => σ6 = (σ'.set i (some (.ref a))).set j (some (.ref a)) ∧ H6 = H', rt := fun _ _ => False, bk := fun _ _ => False, ct := fun _ _ => False } S5 ⟨.ref a, List.getElem?_set_self li, rfl, rfl⟩) (fun f s6 hsp => ?_) (fun _ _ z => z.elim)
    cases f with
    | next =>
      obtain ⟨σ6, H6, S6, rfl, rfl⟩ := hsp
      have S7 : Inv X ((a, oe) :: pins) ((σ'.set i (some (.ref a))).set j (some (.ref a))) H6 s6 :=
        ⟨ok, S6.os, S6.bare, S6.base, S6.loc, S6.cell, S6.free, S6.freeC, fun p hp => S6.pin p (by
          rcases List.mem_append.mp hp with q | q
          · exact List.mem_append_left _ (List.mem_cons_of_mem _ (List.mem_append_left _ q))
          · rcases List.mem_cons.mp q with q | q
            · exact List.mem_append_left _ (List.mem_cons.mpr (.inl q))
            · exact List.mem_append_left _ (List.mem_cons_of_mem _ (List.mem_append_right _ q))), S6.hok, S6.len⟩
      refine gone_ok S7 hN hi kn fun s8 J8 => ?_
      obtain ⟨g1, g2, _⟩ := J8.pin (a, oe) (List.mem_append_right _ List.mem_cons_self)
      have J9 : Inv X pins (((σ'.set i (some (.ref a))).set j (some (.ref a))).set i none) H6 s8 := J8.pins_of fun p hp => J8.pin p (List.mem_append_right _ (List.mem_cons_of_mem _ hp))
      refine ⟨_, _, J9.track g1 hd g2 nL n0 (fun p hp z => ?_) (exK_ok g1 hz hd), then_ a na⟩
      have q := (J.pin p hp).1
      rw [z, nI] at q
      exact nomatch q
    | ret u =>
      obtain ⟨_, _, _, _, _, z⟩ := hsp
      exact z.elim
    | brk =>
      obtain ⟨_, _, _, z⟩ := hsp
      exact z.elim
    | cont =>
      obtain ⟨_, _, _, z⟩ := hsp
      exact z.elim
  case fin =>
    cases f with
    | next =>
      obtain ⟨σ', H', K', q⟩ := hsp
      exact wpAny_execs_nil ⟨σ', H', K'.ofTry ok, q⟩
    | ret u =>
      obtain ⟨v, σ', H', K', r, q⟩ := hsp
      exact ⟨v, σ', H', K'.ofTry ok, r, q⟩
    | brk =>
      obtain ⟨σ', H', K', q⟩ := hsp
      exact ⟨σ', H', K'.ofTry ok, q⟩
    | cont =>
      obtain ⟨σ', H', K', q⟩ := hsp
      exact ⟨σ', H', K'.ofTry ok, q⟩
end
/-! ### isinstance of it -/
inductive TyY (K : PySem.W.Frag) (H : Hp) : V → Value → Prop where
  | base {x : V} {t : Value} (h : TyX K H x t) : TyY K H x t
  | exc {a D : Addr} (e : H a = some (ExK (.ref D) none a)) (C : ExcC K D) : TyY K H (.ref a) (.ref D)
section
variable {X : Cx} {pins : List (Addr × Obj)} {σ : St} {H : Hp} {s : Shared}
theorem kit_y {x : V} {u t : Value} (I : Inv X pins σ H s) (rx : RelV x u) (ty : TyY X.K H x t) : ∃ P : Heap → Prop, PySem.W.KitX X.K u t P ∧ P s.heap ∧ u ≠ .builtin "__main__.__loader__#opaque" := by
  cases ty with
  | base h => exact kit_of I rx h
  | @exc a D e C =>
    cases (show u = Value.ref a from rx)
    obtain ⟨⟨oe, vs, ho, hz, hd⟩, _⟩ := (show ObjOk X.prog X.w H s.heap a (ExK (.ref D) none a) from I.hok a _ e)
    obtain ⟨oc, od, oda, osl⟩ := oe
    obtain ⟨z1, z2⟩ := hz
    dsimp only at z1 z2 hd
    subst z1 z2 hd
    exact ⟨_, PySem.W.handS_kitx_exc C.hg C.hk C.hs C.hd C.ha C.hn C.ht C.hm, ⟨ho, rfl, rfl, trivial⟩, fun z => nomatch z⟩
def rIsY (K : PySem.W.Frag) : List V → Hp → VK → Prop := fun xs H Q => ∃ (x c : V) (t u : Value) (b : Bool), xs = [x, c] ∧ ClsV c u ∧ TyY K H x t ∧ PySem.W.kitOne K t u = some b ∧ Q (.bl b) H
def rIsYT (K : PySem.W.Frag) : List V → Hp → VK → Prop := fun xs H Q => ∃ (x : V) (tp : Addr) (cs : List V) (t : Value) (us : List Value) (b : Bool), xs = [x, .ref tp] ∧ H tp = some (.tup cs) ∧ Paired ClsV cs us ∧ TyY K H x t ∧ PySem.W.kitAny K t us = some b ∧ Q (.bl b) H
theorem k_isY {K : PySem.W.Frag} (hK : X.K = K) : CallR X (.builtin "isinstance") (rIsY K) := by
  subst hK
  intro pins s σ H xs us Q I r h
  obtain ⟨x, c, t, u, b, rfl, k, ty, e, q⟩ := h
  obtain ⟨u1, u2, rfl, r1, r2⟩ := vals2 r
  cases k.eq r2
  obtain ⟨P, Z, p, hx⟩ := kit_y I r1 ty
  exact PySem.W.kia_one Z I.kIn p e hx fun tk => ⟨.bl b, H, I.tok tk, rfl, q⟩
theorem k_isYT {K : PySem.W.Frag} (hK : X.K = K) : CallR X (.builtin "isinstance") (rIsYT K) := by
  subst hK
  intro pins s σ H xs us Q I r h
  obtain ⟨x, tp, cs, t, ws, b, rfl, hT, k, ty, e, q⟩ := h
  obtain ⟨u1, u2, rfl, r1, r2⟩ := vals2 r
  cases (show u2 = Value.ref tp from r2)
  obtain ⟨P, Z, p, hx⟩ := kit_y I r1 ty
  obtain ⟨_, its, rv, ⟨oc, od, dt, sl⟩, h1, h2, n, h3⟩ := (show ObjOk X.prog X.w H s.heap tp (.tup cs) from I.hok tp _ hT)
  cases ClsV.all k rv
  dsimp only at h2 h3
  subst h2 h3
  exact PySem.W.kia_tup Z I.kIn p h1 e hx fun tk => ⟨.bl b, H, I.tok tk, rfl, q⟩
end
theorem isy {K : PySem.W.Frag} {H : Hp} {x : V} {t : Value} {n : String} {b : Bool} {Q : VK} (ht : TyY K H x t) (hk : PySem.W.kitOne K t (.type n) = some b) (q : Q (.bl b) H) : rIsY K [x, .ty n] H Q := ⟨x, .ty n, t, .type n, b, rfl, .ty n, ht, hk, q⟩
theorem isyC {K : PySem.W.Frag} {H : Hp} {x : V} {t : Value} {C : Addr} {b : Bool} {Q : VK} (ht : TyY K H x t) (hk : PySem.W.kitOne K t (.ref C) = some b) (q : Q (.bl b) H) : rIsY K [x, .ref C] H Q := ⟨x, .ref C, t, .ref C, b, rfl, .own C, ht, hk, q⟩
end L2
namespace L2
open PySem PySem.Spec PyProof.Rows Evt
/-! ### own exceptions: facts of a class, raise, calls that may raise -/
/-- the class at C, called x, over the class at S, without a method of its own -/
structure Ex1 (K : PySem.W.Frag) (mg : Str → Option Value) (C S : Addr) (x : Str) : Prop where
  g : mg x = some (.ref C)
  xin : PySem.W.excIn K C [.type "ValueError", .type "Exception", .type "BaseException", .type "object"] "ValueError.__new__" = true
  kp : PySem.W.keepIn K (.ref C) = true
  sb : PySem.W.subIn K (.ref C) (.type "BaseException") = some true
  ty : PySem.W.typeIn K (.ref C) = some (.type "type")
  ec : ExcC K C
  em : PySem.W.exmOne K (.ref C) (.ref S) = some true
section
variable {X : Cx} {k : Nat} {ps : List Str} {sp : Sp} {x : Str} {p pos pos2 : Pos} {e : Expr} {es : List Expr} {t : TA} {E : XK} {W : WX} {C S : Addr} {te : TE}
theorem pe_fnX (F : Fn X.prog X.w X.K X.mg X.base x ps (L2.CX X.prog X.w) k sp) (hr : Room k X.A) (hx : Passes (L2.CX X.prog X.w) X E) (ha : PA X (e :: es) t) (hg : Gl X x := by rfl) (hdb : (x == ("__debug__" : Str)) = false := by decide)
    (he : starEach (e :: es) X.env = (false, eval e X.env) :: starEach es X.env := by rfl) (hpl : (backTo pos (starEach es X.env)).any (·.1) = false := by rfl) :
    PE X (.Call (.Name x p) (e :: es) [] pos) (tCall sp [] E t) := by
  obtain ⟨f, fd, h1, h2, h3, h4⟩ := F
  exact pe_call h1 hr hg h2 h3 h4 .nil hx ha hdb he hpl
theorem pe_fnS (F : Fn X.prog X.w X.K X.mg X.base x ps (L2.CX X.prog X.w) k sp) (hr : Room k X.A) (tk : Takes X W) (ha : PA X (e :: es) t) (hg : Gl X x := by rfl) (hdb : (x == ("__debug__" : Str)) = false := by decide)
    (he : starEach (e :: es) X.env = (false, eval e X.env) :: starEach es X.env := by rfl) (hpl : (backTo pos (starEach es X.env)).any (·.1) = false := by rfl) :
    PE X (.Call (.Name x p) (e :: es) [] pos) (tCallS sp (WE W) t) := by
  obtain ⟨f, fd, h1, h2, h3, h4⟩ := F
  exact pe_callS h1 hr hg h2 h3 h4 (fun σ => passAt tk σ) ha hdb he hpl
/-- raise C(e) -/
def tRaise1 (C : Addr) (W : WX) (te : TE) : TS := fun _ σ H => te σ H fun _ H1 => W (.ref C) none σ H1
theorem ps_raise1 (hc : X.calm = true) (T : Ex1 X.K X.mg C S x) (tk : Takes X W) (he : PE X e te) (hg : Gl X x := by rfl) (hs : starEach [e] X.env = (false, eval e X.env) :: starEach [] X.env := by rfl) (hdb : (x == ("__debug__" : Str)) = false := by decide) :
    PS X (.Raise (some (.Call (.Name x p) [e] [] pos)) none pos2) (tRaise1 C W te) := ps_raise hc tk (SkE.pmk_own1 PySem.F.excBase_ValueError T.xin T.g T.kp (raises_own T.sb T.ty) hg he hs hdb)
end
def NewD (H : Hp) (o : Addr → HO) (R : Addr → Hp → Prop) : Prop := ∀ p, H p = none → R p (upd H p (o p))
theorem newD_of {H : Hp} {o : Addr → HO} {R : Addr → Hp → Prop} (h : ∀ p H', H p = none → Ex H H' → H' p = some (o p) → R p H') : NewD H o R := fun p np => h p _ np (Ex.new np) upd_same
theorem wKeep_eq {K : PySem.W.Frag} {c : Value} {i j : Nat} {D : Ends} {cls : Value} {d : Option Addr} {σ : St} {H : Hp} :
    wKeep K c i j D cls d σ H = (PySem.W.exmOne K cls c = some true ∧ NewD H (ExK cls d) fun a H1 => D.nx (((σ.set i (some (.ref a))).set j (some (.ref a))).set i none) H1) := rfl
theorem str_len (a b : Str) : (a ++ b).length = a.length + b.length := PySem.Str.length_append a b
theorem int_len {i : Int} (h : i.natAbs < 2 ^ 1000) : i.natAbs.log2 < 1920 ∧ (Str.ofString (toString i)).length ≤ 2000 := by
  have hl : i.natAbs.log2 < 1000 := by
    by_cases z : i.natAbs = 0
    · rw [z]
      decide
    · exact (Nat.log2_lt z).mpr h
  refine ⟨by omega, ?_⟩
  have q := int_text_length_le (a := i) (k := 1000) (by decide) hl
  rw [PySem.ofString_length]
  omega
end L2
namespace L2
open PySem PySem.Spec PyProof.Rows Evt
theorem isy_ty {K : PySem.W.Frag} {H : Hp} {x : V} {s n : String} {b : Bool} {Q : VK} (ht : TyX K H x (.type s)) (hk : kitB s n = some b) (q : Q (.bl b) H) : rIsY K [x, .ty n] H Q := isy (.base ht) (kit_ty hk) q
theorem isy_int {K : PySem.W.Frag} {H : Hp} {i : Int} {n : String} {b : Bool} {Q : VK} (hk : kitB "int" n = some b) (q : Q (.bl b) H) : rIsY K [.int i, .ty n] H Q := isy_ty (.base (.int i)) hk q
theorem str_empty : Str.empty.length = 0 := rfl
theorem rNe_str {a b : Str} {H : Hp} {Q : VK} : rNe (.str a) (.str b) H Q = Q (.bl (!decide (a = b))) H := by
  have e : decide (V.str a = V.str b) = decide (a = b) := by simp
  refine propext ⟨fun h => ?_, fun q => ⟨rfl, ?_⟩⟩
  · have h2 := h.2
    rw [e] at h2
    exact h2
  · rw [e]
    exact q
theorem rEq_str {a b : Str} {H : Hp} {Q : VK} : rEq (.str a) (.str b) H Q = Q (.bl (decide (a = b))) H := by
  have e : decide (V.str a = V.str b) = decide (a = b) := by simp
  refine propext ⟨fun h => ?_, fun q => ⟨rfl, ?_⟩⟩
  · have h2 := h.2
    rw [e] at h2
    exact h2
  · rw [e]
    exact q
theorem rEq_bl {a b : Bool} {H : Hp} {Q : VK} : rEq (.bl a) (.bl b) H Q = Q (.bl (decide (a = b))) H := by
  have e : decide (V.bl a = V.bl b) = decide (a = b) := by simp
  refine propext ⟨fun h => ?_, fun q => ⟨rfl, ?_⟩⟩
  · have h2 := h.2
    rw [e] at h2
    exact h2
  · rw [e]
    exact q
end L2
namespace L2
open PySem PySem.Spec PyProof.Rows Evt
def tDictN : TE := fun _ H Q => New H (.dK []) fun p H2 => Q (.ref p) H2
theorem pe_dnewN {X : Cx} {pos : Pos} : PE X (.Dict [] [] pos) tDictN := pe_dnewK
theorem tyx_mono {K : PySem.W.Frag} {H H' : Hp} {x : V} {t : Value} (e : Ex H H') (h : TyX K H x t) : TyX K H' x t := by
  cases h with
  | base h =>
    cases h with
    | non => exact .base .non
    | bl b => exact .base (.bl b)
    | int i => exact .base (.int i)
    | str z => exact .base (.str z)
    | flt z => exact .base (.flt z)
    | lst q => exact .base (.lst (e _ _ q))
    | frz q => exact .base (.frz (e _ _ q))
    | tup q => exact .base (.tup (e _ _ q))
    | dK q => exact .base (.dK (e _ _ q))
    | dT q => exact .base (.dT (e _ _ q))
    | ins q c1 c2 c3 c4 c5 => exact .base (.ins (e _ _ q) c1 c2 c3 c4 c5)
  | byt b => exact .byt b
  | set q => exact .set (e _ _ q)
  | kList q c => exact .kList q c
  | kTuple q c => exact .kTuple q c
  | kDict q c => exact .kDict q c
  | fTuple q => exact .fTuple (e _ _ q)
  | fDict q => exact .fDict (e _ _ q)
end L2
namespace L2
open PySem PySem.Spec PyProof.Rows Evt
/-- one statement at a time -/
theorem cut_eq {t u : TS} {D : Ends} {σ : St} {H : Hp} (h : ∀ N, u D = N → t { D with nx := N } σ H) : tSeq t u D σ H := h _ rfl
theorem asg_eq {te : TE} {g : TG} {D : Ends} {σ : St} {H : Hp} (h : ∀ N : VK, (fun x H1 => g x σ H1 D.nx) = N → te σ H N) : tAsg te g D σ H := h _ rfl
theorem ret_eq {te : TE} {D : Ends} {σ : St} {H : Hp} (h : ∀ N : VK, D.rt = N → te σ H N) : tRet te D σ H := h _ rfl
end L2
namespace L2
open PySem PySem.Spec PyProof.Rows Evt
section
variable {K : PySem.W.Frag} {t : Value} {C : Addr} {b : Bool}
theorem kitCls_own (h1 : PySem.W.isClsIn K C = true) (h2 : PySem.W.typeIn K (.ref C) = some (.type "type")) (h3 : PySem.W.subIn K t (.ref C) = some b) : PySem.W.kitCls K t (.ref C) = some b := by
  have e : ((PySem.W.clsIn K C).isSome && PySem.W.typeIn K (.ref C) == some (.type "type")) = true := by
    have h1' : (PySem.W.clsIn K C).isSome = true := h1
    rw [h1', h2]
    rfl
  show (if _ then _ else _) = _
  rw [if_pos e]
  exact h3
theorem kitOne_own (self : PySem.W.subIn K t t = some true) (h1 : PySem.W.isClsIn K C = true) (h2 : PySem.W.typeIn K (.ref C) = some (.type "type")) (h3 : PySem.W.subIn K t (.ref C) = some b) : PySem.W.kitOne K t (.ref C) = some b := by
  unfold PySem.W.kitOne
  by_cases h : (t == Value.ref C) = true
  · have e : t = .ref C := beq_iff_eq.mp h
    rw [if_pos h]
    rw [← e, self] at h3
    exact h3
  · rw [if_neg h]
    exact kitCls_own h1 h2 h3
theorem kitOne_ty {n : String} {D : Addr} (hm : PySem.W.kitMeta n = true) (h3 : PySem.W.subIn K (.ref D) (.type n) = some b) : PySem.W.kitOne K (.ref D) (.type n) = some b := by
  unfold PySem.W.kitOne
  rw [if_neg (by intro q; exact nomatch (beq_iff_eq.mp q))]
  show (if _ then _ else _) = _
  rw [if_pos hm]
  exact h3
theorem exm_own (h0 : PySem.W.subIn K (.ref C) (.type "BaseException") = some true) (h1 : PySem.W.isClsIn K C = true) (h2 : PySem.W.typeIn K (.ref C) = some (.type "type")) (h3 : PySem.W.subIn K t (.ref C) = some b) : PySem.W.exmOne K t (.ref C) = some b := by
  unfold PySem.W.exmOne
  rw [h0, if_pos (by rfl)]
  exact kitCls_own h1 h2 h3
theorem kitAny_no {cs : List Value} (h : ∀ c ∈ cs, PySem.W.kitOne K t c = some false) : PySem.W.kitAny K t cs = some false := by
  induction cs with
  | nil => rfl
  | cons c r ih => exact kitAny_cons (h c List.mem_cons_self) (fun _ => ih fun d hd => h d (List.mem_cons_of_mem _ hd)) (fun z => nomatch z)
end
end L2
/-! ### own classes: methods by the instance's class, a def read off a class, fields -/
namespace L2
open PySem PySem.Spec PyProof.Rows Evt
/-- each class of Cs has the method m; the promise hangs on the class -/
def Virt (P : Program) (w : World) (K : PySem.W.Frag) (mg : Str → Option Value) (base : Heap) (CX : CXT) (k : Nat) {ι : Type} (m : Str) (ps : List Str) (Cs : List (Addr × ι)) (sp : ι → Sp) : Prop :=
  ∀ C ∈ Cs, Cls K C.1 ∧ ∃ (f : Addr) (fd : FuncData), Meth K C.1 m f ∧ FnOk P w K mg base CX k f fd ps (sp C.2) ∧ Binds K fd ps []
def tVirt {ι : Type} (Cs : List (Addr × ι)) (m : Str) (sp : ι → Sp) (E : St → XK) (ta : TE) (t : TA) : TE := fun σ H Q => ta σ H fun x H1 => ∃ a C i dx fs, x = .ref a ∧ (C, i) ∈ Cs ∧ H1 a = some (.ins C dx fs) ∧ fs.lookup m = none ∧ t σ H1 fun vs H2 => sp i (x :: vs) H2 Q (E σ)
section
variable {X : Cx} {CX : CXT} {k : Nat} {ps : List Str} {ι : Type} {sp : ι → Sp} {E : St → XK} {m : Str} {apos pos : Pos} {o e : Expr} {es : List Expr} {ta : TE} {t : TA} {Cs : List (Addr × ι)} {pl : Sem Bool}
theorem pe_virt (V : Virt X.prog X.w X.K X.mg X.base CX k m ps Cs sp) (hr : Room k X.A) (hx : ∀ σ, PassesAt CX X σ (E σ)) (he : PE X o ta) (ha : PA X (e :: es) t)
    (hst : starEach (e :: es) X.env = (false, eval e X.env) :: starEach es X.env := by rfl) (hpl : (backTo pos (starEach es X.env)).any (·.1) = false := by rfl)
    (ht : eval (.Call (.Attribute o m apos) (e :: es) [] pos) X.env = (do let ov ← eval o X.env; standAt apos.atName; let (f, first) ← holding [ov] (getMethod ov m pl); callWith pos f first (backTo pos (starEach (e :: es) X.env)) (backToKw pos (keywordEach [] X.env))) := by rfl) :
    PE X (.Call (.Attribute o m apos) (e :: es) [] pos) (tVirt Cs m sp E ta t) := by
  refine ⟨fun pins s σ H Q I h => PySem.W.methodCall_KW (pl := pl) (thn (he.run pins s σ H _ I h) fun u s1 ⟨x, H1, I1, rx, a, C, i, dx, fs, ex, hC, ea, l, q⟩ => ?_) ht⟩
  subst ex
  obtain rfl : u = Value.ref a := rx
  obtain ⟨c, f, fd, hm, F, hb⟩ := V (C, i) hC
  refine getmeth_ok I1 ea c hm l (PySem.W.callWith_K (first := [.ref a]) (h₀ := X.base) I.ok.mod.kin hm.kp (thn (ha.run pos pins s1 σ H1 _ I1 q) fun us s2 ⟨vs, H2, I2, r, q2⟩ => ⟨I2.kIn, ?_⟩) hst hpl)
  exact run_fnSD (dvs := []) (us := .ref a :: us) (vs := .ref a :: vs) F hr hb .nil (hx σ) I2 (.cons rfl r) (by rw [List.append_nil]; exact q2)
theorem pe_virt0 (V : Virt X.prog X.w X.K X.mg X.base CX k m ps Cs sp) (hr : Room k X.A) (hx : ∀ σ, PassesAt CX X σ (E σ)) (he : PE X o ta)
    (ht : eval (.Call (.Attribute o m apos) [] [] pos) X.env = (do let ov ← eval o X.env; standAt apos.atName; let (f, first) ← holding [ov] (getMethod ov m pl); callWith pos f first (backTo pos (starEach [] X.env)) (backToKw pos (keywordEach [] X.env))) := by rfl) :
    PE X (.Call (.Attribute o m apos) [] [] pos) (tVirt Cs m sp E ta tNil) := by
  refine ⟨fun pins s σ H Q I h => PySem.W.methodCall_KW (pl := pl) (thn (he.run pins s σ H _ I h) fun u s1 ⟨x, H1, I1, rx, a, C, i, dx, fs, ex, hC, ea, l, q⟩ => ?_) ht⟩
  subst ex
  obtain rfl : u = Value.ref a := rx
  obtain ⟨c, f, fd, hm, F, hb⟩ := V (C, i) hC
  refine getmeth_ok I1 ea c hm l (PySem.W.callWith_K0 (first := [.ref a]) I1.kIn hm.kp ?_)
  exact run_fnSD (dvs := []) (us := [.ref a]) (vs := [.ref a]) F hr hb .nil (hx σ) I1 (.cons rfl .nil) q
/-- C.m(..), m a def of the class at C or of one above it -/
structure Off (P : Program) (w : World) (K : PySem.W.Frag) (mg : Str → Option Value) (base : Heap) (CX : CXT) (k : Nat) (C : Addr) (m : Str) (ps : List Str) (sp : Sp) : Prop where
  rd : PySem.W.readsIn K C (.type "type") = true
  ga : PySem.W.specialIn K (.ref C) "__getattribute__" = some (some (.builtin "type.__getattribute__"))
  fn : ∃ (f : Addr) (fd : FuncData), PySem.W.findCls K (.ref C) (.type "type") m = some (.val (.ref f)) ∧ PySem.W.keepIn K (.ref f) = true ∧ FnOk P w K mg base CX k f fd ps sp ∧ Binds K fd ps []
def tOff (C : Addr) (sp : Sp) (E : St → XK) (ta : TE) (t : TA) : TE := fun σ H Q => ta σ H fun x H1 => x = .ref C ∧ t σ H1 fun vs H2 => sp vs H2 Q (E σ)
theorem pe_off {C : Addr} {sp : Sp} (V : Off X.prog X.w X.K X.mg X.base CX k C m ps sp) (hr : Room k X.A) (hx : ∀ σ, PassesAt CX X σ (E σ)) (he : PE X o ta) (ha : PA X (e :: es) t)
    (hst : starEach (e :: es) X.env = (false, eval e X.env) :: starEach es X.env := by rfl) (hpl : (backTo pos (starEach es X.env)).any (·.1) = false := by rfl)
    (ht : eval (.Call (.Attribute o m apos) (e :: es) [] pos) X.env = (do let ov ← eval o X.env; standAt apos.atName; let (f, first) ← holding [ov] (getMethod ov m pl); callWith pos f first (backTo pos (starEach (e :: es) X.env)) (backToKw pos (keywordEach [] X.env))) := by rfl) :
    PE X (.Call (.Attribute o m apos) (e :: es) [] pos) (tOff C sp E ta t) := by
  refine ⟨fun pins s σ H Q I h => PySem.W.methodCall_KW (pl := pl) (thn (he.run pins s σ H _ I h) fun u s1 ⟨x, H1, I1, rx, ex, q⟩ => ?_) ht⟩
  subst ex
  obtain rfl : u = Value.ref C := rx
  obtain ⟨f, fd, hf, kp, F, hb⟩ := V.fn
  refine PySem.W.method_cls I1.kIn V.ga (PySem.W.cls_value I1.kIn V.rd hf rfl ?_)
  have I1' := I1.tok (s1.toks + 1)
  refine PySem.W.callWith_K (first := []) (h₀ := X.base) I.ok.mod.kin kp (thn (ha.run pos pins _ σ H1 _ I1' q) fun us s2 ⟨vs, H2, I2, r, q2⟩ => ⟨I2.kIn, ?_⟩) hst hpl
  exact run_fnSD (dvs := []) F hr hb .nil (hx σ) I2 r (by rw [List.append_nil]; exact q2)
end
theorem sFld_eq {K : PySem.W.Frag} {ta tv : TE} {f : Str} {D : Ends} {σ : St} {H : Hp} : sFld K ta tv f D σ H = tv σ H fun y H1 => ta σ H1 fun x H2 => ∃ a C dx fs, x = .ref a ∧ H2 a = some (.ins C dx fs) ∧ Cls K C ∧ NoAttr K C f ∧ fs.length < 1000 ∧ Chg H2 a (.ins C dx (putF f y fs)) fun H3 => D.nx σ H3 := rfl
/-- a new instance of the class at C -/
def Made (H : Hp) (C : Addr) (R : Addr → Hp → Prop) : Prop := ∀ x dx, H x = none → H dx = none → dx ≠ x → R x (upd (upd H dx (.own x)) x (.ins C dx []))
theorem made_of {H : Hp} {C : Addr} {R : Addr → Hp → Prop} (h : ∀ x dx H', H x = none → Ex H H' → H' x = some (.ins C dx []) → R x H') : Made H C R := fun x dx nx nd ne => h x dx _ nx (Ex.mut (Ex.new nd) nx) upd_same
theorem tMake_eq {C : Addr} {sp : Sp} {dvs : List V} {E : XK} {t : TA} {σ : St} {H : Hp} {Q : VK} : tMake C sp dvs E t σ H Q = t σ H fun vs H1 => Made H1 C fun x H2 => sp (.ref x :: (vs ++ dvs)) H2 (fun v H3 => v = .non ∧ Q (.ref x) H3) E := rfl
section
variable {X : Cx} {K : PySem.W.Frag}
theorem k_fld {e : Expr} {f : Str} {pos : Pos} {ta : TE} (hK : X.K = K) (he : PE X e ta) (hb : attributeBase e f X.env (eval e X.env) = eval e X.env := by rfl) : PE X (.Attribute e f pos) (tFld K ta f) := hK ▸ pe_fld he hb
theorem k_sfld {o value : Expr} {f : Str} {pos pos' : Pos} {ta tv : TE} (hK : X.K = K) (ha : PE X o ta) (hv : PE X value tv) (hs : swapsWith value (some (.Attribute o f pos')) pos.line X.env = pure false) : PS X (.Assign [.Attribute o f pos'] value pos) (sFld K ta tv f) := hK ▸ ps_fld ha hv hs
theorem pass0At {E : XK} {σ : St} : PassesAt CX0 X σ E := fun _ _ _ _ _ _ h => h.elim
def rTupOf (K : PySem.W.Frag) : List V → Hp → VK → Prop := fun xs H Q => ∃ p ys, xs = [.ref p] ∧ ((SqL K H p ys ∧ New H (.tup ys) fun l H2 => Q (.ref l) H2) ∨ (SqT K H p ys ∧ Q (.ref p) H))
theorem k_tupof (hK : X.K = K) : CallR X (.type "tuple") (rTupOf K) := hK ▸ call_tuple_of
end
/-- what makes an instance -/
structure MakeF (P : Program) (w : World) (K : PySem.W.Frag) (mg : Str → Option Value) (base : Heap) (CX : CXT) (k : Nat) (C f : Addr) (fd : FuncData) (ps : List Str) (sp : Sp) : Prop where
  m : Mk K C f
  f : FnOk P w K mg base CX k f fd ps sp
  b : Binds K fd ps []
end L2
/-! ### a method that begins with  y = super().m() -/
namespace L2
open PySem PySem.Spec PyProof.Rows Evt
/-- what the top has left of it: its cell holds the class at D, its code object tells the file -/
structure SupF (K : PySem.W.Frag) (x qual : Str) (st : Stmt) (f : Addr) (fd : FuncData) (c cc D : Addr) (file : Str) : Prop where
  ex : ∃ (oc : Value) (od : Option Addr) (kV doc pm : Value) (an : Option Addr) (ct : Value) (osl : Array (Option Value)), fd = PySem.W.fnX x qual (defArgs st) (defBody st) (defScope st) [("__class__", cc)] .none kV doc pm an (.ref c) ct ∧ K.lookup f = some ⟨oc, od, .func fd, osl⟩
  code : ∃ (ccl : Value) (cdd : Option Addr) (vs : Array Value) (ccs : Array (Option Value)) (tf : Tok), K.lookup c = some ⟨ccl, cdd, .fields vs, ccs⟩ ∧ vs[2]? = some (.str file tf)
  cd : PySem.W.codeIn K (.ref c) qual = true
  cell : ∃ (cl : Value) (cld : Option Addr) (csl : Array (Option Value)), K.lookup cc = some ⟨cl, cld, .cell (some (.ref D)), csl⟩
  cls : ∃ cdD, PySem.W.clsIn K D = some cdD
abbrev supNF (x qual : Str) (st : Stmt) (c cc : Addr) : NdefX.NF := ⟨x, qual, defArgs st, defBody st, defScope st, [("__class__", cc)], c⟩
theorem SupF.binds {K : PySem.W.Frag} {x qual : Str} {st : Stmt} {f : Addr} {fd : FuncData} {c cc D : Addr} {file : Str} {ps : List Str} (F : SupF K x qual st f fd c cc D file)
    (h : ∀ (kV doc pm : Value) (an : Option Addr) (ct : Value) (us : List Value), us.length = ps.length → bindArgs (PySem.W.fnX x qual (defArgs st) (defBody st) (defScope st) [("__class__", cc)] .none kV doc pm an (.ref c) ct) ⟨us, []⟩ = pure (ps.zip us)) : Binds K fd ps [] := by
  obtain ⟨oc, od, kV, doc, pm, an, ct, osl, rfl, _⟩ := F.ex
  exact .all (h kV doc pm an ct)
theorem sup_of {CX : CXT} {P : Program} {w : World} {K : PySem.W.Frag} {mg : Str → Option Value} {base : Heap} {k : Nat} {x qual : Str} {st : Stmt} {f f2 : Addr} {fd fd2 : FuncData} {c cc D : Addr} {file : Str} {N : List Str} {sp spB : Sp} {y m : Str} {py p0 p1 apos pos spos : Pos} {rest : List Stmt} {j : Nat} {ar : Arg} {pl : Env → Sem Bool}
    (he : ∀ env : Env, eval (.Call (.Attribute (.Call (.Name "super" p0) [] [] p1) m apos) [] [] pos) env = (do
      let ov ← attributeBase (.Call (.Name "super" p0) [] [] p1) m env (eval (.Call (.Name "super" p0) [] [] p1) env)
      standAt apos.atName
      let (g, first) ← holding [ov] (getMethod ov m (pl env))
      callWith pos g first (backTo pos (starEach [] env)) []))
    (hsw : ∀ env : Env, swapsWith (.Call (.Attribute (.Call (.Name "super" p0) [] [] p1) m apos) [] [] pos) (some (.Name y py)) spos.line env = pure false)
    (F : SupF K x qual st f fd c cc D file) (S : NdefX.NScope N ((["self"] : List Str)) ["__class__"] (defScope st)) (hst : defBody st = .Assign [.Name y py] (.Call (.Attribute (.Call (.Name "super" p0) [] [] p1) m apos) [] [] pos) spos :: rest)
    (hp : ((defArgs st).posonlyargs ++ (defArgs st).args).head? = some ar) (har : ar.arg = "self")
    (hy : N[j]? = some y) (hyl : (defScope st).names.lookup y = some .local) (hks : (defScope st).names.lookup ("super" : Str) = some .globalImplicit) (hm : (m == ("__class__" : Str)) = false)
    (hfile : ((P.main.file : Str) == file) = true) (htop : (P.main.scope.names.lookup ("super" : Str)).isSome = false) (hsup : mg "super" = none) (hop : PySem.W.nsIn K cStatics "thirdparty.any" = some none)
    (FB : FnOk P w K mg base CX0 k f2 fd2 ["self"] spB) (bB : Binds K fd2 ["self"] []) (hf2 : PySem.W.fnIn K f2 = true) (ht2 : PySem.W.typeIn K (.ref f2) = some (.type "function"))
    (len : ∀ vs H Q E, sp vs H Q E → vs.length = ((["self"] : List Str)).length)
    (hbody : ∀ (A : Around) (outer : List Env) (s : Shared) (H : Hp) (vs : List V) (Q : VK) (E : XK), Room k (A.deeper (NdefX.envF (supNF x qual st c cc) f s.heap.objs.size)) → sp vs H Q E →
      ∃ (a C dx : Addr) (fs : List (Str × V)) (_ : Unit), vs = [.ref a] ∧ H a = some (.ins C dx fs) ∧ PySem.W.mroIn K C (.ref D) = some true ∧ PySem.W.ks_superIn K C D m = some (some (.ref f2)) ∧
        ∃ t, PSs (NdefX.ncx CX P w K mg base N (supNF x qual st c cc) f A outer s H E) rest t ∧ spB [.ref a] H (fun v H1 => t { nx := fun _ H' => Q .non H', rt := Q } ((NdefX.startF N vs [none]).set j (some v)) H1) E0) :
    FnOk P w K mg base CX (k + 1) f fd ((["self"] : List Str)) sp := by
  refine ⟨len, fun A outer s H args us vs Q E hr e0 hb r hsp => ?_⟩
  have hl := len _ _ _ _ hsp
  have KX : K.In s.heap := e0.mod.kin.keeps fun b o e => (e0.bs b o e).1
  have lim : s.heap.NoLimit := e0.mod.nolimit.keeps fun b o e => (e0.bs b o e).1
  obtain ⟨oc, od, kV, doc, pm, an, ct, osl, rfl, lk⟩ := F.ex
  obtain ⟨ccl, cdd, cvs, ccs, tf, lc, hcf⟩ := F.code
  obtain ⟨cl0, cld, csl, lcc⟩ := F.cell
  obtain ⟨cdD, hD⟩ := F.cls
  obtain ⟨a, C, dx, fs, _, rfl, ha, hmro, hsi, t, ht, q⟩ := hbody A outer s H vs Q E (hr.deeper _) hsp
  refine ks_codeAny_call_defAt (fd := PySem.W.fnX x qual (defArgs st) (defBody st) (defScope st) [("__class__", cc)] .none kV doc pm an (.ref c) ct) (body := defBody st) (binds := ((["self"] : List Str)).zip us) hr.depth (KX _ _ lk) rfl lim (PySem.W.codeRec_of KX F.cd) rfl hb S.nocell (fun ⟨n, _⟩ hz => S.par n (List.of_mem_zip hz).1) (fun h₁ hns kp => ?_) S.co S.gen S.kind
  have Cl : NdefX.CellsAt [("__class__", cc)] ["__class__"] [none] s.heap H := by
    have one : ∀ {z : Str} {d : Addr}, ([(("__class__" : Str), cc)] : List (Str × Addr)).lookup z = some d → z = "__class__" ∧ d = cc := fun {z d} e => by
      rw [List.lookup_cons] at e
      split at e
      · rename_i q
        cases e
        exact ⟨beq_iff_eq.mp q, rfl⟩
      · cases e
    refine ⟨rfl, fun z d e => ?_, fun z z' d e e' => ?_, fun i z e => ?_⟩
    · obtain ⟨rfl, rfl⟩ := one e
      exact ⟨(e0.bs _ _ (e0.mod.kin _ _ lcc)).2, _, _, KX _ _ lcc, rfl⟩
    · rw [(one e).1, (one e').1]
    · cases i with
      | zero =>
        cases e
        exact ⟨cc, rfl, fun v z => by cases z⟩
      | succ i => cases e
  have I : Inv (NdefX.ncx CX P w K mg base N (supNF x qual st c cc) f A outer s H E) [] (NdefX.startF N [.ref a] [none]) H { s with heap := h₁, toks := s.toks + (((["self"] : List Str)).zip us).length } := NdefX.inv_startN S hr.hd e0 hl r Cl hns kp
  generalize hX : NdefX.ncx CX P w K mg base N (supNF x qual st c cc) f A outer s H E = X at I ht
  have eA : X.A = A.deeper (NdefX.envF (supNF x qual st c cc) f s.heap.objs.size) := by rw [← hX]; rfl
  have eE : X.env = NdefX.envF (supNF x qual st c cc) f s.heap.objs.size := by rw [← hX]; rfl
  have fin : ∀ {s' : Shared} {σ' : St} {H' : Hp} {v : V} {u : Value}, Inv X [] σ' H' s' → RelV v u → Q v H' → CE outer P w H s Q u s' := by
    subst hX
    exact fun J rv q => ⟨_, _, J.os, J.bare, J.base, J.hok, rv, q⟩
  have last : ∀ (s' : Shared) (σ' : St) (H' : Hp), Inv X [] σ' H' s' → t { nx := fun _ H' => Q .non H', rt := Q } σ' H' → wpAny (model P w) X.A (execs rest X.env) (fun fl s' => CR CX outer P w H s Q E (.ok (.ret (match fl with | .ret v => v | _ => .none))) s') X.xe s' := by
    intro s' σ' H' I' q'
    have ep : X.prog = P := by rw [← hX]; rfl
    have ew : X.w = w := by rw [← hX]; rfl
    have run := ht.run [] s' σ' H' _ I' q'
    rw [ep, ew] at run
    refine wpAny_mono run (fun fl s' hs => ?_) fun e s' hs => hs
    cases fl with
    | ret u =>
      obtain ⟨v, σ', H', J, rv, q⟩ := hs
      exact fin J rv q
    | next =>
      obtain ⟨σ', H', J, q⟩ := hs
      exact fin (v := V.non) (u := Value.none) J rfl q
    | brk =>
      obtain ⟨_, _, _, q⟩ := hs
      exact False.elim q
    | cont =>
      obtain ⟨_, _, _, q⟩ := hs
      exact False.elim q
  -- the first statement
  show _root_.PySem.wpAt (model P w) (A.deeper (NdefX.envF (supNF x qual st c cc) f s.heap.objs.size)) (.func (defBody st) (NdefX.envF (supNF x qual st c cc) f s.heap.objs.size)) (execs (defBody st) (NdefX.envF (supNF x qual st c cc) f s.heap.objs.size)) _ _ _
  have xe : (fun e s' => wpAny (model P w) (A.deeper (NdefX.envF (supNF x qual st c cc) f s.heap.objs.size)) (leaving (NdefX.envF (supNF x qual st c cc) f s.heap.objs.size) e) (fun _ s'' => CX outer H s E e s'') (fun e' s'' => CX outer H s E e' s'') s') = X.xe := by rw [← hX]; rfl
  have hN0 : N[0]? = some (("self" : Str)) := by
    have z : (N.take 2)[0]? = some ("self" : Str) := by
      rw [show N.take 2 = _ from S.pre]
      rfl
    rw [List.getElem?_take_of_lt (by decide)] at z
    exact z
  obtain ⟨mloc, hnl, hval⟩ := I.loc
  have hsl : mloc "self" = some (.ref a) := by
    obtain ⟨u, ru, lo⟩ := hval 0 "self" (.ref a) (by rw [← hX]; exact hN0) (by rfl) (by rw [← hX]; exact .inl (S.par "self" (by simp)))
    obtain rfl : u = .ref a := ru
    rcases lo with ⟨_, z⟩ | ⟨z, _⟩
    · exact z
    · have z1 : X.env.kindOf "self" = some .local := by rw [eE]; exact S.par "self" (by simp)
      rcases z with z | z <;> rw [z1] at z <;> cases z
  obtain ⟨mA, O, _, _, _, _⟩ := ins_get I.hok ha
  obtain ⟨od, inst, _⟩ := O.look
  have KX1 : K.In h₁ := fun b o e => kp _ _ (KX b o e)
  obtain ⟨oD, hD1, hD2⟩ : ∃ oD, h₁.get? D = some oD ∧ oD.data = .cls cdD := by
    have hD := hD
    unfold PySem.W.clsIn at hD
    split at hD
    · rename_i ho
      cases hD
      exact ⟨_, KX1 _ _ ho, rfl⟩
    · cases hD
  rw [hst]
  refine ks_wpAt_execs_cons (ks_wpAt_Assign_Name (ks_wpAt_MethodCall ?_ (he _)) (hsw _))
  refine ks_wpAt_super_base (f := f) (cc := c) hks (S.frk _ (by simp)) hm rfl (KX1 _ _ lk) rfl hp rfl (KX1 _ _ lc) rfl hcf hfile htop ?_
  obtain ⟨mb, nb, bb⟩ := e0.mod.blt
  have kb : ∀ b o, base.get? b = some o → h₁.get? b = some o := fun b o e => kp _ _ (e0.bs b o e).1
  refine PySem.W.ks_loadName_global S.kind hks (Calls.loadGlobal_builtin (e0.mod.glob.keeps kb) hsup (nb.keeps kb) ((bb _ (by decide +kernel)).trans (by decide +kernel)) ⟨rfl, ?_⟩)
  refine wpAny_loadName_free S.kind (S.frk _ (by simp)) rfl ⟨_, KX1 _ _ lcc, rfl⟩ ?_
  rw [har]
  refine wpAny_loadName_local S.kind (S.par _ (by simp)) (by rw [eE] at hnl; exact hnl) hsl ?_
  refine ks_wpAny_isType_cls hD1 hD2 ⟨rfl, ?_⟩
  refine ks_wpAny_call_super hD1 hD2 inst.at_ inst.cls (fun cd e => ?_) (PySem.W.looks_mroIn KX1 hmro) (fun h' eso k2 => ?_)
  · have z := inst.no
    unfold PySem.W.notCls at z
    rw [e] at z
    exact Bool.noConfusion z
  -- the method of the class above
  have KX2 : K.In h' := fun b o e => k2 _ _ (KX1 b o e)
  obtain ⟨cdC, hC, hal⟩ : ∃ cdC, PySem.W.clsIn K C = some cdC ∧ PySem.W.alongIn K m ((cdC.mro.dropWhile (· != .ref D)).drop 1) = some (some (.ref f2)) := by
    have z := hsi
    unfold PySem.W.ks_superIn at z
    cases q : PySem.W.clsIn K C with
    | none => rw [q] at z; cases z
    | some cd => rw [q] at z; exact ⟨cd, rfl, z⟩
  obtain ⟨of, hof, hofc⟩ : ∃ of, h'.get? f2 = some of ∧ of.cls = .type "function" := by
    have z : (K.lookup f2).map (·.cls) = some (.type "function") := ht2
    cases q : K.lookup f2 with
    | none => rw [q] at z; cases z
    | some of => rw [q] at z; exact ⟨of, KX2 _ _ q, Option.some.inj z⟩
  refine ks_wpAny_getMethod_super eso (PySem.W.looks_opaque KX2 hop) (l₀ := cdC.mro) (fun A Q E s k q => wpAny_bind ((PySem.W.looks_clsIn KX2 hC) A _ E s k (wpAny_pure q))) rfl KX2 hal hof hofc (PySem.W.ks_ne KX1 inst hC) hm ?_
  have I2 := I.kept (h' := h'.push { cls := .type "method", data := .fields #[.ref f2, .ref a] }) (t' := s.toks + (((["self"] : List Str)).zip us).length + 1) fun b o e => Heap.get?_push_of_some _ (k2 _ _ e)
  refine PySem.W.callWith_M0 (q := h'.objs.size) (g := f2) (self := .ref a) ⟨Heap.get?_push_at rfl rfl, fun b o e => Heap.get?_push_of_some _ (KX2 b o e)⟩ hf2 ?_
  subst hX
  have run := FB.run (A.deeper (NdefX.envF (supNF x qual st c cc) f s.heap.objs.size)) (NdefX.envF (supNF x qual st c cc) f s.heap.objs.size :: outer) _ H ⟨[.ref a], []⟩ [.ref a] [.ref a] _ _ (hr.deeper _) I2.env0 (bB _ [.ref a] I2.kIn rfl) (.cons rfl .nil) q
  refine wpAny_call (codeAny_mono (ks_codeAny_call_bound (Heap.get?_push_at rfl rfl) run) fun r s3 hq => ?_)
  cases r with
  | error e => exact hq.elim
  | ok fl =>
    cases fl with
    | ret u =>
      obtain ⟨v, H3, I3, rv, q3⟩ := I2.after hq
      refine store_ok I3 S.nd hy (.inl hyl) rv (fun s4 I4 => wpAt_of_wpAny ?_) (.inr hyl)
      exact last s4 _ H3 I4 q3
    | next => exact False.elim hq
    | brk => exact False.elim hq
    | cont => exact False.elim hq
end L2
/-! ### a list comprehension whose element may raise -/
namespace L2
open PySem PySem.Spec PyProof.Rows Evt
theorem note_frame {e : Value} {a b : Env} (h : a.frame = b.frame) : noteFrame e a = noteFrame e b := by
  unfold noteFrame PySem.frameOf
  rw [h]
/-- what is wanted behind a block that takes the variables' namespace at C, in the frame fr -/
def blkEnd (M : Model) (A : Around) (E : Value → Shared → Prop) (Q : Value → Shared → Prop) (acc : Value) (C : Addr) (fr : Option Addr) (r : Result) (s' : Shared) : Prop :=
  ∃ m, s'.heap.Ns C m ∧ ∀ h', Heap.SameBut C s'.heap h' → match r with
    | .ok _ => Q acc { s' with heap := h' }
    | .error x => ∀ ce : Env, ce.frame = fr → wpAny M A (passOn "comprehension.variables-let-go" x ce : Sem Value) (fun _ _ => False) E { s' with heap := h' }
theorem comp_raising {M : Model} {A : Around} {E : Value → Shared → Prop} {s : Shared} {env : Env} {e : Expr} {scope : Scope} {pos : Pos} {newAcc first : Sem Value} {g : Comprehension} {gs : List Comprehension} {cl : List (Str × Addr)} {Q : Value → Shared → Prop}
    (hcl : clausesOf e = g :: gs) (hs : ∀ x, foldedSetIterable g.iter env x = pure x) (hclos : closureFor scope env = pure cl) (hkind : scope.kind = .function) (hnames : ∀ x ∈ scope.names, x.2 = .local → scope.names.lookup x.1 = some .local)
    (h : wpAny M A first (fun x s₁ => wpAny M A (pyIter x) (fun it s₂ => wpAny M A newAcc (fun acc s₃ => wpAny M A (newFunctionEnv scope env.globals cl [] env.qual none .none (some env))
      (fun ce s₄ => codeAny M A (.compStart e 0 it acc { ce with scope := relabel scope env }) (blkEnd M A E Q acc ce.locals ce.frame) s₄) E s₃) E s₂) E s₁) E s) :
    wpAny M A (comprehension e scope env pos newAcc false first none) Q E s := by
  unfold comprehension
  rw [hclos, hcl]
  refine wpAny_bind (wpAny_mono h (fun x s₁ h₁ => ?_) fun _ _ z => z)
  refine wpAny_bind (wpAny_standAt (wpAny_bind (wpAny_of_eq (hs x) (wpAny_bind (wpAny_holding (wpAny_mono h₁ (fun it s₂ h₂ => ?_) fun _ _ z => z))))))
  refine wpAny_standIf (wpAny_bind (wpAny_mono h₂ (fun acc s₃ h₃ => ?_) fun _ _ z => z))
  refine wpAny_bind (wpAny_pure (wpAny_bind (wpAny_mono h₃ (fun ce s₄ h₄ => ?_) fun _ _ z => z)))
  dsimp only
  have own : ∀ x ∈ (scope.names.filter fun x => (x.2 == .local || x.2 == .cell) && x.1 != (".0" : Str)).reverse, x.2 = .local → Env.kindOf { ce with scope := relabel scope env } x.1 = some .local :=
    fun x hx hl => lookup_relabel_local (hnames x (List.mem_filter.mp (List.mem_reverse.mp hx)).1 hl)
  refine wpAny_holding (wpAny_bind (wpAny_attempt (wpAny_holding (wpAny_run (codeAny_mono h₄ fun r s' hr => ?_)))))
  obtain ⟨m, hn, hr⟩ := hr
  cases r with
  | ok f => exact wpAny_bind (wpAny_holding (wpAny_comp_letGo (cenv := { ce with scope := relabel scope env }) hkind _ s' m own hn fun h' _ _ sb => wpAny_pure (hr h' sb)))
  | error x => exact wpAny_bind (wpAny_holding (wpAny_comp_letGo (cenv := { ce with scope := relabel scope env }) hkind _ s' m own hn fun h' _ _ sb => wpAny_mono (hr h' sb _ rfl) (fun _ _ f => f.elim) fun _ _ y => y))
/-- an exception that a call in the block lets out leaves the block -/
theorem blk_raised {X : Cx} {pins pins' : List (Addr × Obj)} {σ σ' : St} {H3 H' : Hp} {s3 s' s'' : Shared} {scope : Scope} {ce : Env} {fp : List Addr} {xe : Value → Shared → Prop} {E : XK} {Q : Value → Shared → Prop} {acc : Value} {u : Value}
    (I3 : Inv X pins σ H3 s3) (hst : X.stack = X.env :: X.outer) (hfr : X.env.frame = some X.env.locals) (tk : Takes X (fun cls d _ H => E cls d H)) (hC : ce.locals = s3.heap.objs.size) (hcf : ce.frame = X.env.frame)
    (f3 : ∀ b ∈ fp, FpOk X pins H3 b ∧ b < s3.heap.objs.size) (I : Inv ((X.blk s3 H3 scope ce fp).wish xe) pins' σ' H' s') (c : L2.CX X.prog X.w X.stack H' s' E u s'') :
    notedBy (model X.prog X.w) X.A ce (fun x s1 => blkEnd (model X.prog X.w) X.A X.xe Q acc ce.locals ce.frame (.error x) s1) u s'' := by
  obtain ⟨a, B, H2, cls, d, rfl, fl, hok, ub, na, os, ag, hE⟩ := c
  have base : Un (frs X.stack) fp H3 H' s3.heap s'.heap := I.base
  have frA : X.A.frames = some (X.env :: X.outer) := by rw [I3.ok.frames, hst]
  have free3 : s3.heap.get? ce.locals = none := by
    cases q : s3.heap.get? ce.locals with
    | none => rfl
    | some o => exact absurd (Heap.lt_size q) (by rw [hC]; exact Nat.lt_irrefl _)
  have notF : ce.locals ∉ frs X.stack := fun z => by
    obtain ⟨_, o, ho, _⟩ := I3.stack.mem z
    rw [free3] at ho
    cases ho
  have tC : H' ce.locals = none := I.free
  obtain ⟨m, ⟨oC, es, ep, gC, rC⟩, _⟩ := I.loc
  have gC : s'.heap.get? ce.locals = some oC := gC
  have bC : B.get? ce.locals = some oC := ub.keep _ _ gC tC notF
  have t2 : H2 ce.locals = none := ub.free _ _ gC tC
  show wpAny _ _ (noteFrame (.ref a) ce) _ _ _
  rw [note_frame hcf]
  rw [hst] at fl
  refine HandSPX.looks_onZ Zc.steady frA hfr fl fun h1 held up1 => ?_
  obtain ⟨st1, an1, ff1, oe, vs, T, oT, ts, he, hz, hd, e1, nT, hTe, hT, hdT, e3⟩ := held
  refine ⟨m, ⟨oC, es, ep, st1 _ _ bC, rC⟩, fun h' sb ce' hce => ?_⟩
  have aC : a ≠ ce.locals := fun z => by rw [z, bC] at an1; cases an1
  have TC : T ≠ ce.locals := fun z => by rw [z, bC] at nT; cases nT
  have he' : h'.get? a = some oe := (sb.2 a aC).trans he
  have hT' : h'.get? T = some oT := (sb.2 T TC).trans hT
  have hidden : ∀ b o, (PySem.W.hideAll B [ce.locals]).get? b = some o → B.get? b = some o ∧ b ≠ ce.locals := fun b o e => ⟨PySem.W.of_hideAll _ e, fun z => by
    rw [z, PySem.W.hideAll_none [ce.locals] (by simp)] at e
    cases e⟩
  have hide : ∀ b o, B.get? b = some o → b ≠ ce.locals → (PySem.W.hideAll B [ce.locals]).get? b = some o := fun b o e n => PySem.W.hideAll_get _ e (by simpa using n)
  have noB : ∀ b, B.get? b = none → (PySem.W.hideAll B [ce.locals]).get? b = none := fun b e => by
    cases q : (PySem.W.hideAll B [ce.locals]).get? b with
    | none => rfl
    | some o => rw [(hidden b o q).1] at e; cases e
  have held' : HandSPX.HeldZ (PySem.W.hideAll B [ce.locals]) X.stack a (Zc cls d) X.env.locals h' := by
    refine ⟨fun b o e => (sb.2 b (hidden b o e).2).trans (st1 b o (hidden b o e).1), noB _ an1, ?_, oe, vs, T, oT, ts, he', hz, hd, e1, noB _ nT, hTe, hT', hdT, e3⟩
    have go : ∀ l : List Env, (∀ L ∈ frs l, L ≠ ce.locals) → h1.FunFrames B l → h'.FunFrames (PySem.W.hideAll B [ce.locals]) l := by
      intro l
      induction l with
      | nil => exact fun _ _ => trivial
      | cons env l ih =>
        rintro nl ⟨hk, ⟨L, o, hf, hb, ho, hd⟩, hr⟩
        exact ⟨hk, ⟨L, o, hf, noB _ hb, (sb.2 L (nl L (List.mem_filterMap.mpr ⟨env, List.mem_cons_self, hf⟩))).trans ho, hd⟩, ih (fun L hL => nl L (by
          obtain ⟨e, he, q⟩ := List.mem_filterMap.mp hL
          exact List.mem_filterMap.mpr ⟨e, List.mem_cons_of_mem _ he, q⟩)) hr⟩
    rw [hst]
    exact go _ (fun L hL z => notF (by rw [hst, ← z]; exact hL)) ff1
  unfold PySem.passOn
  refine wpAny_bind (wpAny_field he' hd e1 ?_)
  rw [if_neg (by simp)]
  rw [hce, hcf, hfr]
  refine wpAny_bind (HandSPX.setFlight_onZ held' fun h2 held2 up2 => wpAny_throw (tk _ _ ?_))
  obtain ⟨G, g1, g2⟩ := restrict h2 fun b => ((PySem.W.hideAll B [ce.locals]).get? b).isSome || decide (b ∈ frs X.stack)
  have st2 := held2.1
  have gB : ∀ b o, B.get? b = some o → b ≠ ce.locals → G.get? b = some o := fun b o e n => by
    rw [g1 b (by simp [hide b o e n])]
    exact st2 b o (hide b o e n)
  have gF : ∀ b, b ∈ frs X.stack → G.get? b = h2.get? b := fun b hb => g1 b (by simp [hb])
  have og : ∀ b o, G.get? b = some o → h2.get? b = some o ∧ (((PySem.W.hideAll B [ce.locals]).get? b).isSome = true ∨ b ∈ frs X.stack) := fun b o e => by
    cases q : (((PySem.W.hideAll B [ce.locals]).get? b).isSome || decide (b ∈ frs X.stack)) with
    | false => rw [g2 b q] at e; cases e
    | true =>
      rw [g1 b q] at e
      exact ⟨e, by simpa [Bool.or_eq_true] using q⟩
  have n3 : ∀ b o, s3.heap.get? b = some o → b ≠ ce.locals := fun b o e z => by rw [z, free3] at e; cases e
  have frame : ∀ b o, s3.heap.get? b = some o → b ∈ frs X.stack → b ∉ fp → ∃ sl, G.get? b = some { o with slots := sl } := fun b o e hb hx => by
    obtain ⟨_, o0, e0, hnf⟩ := I3.stack.mem hb
    rw [e] at e0
    cases e0
    obtain ⟨sl, z1⟩ := base.slot b o e (I3.stkFree b hb) hb hx
    obtain ⟨sl2, z2⟩ := ub.slot b _ z1 hb
    obtain ⟨sl3, z3⟩ := up1 b _ z2 hnf
    have z4 : h'.get? b = some { o with slots := sl3 } := (sb.2 b (n3 b o e)).trans z3
    obtain ⟨sl5, z5⟩ := up2 b _ z4 hnf
    exact ⟨sl5, by rw [gF b hb]; exact z5⟩
  have un : Un (frs X.stack) fp H3 H2 s3.heap G := by
    refine ⟨fun b o e n hb hx => ?_, fun b o e n hb hx => frame b o e hb hx, fun b o e n hx => ?_, fun b o e hx => ?_, fun b xs e => ub.tups b xs (base.tups b xs e), fun b o xs e => ub.frzs b o xs (base.frzs b o xs e), fun b ps e => ?_⟩
    · exact gB b o (ub.keep b o (base.keep b o e n hb hx) (base.free b o e n hx) hb) (n3 b o e)
    · obtain ⟨sl, z⟩ := base.any e n hx
      exact ub.free b _ z (base.free b o e n hx)
    · by_cases hb : b ∈ frs X.stack
      · obtain ⟨sl, z⟩ := frame b o e hb hx
        exact ⟨_, z⟩
      · obtain ⟨o1, z1⟩ := base.there b o e hx
        obtain ⟨o2, z2⟩ := ub.there b o1 z1 hb
        exact ⟨o2, gB b o2 z2 (n3 b o e)⟩
    · obtain ⟨m1, z1⟩ := base.tbls b ps e
      obtain ⟨m2, z2⟩ := ub.tbls b _ z1
      exact ⟨m1 ++ m2, by rw [z2, Array.append_assoc]⟩
  have hokG : HOk X.prog X.w H2 G := fun b o q => (hok b o q).stay (fun c u hc r => gB c u r fun z => by
    rcases hc with hc | hc
    · rw [← hc, z, t2] at q
      cases q
    · rw [z, t2] at hc
      cases hc) (fun _ r => r) fun _ _ r => r
  have I9 : Inv X pins σ H2 { s'' with heap := G } := I3.call' (ch := fp) (os.trans I.os) un hokG ag fun b hb => ⟨(f3 b hb).1.2.2.2.1, (f3 b hb).1.2.1, (f3 b hb).1.2.2.2.2.1, (f3 b hb).1.2.2.2.2.2⟩
  refine ⟨a, PySem.W.hideAll B [ce.locals], { s'' with heap := G }, pins, σ, H2, cls, d, rfl, I9, fun b o e hb => ?_, Heap.UpToSlots.of_keeps fun b o e => (og b o e).1, .inr (.inr held2), na, rfl, ag, hE⟩
  obtain ⟨e', h⟩ := og b o e
  rcases h with h | h
  · obtain ⟨o', q⟩ := Option.isSome_iff_exists.mp h
    have z := st2 b o' q
    rw [e'] at z
    cases z
    exact q
  · exact absurd h hb
/-- [elt for target in iter if ..], the element may let out what E tells -/
theorem pe_lcX {X : Cx} {elt tg iter : Expr} {ifs : List Expr} {scope : Scope} {own : List (Str × Nat)} {pos : Pos} {wi : TI} {g : TG} {tt : TT} {te : TE} {E : XK} (hc : X.calm = true) (hN : X.N.Nodup) (hst : X.stack = X.env :: X.outer) (hfr : X.env.frame = some X.env.locals) (tk : Takes X (fun cls d _ H => E cls d H))
    (hi : PI X tg iter wi) (ok : BlkOk X.N X.env.scope scope own)
    (hg : ∀ (s : Shared) (H : Hp) (C : Addr) (cl : List (Str × Addr)) (fp : List Addr) (xe : Value → Shared → Prop), PG ((X.blk s H scope (compEnvC scope cl C X.env) fp).wish xe) tg g)
    (ht : ∀ (s : Shared) (H : Hp) (C : Addr) (cl : List (Str × Addr)) (fp : List Addr) (xe : Value → Shared → Prop), PTs ((X.blk s H scope (compEnvC scope cl C X.env) fp).wish xe) ifs tt)
    (he : ∀ (s : Shared) (H : Hp) (C : Addr) (cl : List (Str × Addr)) (fp : List Addr) (xe : Value → Shared → Prop), Passes (L2.CX X.prog X.w) ((X.blk s H scope (compEnvC scope cl C X.env) fp).wish xe) E → PE ((X.blk s H scope (compEnvC scope cl C X.env) fp).wish xe) elt te)
    (hs : ∀ x, foldedSetIterable iter X.env x = pure x := by intro _; rfl) : PE X (.ListComp elt [⟨tg, iter, ifs, 0⟩] scope pos) (tLc wi g tt te (own.map (·.2))) := by
  refine ⟨fun pins s σ H Q I h => ?_⟩
  rw [eval_ListComp]
  have caught : ∀ y ∈ scope.names, y.2 = .free → ∃ c, X.env.cells.lookup y.1 = some c := fun y hy e => (ok.free y hy e).elim (fun k => I.ok.has _ (.inl k)) fun k => I.ok.has _ (.inr k)
  refine comp_raising rfl hs (closure_ok caught) ok.kind (fun y hy e => by rw [ok.uniq y hy, e]) (thn (hi.run pins s σ H _ I h) fun xv s1 hx => thn hx fun itv s2 h2 => ?_)
  obtain ⟨it, fp, tn, J, H2, rfl, I2, T, st2, f2, q⟩ := h2
  refine wpAny_newObj_type (newEnv_comp ?_) (by show 0 ≤ sizeLine; decide)
  -- the list that grows
  obtain ⟨D, hD⟩ : ∃ D, D = s2.heap.objs.size := ⟨_, rfl⟩
  obtain ⟨s3, hs3⟩ : ∃ s3 : Shared, s3 = { s2 with heap := s2.heap.push { cls := .type "list", data := .seq ([] : List Value).toArray } } := ⟨_, rfl⟩
  obtain ⟨W, ⟨m0, w0⟩, turn⟩ := q D (I2.hok.fresh (Nat.le_of_eq hD.symm))
  have h3 : s3.heap = s2.heap.push { cls := .type "list", data := .seq ([] : List Value).toArray } := by rw [hs3]
  have I3 : Inv X pins σ (upd H2 D (.lst [])) s3 := by
    rw [hs3, hD]
    exact I2.laid (t' := s2.toks) (fun b o e => Heap.get?_push_of_some _ e) (Nat.le_refl _) ⟨Nat.zero_le _, [], 0, .nil, Heap.get?_push_size _ rfl⟩
  have f3 : ∀ b ∈ fp, FpOk X pins (upd H2 D (.lst [])) b ∧ b < s3.heap.objs.size := fun b hb => by
    obtain ⟨o, e, _⟩ := T.obj _ _ st2 b hb
    have lt := Heap.lt_size e
    refine ⟨⟨?_, (f2 b hb).2⟩, by rw [h3, Heap.size_push]; exact Nat.lt_succ_of_lt lt⟩
    rw [upd_ne (by rw [hD]; exact Nat.ne_of_lt lt)]
    exact (f2 b hb).1
  have st3 : tn 0 s3.heap := T.keep _ _ _ st2 fun b _ o e => by rw [h3]; exact Heap.get?_push_of_some _ e
  have I4 := block_start I3 ok hN f3
  rw [← hs3, ← hD]
  obtain ⟨ce, hce⟩ : ∃ ce, ce = compEnvC scope (cellsFrom (s3.heap.objs.size + 1) scope.names (cloFrom X.env.cells scope.names [])) s3.heap.objs.size X.env := ⟨_, rfl⟩
  have cL : ce.locals = s3.heap.objs.size := by rw [hce]; rfl
  have cF : ce.frame = X.env.frame := by rw [hce]; rfl
  obtain ⟨s4, hs4⟩ : ∃ s4 : Shared, s4 = { s3 with heap := pushCells (s3.heap.push { cls := .type "dict", data := .dict #[] }) scope.names } := ⟨_, rfl⟩
  show codeAny _ _ (.compStart (.ListComp elt [⟨tg, iter, ifs, 0⟩] scope pos) 0 (.ref it) (.ref D) (compEnvC scope (cellsFrom (s3.heap.objs.size + 1) scope.names (cloFrom X.env.cells scope.names [])) s3.heap.objs.size X.env)) (blkEnd (model X.prog X.w) X.A X.xe (EP X pins σ Q) (.ref D) s3.heap.objs.size X.env.frame) { s3 with heap := pushCells (s3.heap.push { cls := .type "dict", data := .dict #[] }) scope.names }
  have pg := hg s3 (upd H2 D (.lst [])) s3.heap.objs.size (cellsFrom (s3.heap.objs.size + 1) scope.names (cloFrom X.env.cells scope.names [])) fp
  have pt := ht s3 (upd H2 D (.lst [])) s3.heap.objs.size (cellsFrom (s3.heap.objs.size + 1) scope.names (cloFrom X.env.cells scope.names [])) fp
  have pe := he s3 (upd H2 D (.lst [])) s3.heap.objs.size (cellsFrom (s3.heap.objs.size + 1) scope.names (cloFrom X.env.cells scope.names [])) fp
  rw [← hs4, ← hce, ← cL, ← cF]
  rw [← hs4, ← hce] at I4
  rw [← hce] at pg pt pe
  obtain ⟨H3, hH3⟩ : ∃ H3, H3 = upd H2 D (.lst []) := ⟨_, rfl⟩
  rw [← hH3] at I3 I4 pg pt pe w0 f3
  -- what an exception of the block must reach
  obtain ⟨xe, hxe⟩ : ∃ xe : Value → Shared → Prop, xe = notedBy (model X.prog X.w) X.A ce fun x s1 => blkEnd (model X.prog X.w) X.A X.xe (EP X pins σ Q) (.ref D) ce.locals ce.frame (.error x) s1 := ⟨_, rfl⟩
  have pe := pe xe fun pins' σ' H' s' e s'' I' c => by
    show xe e s''
    rw [hxe]
    exact blk_raised I3 hst hfr tk cL cF f3 I' c
  have pg := pg xe
  have pt := pt xe
  have st4 : tn 0 s4.heap := T.keep _ _ _ st3 fun b _ o e => by rw [hs4]; exact pushCells_keeps _ _ _ _ (Heap.get?_push_of_some _ e)
  have nfp : ∀ b ∈ fp, H3 b = none := fun b hb => (f3 b hb).1.1
  obtain ⟨Y, hY⟩ : ∃ Y, Y = (X.blk s3 H3 scope ce fp).wish xe := ⟨_, rfl⟩
  have I4 : Inv Y [] (wipe σ (own.map (·.2))) H3 s4 := by rw [hY]; exact I4.wish xe
  rw [← hY] at pg pt pe
  have stat : ∀ {σ' : St} {H' : Hp} {s' : Shared}, Inv Y [] σ' H' s' → (∀ b ∈ fp, H' b = none) → ∀ b ∈ fp, FpOk Y [] H' b := by
    subst hY
    exact fun {σ' H' s'} I' hn b hb => ⟨hn b hb, (I'.ok.exf b hb).1, I'.ok.exfs b hb, .inl hb, fun x c e => (I'.ok.exf b hb).2 x c e, fun p hp => absurd (show p ∈ ([] : List (Addr × Obj)) ++ [] from hp) (by simp)⟩
  have yP : Y.prog = X.prog := by rw [hY]
  have yW : Y.w = X.w := by rw [hY]
  have yA : Y.A = X.A := by rw [hY]
  have yK : Y.K = X.K := by rw [hY]
  have yE : Y.env = ce := by rw [hY]
  have yX : Y.xe = xe := by rw [hY]
  have loop : codeAny (model X.prog X.w) X.A (.compLoop (.ListComp elt [⟨tg, iter, ifs, 0⟩] scope pos) 0 (.ref it) (.ref D) ce) (blkEnd (model X.prog X.w) X.A X.xe (EP X pins σ Q) (.ref D) ce.locals ce.frame) s4 := by
    refine compLoop_any (fun n s' => ∃ i H', Inv Y [] (wipe σ (own.map (·.2))) H' s' ∧ tn i s'.heap ∧ (∀ b ∈ fp, H' b = none) ∧ W i n H') ?_ m0 ⟨0, H3, I4, st4, nfp, w0⟩
    rintro n s5 ⟨i, H5, I5, st5, n5, w5⟩
    rw [← hxe]
    rcases turn i n H5 w5 with ⟨stop, qq⟩ | ⟨go, Nx, hNx, step⟩
    · have td := T.done Y yP yW yK (by rw [hY]; exact hc) i [] s5 _ H5 (fun _ _ => False) I5 (stat I5 n5) st5 stop
      rw [yA] at td
      refine thnF td fun r s6 ⟨hr, I6⟩ => ?_
      subst hr
      rw [hY] at I6
      have I7 : Inv X pins σ H5 s6 := I3.call' (ch := fp) I6.os I6.base I6.hok I6.bare fun b hb => ⟨(f3 b hb).1.2.2.2.1, (f3 b hb).1.2.1, (f3 b hb).1.2.2.2.2.1, (f3 b hb).1.2.2.2.2.2⟩
      obtain ⟨f0, f1, f2', f3', f4, f5⟩ := I3.fpOk (b := ce.locals) (H' := H5) (Nat.le_of_eq cL.symm) I6.free
      obtain ⟨m, hn, _⟩ := I6.loc
      exact ⟨m, hn, fun h'' sb => ⟨.ref D, H5, I7.turned (t' := s6.toks) (fun b o hb e => (sb.2 b hb).trans e) f0 f1 f3' f4 f5, rfl, qq⟩⟩
    · have ti := T.item Y yP yW yK (by rw [hY]; exact hc) i [] s5 _ H5 (fun _ _ => False) I5 (stat I5 n5) st5 go
      rw [yA] at ti
      refine thnF ti fun r s6 ⟨u, hr, h6⟩ => ?_
      subst hr
      refine thnF h6 fun _ s7 ⟨x, H7, I7, r7, y7, st7, n7⟩ => ?_
      have I7' := I7.pinned (stat I7 n7) (T.obj _ _ st7)
      have rg := pg.run _ s7 _ H7 x u _ I7' r7 (step x H7 y7)
      rw [yP, yW, yA, yE, yX] at rg
      refine thn rg fun _ s8 ⟨σ8, H8, I8, hw8, q8⟩ => ?_
      have rt := pt.run _ s8 σ8 H8 _ I8 q8
      rw [yP, yW, yA, yE, yX] at rt
      refine thn rt fun b s9 ⟨H9, I9, q9⟩ => ?_
      have fin : ∀ {s' : Shared} {H' : Hp}, Inv Y ([] ++ pinsAt fp s7.heap) σ8 H' s' → Nx H' → ∃ m, m < n ∧ ∃ i H', Inv Y [] (wipe σ (own.map (·.2))) H' s' ∧ tn i s'.heap ∧ (∀ b ∈ fp, H' b = none) ∧ W i m H' := fun {s' H'} I' nx => by
        obtain ⟨m', hm, w'⟩ := hNx H' nx
        have still : ∀ b ∈ fp, ∀ o, s7.heap.get? b = some o → s'.heap.get? b = some o ∧ H' b = none := fun b hb o e =>
          have z := I'.pin (b, o) (List.mem_append_right _ (List.mem_append_right _ (mem_pinsAt hb e)))
          ⟨z.1, z.2.1⟩
        refine ⟨m', hm, i + 1, H', (I'.unpinned (pins := [])).weak (by rw [← hw8, wipe_length]) (fun j v e => ?_), T.keep _ _ _ st7 fun b hb o e => (still b hb o e).1, fun b hb => ?_, w'⟩
        · rw [← hw8] at e
          exact (wipe_some e).1
        · obtain ⟨o, e, _⟩ := T.obj _ _ st7 b hb
          exact (still b hb o e).2
      cases b with
      | false =>
        simp only [Bool.false_eq_true, if_false] at q9 ⊢
        exact fin I9 q9
      | true =>
        simp only [if_true] at q9 ⊢
        have re := pe.run _ s9 σ8 H9 _ I9 q9
        rw [yP, yW, yA, yE, yX] at re
        refine thn re fun z s10 ⟨yv, H10, I10, r10, acc, hD10, hz10, nx⟩ => ?_
        have ap := app_ok (X := Y) (E := xe) (Q := fun _ s5 => ∃ m, m < n ∧ ∃ i H', Inv Y [] (wipe σ (own.map (·.2))) H' s5 ∧ tn i s5.heap ∧ (∀ b ∈ fp, H' b = none) ∧ W i m H') I10 hD10 hz10 r10 fun s11 I11 => fin I11 nx
        rw [yP, yW, yA] at ap
        exact ap
  exact codeAny_compStart_list loop (T.self X.A 0 _ _ _ st4 loop)
end L2
namespace FW
open PySem PySem.Spec PyProof.Rows L2
def topS (i : Nat) : Stmt := PySem.Challenge.pw_flywright_k04_machines_and_boxes.main.body.getD i (.Pass ⟨0, 0, 0, 0⟩)
def bodyC : Stmt → List Stmt
  | .ClassDef (body := b) .. => b
  | _ => []
def clsS (i j : Nat) : Stmt := (bodyC (topS i)).getD j (.Pass ⟨0, 0, 0, 0⟩)
abbrev s_is_whole : Stmt := topS 16
theorem sc_is_whole : FnScope ["thing", "least", "most"] ["thing", "least", "most"] (defScope s_is_whole) := ⟨rfl, rfl, rfl, by decide +kernel, rfl, by decide +kernel, by decide +kernel⟩
abbrev s_need_whole : Stmt := topS 17
theorem sc_need_whole : FnScope ["thing", "least", "most", "what"] ["thing", "least", "most", "what"] (defScope s_need_whole) := ⟨rfl, rfl, rfl, by decide +kernel, rfl, by decide +kernel, by decide +kernel⟩
abbrev s_need_drive : Stmt := topS 18
theorem sc_need_drive : FnScope ["pace", "gain"] ["pace", "gain"] (defScope s_need_drive) := ⟨rfl, rfl, rfl, by decide +kernel, rfl, by decide +kernel, by decide +kernel⟩
abbrev s_is_name : Stmt := topS 26
theorem sc_is_name : FnScope ["thing", "sign"] ["thing"] (defScope s_is_name) := ⟨rfl, rfl, rfl, by decide +kernel, rfl, by decide +kernel, by decide +kernel⟩
abbrev s_need_lane : Stmt := topS 27
theorem sc_need_lane : FnScope ["lane"] ["lane"] (defScope s_need_lane) := ⟨rfl, rfl, rfl, by decide +kernel, rfl, by decide +kernel, by decide +kernel⟩
abbrev s_need_place : Stmt := topS 28
theorem sc_need_place : FnScope ["place", "what"] ["place", "what"] (defScope s_need_place) := ⟨rfl, rfl, rfl, by decide +kernel, rfl, by decide +kernel, by decide +kernel⟩
abbrev s_need_size : Stmt := topS 29
theorem sc_need_size : FnScope ["size", "what"] ["size", "what"] (defScope s_need_size) := ⟨rfl, rfl, rfl, by decide +kernel, rfl, by decide +kernel, by decide +kernel⟩
abbrev s_copied_walls : Stmt := topS 30
theorem sc_copied_walls : FnScope ["walls", "wall"] ["walls"] (defScope s_copied_walls) := ⟨rfl, rfl, rfl, by decide +kernel, rfl, by decide +kernel, by decide +kernel⟩
abbrev s_copied_wall : Stmt := topS 31
theorem sc_copied_wall : FnScope ["wall", "offset", "wide", "tall"] ["wall"] (defScope s_copied_wall) := ⟨rfl, rfl, rfl, by decide +kernel, rfl, by decide +kernel, by decide +kernel⟩
abbrev s__law_draw : Stmt := topS 38
theorem sc__law_draw : FnScope ["_law_script", "_law_k"] ["_law_script", "_law_k"] (defScope s__law_draw) := ⟨rfl, rfl, rfl, by decide +kernel, rfl, by decide +kernel, by decide +kernel⟩
abbrev s__law_spread : Stmt := topS 39
theorem sc__law_spread : FnScope ["_law_cell", "_law_k"] ["_law_cell", "_law_k"] (defScope s__law_spread) := ⟨rfl, rfl, rfl, by decide +kernel, rfl, by decide +kernel, by decide +kernel⟩
abbrev s__law_takes : Stmt := topS 40
theorem sc__law_takes : FnScope ["_law_own", "_law_low", "_law_high", "_law_shut"] ["_law_own", "_law_low", "_law_high"] (defScope s__law_takes) := ⟨rfl, rfl, rfl, by decide +kernel, rfl, by decide +kernel, by decide +kernel⟩
abbrev s__law_machine : Stmt := topS 41
theorem sc__law_machine : FnScope ["_law_own", "_law_common", "_law_name", "_law_least", "_law_greatest", "_law_pace", "_law_gain", "_law_place", "_law_lane", "_law_word"] ["_law_own"] (defScope s__law_machine) := ⟨rfl, rfl, rfl, by decide +kernel, rfl, by decide +kernel, by decide +kernel⟩
abbrev s__law_classes : Stmt := topS 42
theorem sc__law_classes : FnScope ["_law_caught", "_law_found", "_law_others"] ["_law_caught"] (defScope s__law_classes) := ⟨rfl, rfl, rfl, by decide +kernel, rfl, by decide +kernel, by decide +kernel⟩
abbrev s__law_drawn : Stmt := topS 43
theorem sc__law_drawn : FnScope ["_law_draw_here", "_law_k", "_law_great", "_law_lows", "_law_least", "_law_greatest", "_law_own", "_law_j", "_law_more"] ["_law_draw_here", "_law_k"] (defScope s__law_drawn) := ⟨rfl, rfl, rfl, by decide +kernel, rfl, by decide +kernel, by decide +kernel⟩
abbrev s__law_tail : Stmt := topS 44
theorem sc__law_tail : FnScope ["_law_own", "_law_shut"] ["_law_own"] (defScope s__law_tail) := ⟨rfl, rfl, rfl, by decide +kernel, rfl, by decide +kernel, by decide +kernel⟩
abbrev s__law_told_right : Stmt := topS 45
theorem sc__law_told_right : FnScope ["_law_machine_here", "_law_own", "_law_kinds", "_law_due", "_law_fields", "_law_wide", "_law_offset", "_law_row", "_law_word", "_law_one", "_law_shut"] ["_law_machine_here", "_law_own"] (defScope s__law_told_right) := ⟨rfl, rfl, rfl, by decide +kernel, rfl, by decide +kernel, by decide +kernel⟩
abbrev s__law_boxes_right : Stmt := topS 46
theorem sc__law_boxes_right : FnScope ["_law_machine_here", "_law_own", "_law_draw_here", "_law_middle", "_law_spots", "_law_one", "_law_found", "_law_other", "_law_due", "_law_odd"] ["_law_machine_here", "_law_own", "_law_draw_here"] (defScope s__law_boxes_right) := ⟨rfl, rfl, rfl, by decide +kernel, rfl, by decide +kernel, by decide +kernel⟩
abbrev s__law_place_refused : Stmt := topS 47
theorem sc__law_place_refused : FnScope ["_law_machine_here", "_law_place", "_law_good", "_law_words", "_law_kind", "_law_caught", "e"] ["_law_machine_here", "_law_place", "_law_good"] (defScope s__law_place_refused) := ⟨rfl, rfl, rfl, by decide +kernel, rfl, by decide +kernel, by decide +kernel⟩
abbrev s__law_spoilt : Stmt := topS 48
theorem sc__law_spoilt : FnScope ["_law_own", "_law_draw_here", "_law_odd", "_law_spots", "_law_word", "_law_bad", "_law_shut", "_law_some"] ["_law_own", "_law_draw_here"] (defScope s__law_spoilt) := ⟨rfl, rfl, rfl, by decide +kernel, rfl, by decide +kernel, by decide +kernel⟩
abbrev s__law_refused : Stmt := topS 49
theorem sc__law_refused : FnScope ["_law_own", "_law_draw_here", "_law_odd", "_law_caught", "e"] ["_law_own", "_law_draw_here"] (defScope s__law_refused) := ⟨rfl, rfl, rfl, by decide +kernel, rfl, by decide +kernel, by decide +kernel⟩
abbrev s_law : Stmt := topS 50
theorem sc_law : FnScope ["_law_script", "_law_k", "_law_cell", "_law_draw_here", "_law_own", "_law_handed", "_law_machine_here"] ["_law_script"] (defScope s_law) := ⟨rfl, rfl, rfl, by decide +kernel, rfl, by decide +kernel, by decide +kernel⟩
abbrev s_Floor___init__ : Stmt := clsS 36 0
theorem sc_Floor___init__ : FnScope ["self", "name", "least", "greatest", "pace", "gain", "place", "lane", "walls"] ["self", "name", "least", "greatest", "pace", "gain", "place", "lane", "walls"] (defScope s_Floor___init__) := ⟨rfl, rfl, rfl, by decide +kernel, rfl, by decide +kernel, by decide +kernel⟩
abbrev s_Floor_boxes : Stmt := clsS 36 5
theorem sc_Floor_boxes : FnScope ["self", "place"] ["self", "place"] (defScope s_Floor_boxes) := ⟨rfl, rfl, rfl, by decide +kernel, rfl, by decide +kernel, by decide +kernel⟩
abbrev s_Floor_kind : Stmt := clsS 36 1
theorem sc_Floor_kind : FnScope ["self"] ["self"] (defScope s_Floor_kind) := ⟨rfl, rfl, rfl, by decide +kernel, rfl, by decide +kernel, by decide +kernel⟩
abbrev s_Floor_lane : Stmt := clsS 36 2
theorem sc_Floor_lane : FnScope ["self"] ["self"] (defScope s_Floor_lane) := ⟨rfl, rfl, rfl, by decide +kernel, rfl, by decide +kernel, by decide +kernel⟩
abbrev s_Floor_offset : Stmt := clsS 36 4
theorem sc_Floor_offset : FnScope ["self", "offset", "wide", "tall"] ["self"] (defScope s_Floor_offset) := ⟨rfl, rfl, rfl, by decide +kernel, rfl, by decide +kernel, by decide +kernel⟩
abbrev s_Floor_swept : Stmt := clsS 36 8
theorem sc_Floor_swept : FnScope ["self", "ahead", "place", "low", "way", "offset", "wide", "tall"] ["self", "ahead", "place"] (defScope s_Floor_swept) := ⟨rfl, rfl, rfl, by decide +kernel, rfl, by decide +kernel, by decide +kernel⟩
abbrev s_Floor_taken : Stmt := clsS 36 6
theorem sc_Floor_taken : FnScope ["self", "ahead", "place"] ["self", "ahead", "place"] (defScope s_Floor_taken) := ⟨rfl, rfl, rfl, by decide +kernel, rfl, by decide +kernel, by decide +kernel⟩
abbrev s_Floor_wide : Stmt := clsS 36 3
theorem sc_Floor_wide : FnScope ["self", "offset", "wide", "tall"] ["self"] (defScope s_Floor_wide) := ⟨rfl, rfl, rfl, by decide +kernel, rfl, by decide +kernel, by decide +kernel⟩
abbrev s_Floor_words : Stmt := clsS 36 7
theorem sc_Floor_words : NdefX.NScope ["self", "__class__", "begun", "walls", "offset", "wide", "tall"] ["self"] ["__class__"] (defScope s_Floor_words) := NdefX.nscope_by (by decide +kernel)
abbrev s_Line___init__ : Stmt := clsS 33 0
theorem sc_Line___init__ : FnScope ["self", "name", "least", "greatest", "pace", "gain", "place", "lane", "at", "wide", "tall"] ["self", "name", "least", "greatest", "pace", "gain", "place", "lane", "at", "wide", "tall"] (defScope s_Line___init__) := ⟨rfl, rfl, rfl, by decide +kernel, rfl, by decide +kernel, by decide +kernel⟩
abbrev s_Line_boxes : Stmt := clsS 33 5
theorem sc_Line_boxes : FnScope ["self", "place"] ["self", "place"] (defScope s_Line_boxes) := ⟨rfl, rfl, rfl, by decide +kernel, rfl, by decide +kernel, by decide +kernel⟩
abbrev s_Line_kind : Stmt := clsS 33 1
theorem sc_Line_kind : FnScope ["self"] ["self"] (defScope s_Line_kind) := ⟨rfl, rfl, rfl, by decide +kernel, rfl, by decide +kernel, by decide +kernel⟩
abbrev s_Line_lane : Stmt := clsS 33 2
theorem sc_Line_lane : FnScope ["self"] ["self"] (defScope s_Line_lane) := ⟨rfl, rfl, rfl, by decide +kernel, rfl, by decide +kernel, by decide +kernel⟩
abbrev s_Line_offset : Stmt := clsS 33 4
theorem sc_Line_offset : FnScope ["self"] ["self"] (defScope s_Line_offset) := ⟨rfl, rfl, rfl, by decide +kernel, rfl, by decide +kernel, by decide +kernel⟩
abbrev s_Line_swept : Stmt := clsS 33 8
theorem sc_Line_swept : FnScope ["self", "ahead", "place", "tall"] ["self", "ahead", "place"] (defScope s_Line_swept) := ⟨rfl, rfl, rfl, by decide +kernel, rfl, by decide +kernel, by decide +kernel⟩
abbrev s_Line_taken : Stmt := clsS 33 6
theorem sc_Line_taken : FnScope ["self", "ahead", "place"] ["self", "ahead", "place"] (defScope s_Line_taken) := ⟨rfl, rfl, rfl, by decide +kernel, rfl, by decide +kernel, by decide +kernel⟩
abbrev s_Line_wide : Stmt := clsS 33 3
theorem sc_Line_wide : FnScope ["self"] ["self"] (defScope s_Line_wide) := ⟨rfl, rfl, rfl, by decide +kernel, rfl, by decide +kernel, by decide +kernel⟩
abbrev s_Line_words : Stmt := clsS 33 7
theorem sc_Line_words : NdefX.NScope ["self", "__class__", "begun"] ["self"] ["__class__"] (defScope s_Line_words) := NdefX.nscope_by (by decide +kernel)
abbrev s_Machine___init__ : Stmt := clsS 32 0
theorem sc_Machine___init__ : FnScope ["self", "name", "least", "greatest", "pace", "gain", "place"] ["self", "name", "least", "greatest", "pace", "gain", "place"] (defScope s_Machine___init__) := ⟨rfl, rfl, rfl, by decide +kernel, rfl, by decide +kernel, by decide +kernel⟩
abbrev s_Machine_need_within : Stmt := clsS 32 9
theorem sc_Machine_need_within : FnScope ["self", "place"] ["self", "place"] (defScope s_Machine_need_within) := ⟨rfl, rfl, rfl, by decide +kernel, rfl, by decide +kernel, by decide +kernel⟩
abbrev s_Machine_words : Stmt := clsS 32 7
theorem sc_Machine_words : FnScope ["self"] ["self"] (defScope s_Machine_words) := ⟨rfl, rfl, rfl, by decide +kernel, rfl, by decide +kernel, by decide +kernel⟩
abbrev s_Trap___init__ : Stmt := clsS 35 0
theorem sc_Trap___init__ : FnScope ["self", "name", "least", "greatest", "pace", "gain", "place", "lane", "at", "wide"] ["self", "name", "least", "greatest", "pace", "gain", "place", "lane", "at", "wide"] (defScope s_Trap___init__) := ⟨rfl, rfl, rfl, by decide +kernel, rfl, by decide +kernel, by decide +kernel⟩
abbrev s_Trap_boxes : Stmt := clsS 35 5
theorem sc_Trap_boxes : FnScope ["self", "place"] ["self", "place"] (defScope s_Trap_boxes) := ⟨rfl, rfl, rfl, by decide +kernel, rfl, by decide +kernel, by decide +kernel⟩
abbrev s_Trap_kind : Stmt := clsS 35 1
theorem sc_Trap_kind : FnScope ["self"] ["self"] (defScope s_Trap_kind) := ⟨rfl, rfl, rfl, by decide +kernel, rfl, by decide +kernel, by decide +kernel⟩
abbrev s_Trap_lane : Stmt := clsS 35 2
theorem sc_Trap_lane : FnScope ["self"] ["self"] (defScope s_Trap_lane) := ⟨rfl, rfl, rfl, by decide +kernel, rfl, by decide +kernel, by decide +kernel⟩
abbrev s_Trap_offset : Stmt := clsS 35 4
theorem sc_Trap_offset : FnScope ["self"] ["self"] (defScope s_Trap_offset) := ⟨rfl, rfl, rfl, by decide +kernel, rfl, by decide +kernel, by decide +kernel⟩
abbrev s_Trap_swept : Stmt := clsS 35 8
theorem sc_Trap_swept : FnScope ["self", "ahead", "place"] ["self", "ahead", "place"] (defScope s_Trap_swept) := ⟨rfl, rfl, rfl, by decide +kernel, rfl, by decide +kernel, by decide +kernel⟩
abbrev s_Trap_taken : Stmt := clsS 35 6
theorem sc_Trap_taken : FnScope ["self", "ahead", "place"] ["self", "ahead", "place"] (defScope s_Trap_taken) := ⟨rfl, rfl, rfl, by decide +kernel, rfl, by decide +kernel, by decide +kernel⟩
abbrev s_Trap_wide : Stmt := clsS 35 3
theorem sc_Trap_wide : FnScope ["self"] ["self"] (defScope s_Trap_wide) := ⟨rfl, rfl, rfl, by decide +kernel, rfl, by decide +kernel, by decide +kernel⟩
abbrev s_Trap_words : Stmt := clsS 35 7
theorem sc_Trap_words : NdefX.NScope ["self", "__class__", "begun"] ["self"] ["__class__"] (defScope s_Trap_words) := NdefX.nscope_by (by decide +kernel)
abbrev s_Wagon___init__ : Stmt := clsS 34 0
theorem sc_Wagon___init__ : FnScope ["self", "name", "least", "greatest", "pace", "gain", "place", "lane", "wide", "tall"] ["self", "name", "least", "greatest", "pace", "gain", "place", "lane", "wide", "tall"] (defScope s_Wagon___init__) := ⟨rfl, rfl, rfl, by decide +kernel, rfl, by decide +kernel, by decide +kernel⟩
abbrev s_Wagon_boxes : Stmt := clsS 34 5
theorem sc_Wagon_boxes : FnScope ["self", "place"] ["self", "place"] (defScope s_Wagon_boxes) := ⟨rfl, rfl, rfl, by decide +kernel, rfl, by decide +kernel, by decide +kernel⟩
abbrev s_Wagon_kind : Stmt := clsS 34 1
theorem sc_Wagon_kind : FnScope ["self"] ["self"] (defScope s_Wagon_kind) := ⟨rfl, rfl, rfl, by decide +kernel, rfl, by decide +kernel, by decide +kernel⟩
abbrev s_Wagon_lane : Stmt := clsS 34 2
theorem sc_Wagon_lane : FnScope ["self"] ["self"] (defScope s_Wagon_lane) := ⟨rfl, rfl, rfl, by decide +kernel, rfl, by decide +kernel, by decide +kernel⟩
abbrev s_Wagon_offset : Stmt := clsS 34 4
theorem sc_Wagon_offset : FnScope ["self"] ["self"] (defScope s_Wagon_offset) := ⟨rfl, rfl, rfl, by decide +kernel, rfl, by decide +kernel, by decide +kernel⟩
abbrev s_Wagon_swept : Stmt := clsS 34 8
theorem sc_Wagon_swept : FnScope ["self", "ahead", "place", "wide"] ["self", "ahead", "place"] (defScope s_Wagon_swept) := ⟨rfl, rfl, rfl, by decide +kernel, rfl, by decide +kernel, by decide +kernel⟩
abbrev s_Wagon_taken : Stmt := clsS 34 6
theorem sc_Wagon_taken : FnScope ["self", "ahead", "place"] ["self", "ahead", "place"] (defScope s_Wagon_taken) := ⟨rfl, rfl, rfl, by decide +kernel, rfl, by decide +kernel, by decide +kernel⟩
abbrev s_Wagon_wide : Stmt := clsS 34 3
theorem sc_Wagon_wide : FnScope ["self"] ["self"] (defScope s_Wagon_wide) := ⟨rfl, rfl, rfl, by decide +kernel, rfl, by decide +kernel, by decide +kernel⟩
abbrev s_Wagon_words : Stmt := clsS 34 7
theorem sc_Wagon_words : NdefX.NScope ["self", "__class__", "begun"] ["self"] ["__class__"] (defScope s_Wagon_words) := NdefX.nscope_by (by decide +kernel)
structure Bt (mg : Str → Option Value) (cl : Nat → Addr) : Prop where
  c_StageError : mg "StageError" = some (.ref (cl 0))
  c_BadNumber : mg "BadNumber" = some (.ref (cl 1))
  c_BadName : mg "BadName" = some (.ref (cl 2))
  c_BadStage : mg "BadStage" = some (.ref (cl 3))
  c_BadSheet : mg "BadSheet" = some (.ref (cl 4))
  c_TooLong : mg "TooLong" = some (.ref (cl 5))
  c_Busy : mg "Busy" = some (.ref (cl 6))
  c_TooNear : mg "TooNear" = some (.ref (cl 7))
  c_Stopped : mg "Stopped" = some (.ref (cl 8))
  c_NotStopped : mg "NotStopped" = some (.ref (cl 9))
  c_Moving : mg "Moving" = some (.ref (cl 10))
  c_NoCue : mg "NoCue" = some (.ref (cl 11))
  c_BadRow : mg "BadRow" = some (.ref (cl 12))
  c_Machine : mg "Machine" = some (.ref (cl 13))
  c_Line : mg "Line" = some (.ref (cl 14))
  c_Wagon : mg "Wagon" = some (.ref (cl 15))
  c_Trap : mg "Trap" = some (.ref (cl 16))
  c_Floor : mg "Floor" = some (.ref (cl 17))
  b_isinstance : mg "isinstance" = none
  b_int : mg "int" = none
  b_bool : mg "bool" = none
  b_str : mg "str" = none
  b_list : mg "list" = none
  b_dict : mg "dict" = none
  b_tuple : mg "tuple" = none
  b_len : mg "len" = none
  b_range : mg "range" = none
  b_min : mg "min" = none
  b_max : mg "max" = none
  b_abs : mg "abs" = none
  b_all : mg "all" = none
  b_enumerate : mg "enumerate" = none
  b_super : mg "super" = none
  b_ValueError : mg "ValueError" = none
  g_MOST_PACE : ∃ t, mg "MOST_PACE" = some (.int 1000000000 t)
  g_FARTHEST : ∃ t, mg "FARTHEST" = some (.int 1000000000 t)
  g_LAST_LANE : ∃ t, mg "LAST_LANE" = some (.int 9 t)
  g_MOST_OFFSET : ∃ t, mg "MOST_OFFSET" = some (.int 719 t)
  g_MOST_SIZE : ∃ t, mg "MOST_SIZE" = some (.int 1000000 t)
  g_MOST_WALLS : ∃ t, mg "MOST_WALLS" = some (.int 4 t)
  g_LONGEST_NAME : ∃ t, mg "LONGEST_NAME" = some (.int 8 t)
/-- what the written part says of the exceptions that are raised -/
structure Exs (K : PySem.W.Frag) (mg : Str → Option Value) (cl : Nat → Addr) : Prop where
  BadNumber : Ex1 K mg (cl 1) (cl 0) "BadNumber"
  v_BadNumber : PySem.W.kitOne K (.ref (cl 1)) (.type "ValueError") = some true
  o0_BadNumber : PySem.W.kitAny K (.ref (cl 1)) [.ref (cl 4), .ref (cl 5), .ref (cl 6), .ref (cl 8), .ref (cl 9), .ref (cl 10), .ref (cl 11), .ref (cl 12)] = some false
  k_BadNumber_BadNumber : PySem.W.kitOne K (.ref (cl 1)) (.ref (cl 1)) = some true
  k_BadNumber_BadName : PySem.W.kitOne K (.ref (cl 1)) (.ref (cl 2)) = some false
  k_BadNumber_BadStage : PySem.W.kitOne K (.ref (cl 1)) (.ref (cl 3)) = some false
  BadName : Ex1 K mg (cl 2) (cl 0) "BadName"
  v_BadName : PySem.W.kitOne K (.ref (cl 2)) (.type "ValueError") = some true
  o0_BadName : PySem.W.kitAny K (.ref (cl 2)) [.ref (cl 4), .ref (cl 5), .ref (cl 6), .ref (cl 8), .ref (cl 9), .ref (cl 10), .ref (cl 11), .ref (cl 12)] = some false
  k_BadName_BadNumber : PySem.W.kitOne K (.ref (cl 2)) (.ref (cl 1)) = some false
  k_BadName_BadName : PySem.W.kitOne K (.ref (cl 2)) (.ref (cl 2)) = some true
  k_BadName_BadStage : PySem.W.kitOne K (.ref (cl 2)) (.ref (cl 3)) = some false
  BadStage : Ex1 K mg (cl 3) (cl 0) "BadStage"
  v_BadStage : PySem.W.kitOne K (.ref (cl 3)) (.type "ValueError") = some true
  o0_BadStage : PySem.W.kitAny K (.ref (cl 3)) [.ref (cl 4), .ref (cl 5), .ref (cl 6), .ref (cl 8), .ref (cl 9), .ref (cl 10), .ref (cl 11), .ref (cl 12)] = some false
  k_BadStage_BadNumber : PySem.W.kitOne K (.ref (cl 3)) (.ref (cl 1)) = some false
  k_BadStage_BadName : PySem.W.kitOne K (.ref (cl 3)) (.ref (cl 2)) = some false
  k_BadStage_BadStage : PySem.W.kitOne K (.ref (cl 3)) (.ref (cl 3)) = some true
end FW

set_option Elab.async false
set_option linter.all false
set_option maxRecDepth 100000
set_option maxHeartbeats 4000000
namespace FW
open PySem PySem.Spec PyProof.Rows L2 Evt
section
variable {P : Program} {w : World} {K : PySem.W.Frag} {mg : Str → Option Value} {base : Heap} {cl : Nat → Addr}
/-- a thing of which it is told whether it is an int -/
def Known (K : PySem.W.Frag) (H : Hp) (x : V) : Prop := (∃ a, x = .int a) ∨ (∃ b, x = .bl b) ∨ ∃ s, TyX K H x (.type s) ∧ kitB s "int" = some false
def wholeV (x : V) (l m : Int) : Bool := match x with
  | .int a => decide (l ≤ a) && decide (a ≤ m)
  | _ => false
theorem whole_no {K : PySem.W.Frag} {H : Hp} {x : V} {s : String} {l m : Int} (ht : TyX K H x (.type s)) (hk : kitB s "int" = some false) : wholeV x l m = false := by
  cases x with
  | int a =>
    cases ht with
    | base h =>
      cases h
      exact absurd hk (by decide +kernel)
  | _ => rfl
def sp_is_whole (K : PySem.W.Frag) : Sp := fun vs H Q _ => ∃ (x : V) (l m : Int), vs = [x, .int l, .int m] ∧ Known K H x ∧ Q (.bl (wholeV x l m)) H
theorem ok_is_whole (B : Bt mg cl) {f : Addr} {fd : FuncData} (F : Fun K "is_whole" "is_whole" s_is_whole f fd) : FnOk P w K mg base CX0 1 f fd ["thing", "least", "most"] (sp_is_whole K) := by
  refine F.ok sc_is_whole (fun vs H Q E h => ?_) (fun cdv A outer s H vs Q E hr h => ?_)
  · obtain ⟨x, l, m, rfl, _⟩ := h
    rfl
  · obtain ⟨x, l, m, rfl, kn, q⟩ := h
    refine ⟨_, (pss_cons (ps_if (PW.pt (pw_or (pt_not (pt_val (pe_callB (k_isY (K := K) rfl) (by rfl) B.b_isinstance (by decide +kernel) (pa_cons (pv 0) (pa_cons (pe_bltn (v := .ty "int") (by rfl) B.b_int (by decide +kernel) rfl) pa_nil))))) (pw_or1 (pt_val (pe_callB (k_isY (K := K) rfl) (by rfl) B.b_isinstance (by decide +kernel) (pa_cons (pv 0) (pa_cons (pe_bltn (v := .ty "bool") (by rfl) B.b_bool (by decide +kernel) rfl) pa_nil)))))))
        (pss_one (ps_ret pe_bl))
        pss_nil)
      (pss_one (ps_ret (pe_chain op_le op_le (pv 1) (pv 0) (pv 2))))), ?_⟩
    simp only [tSeq, tIfS, tOr, tAnd, tNot, tB, tTest, tCB, tCall, tCons, tVar, tNil, tC, tRet, tRetN, tNext, tAsg, gName, tDrop, tOp, tUn, tAug, ipI, tPar, tIf, tAndV, tOrV, tNotV, tChain, tNever, rI0, rI, rU, L2.start, cxK, List.map_cons, List.map_nil, List.length_cons, List.length_nil, Nat.reduceAdd, Nat.reduceSub, List.replicate, List.cons_append, List.nil_append, List.append_nil, List.set_cons_zero, List.set_cons_succ, List.getElem?_cons_zero, List.getElem?_cons_succ, Option.some.injEq, V.int.injEq, V.bl.injEq, exists_eq_left', exists_eq_left, exists_and_left, tFor_eq, iRng1, iRng2, iRng3, iList, iEnum, iZip, iTup, tLst_eq, tTup_eq, rCat_eq, rCatS, rSum, rAppend_eq, rListOf, rSlL_eq, tSl, tNoPart, tPart, tLc_eq, tBM, rIxL, rIxT, min3_eq, rEq_int, rNe_int, min_if, max_if, and_assoc, V.ref.injEq, V.str.injEq, List.cons.injEq, and_true, true_and, ↓reduceIte, Bool.false_eq_true, Bool.not_true, Bool.not_false, Int.reduceToNat, Int.reducePow, Int.reduceAdd, Int.reduceSub, Int.reduceNeg, tVirt, tOff, tFld, sFld_eq, tMake_eq, rTupOf, iStr, rNe_str, rEq_str, rEq_bl, tRaise1, tFmt, tJs, tCallS, WE, wKeep_eq, reduceCtorEq, false_and, and_false, exists_false, or_false, false_or, tIsN, tNotN, decide_true, decide_false, tDictN]
    rcases kn with ⟨a, rfl⟩ | ⟨b, rfl⟩ | ⟨s, ht, hk⟩
    · refine isy_int (b := true) (by decide +kernel) ⟨_, rfl, ?_⟩
      refine ifF rfl (isy_int (b := false) (by decide +kernel) ⟨_, rfl, ?_⟩)
      refine ifF rfl ?_
      have e : wholeV (.int a) l m = (decide (l ≤ a) && decide (a ≤ m)) := rfl
      rw [e] at q
      by_cases h1 : l ≤ a
      · rw [decide_eq_true h1, Bool.true_and] at q
        exact ⟨_, rfl, ifT (decide_eq_true h1) ⟨_, rfl, q⟩⟩
      · rw [decide_eq_false h1, Bool.false_and] at q
        exact ⟨_, rfl, ifF (decide_eq_false h1) q⟩
    · refine isy_ty (.base (.bl b)) (b := true) (by decide +kernel) ⟨_, rfl, ?_⟩
      refine ifF rfl (isy_ty (.base (.bl b)) (b := true) (by decide +kernel) ⟨_, rfl, ?_⟩)
      exact ifT rfl q
    · rw [whole_no ht hk] at q
      refine isy_ty ht hk ⟨_, rfl, ?_⟩
      exact ifT rfl q
/-- BadNumber of what isn't within -/
def sp_need_whole (K : PySem.W.Frag) (C : Addr) : Sp := fun vs H Q E => ∃ (x : V) (l m : Int) (t : Str), vs = [x, .int l, .int m, .str t] ∧ Known K H x ∧ l.natAbs < 2 ^ 1000 ∧ m.natAbs < 2 ^ 1000 ∧ t.length ≤ 1000 ∧ (wholeV x l m = true → Q .non H) ∧ (wholeV x l m = false → E (.ref C) none H)
theorem ok_need_whole (B : Bt mg cl) (EE : Exs K mg cl) (F_is_whole : Fn P w K mg base "is_whole" ["thing", "least", "most"] CX0 1 (sp_is_whole K)) {f : Addr} {fd : FuncData} (F : Fun K "need_whole" "need_whole" s_need_whole f fd) : FnOk P w K mg base (L2.CX P w) 2 f fd ["thing", "least", "most", "what"] (sp_need_whole K (cl 1)) := by
  refine F.okX sc_need_whole (fun vs H Q E h => ?_) (fun cdv A outer s H vs Q E hr h => ?_)
  · obtain ⟨x, l, m, t, rfl, _⟩ := h
    rfl
  · obtain ⟨x, l, m, t, rfl, kn, hl, hm, ht, q, q2⟩ := h
    refine ⟨_, (pss_one (ps_if (pt_not (pt_val (pe_fn F_is_whole (hr.mono (by decide)) (pa_cons (pv 0) (pa_cons (pv 1) (pa_cons (pv 2) pa_nil))))))
        (pss_one (ps_raise1 rfl EE.BadNumber (takes_of rfl rfl rfl rfl) (pe_joined (.cons pe_str (.cons (pe_fmt (pv 3)) (.cons pe_str (.cons (pe_fmt (pv 1)) (.cons pe_str (.cons (pe_fmt (pv 2)) .nil)))))))))
        pss_nil)), ?_⟩
    simp only [tSeq, tIfS, tOr, tAnd, tNot, tB, tTest, tCB, tCall, tCons, tVar, tNil, tC, tRet, tRetN, tNext, tAsg, gName, tDrop, tOp, tUn, tAug, ipI, tPar, tIf, tAndV, tOrV, tNotV, tChain, tNever, rI0, rI, rU, L2.start, cxK, List.map_cons, List.map_nil, List.length_cons, List.length_nil, Nat.reduceAdd, Nat.reduceSub, List.replicate, List.cons_append, List.nil_append, List.append_nil, List.set_cons_zero, List.set_cons_succ, List.getElem?_cons_zero, List.getElem?_cons_succ, Option.some.injEq, V.int.injEq, V.bl.injEq, exists_eq_left', exists_eq_left, exists_and_left, tFor_eq, iRng1, iRng2, iRng3, iList, iEnum, iZip, iTup, tLst_eq, tTup_eq, rCat_eq, rCatS, rSum, rAppend_eq, rListOf, rSlL_eq, tSl, tNoPart, tPart, tLc_eq, tBM, rIxL, rIxT, min3_eq, rEq_int, rNe_int, min_if, max_if, and_assoc, V.ref.injEq, V.str.injEq, List.cons.injEq, and_true, true_and, ↓reduceIte, Bool.false_eq_true, Bool.not_true, Bool.not_false, Int.reduceToNat, Int.reducePow, Int.reduceAdd, Int.reduceSub, Int.reduceNeg, tVirt, tOff, tFld, sFld_eq, tMake_eq, rTupOf, iStr, rNe_str, rEq_str, rEq_bl, tRaise1, tFmt, tJs, tCallS, WE, wKeep_eq, reduceCtorEq, false_and, and_false, exists_false, or_false, false_or, tIsN, tNotN, decide_true, decide_false, tDictN]
    refine ⟨_, _, _, rfl, kn, _, rfl, ?_⟩
    cases e : wholeV x l m with
    | true => exact ifF rfl (q e)
    | false =>
      obtain ⟨l1, l2⟩ := int_len hl
      obtain ⟨m1, m2⟩ := int_len hm
      have c1 : (Str.ofString "the ").length ≤ 100 := by decide +kernel
      have c2 : (Str.ofString " must be a whole number from ").length ≤ 100 := by decide +kernel
      have c3 : (Str.ofString " to ").length ≤ 100 := by decide +kernel
      refine ifT rfl ?_
      simp only [str_len, str_empty]
      exact ⟨sz_of (by omega), sz_of (by omega), sz_of (by omega), sz_of (by omega), l1, sz_of (by omega), sz_of (by omega), m1, sz_of (by omega), q2 e⟩
def sp_need_drive (K : PySem.W.Frag) (C : Addr) : Sp := fun vs H Q E => ∃ (y z : V), vs = [y, z] ∧ Known K H y ∧ Known K H z ∧ (wholeV y 1 1000000000 = true → wholeV z 1 1000000000 = true → Q .non H) ∧ (wholeV y 1 1000000000 = false ∨ wholeV z 1 1000000000 = false → E (.ref C) none H)
theorem ok_need_drive (B : Bt mg cl) (F_need_whole : Fn P w K mg base "need_whole" ["thing", "least", "most", "what"] (L2.CX P w) 2 (sp_need_whole K (cl 1))) {f : Addr} {fd : FuncData} (F : Fun K "need_drive" "need_drive" s_need_drive f fd) : FnOk P w K mg base (L2.CX P w) 3 f fd ["pace", "gain"] (sp_need_drive K (cl 1)) := by
  refine F.okX sc_need_drive (fun vs H Q E h => ?_) (fun cdv A outer s H vs Q E hr h => ?_)
  · obtain ⟨p, g, rfl, _⟩ := h
    rfl
  · obtain ⟨y, z, rfl, ky, kz, q, q2⟩ := h
    refine ⟨_, (pss_cons (ps_expr (pe_fnX F_need_whole (hr.mono (by decide)) (passes_call (takes_of rfl rfl rfl rfl) (fun _ _ _ _ h => h)) (pa_cons (pv 0) (pa_cons pe_int (pa_cons (pe_gint B.g_MOST_PACE) (pa_cons pe_str pa_nil))))))
      (pss_one (ps_expr (pe_fnX F_need_whole (hr.mono (by decide)) (passes_call (takes_of rfl rfl rfl rfl) (fun _ _ _ _ h => h)) (pa_cons (pv 1) (pa_cons pe_int (pa_cons (pe_gint B.g_MOST_PACE) (pa_cons pe_str pa_nil)))))))), ?_⟩
    simp only [tSeq, tIfS, tOr, tAnd, tNot, tB, tTest, tCB, tCall, tCons, tVar, tNil, tC, tRet, tRetN, tNext, tAsg, gName, tDrop, tOp, tUn, tAug, ipI, tPar, tIf, tAndV, tOrV, tNotV, tChain, tNever, rI0, rI, rU, L2.start, cxK, List.map_cons, List.map_nil, List.length_cons, List.length_nil, Nat.reduceAdd, Nat.reduceSub, List.replicate, List.cons_append, List.nil_append, List.append_nil, List.set_cons_zero, List.set_cons_succ, List.getElem?_cons_zero, List.getElem?_cons_succ, Option.some.injEq, V.int.injEq, V.bl.injEq, exists_eq_left', exists_eq_left, exists_and_left, tFor_eq, iRng1, iRng2, iRng3, iList, iEnum, iZip, iTup, tLst_eq, tTup_eq, rCat_eq, rCatS, rSum, rAppend_eq, rListOf, rSlL_eq, tSl, tNoPart, tPart, tLc_eq, tBM, rIxL, rIxT, min3_eq, rEq_int, rNe_int, min_if, max_if, and_assoc, V.ref.injEq, V.str.injEq, List.cons.injEq, and_true, true_and, ↓reduceIte, Bool.false_eq_true, Bool.not_true, Bool.not_false, Int.reduceToNat, Int.reducePow, Int.reduceAdd, Int.reduceSub, Int.reduceNeg, tVirt, tOff, tFld, sFld_eq, tMake_eq, rTupOf, iStr, rNe_str, rEq_str, rEq_bl, tRaise1, tFmt, tJs, tCallS, WE, wKeep_eq, reduceCtorEq, false_and, and_false, exists_false, or_false, false_or, tIsN, tNotN, decide_true, decide_false, tDictN]
    refine ⟨_, _, _, _, rfl, ky, by decide, by decide, by decide, fun e => ⟨_, _, _, _, rfl, kz, by decide, by decide, by decide, fun e2 => q e e2, fun e2 => q2 (.inr e2)⟩, fun e => q2 (.inl e)⟩
theorem whole_int {x : V} {l m : Int} (h : wholeV x l m = true) : ∃ a, x = .int a ∧ l ≤ a ∧ a ≤ m := by
  cases x with
  | int a =>
    have h : (decide (l ≤ a) && decide (a ≤ m)) = true := h
    rw [Bool.and_eq_true] at h
    exact ⟨a, rfl, of_decide_eq_true h.1, of_decide_eq_true h.2⟩
  | _ => cases h


/-! ### names -/
/-- a thing of which it is told whether it is a text -/
def KnownS (K : PySem.W.Frag) (H : Hp) (x : V) : Prop := (∃ a, x = .str a ∧ a.length ≤ 100000) ∨ ∃ s, TyX K H x (.type s) ∧ kitB s "str" = some false
def small (c : Nat) : Bool := decide (97 ≤ c) && decide (c ≤ 122)
def nameV (x : V) : Bool := match x with
  | .str a => decide (1 ≤ a.length) && decide (a.length ≤ 8) && a.cps.toList.all small
  | _ => false
theorem name_no {H : Hp} {x : V} {s : String} (ht : TyX K H x (.type s)) (hk : kitB s "str" = some false) : nameV x = false := by
  cases x with
  | str a =>
    cases ht with
    | base h =>
      cases h
      exact absurd hk (by decide +kernel)
  | _ => rfl
theorem one_lt (a b : Nat) : decide (([a] : List Nat) < [b]) = decide (a < b) := by
  by_cases h : a < b
  · rw [decide_eq_true h]
    exact decide_eq_true (List.Lex.rel h)
  · rw [decide_eq_false h]
    refine decide_eq_false fun z => ?_
    have z : List.Lex (· < ·) [a] [b] := z
    cases z with
    | rel z => exact h z
    | cons z => cases z
theorem sign_a : (Str.ofString "a").cps.toList = [97] := by decide +kernel
theorem sign_z : (Str.ofString "z").cps.toList = [122] := by decide +kernel
theorem all_take {p : Nat → Bool} (l : List Nat) (i : Nat) (c : Nat) (h : l[i]? = some c) : (l.take (i + 1)).all p = ((l.take i).all p && p c) := by
  rw [List.take_succ, h, List.all_append]
  simp
def sp_is_name (K : PySem.W.Frag) (T : Addr) : Sp := fun vs H Q _ => ∃ (x : V), vs = [x] ∧ KnownS K H x ∧ GxR.TabG H T ∧ RetV (.bl (nameV x)) H Q
theorem ok_is_name (B : Bt mg cl) {f c T : Addr} {fd : FuncData} (TB : GxR.TabB base mg c T) (F : FunT K "is_name" "is_name" s_is_name f fd c) : FnOk P w K mg base CX0 3 f fd ["thing"] (sp_is_name K T) := by
  refine F.ok sc_is_name (fun vs H Q E h => ?_) (fun A outer s H vs Q E hr h => ?_)
  · obtain ⟨x, rfl, _⟩ := h
    rfl
  · obtain ⟨x, rfl, kn, tg, q⟩ := h
    refine ⟨_, (pss_cons (ps_if (PW.pt (pw_or (pt_not (pt_val (pe_callB (k_isY (K := K) rfl) (by rfl) B.b_isinstance (by decide +kernel) (pa_cons (pv 0) (pa_cons (pe_bltn (v := .ty "str") (by rfl) B.b_str (by decide +kernel) rfl) pa_nil))))) (pw_or1 (pt_not (pt_chain op_le op_le pe_int (pe_callB call_len_str (by rfl) B.b_len (by decide +kernel) (pa_cons (pv 0) pa_nil)) (pe_gint B.g_LONGEST_NAME))))))
        (pss_one (ps_ret pe_bl))
        pss_nil)
      (pss_one (ps_ret (pe_allG (k := 0) (own := [("sign", 1)]) (gg := gName 1) (hr.mono (by decide)) rfl sc_is_name.nd TB rfl B.b_all (blkOk_by (own := [("sign", 1)]) (N := ["thing", "sign"]) (sc := defScope s_is_name) (by decide +kernel)) (gxS_by (by decide +kernel)) (pi_str (pv 0)) (fun _ _ _ _ _ _ _ _ _ => (pg_name (i := 1) sc_is_name.nd rfl (.inl rfl))) (fun _ _ _ _ _ _ _ _ hr => (pe_chain op_le_str op_le_str pe_str (pv 1) pe_str)))))), ?_⟩
    simp only [tSeq, tIfS, tOr, tAnd, tNot, tB, tTest, tCB, tCall, tCons, tVar, tNil, tC, tRet, tRetN, tNext, tAsg, gName, tDrop, tOp, tUn, tAug, ipI, tPar, tIf, tAndV, tOrV, tNotV, tChain, tNever, rI0, rI, rU, L2.start, cxK, List.map_cons, List.map_nil, List.length_cons, List.length_nil, Nat.reduceAdd, Nat.reduceSub, List.replicate, List.cons_append, List.nil_append, List.append_nil, List.set_cons_zero, List.set_cons_succ, List.getElem?_cons_zero, List.getElem?_cons_succ, Option.some.injEq, V.int.injEq, V.bl.injEq, exists_eq_left', exists_eq_left, exists_and_left, tFor_eq, iRng1, iRng2, iRng3, iList, iEnum, iZip, iTup, tLst_eq, tTup_eq, rCat_eq, rCatS, rSum, rAppend_eq, rListOf, rSlL_eq, tSl, tNoPart, tPart, tLc_eq, tBM, rIxL, rIxT, min3_eq, rEq_int, rNe_int, min_if, max_if, and_assoc, V.ref.injEq, V.str.injEq, List.cons.injEq, and_true, true_and, ↓reduceIte, Bool.false_eq_true, Bool.not_true, Bool.not_false, Int.reduceToNat, Int.reducePow, Int.reduceAdd, Int.reduceSub, Int.reduceNeg, tVirt, tOff, tFld, sFld_eq, tMake_eq, rTupOf, iStr, rNe_str, rEq_str, rEq_bl, tRaise1, tFmt, tJs, tCallS, WE, wKeep_eq, reduceCtorEq, false_and, and_false, exists_false, or_false, false_or, tIsN, tNotN, decide_true, decide_false, tDictN, tAllG]
    rcases kn with ⟨a, rfl, ha⟩ | ⟨s, ht, hk⟩
    · refine isy_ty (.base (.str a)) (b := true) (by decide +kernel) ⟨_, rfl, ifF rfl ⟨_, rfl, sz_of ha, ?_⟩⟩
      have e : nameV (.str a) = (decide (1 ≤ a.length) && decide (a.length ≤ 8) && a.cps.toList.all small) := rfl
      by_cases h1 : 1 ≤ a.length
      · rw [decide_eq_true h1, Bool.true_and] at e
        refine ifT (decide_eq_true (by omega)) ?_
        by_cases h2 : a.length ≤ 8
        · rw [decide_eq_true h2, Bool.true_and] at e
          rw [e] at q
          refine ifF (by simp; omega) ⟨_, rfl, tg, fun H2 tb => ?_⟩
          have x2 : Ex H H2 := ex_tabbed tg tb
          obtain ⟨Pv, hPv⟩ : ∃ Pv : Nat → Unit → Hp → Prop, ∀ i c H', Pv i c H' ↔ Ex H H' ∧ (a.cps.toList.take i).all small = true := ⟨_, fun _ _ _ => Iff.rfl⟩
          refine gx_it walk_str Pv ((hPv _ _ _).mpr ⟨x2, rfl⟩) (fun _ _ _ _ _ => trivial) ?_ ?_
          · rintro i x u H3 H' hi hp ⟨rfl, c, hc, rfl⟩
            obtain ⟨e3, al⟩ := (hPv _ _ _).mp hp
            have hc' : a.cps.toList[i]? = some c := by rw [Array.getElem?_toList]; exact hc
            have fin : ∀ b, b = small c → stepAll Q () (V.bl b) H' fun c' => Pv (i + 1) c' H' := by
              rintro b rfl
              refine ⟨_, rfl, ?_⟩
              cases hs : small c with
              | true => exact ifT rfl ((hPv _ _ _).mpr ⟨e3, by rw [all_take _ _ _ hc', al, hs]; rfl⟩)
              | false =>
                have : a.cps.toList.all small = false := by
                  rw [List.all_eq_false]
                  exact ⟨c, List.mem_of_getElem? hc', by rw [hs]; exact Bool.false_ne_true⟩
                rw [this] at q
                exact ifF rfl (q H' e3)
            simp only [tSeq, tIfS, tOr, tAnd, tNot, tB, tTest, tCB, tCall, tCons, tVar, tNil, tC, tRet, tRetN, tNext, tAsg, gName, tDrop, tOp, tUn, tAug, ipI, tPar, tIf, tAndV, tOrV, tNotV, tChain, tNever, rI0, rI, rU, L2.start, cxK, List.map_cons, List.map_nil, List.length_cons, List.length_nil, Nat.reduceAdd, Nat.reduceSub, List.replicate, List.cons_append, List.nil_append, List.append_nil, List.set_cons_zero, List.set_cons_succ, List.getElem?_cons_zero, List.getElem?_cons_succ, Option.some.injEq, V.int.injEq, V.bl.injEq, exists_eq_left', exists_eq_left, exists_and_left, tFor_eq, iRng1, iRng2, iRng3, iList, iEnum, iZip, iTup, tLst_eq, tTup_eq, rCat_eq, rCatS, rSum, rAppend_eq, rListOf, rSlL_eq, tSl, tNoPart, tPart, tLc_eq, tBM, rIxL, rIxT, min3_eq, rEq_int, rNe_int, min_if, max_if, and_assoc, V.ref.injEq, V.str.injEq, List.cons.injEq, and_true, true_and, ↓reduceIte, Bool.false_eq_true, Bool.not_true, Bool.not_false, Int.reduceToNat, Int.reducePow, Int.reduceAdd, Int.reduceSub, Int.reduceNeg, tVirt, tOff, tFld, sFld_eq, tMake_eq, rTupOf, iStr, rNe_str, rEq_str, rEq_bl, tRaise1, tFmt, tJs, tCallS, WE, wKeep_eq, reduceCtorEq, false_and, and_false, exists_false, or_false, false_or, tIsN, tNotN, decide_true, decide_false, tDictN, wipe]
            rw [sign_a, sign_z, one_lt, one_lt]
            by_cases c1 : 97 ≤ c
            · refine ifT (by simp; omega) (fin _ ?_)
              unfold small
              rw [decide_eq_true c1, Bool.true_and]
              by_cases c2 : c ≤ 122
              · rw [decide_eq_true c2, decide_eq_false (by omega)]
                rfl
              · rw [decide_eq_false c2, decide_eq_true (by omega)]
                rfl
            · refine ifF (by simp; omega) (fin _ ?_)
              unfold small
              rw [decide_eq_false c1]
              rfl
          · intro u H3 hp
            obtain ⟨e3, al⟩ := (hPv _ _ _).mp hp
            have : a.cps.toList.all small = true := by
              rw [List.take_of_length_le (by rw [Array.length_toList]; exact Nat.le_refl _)] at al
              exact al
            rw [this] at q
            exact q H3 e3
        · rw [decide_eq_false h2, Bool.false_and] at e
          rw [e] at q
          exact ifT (by simp; omega) (q H (Ex.refl _))
      · rw [decide_eq_false h1, Bool.false_and, Bool.false_and] at e
        rw [e] at q
        exact ifF (decide_eq_false (by omega)) (q H (Ex.refl _))
    · rw [name_no ht hk] at q
      exact isy_ty ht hk ⟨_, rfl, ifT rfl (q H (Ex.refl _))⟩
/-! ### numbers of a machine -/
def sp_need_lane (K : PySem.W.Frag) (C : Addr) : Sp := fun vs H Q E => ∃ x, vs = [x] ∧ Known K H x ∧ (wholeV x 0 9 = true → Q .non H) ∧ (wholeV x 0 9 = false → E (.ref C) none H)
theorem ok_need_lane (B : Bt mg cl) (F_need_whole : Fn P w K mg base "need_whole" ["thing", "least", "most", "what"] (L2.CX P w) 2 (sp_need_whole K (cl 1))) {f : Addr} {fd : FuncData} (F : Fun K "need_lane" "need_lane" s_need_lane f fd) : FnOk P w K mg base (L2.CX P w) 3 f fd ["lane"] (sp_need_lane K (cl 1)) := by
  refine F.okX sc_need_lane (fun vs H Q E h => ?_) (fun cdv A outer s H vs Q E hr h => ?_)
  · obtain ⟨x, rfl, _⟩ := h
    rfl
  · obtain ⟨x, rfl, kx, q, q2⟩ := h
    refine ⟨_, (pss_one (ps_expr (pe_fnX F_need_whole (hr.mono (by decide)) (passes_call (takes_of rfl rfl rfl rfl) (fun _ _ _ _ h => h)) (pa_cons (pv 0) (pa_cons pe_int (pa_cons (pe_gint B.g_LAST_LANE) (pa_cons pe_str pa_nil))))))), ?_⟩
    simp only [tSeq, tIfS, tOr, tAnd, tNot, tB, tTest, tCB, tCall, tCons, tVar, tNil, tC, tRet, tRetN, tNext, tAsg, gName, tDrop, tOp, tUn, tAug, ipI, tPar, tIf, tAndV, tOrV, tNotV, tChain, tNever, rI0, rI, rU, L2.start, cxK, List.map_cons, List.map_nil, List.length_cons, List.length_nil, Nat.reduceAdd, Nat.reduceSub, List.replicate, List.cons_append, List.nil_append, List.append_nil, List.set_cons_zero, List.set_cons_succ, List.getElem?_cons_zero, List.getElem?_cons_succ, Option.some.injEq, V.int.injEq, V.bl.injEq, exists_eq_left', exists_eq_left, exists_and_left, tFor_eq, iRng1, iRng2, iRng3, iList, iEnum, iZip, iTup, tLst_eq, tTup_eq, rCat_eq, rCatS, rSum, rAppend_eq, rListOf, rSlL_eq, tSl, tNoPart, tPart, tLc_eq, tBM, rIxL, rIxT, min3_eq, rEq_int, rNe_int, min_if, max_if, and_assoc, V.ref.injEq, V.str.injEq, List.cons.injEq, and_true, true_and, ↓reduceIte, Bool.false_eq_true, Bool.not_true, Bool.not_false, Int.reduceToNat, Int.reducePow, Int.reduceAdd, Int.reduceSub, Int.reduceNeg, tVirt, tOff, tFld, sFld_eq, tMake_eq, rTupOf, iStr, rNe_str, rEq_str, rEq_bl, tRaise1, tFmt, tJs, tCallS, WE, wKeep_eq, reduceCtorEq, false_and, and_false, exists_false, or_false, false_or, tIsN, tNotN, decide_true, decide_false, tDictN]
    exact ⟨_, _, _, _, rfl, kx, by decide, by decide, by decide, q, q2⟩
def sp_need_place (K : PySem.W.Frag) (C : Addr) : Sp := fun vs H Q E => ∃ x t, vs = [x, .str t] ∧ Known K H x ∧ t.length ≤ 1000 ∧ (wholeV x (-1000000000) 1000000000 = true → Q .non H) ∧ (wholeV x (-1000000000) 1000000000 = false → E (.ref C) none H)
theorem ok_need_place (B : Bt mg cl) (F_need_whole : Fn P w K mg base "need_whole" ["thing", "least", "most", "what"] (L2.CX P w) 2 (sp_need_whole K (cl 1))) {f : Addr} {fd : FuncData} (F : Fun K "need_place" "need_place" s_need_place f fd) : FnOk P w K mg base (L2.CX P w) 3 f fd ["place", "what"] (sp_need_place K (cl 1)) := by
  refine F.okX sc_need_place (fun vs H Q E h => ?_) (fun cdv A outer s H vs Q E hr h => ?_)
  · obtain ⟨x, t, rfl, _⟩ := h
    rfl
  · obtain ⟨x, t, rfl, kx, ht, q, q2⟩ := h
    refine ⟨_, (pss_one (ps_expr (pe_fnX F_need_whole (hr.mono (by decide)) (passes_call (takes_of rfl rfl rfl rfl) (fun _ _ _ _ h => h)) (pa_cons (pv 0) (pa_cons (pe_un un_neg (pe_gint B.g_FARTHEST)) (pa_cons (pe_gint B.g_FARTHEST) (pa_cons (pv 1) pa_nil))))))), ?_⟩
    simp only [tSeq, tIfS, tOr, tAnd, tNot, tB, tTest, tCB, tCall, tCons, tVar, tNil, tC, tRet, tRetN, tNext, tAsg, gName, tDrop, tOp, tUn, tAug, ipI, tPar, tIf, tAndV, tOrV, tNotV, tChain, tNever, rI0, rI, rU, L2.start, cxK, List.map_cons, List.map_nil, List.length_cons, List.length_nil, Nat.reduceAdd, Nat.reduceSub, List.replicate, List.cons_append, List.nil_append, List.append_nil, List.set_cons_zero, List.set_cons_succ, List.getElem?_cons_zero, List.getElem?_cons_succ, Option.some.injEq, V.int.injEq, V.bl.injEq, exists_eq_left', exists_eq_left, exists_and_left, tFor_eq, iRng1, iRng2, iRng3, iList, iEnum, iZip, iTup, tLst_eq, tTup_eq, rCat_eq, rCatS, rSum, rAppend_eq, rListOf, rSlL_eq, tSl, tNoPart, tPart, tLc_eq, tBM, rIxL, rIxT, min3_eq, rEq_int, rNe_int, min_if, max_if, and_assoc, V.ref.injEq, V.str.injEq, List.cons.injEq, and_true, true_and, ↓reduceIte, Bool.false_eq_true, Bool.not_true, Bool.not_false, Int.reduceToNat, Int.reducePow, Int.reduceAdd, Int.reduceSub, Int.reduceNeg, tVirt, tOff, tFld, sFld_eq, tMake_eq, rTupOf, iStr, rNe_str, rEq_str, rEq_bl, tRaise1, tFmt, tJs, tCallS, WE, wKeep_eq, reduceCtorEq, false_and, and_false, exists_false, or_false, false_or, tIsN, tNotN, decide_true, decide_false, tDictN]
    exact ⟨_, _, _, _, rfl, kx, by decide, by decide, ht, q, q2⟩
def sp_need_size (K : PySem.W.Frag) (C : Addr) : Sp := fun vs H Q E => ∃ x t, vs = [x, .str t] ∧ Known K H x ∧ t.length ≤ 1000 ∧ (wholeV x 1 1000000 = true → Q .non H) ∧ (wholeV x 1 1000000 = false → E (.ref C) none H)
theorem ok_need_size (B : Bt mg cl) (F_need_whole : Fn P w K mg base "need_whole" ["thing", "least", "most", "what"] (L2.CX P w) 2 (sp_need_whole K (cl 1))) {f : Addr} {fd : FuncData} (F : Fun K "need_size" "need_size" s_need_size f fd) : FnOk P w K mg base (L2.CX P w) 3 f fd ["size", "what"] (sp_need_size K (cl 1)) := by
  refine F.okX sc_need_size (fun vs H Q E h => ?_) (fun cdv A outer s H vs Q E hr h => ?_)
  · obtain ⟨x, t, rfl, _⟩ := h
    rfl
  · obtain ⟨x, t, rfl, kx, ht, q, q2⟩ := h
    refine ⟨_, (pss_one (ps_expr (pe_fnX F_need_whole (hr.mono (by decide)) (passes_call (takes_of rfl rfl rfl rfl) (fun _ _ _ _ h => h)) (pa_cons (pv 0) (pa_cons pe_int (pa_cons (pe_gint B.g_MOST_SIZE) (pa_cons (pv 1) pa_nil))))))), ?_⟩
    simp only [tSeq, tIfS, tOr, tAnd, tNot, tB, tTest, tCB, tCall, tCons, tVar, tNil, tC, tRet, tRetN, tNext, tAsg, gName, tDrop, tOp, tUn, tAug, ipI, tPar, tIf, tAndV, tOrV, tNotV, tChain, tNever, rI0, rI, rU, L2.start, cxK, List.map_cons, List.map_nil, List.length_cons, List.length_nil, Nat.reduceAdd, Nat.reduceSub, List.replicate, List.cons_append, List.nil_append, List.append_nil, List.set_cons_zero, List.set_cons_succ, List.getElem?_cons_zero, List.getElem?_cons_succ, Option.some.injEq, V.int.injEq, V.bl.injEq, exists_eq_left', exists_eq_left, exists_and_left, tFor_eq, iRng1, iRng2, iRng3, iList, iEnum, iZip, iTup, tLst_eq, tTup_eq, rCat_eq, rCatS, rSum, rAppend_eq, rListOf, rSlL_eq, tSl, tNoPart, tPart, tLc_eq, tBM, rIxL, rIxT, min3_eq, rEq_int, rNe_int, min_if, max_if, and_assoc, V.ref.injEq, V.str.injEq, List.cons.injEq, and_true, true_and, ↓reduceIte, Bool.false_eq_true, Bool.not_true, Bool.not_false, Int.reduceToNat, Int.reducePow, Int.reduceAdd, Int.reduceSub, Int.reduceNeg, tVirt, tOff, tFld, sFld_eq, tMake_eq, rTupOf, iStr, rNe_str, rEq_str, rEq_bl, tRaise1, tFmt, tJs, tCallS, WE, wKeep_eq, reduceCtorEq, false_and, and_false, exists_false, or_false, false_or, tIsN, tNotN, decide_true, decide_false, tDictN]
    exact ⟨_, _, _, _, rfl, kx, by decide, by decide, ht, q, q2⟩
end
end FW

set_option Elab.async false
set_option linter.all false
set_option maxRecDepth 100000
set_option maxHeartbeats 4000000
namespace FW
open PySem PySem.Spec PyProof.Rows L2 Evt
section
variable {P : Program} {w : World} {K : PySem.W.Frag} {mg : Str → Option Value} {base : Heap} {cl : Nat → Addr}
/-! ### a machine is made -/
/-- all that is known stays, but what stands at a -/
def ExB (a : Addr) (H H' : Hp) : Prop := ∀ b o, b ≠ a → H b = some o → ExO o (H' b)
theorem ExB.of {a : Addr} {H H' : Hp} (e : Ex H H') : ExB a H H' := fun b o _ h => e b o h
theorem ExB.trans {a : Addr} {H H1 H2 : Hp} (x : ExB a H H1) (y : ExB a H1 H2) : ExB a H H2 := fun b o nb h => by
  have h1 := x b o nb h
  cases o with
  | tbl ps =>
    obtain ⟨qs, e, t⟩ := h1
    obtain ⟨rs, e2, t2⟩ := y b _ nb e
    exact ⟨rs, e2, fun z => t2 (t z)⟩
  | _ => exact y b _ nb h1
theorem ExB.chg {a : Addr} {H H' : Hp} (k : ∀ b, b ≠ a → H' b = H b) : ExB a H H' := fun b o nb h => by
  rw [k b nb]
  exact exo_of h
theorem ExB.ex {a : Addr} {H H1 H2 : Hp} (e : Ex H H1) (na : H a = none) (x : ExB a H1 H2) : Ex H H2 := fun b o h => by
  have nb : b ≠ a := fun z => by rw [z, na] at h; cases h
  have h1 := e b o h
  cases o with
  | tbl ps =>
    obtain ⟨qs, e, t⟩ := h1
    obtain ⟨rs, e2, t2⟩ := x b _ nb e
    exact ⟨rs, e2, fun z => t2 (t z)⟩
  | _ => exact x b _ nb h1
theorem known_mono {H H' : Hp} {x : V} (e : Ex H H') (h : Known K H x) : Known K H' x := by
  rcases h with h | h | ⟨s, h1, h2⟩
  · exact .inl h
  · exact .inr (.inl h)
  · exact .inr (.inr ⟨s, tyx_mono e h1, h2⟩)
/-- what the text says of a machine's class -/
structure MC (K : PySem.W.Frag) (C : Addr) : Prop where
  c : Cls K C
  n_name : NoAttr K C "name"
  n_least : NoAttr K C "least"
  n_greatest : NoAttr K C "greatest"
  n_pace : NoAttr K C "pace"
  n_gain : NoAttr K C "gain"
  n_place : NoAttr K C "place"
  n_lane : NoAttr K C "lane_told"
  n_at : NoAttr K C "at_told"
  n_wide : NoAttr K C "wide_told"
  n_tall : NoAttr K C "tall_told"
  n_walls : NoAttr K C "walls"
theorem pl1 {f : Str} {v : V} : ∀ {fs : List (Str × V)} {n : Nat}, fs.length ≤ n → (putF f v fs).length ≤ n + 1
  | [], n, _ => by
    show 1 ≤ n + 1
    omega
  | (g, x) :: r, n, h => by
    unfold putF
    have h : r.length + 1 ≤ n := h
    split
    · show r.length + 1 ≤ n + 1
      omega
    · have := pl1 (f := f) (v := v) (fs := r) (n := n - 1) (by omega)
      show (putF f v r).length + 1 ≤ n + 1
      omega
theorem lt1k {fs : List (Str × V)} {n : Nat} (h : fs.length ≤ n) (hn : n < 1000) : fs.length < 1000 := Nat.lt_of_le_of_lt h hn
def mOk (l g p ga pl : V) : Bool := match l, g with
  | .int a, .int b => wholeV l (-1000000000) 1000000000 && wholeV g a 1000000000 && (wholeV p 1 1000000000 && wholeV ga 1 1000000000) && wholeV pl a b
  | _, _ => false
theorem mOk_l {l g p ga pl : V} (h : wholeV l (-1000000000) 1000000000 = false) : mOk l g p ga pl = false := by
  unfold mOk
  split
  · rw [h]
    rfl
  · rfl
theorem mOk_g {i : Int} {g p ga pl : V} (h : wholeV g i 1000000000 = false) : mOk (.int i) g p ga pl = false := by
  unfold mOk
  split
  · rename_i a b e1
    cases e1
    rw [h, Bool.and_false]
    rfl
  · rfl
def f6 (n l g p ga pl : V) : List (Str × V) := [("name", n), ("least", l), ("greatest", g), ("pace", p), ("gain", ga), ("place", pl)]
def sp_Machine_init (K : PySem.W.Frag) (T CN CB : Addr) (Cs : List Addr) : Sp := fun vs H Q E => ∃ (a C dx : Addr) (n l g p ga pl : V), vs = [.ref a, n, l, g, p, ga, pl] ∧ H a = some (.ins C dx []) ∧ C ∈ Cs ∧ KnownS K H n ∧ Known K H l ∧ Known K H g ∧ Known K H p ∧ Known K H ga ∧ Known K H pl ∧ GxR.TabG H T ∧
  (nameV n = false → ∀ H', Ex H H' → E (.ref CN) none H') ∧ (nameV n = true → mOk l g p ga pl = false → ∀ H', Ex H H' → E (.ref CB) none H') ∧
  (nameV n = true → mOk l g p ga pl = true → ∀ H', ExB a H H' → H' a = some (.ins C dx (f6 n l g p ga pl)) → Q .non H')
theorem ok_Machine_init (B : Bt mg cl) (EE : Exs K mg cl) {T : Addr} {Cs : List Addr} (MM : ∀ C ∈ Cs, MC K C) (F_is_name : Fn P w K mg base "is_name" ["thing"] CX0 3 (sp_is_name K T)) (F_need_place : Fn P w K mg base "need_place" ["place", "what"] (L2.CX P w) 3 (sp_need_place K (cl 1))) (F_need_whole : Fn P w K mg base "need_whole" ["thing", "least", "most", "what"] (L2.CX P w) 2 (sp_need_whole K (cl 1))) (F_need_drive : Fn P w K mg base "need_drive" ["pace", "gain"] (L2.CX P w) 3 (sp_need_drive K (cl 1))) {f : Addr} {fd : FuncData} (F : Fun K "__init__" "Machine.__init__" s_Machine___init__ f fd) : FnOk P w K mg base (L2.CX P w) 5 f fd ["self", "name", "least", "greatest", "pace", "gain", "place"] (sp_Machine_init K T (cl 2) (cl 1) Cs) := by
  refine F.okX sc_Machine___init__ (fun vs H Q E h => ?_) (fun cdv A outer s H vs Q E hr h => ?_)
  · obtain ⟨a, C, dx, n, l, g, p, ga, pl, rfl, _⟩ := h
    rfl
  · obtain ⟨a, C, dx, n, l, g, p, ga, pl, rfl, ha, hC, kn, kl, kg, kp, kga, kpl, tg, noname, bad, good⟩ := h
    have M := MM C hC
    refine ⟨_, (pss_cons (ps_if (pt_not (pt_val (pe_fn F_is_name (hr.mono (by decide)) (pa_cons (pv 1) pa_nil))))
        (pss_one (ps_raise1 rfl EE.BadName (takes_of rfl rfl rfl rfl) (pe_joined (.cons pe_str (.cons (pe_fmt (pe_gint B.g_LONGEST_NAME)) (.cons pe_str .nil))))))
        pss_nil)
      (pss_cons (ps_expr (pe_fnX F_need_place (hr.mono (by decide)) (passes_call (takes_of rfl rfl rfl rfl) (fun _ _ _ _ h => h)) (pa_cons (pv 2) (pa_cons pe_str pa_nil))))
      (pss_cons (ps_expr (pe_fnX F_need_whole (hr.mono (by decide)) (passes_call (takes_of rfl rfl rfl rfl) (fun _ _ _ _ h => h)) (pa_cons (pv 3) (pa_cons (pv 2) (pa_cons (pe_gint B.g_FARTHEST) (pa_cons pe_str pa_nil))))))
      (pss_cons (ps_expr (pe_fnX F_need_drive (hr.mono (by decide)) (passes_call (takes_of rfl rfl rfl rfl) (fun _ _ _ _ h => h)) (pa_cons (pv 4) (pa_cons (pv 5) pa_nil))))
      (pss_cons (ps_expr (pe_fnX F_need_whole (hr.mono (by decide)) (passes_call (takes_of rfl rfl rfl rfl) (fun _ _ _ _ h => h)) (pa_cons (pv 6) (pa_cons (pv 2) (pa_cons (pv 3) (pa_cons pe_str pa_nil))))))
      (pss_cons (k_sfld (K := K) rfl (pv 0) (pv 1) (by rfl))
      (pss_cons (k_sfld (K := K) rfl (pv 0) (pv 2) (by rfl))
      (pss_cons (k_sfld (K := K) rfl (pv 0) (pv 3) (by rfl))
      (pss_cons (k_sfld (K := K) rfl (pv 0) (pv 4) (by rfl))
      (pss_cons (k_sfld (K := K) rfl (pv 0) (pv 5) (by rfl))
      (pss_one (k_sfld (K := K) rfl (pv 0) (pv 6) (by rfl))))))))))))), ?_⟩
    refine cut_eq fun N1 hN1 => ?_
    simp only [tSeq, tIfS, tOr, tAnd, tNot, tB, tTest, tCB, tCall, tCons, tVar, tNil, tC, tRet, tRetN, tNext, tAsg, gName, tDrop, tOp, tUn, tAug, ipI, tPar, tIf, tAndV, tOrV, tNotV, tChain, tNever, rI0, rI, rU, L2.start, cxK, List.map_cons, List.map_nil, List.length_cons, List.length_nil, Nat.reduceAdd, Nat.reduceSub, List.replicate, List.cons_append, List.nil_append, List.append_nil, List.set_cons_zero, List.set_cons_succ, List.getElem?_cons_zero, List.getElem?_cons_succ, Option.some.injEq, V.int.injEq, V.bl.injEq, exists_eq_left', exists_eq_left, exists_and_left, tFor_eq, iRng1, iRng2, iRng3, iList, iEnum, iZip, iTup, tLst_eq, tTup_eq, rCat_eq, rCatS, rSum, rAppend_eq, rListOf, rSlL_eq, tSl, tNoPart, tPart, tLc_eq, tBM, rIxL, rIxT, min3_eq, rEq_int, rNe_int, min_if, max_if, and_assoc, V.ref.injEq, V.str.injEq, List.cons.injEq, and_true, true_and, ↓reduceIte, Bool.false_eq_true, Bool.not_true, Bool.not_false, Int.reduceToNat, Int.reducePow, Int.reduceAdd, Int.reduceSub, Int.reduceNeg, tVirt, tOff, tFld, sFld_eq, tMake_eq, rTupOf, iStr, rNe_str, rEq_str, rEq_bl, tRaise1, tFmt, tJs, tCallS, WE, wKeep_eq, reduceCtorEq, false_and, and_false, exists_false, or_false, false_or, tIsN, tNotN, decide_true, decide_false, tDictN]
    refine ⟨_, rfl, kn, tg, fun H1 e1 => ⟨_, rfl, ?_⟩⟩
    cases hn : nameV n with
    | false =>
      obtain ⟨l1, l2⟩ := int_len (i := 8) (by decide)
      have c1 : (Str.ofString "a name must be 1 to ").length ≤ 100 := by decide +kernel
      have c2 : (Str.ofString " small letters").length ≤ 100 := by decide +kernel
      refine ifT rfl ?_
      simp only [str_len, str_empty]
      exact ⟨sz_of (by omega), l1, sz_of (by omega), sz_of (by omega), noname hn H1 e1⟩
    | true =>
      refine ifF rfl ?_
      rw [← hN1]
      clear hN1
      have no := fun h => bad hn h H1 e1
      simp only [tSeq, tIfS, tOr, tAnd, tNot, tB, tTest, tCB, tCall, tCons, tVar, tNil, tC, tRet, tRetN, tNext, tAsg, gName, tDrop, tOp, tUn, tAug, ipI, tPar, tIf, tAndV, tOrV, tNotV, tChain, tNever, rI0, rI, rU, L2.start, cxK, List.map_cons, List.map_nil, List.length_cons, List.length_nil, Nat.reduceAdd, Nat.reduceSub, List.replicate, List.cons_append, List.nil_append, List.append_nil, List.set_cons_zero, List.set_cons_succ, List.getElem?_cons_zero, List.getElem?_cons_succ, Option.some.injEq, V.int.injEq, V.bl.injEq, exists_eq_left', exists_eq_left, exists_and_left, tFor_eq, iRng1, iRng2, iRng3, iList, iEnum, iZip, iTup, tLst_eq, tTup_eq, rCat_eq, rCatS, rSum, rAppend_eq, rListOf, rSlL_eq, tSl, tNoPart, tPart, tLc_eq, tBM, rIxL, rIxT, min3_eq, rEq_int, rNe_int, min_if, max_if, and_assoc, V.ref.injEq, V.str.injEq, List.cons.injEq, and_true, true_and, ↓reduceIte, Bool.false_eq_true, Bool.not_true, Bool.not_false, Int.reduceToNat, Int.reducePow, Int.reduceAdd, Int.reduceSub, Int.reduceNeg, tVirt, tOff, tFld, sFld_eq, tMake_eq, rTupOf, iStr, rNe_str, rEq_str, rEq_bl, tRaise1, tFmt, tJs, tCallS, WE, wKeep_eq, reduceCtorEq, false_and, and_false, exists_false, or_false, false_or, tIsN, tNotN, decide_true, decide_false, tDictN]
      refine ⟨_, _, rfl, known_mono e1 kl, by decide, fun ol => ?_, fun nl => no (mOk_l nl)⟩
      obtain ⟨i, rfl, i0, i1⟩ := whole_int ol
      refine ⟨_, _, _, _, rfl, known_mono e1 kg, by omega, by decide, by decide, fun og => ?_, fun ng => no (mOk_g ng)⟩
      obtain ⟨j, rfl, j0, j1⟩ := whole_int og
      have eM : mOk (.int i) (.int j) p ga pl = ((wholeV p 1 1000000000 && wholeV ga 1 1000000000) && wholeV pl i j) := by
        show (wholeV (.int i) (-1000000000) 1000000000 && wholeV (.int j) i 1000000000 && (wholeV p 1 1000000000 && wholeV ga 1 1000000000) && wholeV pl i j) = _
        rw [ol, og]
        rfl
      rw [eM] at no
      refine ⟨_, _, rfl, known_mono e1 kp, known_mono e1 kga, fun op oga => ?_, fun e => no (by rcases e with e | e <;> rw [e] <;> simp)⟩
      refine ⟨_, _, _, _, rfl, known_mono e1 kpl, by omega, by omega, by decide, fun opl => ?_, fun e => no (by rw [e, Bool.and_false])⟩
      have fine := good hn (by rw [eM, op, oga, opl]; rfl)
      have a1 := e1 _ _ ha
      refine ⟨_, _, _, a1, M.c, M.n_name, by decide, chg_of fun H2 k2 h2 => ⟨_, _, _, h2, M.c, M.n_least, lt1k (pl1 (Nat.le_refl 0)) (by decide), chg_of fun H3 k3 h3 => ⟨_, _, _, h3, M.c, M.n_greatest, lt1k (pl1 (pl1 (Nat.le_refl 0))) (by decide), chg_of fun H4 k4 h4 => ⟨_, _, _, h4, M.c, M.n_pace, lt1k (pl1 (pl1 (pl1 (Nat.le_refl 0)))) (by decide), chg_of fun H5 k5 h5 => ⟨_, _, _, h5, M.c, M.n_gain, lt1k (pl1 (pl1 (pl1 (pl1 (Nat.le_refl 0))))) (by decide), chg_of fun H6 k6 h6 => ⟨_, _, _, h6, M.c, M.n_place, lt1k (pl1 (pl1 (pl1 (pl1 (pl1 (Nat.le_refl 0)))))) (by decide), chg_of fun H7 k7 h7 => ?_⟩⟩⟩⟩⟩⟩
      refine fine H7 ((ExB.of e1).trans (.chg fun b nb => ?_)) h7
      rw [k7 b nb, k6 b nb, k5 b nb, k4 b nb, k3 b nb, k2 b nb]
end
end FW

set_option Elab.async false
set_option linter.all false
set_option maxRecDepth 100000
set_option maxHeartbeats 4000000
namespace FW
open PySem PySem.Spec PyProof.Rows L2 Evt
section
variable {P : Program} {w : World} {K : PySem.W.Frag} {mg : Str → Option Value} {base : Heap} {cl : Nat → Addr}
theorem knownB {a C dx : Addr} {fs : List (Str × V)} {H H' : Hp} {x : V} (ha : H a = some (.ins C dx fs)) (e : ExB a H H') (h : Known K H x) : Known K H' x := by
  rcases h with h | h | ⟨s, h1, h2⟩
  · exact .inl h
  · exact .inr (.inl h)
  · refine .inr (.inr ⟨s, ?_, h2⟩)
    have ne : ∀ {b : Addr} {o : HO}, H b = some o → (∀ C dx fs, o ≠ .ins C dx fs) → b ≠ a := fun {b o} hb hn z => by
      rw [z, ha] at hb
      cases hb
      exact hn _ _ _ rfl
    cases h1 with
    | base h =>
      cases h with
      | non => exact .base .non
      | bl b => exact .base (.bl b)
      | int i => exact .base (.int i)
      | str z => exact .base (.str z)
      | flt z => exact .base (.flt z)
      | lst q => exact .base (.lst (e _ _ (ne q (fun _ _ _ z => nomatch z)) q))
      | frz q => exact .base (.frz (e _ _ (ne q (fun _ _ _ z => nomatch z)) q))
      | tup q => exact .base (.tup (e _ _ (ne q (fun _ _ _ z => nomatch z)) q))
      | dK q => exact .base (.dK (e _ _ (ne q (fun _ _ _ z => nomatch z)) q))
      | dT q => exact .base (.dT (e _ _ (ne q (fun _ _ _ z => nomatch z)) q))
    | byt b => exact .byt b
    | set q => exact .set (e _ _ (ne q (fun _ _ _ z => nomatch z)) q)
    | kList q c => exact .kList q c
    | kTuple q c => exact .kTuple q c
    | kDict q c => exact .kDict q c
    | fTuple q => exact .fTuple (e _ _ (ne q (fun _ _ _ z => nomatch z)) q)
    | fDict q => exact .fDict (e _ _ (ne q (fun _ _ _ z => nomatch z)) q)
def tLine (v0 v1 v2 v3 : V) : Bool := wholeV v0 0 9 && wholeV v1 (-1000000000) 1000000000 && wholeV v2 1 1000000 && wholeV v3 1 1000000
def sp_Line_init (K : PySem.W.Frag) (T CN CB : Addr) (Cs : List Addr) : Sp := fun vs H Q E => ∃ (a C dx : Addr) (n l g p ga pl v0 v1 v2 v3 : V), vs = [.ref a, n, l, g, p, ga, pl, v0, v1, v2, v3] ∧ H a = some (.ins C dx []) ∧ C ∈ Cs ∧ KnownS K H n ∧ Known K H l ∧ Known K H g ∧ Known K H p ∧ Known K H ga ∧ Known K H pl ∧ Known K H v0 ∧ Known K H v1 ∧ Known K H v2 ∧ Known K H v3 ∧ GxR.TabG H T ∧
  (nameV n = false → ∀ H', ExB a H H' → E (.ref CN) none H') ∧ (nameV n = true → (mOk l g p ga pl && tLine v0 v1 v2 v3) = false → ∀ H', ExB a H H' → E (.ref CB) none H') ∧
  (nameV n = true → mOk l g p ga pl = true → tLine v0 v1 v2 v3 = true → ∀ H', ExB a H H' → H' a = some (.ins C dx (f6 n l g p ga pl ++ ([("lane_told", v0), ("at_told", v1), ("wide_told", v2), ("tall_told", v3)] : List (Str × V)))) → Q .non H')
theorem ok_Line_init (B : Bt mg cl) {T : Addr} {Cs : List Addr} (MM : ∀ C ∈ Cs, MC K C) (O_Machine_init : Off P w K mg base (L2.CX P w) 5 (cl 13) "__init__" ["self", "name", "least", "greatest", "pace", "gain", "place"] (sp_Machine_init K T (cl 2) (cl 1) Cs)) (F_need_lane : Fn P w K mg base "need_lane" ["lane"] (L2.CX P w) 3 (sp_need_lane K (cl 1))) (F_need_place : Fn P w K mg base "need_place" ["place", "what"] (L2.CX P w) 3 (sp_need_place K (cl 1))) (F_need_size : Fn P w K mg base "need_size" ["size", "what"] (L2.CX P w) 3 (sp_need_size K (cl 1))) {f : Addr} {fd : FuncData} (F : Fun K "__init__" "Line.__init__" s_Line___init__ f fd) : FnOk P w K mg base (L2.CX P w) 6 f fd ["self", "name", "least", "greatest", "pace", "gain", "place", "lane", "at", "wide", "tall"] (sp_Line_init K T (cl 2) (cl 1) Cs) := by
  refine F.okX sc_Line___init__ (fun vs H Q E h => ?_) (fun cdv A outer s H vs Q E hr h => ?_)
  · obtain ⟨a, C, dx, n, l, g, p, ga, pl, v0, v1, v2, v3, rfl, _⟩ := h
    rfl
  · obtain ⟨a, C, dx, n, l, g, p, ga, pl, v0, v1, v2, v3, rfl, ha, hC, kn, kl, kg, kp, kga, kpl, kv0, kv1, kv2, kv3, tg, noname, bad, good⟩ := h
    have M := MM C hC
    refine ⟨_, (pss_cons (ps_expr (pe_off O_Machine_init (hr.mono (by decide)) (fun σ => passAt (takes_of rfl rfl rfl rfl) σ) (pe_glob (v := .ref _) (by rfl) B.c_Machine rfl) (pa_cons (pv 0) (pa_cons (pv 1) (pa_cons (pv 2) (pa_cons (pv 3) (pa_cons (pv 4) (pa_cons (pv 5) (pa_cons (pv 6) pa_nil)))))))))
      (pss_cons (ps_expr (pe_fnX F_need_lane (hr.mono (by decide)) (passes_call (takes_of rfl rfl rfl rfl) (fun _ _ _ _ h => h)) (pa_cons (pv 7) pa_nil)))
      (pss_cons (ps_expr (pe_fnX F_need_place (hr.mono (by decide)) (passes_call (takes_of rfl rfl rfl rfl) (fun _ _ _ _ h => h)) (pa_cons (pv 8) (pa_cons pe_str pa_nil))))
      (pss_cons (ps_expr (pe_fnX F_need_size (hr.mono (by decide)) (passes_call (takes_of rfl rfl rfl rfl) (fun _ _ _ _ h => h)) (pa_cons (pv 9) (pa_cons pe_str pa_nil))))
      (pss_cons (ps_expr (pe_fnX F_need_size (hr.mono (by decide)) (passes_call (takes_of rfl rfl rfl rfl) (fun _ _ _ _ h => h)) (pa_cons (pv 10) (pa_cons pe_str pa_nil))))
      (pss_cons (k_sfld (K := K) rfl (pv 0) (pv 7) (by rfl))
      (pss_cons (k_sfld (K := K) rfl (pv 0) (pv 8) (by rfl))
      (pss_cons (k_sfld (K := K) rfl (pv 0) (pv 9) (by rfl))
      (pss_one (k_sfld (K := K) rfl (pv 0) (pv 10) (by rfl))))))))))), ?_⟩
    refine cut_eq fun N1 hN1 => ?_
    simp only [tSeq, tIfS, tOr, tAnd, tNot, tB, tTest, tCB, tCall, tCons, tVar, tNil, tC, tRet, tRetN, tNext, tAsg, gName, tDrop, tOp, tUn, tAug, ipI, tPar, tIf, tAndV, tOrV, tNotV, tChain, tNever, rI0, rI, rU, L2.start, cxK, List.map_cons, List.map_nil, List.length_cons, List.length_nil, Nat.reduceAdd, Nat.reduceSub, List.replicate, List.cons_append, List.nil_append, List.append_nil, List.set_cons_zero, List.set_cons_succ, List.getElem?_cons_zero, List.getElem?_cons_succ, Option.some.injEq, V.int.injEq, V.bl.injEq, exists_eq_left', exists_eq_left, exists_and_left, tFor_eq, iRng1, iRng2, iRng3, iList, iEnum, iZip, iTup, tLst_eq, tTup_eq, rCat_eq, rCatS, rSum, rAppend_eq, rListOf, rSlL_eq, tSl, tNoPart, tPart, tLc_eq, tBM, rIxL, rIxT, min3_eq, rEq_int, rNe_int, min_if, max_if, and_assoc, V.ref.injEq, V.str.injEq, List.cons.injEq, and_true, true_and, ↓reduceIte, Bool.false_eq_true, Bool.not_true, Bool.not_false, Int.reduceToNat, Int.reducePow, Int.reduceAdd, Int.reduceSub, Int.reduceNeg, tVirt, tOff, tFld, sFld_eq, tMake_eq, rTupOf, iStr, rNe_str, rEq_str, rEq_bl, tRaise1, tFmt, tJs, tCallS, WE, wKeep_eq, reduceCtorEq, false_and, and_false, exists_false, or_false, false_or, tIsN, tNotN, decide_true, decide_false, tDictN]
    refine ⟨a, C, dx, n, l, g, p, ga, pl, rfl, ha, hC, kn, kl, kg, kp, kga, kpl, tg, fun h H1 e1 => noname h H1 (.of e1), fun h h2 H1 e1 => bad h (by rw [h2]; rfl) H1 (.of e1), fun hn hm H1 e1 h1 => ?_⟩
    show N1 _ H1
    rw [← hN1]
    clear hN1
    have no := fun h => bad hn h H1 e1
    rw [hm, Bool.true_and] at no
    have fine := good hn hm
    simp only [tSeq, tIfS, tOr, tAnd, tNot, tB, tTest, tCB, tCall, tCons, tVar, tNil, tC, tRet, tRetN, tNext, tAsg, gName, tDrop, tOp, tUn, tAug, ipI, tPar, tIf, tAndV, tOrV, tNotV, tChain, tNever, rI0, rI, rU, L2.start, cxK, List.map_cons, List.map_nil, List.length_cons, List.length_nil, Nat.reduceAdd, Nat.reduceSub, List.replicate, List.cons_append, List.nil_append, List.append_nil, List.set_cons_zero, List.set_cons_succ, List.getElem?_cons_zero, List.getElem?_cons_succ, Option.some.injEq, V.int.injEq, V.bl.injEq, exists_eq_left', exists_eq_left, exists_and_left, tFor_eq, iRng1, iRng2, iRng3, iList, iEnum, iZip, iTup, tLst_eq, tTup_eq, rCat_eq, rCatS, rSum, rAppend_eq, rListOf, rSlL_eq, tSl, tNoPart, tPart, tLc_eq, tBM, rIxL, rIxT, min3_eq, rEq_int, rNe_int, min_if, max_if, and_assoc, V.ref.injEq, V.str.injEq, List.cons.injEq, and_true, true_and, ↓reduceIte, Bool.false_eq_true, Bool.not_true, Bool.not_false, Int.reduceToNat, Int.reducePow, Int.reduceAdd, Int.reduceSub, Int.reduceNeg, tVirt, tOff, tFld, sFld_eq, tMake_eq, rTupOf, iStr, rNe_str, rEq_str, rEq_bl, tRaise1, tFmt, tJs, tCallS, WE, wKeep_eq, reduceCtorEq, false_and, and_false, exists_false, or_false, false_or, tIsN, tNotN, decide_true, decide_false, tDictN]
    refine ⟨_, rfl, knownB ha e1 kv0, fun ov0 => ?_, fun e => no (by unfold tLine; rw [e]; simp)⟩
    refine ⟨_, _, rfl, knownB ha e1 kv1, by decide, fun ov1 => ?_, fun e => no (by unfold tLine; rw [e]; simp)⟩
    refine ⟨_, _, rfl, knownB ha e1 kv2, by decide, fun ov2 => ?_, fun e => no (by unfold tLine; rw [e]; simp)⟩
    refine ⟨_, _, rfl, knownB ha e1 kv3, by decide, fun ov3 => ?_, fun e => no (by unfold tLine; rw [e]; simp)⟩
    refine ⟨_, _, _, h1, M.c, M.n_lane, lt1k (show (f6 n l g p ga pl).length ≤ 6 from Nat.le_refl _) (by decide), chg_of fun G0 j0 g0 => ⟨_, _, _, g0, M.c, M.n_at, lt1k (pl1 (show (f6 n l g p ga pl).length ≤ 6 from Nat.le_refl _)) (by decide), chg_of fun G1 j1 g1 => ⟨_, _, _, g1, M.c, M.n_wide, lt1k (pl1 (pl1 (show (f6 n l g p ga pl).length ≤ 6 from Nat.le_refl _))) (by decide), chg_of fun G2 j2 g2 => ⟨_, _, _, g2, M.c, M.n_tall, lt1k (pl1 (pl1 (pl1 (show (f6 n l g p ga pl).length ≤ 6 from Nat.le_refl _)))) (by decide), chg_of fun G3 j3 g3 => ?_⟩⟩⟩⟩
    refine fine (by unfold tLine; rw [ov0, ov1, ov2, ov3]; rfl) G3 (e1.trans (.chg fun b nb => ?_)) g3
    rw [j3 b nb, j2 b nb, j1 b nb, j0 b nb]
def tWagon (v0 v1 v2 : V) : Bool := wholeV v0 0 9 && wholeV v1 1 1000000 && wholeV v2 1 1000000
def sp_Wagon_init (K : PySem.W.Frag) (T CN CB : Addr) (Cs : List Addr) : Sp := fun vs H Q E => ∃ (a C dx : Addr) (n l g p ga pl v0 v1 v2 : V), vs = [.ref a, n, l, g, p, ga, pl, v0, v1, v2] ∧ H a = some (.ins C dx []) ∧ C ∈ Cs ∧ KnownS K H n ∧ Known K H l ∧ Known K H g ∧ Known K H p ∧ Known K H ga ∧ Known K H pl ∧ Known K H v0 ∧ Known K H v1 ∧ Known K H v2 ∧ GxR.TabG H T ∧
  (nameV n = false → ∀ H', ExB a H H' → E (.ref CN) none H') ∧ (nameV n = true → (mOk l g p ga pl && tWagon v0 v1 v2) = false → ∀ H', ExB a H H' → E (.ref CB) none H') ∧
  (nameV n = true → mOk l g p ga pl = true → tWagon v0 v1 v2 = true → ∀ H', ExB a H H' → H' a = some (.ins C dx (f6 n l g p ga pl ++ ([("lane_told", v0), ("wide_told", v1), ("tall_told", v2)] : List (Str × V)))) → Q .non H')
theorem ok_Wagon_init (B : Bt mg cl) {T : Addr} {Cs : List Addr} (MM : ∀ C ∈ Cs, MC K C) (O_Machine_init : Off P w K mg base (L2.CX P w) 5 (cl 13) "__init__" ["self", "name", "least", "greatest", "pace", "gain", "place"] (sp_Machine_init K T (cl 2) (cl 1) Cs)) (F_need_lane : Fn P w K mg base "need_lane" ["lane"] (L2.CX P w) 3 (sp_need_lane K (cl 1))) (F_need_size : Fn P w K mg base "need_size" ["size", "what"] (L2.CX P w) 3 (sp_need_size K (cl 1))) {f : Addr} {fd : FuncData} (F : Fun K "__init__" "Wagon.__init__" s_Wagon___init__ f fd) : FnOk P w K mg base (L2.CX P w) 6 f fd ["self", "name", "least", "greatest", "pace", "gain", "place", "lane", "wide", "tall"] (sp_Wagon_init K T (cl 2) (cl 1) Cs) := by
  refine F.okX sc_Wagon___init__ (fun vs H Q E h => ?_) (fun cdv A outer s H vs Q E hr h => ?_)
  · obtain ⟨a, C, dx, n, l, g, p, ga, pl, v0, v1, v2, rfl, _⟩ := h
    rfl
  · obtain ⟨a, C, dx, n, l, g, p, ga, pl, v0, v1, v2, rfl, ha, hC, kn, kl, kg, kp, kga, kpl, kv0, kv1, kv2, tg, noname, bad, good⟩ := h
    have M := MM C hC
    refine ⟨_, (pss_cons (ps_expr (pe_off O_Machine_init (hr.mono (by decide)) (fun σ => passAt (takes_of rfl rfl rfl rfl) σ) (pe_glob (v := .ref _) (by rfl) B.c_Machine rfl) (pa_cons (pv 0) (pa_cons (pv 1) (pa_cons (pv 2) (pa_cons (pv 3) (pa_cons (pv 4) (pa_cons (pv 5) (pa_cons (pv 6) pa_nil)))))))))
      (pss_cons (ps_expr (pe_fnX F_need_lane (hr.mono (by decide)) (passes_call (takes_of rfl rfl rfl rfl) (fun _ _ _ _ h => h)) (pa_cons (pv 7) pa_nil)))
      (pss_cons (ps_expr (pe_fnX F_need_size (hr.mono (by decide)) (passes_call (takes_of rfl rfl rfl rfl) (fun _ _ _ _ h => h)) (pa_cons (pv 8) (pa_cons pe_str pa_nil))))
      (pss_cons (ps_expr (pe_fnX F_need_size (hr.mono (by decide)) (passes_call (takes_of rfl rfl rfl rfl) (fun _ _ _ _ h => h)) (pa_cons (pv 9) (pa_cons pe_str pa_nil))))
      (pss_cons (k_sfld (K := K) rfl (pv 0) (pv 7) (by rfl))
      (pss_cons (k_sfld (K := K) rfl (pv 0) (pv 8) (by rfl))
      (pss_one (k_sfld (K := K) rfl (pv 0) (pv 9) (by rfl))))))))), ?_⟩
    refine cut_eq fun N1 hN1 => ?_
    simp only [tSeq, tIfS, tOr, tAnd, tNot, tB, tTest, tCB, tCall, tCons, tVar, tNil, tC, tRet, tRetN, tNext, tAsg, gName, tDrop, tOp, tUn, tAug, ipI, tPar, tIf, tAndV, tOrV, tNotV, tChain, tNever, rI0, rI, rU, L2.start, cxK, List.map_cons, List.map_nil, List.length_cons, List.length_nil, Nat.reduceAdd, Nat.reduceSub, List.replicate, List.cons_append, List.nil_append, List.append_nil, List.set_cons_zero, List.set_cons_succ, List.getElem?_cons_zero, List.getElem?_cons_succ, Option.some.injEq, V.int.injEq, V.bl.injEq, exists_eq_left', exists_eq_left, exists_and_left, tFor_eq, iRng1, iRng2, iRng3, iList, iEnum, iZip, iTup, tLst_eq, tTup_eq, rCat_eq, rCatS, rSum, rAppend_eq, rListOf, rSlL_eq, tSl, tNoPart, tPart, tLc_eq, tBM, rIxL, rIxT, min3_eq, rEq_int, rNe_int, min_if, max_if, and_assoc, V.ref.injEq, V.str.injEq, List.cons.injEq, and_true, true_and, ↓reduceIte, Bool.false_eq_true, Bool.not_true, Bool.not_false, Int.reduceToNat, Int.reducePow, Int.reduceAdd, Int.reduceSub, Int.reduceNeg, tVirt, tOff, tFld, sFld_eq, tMake_eq, rTupOf, iStr, rNe_str, rEq_str, rEq_bl, tRaise1, tFmt, tJs, tCallS, WE, wKeep_eq, reduceCtorEq, false_and, and_false, exists_false, or_false, false_or, tIsN, tNotN, decide_true, decide_false, tDictN]
    refine ⟨a, C, dx, n, l, g, p, ga, pl, rfl, ha, hC, kn, kl, kg, kp, kga, kpl, tg, fun h H1 e1 => noname h H1 (.of e1), fun h h2 H1 e1 => bad h (by rw [h2]; rfl) H1 (.of e1), fun hn hm H1 e1 h1 => ?_⟩
    show N1 _ H1
    rw [← hN1]
    clear hN1
    have no := fun h => bad hn h H1 e1
    rw [hm, Bool.true_and] at no
    have fine := good hn hm
    simp only [tSeq, tIfS, tOr, tAnd, tNot, tB, tTest, tCB, tCall, tCons, tVar, tNil, tC, tRet, tRetN, tNext, tAsg, gName, tDrop, tOp, tUn, tAug, ipI, tPar, tIf, tAndV, tOrV, tNotV, tChain, tNever, rI0, rI, rU, L2.start, cxK, List.map_cons, List.map_nil, List.length_cons, List.length_nil, Nat.reduceAdd, Nat.reduceSub, List.replicate, List.cons_append, List.nil_append, List.append_nil, List.set_cons_zero, List.set_cons_succ, List.getElem?_cons_zero, List.getElem?_cons_succ, Option.some.injEq, V.int.injEq, V.bl.injEq, exists_eq_left', exists_eq_left, exists_and_left, tFor_eq, iRng1, iRng2, iRng3, iList, iEnum, iZip, iTup, tLst_eq, tTup_eq, rCat_eq, rCatS, rSum, rAppend_eq, rListOf, rSlL_eq, tSl, tNoPart, tPart, tLc_eq, tBM, rIxL, rIxT, min3_eq, rEq_int, rNe_int, min_if, max_if, and_assoc, V.ref.injEq, V.str.injEq, List.cons.injEq, and_true, true_and, ↓reduceIte, Bool.false_eq_true, Bool.not_true, Bool.not_false, Int.reduceToNat, Int.reducePow, Int.reduceAdd, Int.reduceSub, Int.reduceNeg, tVirt, tOff, tFld, sFld_eq, tMake_eq, rTupOf, iStr, rNe_str, rEq_str, rEq_bl, tRaise1, tFmt, tJs, tCallS, WE, wKeep_eq, reduceCtorEq, false_and, and_false, exists_false, or_false, false_or, tIsN, tNotN, decide_true, decide_false, tDictN]
    refine ⟨_, rfl, knownB ha e1 kv0, fun ov0 => ?_, fun e => no (by unfold tWagon; rw [e]; simp)⟩
    refine ⟨_, _, rfl, knownB ha e1 kv1, by decide, fun ov1 => ?_, fun e => no (by unfold tWagon; rw [e]; simp)⟩
    refine ⟨_, _, rfl, knownB ha e1 kv2, by decide, fun ov2 => ?_, fun e => no (by unfold tWagon; rw [e]; simp)⟩
    refine ⟨_, _, _, h1, M.c, M.n_lane, lt1k (show (f6 n l g p ga pl).length ≤ 6 from Nat.le_refl _) (by decide), chg_of fun G0 j0 g0 => ⟨_, _, _, g0, M.c, M.n_wide, lt1k (pl1 (show (f6 n l g p ga pl).length ≤ 6 from Nat.le_refl _)) (by decide), chg_of fun G1 j1 g1 => ⟨_, _, _, g1, M.c, M.n_tall, lt1k (pl1 (pl1 (show (f6 n l g p ga pl).length ≤ 6 from Nat.le_refl _))) (by decide), chg_of fun G2 j2 g2 => ?_⟩⟩⟩
    refine fine (by unfold tWagon; rw [ov0, ov1, ov2]; rfl) G2 (e1.trans (.chg fun b nb => ?_)) g2
    rw [j2 b nb, j1 b nb, j0 b nb]
def tTrap (v0 v1 v2 : V) : Bool := wholeV v0 0 9 && wholeV v1 (-1000000000) 1000000000 && wholeV v2 1 1000000
def sp_Trap_init (K : PySem.W.Frag) (T CN CB : Addr) (Cs : List Addr) : Sp := fun vs H Q E => ∃ (a C dx : Addr) (n l g p ga pl v0 v1 v2 : V), vs = [.ref a, n, l, g, p, ga, pl, v0, v1, v2] ∧ H a = some (.ins C dx []) ∧ C ∈ Cs ∧ KnownS K H n ∧ Known K H l ∧ Known K H g ∧ Known K H p ∧ Known K H ga ∧ Known K H pl ∧ Known K H v0 ∧ Known K H v1 ∧ Known K H v2 ∧ GxR.TabG H T ∧
  (nameV n = false → ∀ H', ExB a H H' → E (.ref CN) none H') ∧ (nameV n = true → (mOk l g p ga pl && tTrap v0 v1 v2) = false → ∀ H', ExB a H H' → E (.ref CB) none H') ∧
  (nameV n = true → mOk l g p ga pl = true → tTrap v0 v1 v2 = true → ∀ H', ExB a H H' → H' a = some (.ins C dx (f6 n l g p ga pl ++ ([("lane_told", v0), ("at_told", v1), ("wide_told", v2)] : List (Str × V)))) → Q .non H')
theorem ok_Trap_init (B : Bt mg cl) {T : Addr} {Cs : List Addr} (MM : ∀ C ∈ Cs, MC K C) (O_Machine_init : Off P w K mg base (L2.CX P w) 5 (cl 13) "__init__" ["self", "name", "least", "greatest", "pace", "gain", "place"] (sp_Machine_init K T (cl 2) (cl 1) Cs)) (F_need_lane : Fn P w K mg base "need_lane" ["lane"] (L2.CX P w) 3 (sp_need_lane K (cl 1))) (F_need_place : Fn P w K mg base "need_place" ["place", "what"] (L2.CX P w) 3 (sp_need_place K (cl 1))) (F_need_size : Fn P w K mg base "need_size" ["size", "what"] (L2.CX P w) 3 (sp_need_size K (cl 1))) {f : Addr} {fd : FuncData} (F : Fun K "__init__" "Trap.__init__" s_Trap___init__ f fd) : FnOk P w K mg base (L2.CX P w) 6 f fd ["self", "name", "least", "greatest", "pace", "gain", "place", "lane", "at", "wide"] (sp_Trap_init K T (cl 2) (cl 1) Cs) := by
  refine F.okX sc_Trap___init__ (fun vs H Q E h => ?_) (fun cdv A outer s H vs Q E hr h => ?_)
  · obtain ⟨a, C, dx, n, l, g, p, ga, pl, v0, v1, v2, rfl, _⟩ := h
    rfl
  · obtain ⟨a, C, dx, n, l, g, p, ga, pl, v0, v1, v2, rfl, ha, hC, kn, kl, kg, kp, kga, kpl, kv0, kv1, kv2, tg, noname, bad, good⟩ := h
    have M := MM C hC
    refine ⟨_, (pss_cons (ps_expr (pe_off O_Machine_init (hr.mono (by decide)) (fun σ => passAt (takes_of rfl rfl rfl rfl) σ) (pe_glob (v := .ref _) (by rfl) B.c_Machine rfl) (pa_cons (pv 0) (pa_cons (pv 1) (pa_cons (pv 2) (pa_cons (pv 3) (pa_cons (pv 4) (pa_cons (pv 5) (pa_cons (pv 6) pa_nil)))))))))
      (pss_cons (ps_expr (pe_fnX F_need_lane (hr.mono (by decide)) (passes_call (takes_of rfl rfl rfl rfl) (fun _ _ _ _ h => h)) (pa_cons (pv 7) pa_nil)))
      (pss_cons (ps_expr (pe_fnX F_need_place (hr.mono (by decide)) (passes_call (takes_of rfl rfl rfl rfl) (fun _ _ _ _ h => h)) (pa_cons (pv 8) (pa_cons pe_str pa_nil))))
      (pss_cons (ps_expr (pe_fnX F_need_size (hr.mono (by decide)) (passes_call (takes_of rfl rfl rfl rfl) (fun _ _ _ _ h => h)) (pa_cons (pv 9) (pa_cons pe_str pa_nil))))
      (pss_cons (k_sfld (K := K) rfl (pv 0) (pv 7) (by rfl))
      (pss_cons (k_sfld (K := K) rfl (pv 0) (pv 8) (by rfl))
      (pss_one (k_sfld (K := K) rfl (pv 0) (pv 9) (by rfl))))))))), ?_⟩
    refine cut_eq fun N1 hN1 => ?_
    simp only [tSeq, tIfS, tOr, tAnd, tNot, tB, tTest, tCB, tCall, tCons, tVar, tNil, tC, tRet, tRetN, tNext, tAsg, gName, tDrop, tOp, tUn, tAug, ipI, tPar, tIf, tAndV, tOrV, tNotV, tChain, tNever, rI0, rI, rU, L2.start, cxK, List.map_cons, List.map_nil, List.length_cons, List.length_nil, Nat.reduceAdd, Nat.reduceSub, List.replicate, List.cons_append, List.nil_append, List.append_nil, List.set_cons_zero, List.set_cons_succ, List.getElem?_cons_zero, List.getElem?_cons_succ, Option.some.injEq, V.int.injEq, V.bl.injEq, exists_eq_left', exists_eq_left, exists_and_left, tFor_eq, iRng1, iRng2, iRng3, iList, iEnum, iZip, iTup, tLst_eq, tTup_eq, rCat_eq, rCatS, rSum, rAppend_eq, rListOf, rSlL_eq, tSl, tNoPart, tPart, tLc_eq, tBM, rIxL, rIxT, min3_eq, rEq_int, rNe_int, min_if, max_if, and_assoc, V.ref.injEq, V.str.injEq, List.cons.injEq, and_true, true_and, ↓reduceIte, Bool.false_eq_true, Bool.not_true, Bool.not_false, Int.reduceToNat, Int.reducePow, Int.reduceAdd, Int.reduceSub, Int.reduceNeg, tVirt, tOff, tFld, sFld_eq, tMake_eq, rTupOf, iStr, rNe_str, rEq_str, rEq_bl, tRaise1, tFmt, tJs, tCallS, WE, wKeep_eq, reduceCtorEq, false_and, and_false, exists_false, or_false, false_or, tIsN, tNotN, decide_true, decide_false, tDictN]
    refine ⟨a, C, dx, n, l, g, p, ga, pl, rfl, ha, hC, kn, kl, kg, kp, kga, kpl, tg, fun h H1 e1 => noname h H1 (.of e1), fun h h2 H1 e1 => bad h (by rw [h2]; rfl) H1 (.of e1), fun hn hm H1 e1 h1 => ?_⟩
    show N1 _ H1
    rw [← hN1]
    clear hN1
    have no := fun h => bad hn h H1 e1
    rw [hm, Bool.true_and] at no
    have fine := good hn hm
    simp only [tSeq, tIfS, tOr, tAnd, tNot, tB, tTest, tCB, tCall, tCons, tVar, tNil, tC, tRet, tRetN, tNext, tAsg, gName, tDrop, tOp, tUn, tAug, ipI, tPar, tIf, tAndV, tOrV, tNotV, tChain, tNever, rI0, rI, rU, L2.start, cxK, List.map_cons, List.map_nil, List.length_cons, List.length_nil, Nat.reduceAdd, Nat.reduceSub, List.replicate, List.cons_append, List.nil_append, List.append_nil, List.set_cons_zero, List.set_cons_succ, List.getElem?_cons_zero, List.getElem?_cons_succ, Option.some.injEq, V.int.injEq, V.bl.injEq, exists_eq_left', exists_eq_left, exists_and_left, tFor_eq, iRng1, iRng2, iRng3, iList, iEnum, iZip, iTup, tLst_eq, tTup_eq, rCat_eq, rCatS, rSum, rAppend_eq, rListOf, rSlL_eq, tSl, tNoPart, tPart, tLc_eq, tBM, rIxL, rIxT, min3_eq, rEq_int, rNe_int, min_if, max_if, and_assoc, V.ref.injEq, V.str.injEq, List.cons.injEq, and_true, true_and, ↓reduceIte, Bool.false_eq_true, Bool.not_true, Bool.not_false, Int.reduceToNat, Int.reducePow, Int.reduceAdd, Int.reduceSub, Int.reduceNeg, tVirt, tOff, tFld, sFld_eq, tMake_eq, rTupOf, iStr, rNe_str, rEq_str, rEq_bl, tRaise1, tFmt, tJs, tCallS, WE, wKeep_eq, reduceCtorEq, false_and, and_false, exists_false, or_false, false_or, tIsN, tNotN, decide_true, decide_false, tDictN]
    refine ⟨_, rfl, knownB ha e1 kv0, fun ov0 => ?_, fun e => no (by unfold tTrap; rw [e]; simp)⟩
    refine ⟨_, _, rfl, knownB ha e1 kv1, by decide, fun ov1 => ?_, fun e => no (by unfold tTrap; rw [e]; simp)⟩
    refine ⟨_, _, rfl, knownB ha e1 kv2, by decide, fun ov2 => ?_, fun e => no (by unfold tTrap; rw [e]; simp)⟩
    refine ⟨_, _, _, h1, M.c, M.n_lane, lt1k (show (f6 n l g p ga pl).length ≤ 6 from Nat.le_refl _) (by decide), chg_of fun G0 j0 g0 => ⟨_, _, _, g0, M.c, M.n_at, lt1k (pl1 (show (f6 n l g p ga pl).length ≤ 6 from Nat.le_refl _)) (by decide), chg_of fun G1 j1 g1 => ⟨_, _, _, g1, M.c, M.n_wide, lt1k (pl1 (pl1 (show (f6 n l g p ga pl).length ≤ 6 from Nat.le_refl _))) (by decide), chg_of fun G2 j2 g2 => ?_⟩⟩⟩
    refine fine (by unfold tTrap; rw [ov0, ov1, ov2]; rfl) G2 (e1.trans (.chg fun b nb => ?_)) g2
    rw [j2 b nb, j1 b nb, j0 b nb]
end
end FW

set_option Elab.async false
set_option linter.all false
set_option maxRecDepth 100000
set_option maxHeartbeats 4000000
namespace L2
open PySem PySem.Spec PyProof.Rows Evt
/-- a comprehension whose items are new things: R by the turn and the items so far -/
def AtG (H : Hp) (Dl : Addr) (R : Nat → List V → Hp → Prop) (i : Nat) (H' : Hp) : Prop := Ex H H' ∧ ∃ acc, H' Dl = some (.lst acc) ∧ acc.length ≤ i ∧ R i acc H'
def PutG (H : Hp) (Dl : Addr) (R : Nat → List V → Hp → Prop) (i : Nat) (y : V) (H4 : Hp) : Prop := ∃ acc, H4 Dl = some (.lst acc) ∧ acc.length < sizeLine ∧ AtG H Dl R (i + 1) (upd H4 Dl (.lst (acc ++ [y])))
theorem putG_of {H H4 : Hp} {Dl : Addr} {R : Nat → List V → Hp → Prop} {i : Nat} {y : V} {acc : List V} (hD : H Dl = none) (e : Ex H H4) (h4 : H4 Dl = some (.lst acc)) (hl : acc.length ≤ i) (hi : i < sizeLine) (r : ∀ H5, (∀ a, a ≠ Dl → H5 a = H4 a) → R (i + 1) (acc ++ [y]) H5) : PutG H Dl R i y H4 :=
  ⟨acc, h4, Nat.lt_of_le_of_lt hl hi, Ex.mut e hD, acc ++ [y], upd_same, by rw [List.length_append]; exact Nat.succ_le_succ hl, r _ fun a ha => upd_ne ha⟩
theorem lc_grow {J : It} {n : Nat} {G : Hp → Prop} {Y : Nat → Hp → V → Hp → Prop} (w : Walk J n G Y) {g : TG} {σ : St} {H : Hp} {tt : TT} {te : TE} {vs : List Nat} {Q : VK} {Dl : Addr} (R : Nat → List V → Hp → Prop) (hD : H Dl = none) (hG : ∀ H', Ex H H' → G H') (h0 : ∀ H', Ex H H' → R 0 [] H')
    (hs : ∀ i x acc H0 H', i < n → Ex H H0 → H0 Dl = some (.lst acc) → acc.length ≤ i → R i acc H0 → Y i H0 x H' → g x (wipe σ vs) H' fun σ2 H2 => wipe σ2 vs = wipe σ vs ∧ tt σ2 H2 fun b H3 => if b = true then te σ2 H3 fun y H4 => PutG H Dl R i y H4 else AtG H Dl R (i + 1) H3)
    (hd : ∀ acc H', Ex H H' → H' Dl = some (.lst acc) → R n acc H' → Q (.ref Dl) H') : LcI J g tt te vs σ H Dl Q :=
  lc_it w (AtG H Dl R) ⟨Ex.new hD, [], upd_same, Nat.le_refl _, h0 _ (Ex.new hD)⟩ (fun i H' _ p => hG H' p.1) (fun i x H0 H' hi p y => p.2.elim fun acc q => hs i x acc H0 H' hi p.1 q.1 q.2.1 q.2.2 y) (fun H' p => p.2.elim fun acc q => hd acc H' p.1 q.1 q.2.2)
end L2
namespace FW
open PySem PySem.Spec PyProof.Rows L2 Evt
section
variable {P : Program} {w : World} {K : PySem.W.Frag} {mg : Str → Option Value} {base : Heap} {cl : Nat → Addr}
/-! ### walls -/
def RetT (xs : List V) (G : Hp) (Q : VK) : Prop := ∀ p G2, G p = none → Ex G G2 → G2 p = some (.tup xs) → Q (.ref p) G2
/-- a wall: offset, wide, tall -/
abbrev Wl := Int × Int × Int
def wlV (w : Wl) : List V := [.int w.1, .int w.2.1, .int w.2.2]
def WlOk (w : Wl) : Prop := 0 ≤ w.1 ∧ w.1 ≤ 719 ∧ 1 ≤ w.2.1 ∧ w.2.1 ≤ 1000000 ∧ 1 ≤ w.2.2 ∧ w.2.2 ≤ 1000000
def wallV : List V → Option Wl
  | [.int o, .int w, .int t] => if 0 ≤ o ∧ o ≤ 719 ∧ 1 ≤ w ∧ w ≤ 1000000 ∧ 1 ≤ t ∧ t ≤ 1000000 then some (o, w, t) else none
  | _ => none
theorem wallV_some {xs : List V} {w : Wl} (h : wallV xs = some w) : xs = wlV w ∧ WlOk w := by
  unfold wallV at h
  split at h
  · split at h
    · cases h
      rename_i c
      exact ⟨rfl, c⟩
    · cases h
  · cases h
theorem wallV_of {w : Wl} (h : WlOk w) : wallV (wlV w) = some w := by
  obtain ⟨o, wd, t⟩ := w
  show (if 0 ≤ o ∧ o ≤ 719 ∧ 1 ≤ wd ∧ wd ≤ 1000000 ∧ 1 ≤ t ∧ t ≤ 1000000 then some (o, wd, t) else none) = _
  exact if_pos h
theorem wallV_no {a b c : V} (h : wholeV a 0 719 = false ∨ wholeV b 1 1000000 = false ∨ wholeV c 1 1000000 = false) : wallV [a, b, c] = none := by
  cases z : wallV [a, b, c] with
  | none => rfl
  | some w =>
    obtain ⟨e, o0, o1, w0, w1, t0, t1⟩ := wallV_some z
    cases e
    have y : ∀ {i l m : Int}, l ≤ i → i ≤ m → wholeV (.int i) l m = true := fun {i l m} h1 h2 => by
      show (decide (l ≤ i) && decide (i ≤ m)) = true
      rw [decide_eq_true h1, decide_eq_true h2]
      rfl
    rw [y o0 o1, y w0 w1, y t0 t1] at h
    rcases h with h | h | h <;> cases h
theorem wallV_len {xs : List V} (h : xs.length ≠ 3) : wallV xs = none := by
  cases z : wallV xs with
  | none => rfl
  | some w =>
    obtain ⟨e, _⟩ := wallV_some z
    rw [e] at h
    exact absurd rfl h
/-- a plain thing and its type's name -/
inductive Sv (H : Hp) : V → String → Prop
  | non : Sv H .non "NoneType"
  | bl (b : Bool) : Sv H (.bl b) "bool"
  | int (i : Int) : Sv H (.int i) "int"
  | str (z : Str) (h : z.length ≤ 100000) : Sv H (.str z) "str"
  | lst {a : Addr} {xs : List V} (h : H a = some (.lst xs)) : Sv H (.ref a) "list"
  | tup {a : Addr} {xs : List V} (h : H a = some (.tup xs)) : Sv H (.ref a) "tuple"
/-- lists and tuples stay -/
def Ls (H H' : Hp) : Prop := (∀ a xs, H a = some (.lst xs) → H' a = some (.lst xs)) ∧ ∀ a xs, H a = some (.tup xs) → H' a = some (.tup xs)
theorem Ls.of {H H' : Hp} (e : Ex H H') : Ls H H' := ⟨fun _ _ h => e _ _ h, fun _ _ h => e _ _ h⟩
theorem Ls.ofB {a C dx : Addr} {fs : List (Str × V)} {H H' : Hp} (ha : H a = some (.ins C dx fs)) (e : ExB a H H') : Ls H H' :=
  ⟨fun b xs h => e b _ (fun z => by rw [z, ha] at h; cases h) h, fun b xs h => e b _ (fun z => by rw [z, ha] at h; cases h) h⟩
theorem Sv.mono {H H' : Hp} {x : V} {s : String} (e : Ls H H') (h : Sv H x s) : Sv H' x s := by
  cases h with
  | non => exact .non
  | bl b => exact .bl b
  | int i => exact .int i
  | str z h => exact .str z h
  | lst h => exact .lst (e.1 _ _ h)
  | tup h => exact .tup (e.2 _ _ h)
theorem Sv.ty {H : Hp} {x : V} {s : String} (h : Sv H x s) : TyX K H x (.type s) := by
  cases h with
  | non => exact .base .non
  | bl b => exact .base (.bl b)
  | int i => exact .base (.int i)
  | str z h => exact .base (.str z)
  | lst h => exact .base (.lst h)
  | tup h => exact .base (.tup h)
theorem Sv.kit {H : Hp} {x : V} {s : String} (h : Sv H x s) (n : s ≠ "tuple") : kitB s "tuple" = some false := by
  cases h with
  | tup _ => exact absurd rfl n
  | _ => decide +kernel
theorem Sv.kitL {H : Hp} {x : V} {s : String} (h : Sv H x s) (n : s ≠ "list") : kitB s "list" = some false := by
  cases h with
  | lst _ => exact absurd rfl n
  | _ => decide +kernel
theorem Sv.known {H : Hp} {x : V} {s : String} (h : Sv H x s) : Known K H x := by
  cases h with
  | bl b => exact .inr (.inl ⟨b, rfl⟩)
  | int i => exact .inl ⟨i, rfl⟩
  | non => exact .inr (.inr ⟨_, .base .non, by decide +kernel⟩)
  | str z h => exact .inr (.inr ⟨_, .base (.str z), by decide +kernel⟩)
  | lst h => exact .inr (.inr ⟨_, .base (.lst h), by decide +kernel⟩)
  | tup h => exact .inr (.inr ⟨_, .base (.tup h), by decide +kernel⟩)
theorem Sv.knownS {H : Hp} {x : V} {s : String} (h : Sv H x s) : KnownS K H x := by
  cases h with
  | bl b => exact .inr ⟨_, .base (.bl b), by decide +kernel⟩
  | int i => exact .inr ⟨_, .base (.int i), by decide +kernel⟩
  | non => exact .inr ⟨_, .base .non, by decide +kernel⟩
  | str z h => exact .inl ⟨z, rfl, h⟩
  | lst h => exact .inr ⟨_, .base (.lst h), by decide +kernel⟩
  | tup h => exact .inr ⟨_, .base (.tup h), by decide +kernel⟩
/-- whether a thing is a wall, and which -/
def WallIs (H : Hp) (x : V) (r : Option Wl) : Prop := (∃ (t : Addr) (xs : List V), x = .ref t ∧ H t = some (.tup xs) ∧ xs.length ≤ 100 ∧ (∀ y ∈ xs, ∃ s, Sv H y s) ∧ wallV xs = r) ∨ ∃ s, Sv H x s ∧ s ≠ "tuple" ∧ r = none
theorem WallIs.mono {H H' : Hp} {x : V} {r : Option Wl} (e : Ls H H') (h : WallIs H x r) : WallIs H' x r := by
  rcases h with ⟨t, xs, rfl, ht, l, k, w⟩ | ⟨s, h1, h2, h3⟩
  · exact .inl ⟨t, xs, rfl, e.2 _ _ ht, l, fun y hy => (k y hy).elim fun s q => ⟨s, q.mono e⟩, w⟩
  · exact .inr ⟨s, h1.mono e, h2, h3⟩
def sp_copied_wall (CB : Addr) : Sp := fun vs H Q E => ∃ (x : V) (r : Option Wl), vs = [x] ∧ WallIs H x r ∧ (r = none → E (.ref CB) none H) ∧ ∀ w, r = some w → RetT (wlV w) H Q
theorem ok_copied_wall (B : Bt mg cl) (EE : Exs K mg cl) (F_need_whole : Fn P w K mg base "need_whole" ["thing", "least", "most", "what"] (L2.CX P w) 2 (sp_need_whole K (cl 1))) (F_need_size : Fn P w K mg base "need_size" ["size", "what"] (L2.CX P w) 3 (sp_need_size K (cl 1))) {f : Addr} {fd : FuncData} (F : Fun K "copied_wall" "copied_wall" s_copied_wall f fd) : FnOk P w K mg base (L2.CX P w) 4 f fd ["wall"] (sp_copied_wall (cl 1)) := by
  refine F.okX sc_copied_wall (fun vs H Q E h => ?_) (fun cdv A outer s H vs Q E hr h => ?_)
  · obtain ⟨x, r, rfl, _⟩ := h
    rfl
  · obtain ⟨x, r, rfl, wi, bad, q⟩ := h
    refine ⟨_, (pss_cons (ps_if (PW.pt (pw_or (pt_not (pt_val (pe_callB (k_isY (K := K) rfl) (by rfl) B.b_isinstance (by decide +kernel) (pa_cons (pv 0) (pa_cons (pe_bltn (v := .ty "tuple") (by rfl) B.b_tuple (by decide +kernel) rfl) pa_nil))))) (pw_or1 (pt_cmpR op_ne (pe_callB (k_len (K := K) rfl) (by rfl) B.b_len (by decide +kernel) (pa_cons (pv 0) pa_nil)) pe_int (nomark _)))))
        (pss_one (ps_raise1 rfl EE.BadNumber (takes_of rfl rfl rfl rfl) pe_str))
        pss_nil)
      (pss_cons (ps_asg (pv 0) (k_pgt (K := K) (n := 3) rfl rfl (pgs_cons (pg_name (i := 1) sc_copied_wall.nd rfl (.inl rfl)) (pgs_cons (pg_name (i := 2) sc_copied_wall.nd rfl (.inl rfl)) (pgs_cons (pg_name (i := 3) sc_copied_wall.nd rfl (.inl rfl)) pgs_nil)))))
      (pss_cons (ps_expr (pe_fnX F_need_whole (hr.mono (by decide)) (passes_call (takes_of rfl rfl rfl rfl) (fun _ _ _ _ h => h)) (pa_cons (pv 1) (pa_cons pe_int (pa_cons (pe_gint B.g_MOST_OFFSET) (pa_cons pe_str pa_nil))))))
      (pss_cons (ps_expr (pe_fnX F_need_size (hr.mono (by decide)) (passes_call (takes_of rfl rfl rfl rfl) (fun _ _ _ _ h => h)) (pa_cons (pv 2) (pa_cons pe_str pa_nil))))
      (pss_cons (ps_expr (pe_fnX F_need_size (hr.mono (by decide)) (passes_call (takes_of rfl rfl rfl rfl) (fun _ _ _ _ h => h)) (pa_cons (pv 3) (pa_cons pe_str pa_nil))))
      (pss_one (ps_ret (pe_tup (pa_cons (pv 1) (pa_cons (pv 2) (pa_cons (pv 3) pa_nil))))))))))), ?_⟩
    refine cut_eq fun N1 hN1 => ?_
    rcases wi with ⟨t, xs, rfl, ht, lx, kn, rfl⟩ | ⟨s, h1, h2, rfl⟩
    · simp only [tSeq, tIfS, tOr, tAnd, tNot, tB, tTest, tCB, tCall, tCons, tVar, tNil, tC, tRet, tRetN, tNext, tAsg, gName, tDrop, tOp, tUn, tAug, ipI, tPar, tIf, tAndV, tOrV, tNotV, tChain, tNever, rI0, rI, rU, L2.start, cxK, List.map_cons, List.map_nil, List.length_cons, List.length_nil, Nat.reduceAdd, Nat.reduceSub, List.replicate, List.cons_append, List.nil_append, List.append_nil, List.set_cons_zero, List.set_cons_succ, List.getElem?_cons_zero, List.getElem?_cons_succ, Option.some.injEq, V.int.injEq, V.bl.injEq, exists_eq_left', exists_eq_left, exists_and_left, tFor_eq, iRng1, iRng2, iRng3, iList, iEnum, iZip, iTup, tLst_eq, tTup_eq, rCat_eq, rCatS, rSum, rAppend_eq, rListOf, rSlL_eq, tSl, tNoPart, tPart, tLc_eq, tBM, rIxL, rIxT, min3_eq, rEq_int, rNe_int, min_if, max_if, and_assoc, V.ref.injEq, V.str.injEq, List.cons.injEq, and_true, true_and, ↓reduceIte, Bool.false_eq_true, Bool.not_true, Bool.not_false, Int.reduceToNat, Int.reducePow, Int.reduceAdd, Int.reduceSub, Int.reduceNeg, tVirt, tOff, tFld, sFld_eq, tMake_eq, rTupOf, iStr, rNe_str, rEq_str, rEq_bl, tRaise1, tFmt, tJs, tCallS, WE, wKeep_eq, reduceCtorEq, false_and, and_false, exists_false, or_false, false_or, tIsN, tNotN, decide_true, decide_false, tDictN]
      refine isy_ty (.base (.tup ht)) (b := true) (by decide +kernel) ⟨_, rfl, ifF rfl ⟨_, .inr (st_of ht), ?_⟩⟩
      by_cases l3 : xs.length = 3
      · match xs, l3 with
        | [a, b, c], _ =>
        refine ifF (by simp) ?_
        rw [← hN1]
        clear hN1
        refine cut_eq fun N1 hN1 => ?_
        refine ⟨_, rfl, t, [a, b, c], rfl, st_of ht, rfl, ?_⟩
        simp only [tSeq, tIfS, tOr, tAnd, tNot, tB, tTest, tCB, tCall, tCons, tVar, tNil, tC, tRet, tRetN, tNext, tAsg, gName, tDrop, tOp, tUn, tAug, ipI, tPar, tIf, tAndV, tOrV, tNotV, tChain, tNever, rI0, rI, rU, L2.start, cxK, List.map_cons, List.map_nil, List.length_cons, List.length_nil, Nat.reduceAdd, Nat.reduceSub, List.replicate, List.cons_append, List.nil_append, List.append_nil, List.set_cons_zero, List.set_cons_succ, List.getElem?_cons_zero, List.getElem?_cons_succ, Option.some.injEq, V.int.injEq, V.bl.injEq, exists_eq_left', exists_eq_left, exists_and_left, tFor_eq, iRng1, iRng2, iRng3, iList, iEnum, iZip, iTup, tLst_eq, tTup_eq, rCat_eq, rCatS, rSum, rAppend_eq, rListOf, rSlL_eq, tSl, tNoPart, tPart, tLc_eq, tBM, rIxL, rIxT, min3_eq, rEq_int, rNe_int, min_if, max_if, and_assoc, V.ref.injEq, V.str.injEq, List.cons.injEq, and_true, true_and, ↓reduceIte, Bool.false_eq_true, Bool.not_true, Bool.not_false, Int.reduceToNat, Int.reducePow, Int.reduceAdd, Int.reduceSub, Int.reduceNeg, tVirt, tOff, tFld, sFld_eq, tMake_eq, rTupOf, iStr, rNe_str, rEq_str, rEq_bl, tRaise1, tFmt, tJs, tCallS, WE, wKeep_eq, reduceCtorEq, false_and, and_false, exists_false, or_false, false_or, tIsN, tNotN, decide_true, decide_false, tDictN, gCons, gNil]
        rw [← hN1]
        clear hN1
        simp only [tSeq, tIfS, tOr, tAnd, tNot, tB, tTest, tCB, tCall, tCons, tVar, tNil, tC, tRet, tRetN, tNext, tAsg, gName, tDrop, tOp, tUn, tAug, ipI, tPar, tIf, tAndV, tOrV, tNotV, tChain, tNever, rI0, rI, rU, L2.start, cxK, List.map_cons, List.map_nil, List.length_cons, List.length_nil, Nat.reduceAdd, Nat.reduceSub, List.replicate, List.cons_append, List.nil_append, List.append_nil, List.set_cons_zero, List.set_cons_succ, List.getElem?_cons_zero, List.getElem?_cons_succ, Option.some.injEq, V.int.injEq, V.bl.injEq, exists_eq_left', exists_eq_left, exists_and_left, tFor_eq, iRng1, iRng2, iRng3, iList, iEnum, iZip, iTup, tLst_eq, tTup_eq, rCat_eq, rCatS, rSum, rAppend_eq, rListOf, rSlL_eq, tSl, tNoPart, tPart, tLc_eq, tBM, rIxL, rIxT, min3_eq, rEq_int, rNe_int, min_if, max_if, and_assoc, V.ref.injEq, V.str.injEq, List.cons.injEq, and_true, true_and, ↓reduceIte, Bool.false_eq_true, Bool.not_true, Bool.not_false, Int.reduceToNat, Int.reducePow, Int.reduceAdd, Int.reduceSub, Int.reduceNeg, tVirt, tOff, tFld, sFld_eq, tMake_eq, rTupOf, iStr, rNe_str, rEq_str, rEq_bl, tRaise1, tFmt, tJs, tCallS, WE, wKeep_eq, reduceCtorEq, false_and, and_false, exists_false, or_false, false_or, tIsN, tNotN, decide_true, decide_false, tDictN]
        have ka := kn a (by simp)
        have kb := kn b (by simp)
        have kc := kn c (by simp)
        refine ⟨_, _, _, _, rfl, ka.elim fun _ z => z.known, by decide, by decide, by decide, fun oa => ?_, fun h => bad (wallV_no (.inl h))⟩
        refine ⟨_, _, rfl, kb.elim fun _ z => z.known, by decide, fun ob => ?_, fun h => bad (wallV_no (.inr (.inl h)))⟩
        refine ⟨_, _, rfl, kc.elim fun _ z => z.known, by decide, fun oc => ?_, fun h => bad (wallV_no (.inr (.inr h)))⟩
        obtain ⟨i, rfl, i0, i1⟩ := whole_int oa
        obtain ⟨j, rfl, j0, j1⟩ := whole_int ob
        obtain ⟨k, rfl, k0, k1⟩ := whole_int oc
        exact ⟨sz_of (by decide), new_of fun p H1 np e1 h1 => q (i, j, k) (wallV_of (w := (i, j, k)) ⟨i0, i1, j0, j1, k0, k1⟩) p H1 np e1 h1⟩
      · refine ifT (by simpa using fun z => l3 (by omega)) ?_
        exact bad (wallV_len l3)
    · simp only [tSeq, tIfS, tOr, tAnd, tNot, tB, tTest, tCB, tCall, tCons, tVar, tNil, tC, tRet, tRetN, tNext, tAsg, gName, tDrop, tOp, tUn, tAug, ipI, tPar, tIf, tAndV, tOrV, tNotV, tChain, tNever, rI0, rI, rU, L2.start, cxK, List.map_cons, List.map_nil, List.length_cons, List.length_nil, Nat.reduceAdd, Nat.reduceSub, List.replicate, List.cons_append, List.nil_append, List.append_nil, List.set_cons_zero, List.set_cons_succ, List.getElem?_cons_zero, List.getElem?_cons_succ, Option.some.injEq, V.int.injEq, V.bl.injEq, exists_eq_left', exists_eq_left, exists_and_left, tFor_eq, iRng1, iRng2, iRng3, iList, iEnum, iZip, iTup, tLst_eq, tTup_eq, rCat_eq, rCatS, rSum, rAppend_eq, rListOf, rSlL_eq, tSl, tNoPart, tPart, tLc_eq, tBM, rIxL, rIxT, min3_eq, rEq_int, rNe_int, min_if, max_if, and_assoc, V.ref.injEq, V.str.injEq, List.cons.injEq, and_true, true_and, ↓reduceIte, Bool.false_eq_true, Bool.not_true, Bool.not_false, Int.reduceToNat, Int.reducePow, Int.reduceAdd, Int.reduceSub, Int.reduceNeg, tVirt, tOff, tFld, sFld_eq, tMake_eq, rTupOf, iStr, rNe_str, rEq_str, rEq_bl, tRaise1, tFmt, tJs, tCallS, WE, wKeep_eq, reduceCtorEq, false_and, and_false, exists_false, or_false, false_or, tIsN, tNotN, decide_true, decide_false, tDictN]
      refine isy_ty h1.ty (b := false) (h1.kit h2) ⟨_, rfl, ifT rfl (bad rfl)⟩
/-- xs are new tuples of these walls -/
def TupW (H : Hp) (xs : List V) (ws : List Wl) : Prop := xs.length = ws.length ∧ ∀ (i : Nat) (x : V) (w : Wl), xs[i]? = some x → ws[i]? = some w → ∃ b, x = .ref b ∧ H b = some (.tup (wlV w))
theorem TupW.mono {H H' : Hp} {xs : List V} {ws : List Wl} (e : Ex H H') (h : TupW H xs ws) : TupW H' xs ws := ⟨h.1, fun i x w h1 h2 => by
  obtain ⟨b, r, q⟩ := h.2 i x w h1 h2
  exact ⟨b, r, e _ _ q⟩⟩
theorem TupW.snoc {H : Hp} {xs : List V} {ws : List Wl} {b : Addr} {w : Wl} (h : TupW H xs ws) (hb : H b = some (.tup (wlV w))) : TupW H (xs ++ [.ref b]) (ws ++ [w]) := by
  refine ⟨by rw [List.length_append, List.length_append, h.1]; rfl, fun i x v h1 h2 => ?_⟩
  by_cases hi : i < xs.length
  · rw [List.getElem?_append_left hi] at h1
    rw [List.getElem?_append_left (by rw [← h.1]; exact hi)] at h2
    exact h.2 i x v h1 h2
  · rw [List.getElem?_append_right (by omega)] at h1
    rw [List.getElem?_append_right (by rw [← h.1]; omega), ← h.1] at h2
    cases e : i - xs.length with
    | zero =>
      rw [e] at h1 h2
      cases h1
      cases h2
      exact ⟨b, rfl, hb⟩
    | succ k =>
      rw [e] at h1
      cases h1
def goodWs (rs : List (Option Wl)) : Bool := decide (1 ≤ rs.length) && decide (rs.length ≤ 4) && rs.all Option.isSome
/-- whether a thing is a list of walls, and which -/
def WallsIs (H : Hp) (x : V) (r : Option (List Wl)) : Prop := (∃ s, Sv H x s ∧ s ≠ "list" ∧ r = none) ∨ ∃ (a : Addr) (xs : List V) (rs : List (Option Wl)), x = .ref a ∧ H a = some (.lst xs) ∧ xs.length ≤ 1000 ∧ rs.length = xs.length ∧ (∀ (i : Nat) (y : V) (o : Option Wl), xs[i]? = some y → rs[i]? = some o → WallIs H y o) ∧
  ((goodWs rs = false ∧ r = none) ∨ ∃ ws, rs = ws.map some ∧ 1 ≤ ws.length ∧ ws.length ≤ 4 ∧ r = some ws)
theorem WallsIs.mono {H H' : Hp} {x : V} {r : Option (List Wl)} (e : Ls H H') (h : WallsIs H x r) : WallsIs H' x r := by
  rcases h with ⟨s, h1, h2, h3⟩ | ⟨a, xs, rs, rfl, ha, l, lr, k, q⟩
  · exact .inl ⟨s, h1.mono e, h2, h3⟩
  · exact .inr ⟨a, xs, rs, rfl, e.1 _ _ ha, l, lr, fun i y o g1 g2 => (k i y o g1 g2).mono e, q⟩
def sp_copied_walls (CB : Addr) : Sp := fun vs H Q E => ∃ (x : V) (r : Option (List Wl)), vs = [x] ∧ WallsIs H x r ∧ (r = none → ∀ H', Ex H H' → E (.ref CB) none H') ∧
  ∀ ws, r = some ws → ∀ p ys G2, H p = none → Ex H G2 → G2 p = some (.tup ys) → TupW G2 ys ws → Q (.ref p) G2
theorem ok_copied_walls (B : Bt mg cl) (EE : Exs K mg cl) (F_copied_wall : Fn P w K mg base "copied_wall" ["wall"] (L2.CX P w) 4 (sp_copied_wall (cl 1))) {f : Addr} {fd : FuncData} (F : Fun K "copied_walls" "copied_walls" s_copied_walls f fd) : FnOk P w K mg base (L2.CX P w) 5 f fd ["walls"] (sp_copied_walls (cl 1)) := by
  refine F.okX sc_copied_walls (fun vs H Q E h => ?_) (fun cdv A outer s H vs Q E hr h => ?_)
  · obtain ⟨x, r, rfl, _⟩ := h
    rfl
  · obtain ⟨x, r, rfl, wi, bad, q⟩ := h
    refine ⟨_, (pss_cons (ps_if (PW.pt (pw_or (pt_not (pt_val (pe_callB (k_isY (K := K) rfl) (by rfl) B.b_isinstance (by decide +kernel) (pa_cons (pv 0) (pa_cons (pe_bltn (v := .ty "list") (by rfl) B.b_list (by decide +kernel) rfl) pa_nil))))) (pw_or1 (pt_not (pt_chain op_le op_le pe_int (pe_callB (k_len (K := K) rfl) (by rfl) B.b_len (by decide +kernel) (pa_cons (pv 0) pa_nil)) (pe_gint B.g_MOST_WALLS))))))
        (pss_one (ps_raise1 rfl EE.BadNumber (takes_of rfl rfl rfl rfl) (pe_joined (.cons pe_str (.cons (pe_fmt (pe_gint B.g_MOST_WALLS)) .nil)))))
        pss_nil)
      (pss_one (ps_ret (pe_callTy (k_tupof (K := K) rfl) (by rfl) B.b_tuple (by decide +kernel) (pa_cons (pe_lcX (own := [("wall", 1)]) (g := gName 1) (tt := tYes) (by rfl) sc_copied_walls.nd rfl rfl (takes_of rfl rfl rfl rfl) (k_pil (K := K) rfl (pv 0)) (blkOk_by (own := [("wall", 1)]) (N := ["walls", "wall"]) (sc := defScope s_copied_walls) (by decide +kernel)) (fun _ _ _ _ _ _ => (pg_name (i := 1) sc_copied_walls.nd rfl (.inl rfl))) (fun _ _ _ _ _ _ => pts_nil) (fun _ _ _ _ _ _ hxb => (pe_fnX F_copied_wall (hr.mono (by decide)) hxb (pa_cons (pv 1) pa_nil)))) pa_nil))))), ?_⟩
    refine cut_eq fun N1 hN1 => ?_
    obtain ⟨m1, m2⟩ := int_len (i := 4) (by decide)
    have c1 : (Str.ofString "walls must be a list of 1 to ").length ≤ 100 := by decide +kernel
    rcases wi with ⟨s, h1, h2, rfl⟩ | ⟨a, xs, rs, rfl, ha, lx, lr, k, c⟩
    · simp only [tSeq, tIfS, tOr, tAnd, tNot, tB, tTest, tCB, tCall, tCons, tVar, tNil, tC, tRet, tRetN, tNext, tAsg, gName, tDrop, tOp, tUn, tAug, ipI, tPar, tIf, tAndV, tOrV, tNotV, tChain, tNever, rI0, rI, rU, L2.start, cxK, List.map_cons, List.map_nil, List.length_cons, List.length_nil, Nat.reduceAdd, Nat.reduceSub, List.replicate, List.cons_append, List.nil_append, List.append_nil, List.set_cons_zero, List.set_cons_succ, List.getElem?_cons_zero, List.getElem?_cons_succ, Option.some.injEq, V.int.injEq, V.bl.injEq, exists_eq_left', exists_eq_left, exists_and_left, tFor_eq, iRng1, iRng2, iRng3, iList, iEnum, iZip, iTup, tLst_eq, tTup_eq, rCat_eq, rCatS, rSum, rAppend_eq, rListOf, rSlL_eq, tSl, tNoPart, tPart, tLc_eq, tBM, rIxL, rIxT, min3_eq, rEq_int, rNe_int, min_if, max_if, and_assoc, V.ref.injEq, V.str.injEq, List.cons.injEq, and_true, true_and, ↓reduceIte, Bool.false_eq_true, Bool.not_true, Bool.not_false, Int.reduceToNat, Int.reducePow, Int.reduceAdd, Int.reduceSub, Int.reduceNeg, tVirt, tOff, tFld, sFld_eq, tMake_eq, rTupOf, iStr, rNe_str, rEq_str, rEq_bl, tRaise1, tFmt, tJs, tCallS, WE, wKeep_eq, reduceCtorEq, false_and, and_false, exists_false, or_false, false_or, tIsN, tNotN, decide_true, decide_false, tDictN]
      refine isy_ty h1.ty (b := false) (h1.kitL h2) ⟨_, rfl, ifT rfl ?_⟩
      simp only [str_len, str_empty]
      exact ⟨sz_of (by omega), m1, sz_of (by omega), bad rfl H (Ex.refl _)⟩
    · simp only [tSeq, tIfS, tOr, tAnd, tNot, tB, tTest, tCB, tCall, tCons, tVar, tNil, tC, tRet, tRetN, tNext, tAsg, gName, tDrop, tOp, tUn, tAug, ipI, tPar, tIf, tAndV, tOrV, tNotV, tChain, tNever, rI0, rI, rU, L2.start, cxK, List.map_cons, List.map_nil, List.length_cons, List.length_nil, Nat.reduceAdd, Nat.reduceSub, List.replicate, List.cons_append, List.nil_append, List.append_nil, List.set_cons_zero, List.set_cons_succ, List.getElem?_cons_zero, List.getElem?_cons_succ, Option.some.injEq, V.int.injEq, V.bl.injEq, exists_eq_left', exists_eq_left, exists_and_left, tFor_eq, iRng1, iRng2, iRng3, iList, iEnum, iZip, iTup, tLst_eq, tTup_eq, rCat_eq, rCatS, rSum, rAppend_eq, rListOf, rSlL_eq, tSl, tNoPart, tPart, tLc_eq, tBM, rIxL, rIxT, min3_eq, rEq_int, rNe_int, min_if, max_if, and_assoc, V.ref.injEq, V.str.injEq, List.cons.injEq, and_true, true_and, ↓reduceIte, Bool.false_eq_true, Bool.not_true, Bool.not_false, Int.reduceToNat, Int.reducePow, Int.reduceAdd, Int.reduceSub, Int.reduceNeg, tVirt, tOff, tFld, sFld_eq, tMake_eq, rTupOf, iStr, rNe_str, rEq_str, rEq_bl, tRaise1, tFmt, tJs, tCallS, WE, wKeep_eq, reduceCtorEq, false_and, and_false, exists_false, or_false, false_or, tIsN, tNotN, decide_true, decide_false, tDictN]
      refine isy_ty (.base (.lst ha)) (b := true) (by decide +kernel) ⟨_, rfl, ifF rfl ⟨_, .inl (sq_of ha), ?_⟩⟩
      have few : (¬ (1 ≤ xs.length ∧ xs.length ≤ 4)) → E (.ref (cl 1)) none H := fun z => by
        rcases c with ⟨_, e⟩ | ⟨ws, e, w1, w4, _⟩
        · exact bad e H (Ex.refl _)
        · rw [e, List.length_map] at lr
          exact absurd ⟨by omega, by omega⟩ z
      have no : (¬ (1 ≤ xs.length ∧ xs.length ≤ 4)) → ∀ {R : Prop}, (E (.ref (cl 1)) none H → R) → R := fun z R f => f (few z)
      by_cases l1 : 1 ≤ xs.length
      · refine ifT (decide_eq_true (by omega)) ?_
        by_cases l4 : xs.length ≤ 4
        · refine ifF (by simp; omega) ?_
          rw [← hN1]
          clear hN1
          simp only [tSeq, tIfS, tOr, tAnd, tNot, tB, tTest, tCB, tCall, tCons, tVar, tNil, tC, tRet, tRetN, tNext, tAsg, gName, tDrop, tOp, tUn, tAug, ipI, tPar, tIf, tAndV, tOrV, tNotV, tChain, tNever, rI0, rI, rU, L2.start, cxK, List.map_cons, List.map_nil, List.length_cons, List.length_nil, Nat.reduceAdd, Nat.reduceSub, List.replicate, List.cons_append, List.nil_append, List.append_nil, List.set_cons_zero, List.set_cons_succ, List.getElem?_cons_zero, List.getElem?_cons_succ, Option.some.injEq, V.int.injEq, V.bl.injEq, exists_eq_left', exists_eq_left, exists_and_left, tFor_eq, iRng1, iRng2, iRng3, iList, iEnum, iZip, iTup, tLst_eq, tTup_eq, rCat_eq, rCatS, rSum, rAppend_eq, rListOf, rSlL_eq, tSl, tNoPart, tPart, tLc_eq, tBM, rIxL, rIxT, min3_eq, rEq_int, rNe_int, min_if, max_if, and_assoc, V.ref.injEq, V.str.injEq, List.cons.injEq, and_true, true_and, ↓reduceIte, Bool.false_eq_true, Bool.not_true, Bool.not_false, Int.reduceToNat, Int.reducePow, Int.reduceAdd, Int.reduceSub, Int.reduceNeg, tVirt, tOff, tFld, sFld_eq, tMake_eq, rTupOf, iStr, rNe_str, rEq_str, rEq_bl, tRaise1, tFmt, tJs, tCallS, WE, wKeep_eq, reduceCtorEq, false_and, and_false, exists_false, or_false, false_or, tIsN, tNotN, decide_true, decide_false, tDictN]
          refine ⟨⟨_, sq_of ha⟩, fun Dl hD => lc_grow (walk_list (xs := xs)) (fun i acc H' => ∃ ws : List Wl, rs.take i = ws.map some ∧ TupW H' acc ws) hD (fun H' e => sq_of (e _ _ ha)) (fun H' _ => ⟨[], rfl, rfl, fun i x w h => by cases h⟩) ?_ ?_⟩
          · rintro i x acc H0 H' hi e0 h0 hl ⟨ws, ews, tw⟩ ⟨rfl, hx⟩
            obtain ⟨o, ho⟩ : ∃ o, rs[i]? = some o := ⟨rs[i], List.getElem?_eq_getElem (by omega)⟩
            have wx := k i x o hx ho
            simp only [tSeq, tIfS, tOr, tAnd, tNot, tB, tTest, tCB, tCall, tCons, tVar, tNil, tC, tRet, tRetN, tNext, tAsg, gName, tDrop, tOp, tUn, tAug, ipI, tPar, tIf, tAndV, tOrV, tNotV, tChain, tNever, rI0, rI, rU, L2.start, cxK, List.map_cons, List.map_nil, List.length_cons, List.length_nil, Nat.reduceAdd, Nat.reduceSub, List.replicate, List.cons_append, List.nil_append, List.append_nil, List.set_cons_zero, List.set_cons_succ, List.getElem?_cons_zero, List.getElem?_cons_succ, Option.some.injEq, V.int.injEq, V.bl.injEq, exists_eq_left', exists_eq_left, exists_and_left, tFor_eq, iRng1, iRng2, iRng3, iList, iEnum, iZip, iTup, tLst_eq, tTup_eq, rCat_eq, rCatS, rSum, rAppend_eq, rListOf, rSlL_eq, tSl, tNoPart, tPart, tLc_eq, tBM, rIxL, rIxT, min3_eq, rEq_int, rNe_int, min_if, max_if, and_assoc, V.ref.injEq, V.str.injEq, List.cons.injEq, and_true, true_and, ↓reduceIte, Bool.false_eq_true, Bool.not_true, Bool.not_false, Int.reduceToNat, Int.reducePow, Int.reduceAdd, Int.reduceSub, Int.reduceNeg, tVirt, tOff, tFld, sFld_eq, tMake_eq, rTupOf, iStr, rNe_str, rEq_str, rEq_bl, tRaise1, tFmt, tJs, tCallS, WE, wKeep_eq, reduceCtorEq, false_and, and_false, exists_false, or_false, false_or, tIsN, tNotN, decide_true, decide_false, tDictN, wipe, tYes]
            refine ⟨_, o, rfl, wx.mono (.of e0), fun z => ?_, fun wl hw p G2 np e2 h2 => ?_⟩
            · refine bad ?_ _ e0
              rcases c with ⟨_, e⟩ | ⟨ws', e, _, _, _⟩
              · exact e
              · rw [e, List.getElem?_map] at ho
                rw [z] at ho
                cases z2 : ws'[i]? with
                | none => rw [z2] at ho; cases ho
                | some w' => rw [z2] at ho; cases ho
            · refine putG_of hD (e0.trans e2) (e2 _ _ h0) hl (sz_lt (by omega)) fun H5 k5 => ⟨ws ++ [wl], ?_, ?_⟩
              · rw [List.take_succ, ho, hw, ews, List.map_append]
                rfl
              · have nD : p ≠ Dl := fun z => by rw [z] at np; rw [np] at h0; cases h0
                refine TupW.snoc ⟨tw.1, fun j y v g1 g2 => ?_⟩ (by rw [k5 p nD]; exact h2)
                obtain ⟨b, rb, qb⟩ := tw.2 j y v g1 g2
                have nb : b ≠ Dl := fun z => by rw [z, h0] at qb; cases qb
                exact ⟨b, rb, by rw [k5 b nb]; exact e2 _ _ qb⟩
          · rintro acc H9 e9 h9 ⟨ws, ews, tw⟩
            rw [List.take_of_length_le (by omega)] at ews
            have er : r = some ws := by
              rcases c with ⟨g, _⟩ | ⟨ws', e, _, _, er⟩
              · exfalso
                rw [ews] at g lr
                rw [List.length_map] at lr
                unfold goodWs at g
                rw [List.length_map, decide_eq_true (by omega), decide_eq_true (by omega), List.all_map] at g
                simp at g
              · rw [ews] at e
                have : ws = ws' := (List.map_inj_right fun _ _ z => Option.some.inj z).mp e
                rw [er, this]
            refine ⟨_, rfl, _, .inl ⟨sq_of h9, new_of fun p G np eg hg => q ws er p acc G (fresh_back e9 np) (e9.trans eg) hg (tw.mono eg)⟩⟩
        · refine ifT (by simp; omega) ?_
          simp only [str_len, str_empty]
          exact ⟨sz_of (by omega), m1, sz_of (by omega), few (fun z => l4 z.2)⟩
      · refine ifF (decide_eq_false (by omega)) ?_
        simp only [str_len, str_empty]
        exact ⟨sz_of (by omega), m1, sz_of (by omega), few (fun z => l1 z.1)⟩
def sp_Floor_init (K : PySem.W.Frag) (T CN CB : Addr) (Cs : List Addr) : Sp := fun vs H Q E => ∃ (a C dx : Addr) (n l g p ga pl la x : V) (r : Option (List Wl)), vs = [.ref a, n, l, g, p, ga, pl, la, x] ∧ H a = some (.ins C dx []) ∧ C ∈ Cs ∧ KnownS K H n ∧ Known K H l ∧ Known K H g ∧ Known K H p ∧ Known K H ga ∧ Known K H pl ∧ Known K H la ∧ WallsIs H x r ∧ GxR.TabG H T ∧
  (nameV n = false → ∀ H', ExB a H H' → E (.ref CN) none H') ∧ (nameV n = true → (mOk l g p ga pl && wholeV la 0 9 && r.isSome) = false → ∀ H', ExB a H H' → E (.ref CB) none H') ∧
  (nameV n = true → mOk l g p ga pl = true → wholeV la 0 9 = true → ∀ ws, r = some ws → ∀ H' t ys, ExB a H H' → H t = none → H' t = some (.tup ys) → TupW H' ys ws → H' a = some (.ins C dx (f6 n l g p ga pl ++ ([("lane_told", la), ("walls", .ref t)] : List (Str × V)))) → Q .non H')
theorem ok_Floor_init (B : Bt mg cl) {T : Addr} {Cs : List Addr} (MM : ∀ C ∈ Cs, MC K C) (O_Machine_init : Off P w K mg base (L2.CX P w) 5 (cl 13) "__init__" ["self", "name", "least", "greatest", "pace", "gain", "place"] (sp_Machine_init K T (cl 2) (cl 1) Cs)) (F_need_lane : Fn P w K mg base "need_lane" ["lane"] (L2.CX P w) 3 (sp_need_lane K (cl 1))) (F_copied_walls : Fn P w K mg base "copied_walls" ["walls"] (L2.CX P w) 5 (sp_copied_walls (cl 1))) {f : Addr} {fd : FuncData} (F : Fun K "__init__" "Floor.__init__" s_Floor___init__ f fd) : FnOk P w K mg base (L2.CX P w) 6 f fd ["self", "name", "least", "greatest", "pace", "gain", "place", "lane", "walls"] (sp_Floor_init K T (cl 2) (cl 1) Cs) := by
  refine F.okX sc_Floor___init__ (fun vs H Q E h => ?_) (fun cdv A outer s H vs Q E hr h => ?_)
  · obtain ⟨a, C, dx, n, l, g, p, ga, pl, la, x, r, rfl, _⟩ := h
    rfl
  · obtain ⟨a, C, dx, n, l, g, p, ga, pl, la, x, r, rfl, ha, hC, kn, kl, kg, kp, kga, kpl, kla, wi, tg, noname, bad, q⟩ := h
    have M := MM C hC
    refine ⟨_, (pss_cons (ps_expr (pe_off O_Machine_init (hr.mono (by decide)) (fun σ => passAt (takes_of rfl rfl rfl rfl) σ) (pe_glob (v := .ref _) (by rfl) B.c_Machine rfl) (pa_cons (pv 0) (pa_cons (pv 1) (pa_cons (pv 2) (pa_cons (pv 3) (pa_cons (pv 4) (pa_cons (pv 5) (pa_cons (pv 6) pa_nil)))))))))
      (pss_cons (ps_expr (pe_fnX F_need_lane (hr.mono (by decide)) (passes_call (takes_of rfl rfl rfl rfl) (fun _ _ _ _ h => h)) (pa_cons (pv 7) pa_nil)))
      (pss_cons (k_sfld (K := K) rfl (pv 0) (pv 7) (by rfl))
      (pss_one (k_sfld (K := K) rfl (pv 0) (pe_fnX F_copied_walls (hr.mono (by decide)) (passes_call (takes_of rfl rfl rfl rfl) (fun _ _ _ _ h => h)) (pa_cons (pv 8) pa_nil)) (by rfl)))))), ?_⟩
    refine cut_eq fun N1 hN1 => ?_
    simp only [tSeq, tIfS, tOr, tAnd, tNot, tB, tTest, tCB, tCall, tCons, tVar, tNil, tC, tRet, tRetN, tNext, tAsg, gName, tDrop, tOp, tUn, tAug, ipI, tPar, tIf, tAndV, tOrV, tNotV, tChain, tNever, rI0, rI, rU, L2.start, cxK, List.map_cons, List.map_nil, List.length_cons, List.length_nil, Nat.reduceAdd, Nat.reduceSub, List.replicate, List.cons_append, List.nil_append, List.append_nil, List.set_cons_zero, List.set_cons_succ, List.getElem?_cons_zero, List.getElem?_cons_succ, Option.some.injEq, V.int.injEq, V.bl.injEq, exists_eq_left', exists_eq_left, exists_and_left, tFor_eq, iRng1, iRng2, iRng3, iList, iEnum, iZip, iTup, tLst_eq, tTup_eq, rCat_eq, rCatS, rSum, rAppend_eq, rListOf, rSlL_eq, tSl, tNoPart, tPart, tLc_eq, tBM, rIxL, rIxT, min3_eq, rEq_int, rNe_int, min_if, max_if, and_assoc, V.ref.injEq, V.str.injEq, List.cons.injEq, and_true, true_and, ↓reduceIte, Bool.false_eq_true, Bool.not_true, Bool.not_false, Int.reduceToNat, Int.reducePow, Int.reduceAdd, Int.reduceSub, Int.reduceNeg, tVirt, tOff, tFld, sFld_eq, tMake_eq, rTupOf, iStr, rNe_str, rEq_str, rEq_bl, tRaise1, tFmt, tJs, tCallS, WE, wKeep_eq, reduceCtorEq, false_and, and_false, exists_false, or_false, false_or, tIsN, tNotN, decide_true, decide_false, tDictN]
    refine ⟨a, C, dx, n, l, g, p, ga, pl, rfl, ha, hC, kn, kl, kg, kp, kga, kpl, tg, fun h H1 e1 => noname h H1 (.of e1), fun h h2 H1 e1 => bad h (by rw [h2]; rfl) H1 (.of e1), fun hn hm H1 e1 h1 => ?_⟩
    show N1 _ H1
    rw [← hN1]
    clear hN1
    have no := bad hn
    rw [hm, Bool.true_and] at no
    simp only [tSeq, tIfS, tOr, tAnd, tNot, tB, tTest, tCB, tCall, tCons, tVar, tNil, tC, tRet, tRetN, tNext, tAsg, gName, tDrop, tOp, tUn, tAug, ipI, tPar, tIf, tAndV, tOrV, tNotV, tChain, tNever, rI0, rI, rU, L2.start, cxK, List.map_cons, List.map_nil, List.length_cons, List.length_nil, Nat.reduceAdd, Nat.reduceSub, List.replicate, List.cons_append, List.nil_append, List.append_nil, List.set_cons_zero, List.set_cons_succ, List.getElem?_cons_zero, List.getElem?_cons_succ, Option.some.injEq, V.int.injEq, V.bl.injEq, exists_eq_left', exists_eq_left, exists_and_left, tFor_eq, iRng1, iRng2, iRng3, iList, iEnum, iZip, iTup, tLst_eq, tTup_eq, rCat_eq, rCatS, rSum, rAppend_eq, rListOf, rSlL_eq, tSl, tNoPart, tPart, tLc_eq, tBM, rIxL, rIxT, min3_eq, rEq_int, rNe_int, min_if, max_if, and_assoc, V.ref.injEq, V.str.injEq, List.cons.injEq, and_true, true_and, ↓reduceIte, Bool.false_eq_true, Bool.not_true, Bool.not_false, Int.reduceToNat, Int.reducePow, Int.reduceAdd, Int.reduceSub, Int.reduceNeg, tVirt, tOff, tFld, sFld_eq, tMake_eq, rTupOf, iStr, rNe_str, rEq_str, rEq_bl, tRaise1, tFmt, tJs, tCallS, WE, wKeep_eq, reduceCtorEq, false_and, and_false, exists_false, or_false, false_or, tIsN, tNotN, decide_true, decide_false, tDictN]
    refine ⟨_, rfl, knownB ha e1 kla, fun ol => ?_, fun h => no (by rw [h]; rfl) H1 e1⟩
    rw [ol, Bool.true_and] at no
    refine ⟨_, _, _, h1, M.c, M.n_lane, lt1k (show (f6 n l g p ga pl).length ≤ 6 from Nat.le_refl _) (by decide), chg_of fun H2 k2 h2 => ?_⟩
    have e2 : ExB a H H2 := e1.trans (.chg k2)
    refine ⟨x, r, rfl, wi.mono (.ofB ha e2), fun h H3 e3 => no (by rw [h]; rfl) H3 (e2.trans (.of e3)), fun ws hws t ys H3 nt e3 ht tw3 => ?_⟩
    have h3 := e3 _ _ h2
    refine ⟨_, _, _, h3, M.c, M.n_walls, lt1k (pl1 (show (f6 n l g p ga pl).length ≤ 6 from Nat.le_refl _)) (by decide), chg_of fun H4 k4 h4 => ?_⟩
    have ta : t ≠ a := fun z => by rw [z, h2] at nt; cases nt
    have nt0 : H t = none := by
      cases z : H t with
      | none => rfl
      | some o =>
        obtain ⟨u, zu⟩ := exo_some (e2 t o ta z)
        rw [zu] at nt
        cases nt
    refine q hn hm ol ws hws H4 t ys (e2.trans ((ExB.of e3).trans (.chg k4))) nt0 (by rw [k4 t ta]; exact ht) ⟨tw3.1, fun i x wl hx hw => ?_⟩ h4
    obtain ⟨b, rb, qb⟩ := tw3.2 i x wl hx hw
    have nb : b ≠ a := fun z => by rw [z, h3] at qb; cases qb
    exact ⟨b, rb, by rw [k4 b nb]; exact qb⟩
end
end FW

set_option Elab.async false
set_option linter.all false
set_option maxRecDepth 100000
set_option maxHeartbeats 4000000
namespace FW
open PySem PySem.Spec PyProof.Rows L2 Evt
section
variable {P : Program} {w : World} {K : PySem.W.Frag} {mg : Str → Option Value} {base : Heap} {cl : Nat → Addr}
/-! ### a machine that stands in the heap -/
inductive Kd where
  | line | wagon | trap | floor
structure Md where
  kd : Kd
  name : Str
  least : Int
  greatest : Int
  pace : Int
  gain : Int
  place : Int
  lane : Int
  at_ : Int
  wide : Int
  tall : Int
  walls : List Wl
def clsA (cl : Nat → Addr) : Kd → Addr
  | .line => cl 14
  | .wagon => cl 15
  | .trap => cl 16
  | .floor => cl 17
abbrev cs4 (cl : Nat → Addr) : List Addr := [cl 14, cl 15, cl 16, cl 17]
abbrev ck4 (cl : Nat → Addr) : List (Addr × Kd) := [(cl 14, .line), (cl 15, .wagon), (cl 16, .trap), (cl 17, .floor)]
theorem ck_mem (cl : Nat → Addr) (k : Kd) : (clsA cl k, k) ∈ ck4 cl := by
  cases k <;> simp [clsA]
theorem clsA_mem (cl : Nat → Addr) (k : Kd) : clsA cl k ∈ cs4 cl := by
  cases k <;> simp [clsA]
def g6 (d : Md) : List (Str × V) := f6 (.str d.name) (.int d.least) (.int d.greatest) (.int d.pace) (.int d.gain) (.int d.place)
def tailM (d : Md) (t : Addr) : List (Str × V) := match d.kd with
  | .line => [("lane_told", .int d.lane), ("at_told", .int d.at_), ("wide_told", .int d.wide), ("tall_told", .int d.tall)]
  | .wagon => [("lane_told", .int d.lane), ("wide_told", .int d.wide), ("tall_told", .int d.tall)]
  | .trap => [("lane_told", .int d.lane), ("at_told", .int d.at_), ("wide_told", .int d.wide)]
  | .floor => [("lane_told", .int d.lane), ("walls", .ref t)]
/-- at a stands the machine d -/
def IsM (cl : Nat → Addr) (H : Hp) (a : Addr) (d : Md) : Prop := ∃ (dx t : Addr), H a = some (.ins (clsA cl d.kd) dx (g6 d ++ tailM d t)) ∧ (d.kd = .floor → ∃ ys, H t = some (.tup ys) ∧ TupW H ys d.walls)
theorem IsM.mono {cl : Nat → Addr} {H H' : Hp} {a : Addr} {d : Md} (e : Ex H H') (h : IsM cl H a d) : IsM cl H' a d := by
  obtain ⟨dx, t, h1, h2⟩ := h
  refine ⟨dx, t, e _ _ h1, fun z => ?_⟩
  obtain ⟨ys, q1, q2⟩ := h2 z
  exact ⟨ys, e _ _ q1, q2.mono e⟩
/-- no method's name is a field's -/
theorem no_field {d : Md} {t : Addr} {m : Str} (h : ∀ x ∈ (["name", "least", "greatest", "pace", "gain", "place", "lane_told", "at_told", "wide_told", "tall_told", "walls"] : List Str), x ≠ m) : (g6 d ++ tailM d t).lookup m = none := by
  have q : ∀ fs : List (Str × V), (∀ p ∈ fs, p.1 ≠ m) → fs.lookup m = none := by
    intro fs
    induction fs with
    | nil => intro _; rfl
    | cons p r ih =>
      intro hp
      obtain ⟨k, v⟩ := p
      have : (m == k) = false := by
        have := hp (k, v) List.mem_cons_self
        simpa using fun z => this z.symm
      rw [List.lookup_cons, this]
      exact ih fun p hr => hp p (List.mem_cons_of_mem _ hr)
  refine q _ fun p hp => ?_
  rcases List.mem_append.mp hp with z | z
  · simp only [g6, f6, List.mem_cons, List.not_mem_nil, or_false] at z
    rcases z with rfl | rfl | rfl | rfl | rfl | rfl <;> exact h _ (by simp)
  · unfold tailM at z
    split at z <;> simp only [List.mem_cons, List.not_mem_nil, or_false] at z
    · rcases z with rfl | rfl | rfl | rfl <;> exact h _ (by simp)
    · rcases z with rfl | rfl | rfl <;> exact h _ (by simp)
    · rcases z with rfl | rfl | rfl <;> exact h _ (by simp)
    · rcases z with rfl | rfl <;> exact h _ (by simp)
def sp_need_within (K : PySem.W.Frag) (cl : Nat → Addr) (CB : Addr) : Kd → Sp := fun k vs H Q E => ∃ (a : Addr) (d : Md) (x : V), vs = [.ref a, x] ∧ IsM cl H a d ∧ d.kd = k ∧ Known K H x ∧ d.least.natAbs < 2 ^ 100 ∧ d.greatest.natAbs < 2 ^ 100 ∧ (wholeV x d.least d.greatest = true → Q .non H) ∧ (wholeV x d.least d.greatest = false → E (.ref CB) none H)
theorem ok_Machine_need_within (B : Bt mg cl) (MM : ∀ C ∈ cs4 cl, MC K C) (F_need_whole : Fn P w K mg base "need_whole" ["thing", "least", "most", "what"] (L2.CX P w) 2 (sp_need_whole K (cl 1))) {k : Kd} {f : Addr} {fd : FuncData} (F : Fun K "need_within" "Machine.need_within" s_Machine_need_within f fd) : FnOk P w K mg base (L2.CX P w) 3 f fd ["self", "place"] (sp_need_within K cl (cl 1) k) := by
  refine F.okX sc_Machine_need_within (fun vs H Q E h => ?_) (fun cdv A outer s H vs Q E hr h => ?_)
  · obtain ⟨a, d, x, rfl, _⟩ := h
    rfl
  · obtain ⟨a, d, x, rfl, im, eC, kx, b1, b2, q, q2⟩ := h
    refine ⟨_, (pss_one (ps_expr (pe_fnX F_need_whole (hr.mono (by decide)) (passes_call (takes_of rfl rfl rfl rfl) (fun _ _ _ _ h => h)) (pa_cons (pv 1) (pa_cons (k_fld (K := K) rfl (pv 0)) (pa_cons (k_fld (K := K) rfl (pv 0)) (pa_cons pe_str pa_nil))))))), ?_⟩
    obtain ⟨dx, t, h1, h2⟩ := im
    have M := MM _ (clsA_mem cl d.kd)
    simp only [tSeq, tIfS, tOr, tAnd, tNot, tB, tTest, tCB, tCall, tCons, tVar, tNil, tC, tRet, tRetN, tNext, tAsg, gName, tDrop, tOp, tUn, tAug, ipI, tPar, tIf, tAndV, tOrV, tNotV, tChain, tNever, rI0, rI, rU, L2.start, cxK, List.map_cons, List.map_nil, List.length_cons, List.length_nil, Nat.reduceAdd, Nat.reduceSub, List.replicate, List.cons_append, List.nil_append, List.append_nil, List.set_cons_zero, List.set_cons_succ, List.getElem?_cons_zero, List.getElem?_cons_succ, Option.some.injEq, V.int.injEq, V.bl.injEq, exists_eq_left', exists_eq_left, exists_and_left, tFor_eq, iRng1, iRng2, iRng3, iList, iEnum, iZip, iTup, tLst_eq, tTup_eq, rCat_eq, rCatS, rSum, rAppend_eq, rListOf, rSlL_eq, tSl, tNoPart, tPart, tLc_eq, tBM, rIxL, rIxT, min3_eq, rEq_int, rNe_int, min_if, max_if, and_assoc, V.ref.injEq, V.str.injEq, List.cons.injEq, and_true, true_and, ↓reduceIte, Bool.false_eq_true, Bool.not_true, Bool.not_false, Int.reduceToNat, Int.reducePow, Int.reduceAdd, Int.reduceSub, Int.reduceNeg, tVirt, tOff, tFld, sFld_eq, tMake_eq, rTupOf, iStr, rNe_str, rEq_str, rEq_bl, tRaise1, tFmt, tJs, tCallS, WE, wKeep_eq, reduceCtorEq, false_and, and_false, exists_false, or_false, false_or, tIsN, tNotN, decide_true, decide_false, tDictN]
    refine ⟨_, _, _, h1, M.c, M.n_least, _, rfl, _, _, _, h1, M.c, M.n_greatest, _, rfl, ?_⟩
    exact ⟨_, _, _, _, rfl, kx, by omega, by omega, by decide, q, q2⟩
end
end FW

set_option Elab.async false
set_option linter.all false
set_option maxRecDepth 100000
set_option maxHeartbeats 4000000
namespace FW
open PySem PySem.Spec PyProof.Rows L2 Evt
section
variable {P : Program} {w : World} {K : PySem.W.Frag} {mg : Str → Option Value} {base : Heap} {cl : Nat → Addr}
def kdS : Kd → Str
  | .line => "line"
  | .wagon => "wagon"
  | .trap => "trap"
  | .floor => "floor"
def sp_kind (cl : Nat → Addr) : Kd → Sp := fun k vs H Q _ => ∃ (a : Addr) (d : Md), vs = [.ref a] ∧ IsM cl H a d ∧ d.kd = k ∧ Q (.str (kdS k)) H
def sp_lane (cl : Nat → Addr) : Kd → Sp := fun k vs H Q _ => ∃ (a : Addr) (d : Md), vs = [.ref a] ∧ IsM cl H a d ∧ d.kd = k ∧ Q (.int d.lane) H
theorem ok_Line_kind (B : Bt mg cl) {f : Addr} {fd : FuncData} (F : Fun K "kind" "Line.kind" s_Line_kind f fd) : FnOk P w K mg base CX0 1 f fd ["self"] (sp_kind cl .line) := by
  refine F.ok sc_Line_kind (fun vs H Q E h => ?_) (fun cdv A outer s H vs Q E hr h => ?_)
  · obtain ⟨a, d, rfl, _⟩ := h
    rfl
  · obtain ⟨a, d, rfl, im, ek, q⟩ := h
    refine ⟨_, (pss_one (ps_ret pe_str)), ?_⟩
    simp only [tSeq, tIfS, tOr, tAnd, tNot, tB, tTest, tCB, tCall, tCons, tVar, tNil, tC, tRet, tRetN, tNext, tAsg, gName, tDrop, tOp, tUn, tAug, ipI, tPar, tIf, tAndV, tOrV, tNotV, tChain, tNever, rI0, rI, rU, L2.start, cxK, List.map_cons, List.map_nil, List.length_cons, List.length_nil, Nat.reduceAdd, Nat.reduceSub, List.replicate, List.cons_append, List.nil_append, List.append_nil, List.set_cons_zero, List.set_cons_succ, List.getElem?_cons_zero, List.getElem?_cons_succ, Option.some.injEq, V.int.injEq, V.bl.injEq, exists_eq_left', exists_eq_left, exists_and_left, tFor_eq, iRng1, iRng2, iRng3, iList, iEnum, iZip, iTup, tLst_eq, tTup_eq, rCat_eq, rCatS, rSum, rAppend_eq, rListOf, rSlL_eq, tSl, tNoPart, tPart, tLc_eq, tBM, rIxL, rIxT, min3_eq, rEq_int, rNe_int, min_if, max_if, and_assoc, V.ref.injEq, V.str.injEq, List.cons.injEq, and_true, true_and, ↓reduceIte, Bool.false_eq_true, Bool.not_true, Bool.not_false, Int.reduceToNat, Int.reducePow, Int.reduceAdd, Int.reduceSub, Int.reduceNeg, tVirt, tOff, tFld, sFld_eq, tMake_eq, rTupOf, iStr, rNe_str, rEq_str, rEq_bl, tRaise1, tFmt, tJs, tCallS, WE, wKeep_eq, reduceCtorEq, false_and, and_false, exists_false, or_false, false_or, tIsN, tNotN, decide_true, decide_false, tDictN]
    exact q
theorem ok_Line_lane (B : Bt mg cl) (MM : ∀ C ∈ cs4 cl, MC K C) {f : Addr} {fd : FuncData} (F : Fun K "lane" "Line.lane" s_Line_lane f fd) : FnOk P w K mg base CX0 1 f fd ["self"] (sp_lane cl .line) := by
  refine F.ok sc_Line_lane (fun vs H Q E h => ?_) (fun cdv A outer s H vs Q E hr h => ?_)
  · obtain ⟨a, d, rfl, _⟩ := h
    rfl
  · obtain ⟨a, d, rfl, im, ek, q⟩ := h
    refine ⟨_, (pss_one (ps_ret (k_fld (K := K) rfl (pv 0)))), ?_⟩
    obtain ⟨dx, t, h1, h2⟩ := im
    have M := MM _ (clsA_mem cl d.kd)
    unfold tailM at h1
    rw [ek] at h1 M
    simp only [tSeq, tIfS, tOr, tAnd, tNot, tB, tTest, tCB, tCall, tCons, tVar, tNil, tC, tRet, tRetN, tNext, tAsg, gName, tDrop, tOp, tUn, tAug, ipI, tPar, tIf, tAndV, tOrV, tNotV, tChain, tNever, rI0, rI, rU, L2.start, cxK, List.map_cons, List.map_nil, List.length_cons, List.length_nil, Nat.reduceAdd, Nat.reduceSub, List.replicate, List.cons_append, List.nil_append, List.append_nil, List.set_cons_zero, List.set_cons_succ, List.getElem?_cons_zero, List.getElem?_cons_succ, Option.some.injEq, V.int.injEq, V.bl.injEq, exists_eq_left', exists_eq_left, exists_and_left, tFor_eq, iRng1, iRng2, iRng3, iList, iEnum, iZip, iTup, tLst_eq, tTup_eq, rCat_eq, rCatS, rSum, rAppend_eq, rListOf, rSlL_eq, tSl, tNoPart, tPart, tLc_eq, tBM, rIxL, rIxT, min3_eq, rEq_int, rNe_int, min_if, max_if, and_assoc, V.ref.injEq, V.str.injEq, List.cons.injEq, and_true, true_and, ↓reduceIte, Bool.false_eq_true, Bool.not_true, Bool.not_false, Int.reduceToNat, Int.reducePow, Int.reduceAdd, Int.reduceSub, Int.reduceNeg, tVirt, tOff, tFld, sFld_eq, tMake_eq, rTupOf, iStr, rNe_str, rEq_str, rEq_bl, tRaise1, tFmt, tJs, tCallS, WE, wKeep_eq, reduceCtorEq, false_and, and_false, exists_false, or_false, false_or, tIsN, tNotN, decide_true, decide_false, tDictN]
    exact ⟨_, _, _, h1, M.c, M.n_lane, _, rfl, q⟩
theorem ok_Wagon_kind (B : Bt mg cl) {f : Addr} {fd : FuncData} (F : Fun K "kind" "Wagon.kind" s_Wagon_kind f fd) : FnOk P w K mg base CX0 1 f fd ["self"] (sp_kind cl .wagon) := by
  refine F.ok sc_Wagon_kind (fun vs H Q E h => ?_) (fun cdv A outer s H vs Q E hr h => ?_)
  · obtain ⟨a, d, rfl, _⟩ := h
    rfl
  · obtain ⟨a, d, rfl, im, ek, q⟩ := h
    refine ⟨_, (pss_one (ps_ret pe_str)), ?_⟩
    simp only [tSeq, tIfS, tOr, tAnd, tNot, tB, tTest, tCB, tCall, tCons, tVar, tNil, tC, tRet, tRetN, tNext, tAsg, gName, tDrop, tOp, tUn, tAug, ipI, tPar, tIf, tAndV, tOrV, tNotV, tChain, tNever, rI0, rI, rU, L2.start, cxK, List.map_cons, List.map_nil, List.length_cons, List.length_nil, Nat.reduceAdd, Nat.reduceSub, List.replicate, List.cons_append, List.nil_append, List.append_nil, List.set_cons_zero, List.set_cons_succ, List.getElem?_cons_zero, List.getElem?_cons_succ, Option.some.injEq, V.int.injEq, V.bl.injEq, exists_eq_left', exists_eq_left, exists_and_left, tFor_eq, iRng1, iRng2, iRng3, iList, iEnum, iZip, iTup, tLst_eq, tTup_eq, rCat_eq, rCatS, rSum, rAppend_eq, rListOf, rSlL_eq, tSl, tNoPart, tPart, tLc_eq, tBM, rIxL, rIxT, min3_eq, rEq_int, rNe_int, min_if, max_if, and_assoc, V.ref.injEq, V.str.injEq, List.cons.injEq, and_true, true_and, ↓reduceIte, Bool.false_eq_true, Bool.not_true, Bool.not_false, Int.reduceToNat, Int.reducePow, Int.reduceAdd, Int.reduceSub, Int.reduceNeg, tVirt, tOff, tFld, sFld_eq, tMake_eq, rTupOf, iStr, rNe_str, rEq_str, rEq_bl, tRaise1, tFmt, tJs, tCallS, WE, wKeep_eq, reduceCtorEq, false_and, and_false, exists_false, or_false, false_or, tIsN, tNotN, decide_true, decide_false, tDictN]
    exact q
theorem ok_Wagon_lane (B : Bt mg cl) (MM : ∀ C ∈ cs4 cl, MC K C) {f : Addr} {fd : FuncData} (F : Fun K "lane" "Wagon.lane" s_Wagon_lane f fd) : FnOk P w K mg base CX0 1 f fd ["self"] (sp_lane cl .wagon) := by
  refine F.ok sc_Wagon_lane (fun vs H Q E h => ?_) (fun cdv A outer s H vs Q E hr h => ?_)
  · obtain ⟨a, d, rfl, _⟩ := h
    rfl
  · obtain ⟨a, d, rfl, im, ek, q⟩ := h
    refine ⟨_, (pss_one (ps_ret (k_fld (K := K) rfl (pv 0)))), ?_⟩
    obtain ⟨dx, t, h1, h2⟩ := im
    have M := MM _ (clsA_mem cl d.kd)
    unfold tailM at h1
    rw [ek] at h1 M
    simp only [tSeq, tIfS, tOr, tAnd, tNot, tB, tTest, tCB, tCall, tCons, tVar, tNil, tC, tRet, tRetN, tNext, tAsg, gName, tDrop, tOp, tUn, tAug, ipI, tPar, tIf, tAndV, tOrV, tNotV, tChain, tNever, rI0, rI, rU, L2.start, cxK, List.map_cons, List.map_nil, List.length_cons, List.length_nil, Nat.reduceAdd, Nat.reduceSub, List.replicate, List.cons_append, List.nil_append, List.append_nil, List.set_cons_zero, List.set_cons_succ, List.getElem?_cons_zero, List.getElem?_cons_succ, Option.some.injEq, V.int.injEq, V.bl.injEq, exists_eq_left', exists_eq_left, exists_and_left, tFor_eq, iRng1, iRng2, iRng3, iList, iEnum, iZip, iTup, tLst_eq, tTup_eq, rCat_eq, rCatS, rSum, rAppend_eq, rListOf, rSlL_eq, tSl, tNoPart, tPart, tLc_eq, tBM, rIxL, rIxT, min3_eq, rEq_int, rNe_int, min_if, max_if, and_assoc, V.ref.injEq, V.str.injEq, List.cons.injEq, and_true, true_and, ↓reduceIte, Bool.false_eq_true, Bool.not_true, Bool.not_false, Int.reduceToNat, Int.reducePow, Int.reduceAdd, Int.reduceSub, Int.reduceNeg, tVirt, tOff, tFld, sFld_eq, tMake_eq, rTupOf, iStr, rNe_str, rEq_str, rEq_bl, tRaise1, tFmt, tJs, tCallS, WE, wKeep_eq, reduceCtorEq, false_and, and_false, exists_false, or_false, false_or, tIsN, tNotN, decide_true, decide_false, tDictN]
    exact ⟨_, _, _, h1, M.c, M.n_lane, _, rfl, q⟩
theorem ok_Trap_kind (B : Bt mg cl) {f : Addr} {fd : FuncData} (F : Fun K "kind" "Trap.kind" s_Trap_kind f fd) : FnOk P w K mg base CX0 1 f fd ["self"] (sp_kind cl .trap) := by
  refine F.ok sc_Trap_kind (fun vs H Q E h => ?_) (fun cdv A outer s H vs Q E hr h => ?_)
  · obtain ⟨a, d, rfl, _⟩ := h
    rfl
  · obtain ⟨a, d, rfl, im, ek, q⟩ := h
    refine ⟨_, (pss_one (ps_ret pe_str)), ?_⟩
    simp only [tSeq, tIfS, tOr, tAnd, tNot, tB, tTest, tCB, tCall, tCons, tVar, tNil, tC, tRet, tRetN, tNext, tAsg, gName, tDrop, tOp, tUn, tAug, ipI, tPar, tIf, tAndV, tOrV, tNotV, tChain, tNever, rI0, rI, rU, L2.start, cxK, List.map_cons, List.map_nil, List.length_cons, List.length_nil, Nat.reduceAdd, Nat.reduceSub, List.replicate, List.cons_append, List.nil_append, List.append_nil, List.set_cons_zero, List.set_cons_succ, List.getElem?_cons_zero, List.getElem?_cons_succ, Option.some.injEq, V.int.injEq, V.bl.injEq, exists_eq_left', exists_eq_left, exists_and_left, tFor_eq, iRng1, iRng2, iRng3, iList, iEnum, iZip, iTup, tLst_eq, tTup_eq, rCat_eq, rCatS, rSum, rAppend_eq, rListOf, rSlL_eq, tSl, tNoPart, tPart, tLc_eq, tBM, rIxL, rIxT, min3_eq, rEq_int, rNe_int, min_if, max_if, and_assoc, V.ref.injEq, V.str.injEq, List.cons.injEq, and_true, true_and, ↓reduceIte, Bool.false_eq_true, Bool.not_true, Bool.not_false, Int.reduceToNat, Int.reducePow, Int.reduceAdd, Int.reduceSub, Int.reduceNeg, tVirt, tOff, tFld, sFld_eq, tMake_eq, rTupOf, iStr, rNe_str, rEq_str, rEq_bl, tRaise1, tFmt, tJs, tCallS, WE, wKeep_eq, reduceCtorEq, false_and, and_false, exists_false, or_false, false_or, tIsN, tNotN, decide_true, decide_false, tDictN]
    exact q
theorem ok_Trap_lane (B : Bt mg cl) (MM : ∀ C ∈ cs4 cl, MC K C) {f : Addr} {fd : FuncData} (F : Fun K "lane" "Trap.lane" s_Trap_lane f fd) : FnOk P w K mg base CX0 1 f fd ["self"] (sp_lane cl .trap) := by
  refine F.ok sc_Trap_lane (fun vs H Q E h => ?_) (fun cdv A outer s H vs Q E hr h => ?_)
  · obtain ⟨a, d, rfl, _⟩ := h
    rfl
  · obtain ⟨a, d, rfl, im, ek, q⟩ := h
    refine ⟨_, (pss_one (ps_ret (k_fld (K := K) rfl (pv 0)))), ?_⟩
    obtain ⟨dx, t, h1, h2⟩ := im
    have M := MM _ (clsA_mem cl d.kd)
    unfold tailM at h1
    rw [ek] at h1 M
    simp only [tSeq, tIfS, tOr, tAnd, tNot, tB, tTest, tCB, tCall, tCons, tVar, tNil, tC, tRet, tRetN, tNext, tAsg, gName, tDrop, tOp, tUn, tAug, ipI, tPar, tIf, tAndV, tOrV, tNotV, tChain, tNever, rI0, rI, rU, L2.start, cxK, List.map_cons, List.map_nil, List.length_cons, List.length_nil, Nat.reduceAdd, Nat.reduceSub, List.replicate, List.cons_append, List.nil_append, List.append_nil, List.set_cons_zero, List.set_cons_succ, List.getElem?_cons_zero, List.getElem?_cons_succ, Option.some.injEq, V.int.injEq, V.bl.injEq, exists_eq_left', exists_eq_left, exists_and_left, tFor_eq, iRng1, iRng2, iRng3, iList, iEnum, iZip, iTup, tLst_eq, tTup_eq, rCat_eq, rCatS, rSum, rAppend_eq, rListOf, rSlL_eq, tSl, tNoPart, tPart, tLc_eq, tBM, rIxL, rIxT, min3_eq, rEq_int, rNe_int, min_if, max_if, and_assoc, V.ref.injEq, V.str.injEq, List.cons.injEq, and_true, true_and, ↓reduceIte, Bool.false_eq_true, Bool.not_true, Bool.not_false, Int.reduceToNat, Int.reducePow, Int.reduceAdd, Int.reduceSub, Int.reduceNeg, tVirt, tOff, tFld, sFld_eq, tMake_eq, rTupOf, iStr, rNe_str, rEq_str, rEq_bl, tRaise1, tFmt, tJs, tCallS, WE, wKeep_eq, reduceCtorEq, false_and, and_false, exists_false, or_false, false_or, tIsN, tNotN, decide_true, decide_false, tDictN]
    exact ⟨_, _, _, h1, M.c, M.n_lane, _, rfl, q⟩
theorem ok_Floor_kind (B : Bt mg cl) {f : Addr} {fd : FuncData} (F : Fun K "kind" "Floor.kind" s_Floor_kind f fd) : FnOk P w K mg base CX0 1 f fd ["self"] (sp_kind cl .floor) := by
  refine F.ok sc_Floor_kind (fun vs H Q E h => ?_) (fun cdv A outer s H vs Q E hr h => ?_)
  · obtain ⟨a, d, rfl, _⟩ := h
    rfl
  · obtain ⟨a, d, rfl, im, ek, q⟩ := h
    refine ⟨_, (pss_one (ps_ret pe_str)), ?_⟩
    simp only [tSeq, tIfS, tOr, tAnd, tNot, tB, tTest, tCB, tCall, tCons, tVar, tNil, tC, tRet, tRetN, tNext, tAsg, gName, tDrop, tOp, tUn, tAug, ipI, tPar, tIf, tAndV, tOrV, tNotV, tChain, tNever, rI0, rI, rU, L2.start, cxK, List.map_cons, List.map_nil, List.length_cons, List.length_nil, Nat.reduceAdd, Nat.reduceSub, List.replicate, List.cons_append, List.nil_append, List.append_nil, List.set_cons_zero, List.set_cons_succ, List.getElem?_cons_zero, List.getElem?_cons_succ, Option.some.injEq, V.int.injEq, V.bl.injEq, exists_eq_left', exists_eq_left, exists_and_left, tFor_eq, iRng1, iRng2, iRng3, iList, iEnum, iZip, iTup, tLst_eq, tTup_eq, rCat_eq, rCatS, rSum, rAppend_eq, rListOf, rSlL_eq, tSl, tNoPart, tPart, tLc_eq, tBM, rIxL, rIxT, min3_eq, rEq_int, rNe_int, min_if, max_if, and_assoc, V.ref.injEq, V.str.injEq, List.cons.injEq, and_true, true_and, ↓reduceIte, Bool.false_eq_true, Bool.not_true, Bool.not_false, Int.reduceToNat, Int.reducePow, Int.reduceAdd, Int.reduceSub, Int.reduceNeg, tVirt, tOff, tFld, sFld_eq, tMake_eq, rTupOf, iStr, rNe_str, rEq_str, rEq_bl, tRaise1, tFmt, tJs, tCallS, WE, wKeep_eq, reduceCtorEq, false_and, and_false, exists_false, or_false, false_or, tIsN, tNotN, decide_true, decide_false, tDictN]
    exact q
theorem ok_Floor_lane (B : Bt mg cl) (MM : ∀ C ∈ cs4 cl, MC K C) {f : Addr} {fd : FuncData} (F : Fun K "lane" "Floor.lane" s_Floor_lane f fd) : FnOk P w K mg base CX0 1 f fd ["self"] (sp_lane cl .floor) := by
  refine F.ok sc_Floor_lane (fun vs H Q E h => ?_) (fun cdv A outer s H vs Q E hr h => ?_)
  · obtain ⟨a, d, rfl, _⟩ := h
    rfl
  · obtain ⟨a, d, rfl, im, ek, q⟩ := h
    refine ⟨_, (pss_one (ps_ret (k_fld (K := K) rfl (pv 0)))), ?_⟩
    obtain ⟨dx, t, h1, h2⟩ := im
    have M := MM _ (clsA_mem cl d.kd)
    unfold tailM at h1
    rw [ek] at h1 M
    simp only [tSeq, tIfS, tOr, tAnd, tNot, tB, tTest, tCB, tCall, tCons, tVar, tNil, tC, tRet, tRetN, tNext, tAsg, gName, tDrop, tOp, tUn, tAug, ipI, tPar, tIf, tAndV, tOrV, tNotV, tChain, tNever, rI0, rI, rU, L2.start, cxK, List.map_cons, List.map_nil, List.length_cons, List.length_nil, Nat.reduceAdd, Nat.reduceSub, List.replicate, List.cons_append, List.nil_append, List.append_nil, List.set_cons_zero, List.set_cons_succ, List.getElem?_cons_zero, List.getElem?_cons_succ, Option.some.injEq, V.int.injEq, V.bl.injEq, exists_eq_left', exists_eq_left, exists_and_left, tFor_eq, iRng1, iRng2, iRng3, iList, iEnum, iZip, iTup, tLst_eq, tTup_eq, rCat_eq, rCatS, rSum, rAppend_eq, rListOf, rSlL_eq, tSl, tNoPart, tPart, tLc_eq, tBM, rIxL, rIxT, min3_eq, rEq_int, rNe_int, min_if, max_if, and_assoc, V.ref.injEq, V.str.injEq, List.cons.injEq, and_true, true_and, ↓reduceIte, Bool.false_eq_true, Bool.not_true, Bool.not_false, Int.reduceToNat, Int.reducePow, Int.reduceAdd, Int.reduceSub, Int.reduceNeg, tVirt, tOff, tFld, sFld_eq, tMake_eq, rTupOf, iStr, rNe_str, rEq_str, rEq_bl, tRaise1, tFmt, tJs, tCallS, WE, wKeep_eq, reduceCtorEq, false_and, and_false, exists_false, or_false, false_or, tIsN, tNotN, decide_true, decide_false, tDictN]
    exact ⟨_, _, _, h1, M.c, M.n_lane, _, rfl, q⟩
/-! ### what a machine takes -/
/-- xs are new tuples of these -/
def TupL (H : Hp) (xs : List V) (ls : List (List V)) : Prop := xs.length = ls.length ∧ ∀ (i : Nat) (x : V) (l : List V), xs[i]? = some x → ls[i]? = some l → ∃ b, x = .ref b ∧ H b = some (.tup l)
theorem TupL.mono {H H' : Hp} {xs : List V} {ls : List (List V)} (e : Ex H H') (h : TupL H xs ls) : TupL H' xs ls := ⟨h.1, fun i x w h1 h2 => by
  obtain ⟨b, r, q⟩ := h.2 i x w h1 h2
  exact ⟨b, r, e _ _ q⟩⟩
theorem TupL.snoc {H : Hp} {xs : List V} {ls : List (List V)} {b : Addr} {l : List V} (h : TupL H xs ls) (hb : H b = some (.tup l)) : TupL H (xs ++ [.ref b]) (ls ++ [l]) := by
  refine ⟨by rw [List.length_append, List.length_append, h.1]; rfl, fun i x v h1 h2 => ?_⟩
  by_cases hi : i < xs.length
  · rw [List.getElem?_append_left hi] at h1
    rw [List.getElem?_append_left (by rw [← h.1]; exact hi)] at h2
    exact h.2 i x v h1 h2
  · rw [List.getElem?_append_right (by omega)] at h1
    rw [List.getElem?_append_right (by rw [← h.1]; omega), ← h.1] at h2
    cases e : i - xs.length with
    | zero =>
      rw [e] at h1 h2
      cases h1
      cases h2
      exact ⟨b, rfl, hb⟩
    | succ k =>
      rw [e] at h1
      cases h1
/-- a box: lane, at, wide, low, tall -/
structure Bx where
  lane : Int
  at_ : Int
  wide : Int
  low : Int
  tall : Int
def bxV (b : Bx) : List V := [.int b.lane, .int b.at_, .int b.wide, .int b.low, .int b.tall]
def far (a b : Int) : Int := if b - a < 0 then -(b - a) else b - a
theorem tupL_one {H : Hp} {b : Addr} {l : List V} (h : H b = some (.tup l)) : TupL H [.ref b] [l] := (show TupL H [] [] from ⟨rfl, fun i x l h => by cases h⟩).snoc h
def takes (d : Md) (a b : Int) : List Bx := match d.kd with
  | .line => [⟨d.lane, d.at_, d.wide, min a b, d.tall + far a b⟩]
  | .wagon => [⟨d.lane, min a b, d.wide + far a b, 0, d.tall⟩]
  | .trap => if min a b < 0 then [⟨d.lane, d.at_, d.wide, 0, 1⟩] else []
  | .floor => d.walls.map fun w => ⟨d.lane, w.1 + min a b, w.2.1 + far a b, 0, w.2.2⟩
def RetB (bs : List Bx) (H : Hp) (Q : VK) : Prop := ∀ p ys G2, H p = none → Ex H G2 → G2 p = some (.lst ys) → TupL G2 ys (bs.map bxV) → Q (.ref p) G2
/-- within the bounds -/
def inB (d : Md) (x : V) : Bool := wholeV x d.least d.greatest
def Small (d : Md) : Prop := d.least.natAbs < 2 ^ 100 ∧ d.greatest.natAbs < 2 ^ 100 ∧ d.walls.length < 100000
def sp_swept (cl : Nat → Addr) : Kd → Sp := fun k vs H Q _ => ∃ (a : Addr) (d : Md) (i j : Int), vs = [.ref a, .int i, .int j] ∧ IsM cl H a d ∧ d.kd = k ∧ d.walls.length < 100000 ∧ RetB (takes d i j) H Q
theorem is_no_field {m : Str} (h : (["name", "least", "greatest", "pace", "gain", "place", "lane_told", "at_told", "wide_told", "tall_told", "walls"] : List Str).all (fun x => decide (x ≠ m)) = true) {d : Md} {t : Addr} : (g6 d ++ tailM d t).lookup m = none := no_field fun x hx => of_decide_eq_true (List.all_eq_true.mp h x hx)
theorem ok_Line_swept (B : Bt mg cl) (MM : ∀ C ∈ cs4 cl, MC K C) {f : Addr} {fd : FuncData} (F : Fun K "swept" "Line.swept" s_Line_swept f fd) : FnOk P w K mg base CX0 1 f fd ["self", "ahead", "place"] (sp_swept cl .line) := by
  refine F.ok sc_Line_swept (fun vs H Q E h => ?_) (fun cdv A outer s H vs Q E hr h => ?_)
  · obtain ⟨a, d, x, y, rfl, _⟩ := h
    rfl
  · obtain ⟨a, d, i, j, rfl, im, ek, wsm, q⟩ := h
    refine ⟨_, (pss_cons (ps_set (i := 3) sc_Line_swept.nd rfl (.inl rfl) (pe_op op_add (k_fld (K := K) rfl (pv 0)) (pe_callB call_abs (by rfl) B.b_abs (by decide +kernel) (pa_cons (pe_op op_sub (pv 2) (pv 1)) pa_nil))))
      (pss_one (ps_ret (pe_lst (pa_cons (pe_tup (pa_cons (k_fld (K := K) rfl (pv 0)) (pa_cons (k_fld (K := K) rfl (pv 0)) (pa_cons (k_fld (K := K) rfl (pv 0)) (pa_cons (pe_callB (call_min2 rfl) (by rfl) B.b_min (by decide +kernel) (pa_cons (pv 1) (pa_cons (pv 2) pa_nil))) (pa_cons (pv 3) pa_nil)))))) pa_nil))))), ?_⟩
    have M := MM _ (clsA_mem cl d.kd)
    obtain ⟨dx, t, h1, h2⟩ := id im
    unfold takes at q
    unfold tailM at h1
    rw [ek] at h1 q M
    simp only [tSeq, tIfS, tOr, tAnd, tNot, tB, tTest, tCB, tCall, tCons, tVar, tNil, tC, tRet, tRetN, tNext, tAsg, gName, tDrop, tOp, tUn, tAug, ipI, tPar, tIf, tAndV, tOrV, tNotV, tChain, tNever, rI0, rI, rU, L2.start, cxK, List.map_cons, List.map_nil, List.length_cons, List.length_nil, Nat.reduceAdd, Nat.reduceSub, List.replicate, List.cons_append, List.nil_append, List.append_nil, List.set_cons_zero, List.set_cons_succ, List.getElem?_cons_zero, List.getElem?_cons_succ, Option.some.injEq, V.int.injEq, V.bl.injEq, exists_eq_left', exists_eq_left, exists_and_left, tFor_eq, iRng1, iRng2, iRng3, iList, iEnum, iZip, iTup, tLst_eq, tTup_eq, rCat_eq, rCatS, rSum, rAppend_eq, rListOf, rSlL_eq, tSl, tNoPart, tPart, tLc_eq, tBM, rIxL, rIxT, min3_eq, rEq_int, rNe_int, min_if, max_if, and_assoc, V.ref.injEq, V.str.injEq, List.cons.injEq, and_true, true_and, ↓reduceIte, Bool.false_eq_true, Bool.not_true, Bool.not_false, Int.reduceToNat, Int.reducePow, Int.reduceAdd, Int.reduceSub, Int.reduceNeg, tVirt, tOff, tFld, sFld_eq, tMake_eq, rTupOf, iStr, rNe_str, rEq_str, rEq_bl, tRaise1, tFmt, tJs, tCallS, WE, wKeep_eq, reduceCtorEq, false_and, and_false, exists_false, or_false, false_or, tIsN, tNotN, decide_true, decide_false, tDictN]
    refine ⟨_, _, _, h1, M.c, M.n_tall, _, rfl, _, rfl, _, _, _, h1, M.c, M.n_lane, _, rfl, _, _, _, h1, M.c, M.n_at, _, rfl, _, _, _, h1, M.c, M.n_wide, _, rfl, ?_⟩
    exact ⟨sz_of (by decide), new_of fun p H1 np e1 hp => ⟨sz_of (by decide), new_of fun l H2 nl e2 hl => q l _ H2 (fresh_back e1 nl) (e1.trans e2) hl (tupL_one (e2 _ _ hp))⟩⟩
theorem ok_Wagon_swept (B : Bt mg cl) (MM : ∀ C ∈ cs4 cl, MC K C) {f : Addr} {fd : FuncData} (F : Fun K "swept" "Wagon.swept" s_Wagon_swept f fd) : FnOk P w K mg base CX0 1 f fd ["self", "ahead", "place"] (sp_swept cl .wagon) := by
  refine F.ok sc_Wagon_swept (fun vs H Q E h => ?_) (fun cdv A outer s H vs Q E hr h => ?_)
  · obtain ⟨a, d, x, y, rfl, _⟩ := h
    rfl
  · obtain ⟨a, d, i, j, rfl, im, ek, wsm, q⟩ := h
    refine ⟨_, (pss_cons (ps_set (i := 3) sc_Wagon_swept.nd rfl (.inl rfl) (pe_op op_add (k_fld (K := K) rfl (pv 0)) (pe_callB call_abs (by rfl) B.b_abs (by decide +kernel) (pa_cons (pe_op op_sub (pv 2) (pv 1)) pa_nil))))
      (pss_one (ps_ret (pe_lst (pa_cons (pe_tup (pa_cons (k_fld (K := K) rfl (pv 0)) (pa_cons (pe_callB (call_min2 rfl) (by rfl) B.b_min (by decide +kernel) (pa_cons (pv 1) (pa_cons (pv 2) pa_nil))) (pa_cons (pv 3) (pa_cons pe_int (pa_cons (k_fld (K := K) rfl (pv 0)) pa_nil)))))) pa_nil))))), ?_⟩
    have M := MM _ (clsA_mem cl d.kd)
    obtain ⟨dx, t, h1, h2⟩ := id im
    unfold takes at q
    unfold tailM at h1
    rw [ek] at h1 q M
    simp only [tSeq, tIfS, tOr, tAnd, tNot, tB, tTest, tCB, tCall, tCons, tVar, tNil, tC, tRet, tRetN, tNext, tAsg, gName, tDrop, tOp, tUn, tAug, ipI, tPar, tIf, tAndV, tOrV, tNotV, tChain, tNever, rI0, rI, rU, L2.start, cxK, List.map_cons, List.map_nil, List.length_cons, List.length_nil, Nat.reduceAdd, Nat.reduceSub, List.replicate, List.cons_append, List.nil_append, List.append_nil, List.set_cons_zero, List.set_cons_succ, List.getElem?_cons_zero, List.getElem?_cons_succ, Option.some.injEq, V.int.injEq, V.bl.injEq, exists_eq_left', exists_eq_left, exists_and_left, tFor_eq, iRng1, iRng2, iRng3, iList, iEnum, iZip, iTup, tLst_eq, tTup_eq, rCat_eq, rCatS, rSum, rAppend_eq, rListOf, rSlL_eq, tSl, tNoPart, tPart, tLc_eq, tBM, rIxL, rIxT, min3_eq, rEq_int, rNe_int, min_if, max_if, and_assoc, V.ref.injEq, V.str.injEq, List.cons.injEq, and_true, true_and, ↓reduceIte, Bool.false_eq_true, Bool.not_true, Bool.not_false, Int.reduceToNat, Int.reducePow, Int.reduceAdd, Int.reduceSub, Int.reduceNeg, tVirt, tOff, tFld, sFld_eq, tMake_eq, rTupOf, iStr, rNe_str, rEq_str, rEq_bl, tRaise1, tFmt, tJs, tCallS, WE, wKeep_eq, reduceCtorEq, false_and, and_false, exists_false, or_false, false_or, tIsN, tNotN, decide_true, decide_false, tDictN]
    refine ⟨_, _, _, h1, M.c, M.n_wide, _, rfl, _, rfl, _, _, _, h1, M.c, M.n_lane, _, rfl, _, _, _, h1, M.c, M.n_tall, _, rfl, ?_⟩
    exact ⟨sz_of (by decide), new_of fun p H1 np e1 hp => ⟨sz_of (by decide), new_of fun l H2 nl e2 hl => q l _ H2 (fresh_back e1 nl) (e1.trans e2) hl (tupL_one (e2 _ _ hp))⟩⟩
theorem ok_Trap_swept (B : Bt mg cl) (MM : ∀ C ∈ cs4 cl, MC K C) {f : Addr} {fd : FuncData} (F : Fun K "swept" "Trap.swept" s_Trap_swept f fd) : FnOk P w K mg base CX0 1 f fd ["self", "ahead", "place"] (sp_swept cl .trap) := by
  refine F.ok sc_Trap_swept (fun vs H Q E h => ?_) (fun cdv A outer s H vs Q E hr h => ?_)
  · obtain ⟨a, d, x, y, rfl, _⟩ := h
    rfl
  · obtain ⟨a, d, i, j, rfl, im, ek, wsm, q⟩ := h
    refine ⟨_, (pss_cons (ps_if (pt_cmpR op_ge (pe_callB (call_min2 rfl) (by rfl) B.b_min (by decide +kernel) (pa_cons (pv 1) (pa_cons (pv 2) pa_nil))) pe_int (nomark _))
        (pss_one (ps_ret (pe_lst pa_nil)))
        pss_nil)
      (pss_one (ps_ret (pe_lst (pa_cons (pe_tup (pa_cons (k_fld (K := K) rfl (pv 0)) (pa_cons (k_fld (K := K) rfl (pv 0)) (pa_cons (k_fld (K := K) rfl (pv 0)) (pa_cons pe_int (pa_cons pe_int pa_nil)))))) pa_nil))))), ?_⟩
    have M := MM _ (clsA_mem cl d.kd)
    obtain ⟨dx, t, h1, h2⟩ := id im
    unfold takes at q
    unfold tailM at h1
    rw [ek] at h1 q M
    simp only [tSeq, tIfS, tOr, tAnd, tNot, tB, tTest, tCB, tCall, tCons, tVar, tNil, tC, tRet, tRetN, tNext, tAsg, gName, tDrop, tOp, tUn, tAug, ipI, tPar, tIf, tAndV, tOrV, tNotV, tChain, tNever, rI0, rI, rU, L2.start, cxK, List.map_cons, List.map_nil, List.length_cons, List.length_nil, Nat.reduceAdd, Nat.reduceSub, List.replicate, List.cons_append, List.nil_append, List.append_nil, List.set_cons_zero, List.set_cons_succ, List.getElem?_cons_zero, List.getElem?_cons_succ, Option.some.injEq, V.int.injEq, V.bl.injEq, exists_eq_left', exists_eq_left, exists_and_left, tFor_eq, iRng1, iRng2, iRng3, iList, iEnum, iZip, iTup, tLst_eq, tTup_eq, rCat_eq, rCatS, rSum, rAppend_eq, rListOf, rSlL_eq, tSl, tNoPart, tPart, tLc_eq, tBM, rIxL, rIxT, min3_eq, rEq_int, rNe_int, min_if, max_if, and_assoc, V.ref.injEq, V.str.injEq, List.cons.injEq, and_true, true_and, ↓reduceIte, Bool.false_eq_true, Bool.not_true, Bool.not_false, Int.reduceToNat, Int.reducePow, Int.reduceAdd, Int.reduceSub, Int.reduceNeg, tVirt, tOff, tFld, sFld_eq, tMake_eq, rTupOf, iStr, rNe_str, rEq_str, rEq_bl, tRaise1, tFmt, tJs, tCallS, WE, wKeep_eq, reduceCtorEq, false_and, and_false, exists_false, or_false, false_or, tIsN, tNotN, decide_true, decide_false, tDictN]
    by_cases c : min i j < 0
    · dsimp only at q
      rw [if_pos c] at q
      refine ifF (decide_eq_false (by omega)) ⟨_, _, _, h1, M.c, M.n_lane, _, rfl, _, _, _, h1, M.c, M.n_at, _, rfl, _, _, _, h1, M.c, M.n_wide, _, rfl, ?_⟩
      exact ⟨sz_of (by decide), new_of fun p H1 np e1 hp => ⟨sz_of (by decide), new_of fun l H2 nl e2 hl => q l _ H2 (fresh_back e1 nl) (e1.trans e2) hl (tupL_one (e2 _ _ hp))⟩⟩
    · dsimp only at q
      rw [if_neg c] at q
      exact ifT (decide_eq_true (by omega)) ⟨Nat.zero_le _, new_of fun l H1 nl e1 hl => q l _ H1 nl e1 hl ⟨rfl, fun i x l h => by cases h⟩⟩
end
end FW

set_option Elab.async false
set_option linter.all false
set_option maxRecDepth 100000
set_option maxHeartbeats 4000000
namespace FW
open PySem PySem.Spec PyProof.Rows L2 Evt
section
variable {P : Program} {w : World} {K : PySem.W.Frag} {mg : Str → Option Value} {base : Heap} {cl : Nat → Addr}
theorem ok_Floor_swept (B : Bt mg cl) (MM : ∀ C ∈ cs4 cl, MC K C) {f : Addr} {fd : FuncData} (F : Fun K "swept" "Floor.swept" s_Floor_swept f fd) : FnOk P w K mg base CX0 1 f fd ["self", "ahead", "place"] (sp_swept cl .floor) := by
  refine F.ok sc_Floor_swept (fun vs H Q E h => ?_) (fun cdv A outer s H vs Q E hr h => ?_)
  · obtain ⟨a, d, x, y, rfl, _⟩ := h
    rfl
  · obtain ⟨a, d, i, j, rfl, im, ek, wsm, q⟩ := h
    refine ⟨_, (pss_cons (ps_set (i := 3) sc_Floor_swept.nd rfl (.inr rfl) (pe_callB (call_min2 rfl) (by rfl) B.b_min (by decide +kernel) (pa_cons (pv 1) (pa_cons (pv 2) pa_nil))))
      (pss_cons (ps_set (i := 4) sc_Floor_swept.nd rfl (.inr rfl) (pe_callB call_abs (by rfl) B.b_abs (by decide +kernel) (pa_cons (pe_op op_sub (pv 2) (pv 1)) pa_nil)))
      (pss_one (ps_ret (pe_lc (own := [("offset", 5), ("wide", 6), ("tall", 7)]) (g := gTup K 3 (gCons (gName 5) (gCons (gName 6) (gCons (gName 7) gNil)))) (tt := tYes) (by rfl) sc_Floor_swept.nd (k_pit (K := K) rfl (k_fld (K := K) rfl (pv 0))) (blkOk_by (own := [("offset", 5), ("wide", 6), ("tall", 7)]) (N := ["self", "ahead", "place", "low", "way", "offset", "wide", "tall"]) (sc := defScope s_Floor_swept) (by decide +kernel)) (fun _ _ _ _ _ => (k_pgt (K := K) (n := 3) rfl rfl (pgs_cons (pg_name (i := 5) sc_Floor_swept.nd rfl (.inl rfl)) (pgs_cons (pg_name (i := 6) sc_Floor_swept.nd rfl (.inl rfl)) (pgs_cons (pg_name (i := 7) sc_Floor_swept.nd rfl (.inl rfl)) pgs_nil))))) (fun _ _ _ _ _ => pts_nil) (fun _ _ _ _ _ => (pe_tup (pa_cons (k_fld (K := K) rfl (pv 0)) (pa_cons (pe_op op_add (pv 5) (pv 3)) (pa_cons (pe_op op_add (pv 6) (pv 4)) (pa_cons pe_int (pa_cons (pv 7) pa_nil)))))))))))), ?_⟩
    have M := MM _ (clsA_mem cl d.kd)
    obtain ⟨dx, t, h1, h2⟩ := id im
    obtain ⟨ys, hy, tw⟩ := h2 ek
    unfold takes at q
    unfold tailM at h1
    rw [ek] at h1 q M
    dsimp only at q
    have hlen := tw.1
    simp only [tSeq, tIfS, tOr, tAnd, tNot, tB, tTest, tCB, tCall, tCons, tVar, tNil, tC, tRet, tRetN, tNext, tAsg, gName, tDrop, tOp, tUn, tAug, ipI, tPar, tIf, tAndV, tOrV, tNotV, tChain, tNever, rI0, rI, rU, L2.start, cxK, List.map_cons, List.map_nil, List.length_cons, List.length_nil, Nat.reduceAdd, Nat.reduceSub, List.replicate, List.cons_append, List.nil_append, List.append_nil, List.set_cons_zero, List.set_cons_succ, List.getElem?_cons_zero, List.getElem?_cons_succ, Option.some.injEq, V.int.injEq, V.bl.injEq, exists_eq_left', exists_eq_left, exists_and_left, tFor_eq, iRng1, iRng2, iRng3, iList, iEnum, iZip, iTup, tLst_eq, tTup_eq, rCat_eq, rCatS, rSum, rAppend_eq, rListOf, rSlL_eq, tSl, tNoPart, tPart, tLc_eq, tBM, rIxL, rIxT, min3_eq, rEq_int, rNe_int, min_if, max_if, and_assoc, V.ref.injEq, V.str.injEq, List.cons.injEq, and_true, true_and, ↓reduceIte, Bool.false_eq_true, Bool.not_true, Bool.not_false, Int.reduceToNat, Int.reducePow, Int.reduceAdd, Int.reduceSub, Int.reduceNeg, tVirt, tOff, tFld, sFld_eq, tMake_eq, rTupOf, iStr, rNe_str, rEq_str, rEq_bl, tRaise1, tFmt, tJs, tCallS, WE, wKeep_eq, reduceCtorEq, false_and, and_false, exists_false, or_false, false_or, tIsN, tNotN, decide_true, decide_false, tDictN]
    refine ⟨_, _, _, h1, M.c, M.n_walls, _, rfl, ?_⟩
    obtain ⟨fb, hfb⟩ : ∃ fb : Wl → List V, fb = fun wl => bxV ⟨d.lane, wl.1 + min i j, wl.2.1 + far i j, 0, wl.2.2⟩ := ⟨_, rfl⟩
    have eb : (d.walls.map fun wl => (⟨d.lane, wl.1 + min i j, wl.2.1 + far i j, 0, wl.2.2⟩ : Bx)).map bxV = d.walls.map fb := by
      rw [List.map_map, hfb]
      rfl
    unfold RetB at q
    rw [eb] at q
    refine ⟨_, rfl, ⟨_, st_of hy⟩, fun Dl hD => lc_grow (walk_tup (xs := ys)) (fun k acc H' => TupL H' acc ((d.walls.take k).map fb)) hD (fun H' e => st_of (e _ _ hy)) (fun H' _ => ⟨rfl, fun i x w h => by cases h⟩) ?_ ?_⟩
    · rintro k x acc H0 H' hi e0 h0 hl r ⟨rfl, hx⟩
      obtain ⟨wl, hw⟩ : ∃ wl, d.walls[k]? = some wl := ⟨d.walls[k]'(by rw [← hlen]; exact hi), List.getElem?_eq_getElem (by rw [← hlen]; exact hi)⟩
      obtain ⟨b, rfl, hb⟩ := tw.2 k x wl hx hw
      refine ⟨b, wlV wl, rfl, st_of (e0 _ _ hb), rfl, ?_⟩
      simp only [tSeq, tIfS, tOr, tAnd, tNot, tB, tTest, tCB, tCall, tCons, tVar, tNil, tC, tRet, tRetN, tNext, tAsg, gName, tDrop, tOp, tUn, tAug, ipI, tPar, tIf, tAndV, tOrV, tNotV, tChain, tNever, rI0, rI, rU, L2.start, cxK, List.map_cons, List.map_nil, List.length_cons, List.length_nil, Nat.reduceAdd, Nat.reduceSub, List.replicate, List.cons_append, List.nil_append, List.append_nil, List.set_cons_zero, List.set_cons_succ, List.getElem?_cons_zero, List.getElem?_cons_succ, Option.some.injEq, V.int.injEq, V.bl.injEq, exists_eq_left', exists_eq_left, exists_and_left, tFor_eq, iRng1, iRng2, iRng3, iList, iEnum, iZip, iTup, tLst_eq, tTup_eq, rCat_eq, rCatS, rSum, rAppend_eq, rListOf, rSlL_eq, tSl, tNoPart, tPart, tLc_eq, tBM, rIxL, rIxT, min3_eq, rEq_int, rNe_int, min_if, max_if, and_assoc, V.ref.injEq, V.str.injEq, List.cons.injEq, and_true, true_and, ↓reduceIte, Bool.false_eq_true, Bool.not_true, Bool.not_false, Int.reduceToNat, Int.reducePow, Int.reduceAdd, Int.reduceSub, Int.reduceNeg, tVirt, tOff, tFld, sFld_eq, tMake_eq, rTupOf, iStr, rNe_str, rEq_str, rEq_bl, tRaise1, tFmt, tJs, tCallS, WE, wKeep_eq, reduceCtorEq, false_and, and_false, exists_false, or_false, false_or, tIsN, tNotN, decide_true, decide_false, tDictN, gCons, gNil, wlV, wipe, tYes]
      refine ⟨_, _, _, e0 _ _ h1, M.c, M.n_lane, _, rfl, sz_of (by decide), new_of fun p G np eg hp => ?_⟩
      refine putG_of hD (e0.trans eg) (eg _ _ h0) hl (sz_lt (by have : d.walls.length < 100000 := wsm; omega)) fun H5 k5 => ?_
      have nD : p ≠ Dl := fun z => by rw [z] at np; rw [np] at h0; cases h0
      rw [List.take_succ, hw, List.map_append]
      refine TupL.snoc ?_ (by rw [k5 p nD, hp, hfb]; rfl)
      refine ⟨r.1, fun j y v g1 g2 => ?_⟩
      obtain ⟨c, rc, qc⟩ := r.2 j y v g1 g2
      have nc : c ≠ Dl := fun z => by rw [z, h0] at qc; cases qc
      exact ⟨c, rc, by rw [k5 c nc]; exact eg _ _ qc⟩
    · intro acc H9 e9 h9 r9
      rw [List.take_of_length_le (by omega)] at r9
      exact q Dl acc H9 hD e9 h9 r9
def sp_taken (K : PySem.W.Frag) (cl : Nat → Addr) (CB : Addr) : Kd → Sp := fun k vs H Q E => ∃ (a : Addr) (d : Md) (x y : V), vs = [.ref a, x, y] ∧ IsM cl H a d ∧ d.kd = k ∧ Small d ∧ Known K H x ∧ Known K H y ∧ ((inB d x && inB d y) = false → E (.ref CB) none H) ∧
  ∀ i j : Int, x = .int i → y = .int j → d.least ≤ i → i ≤ d.greatest → d.least ≤ j → j ≤ d.greatest → RetB (takes d i j) H Q
theorem ok_Line_taken (B : Bt mg cl) (MM : ∀ C ∈ cs4 cl, MC K C) (V_need_within : Virt P w K mg base (L2.CX P w) 3 "need_within" ["self", "place"] (ck4 cl) (sp_need_within K cl (cl 1))) (V_swept : Virt P w K mg base CX0 1 "swept" ["self", "ahead", "place"] (ck4 cl) (sp_swept cl)) {f : Addr} {fd : FuncData} (F : Fun K "taken" "Line.taken" s_Line_taken f fd) : FnOk P w K mg base (L2.CX P w) 4 f fd ["self", "ahead", "place"] (sp_taken K cl (cl 1) .line) := by
  refine F.okX sc_Line_taken (fun vs H Q E h => ?_) (fun cdv A outer s H vs Q E hr h => ?_)
  · obtain ⟨a, d, x, y, rfl, _⟩ := h
    rfl
  · obtain ⟨a, d, x, y, rfl, im, ek, sm, kx, ky, bad, good⟩ := h
    refine ⟨_, (pss_cons (ps_expr (pe_virt V_need_within (hr.mono (by decide)) (fun σ => passAt (takes_of rfl rfl rfl rfl) σ) (pv 0) (pa_cons (pv 1) pa_nil)))
      (pss_cons (ps_expr (pe_virt V_need_within (hr.mono (by decide)) (fun σ => passAt (takes_of rfl rfl rfl rfl) σ) (pv 0) (pa_cons (pv 2) pa_nil)))
      (pss_one (ps_ret (pe_virt (E := fun _ => E0) V_swept (hr.mono (by decide)) (fun _ => pass0At) (pv 0) (pa_cons (pv 1) (pa_cons (pv 2) pa_nil))))))), ?_⟩
    have M := MM _ (clsA_mem cl d.kd)
    obtain ⟨dx, t, h1, h2⟩ := id im
    refine cut_eq fun N1 hN1 => ?_
    simp only [tSeq, tIfS, tOr, tAnd, tNot, tB, tTest, tCB, tCall, tCons, tVar, tNil, tC, tRet, tRetN, tNext, tAsg, gName, tDrop, tOp, tUn, tAug, ipI, tPar, tIf, tAndV, tOrV, tNotV, tChain, tNever, rI0, rI, rU, L2.start, cxK, List.map_cons, List.map_nil, List.length_cons, List.length_nil, Nat.reduceAdd, Nat.reduceSub, List.replicate, List.cons_append, List.nil_append, List.append_nil, List.set_cons_zero, List.set_cons_succ, List.getElem?_cons_zero, List.getElem?_cons_succ, Option.some.injEq, V.int.injEq, V.bl.injEq, exists_eq_left', exists_eq_left, exists_and_left, tFor_eq, iRng1, iRng2, iRng3, iList, iEnum, iZip, iTup, tLst_eq, tTup_eq, rCat_eq, rCatS, rSum, rAppend_eq, rListOf, rSlL_eq, tSl, tNoPart, tPart, tLc_eq, tBM, rIxL, rIxT, min3_eq, rEq_int, rNe_int, min_if, max_if, and_assoc, V.ref.injEq, V.str.injEq, List.cons.injEq, and_true, true_and, ↓reduceIte, Bool.false_eq_true, Bool.not_true, Bool.not_false, Int.reduceToNat, Int.reducePow, Int.reduceAdd, Int.reduceSub, Int.reduceNeg, tVirt, tOff, tFld, sFld_eq, tMake_eq, rTupOf, iStr, rNe_str, rEq_str, rEq_bl, tRaise1, tFmt, tJs, tCallS, WE, wKeep_eq, reduceCtorEq, false_and, and_false, exists_false, or_false, false_or, tIsN, tNotN, decide_true, decide_false, tDictN]
    refine ⟨_, _, ck_mem cl d.kd, _, _, h1, is_no_field (by decide +kernel), a, d, x, rfl, im, rfl, kx, sm.1, sm.2.1, fun ix => ?_, fun ix => bad (by rw [show inB d x = false from ix]; rfl)⟩
    rw [← hN1]
    clear hN1
    refine cut_eq fun N1 hN1 => ?_
    simp only [tSeq, tIfS, tOr, tAnd, tNot, tB, tTest, tCB, tCall, tCons, tVar, tNil, tC, tRet, tRetN, tNext, tAsg, gName, tDrop, tOp, tUn, tAug, ipI, tPar, tIf, tAndV, tOrV, tNotV, tChain, tNever, rI0, rI, rU, L2.start, cxK, List.map_cons, List.map_nil, List.length_cons, List.length_nil, Nat.reduceAdd, Nat.reduceSub, List.replicate, List.cons_append, List.nil_append, List.append_nil, List.set_cons_zero, List.set_cons_succ, List.getElem?_cons_zero, List.getElem?_cons_succ, Option.some.injEq, V.int.injEq, V.bl.injEq, exists_eq_left', exists_eq_left, exists_and_left, tFor_eq, iRng1, iRng2, iRng3, iList, iEnum, iZip, iTup, tLst_eq, tTup_eq, rCat_eq, rCatS, rSum, rAppend_eq, rListOf, rSlL_eq, tSl, tNoPart, tPart, tLc_eq, tBM, rIxL, rIxT, min3_eq, rEq_int, rNe_int, min_if, max_if, and_assoc, V.ref.injEq, V.str.injEq, List.cons.injEq, and_true, true_and, ↓reduceIte, Bool.false_eq_true, Bool.not_true, Bool.not_false, Int.reduceToNat, Int.reducePow, Int.reduceAdd, Int.reduceSub, Int.reduceNeg, tVirt, tOff, tFld, sFld_eq, tMake_eq, rTupOf, iStr, rNe_str, rEq_str, rEq_bl, tRaise1, tFmt, tJs, tCallS, WE, wKeep_eq, reduceCtorEq, false_and, and_false, exists_false, or_false, false_or, tIsN, tNotN, decide_true, decide_false, tDictN]
    refine ⟨_, _, ck_mem cl d.kd, _, _, h1, is_no_field (by decide +kernel), a, d, y, rfl, im, rfl, ky, sm.1, sm.2.1, fun iy => ?_, fun iy => bad (by rw [show inB d y = false from iy, Bool.and_false])⟩
    rw [← hN1]
    clear hN1
    obtain ⟨i, rfl, i0, i1⟩ := whole_int ix
    obtain ⟨j, rfl, j0, j1⟩ := whole_int iy
    simp only [tSeq, tIfS, tOr, tAnd, tNot, tB, tTest, tCB, tCall, tCons, tVar, tNil, tC, tRet, tRetN, tNext, tAsg, gName, tDrop, tOp, tUn, tAug, ipI, tPar, tIf, tAndV, tOrV, tNotV, tChain, tNever, rI0, rI, rU, L2.start, cxK, List.map_cons, List.map_nil, List.length_cons, List.length_nil, Nat.reduceAdd, Nat.reduceSub, List.replicate, List.cons_append, List.nil_append, List.append_nil, List.set_cons_zero, List.set_cons_succ, List.getElem?_cons_zero, List.getElem?_cons_succ, Option.some.injEq, V.int.injEq, V.bl.injEq, exists_eq_left', exists_eq_left, exists_and_left, tFor_eq, iRng1, iRng2, iRng3, iList, iEnum, iZip, iTup, tLst_eq, tTup_eq, rCat_eq, rCatS, rSum, rAppend_eq, rListOf, rSlL_eq, tSl, tNoPart, tPart, tLc_eq, tBM, rIxL, rIxT, min3_eq, rEq_int, rNe_int, min_if, max_if, and_assoc, V.ref.injEq, V.str.injEq, List.cons.injEq, and_true, true_and, ↓reduceIte, Bool.false_eq_true, Bool.not_true, Bool.not_false, Int.reduceToNat, Int.reducePow, Int.reduceAdd, Int.reduceSub, Int.reduceNeg, tVirt, tOff, tFld, sFld_eq, tMake_eq, rTupOf, iStr, rNe_str, rEq_str, rEq_bl, tRaise1, tFmt, tJs, tCallS, WE, wKeep_eq, reduceCtorEq, false_and, and_false, exists_false, or_false, false_or, tIsN, tNotN, decide_true, decide_false, tDictN]
    exact ⟨_, _, ck_mem cl d.kd, _, _, h1, is_no_field (by decide +kernel), a, d, i, j, rfl, im, rfl, sm.2.2, good i j rfl rfl i0 i1 j0 j1⟩
theorem ok_Wagon_taken (B : Bt mg cl) (MM : ∀ C ∈ cs4 cl, MC K C) (V_need_within : Virt P w K mg base (L2.CX P w) 3 "need_within" ["self", "place"] (ck4 cl) (sp_need_within K cl (cl 1))) (V_swept : Virt P w K mg base CX0 1 "swept" ["self", "ahead", "place"] (ck4 cl) (sp_swept cl)) {f : Addr} {fd : FuncData} (F : Fun K "taken" "Wagon.taken" s_Wagon_taken f fd) : FnOk P w K mg base (L2.CX P w) 4 f fd ["self", "ahead", "place"] (sp_taken K cl (cl 1) .wagon) := by
  refine F.okX sc_Wagon_taken (fun vs H Q E h => ?_) (fun cdv A outer s H vs Q E hr h => ?_)
  · obtain ⟨a, d, x, y, rfl, _⟩ := h
    rfl
  · obtain ⟨a, d, x, y, rfl, im, ek, sm, kx, ky, bad, good⟩ := h
    refine ⟨_, (pss_cons (ps_expr (pe_virt V_need_within (hr.mono (by decide)) (fun σ => passAt (takes_of rfl rfl rfl rfl) σ) (pv 0) (pa_cons (pv 1) pa_nil)))
      (pss_cons (ps_expr (pe_virt V_need_within (hr.mono (by decide)) (fun σ => passAt (takes_of rfl rfl rfl rfl) σ) (pv 0) (pa_cons (pv 2) pa_nil)))
      (pss_one (ps_ret (pe_virt (E := fun _ => E0) V_swept (hr.mono (by decide)) (fun _ => pass0At) (pv 0) (pa_cons (pv 1) (pa_cons (pv 2) pa_nil))))))), ?_⟩
    have M := MM _ (clsA_mem cl d.kd)
    obtain ⟨dx, t, h1, h2⟩ := id im
    refine cut_eq fun N1 hN1 => ?_
    simp only [tSeq, tIfS, tOr, tAnd, tNot, tB, tTest, tCB, tCall, tCons, tVar, tNil, tC, tRet, tRetN, tNext, tAsg, gName, tDrop, tOp, tUn, tAug, ipI, tPar, tIf, tAndV, tOrV, tNotV, tChain, tNever, rI0, rI, rU, L2.start, cxK, List.map_cons, List.map_nil, List.length_cons, List.length_nil, Nat.reduceAdd, Nat.reduceSub, List.replicate, List.cons_append, List.nil_append, List.append_nil, List.set_cons_zero, List.set_cons_succ, List.getElem?_cons_zero, List.getElem?_cons_succ, Option.some.injEq, V.int.injEq, V.bl.injEq, exists_eq_left', exists_eq_left, exists_and_left, tFor_eq, iRng1, iRng2, iRng3, iList, iEnum, iZip, iTup, tLst_eq, tTup_eq, rCat_eq, rCatS, rSum, rAppend_eq, rListOf, rSlL_eq, tSl, tNoPart, tPart, tLc_eq, tBM, rIxL, rIxT, min3_eq, rEq_int, rNe_int, min_if, max_if, and_assoc, V.ref.injEq, V.str.injEq, List.cons.injEq, and_true, true_and, ↓reduceIte, Bool.false_eq_true, Bool.not_true, Bool.not_false, Int.reduceToNat, Int.reducePow, Int.reduceAdd, Int.reduceSub, Int.reduceNeg, tVirt, tOff, tFld, sFld_eq, tMake_eq, rTupOf, iStr, rNe_str, rEq_str, rEq_bl, tRaise1, tFmt, tJs, tCallS, WE, wKeep_eq, reduceCtorEq, false_and, and_false, exists_false, or_false, false_or, tIsN, tNotN, decide_true, decide_false, tDictN]
    refine ⟨_, _, ck_mem cl d.kd, _, _, h1, is_no_field (by decide +kernel), a, d, x, rfl, im, rfl, kx, sm.1, sm.2.1, fun ix => ?_, fun ix => bad (by rw [show inB d x = false from ix]; rfl)⟩
    rw [← hN1]
    clear hN1
    refine cut_eq fun N1 hN1 => ?_
    simp only [tSeq, tIfS, tOr, tAnd, tNot, tB, tTest, tCB, tCall, tCons, tVar, tNil, tC, tRet, tRetN, tNext, tAsg, gName, tDrop, tOp, tUn, tAug, ipI, tPar, tIf, tAndV, tOrV, tNotV, tChain, tNever, rI0, rI, rU, L2.start, cxK, List.map_cons, List.map_nil, List.length_cons, List.length_nil, Nat.reduceAdd, Nat.reduceSub, List.replicate, List.cons_append, List.nil_append, List.append_nil, List.set_cons_zero, List.set_cons_succ, List.getElem?_cons_zero, List.getElem?_cons_succ, Option.some.injEq, V.int.injEq, V.bl.injEq, exists_eq_left', exists_eq_left, exists_and_left, tFor_eq, iRng1, iRng2, iRng3, iList, iEnum, iZip, iTup, tLst_eq, tTup_eq, rCat_eq, rCatS, rSum, rAppend_eq, rListOf, rSlL_eq, tSl, tNoPart, tPart, tLc_eq, tBM, rIxL, rIxT, min3_eq, rEq_int, rNe_int, min_if, max_if, and_assoc, V.ref.injEq, V.str.injEq, List.cons.injEq, and_true, true_and, ↓reduceIte, Bool.false_eq_true, Bool.not_true, Bool.not_false, Int.reduceToNat, Int.reducePow, Int.reduceAdd, Int.reduceSub, Int.reduceNeg, tVirt, tOff, tFld, sFld_eq, tMake_eq, rTupOf, iStr, rNe_str, rEq_str, rEq_bl, tRaise1, tFmt, tJs, tCallS, WE, wKeep_eq, reduceCtorEq, false_and, and_false, exists_false, or_false, false_or, tIsN, tNotN, decide_true, decide_false, tDictN]
    refine ⟨_, _, ck_mem cl d.kd, _, _, h1, is_no_field (by decide +kernel), a, d, y, rfl, im, rfl, ky, sm.1, sm.2.1, fun iy => ?_, fun iy => bad (by rw [show inB d y = false from iy, Bool.and_false])⟩
    rw [← hN1]
    clear hN1
    obtain ⟨i, rfl, i0, i1⟩ := whole_int ix
    obtain ⟨j, rfl, j0, j1⟩ := whole_int iy
    simp only [tSeq, tIfS, tOr, tAnd, tNot, tB, tTest, tCB, tCall, tCons, tVar, tNil, tC, tRet, tRetN, tNext, tAsg, gName, tDrop, tOp, tUn, tAug, ipI, tPar, tIf, tAndV, tOrV, tNotV, tChain, tNever, rI0, rI, rU, L2.start, cxK, List.map_cons, List.map_nil, List.length_cons, List.length_nil, Nat.reduceAdd, Nat.reduceSub, List.replicate, List.cons_append, List.nil_append, List.append_nil, List.set_cons_zero, List.set_cons_succ, List.getElem?_cons_zero, List.getElem?_cons_succ, Option.some.injEq, V.int.injEq, V.bl.injEq, exists_eq_left', exists_eq_left, exists_and_left, tFor_eq, iRng1, iRng2, iRng3, iList, iEnum, iZip, iTup, tLst_eq, tTup_eq, rCat_eq, rCatS, rSum, rAppend_eq, rListOf, rSlL_eq, tSl, tNoPart, tPart, tLc_eq, tBM, rIxL, rIxT, min3_eq, rEq_int, rNe_int, min_if, max_if, and_assoc, V.ref.injEq, V.str.injEq, List.cons.injEq, and_true, true_and, ↓reduceIte, Bool.false_eq_true, Bool.not_true, Bool.not_false, Int.reduceToNat, Int.reducePow, Int.reduceAdd, Int.reduceSub, Int.reduceNeg, tVirt, tOff, tFld, sFld_eq, tMake_eq, rTupOf, iStr, rNe_str, rEq_str, rEq_bl, tRaise1, tFmt, tJs, tCallS, WE, wKeep_eq, reduceCtorEq, false_and, and_false, exists_false, or_false, false_or, tIsN, tNotN, decide_true, decide_false, tDictN]
    exact ⟨_, _, ck_mem cl d.kd, _, _, h1, is_no_field (by decide +kernel), a, d, i, j, rfl, im, rfl, sm.2.2, good i j rfl rfl i0 i1 j0 j1⟩
theorem ok_Trap_taken (B : Bt mg cl) (MM : ∀ C ∈ cs4 cl, MC K C) (V_need_within : Virt P w K mg base (L2.CX P w) 3 "need_within" ["self", "place"] (ck4 cl) (sp_need_within K cl (cl 1))) (V_swept : Virt P w K mg base CX0 1 "swept" ["self", "ahead", "place"] (ck4 cl) (sp_swept cl)) {f : Addr} {fd : FuncData} (F : Fun K "taken" "Trap.taken" s_Trap_taken f fd) : FnOk P w K mg base (L2.CX P w) 4 f fd ["self", "ahead", "place"] (sp_taken K cl (cl 1) .trap) := by
  refine F.okX sc_Trap_taken (fun vs H Q E h => ?_) (fun cdv A outer s H vs Q E hr h => ?_)
  · obtain ⟨a, d, x, y, rfl, _⟩ := h
    rfl
  · obtain ⟨a, d, x, y, rfl, im, ek, sm, kx, ky, bad, good⟩ := h
    refine ⟨_, (pss_cons (ps_expr (pe_virt V_need_within (hr.mono (by decide)) (fun σ => passAt (takes_of rfl rfl rfl rfl) σ) (pv 0) (pa_cons (pv 1) pa_nil)))
      (pss_cons (ps_expr (pe_virt V_need_within (hr.mono (by decide)) (fun σ => passAt (takes_of rfl rfl rfl rfl) σ) (pv 0) (pa_cons (pv 2) pa_nil)))
      (pss_one (ps_ret (pe_virt (E := fun _ => E0) V_swept (hr.mono (by decide)) (fun _ => pass0At) (pv 0) (pa_cons (pv 1) (pa_cons (pv 2) pa_nil))))))), ?_⟩
    have M := MM _ (clsA_mem cl d.kd)
    obtain ⟨dx, t, h1, h2⟩ := id im
    refine cut_eq fun N1 hN1 => ?_
    simp only [tSeq, tIfS, tOr, tAnd, tNot, tB, tTest, tCB, tCall, tCons, tVar, tNil, tC, tRet, tRetN, tNext, tAsg, gName, tDrop, tOp, tUn, tAug, ipI, tPar, tIf, tAndV, tOrV, tNotV, tChain, tNever, rI0, rI, rU, L2.start, cxK, List.map_cons, List.map_nil, List.length_cons, List.length_nil, Nat.reduceAdd, Nat.reduceSub, List.replicate, List.cons_append, List.nil_append, List.append_nil, List.set_cons_zero, List.set_cons_succ, List.getElem?_cons_zero, List.getElem?_cons_succ, Option.some.injEq, V.int.injEq, V.bl.injEq, exists_eq_left', exists_eq_left, exists_and_left, tFor_eq, iRng1, iRng2, iRng3, iList, iEnum, iZip, iTup, tLst_eq, tTup_eq, rCat_eq, rCatS, rSum, rAppend_eq, rListOf, rSlL_eq, tSl, tNoPart, tPart, tLc_eq, tBM, rIxL, rIxT, min3_eq, rEq_int, rNe_int, min_if, max_if, and_assoc, V.ref.injEq, V.str.injEq, List.cons.injEq, and_true, true_and, ↓reduceIte, Bool.false_eq_true, Bool.not_true, Bool.not_false, Int.reduceToNat, Int.reducePow, Int.reduceAdd, Int.reduceSub, Int.reduceNeg, tVirt, tOff, tFld, sFld_eq, tMake_eq, rTupOf, iStr, rNe_str, rEq_str, rEq_bl, tRaise1, tFmt, tJs, tCallS, WE, wKeep_eq, reduceCtorEq, false_and, and_false, exists_false, or_false, false_or, tIsN, tNotN, decide_true, decide_false, tDictN]
    refine ⟨_, _, ck_mem cl d.kd, _, _, h1, is_no_field (by decide +kernel), a, d, x, rfl, im, rfl, kx, sm.1, sm.2.1, fun ix => ?_, fun ix => bad (by rw [show inB d x = false from ix]; rfl)⟩
    rw [← hN1]
    clear hN1
    refine cut_eq fun N1 hN1 => ?_
    simp only [tSeq, tIfS, tOr, tAnd, tNot, tB, tTest, tCB, tCall, tCons, tVar, tNil, tC, tRet, tRetN, tNext, tAsg, gName, tDrop, tOp, tUn, tAug, ipI, tPar, tIf, tAndV, tOrV, tNotV, tChain, tNever, rI0, rI, rU, L2.start, cxK, List.map_cons, List.map_nil, List.length_cons, List.length_nil, Nat.reduceAdd, Nat.reduceSub, List.replicate, List.cons_append, List.nil_append, List.append_nil, List.set_cons_zero, List.set_cons_succ, List.getElem?_cons_zero, List.getElem?_cons_succ, Option.some.injEq, V.int.injEq, V.bl.injEq, exists_eq_left', exists_eq_left, exists_and_left, tFor_eq, iRng1, iRng2, iRng3, iList, iEnum, iZip, iTup, tLst_eq, tTup_eq, rCat_eq, rCatS, rSum, rAppend_eq, rListOf, rSlL_eq, tSl, tNoPart, tPart, tLc_eq, tBM, rIxL, rIxT, min3_eq, rEq_int, rNe_int, min_if, max_if, and_assoc, V.ref.injEq, V.str.injEq, List.cons.injEq, and_true, true_and, ↓reduceIte, Bool.false_eq_true, Bool.not_true, Bool.not_false, Int.reduceToNat, Int.reducePow, Int.reduceAdd, Int.reduceSub, Int.reduceNeg, tVirt, tOff, tFld, sFld_eq, tMake_eq, rTupOf, iStr, rNe_str, rEq_str, rEq_bl, tRaise1, tFmt, tJs, tCallS, WE, wKeep_eq, reduceCtorEq, false_and, and_false, exists_false, or_false, false_or, tIsN, tNotN, decide_true, decide_false, tDictN]
    refine ⟨_, _, ck_mem cl d.kd, _, _, h1, is_no_field (by decide +kernel), a, d, y, rfl, im, rfl, ky, sm.1, sm.2.1, fun iy => ?_, fun iy => bad (by rw [show inB d y = false from iy, Bool.and_false])⟩
    rw [← hN1]
    clear hN1
    obtain ⟨i, rfl, i0, i1⟩ := whole_int ix
    obtain ⟨j, rfl, j0, j1⟩ := whole_int iy
    simp only [tSeq, tIfS, tOr, tAnd, tNot, tB, tTest, tCB, tCall, tCons, tVar, tNil, tC, tRet, tRetN, tNext, tAsg, gName, tDrop, tOp, tUn, tAug, ipI, tPar, tIf, tAndV, tOrV, tNotV, tChain, tNever, rI0, rI, rU, L2.start, cxK, List.map_cons, List.map_nil, List.length_cons, List.length_nil, Nat.reduceAdd, Nat.reduceSub, List.replicate, List.cons_append, List.nil_append, List.append_nil, List.set_cons_zero, List.set_cons_succ, List.getElem?_cons_zero, List.getElem?_cons_succ, Option.some.injEq, V.int.injEq, V.bl.injEq, exists_eq_left', exists_eq_left, exists_and_left, tFor_eq, iRng1, iRng2, iRng3, iList, iEnum, iZip, iTup, tLst_eq, tTup_eq, rCat_eq, rCatS, rSum, rAppend_eq, rListOf, rSlL_eq, tSl, tNoPart, tPart, tLc_eq, tBM, rIxL, rIxT, min3_eq, rEq_int, rNe_int, min_if, max_if, and_assoc, V.ref.injEq, V.str.injEq, List.cons.injEq, and_true, true_and, ↓reduceIte, Bool.false_eq_true, Bool.not_true, Bool.not_false, Int.reduceToNat, Int.reducePow, Int.reduceAdd, Int.reduceSub, Int.reduceNeg, tVirt, tOff, tFld, sFld_eq, tMake_eq, rTupOf, iStr, rNe_str, rEq_str, rEq_bl, tRaise1, tFmt, tJs, tCallS, WE, wKeep_eq, reduceCtorEq, false_and, and_false, exists_false, or_false, false_or, tIsN, tNotN, decide_true, decide_false, tDictN]
    exact ⟨_, _, ck_mem cl d.kd, _, _, h1, is_no_field (by decide +kernel), a, d, i, j, rfl, im, rfl, sm.2.2, good i j rfl rfl i0 i1 j0 j1⟩
theorem ok_Floor_taken (B : Bt mg cl) (MM : ∀ C ∈ cs4 cl, MC K C) (V_need_within : Virt P w K mg base (L2.CX P w) 3 "need_within" ["self", "place"] (ck4 cl) (sp_need_within K cl (cl 1))) (V_swept : Virt P w K mg base CX0 1 "swept" ["self", "ahead", "place"] (ck4 cl) (sp_swept cl)) {f : Addr} {fd : FuncData} (F : Fun K "taken" "Floor.taken" s_Floor_taken f fd) : FnOk P w K mg base (L2.CX P w) 4 f fd ["self", "ahead", "place"] (sp_taken K cl (cl 1) .floor) := by
  refine F.okX sc_Floor_taken (fun vs H Q E h => ?_) (fun cdv A outer s H vs Q E hr h => ?_)
  · obtain ⟨a, d, x, y, rfl, _⟩ := h
    rfl
  · obtain ⟨a, d, x, y, rfl, im, ek, sm, kx, ky, bad, good⟩ := h
    refine ⟨_, (pss_cons (ps_expr (pe_virt V_need_within (hr.mono (by decide)) (fun σ => passAt (takes_of rfl rfl rfl rfl) σ) (pv 0) (pa_cons (pv 1) pa_nil)))
      (pss_cons (ps_expr (pe_virt V_need_within (hr.mono (by decide)) (fun σ => passAt (takes_of rfl rfl rfl rfl) σ) (pv 0) (pa_cons (pv 2) pa_nil)))
      (pss_one (ps_ret (pe_virt (E := fun _ => E0) V_swept (hr.mono (by decide)) (fun _ => pass0At) (pv 0) (pa_cons (pv 1) (pa_cons (pv 2) pa_nil))))))), ?_⟩
    have M := MM _ (clsA_mem cl d.kd)
    obtain ⟨dx, t, h1, h2⟩ := id im
    refine cut_eq fun N1 hN1 => ?_
    simp only [tSeq, tIfS, tOr, tAnd, tNot, tB, tTest, tCB, tCall, tCons, tVar, tNil, tC, tRet, tRetN, tNext, tAsg, gName, tDrop, tOp, tUn, tAug, ipI, tPar, tIf, tAndV, tOrV, tNotV, tChain, tNever, rI0, rI, rU, L2.start, cxK, List.map_cons, List.map_nil, List.length_cons, List.length_nil, Nat.reduceAdd, Nat.reduceSub, List.replicate, List.cons_append, List.nil_append, List.append_nil, List.set_cons_zero, List.set_cons_succ, List.getElem?_cons_zero, List.getElem?_cons_succ, Option.some.injEq, V.int.injEq, V.bl.injEq, exists_eq_left', exists_eq_left, exists_and_left, tFor_eq, iRng1, iRng2, iRng3, iList, iEnum, iZip, iTup, tLst_eq, tTup_eq, rCat_eq, rCatS, rSum, rAppend_eq, rListOf, rSlL_eq, tSl, tNoPart, tPart, tLc_eq, tBM, rIxL, rIxT, min3_eq, rEq_int, rNe_int, min_if, max_if, and_assoc, V.ref.injEq, V.str.injEq, List.cons.injEq, and_true, true_and, ↓reduceIte, Bool.false_eq_true, Bool.not_true, Bool.not_false, Int.reduceToNat, Int.reducePow, Int.reduceAdd, Int.reduceSub, Int.reduceNeg, tVirt, tOff, tFld, sFld_eq, tMake_eq, rTupOf, iStr, rNe_str, rEq_str, rEq_bl, tRaise1, tFmt, tJs, tCallS, WE, wKeep_eq, reduceCtorEq, false_and, and_false, exists_false, or_false, false_or, tIsN, tNotN, decide_true, decide_false, tDictN]
    refine ⟨_, _, ck_mem cl d.kd, _, _, h1, is_no_field (by decide +kernel), a, d, x, rfl, im, rfl, kx, sm.1, sm.2.1, fun ix => ?_, fun ix => bad (by rw [show inB d x = false from ix]; rfl)⟩
    rw [← hN1]
    clear hN1
    refine cut_eq fun N1 hN1 => ?_
    simp only [tSeq, tIfS, tOr, tAnd, tNot, tB, tTest, tCB, tCall, tCons, tVar, tNil, tC, tRet, tRetN, tNext, tAsg, gName, tDrop, tOp, tUn, tAug, ipI, tPar, tIf, tAndV, tOrV, tNotV, tChain, tNever, rI0, rI, rU, L2.start, cxK, List.map_cons, List.map_nil, List.length_cons, List.length_nil, Nat.reduceAdd, Nat.reduceSub, List.replicate, List.cons_append, List.nil_append, List.append_nil, List.set_cons_zero, List.set_cons_succ, List.getElem?_cons_zero, List.getElem?_cons_succ, Option.some.injEq, V.int.injEq, V.bl.injEq, exists_eq_left', exists_eq_left, exists_and_left, tFor_eq, iRng1, iRng2, iRng3, iList, iEnum, iZip, iTup, tLst_eq, tTup_eq, rCat_eq, rCatS, rSum, rAppend_eq, rListOf, rSlL_eq, tSl, tNoPart, tPart, tLc_eq, tBM, rIxL, rIxT, min3_eq, rEq_int, rNe_int, min_if, max_if, and_assoc, V.ref.injEq, V.str.injEq, List.cons.injEq, and_true, true_and, ↓reduceIte, Bool.false_eq_true, Bool.not_true, Bool.not_false, Int.reduceToNat, Int.reducePow, Int.reduceAdd, Int.reduceSub, Int.reduceNeg, tVirt, tOff, tFld, sFld_eq, tMake_eq, rTupOf, iStr, rNe_str, rEq_str, rEq_bl, tRaise1, tFmt, tJs, tCallS, WE, wKeep_eq, reduceCtorEq, false_and, and_false, exists_false, or_false, false_or, tIsN, tNotN, decide_true, decide_false, tDictN]
    refine ⟨_, _, ck_mem cl d.kd, _, _, h1, is_no_field (by decide +kernel), a, d, y, rfl, im, rfl, ky, sm.1, sm.2.1, fun iy => ?_, fun iy => bad (by rw [show inB d y = false from iy, Bool.and_false])⟩
    rw [← hN1]
    clear hN1
    obtain ⟨i, rfl, i0, i1⟩ := whole_int ix
    obtain ⟨j, rfl, j0, j1⟩ := whole_int iy
    simp only [tSeq, tIfS, tOr, tAnd, tNot, tB, tTest, tCB, tCall, tCons, tVar, tNil, tC, tRet, tRetN, tNext, tAsg, gName, tDrop, tOp, tUn, tAug, ipI, tPar, tIf, tAndV, tOrV, tNotV, tChain, tNever, rI0, rI, rU, L2.start, cxK, List.map_cons, List.map_nil, List.length_cons, List.length_nil, Nat.reduceAdd, Nat.reduceSub, List.replicate, List.cons_append, List.nil_append, List.append_nil, List.set_cons_zero, List.set_cons_succ, List.getElem?_cons_zero, List.getElem?_cons_succ, Option.some.injEq, V.int.injEq, V.bl.injEq, exists_eq_left', exists_eq_left, exists_and_left, tFor_eq, iRng1, iRng2, iRng3, iList, iEnum, iZip, iTup, tLst_eq, tTup_eq, rCat_eq, rCatS, rSum, rAppend_eq, rListOf, rSlL_eq, tSl, tNoPart, tPart, tLc_eq, tBM, rIxL, rIxT, min3_eq, rEq_int, rNe_int, min_if, max_if, and_assoc, V.ref.injEq, V.str.injEq, List.cons.injEq, and_true, true_and, ↓reduceIte, Bool.false_eq_true, Bool.not_true, Bool.not_false, Int.reduceToNat, Int.reducePow, Int.reduceAdd, Int.reduceSub, Int.reduceNeg, tVirt, tOff, tFld, sFld_eq, tMake_eq, rTupOf, iStr, rNe_str, rEq_str, rEq_bl, tRaise1, tFmt, tJs, tCallS, WE, wKeep_eq, reduceCtorEq, false_and, and_false, exists_false, or_false, false_or, tIsN, tNotN, decide_true, decide_false, tDictN]
    exact ⟨_, _, ck_mem cl d.kd, _, _, h1, is_no_field (by decide +kernel), a, d, i, j, rfl, im, rfl, sm.2.2, good i j rfl rfl i0 i1 j0 j1⟩
theorem ok_Line_boxes (B : Bt mg cl) (V_taken : Virt P w K mg base (L2.CX P w) 4 "taken" ["self", "ahead", "place"] (ck4 cl) (sp_taken K cl (cl 1))) {f : Addr} {fd : FuncData} (F : Fun K "boxes" "Line.boxes" s_Line_boxes f fd) : FnOk P w K mg base (L2.CX P w) 5 f fd ["self", "place"] (fun vs H Q E => ∃ a x, vs = [.ref a, x] ∧ sp_taken K cl (cl 1) .line [.ref a, x, x] H Q E) := by
  refine F.okX sc_Line_boxes (fun vs H Q E h => ?_) (fun cdv A outer s H vs Q E hr h => ?_)
  · obtain ⟨a, x, rfl, _⟩ := h
    rfl
  · obtain ⟨a, x, rfl, sp⟩ := h
    refine ⟨_, (pss_one (ps_ret (pe_virt V_taken (hr.mono (by decide)) (fun σ => passAt (takes_of rfl rfl rfl rfl) σ) (pv 0) (pa_cons (pv 1) (pa_cons (pv 1) pa_nil))))), ?_⟩
    obtain ⟨_, d, _, _, e, im, ek, _⟩ := id sp
    cases e
    obtain ⟨dx, t, h1, _⟩ := id im
    simp only [tSeq, tIfS, tOr, tAnd, tNot, tB, tTest, tCB, tCall, tCons, tVar, tNil, tC, tRet, tRetN, tNext, tAsg, gName, tDrop, tOp, tUn, tAug, ipI, tPar, tIf, tAndV, tOrV, tNotV, tChain, tNever, rI0, rI, rU, L2.start, cxK, List.map_cons, List.map_nil, List.length_cons, List.length_nil, Nat.reduceAdd, Nat.reduceSub, List.replicate, List.cons_append, List.nil_append, List.append_nil, List.set_cons_zero, List.set_cons_succ, List.getElem?_cons_zero, List.getElem?_cons_succ, Option.some.injEq, V.int.injEq, V.bl.injEq, exists_eq_left', exists_eq_left, exists_and_left, tFor_eq, iRng1, iRng2, iRng3, iList, iEnum, iZip, iTup, tLst_eq, tTup_eq, rCat_eq, rCatS, rSum, rAppend_eq, rListOf, rSlL_eq, tSl, tNoPart, tPart, tLc_eq, tBM, rIxL, rIxT, min3_eq, rEq_int, rNe_int, min_if, max_if, and_assoc, V.ref.injEq, V.str.injEq, List.cons.injEq, and_true, true_and, ↓reduceIte, Bool.false_eq_true, Bool.not_true, Bool.not_false, Int.reduceToNat, Int.reducePow, Int.reduceAdd, Int.reduceSub, Int.reduceNeg, tVirt, tOff, tFld, sFld_eq, tMake_eq, rTupOf, iStr, rNe_str, rEq_str, rEq_bl, tRaise1, tFmt, tJs, tCallS, WE, wKeep_eq, reduceCtorEq, false_and, and_false, exists_false, or_false, false_or, tIsN, tNotN, decide_true, decide_false, tDictN]
    exact ⟨_, _, ek ▸ ck_mem cl d.kd, _, _, h1, is_no_field (by decide +kernel), sp⟩
theorem ok_Wagon_boxes (B : Bt mg cl) (V_taken : Virt P w K mg base (L2.CX P w) 4 "taken" ["self", "ahead", "place"] (ck4 cl) (sp_taken K cl (cl 1))) {f : Addr} {fd : FuncData} (F : Fun K "boxes" "Wagon.boxes" s_Wagon_boxes f fd) : FnOk P w K mg base (L2.CX P w) 5 f fd ["self", "place"] (fun vs H Q E => ∃ a x, vs = [.ref a, x] ∧ sp_taken K cl (cl 1) .wagon [.ref a, x, x] H Q E) := by
  refine F.okX sc_Wagon_boxes (fun vs H Q E h => ?_) (fun cdv A outer s H vs Q E hr h => ?_)
  · obtain ⟨a, x, rfl, _⟩ := h
    rfl
  · obtain ⟨a, x, rfl, sp⟩ := h
    refine ⟨_, (pss_one (ps_ret (pe_virt V_taken (hr.mono (by decide)) (fun σ => passAt (takes_of rfl rfl rfl rfl) σ) (pv 0) (pa_cons (pv 1) (pa_cons (pv 1) pa_nil))))), ?_⟩
    obtain ⟨_, d, _, _, e, im, ek, _⟩ := id sp
    cases e
    obtain ⟨dx, t, h1, _⟩ := id im
    simp only [tSeq, tIfS, tOr, tAnd, tNot, tB, tTest, tCB, tCall, tCons, tVar, tNil, tC, tRet, tRetN, tNext, tAsg, gName, tDrop, tOp, tUn, tAug, ipI, tPar, tIf, tAndV, tOrV, tNotV, tChain, tNever, rI0, rI, rU, L2.start, cxK, List.map_cons, List.map_nil, List.length_cons, List.length_nil, Nat.reduceAdd, Nat.reduceSub, List.replicate, List.cons_append, List.nil_append, List.append_nil, List.set_cons_zero, List.set_cons_succ, List.getElem?_cons_zero, List.getElem?_cons_succ, Option.some.injEq, V.int.injEq, V.bl.injEq, exists_eq_left', exists_eq_left, exists_and_left, tFor_eq, iRng1, iRng2, iRng3, iList, iEnum, iZip, iTup, tLst_eq, tTup_eq, rCat_eq, rCatS, rSum, rAppend_eq, rListOf, rSlL_eq, tSl, tNoPart, tPart, tLc_eq, tBM, rIxL, rIxT, min3_eq, rEq_int, rNe_int, min_if, max_if, and_assoc, V.ref.injEq, V.str.injEq, List.cons.injEq, and_true, true_and, ↓reduceIte, Bool.false_eq_true, Bool.not_true, Bool.not_false, Int.reduceToNat, Int.reducePow, Int.reduceAdd, Int.reduceSub, Int.reduceNeg, tVirt, tOff, tFld, sFld_eq, tMake_eq, rTupOf, iStr, rNe_str, rEq_str, rEq_bl, tRaise1, tFmt, tJs, tCallS, WE, wKeep_eq, reduceCtorEq, false_and, and_false, exists_false, or_false, false_or, tIsN, tNotN, decide_true, decide_false, tDictN]
    exact ⟨_, _, ek ▸ ck_mem cl d.kd, _, _, h1, is_no_field (by decide +kernel), sp⟩
theorem ok_Trap_boxes (B : Bt mg cl) (V_taken : Virt P w K mg base (L2.CX P w) 4 "taken" ["self", "ahead", "place"] (ck4 cl) (sp_taken K cl (cl 1))) {f : Addr} {fd : FuncData} (F : Fun K "boxes" "Trap.boxes" s_Trap_boxes f fd) : FnOk P w K mg base (L2.CX P w) 5 f fd ["self", "place"] (fun vs H Q E => ∃ a x, vs = [.ref a, x] ∧ sp_taken K cl (cl 1) .trap [.ref a, x, x] H Q E) := by
  refine F.okX sc_Trap_boxes (fun vs H Q E h => ?_) (fun cdv A outer s H vs Q E hr h => ?_)
  · obtain ⟨a, x, rfl, _⟩ := h
    rfl
  · obtain ⟨a, x, rfl, sp⟩ := h
    refine ⟨_, (pss_one (ps_ret (pe_virt V_taken (hr.mono (by decide)) (fun σ => passAt (takes_of rfl rfl rfl rfl) σ) (pv 0) (pa_cons (pv 1) (pa_cons (pv 1) pa_nil))))), ?_⟩
    obtain ⟨_, d, _, _, e, im, ek, _⟩ := id sp
    cases e
    obtain ⟨dx, t, h1, _⟩ := id im
    simp only [tSeq, tIfS, tOr, tAnd, tNot, tB, tTest, tCB, tCall, tCons, tVar, tNil, tC, tRet, tRetN, tNext, tAsg, gName, tDrop, tOp, tUn, tAug, ipI, tPar, tIf, tAndV, tOrV, tNotV, tChain, tNever, rI0, rI, rU, L2.start, cxK, List.map_cons, List.map_nil, List.length_cons, List.length_nil, Nat.reduceAdd, Nat.reduceSub, List.replicate, List.cons_append, List.nil_append, List.append_nil, List.set_cons_zero, List.set_cons_succ, List.getElem?_cons_zero, List.getElem?_cons_succ, Option.some.injEq, V.int.injEq, V.bl.injEq, exists_eq_left', exists_eq_left, exists_and_left, tFor_eq, iRng1, iRng2, iRng3, iList, iEnum, iZip, iTup, tLst_eq, tTup_eq, rCat_eq, rCatS, rSum, rAppend_eq, rListOf, rSlL_eq, tSl, tNoPart, tPart, tLc_eq, tBM, rIxL, rIxT, min3_eq, rEq_int, rNe_int, min_if, max_if, and_assoc, V.ref.injEq, V.str.injEq, List.cons.injEq, and_true, true_and, ↓reduceIte, Bool.false_eq_true, Bool.not_true, Bool.not_false, Int.reduceToNat, Int.reducePow, Int.reduceAdd, Int.reduceSub, Int.reduceNeg, tVirt, tOff, tFld, sFld_eq, tMake_eq, rTupOf, iStr, rNe_str, rEq_str, rEq_bl, tRaise1, tFmt, tJs, tCallS, WE, wKeep_eq, reduceCtorEq, false_and, and_false, exists_false, or_false, false_or, tIsN, tNotN, decide_true, decide_false, tDictN]
    exact ⟨_, _, ek ▸ ck_mem cl d.kd, _, _, h1, is_no_field (by decide +kernel), sp⟩
theorem ok_Floor_boxes (B : Bt mg cl) (V_taken : Virt P w K mg base (L2.CX P w) 4 "taken" ["self", "ahead", "place"] (ck4 cl) (sp_taken K cl (cl 1))) {f : Addr} {fd : FuncData} (F : Fun K "boxes" "Floor.boxes" s_Floor_boxes f fd) : FnOk P w K mg base (L2.CX P w) 5 f fd ["self", "place"] (fun vs H Q E => ∃ a x, vs = [.ref a, x] ∧ sp_taken K cl (cl 1) .floor [.ref a, x, x] H Q E) := by
  refine F.okX sc_Floor_boxes (fun vs H Q E h => ?_) (fun cdv A outer s H vs Q E hr h => ?_)
  · obtain ⟨a, x, rfl, _⟩ := h
    rfl
  · obtain ⟨a, x, rfl, sp⟩ := h
    refine ⟨_, (pss_one (ps_ret (pe_virt V_taken (hr.mono (by decide)) (fun σ => passAt (takes_of rfl rfl rfl rfl) σ) (pv 0) (pa_cons (pv 1) (pa_cons (pv 1) pa_nil))))), ?_⟩
    obtain ⟨_, d, _, _, e, im, ek, _⟩ := id sp
    cases e
    obtain ⟨dx, t, h1, _⟩ := id im
    simp only [tSeq, tIfS, tOr, tAnd, tNot, tB, tTest, tCB, tCall, tCons, tVar, tNil, tC, tRet, tRetN, tNext, tAsg, gName, tDrop, tOp, tUn, tAug, ipI, tPar, tIf, tAndV, tOrV, tNotV, tChain, tNever, rI0, rI, rU, L2.start, cxK, List.map_cons, List.map_nil, List.length_cons, List.length_nil, Nat.reduceAdd, Nat.reduceSub, List.replicate, List.cons_append, List.nil_append, List.append_nil, List.set_cons_zero, List.set_cons_succ, List.getElem?_cons_zero, List.getElem?_cons_succ, Option.some.injEq, V.int.injEq, V.bl.injEq, exists_eq_left', exists_eq_left, exists_and_left, tFor_eq, iRng1, iRng2, iRng3, iList, iEnum, iZip, iTup, tLst_eq, tTup_eq, rCat_eq, rCatS, rSum, rAppend_eq, rListOf, rSlL_eq, tSl, tNoPart, tPart, tLc_eq, tBM, rIxL, rIxT, min3_eq, rEq_int, rNe_int, min_if, max_if, and_assoc, V.ref.injEq, V.str.injEq, List.cons.injEq, and_true, true_and, ↓reduceIte, Bool.false_eq_true, Bool.not_true, Bool.not_false, Int.reduceToNat, Int.reducePow, Int.reduceAdd, Int.reduceSub, Int.reduceNeg, tVirt, tOff, tFld, sFld_eq, tMake_eq, rTupOf, iStr, rNe_str, rEq_str, rEq_bl, tRaise1, tFmt, tJs, tCallS, WE, wKeep_eq, reduceCtorEq, false_and, and_false, exists_false, or_false, false_or, tIsN, tNotN, decide_true, decide_false, tDictN]
    exact ⟨_, _, ek ▸ ck_mem cl d.kd, _, _, h1, is_no_field (by decide +kernel), sp⟩
end
end FW

set_option Elab.async false
set_option linter.all false
set_option maxRecDepth 100000
set_option maxHeartbeats 4000000
namespace FW
open PySem PySem.Spec PyProof.Rows L2 Evt
section
variable {P : Program} {w : World} {K : PySem.W.Frag} {mg : Str → Option Value} {base : Heap} {cl : Nat → Addr}
/-- the greatest of some numbers -/
def maxL : List Int → Int
  | [] => 0
  | x :: r => r.foldl max x
theorem fold_max : ∀ (r : List Int) (x : Int), x ≤ r.foldl max x ∧ (∀ y ∈ r, y ≤ r.foldl max x) ∧ (r.foldl max x = x ∨ r.foldl max x ∈ r)
  | [], x => ⟨Int.le_refl _, fun y h => (by cases h), .inl rfl⟩
  | z :: r, x => by
    obtain ⟨h1, h2, h3⟩ := fold_max r (max x z)
    show x ≤ r.foldl max (max x z) ∧ (∀ y ∈ z :: r, y ≤ r.foldl max (max x z)) ∧ (r.foldl max (max x z) = x ∨ r.foldl max (max x z) ∈ z :: r)
    refine ⟨by omega, fun y hy => ?_, ?_⟩
    · rcases List.mem_cons.mp hy with rfl | hy
      · omega
      · exact h2 y hy
    · rcases h3 with h3 | h3
      · by_cases c : x ≤ z
        · exact .inr (List.mem_cons.mpr (.inl (by omega)))
        · exact .inl (by omega)
      · exact .inr (List.mem_cons_of_mem _ h3)
theorem max_is {ns : List Int} {m : Int} (h : m ∈ ns) (h2 : ∀ y ∈ ns, y ≤ m) : maxL ns = m := by
  cases ns with
  | nil => cases h
  | cons x r =>
    obtain ⟨g1, g2, g3⟩ := fold_max r x
    show r.foldl max x = m
    have a : m ≤ r.foldl max x := by
      rcases List.mem_cons.mp h with rfl | h
      · exact g1
      · exact g2 m h
    have b : r.foldl max x ≤ m := by
      rcases g3 with g3 | g3
      · rw [g3]
        exact h2 x List.mem_cons_self
      · exact h2 _ (List.mem_cons_of_mem _ g3)
    omega
theorem gives_take {α : Type} (l : List α) (g : α → V) : ∀ n, gives (fun k => (l[k]?).map g) n = (l.take n).map g
  | 0 => rfl
  | n + 1 => by
    have h := gives_take l g n
    show gives _ n ++ ((l[n]?).map g).toList = _
    rw [h, List.take_succ, List.map_append]
    cases l[n]? <;> rfl
def wideM (d : Md) : Int := match d.kd with
  | .floor => maxL (d.walls.map fun w => w.2.1)
  | _ => d.wide
def offM (d : Md) : Int := match d.kd with
  | .floor => maxL (d.walls.map fun w => w.1)
  | _ => 0
def sp_wide (cl : Nat → Addr) : Kd → Sp := fun k vs H Q _ => ∃ (a : Addr) (d : Md), vs = [.ref a] ∧ IsM cl H a d ∧ d.kd = k ∧ d.walls.length < 100000 ∧ (k = .floor → d.walls ≠ []) ∧ RetV (.int (wideM d)) H Q
def sp_offset (cl : Nat → Addr) : Kd → Sp := fun k vs H Q _ => ∃ (a : Addr) (d : Md), vs = [.ref a] ∧ IsM cl H a d ∧ d.kd = k ∧ d.walls.length < 100000 ∧ (k = .floor → d.walls ≠ []) ∧ RetV (.int (offM d)) H Q
theorem ok_Line_wide (B : Bt mg cl) (MM : ∀ C ∈ cs4 cl, MC K C) {f : Addr} {fd : FuncData} (F : Fun K "wide" "Line.wide" s_Line_wide f fd) : FnOk P w K mg base CX0 1 f fd ["self"] (sp_wide cl .line) := by
  refine F.ok sc_Line_wide (fun vs H Q E h => ?_) (fun cdv A outer s H vs Q E hr h => ?_)
  · obtain ⟨a, d, rfl, _⟩ := h
    rfl
  · obtain ⟨a, d, rfl, im, ek, _, _, q⟩ := h
    refine ⟨_, (pss_one (ps_ret (k_fld (K := K) rfl (pv 0)))), ?_⟩
    obtain ⟨dx, t, h1, h2⟩ := im
    have M := MM _ (clsA_mem cl d.kd)
    unfold tailM at h1
    unfold wideM at q
    rw [ek] at h1 M q
    simp only [tSeq, tIfS, tOr, tAnd, tNot, tB, tTest, tCB, tCall, tCons, tVar, tNil, tC, tRet, tRetN, tNext, tAsg, gName, tDrop, tOp, tUn, tAug, ipI, tPar, tIf, tAndV, tOrV, tNotV, tChain, tNever, rI0, rI, rU, L2.start, cxK, List.map_cons, List.map_nil, List.length_cons, List.length_nil, Nat.reduceAdd, Nat.reduceSub, List.replicate, List.cons_append, List.nil_append, List.append_nil, List.set_cons_zero, List.set_cons_succ, List.getElem?_cons_zero, List.getElem?_cons_succ, Option.some.injEq, V.int.injEq, V.bl.injEq, exists_eq_left', exists_eq_left, exists_and_left, tFor_eq, iRng1, iRng2, iRng3, iList, iEnum, iZip, iTup, tLst_eq, tTup_eq, rCat_eq, rCatS, rSum, rAppend_eq, rListOf, rSlL_eq, tSl, tNoPart, tPart, tLc_eq, tBM, rIxL, rIxT, min3_eq, rEq_int, rNe_int, min_if, max_if, and_assoc, V.ref.injEq, V.str.injEq, List.cons.injEq, and_true, true_and, ↓reduceIte, Bool.false_eq_true, Bool.not_true, Bool.not_false, Int.reduceToNat, Int.reducePow, Int.reduceAdd, Int.reduceSub, Int.reduceNeg, tVirt, tOff, tFld, sFld_eq, tMake_eq, rTupOf, iStr, rNe_str, rEq_str, rEq_bl, tRaise1, tFmt, tJs, tCallS, WE, wKeep_eq, reduceCtorEq, false_and, and_false, exists_false, or_false, false_or, tIsN, tNotN, decide_true, decide_false, tDictN]
    exact ⟨_, _, _, h1, M.c, M.n_wide, _, rfl, q H (Ex.refl _)⟩
theorem ok_Line_offset (B : Bt mg cl) {f : Addr} {fd : FuncData} (F : Fun K "offset" "Line.offset" s_Line_offset f fd) : FnOk P w K mg base CX0 1 f fd ["self"] (sp_offset cl .line) := by
  refine F.ok sc_Line_offset (fun vs H Q E h => ?_) (fun cdv A outer s H vs Q E hr h => ?_)
  · obtain ⟨a, d, rfl, _⟩ := h
    rfl
  · obtain ⟨a, d, rfl, im, ek, _, _, q⟩ := h
    refine ⟨_, (pss_one (ps_ret pe_int)), ?_⟩
    unfold offM at q
    rw [ek] at q
    simp only [tSeq, tIfS, tOr, tAnd, tNot, tB, tTest, tCB, tCall, tCons, tVar, tNil, tC, tRet, tRetN, tNext, tAsg, gName, tDrop, tOp, tUn, tAug, ipI, tPar, tIf, tAndV, tOrV, tNotV, tChain, tNever, rI0, rI, rU, L2.start, cxK, List.map_cons, List.map_nil, List.length_cons, List.length_nil, Nat.reduceAdd, Nat.reduceSub, List.replicate, List.cons_append, List.nil_append, List.append_nil, List.set_cons_zero, List.set_cons_succ, List.getElem?_cons_zero, List.getElem?_cons_succ, Option.some.injEq, V.int.injEq, V.bl.injEq, exists_eq_left', exists_eq_left, exists_and_left, tFor_eq, iRng1, iRng2, iRng3, iList, iEnum, iZip, iTup, tLst_eq, tTup_eq, rCat_eq, rCatS, rSum, rAppend_eq, rListOf, rSlL_eq, tSl, tNoPart, tPart, tLc_eq, tBM, rIxL, rIxT, min3_eq, rEq_int, rNe_int, min_if, max_if, and_assoc, V.ref.injEq, V.str.injEq, List.cons.injEq, and_true, true_and, ↓reduceIte, Bool.false_eq_true, Bool.not_true, Bool.not_false, Int.reduceToNat, Int.reducePow, Int.reduceAdd, Int.reduceSub, Int.reduceNeg, tVirt, tOff, tFld, sFld_eq, tMake_eq, rTupOf, iStr, rNe_str, rEq_str, rEq_bl, tRaise1, tFmt, tJs, tCallS, WE, wKeep_eq, reduceCtorEq, false_and, and_false, exists_false, or_false, false_or, tIsN, tNotN, decide_true, decide_false, tDictN]
    exact q H (Ex.refl _)
theorem ok_Wagon_wide (B : Bt mg cl) (MM : ∀ C ∈ cs4 cl, MC K C) {f : Addr} {fd : FuncData} (F : Fun K "wide" "Wagon.wide" s_Wagon_wide f fd) : FnOk P w K mg base CX0 1 f fd ["self"] (sp_wide cl .wagon) := by
  refine F.ok sc_Wagon_wide (fun vs H Q E h => ?_) (fun cdv A outer s H vs Q E hr h => ?_)
  · obtain ⟨a, d, rfl, _⟩ := h
    rfl
  · obtain ⟨a, d, rfl, im, ek, _, _, q⟩ := h
    refine ⟨_, (pss_one (ps_ret (k_fld (K := K) rfl (pv 0)))), ?_⟩
    obtain ⟨dx, t, h1, h2⟩ := im
    have M := MM _ (clsA_mem cl d.kd)
    unfold tailM at h1
    unfold wideM at q
    rw [ek] at h1 M q
    simp only [tSeq, tIfS, tOr, tAnd, tNot, tB, tTest, tCB, tCall, tCons, tVar, tNil, tC, tRet, tRetN, tNext, tAsg, gName, tDrop, tOp, tUn, tAug, ipI, tPar, tIf, tAndV, tOrV, tNotV, tChain, tNever, rI0, rI, rU, L2.start, cxK, List.map_cons, List.map_nil, List.length_cons, List.length_nil, Nat.reduceAdd, Nat.reduceSub, List.replicate, List.cons_append, List.nil_append, List.append_nil, List.set_cons_zero, List.set_cons_succ, List.getElem?_cons_zero, List.getElem?_cons_succ, Option.some.injEq, V.int.injEq, V.bl.injEq, exists_eq_left', exists_eq_left, exists_and_left, tFor_eq, iRng1, iRng2, iRng3, iList, iEnum, iZip, iTup, tLst_eq, tTup_eq, rCat_eq, rCatS, rSum, rAppend_eq, rListOf, rSlL_eq, tSl, tNoPart, tPart, tLc_eq, tBM, rIxL, rIxT, min3_eq, rEq_int, rNe_int, min_if, max_if, and_assoc, V.ref.injEq, V.str.injEq, List.cons.injEq, and_true, true_and, ↓reduceIte, Bool.false_eq_true, Bool.not_true, Bool.not_false, Int.reduceToNat, Int.reducePow, Int.reduceAdd, Int.reduceSub, Int.reduceNeg, tVirt, tOff, tFld, sFld_eq, tMake_eq, rTupOf, iStr, rNe_str, rEq_str, rEq_bl, tRaise1, tFmt, tJs, tCallS, WE, wKeep_eq, reduceCtorEq, false_and, and_false, exists_false, or_false, false_or, tIsN, tNotN, decide_true, decide_false, tDictN]
    exact ⟨_, _, _, h1, M.c, M.n_wide, _, rfl, q H (Ex.refl _)⟩
theorem ok_Wagon_offset (B : Bt mg cl) {f : Addr} {fd : FuncData} (F : Fun K "offset" "Wagon.offset" s_Wagon_offset f fd) : FnOk P w K mg base CX0 1 f fd ["self"] (sp_offset cl .wagon) := by
  refine F.ok sc_Wagon_offset (fun vs H Q E h => ?_) (fun cdv A outer s H vs Q E hr h => ?_)
  · obtain ⟨a, d, rfl, _⟩ := h
    rfl
  · obtain ⟨a, d, rfl, im, ek, _, _, q⟩ := h
    refine ⟨_, (pss_one (ps_ret pe_int)), ?_⟩
    unfold offM at q
    rw [ek] at q
    simp only [tSeq, tIfS, tOr, tAnd, tNot, tB, tTest, tCB, tCall, tCons, tVar, tNil, tC, tRet, tRetN, tNext, tAsg, gName, tDrop, tOp, tUn, tAug, ipI, tPar, tIf, tAndV, tOrV, tNotV, tChain, tNever, rI0, rI, rU, L2.start, cxK, List.map_cons, List.map_nil, List.length_cons, List.length_nil, Nat.reduceAdd, Nat.reduceSub, List.replicate, List.cons_append, List.nil_append, List.append_nil, List.set_cons_zero, List.set_cons_succ, List.getElem?_cons_zero, List.getElem?_cons_succ, Option.some.injEq, V.int.injEq, V.bl.injEq, exists_eq_left', exists_eq_left, exists_and_left, tFor_eq, iRng1, iRng2, iRng3, iList, iEnum, iZip, iTup, tLst_eq, tTup_eq, rCat_eq, rCatS, rSum, rAppend_eq, rListOf, rSlL_eq, tSl, tNoPart, tPart, tLc_eq, tBM, rIxL, rIxT, min3_eq, rEq_int, rNe_int, min_if, max_if, and_assoc, V.ref.injEq, V.str.injEq, List.cons.injEq, and_true, true_and, ↓reduceIte, Bool.false_eq_true, Bool.not_true, Bool.not_false, Int.reduceToNat, Int.reducePow, Int.reduceAdd, Int.reduceSub, Int.reduceNeg, tVirt, tOff, tFld, sFld_eq, tMake_eq, rTupOf, iStr, rNe_str, rEq_str, rEq_bl, tRaise1, tFmt, tJs, tCallS, WE, wKeep_eq, reduceCtorEq, false_and, and_false, exists_false, or_false, false_or, tIsN, tNotN, decide_true, decide_false, tDictN]
    exact q H (Ex.refl _)
theorem ok_Trap_wide (B : Bt mg cl) (MM : ∀ C ∈ cs4 cl, MC K C) {f : Addr} {fd : FuncData} (F : Fun K "wide" "Trap.wide" s_Trap_wide f fd) : FnOk P w K mg base CX0 1 f fd ["self"] (sp_wide cl .trap) := by
  refine F.ok sc_Trap_wide (fun vs H Q E h => ?_) (fun cdv A outer s H vs Q E hr h => ?_)
  · obtain ⟨a, d, rfl, _⟩ := h
    rfl
  · obtain ⟨a, d, rfl, im, ek, _, _, q⟩ := h
    refine ⟨_, (pss_one (ps_ret (k_fld (K := K) rfl (pv 0)))), ?_⟩
    obtain ⟨dx, t, h1, h2⟩ := im
    have M := MM _ (clsA_mem cl d.kd)
    unfold tailM at h1
    unfold wideM at q
    rw [ek] at h1 M q
    simp only [tSeq, tIfS, tOr, tAnd, tNot, tB, tTest, tCB, tCall, tCons, tVar, tNil, tC, tRet, tRetN, tNext, tAsg, gName, tDrop, tOp, tUn, tAug, ipI, tPar, tIf, tAndV, tOrV, tNotV, tChain, tNever, rI0, rI, rU, L2.start, cxK, List.map_cons, List.map_nil, List.length_cons, List.length_nil, Nat.reduceAdd, Nat.reduceSub, List.replicate, List.cons_append, List.nil_append, List.append_nil, List.set_cons_zero, List.set_cons_succ, List.getElem?_cons_zero, List.getElem?_cons_succ, Option.some.injEq, V.int.injEq, V.bl.injEq, exists_eq_left', exists_eq_left, exists_and_left, tFor_eq, iRng1, iRng2, iRng3, iList, iEnum, iZip, iTup, tLst_eq, tTup_eq, rCat_eq, rCatS, rSum, rAppend_eq, rListOf, rSlL_eq, tSl, tNoPart, tPart, tLc_eq, tBM, rIxL, rIxT, min3_eq, rEq_int, rNe_int, min_if, max_if, and_assoc, V.ref.injEq, V.str.injEq, List.cons.injEq, and_true, true_and, ↓reduceIte, Bool.false_eq_true, Bool.not_true, Bool.not_false, Int.reduceToNat, Int.reducePow, Int.reduceAdd, Int.reduceSub, Int.reduceNeg, tVirt, tOff, tFld, sFld_eq, tMake_eq, rTupOf, iStr, rNe_str, rEq_str, rEq_bl, tRaise1, tFmt, tJs, tCallS, WE, wKeep_eq, reduceCtorEq, false_and, and_false, exists_false, or_false, false_or, tIsN, tNotN, decide_true, decide_false, tDictN]
    exact ⟨_, _, _, h1, M.c, M.n_wide, _, rfl, q H (Ex.refl _)⟩
theorem ok_Trap_offset (B : Bt mg cl) {f : Addr} {fd : FuncData} (F : Fun K "offset" "Trap.offset" s_Trap_offset f fd) : FnOk P w K mg base CX0 1 f fd ["self"] (sp_offset cl .trap) := by
  refine F.ok sc_Trap_offset (fun vs H Q E h => ?_) (fun cdv A outer s H vs Q E hr h => ?_)
  · obtain ⟨a, d, rfl, _⟩ := h
    rfl
  · obtain ⟨a, d, rfl, im, ek, _, _, q⟩ := h
    refine ⟨_, (pss_one (ps_ret pe_int)), ?_⟩
    unfold offM at q
    rw [ek] at q
    simp only [tSeq, tIfS, tOr, tAnd, tNot, tB, tTest, tCB, tCall, tCons, tVar, tNil, tC, tRet, tRetN, tNext, tAsg, gName, tDrop, tOp, tUn, tAug, ipI, tPar, tIf, tAndV, tOrV, tNotV, tChain, tNever, rI0, rI, rU, L2.start, cxK, List.map_cons, List.map_nil, List.length_cons, List.length_nil, Nat.reduceAdd, Nat.reduceSub, List.replicate, List.cons_append, List.nil_append, List.append_nil, List.set_cons_zero, List.set_cons_succ, List.getElem?_cons_zero, List.getElem?_cons_succ, Option.some.injEq, V.int.injEq, V.bl.injEq, exists_eq_left', exists_eq_left, exists_and_left, tFor_eq, iRng1, iRng2, iRng3, iList, iEnum, iZip, iTup, tLst_eq, tTup_eq, rCat_eq, rCatS, rSum, rAppend_eq, rListOf, rSlL_eq, tSl, tNoPart, tPart, tLc_eq, tBM, rIxL, rIxT, min3_eq, rEq_int, rNe_int, min_if, max_if, and_assoc, V.ref.injEq, V.str.injEq, List.cons.injEq, and_true, true_and, ↓reduceIte, Bool.false_eq_true, Bool.not_true, Bool.not_false, Int.reduceToNat, Int.reducePow, Int.reduceAdd, Int.reduceSub, Int.reduceNeg, tVirt, tOff, tFld, sFld_eq, tMake_eq, rTupOf, iStr, rNe_str, rEq_str, rEq_bl, tRaise1, tFmt, tJs, tCallS, WE, wKeep_eq, reduceCtorEq, false_and, and_false, exists_false, or_false, false_or, tIsN, tNotN, decide_true, decide_false, tDictN]
    exact q H (Ex.refl _)
theorem ok_Floor_wide (B : Bt mg cl) (MM : ∀ C ∈ cs4 cl, MC K C) {f : Addr} {fd : FuncData} (F : Fun K "wide" "Floor.wide" s_Floor_wide f fd) : FnOk P w K mg base CX0 1 f fd ["self"] (sp_wide cl .floor) := by
  refine F.ok sc_Floor_wide (fun vs H Q E h => ?_) (fun cdv A outer s H vs Q E hr h => ?_)
  · obtain ⟨a, d, rfl, _⟩ := h
    rfl
  · obtain ⟨a, d, rfl, im, ek, wsm, wne, q⟩ := h
    have wne := wne rfl
    refine ⟨_, (pss_one (ps_ret (pe_callB (k_max (K := K) rfl (by rfl)) (by rfl) B.b_max (by decide +kernel) (pa_cons (pe_lc (own := [("offset", 1), ("wide", 2), ("tall", 3)]) (g := gTup K 3 (gCons (gName 1) (gCons (gName 2) (gCons (gName 3) gNil)))) (tt := tYes) (by rfl) sc_Floor_wide.nd (k_pit (K := K) rfl (k_fld (K := K) rfl (pv 0))) (blkOk_by (own := [("offset", 1), ("wide", 2), ("tall", 3)]) (N := ["self", "offset", "wide", "tall"]) (sc := defScope s_Floor_wide) (by decide +kernel)) (fun _ _ _ _ _ => (k_pgt (K := K) (n := 3) rfl rfl (pgs_cons (pg_name (i := 1) sc_Floor_wide.nd rfl (.inl rfl)) (pgs_cons (pg_name (i := 2) sc_Floor_wide.nd rfl (.inl rfl)) (pgs_cons (pg_name (i := 3) sc_Floor_wide.nd rfl (.inl rfl)) pgs_nil))))) (fun _ _ _ _ _ => pts_nil) (fun _ _ _ _ _ => (pv 2))) pa_nil)))), ?_⟩
    obtain ⟨dx, t, h1, h2⟩ := im
    obtain ⟨ys, hy, tw⟩ := h2 ek
    have hlen := tw.1
    have M := MM _ (clsA_mem cl d.kd)
    unfold tailM at h1
    unfold wideM at q
    rw [ek] at h1 M q
    simp only [tSeq, tIfS, tOr, tAnd, tNot, tB, tTest, tCB, tCall, tCons, tVar, tNil, tC, tRet, tRetN, tNext, tAsg, gName, tDrop, tOp, tUn, tAug, ipI, tPar, tIf, tAndV, tOrV, tNotV, tChain, tNever, rI0, rI, rU, L2.start, cxK, List.map_cons, List.map_nil, List.length_cons, List.length_nil, Nat.reduceAdd, Nat.reduceSub, List.replicate, List.cons_append, List.nil_append, List.append_nil, List.set_cons_zero, List.set_cons_succ, List.getElem?_cons_zero, List.getElem?_cons_succ, Option.some.injEq, V.int.injEq, V.bl.injEq, exists_eq_left', exists_eq_left, exists_and_left, tFor_eq, iRng1, iRng2, iRng3, iList, iEnum, iZip, iTup, tLst_eq, tTup_eq, rCat_eq, rCatS, rSum, rAppend_eq, rListOf, rSlL_eq, tSl, tNoPart, tPart, tLc_eq, tBM, rIxL, rIxT, min3_eq, rEq_int, rNe_int, min_if, max_if, and_assoc, V.ref.injEq, V.str.injEq, List.cons.injEq, and_true, true_and, ↓reduceIte, Bool.false_eq_true, Bool.not_true, Bool.not_false, Int.reduceToNat, Int.reducePow, Int.reduceAdd, Int.reduceSub, Int.reduceNeg, tVirt, tOff, tFld, sFld_eq, tMake_eq, rTupOf, iStr, rNe_str, rEq_str, rEq_bl, tRaise1, tFmt, tJs, tCallS, WE, wKeep_eq, reduceCtorEq, false_and, and_false, exists_false, or_false, false_or, tIsN, tNotN, decide_true, decide_false, tDictN]
    refine ⟨_, _, _, h1, M.c, M.n_walls, _, rfl, ?_⟩
    refine ⟨_, rfl, ⟨_, st_of hy⟩, fun Dl hD => lc_gives (walk_tup (xs := ys)) (fun k => (d.walls[k]?).map fun w => V.int w.2.1) hD (fun H' e => st_of (e _ _ hy)) ?_ ?_⟩
    · rintro k x H0 H' hi e0 h0 ⟨rfl, hx⟩
      obtain ⟨wl, hw⟩ : ∃ wl, d.walls[k]? = some wl := ⟨d.walls[k]'(by rw [← hlen]; exact hi), List.getElem?_eq_getElem (by rw [← hlen]; exact hi)⟩
      obtain ⟨b, rfl, hb⟩ := tw.2 k x wl hx hw
      refine ⟨b, wlV wl, rfl, st_of (e0 _ _ hb), rfl, ?_⟩
      simp only [tSeq, tIfS, tOr, tAnd, tNot, tB, tTest, tCB, tCall, tCons, tVar, tNil, tC, tRet, tRetN, tNext, tAsg, gName, tDrop, tOp, tUn, tAug, ipI, tPar, tIf, tAndV, tOrV, tNotV, tChain, tNever, rI0, rI, rU, L2.start, cxK, List.map_cons, List.map_nil, List.length_cons, List.length_nil, Nat.reduceAdd, Nat.reduceSub, List.replicate, List.cons_append, List.nil_append, List.append_nil, List.set_cons_zero, List.set_cons_succ, List.getElem?_cons_zero, List.getElem?_cons_succ, Option.some.injEq, V.int.injEq, V.bl.injEq, exists_eq_left', exists_eq_left, exists_and_left, tFor_eq, iRng1, iRng2, iRng3, iList, iEnum, iZip, iTup, tLst_eq, tTup_eq, rCat_eq, rCatS, rSum, rAppend_eq, rListOf, rSlL_eq, tSl, tNoPart, tPart, tLc_eq, tBM, rIxL, rIxT, min3_eq, rEq_int, rNe_int, min_if, max_if, and_assoc, V.ref.injEq, V.str.injEq, List.cons.injEq, and_true, true_and, ↓reduceIte, Bool.false_eq_true, Bool.not_true, Bool.not_false, Int.reduceToNat, Int.reducePow, Int.reduceAdd, Int.reduceSub, Int.reduceNeg, tVirt, tOff, tFld, sFld_eq, tMake_eq, rTupOf, iStr, rNe_str, rEq_str, rEq_bl, tRaise1, tFmt, tJs, tCallS, WE, wKeep_eq, reduceCtorEq, false_and, and_false, exists_false, or_false, false_or, tIsN, tNotN, decide_true, decide_false, tDictN, gCons, gNil, wlV, wipe, tYes]
      exact put_of hD e0 h0 (sz_lt (by omega)) (by rw [hw]; rfl)
    · intro H9 e9 h9
      rw [gives_take, List.take_of_length_le (by omega)] at h9
      have e2 : d.walls.map (fun w => V.int w.2.1) = (d.walls.map fun w => w.2.1).map V.int := by
        rw [List.map_map]
        rfl
      rw [e2] at h9
      refine ⟨_, _, rfl, sq_of h9, ?_, fun mx h1 h2 => ?_⟩
      · rw [List.length_map]
        exact List.length_pos_iff.mpr wne
      · have := max_is h1 h2
        dsimp only at q
        rw [this] at q
        exact q H9 e9
theorem ok_Floor_offset (B : Bt mg cl) (MM : ∀ C ∈ cs4 cl, MC K C) {f : Addr} {fd : FuncData} (F : Fun K "offset" "Floor.offset" s_Floor_offset f fd) : FnOk P w K mg base CX0 1 f fd ["self"] (sp_offset cl .floor) := by
  refine F.ok sc_Floor_offset (fun vs H Q E h => ?_) (fun cdv A outer s H vs Q E hr h => ?_)
  · obtain ⟨a, d, rfl, _⟩ := h
    rfl
  · obtain ⟨a, d, rfl, im, ek, wsm, wne, q⟩ := h
    have wne := wne rfl
    refine ⟨_, (pss_one (ps_ret (pe_callB (k_max (K := K) rfl (by rfl)) (by rfl) B.b_max (by decide +kernel) (pa_cons (pe_lc (own := [("offset", 1), ("wide", 2), ("tall", 3)]) (g := gTup K 3 (gCons (gName 1) (gCons (gName 2) (gCons (gName 3) gNil)))) (tt := tYes) (by rfl) sc_Floor_offset.nd (k_pit (K := K) rfl (k_fld (K := K) rfl (pv 0))) (blkOk_by (own := [("offset", 1), ("wide", 2), ("tall", 3)]) (N := ["self", "offset", "wide", "tall"]) (sc := defScope s_Floor_offset) (by decide +kernel)) (fun _ _ _ _ _ => (k_pgt (K := K) (n := 3) rfl rfl (pgs_cons (pg_name (i := 1) sc_Floor_offset.nd rfl (.inl rfl)) (pgs_cons (pg_name (i := 2) sc_Floor_offset.nd rfl (.inl rfl)) (pgs_cons (pg_name (i := 3) sc_Floor_offset.nd rfl (.inl rfl)) pgs_nil))))) (fun _ _ _ _ _ => pts_nil) (fun _ _ _ _ _ => (pv 1))) pa_nil)))), ?_⟩
    obtain ⟨dx, t, h1, h2⟩ := im
    obtain ⟨ys, hy, tw⟩ := h2 ek
    have hlen := tw.1
    have M := MM _ (clsA_mem cl d.kd)
    unfold tailM at h1
    unfold offM at q
    rw [ek] at h1 M q
    simp only [tSeq, tIfS, tOr, tAnd, tNot, tB, tTest, tCB, tCall, tCons, tVar, tNil, tC, tRet, tRetN, tNext, tAsg, gName, tDrop, tOp, tUn, tAug, ipI, tPar, tIf, tAndV, tOrV, tNotV, tChain, tNever, rI0, rI, rU, L2.start, cxK, List.map_cons, List.map_nil, List.length_cons, List.length_nil, Nat.reduceAdd, Nat.reduceSub, List.replicate, List.cons_append, List.nil_append, List.append_nil, List.set_cons_zero, List.set_cons_succ, List.getElem?_cons_zero, List.getElem?_cons_succ, Option.some.injEq, V.int.injEq, V.bl.injEq, exists_eq_left', exists_eq_left, exists_and_left, tFor_eq, iRng1, iRng2, iRng3, iList, iEnum, iZip, iTup, tLst_eq, tTup_eq, rCat_eq, rCatS, rSum, rAppend_eq, rListOf, rSlL_eq, tSl, tNoPart, tPart, tLc_eq, tBM, rIxL, rIxT, min3_eq, rEq_int, rNe_int, min_if, max_if, and_assoc, V.ref.injEq, V.str.injEq, List.cons.injEq, and_true, true_and, ↓reduceIte, Bool.false_eq_true, Bool.not_true, Bool.not_false, Int.reduceToNat, Int.reducePow, Int.reduceAdd, Int.reduceSub, Int.reduceNeg, tVirt, tOff, tFld, sFld_eq, tMake_eq, rTupOf, iStr, rNe_str, rEq_str, rEq_bl, tRaise1, tFmt, tJs, tCallS, WE, wKeep_eq, reduceCtorEq, false_and, and_false, exists_false, or_false, false_or, tIsN, tNotN, decide_true, decide_false, tDictN]
    refine ⟨_, _, _, h1, M.c, M.n_walls, _, rfl, ?_⟩
    refine ⟨_, rfl, ⟨_, st_of hy⟩, fun Dl hD => lc_gives (walk_tup (xs := ys)) (fun k => (d.walls[k]?).map fun w => V.int w.1) hD (fun H' e => st_of (e _ _ hy)) ?_ ?_⟩
    · rintro k x H0 H' hi e0 h0 ⟨rfl, hx⟩
      obtain ⟨wl, hw⟩ : ∃ wl, d.walls[k]? = some wl := ⟨d.walls[k]'(by rw [← hlen]; exact hi), List.getElem?_eq_getElem (by rw [← hlen]; exact hi)⟩
      obtain ⟨b, rfl, hb⟩ := tw.2 k x wl hx hw
      refine ⟨b, wlV wl, rfl, st_of (e0 _ _ hb), rfl, ?_⟩
      simp only [tSeq, tIfS, tOr, tAnd, tNot, tB, tTest, tCB, tCall, tCons, tVar, tNil, tC, tRet, tRetN, tNext, tAsg, gName, tDrop, tOp, tUn, tAug, ipI, tPar, tIf, tAndV, tOrV, tNotV, tChain, tNever, rI0, rI, rU, L2.start, cxK, List.map_cons, List.map_nil, List.length_cons, List.length_nil, Nat.reduceAdd, Nat.reduceSub, List.replicate, List.cons_append, List.nil_append, List.append_nil, List.set_cons_zero, List.set_cons_succ, List.getElem?_cons_zero, List.getElem?_cons_succ, Option.some.injEq, V.int.injEq, V.bl.injEq, exists_eq_left', exists_eq_left, exists_and_left, tFor_eq, iRng1, iRng2, iRng3, iList, iEnum, iZip, iTup, tLst_eq, tTup_eq, rCat_eq, rCatS, rSum, rAppend_eq, rListOf, rSlL_eq, tSl, tNoPart, tPart, tLc_eq, tBM, rIxL, rIxT, min3_eq, rEq_int, rNe_int, min_if, max_if, and_assoc, V.ref.injEq, V.str.injEq, List.cons.injEq, and_true, true_and, ↓reduceIte, Bool.false_eq_true, Bool.not_true, Bool.not_false, Int.reduceToNat, Int.reducePow, Int.reduceAdd, Int.reduceSub, Int.reduceNeg, tVirt, tOff, tFld, sFld_eq, tMake_eq, rTupOf, iStr, rNe_str, rEq_str, rEq_bl, tRaise1, tFmt, tJs, tCallS, WE, wKeep_eq, reduceCtorEq, false_and, and_false, exists_false, or_false, false_or, tIsN, tNotN, decide_true, decide_false, tDictN, gCons, gNil, wlV, wipe, tYes]
      exact put_of hD e0 h0 (sz_lt (by omega)) (by rw [hw]; rfl)
    · intro H9 e9 h9
      rw [gives_take, List.take_of_length_le (by omega)] at h9
      have e2 : d.walls.map (fun w => V.int w.1) = (d.walls.map fun w => w.1).map V.int := by
        rw [List.map_map]
        rfl
      rw [e2] at h9
      refine ⟨_, _, rfl, sq_of h9, ?_, fun mx h1 h2 => ?_⟩
      · rw [List.length_map]
        exact List.length_pos_iff.mpr wne
      · have := max_is h1 h2
        dsimp only at q
        rw [this] at q
        exact q H9 e9
end
end FW

set_option Elab.async false
set_option linter.all false
set_option maxRecDepth 100000
set_option maxHeartbeats 4000000
namespace L2
open PySem PySem.Spec PyProof.Rows Evt
def rJoin (K : PySem.W.Frag) : V → List V → Hp → VK → Prop := fun x xs H Q => ∃ a p, ∃ ys : List Str, x = .str a ∧ xs = [.ref p] ∧ (SqL K H p (ys.map V.str) ∨ SqT K H p (ys.map V.str)) ∧ (ys.map (·.length)).sum + ys.length * a.length ≤ 16777216 ∧ Q (.str (Txt.join a ys)) H
theorem k_join {X : Cx} {K : PySem.W.Frag} (hK : X.K = K) : MtR X "str.join" (rJoin K) := hK ▸ mt_join
theorem join_len (y : Str) : ∀ ps : List Str, (Str.join y ps).length ≤ (ps.map (·.length)).sum + ps.length * y.length
  | [] => Nat.zero_le _
  | [x] => by
    show x.length ≤ (x.length + 0) + (0 + 1) * y.length
    omega
  | x :: z :: r => by
    have ih := join_len y (z :: r)
    show (x ++ y ++ Str.join y (z :: r)).length ≤ (x.length + ((z :: r).map (·.length)).sum) + ((z :: r).length + 1) * y.length
    rw [str_len, str_len, Nat.add_mul]
    omega
/-- the parts of an f-string, each a text of the heap as it stands -/
inductive JPs (σ : St) (H : Hp) : List TE → List Str → Prop
  | nil : JPs σ H [] []
  | cons {t : TE} {y : Str} {ts : List TE} {ys : List Str} (h : ∀ R : VK, R (.str y) H → t σ H R) (r : JPs σ H ts ys) : JPs σ H (t :: ts) (y :: ys)
theorem js_all {σ : St} {H : Hp} {ts : List TE} {ys : List Str} (j : JPs σ H ts ys) : ∀ {acc : Str} {Q : Str → Hp → Prop}, acc.length + (ys.map (·.length)).sum ≤ sizeLine → Q (ys.foldl (· ++ ·) acc) H → tJs ts acc σ H Q := by
  induction j with
  | nil => exact fun _ q => q
  | @cons t y ts ys h _ ih =>
    intro acc Q hl q
    rw [List.map_cons, List.sum_cons] at hl
    have e : (acc ++ y).length = acc.length + y.length := str_len acc y
    exact h _ ⟨y, rfl, by omega, ih (by omega) q⟩
theorem jp_c {σ : St} {H : Hp} {y : Str} : ∀ R : VK, R (.str y) H → tC (.str y) σ H R := fun _ r => r
section
variable {K : PySem.W.Frag} {σ : St} {H : Hp} {a C dx : Addr} {fs : List (Str × V)} {f : Str}
theorem jp_int {i : Int} {j : Nat} (hσ : σ[j]? = some (some (.ref a))) (h1 : H a = some (.ins C dx fs)) (c : Cls K C) (n : NoAttr K C f) (l : fs.lookup f = some (.int i)) (b : i.natAbs.log2 < 1920) : ∀ R : VK, R (.str (Str.ofString (toString i))) H → tFmt (tFld K (tVar j) f) σ H R :=
  fun _ r => ⟨_, hσ, a, C, dx, fs, _, rfl, h1, c, n, l, .inr ⟨i, rfl, b, r⟩⟩
theorem jp_str {y : Str} {j : Nat} (hσ : σ[j]? = some (some (.ref a))) (h1 : H a = some (.ins C dx fs)) (c : Cls K C) (n : NoAttr K C f) (l : fs.lookup f = some (.str y)) (b : y.length ≤ sizeLine) : ∀ R : VK, R (.str y) H → tFmt (tFld K (tVar j) f) σ H R :=
  fun _ r => ⟨_, hσ, a, C, dx, fs, _, rfl, h1, c, n, l, .inl ⟨y, rfl, b, r⟩⟩
theorem jp_var {y : Str} {j : Nat} (hσ : σ[j]? = some (some (.str y))) (b : y.length ≤ sizeLine) : ∀ R : VK, R (.str y) H → tFmt (tVar j) σ H R := fun _ r => ⟨_, hσ, .inl ⟨y, rfl, b, r⟩⟩
theorem jp_vint {i : Int} {j : Nat} (hσ : σ[j]? = some (some (.int i))) (b : i.natAbs.log2 < 1920) : ∀ R : VK, R (.str (Str.ofString (toString i))) H → tFmt (tVar j) σ H R := fun _ r => ⟨_, hσ, .inr ⟨i, rfl, b, r⟩⟩
end
end L2
namespace FW
open PySem PySem.Spec PyProof.Rows L2 Evt
section
variable {P : Program} {w : World} {K : PySem.W.Frag} {mg : Str → Option Value} {base : Heap} {cl : Nat → Addr}
/-! ### a machine's row -/
def nS (i : Int) : Str := Str.ofString (toString i)
/-- all numbers are small, the name is short -/
structure Tell (d : Md) : Prop where
  nm : d.name.length ≤ 100
  le : d.least.natAbs < 2 ^ 1000
  gr : d.greatest.natAbs < 2 ^ 1000
  pa : d.pace.natAbs < 2 ^ 1000
  ga : d.gain.natAbs < 2 ^ 1000
  pl : d.place.natAbs < 2 ^ 1000
  la : d.lane.natAbs < 2 ^ 1000
  at_ : d.at_.natAbs < 2 ^ 1000
  wi : d.wide.natAbs < 2 ^ 1000
  ta : d.tall.natAbs < 2 ^ 1000
  wn : d.walls.length ≤ 4
  wo : ∀ w ∈ d.walls, w.1.natAbs < 2 ^ 1000 ∧ w.2.1.natAbs < 2 ^ 1000 ∧ w.2.2.natAbs < 2 ^ 1000
def mWords (d : Md) : Str := Str.empty ++ kdS d.kd ++ Str.ofString " " ++ d.name ++ Str.ofString " " ++ nS d.least ++ Str.ofString " " ++ nS d.greatest ++ Str.ofString " " ++ nS d.pace ++ Str.ofString " " ++ nS d.gain ++ Str.ofString " " ++ nS d.place
theorem blank_len : (Str.ofString " ").length = 1 := by decide +kernel
theorem colon_len : (Str.ofString ":").length = 1 := by decide +kernel
theorem kdS_len (k : Kd) : (kdS k).length ≤ 5 := by cases k <;> decide +kernel
theorem mWords_len {d : Md} (t : Tell d) : (mWords d).length ≤ 11000 := by
  have a := (int_len t.le).2
  have b := (int_len t.gr).2
  have c := (int_len t.pa).2
  have e := (int_len t.ga).2
  have f := (int_len t.pl).2
  have g := kdS_len d.kd
  have h := t.nm
  unfold mWords nS
  simp only [str_len, str_empty, blank_len]
  omega
def sp_mwords (cl : Nat → Addr) : Sp := fun vs H Q _ => ∃ (a : Addr) (d : Md), vs = [.ref a] ∧ IsM cl H a d ∧ Tell d ∧ Q (.str (mWords d)) H
theorem ok_Machine_words (B : Bt mg cl) (MM : ∀ C ∈ cs4 cl, MC K C) (V_kind : Virt P w K mg base CX0 1 "kind" ["self"] (ck4 cl) (sp_kind cl)) {f : Addr} {fd : FuncData} (F : Fun K "words" "Machine.words" s_Machine_words f fd) : FnOk P w K mg base CX0 2 f fd ["self"] (sp_mwords cl) := by
  refine F.ok sc_Machine_words (fun vs H Q E h => ?_) (fun cdv A outer s H vs Q E hr h => ?_)
  · obtain ⟨a, d, rfl, _⟩ := h
    rfl
  · obtain ⟨a, d, rfl, im, tl, q⟩ := h
    refine ⟨_, (pss_one (ps_ret (pe_joined (.cons (pe_fmt (pe_virt0 (E := fun _ => E0) V_kind (hr.mono (by decide)) (fun _ => pass0At) (pv 0))) (.cons pe_str (.cons (pe_fmt (k_fld (K := K) rfl (pv 0))) (.cons pe_str (.cons (pe_fmt (k_fld (K := K) rfl (pv 0))) (.cons pe_str (.cons (pe_fmt (k_fld (K := K) rfl (pv 0))) (.cons pe_str (.cons (pe_fmt (k_fld (K := K) rfl (pv 0))) (.cons pe_str (.cons (pe_fmt (k_fld (K := K) rfl (pv 0))) (.cons pe_str (.cons (pe_fmt (k_fld (K := K) rfl (pv 0))) .nil)))))))))))))))), ?_⟩
    have im0 := im
    obtain ⟨dx, t, h1, h2⟩ := im
    have M := MM _ (clsA_mem cl d.kd)
    have z0 := kdS_len d.kd
    have z1 := tl.nm
    obtain ⟨a1, a2⟩ := int_len tl.le
    obtain ⟨b1, b2⟩ := int_len tl.gr
    obtain ⟨c1, c2⟩ := int_len tl.pa
    obtain ⟨d1, d2⟩ := int_len tl.ga
    obtain ⟨e1, e2⟩ := int_len tl.pl
    refine js_all (ys := [kdS d.kd, Str.ofString " ", d.name, Str.ofString " ", nS d.least, Str.ofString " ", nS d.greatest, Str.ofString " ", nS d.pace, Str.ofString " ", nS d.gain, Str.ofString " ", nS d.place]) (.cons (fun R r => ⟨_, rfl, a, _, d.kd, dx, _, rfl, ck_mem cl d.kd, h1, is_no_field (by decide +kernel), a, d, rfl, im0, rfl, .inl ⟨_, rfl, sz_of (by omega), r⟩⟩) (.cons jp_c (.cons (jp_str rfl h1 M.c M.n_name rfl (sz_of (by omega))) (.cons jp_c (.cons (jp_int rfl h1 M.c M.n_least rfl a1) (.cons jp_c (.cons (jp_int rfl h1 M.c M.n_greatest rfl b1) (.cons jp_c
        (.cons (jp_int rfl h1 M.c M.n_pace rfl c1) (.cons jp_c (.cons (jp_int rfl h1 M.c M.n_gain rfl d1) (.cons jp_c (.cons (jp_int rfl h1 M.c M.n_place rfl e1) .nil))))))))))))) (sz_of ?_) q
    simp only [List.map_cons, List.map_nil, List.sum_cons, List.sum_nil, blank_len, str_empty, nS]
    omega
def wallS (w : Wl) : Str := Str.empty ++ nS w.1 ++ Str.ofString ":" ++ nS w.2.1 ++ Str.ofString ":" ++ nS w.2.2
/-- a machine's row -/
def wordsM (d : Md) : Str := match d.kd with
  | .line => Str.empty ++ mWords d ++ Str.ofString " " ++ nS d.lane ++ Str.ofString " " ++ nS d.at_ ++ Str.ofString " " ++ nS d.wide ++ Str.ofString " " ++ nS d.tall
  | .wagon => Str.empty ++ mWords d ++ Str.ofString " " ++ nS d.lane ++ Str.ofString " " ++ nS d.wide ++ Str.ofString " " ++ nS d.tall
  | .trap => Str.empty ++ mWords d ++ Str.ofString " " ++ nS d.lane ++ Str.ofString " " ++ nS d.at_ ++ Str.ofString " " ++ nS d.wide
  | .floor => Str.empty ++ mWords d ++ Str.ofString " " ++ nS d.lane ++ Str.ofString " " ++ Txt.join (Str.ofString " ") (d.walls.map wallS)
def sp_words (cl : Nat → Addr) : Kd → Sp := fun k vs H Q _ => ∃ (a : Addr) (d : Md), vs = [.ref a] ∧ IsM cl H a d ∧ d.kd = k ∧ Tell d ∧ RetV (.str (wordsM d)) H Q
/-- what the top has left that super() asks -/
structure Sup (P : Program) (K : PySem.W.Frag) (file : Str) : Prop where
  fl : ((P.main.file : Str) == file) = true
  top : (P.main.scope.names.lookup ("super" : Str)).isSome = false
  op : PySem.W.nsIn K cStatics "thirdparty.any" = some none
theorem ok_Line_words (B : Bt mg cl) (MM : ∀ C ∈ cs4 cl, MC K C) {f2 : Addr} {fd2 : FuncData} (FB : FnOk P w K mg base CX0 2 f2 fd2 ["self"] (sp_mwords cl)) (bB : Binds K fd2 ["self"] []) (hf2 : PySem.W.fnIn K f2 = true) (ht2 : PySem.W.typeIn K (.ref f2) = some (.type "function")) {f c cc D : Addr} {fd : FuncData} {file : Str} (F : SupF K "words" "Line.words" s_Line_words f fd c cc D file) (SU : Sup P K file)
    (hmro : PySem.W.mroIn K (cl 14) (.ref D) = some true) (hsi : PySem.W.ks_superIn K (cl 14) D "words" = some (some (.ref f2))) : FnOk P w K mg base CX0 3 f fd ["self"] (sp_words cl .line) := by
  refine sup_of (k := 2) (j := 2) (he := fun _ => rfl) (hsw := fun _ => rfl) F sc_Line_words rfl rfl rfl rfl rfl rfl (by decide) SU.fl SU.top B.b_super SU.op FB bB hf2 ht2 (fun vs H Q E h => ?_) (fun A outer s H vs Q E hr h => ?_)
  · obtain ⟨a, d, rfl, _⟩ := h
    rfl
  · obtain ⟨a, d, rfl, im, ek, tl, q⟩ := h
    have im0 := im
    obtain ⟨dx, t, h1, h2⟩ := im
    have M := MM _ (clsA_mem cl d.kd)
    have ml := mWords_len tl
    unfold wordsM at q
    unfold tailM at h1
    rw [ek] at h1 M q
    refine ⟨a, cl 14, dx, _, (), rfl, h1, hmro, hsi, _, (pss_one (ps_ret (pe_joined (.cons (pe_fmt (pv 2)) (.cons pe_str (.cons (pe_fmt (k_fld (K := K) rfl (pv 0))) (.cons pe_str (.cons (pe_fmt (k_fld (K := K) rfl (pv 0))) (.cons pe_str (.cons (pe_fmt (k_fld (K := K) rfl (pv 0))) (.cons pe_str (.cons (pe_fmt (k_fld (K := K) rfl (pv 0))) .nil)))))))))))), a, d, rfl, im0, tl, ?_⟩
    obtain ⟨lane_told1, lane_told2⟩ := int_len tl.la
    obtain ⟨at_told1, at_told2⟩ := int_len tl.at_
    obtain ⟨wide_told1, wide_told2⟩ := int_len tl.wi
    obtain ⟨tall_told1, tall_told2⟩ := int_len tl.ta
    refine js_all (ys := [mWords d, Str.ofString " ", nS d.lane, Str.ofString " ", nS d.at_, Str.ofString " ", nS d.wide, Str.ofString " ", nS d.tall]) (.cons (jp_var rfl (sz_of (by omega))) (.cons jp_c (.cons (jp_int rfl h1 M.c M.n_lane rfl lane_told1) (.cons jp_c (.cons (jp_int rfl h1 M.c M.n_at rfl at_told1) (.cons jp_c (.cons (jp_int rfl h1 M.c M.n_wide rfl wide_told1) (.cons jp_c (.cons (jp_int rfl h1 M.c M.n_tall rfl tall_told1) (.nil)))))))))) (sz_of ?_) (q H (Ex.refl _))
    simp only [List.map_cons, List.map_nil, List.sum_cons, List.sum_nil, blank_len, str_empty, nS]
    omega
theorem ok_Wagon_words (B : Bt mg cl) (MM : ∀ C ∈ cs4 cl, MC K C) {f2 : Addr} {fd2 : FuncData} (FB : FnOk P w K mg base CX0 2 f2 fd2 ["self"] (sp_mwords cl)) (bB : Binds K fd2 ["self"] []) (hf2 : PySem.W.fnIn K f2 = true) (ht2 : PySem.W.typeIn K (.ref f2) = some (.type "function")) {f c cc D : Addr} {fd : FuncData} {file : Str} (F : SupF K "words" "Wagon.words" s_Wagon_words f fd c cc D file) (SU : Sup P K file)
    (hmro : PySem.W.mroIn K (cl 15) (.ref D) = some true) (hsi : PySem.W.ks_superIn K (cl 15) D "words" = some (some (.ref f2))) : FnOk P w K mg base CX0 3 f fd ["self"] (sp_words cl .wagon) := by
  refine sup_of (k := 2) (j := 2) (he := fun _ => rfl) (hsw := fun _ => rfl) F sc_Wagon_words rfl rfl rfl rfl rfl rfl (by decide) SU.fl SU.top B.b_super SU.op FB bB hf2 ht2 (fun vs H Q E h => ?_) (fun A outer s H vs Q E hr h => ?_)
  · obtain ⟨a, d, rfl, _⟩ := h
    rfl
  · obtain ⟨a, d, rfl, im, ek, tl, q⟩ := h
    have im0 := im
    obtain ⟨dx, t, h1, h2⟩ := im
    have M := MM _ (clsA_mem cl d.kd)
    have ml := mWords_len tl
    unfold wordsM at q
    unfold tailM at h1
    rw [ek] at h1 M q
    refine ⟨a, cl 15, dx, _, (), rfl, h1, hmro, hsi, _, (pss_one (ps_ret (pe_joined (.cons (pe_fmt (pv 2)) (.cons pe_str (.cons (pe_fmt (k_fld (K := K) rfl (pv 0))) (.cons pe_str (.cons (pe_fmt (k_fld (K := K) rfl (pv 0))) (.cons pe_str (.cons (pe_fmt (k_fld (K := K) rfl (pv 0))) .nil)))))))))), a, d, rfl, im0, tl, ?_⟩
    obtain ⟨lane_told1, lane_told2⟩ := int_len tl.la
    obtain ⟨wide_told1, wide_told2⟩ := int_len tl.wi
    obtain ⟨tall_told1, tall_told2⟩ := int_len tl.ta
    refine js_all (ys := [mWords d, Str.ofString " ", nS d.lane, Str.ofString " ", nS d.wide, Str.ofString " ", nS d.tall]) (.cons (jp_var rfl (sz_of (by omega))) (.cons jp_c (.cons (jp_int rfl h1 M.c M.n_lane rfl lane_told1) (.cons jp_c (.cons (jp_int rfl h1 M.c M.n_wide rfl wide_told1) (.cons jp_c (.cons (jp_int rfl h1 M.c M.n_tall rfl tall_told1) (.nil)))))))) (sz_of ?_) (q H (Ex.refl _))
    simp only [List.map_cons, List.map_nil, List.sum_cons, List.sum_nil, blank_len, str_empty, nS]
    omega
theorem ok_Trap_words (B : Bt mg cl) (MM : ∀ C ∈ cs4 cl, MC K C) {f2 : Addr} {fd2 : FuncData} (FB : FnOk P w K mg base CX0 2 f2 fd2 ["self"] (sp_mwords cl)) (bB : Binds K fd2 ["self"] []) (hf2 : PySem.W.fnIn K f2 = true) (ht2 : PySem.W.typeIn K (.ref f2) = some (.type "function")) {f c cc D : Addr} {fd : FuncData} {file : Str} (F : SupF K "words" "Trap.words" s_Trap_words f fd c cc D file) (SU : Sup P K file)
    (hmro : PySem.W.mroIn K (cl 16) (.ref D) = some true) (hsi : PySem.W.ks_superIn K (cl 16) D "words" = some (some (.ref f2))) : FnOk P w K mg base CX0 3 f fd ["self"] (sp_words cl .trap) := by
  refine sup_of (k := 2) (j := 2) (he := fun _ => rfl) (hsw := fun _ => rfl) F sc_Trap_words rfl rfl rfl rfl rfl rfl (by decide) SU.fl SU.top B.b_super SU.op FB bB hf2 ht2 (fun vs H Q E h => ?_) (fun A outer s H vs Q E hr h => ?_)
  · obtain ⟨a, d, rfl, _⟩ := h
    rfl
  · obtain ⟨a, d, rfl, im, ek, tl, q⟩ := h
    have im0 := im
    obtain ⟨dx, t, h1, h2⟩ := im
    have M := MM _ (clsA_mem cl d.kd)
    have ml := mWords_len tl
    unfold wordsM at q
    unfold tailM at h1
    rw [ek] at h1 M q
    refine ⟨a, cl 16, dx, _, (), rfl, h1, hmro, hsi, _, (pss_one (ps_ret (pe_joined (.cons (pe_fmt (pv 2)) (.cons pe_str (.cons (pe_fmt (k_fld (K := K) rfl (pv 0))) (.cons pe_str (.cons (pe_fmt (k_fld (K := K) rfl (pv 0))) (.cons pe_str (.cons (pe_fmt (k_fld (K := K) rfl (pv 0))) .nil)))))))))), a, d, rfl, im0, tl, ?_⟩
    obtain ⟨lane_told1, lane_told2⟩ := int_len tl.la
    obtain ⟨at_told1, at_told2⟩ := int_len tl.at_
    obtain ⟨wide_told1, wide_told2⟩ := int_len tl.wi
    refine js_all (ys := [mWords d, Str.ofString " ", nS d.lane, Str.ofString " ", nS d.at_, Str.ofString " ", nS d.wide]) (.cons (jp_var rfl (sz_of (by omega))) (.cons jp_c (.cons (jp_int rfl h1 M.c M.n_lane rfl lane_told1) (.cons jp_c (.cons (jp_int rfl h1 M.c M.n_at rfl at_told1) (.cons jp_c (.cons (jp_int rfl h1 M.c M.n_wide rfl wide_told1) (.nil)))))))) (sz_of ?_) (q H (Ex.refl _))
    simp only [List.map_cons, List.map_nil, List.sum_cons, List.sum_nil, blank_len, str_empty, nS]
    omega
theorem ok_Floor_words (B : Bt mg cl) (MM : ∀ C ∈ cs4 cl, MC K C) {f2 : Addr} {fd2 : FuncData} (FB : FnOk P w K mg base CX0 2 f2 fd2 ["self"] (sp_mwords cl)) (bB : Binds K fd2 ["self"] []) (hf2 : PySem.W.fnIn K f2 = true) (ht2 : PySem.W.typeIn K (.ref f2) = some (.type "function")) {f c cc D : Addr} {fd : FuncData} {file : Str} (F : SupF K "words" "Floor.words" s_Floor_words f fd c cc D file) (SU : Sup P K file)
    (hmro : PySem.W.mroIn K (cl 17) (.ref D) = some true) (hsi : PySem.W.ks_superIn K (cl 17) D "words" = some (some (.ref f2))) : FnOk P w K mg base CX0 3 f fd ["self"] (sp_words cl .floor) := by
  refine sup_of (k := 2) (j := 2) (he := fun _ => rfl) (hsw := fun _ => rfl) F sc_Floor_words rfl rfl rfl rfl rfl rfl (by decide) SU.fl SU.top B.b_super SU.op FB bB hf2 ht2 (fun vs H Q E h => ?_) (fun A outer s H vs Q E hr h => ?_)
  · obtain ⟨a, d, rfl, _⟩ := h
    rfl
  · obtain ⟨a, d, rfl, im, ek, tl, q⟩ := h
    have im0 := im
    obtain ⟨dx, t, h1, h2⟩ := im
    have M := MM _ (clsA_mem cl d.kd)
    have ml := mWords_len tl
    unfold wordsM at q
    unfold tailM at h1
    rw [ek] at h1 M q
    refine ⟨a, cl 17, dx, _, (), rfl, h1, hmro, hsi, _, (pss_cons (ps_set (i := 3) sc_Floor_words.nd rfl (.inl rfl) (pe_bm PySem.F.plainAttrs_str PySem.F.slot_str_join PySem.F.type_str_join (k_join (K := K) rfl) pe_str (pa_cons (pe_lc (own := [("offset", 4), ("wide", 5), ("tall", 6)]) (g := gTup K 3 (gCons (gName 4) (gCons (gName 5) (gCons (gName 6) gNil)))) (tt := tYes) (by rfl) sc_Floor_words.nd (k_pit (K := K) rfl (k_fld (K := K) rfl (pv 0))) (blkOk_by (own := [("offset", 4), ("wide", 5), ("tall", 6)]) (N := ["self", "__class__", "begun", "walls", "offset", "wide", "tall"]) (sc := defScope s_Floor_words) (by decide +kernel)) (fun _ _ _ _ _ => (k_pgt (K := K) (n := 3) rfl rfl (pgs_cons (pg_name (i := 4) sc_Floor_words.nd rfl (.inl rfl)) (pgs_cons (pg_name (i := 5) sc_Floor_words.nd rfl (.inl rfl)) (pgs_cons (pg_name (i := 6) sc_Floor_words.nd rfl (.inl rfl)) pgs_nil))))) (fun _ _ _ _ _ => pts_nil) (fun _ _ _ _ _ => (pe_joined (.cons (pe_fmt (pv 4)) (.cons pe_str (.cons (pe_fmt (pv 5)) (.cons pe_str (.cons (pe_fmt (pv 6)) .nil)))))))) pa_nil)))
      (pss_one (ps_ret (pe_joined (.cons (pe_fmt (pv 2)) (.cons pe_str (.cons (pe_fmt (k_fld (K := K) rfl (pv 0))) (.cons pe_str (.cons (pe_fmt (pv 3)) .nil))))))))), a, d, rfl, im0, tl, ?_⟩
    obtain ⟨ys, hy, tw⟩ := h2 ek
    have hlen := tw.1
    obtain ⟨la1, la2⟩ := int_len tl.la
    have wn := tl.wn
    refine cut_eq fun N1 hN1 => ?_
    simp only [tSeq, tIfS, tOr, tAnd, tNot, tB, tTest, tCB, tCall, tCons, tVar, tNil, tC, tRet, tRetN, tNext, tAsg, gName, tDrop, tOp, tUn, tAug, ipI, tPar, tIf, tAndV, tOrV, tNotV, tChain, tNever, rI0, rI, rU, L2.start, cxK, List.map_cons, List.map_nil, List.length_cons, List.length_nil, Nat.reduceAdd, Nat.reduceSub, List.replicate, List.cons_append, List.nil_append, List.append_nil, List.set_cons_zero, List.set_cons_succ, List.getElem?_cons_zero, List.getElem?_cons_succ, Option.some.injEq, V.int.injEq, V.bl.injEq, exists_eq_left', exists_eq_left, exists_and_left, tFor_eq, iRng1, iRng2, iRng3, iList, iEnum, iZip, iTup, tLst_eq, tTup_eq, rCat_eq, rCatS, rSum, rAppend_eq, rListOf, rSlL_eq, tSl, tNoPart, tPart, tLc_eq, tBM, rIxL, rIxT, min3_eq, rEq_int, rNe_int, min_if, max_if, and_assoc, V.ref.injEq, V.str.injEq, List.cons.injEq, and_true, true_and, ↓reduceIte, Bool.false_eq_true, Bool.not_true, Bool.not_false, Int.reduceToNat, Int.reducePow, Int.reduceAdd, Int.reduceSub, Int.reduceNeg, tVirt, tOff, tFld, sFld_eq, tMake_eq, rTupOf, iStr, rNe_str, rEq_str, rEq_bl, tRaise1, tFmt, tJs, tCallS, WE, wKeep_eq, reduceCtorEq, false_and, and_false, exists_false, or_false, false_or, tIsN, tNotN, decide_true, decide_false, tDictN, rJoin, NdefX.startF]
    refine ⟨rfl, _, _, _, h1, M.c, M.n_walls, _, rfl, ⟨_, rfl, ⟨_, st_of hy⟩, fun Dl hD => lc_gives (walk_tup (xs := ys)) (fun k => (d.walls[k]?).map fun w => V.str (wallS w)) hD (fun H' e => st_of (e _ _ hy)) ?_ ?_⟩⟩
    · rintro k x H0 H' hi e0 h0 ⟨rfl, hx⟩
      obtain ⟨wl, hw⟩ : ∃ wl, d.walls[k]? = some wl := ⟨d.walls[k]'(by rw [← hlen]; exact hi), List.getElem?_eq_getElem (by rw [← hlen]; exact hi)⟩
      obtain ⟨b, rfl, hb⟩ := tw.2 k x wl hx hw
      obtain ⟨wo1, wo2, wo3⟩ := tl.wo wl (List.mem_of_getElem? hw)
      obtain ⟨x1, x2⟩ := int_len wo1
      obtain ⟨y1, y2⟩ := int_len wo2
      obtain ⟨z1, z2⟩ := int_len wo3
      refine ⟨b, wlV wl, rfl, st_of (e0 _ _ hb), rfl, ?_⟩
      simp only [tSeq, tIfS, tOr, tAnd, tNot, tB, tTest, tCB, tCall, tCons, tVar, tNil, tC, tRet, tRetN, tNext, tAsg, gName, tDrop, tOp, tUn, tAug, ipI, tPar, tIf, tAndV, tOrV, tNotV, tChain, tNever, rI0, rI, rU, L2.start, cxK, List.map_cons, List.map_nil, List.length_cons, List.length_nil, Nat.reduceAdd, Nat.reduceSub, List.replicate, List.cons_append, List.nil_append, List.append_nil, List.set_cons_zero, List.set_cons_succ, List.getElem?_cons_zero, List.getElem?_cons_succ, Option.some.injEq, V.int.injEq, V.bl.injEq, exists_eq_left', exists_eq_left, exists_and_left, tFor_eq, iRng1, iRng2, iRng3, iList, iEnum, iZip, iTup, tLst_eq, tTup_eq, rCat_eq, rCatS, rSum, rAppend_eq, rListOf, rSlL_eq, tSl, tNoPart, tPart, tLc_eq, tBM, rIxL, rIxT, min3_eq, rEq_int, rNe_int, min_if, max_if, and_assoc, V.ref.injEq, V.str.injEq, List.cons.injEq, and_true, true_and, ↓reduceIte, Bool.false_eq_true, Bool.not_true, Bool.not_false, Int.reduceToNat, Int.reducePow, Int.reduceAdd, Int.reduceSub, Int.reduceNeg, tVirt, tOff, tFld, sFld_eq, tMake_eq, rTupOf, iStr, rNe_str, rEq_str, rEq_bl, tRaise1, tFmt, tJs, tCallS, WE, wKeep_eq, reduceCtorEq, false_and, and_false, exists_false, or_false, false_or, tIsN, tNotN, decide_true, decide_false, tDictN, gCons, gNil, wlV, wipe, tYes]
      simp only [str_len, str_empty, colon_len]
      refine ⟨x1, sz_of (by omega), sz_of (by omega), y1, sz_of (by omega), sz_of (by omega), z1, sz_of (by omega), put_of hD e0 h0 (sz_lt (by omega)) (by rw [hw]; rfl)⟩
    · intro H2 e2 hH2
      rw [gives_take, List.take_of_length_le (by omega)] at hH2
      have e3 : d.walls.map (fun w => V.str (wallS w)) = (d.walls.map wallS).map V.str := by
        rw [List.map_map]
        rfl
      rw [e3] at hH2
      have wl : ∀ w ∈ d.walls, (wallS w).length ≤ 6100 := fun w hw => by
        obtain ⟨wo1, wo2, wo3⟩ := tl.wo w hw
        have := (int_len wo1).2
        have := (int_len wo2).2
        have := (int_len wo3).2
        unfold wallS nS
        simp only [str_len, str_empty, colon_len]
        omega
      have sl : ((d.walls.map wallS).map (·.length)).sum ≤ 6100 * d.walls.length := by
        generalize d.walls = ws at wl
        clear tw hlen hH2 e3 wn h2
        induction ws with
        | nil => exact Nat.le_refl _
        | cons x r ih =>
          have := wl x List.mem_cons_self
          have := ih fun w hw => wl w (List.mem_cons_of_mem _ hw)
          simp only [List.map_cons, List.sum_cons, List.length_cons]
          omega
      have jl : (Txt.join (Str.ofString " ") (d.walls.map wallS)).length ≤ 6200 * d.walls.length + 10 := by
        rw [TL.join_eq]
        have := join_len (Str.ofString " ") (d.walls.map wallS)
        rw [List.length_map, blank_len] at this
        omega
      refine ⟨Dl, rfl, d.walls.map wallS, .inl (sq_of hH2), ?_, ?_⟩
      · rw [List.length_map, blank_len]
        omega
      rw [← hN1]
      clear hN1
      refine js_all (ys := [mWords d, Str.ofString " ", nS d.lane, Str.ofString " ", Txt.join (Str.ofString " ") (d.walls.map wallS)]) (.cons (jp_var rfl (sz_of (by omega))) (.cons jp_c (.cons (jp_int rfl (e2 _ _ h1) M.c M.n_lane rfl la1) (.cons jp_c (.cons (jp_var rfl (sz_of (by omega))) .nil))))) (sz_of ?_) (q H2 e2)
      simp only [List.map_cons, List.map_nil, List.sum_cons, List.sum_nil, blank_len, str_empty, nS]
      omega
end
end FW

set_option Elab.async false
set_option linter.all false
set_option maxRecDepth 100000
set_option maxHeartbeats 4000000
namespace L2
open PySem PySem.Spec PyProof.Rows Evt
section
variable {X : Cx} {K : PySem.W.Frag}
/-- a text times 0 or 1 -/
def rMulS : R2 := fun x y H Q => ∃ (a : Str) (n : Int), x = .str a ∧ y = .int n ∧ (n = 0 ∨ n = 1) ∧ Q (.str (if n = 1 then a else Str.empty)) H
theorem op_mulS : OpR X (binaryOp .Mult) rMulS := by
  intro pins s σ H x y v u Q I rx ry h
  obtain ⟨a, n, rfl, rfl, hn, q⟩ := h
  obtain ⟨t, rfl⟩ := rx
  obtain ⟨t', rfl⟩ := ry
  rcases hn with rfl | rfl
  · exact PySem.P.mul_str_none (by omega) (by omega) ⟨.str Str.empty, H, I.tok _, ⟨_, rfl⟩, q⟩
  · exact PySem.P.mul_str (by decide) (fun _ h => by cases h) (fun _ h => by cases h) ⟨.str a, H, I, ⟨_, rfl⟩, q⟩
def ib (b : Bool) : Int := if b then 1 else 0
def rIntB : List V → Hp → VK → Prop := fun xs H Q => ∃ k, xs = [.bl k] ∧ Q (.int (ib k)) H
theorem call_intB : CallR X (.type "int") rIntB := by
  intro pins s σ H xs us Q I r h
  exact call_int1 pins s σ H xs us Q I r (.inr h)
def rRepE : R2 := fun x y H Q => ∃ l k xs, x = .ref l ∧ y = .int k ∧ H l = some (.lst xs) ∧ -(2 ^ 63) ≤ k ∧ k < 2 ^ 63 ∧ xs.length * k.toNat ≤ sizeLine ∧ New H (.lst (List.replicate k.toNat xs).flatten) fun p H2 => Q (.ref p) H2
theorem op_repE : OpR X (binaryOp .Mult) rRepE := op_rep
theorem k_pgl {es : List Expr} {k : Nat} {t : TGs} {n : Nat} {pos : Pos} (hK : X.K = K) (hc : X.calm = true) (h : PGs X es t) (hn : (assignEach es X.env).length = n := by rfl) (hst : (assignEach es X.env).findIdx? (·.1) = none := by rfl) : PG X (.Tuple es k pos) (gLst K n t) :=
  hK ▸ pg_lst hc h hn hst
end
theorem tDisp_eq {trs : List (TE × TE)} {σ : St} {H : Hp} {Q : VK} : tDisp trs σ H Q = New H (.dK []) fun p H1 => tPairs trs σ H1 fun ps H2 => H2 p = some (.dK []) ∧ ∃ kvs : List (Key × V), ps = kvs.map (fun kv => (kV kv.1, kv.2)) ∧ kvs.length ≤ 15 ∧ Chg H2 p (.dK (mergeK [] kvs)) fun H3 => Q (.ref p) H3 := rfl
theorem rNe_bl {a b : Bool} {H : Hp} {Q : VK} : rNe (.bl a) (.bl b) H Q = Q (.bl (!decide (a = b))) H := by
  have e : decide (V.bl a = V.bl b) = decide (a = b) := by simp
  refine propext ⟨fun h => ?_, fun q => ⟨rfl, ?_⟩⟩
  · have h2 := h.2
    rw [e] at h2
    exact h2
  · rw [e]
    exact q
end L2
namespace FW
open PySem PySem.Spec PyProof.Rows L2 Evt
section
variable {P : Program} {w : World} {K : PySem.W.Frag} {mg : Str → Option Value} {base : Heap} {cl : Nat → Addr}
/-! ### the law's draws -/
def sp__law_spread : Sp := fun vs H Q _ => ∃ (c k : Int), vs = [.int c, .int k] ∧ 0 ≤ k ∧ k ≤ 1000 ∧ ∀ n : Int, 0 ≤ n → n < 2147483647 → Q (.int n) H
theorem ok__law_spread (B : Bt mg cl) {f : Addr} {fd : FuncData} (F : Fun K "_law_spread" "_law_spread" s__law_spread f fd) : FnOk P w K mg base CX0 1 f fd ["_law_cell", "_law_k"] sp__law_spread := by
  refine F.ok sc__law_spread (fun vs H Q E h => ?_) (fun cdv A outer s H vs Q E hr h => ?_)
  · obtain ⟨c, k, rfl, _⟩ := h
    rfl
  · obtain ⟨c, k, rfl, k0, k1, q⟩ := h
    refine ⟨_, (pss_one (ps_ret (pe_op op_mod (pe_op op_mul (pe_op op_add (pv 0) pe_int) (pe_op op_add (pe_op op_add pe_int (pe_op op_mul (pe_op op_mul pe_int (pv 1)) (pv 1))) (pv 1))) pe_int))), ?_⟩
    simp only [tSeq, tIfS, tOr, tAnd, tNot, tB, tTest, tCB, tCall, tCons, tVar, tNil, tC, tRet, tRetN, tNext, tAsg, gName, tDrop, tOp, tUn, tAug, ipI, tPar, tIf, tAndV, tOrV, tNotV, tChain, tNever, rI0, rI, rU, L2.start, cxK, List.map_cons, List.map_nil, List.length_cons, List.length_nil, Nat.reduceAdd, Nat.reduceSub, List.replicate, List.cons_append, List.nil_append, List.append_nil, List.set_cons_zero, List.set_cons_succ, List.getElem?_cons_zero, List.getElem?_cons_succ, Option.some.injEq, V.int.injEq, V.bl.injEq, exists_eq_left', exists_eq_left, exists_and_left, tFor_eq, iRng1, iRng2, iRng3, iList, iEnum, iZip, iTup, tLst_eq, tTup_eq, rCat_eq, rCatS, rSum, rAppend_eq, rListOf, rSlL_eq, tSl, tNoPart, tPart, tLc_eq, tBM, rIxL, rIxT, min3_eq, rEq_int, rNe_int, min_if, max_if, and_assoc, V.ref.injEq, V.str.injEq, List.cons.injEq, and_true, true_and, ↓reduceIte, Bool.false_eq_true, Bool.not_true, Bool.not_false, Int.reduceToNat, Int.reducePow, Int.reduceAdd, Int.reduceSub, Int.reduceNeg, tVirt, tOff, tFld, sFld_eq, tMake_eq, rTupOf, iStr, rNe_str, rEq_str, rEq_bl, tRaise1, tFmt, tJs, tCallS, WE, wKeep_eq, reduceCtorEq, false_and, and_false, exists_false, or_false, false_or, tIsN, tNotN, decide_true, decide_false, tDictN]
    have sq : 0 ≤ 2 * k * k := Int.mul_nonneg (by omega) (by omega)
    have sq1 : 2 * k * k ≤ 2 * 1000 * 1000 := Int.mul_le_mul (by omega) (by omega) (by omega) (by omega)
    refine ⟨.inl ⟨by decide, by decide⟩, .inr ⟨by omega, by omega⟩, .inr ⟨by omega, by omega⟩, by decide, ?_⟩
    exact q _ (Int.emod_nonneg _ (by decide)) (Int.emod_lt_of_pos _ (by decide))
/-! ### the law's own dict of a machine -/
/-- of any values -/
def ownW (n l g pl pa ga : V) (k : Kd) (la at_ wi ta wa : V) : List (Key × V) := [(Sum.inr "name", n), (Sum.inr "least", l), (Sum.inr "greatest", g), (Sum.inr "place", pl), (Sum.inr "pace", pa), (Sum.inr "gain", ga), (Sum.inr "kind", .str (kdS k)), (Sum.inr "lane", la), (Sum.inr "at", at_), (Sum.inr "wide", wi), (Sum.inr "tall", ta), (Sum.inr "walls", wa)]
def ownV (d : Md) (wa : Addr) : List (Key × V) := ownW (.str d.name) (.int d.least) (.int d.greatest) (.int d.place) (.int d.pace) (.int d.gain) d.kd (.int d.lane) (.int d.at_) (.int d.wide) (.int d.tall) (.ref wa)
theorem own_name {d : Md} {wa : Addr} : valV (ownV d wa) (Sum.inr "name") = some (.str d.name) := rfl
theorem own_kind {d : Md} {wa : Addr} : valV (ownV d wa) (Sum.inr "kind") = some (.str (kdS d.kd)) := rfl
theorem own_lane {d : Md} {wa : Addr} : valV (ownV d wa) (Sum.inr "lane") = some (.int d.lane) := rfl
theorem own_least {d : Md} {wa : Addr} : valV (ownV d wa) (Sum.inr "least") = some (.int d.least) := rfl
theorem own_greatest {d : Md} {wa : Addr} : valV (ownV d wa) (Sum.inr "greatest") = some (.int d.greatest) := rfl
theorem own_place {d : Md} {wa : Addr} : valV (ownV d wa) (Sum.inr "place") = some (.int d.place) := rfl
theorem own_pace {d : Md} {wa : Addr} : valV (ownV d wa) (Sum.inr "pace") = some (.int d.pace) := rfl
theorem own_gain {d : Md} {wa : Addr} : valV (ownV d wa) (Sum.inr "gain") = some (.int d.gain) := rfl
theorem own_at {d : Md} {wa : Addr} : valV (ownV d wa) (Sum.inr "at") = some (.int d.at_) := rfl
theorem own_wide {d : Md} {wa : Addr} : valV (ownV d wa) (Sum.inr "wide") = some (.int d.wide) := rfl
theorem own_tall {d : Md} {wa : Addr} : valV (ownV d wa) (Sum.inr "tall") = some (.int d.tall) := rfl
theorem own_walls {d : Md} {wa : Addr} : valV (ownV d wa) (Sum.inr "walls") = some (.ref wa) := rfl
/-- at a stands the law's dict of d, its walls at wa -/
def IsO (H : Hp) (a wa : Addr) (d : Md) : Prop := H a = some (.dK (ownV d wa)) ∧ ∃ xs, H wa = some (.lst xs) ∧ TupW H xs d.walls
theorem IsO.mono {H H' : Hp} {a wa : Addr} {d : Md} (e : Ex H H') (h : IsO H a wa d) : IsO H' a wa d := ⟨e _ _ h.1, h.2.elim fun xs q => ⟨xs, e _ _ q.1, q.2.mono e⟩⟩
instance : DecidableEq Kd := fun a b => by
  cases a <;> cases b <;> first | exact isTrue rfl | exact isFalse (fun h => nomatch h)
theorem kdS_inj {a b : Kd} : decide (kdS a = kdS b) = decide (a = b) := by
  cases a <;> cases b <;> decide +kernel
theorem takes_between (d : Md) {l h : Int} (lh : l ≤ h) : takes d l h = match d.kd with
  | .line => [⟨d.lane, d.at_, d.wide, l, d.tall + h - l⟩]
  | .wagon => [⟨d.lane, l, d.wide + h - l, 0, d.tall⟩]
  | .trap => if l < 0 then [⟨d.lane, d.at_, d.wide, 0, 1⟩] else []
  | .floor => d.walls.map fun w => ⟨d.lane, w.1 + l, w.2.1 + h - l, 0, w.2.2⟩ := by
  unfold takes
  have e1 : min l h = l := by omega
  have e2 : far l h = h - l := by unfold far; split <;> omega
  have e3 : ∀ x : Int, x + (h - l) = x + h - l := fun x => by omega
  rw [e1, e2]
  cases d.kd <;> simp [e3]
def sp__law_takes : Sp := fun vs H Q _ => ∃ (a wa : Addr) (d : Md) (lo hi : Int), vs = [.ref a, .int lo, .int hi] ∧ lo ≤ hi ∧ IsO H a wa d ∧ d.walls.length < 100000 ∧ RetB (takes d lo hi) H Q
theorem ok__law_takes (B : Bt mg cl) {f : Addr} {fd : FuncData} (F : Fun K "_law_takes" "_law_takes" s__law_takes f fd) : FnOk P w K mg base CX0 1 f fd ["_law_own", "_law_low", "_law_high"] sp__law_takes := by
  refine F.ok sc__law_takes (fun vs H Q E h => ?_) (fun cdv A outer s H vs Q E hr h => ?_)
  · obtain ⟨a, wa, d, lo, hi, rfl, _⟩ := h
    rfl
  · obtain ⟨a, wa, d, lo, hi, rfl, lh, ⟨ho, xs, hw, tw⟩, wsm, q⟩ := h
    refine ⟨_, (pss_cons (ps_if (pt_cmpR op_eq (pe_dget (hu_of hr) (pv 0) pe_str (fun _ _ => rfl)) pe_str (nomark _))
        (pss_one (ps_ret (pe_lst (pa_cons (pe_tup (pa_cons (pe_dget (hu_of hr) (pv 0) pe_str (fun _ _ => rfl)) (pa_cons (pe_dget (hu_of hr) (pv 0) pe_str (fun _ _ => rfl)) (pa_cons (pe_dget (hu_of hr) (pv 0) pe_str (fun _ _ => rfl)) (pa_cons (pv 1) (pa_cons (pe_op op_sub (pe_op op_add (pe_dget (hu_of hr) (pv 0) pe_str (fun _ _ => rfl)) (pv 2)) (pv 1)) pa_nil)))))) pa_nil))))
        pss_nil)
      (pss_cons (ps_if (pt_cmpR op_eq (pe_dget (hu_of hr) (pv 0) pe_str (fun _ _ => rfl)) pe_str (nomark _))
        (pss_one (ps_ret (pe_lst (pa_cons (pe_tup (pa_cons (pe_dget (hu_of hr) (pv 0) pe_str (fun _ _ => rfl)) (pa_cons (pv 1) (pa_cons (pe_op op_sub (pe_op op_add (pe_dget (hu_of hr) (pv 0) pe_str (fun _ _ => rfl)) (pv 2)) (pv 1)) (pa_cons pe_int (pa_cons (pe_dget (hu_of hr) (pv 0) pe_str (fun _ _ => rfl)) pa_nil)))))) pa_nil))))
        pss_nil)
      (pss_cons (ps_if (pt_cmpR op_eq (pe_dget (hu_of hr) (pv 0) pe_str (fun _ _ => rfl)) pe_str (nomark _))
        (pss_one (ps_ret (pe_op op_repE (pe_lst (pa_cons (pe_tup (pa_cons (pe_dget (hu_of hr) (pv 0) pe_str (fun _ _ => rfl)) (pa_cons (pe_dget (hu_of hr) (pv 0) pe_str (fun _ _ => rfl)) (pa_cons (pe_dget (hu_of hr) (pv 0) pe_str (fun _ _ => rfl)) (pa_cons pe_int (pa_cons pe_int pa_nil)))))) pa_nil)) (pe_callTy call_intB (by rfl) B.b_int (by decide +kernel) (pa_cons (pe_cmpR op_lt (pv 1) pe_int (nomark _)) pa_nil)))))
        pss_nil)
      (pss_one (ps_ret (pe_lc (own := [("_law_shut", 3)]) (g := gName 3) (tt := tYes) (by rfl) sc__law_takes.nd (k_pil (K := K) rfl (pe_dget (hu_of hr) (pv 0) pe_str (fun _ _ => rfl))) (blkOk_by (own := [("_law_shut", 3)]) (N := ["_law_own", "_law_low", "_law_high", "_law_shut"]) (sc := defScope s__law_takes) (by decide +kernel)) (fun _ _ _ _ _ => (pg_name (i := 3) sc__law_takes.nd rfl (.inl rfl))) (fun _ _ _ _ _ => pts_nil) (fun _ _ _ _ _ => (pe_tup (pa_cons (pe_dget (hu_of hr) (pv 0) pe_str (fun _ _ => rfl)) (pa_cons (pe_op op_add (pe_ix (k_ixt (K := K) rfl) (pv 3) pe_int (fun _ _ => rfl)) (pv 1)) (pa_cons (pe_op op_sub (pe_op op_add (pe_ix (k_ixt (K := K) rfl) (pv 3) pe_int (fun _ _ => rfl)) (pv 2)) (pv 1)) (pa_cons pe_int (pa_cons (pe_ix (k_ixt (K := K) rfl) (pv 3) pe_int (fun _ _ => rfl)) pa_nil))))))))))))), ?_⟩
    rw [takes_between d lh] at q
    have rd : ∀ {k : Str} {v : V}, valV (ownV d wa) (Sum.inr k) = some v → DGet H a (.str k) (some v) := fun {k v} e => .inl ⟨_, Sum.inr k, .inl ho, rfl, e.symm⟩
    refine cut_eq fun N1 hN1 => ?_
    simp only [tSeq, tIfS, tOr, tAnd, tNot, tB, tTest, tCB, tCall, tCons, tVar, tNil, tC, tRet, tRetN, tNext, tAsg, gName, tDrop, tOp, tUn, tAug, ipI, tPar, tIf, tAndV, tOrV, tNotV, tChain, tNever, rI0, rI, rU, L2.start, cxK, List.map_cons, List.map_nil, List.length_cons, List.length_nil, Nat.reduceAdd, Nat.reduceSub, List.replicate, List.cons_append, List.nil_append, List.append_nil, List.set_cons_zero, List.set_cons_succ, List.getElem?_cons_zero, List.getElem?_cons_succ, Option.some.injEq, V.int.injEq, V.bl.injEq, exists_eq_left', exists_eq_left, exists_and_left, tFor_eq, iRng1, iRng2, iRng3, iList, iEnum, iZip, iTup, tLst_eq, tTup_eq, rCat_eq, rCatS, rSum, rAppend_eq, rListOf, rSlL_eq, tSl, tNoPart, tPart, tLc_eq, tBM, rIxL, rIxT, min3_eq, rEq_int, rNe_int, min_if, max_if, and_assoc, V.ref.injEq, V.str.injEq, List.cons.injEq, and_true, true_and, ↓reduceIte, Bool.false_eq_true, Bool.not_true, Bool.not_false, Int.reduceToNat, Int.reducePow, Int.reduceAdd, Int.reduceSub, Int.reduceNeg, tVirt, tOff, tFld, sFld_eq, tMake_eq, rTupOf, iStr, rNe_str, rEq_str, rEq_bl, tRaise1, tFmt, tJs, tCallS, WE, wKeep_eq, reduceCtorEq, false_and, and_false, exists_false, or_false, false_or, tIsN, tNotN, decide_true, decide_false, tDictN, tDGet]
    refine ⟨_, rd own_kind, ?_⟩
    simp only [tSeq, tIfS, tOr, tAnd, tNot, tB, tTest, tCB, tCall, tCons, tVar, tNil, tC, tRet, tRetN, tNext, tAsg, gName, tDrop, tOp, tUn, tAug, ipI, tPar, tIf, tAndV, tOrV, tNotV, tChain, tNever, rI0, rI, rU, L2.start, cxK, List.map_cons, List.map_nil, List.length_cons, List.length_nil, Nat.reduceAdd, Nat.reduceSub, List.replicate, List.cons_append, List.nil_append, List.append_nil, List.set_cons_zero, List.set_cons_succ, List.getElem?_cons_zero, List.getElem?_cons_succ, Option.some.injEq, V.int.injEq, V.bl.injEq, exists_eq_left', exists_eq_left, exists_and_left, tFor_eq, iRng1, iRng2, iRng3, iList, iEnum, iZip, iTup, tLst_eq, tTup_eq, rCat_eq, rCatS, rSum, rAppend_eq, rListOf, rSlL_eq, tSl, tNoPart, tPart, tLc_eq, tBM, rIxL, rIxT, min3_eq, rEq_int, rNe_int, min_if, max_if, and_assoc, V.ref.injEq, V.str.injEq, List.cons.injEq, and_true, true_and, ↓reduceIte, Bool.false_eq_true, Bool.not_true, Bool.not_false, Int.reduceToNat, Int.reducePow, Int.reduceAdd, Int.reduceSub, Int.reduceNeg, tVirt, tOff, tFld, sFld_eq, tMake_eq, rTupOf, iStr, rNe_str, rEq_str, rEq_bl, tRaise1, tFmt, tJs, tCallS, WE, wKeep_eq, reduceCtorEq, false_and, and_false, exists_false, or_false, false_or, tIsN, tNotN, decide_true, decide_false, tDictN]
    rw [show ("line" : Str) = kdS .line from rfl, kdS_inj]
    by_cases c1 : d.kd = .line
    · rw [c1] at q
      refine ifT (decide_eq_true c1) ⟨_, rd own_lane, _, rd own_at, _, rd own_wide, _, rd own_tall, ?_⟩
      simp only [tSeq, tIfS, tOr, tAnd, tNot, tB, tTest, tCB, tCall, tCons, tVar, tNil, tC, tRet, tRetN, tNext, tAsg, gName, tDrop, tOp, tUn, tAug, ipI, tPar, tIf, tAndV, tOrV, tNotV, tChain, tNever, rI0, rI, rU, L2.start, cxK, List.map_cons, List.map_nil, List.length_cons, List.length_nil, Nat.reduceAdd, Nat.reduceSub, List.replicate, List.cons_append, List.nil_append, List.append_nil, List.set_cons_zero, List.set_cons_succ, List.getElem?_cons_zero, List.getElem?_cons_succ, Option.some.injEq, V.int.injEq, V.bl.injEq, exists_eq_left', exists_eq_left, exists_and_left, tFor_eq, iRng1, iRng2, iRng3, iList, iEnum, iZip, iTup, tLst_eq, tTup_eq, rCat_eq, rCatS, rSum, rAppend_eq, rListOf, rSlL_eq, tSl, tNoPart, tPart, tLc_eq, tBM, rIxL, rIxT, min3_eq, rEq_int, rNe_int, min_if, max_if, and_assoc, V.ref.injEq, V.str.injEq, List.cons.injEq, and_true, true_and, ↓reduceIte, Bool.false_eq_true, Bool.not_true, Bool.not_false, Int.reduceToNat, Int.reducePow, Int.reduceAdd, Int.reduceSub, Int.reduceNeg, tVirt, tOff, tFld, sFld_eq, tMake_eq, rTupOf, iStr, rNe_str, rEq_str, rEq_bl, tRaise1, tFmt, tJs, tCallS, WE, wKeep_eq, reduceCtorEq, false_and, and_false, exists_false, or_false, false_or, tIsN, tNotN, decide_true, decide_false, tDictN]
      exact ⟨sz_of (by decide), new_of fun p H1 np e1 hp => ⟨sz_of (by decide), new_of fun l H2 nl e2 hl => q l _ H2 (fresh_back e1 nl) (e1.trans e2) hl (tupL_one (by rw [e2 _ _ hp]; simp [bxV] <;> omega))⟩⟩
    refine ifF (decide_eq_false c1) ?_
    rw [← hN1]
    clear hN1
    refine cut_eq fun N1 hN1 => ?_
    simp only [tSeq, tIfS, tOr, tAnd, tNot, tB, tTest, tCB, tCall, tCons, tVar, tNil, tC, tRet, tRetN, tNext, tAsg, gName, tDrop, tOp, tUn, tAug, ipI, tPar, tIf, tAndV, tOrV, tNotV, tChain, tNever, rI0, rI, rU, L2.start, cxK, List.map_cons, List.map_nil, List.length_cons, List.length_nil, Nat.reduceAdd, Nat.reduceSub, List.replicate, List.cons_append, List.nil_append, List.append_nil, List.set_cons_zero, List.set_cons_succ, List.getElem?_cons_zero, List.getElem?_cons_succ, Option.some.injEq, V.int.injEq, V.bl.injEq, exists_eq_left', exists_eq_left, exists_and_left, tFor_eq, iRng1, iRng2, iRng3, iList, iEnum, iZip, iTup, tLst_eq, tTup_eq, rCat_eq, rCatS, rSum, rAppend_eq, rListOf, rSlL_eq, tSl, tNoPart, tPart, tLc_eq, tBM, rIxL, rIxT, min3_eq, rEq_int, rNe_int, min_if, max_if, and_assoc, V.ref.injEq, V.str.injEq, List.cons.injEq, and_true, true_and, ↓reduceIte, Bool.false_eq_true, Bool.not_true, Bool.not_false, Int.reduceToNat, Int.reducePow, Int.reduceAdd, Int.reduceSub, Int.reduceNeg, tVirt, tOff, tFld, sFld_eq, tMake_eq, rTupOf, iStr, rNe_str, rEq_str, rEq_bl, tRaise1, tFmt, tJs, tCallS, WE, wKeep_eq, reduceCtorEq, false_and, and_false, exists_false, or_false, false_or, tIsN, tNotN, decide_true, decide_false, tDictN, tDGet]
    refine ⟨_, rd own_kind, ?_⟩
    simp only [tSeq, tIfS, tOr, tAnd, tNot, tB, tTest, tCB, tCall, tCons, tVar, tNil, tC, tRet, tRetN, tNext, tAsg, gName, tDrop, tOp, tUn, tAug, ipI, tPar, tIf, tAndV, tOrV, tNotV, tChain, tNever, rI0, rI, rU, L2.start, cxK, List.map_cons, List.map_nil, List.length_cons, List.length_nil, Nat.reduceAdd, Nat.reduceSub, List.replicate, List.cons_append, List.nil_append, List.append_nil, List.set_cons_zero, List.set_cons_succ, List.getElem?_cons_zero, List.getElem?_cons_succ, Option.some.injEq, V.int.injEq, V.bl.injEq, exists_eq_left', exists_eq_left, exists_and_left, tFor_eq, iRng1, iRng2, iRng3, iList, iEnum, iZip, iTup, tLst_eq, tTup_eq, rCat_eq, rCatS, rSum, rAppend_eq, rListOf, rSlL_eq, tSl, tNoPart, tPart, tLc_eq, tBM, rIxL, rIxT, min3_eq, rEq_int, rNe_int, min_if, max_if, and_assoc, V.ref.injEq, V.str.injEq, List.cons.injEq, and_true, true_and, ↓reduceIte, Bool.false_eq_true, Bool.not_true, Bool.not_false, Int.reduceToNat, Int.reducePow, Int.reduceAdd, Int.reduceSub, Int.reduceNeg, tVirt, tOff, tFld, sFld_eq, tMake_eq, rTupOf, iStr, rNe_str, rEq_str, rEq_bl, tRaise1, tFmt, tJs, tCallS, WE, wKeep_eq, reduceCtorEq, false_and, and_false, exists_false, or_false, false_or, tIsN, tNotN, decide_true, decide_false, tDictN]
    rw [show ("wagon" : Str) = kdS .wagon from rfl, kdS_inj]
    by_cases c2 : d.kd = .wagon
    · rw [c2] at q
      refine ifT (decide_eq_true c2) ⟨_, rd own_lane, _, rd own_wide, ?_⟩
      simp only [tSeq, tIfS, tOr, tAnd, tNot, tB, tTest, tCB, tCall, tCons, tVar, tNil, tC, tRet, tRetN, tNext, tAsg, gName, tDrop, tOp, tUn, tAug, ipI, tPar, tIf, tAndV, tOrV, tNotV, tChain, tNever, rI0, rI, rU, L2.start, cxK, List.map_cons, List.map_nil, List.length_cons, List.length_nil, Nat.reduceAdd, Nat.reduceSub, List.replicate, List.cons_append, List.nil_append, List.append_nil, List.set_cons_zero, List.set_cons_succ, List.getElem?_cons_zero, List.getElem?_cons_succ, Option.some.injEq, V.int.injEq, V.bl.injEq, exists_eq_left', exists_eq_left, exists_and_left, tFor_eq, iRng1, iRng2, iRng3, iList, iEnum, iZip, iTup, tLst_eq, tTup_eq, rCat_eq, rCatS, rSum, rAppend_eq, rListOf, rSlL_eq, tSl, tNoPart, tPart, tLc_eq, tBM, rIxL, rIxT, min3_eq, rEq_int, rNe_int, min_if, max_if, and_assoc, V.ref.injEq, V.str.injEq, List.cons.injEq, and_true, true_and, ↓reduceIte, Bool.false_eq_true, Bool.not_true, Bool.not_false, Int.reduceToNat, Int.reducePow, Int.reduceAdd, Int.reduceSub, Int.reduceNeg, tVirt, tOff, tFld, sFld_eq, tMake_eq, rTupOf, iStr, rNe_str, rEq_str, rEq_bl, tRaise1, tFmt, tJs, tCallS, WE, wKeep_eq, reduceCtorEq, false_and, and_false, exists_false, or_false, false_or, tIsN, tNotN, decide_true, decide_false, tDictN]
      refine ⟨_, rd own_tall, ?_⟩
      exact ⟨sz_of (by decide), new_of fun p H1 np e1 hp => ⟨sz_of (by decide), new_of fun l H2 nl e2 hl => q l _ H2 (fresh_back e1 nl) (e1.trans e2) hl (tupL_one (by rw [e2 _ _ hp]; simp [bxV] <;> omega))⟩⟩
    refine ifF (decide_eq_false c2) ?_
    rw [← hN1]
    clear hN1
    refine cut_eq fun N1 hN1 => ?_
    simp only [tSeq, tIfS, tOr, tAnd, tNot, tB, tTest, tCB, tCall, tCons, tVar, tNil, tC, tRet, tRetN, tNext, tAsg, gName, tDrop, tOp, tUn, tAug, ipI, tPar, tIf, tAndV, tOrV, tNotV, tChain, tNever, rI0, rI, rU, L2.start, cxK, List.map_cons, List.map_nil, List.length_cons, List.length_nil, Nat.reduceAdd, Nat.reduceSub, List.replicate, List.cons_append, List.nil_append, List.append_nil, List.set_cons_zero, List.set_cons_succ, List.getElem?_cons_zero, List.getElem?_cons_succ, Option.some.injEq, V.int.injEq, V.bl.injEq, exists_eq_left', exists_eq_left, exists_and_left, tFor_eq, iRng1, iRng2, iRng3, iList, iEnum, iZip, iTup, tLst_eq, tTup_eq, rCat_eq, rCatS, rSum, rAppend_eq, rListOf, rSlL_eq, tSl, tNoPart, tPart, tLc_eq, tBM, rIxL, rIxT, min3_eq, rEq_int, rNe_int, min_if, max_if, and_assoc, V.ref.injEq, V.str.injEq, List.cons.injEq, and_true, true_and, ↓reduceIte, Bool.false_eq_true, Bool.not_true, Bool.not_false, Int.reduceToNat, Int.reducePow, Int.reduceAdd, Int.reduceSub, Int.reduceNeg, tVirt, tOff, tFld, sFld_eq, tMake_eq, rTupOf, iStr, rNe_str, rEq_str, rEq_bl, tRaise1, tFmt, tJs, tCallS, WE, wKeep_eq, reduceCtorEq, false_and, and_false, exists_false, or_false, false_or, tIsN, tNotN, decide_true, decide_false, tDictN, tDGet]
    refine ⟨_, rd own_kind, ?_⟩
    simp only [tSeq, tIfS, tOr, tAnd, tNot, tB, tTest, tCB, tCall, tCons, tVar, tNil, tC, tRet, tRetN, tNext, tAsg, gName, tDrop, tOp, tUn, tAug, ipI, tPar, tIf, tAndV, tOrV, tNotV, tChain, tNever, rI0, rI, rU, L2.start, cxK, List.map_cons, List.map_nil, List.length_cons, List.length_nil, Nat.reduceAdd, Nat.reduceSub, List.replicate, List.cons_append, List.nil_append, List.append_nil, List.set_cons_zero, List.set_cons_succ, List.getElem?_cons_zero, List.getElem?_cons_succ, Option.some.injEq, V.int.injEq, V.bl.injEq, exists_eq_left', exists_eq_left, exists_and_left, tFor_eq, iRng1, iRng2, iRng3, iList, iEnum, iZip, iTup, tLst_eq, tTup_eq, rCat_eq, rCatS, rSum, rAppend_eq, rListOf, rSlL_eq, tSl, tNoPart, tPart, tLc_eq, tBM, rIxL, rIxT, min3_eq, rEq_int, rNe_int, min_if, max_if, and_assoc, V.ref.injEq, V.str.injEq, List.cons.injEq, and_true, true_and, ↓reduceIte, Bool.false_eq_true, Bool.not_true, Bool.not_false, Int.reduceToNat, Int.reducePow, Int.reduceAdd, Int.reduceSub, Int.reduceNeg, tVirt, tOff, tFld, sFld_eq, tMake_eq, rTupOf, iStr, rNe_str, rEq_str, rEq_bl, tRaise1, tFmt, tJs, tCallS, WE, wKeep_eq, reduceCtorEq, false_and, and_false, exists_false, or_false, false_or, tIsN, tNotN, decide_true, decide_false, tDictN]
    rw [show ("trap" : Str) = kdS .trap from rfl, kdS_inj]
    by_cases c3 : d.kd = .trap
    · rw [c3] at q
      refine ifT (decide_eq_true c3) ⟨_, rd own_lane, _, rd own_at, _, rd own_wide, ?_⟩
      refine ⟨sz_of (by decide), new_of fun p H1 np e1 hp => ⟨sz_of (by decide), new_of fun l H2 nl e2 hl => ?_⟩⟩
      simp only [tSeq, tIfS, tOr, tAnd, tNot, tB, tTest, tCB, tCall, tCons, tVar, tNil, tC, tRet, tRetN, tNext, tAsg, gName, tDrop, tOp, tUn, tAug, ipI, tPar, tIf, tAndV, tOrV, tNotV, tChain, tNever, rI0, rI, rU, L2.start, cxK, List.map_cons, List.map_nil, List.length_cons, List.length_nil, Nat.reduceAdd, Nat.reduceSub, List.replicate, List.cons_append, List.nil_append, List.append_nil, List.set_cons_zero, List.set_cons_succ, List.getElem?_cons_zero, List.getElem?_cons_succ, Option.some.injEq, V.int.injEq, V.bl.injEq, exists_eq_left', exists_eq_left, exists_and_left, tFor_eq, iRng1, iRng2, iRng3, iList, iEnum, iZip, iTup, tLst_eq, tTup_eq, rCat_eq, rCatS, rSum, rAppend_eq, rListOf, rSlL_eq, tSl, tNoPart, tPart, tLc_eq, tBM, rIxL, rIxT, min3_eq, rEq_int, rNe_int, min_if, max_if, and_assoc, V.ref.injEq, V.str.injEq, List.cons.injEq, and_true, true_and, ↓reduceIte, Bool.false_eq_true, Bool.not_true, Bool.not_false, Int.reduceToNat, Int.reducePow, Int.reduceAdd, Int.reduceSub, Int.reduceNeg, tVirt, tOff, tFld, sFld_eq, tMake_eq, rTupOf, iStr, rNe_str, rEq_str, rEq_bl, tRaise1, tFmt, tJs, tCallS, WE, wKeep_eq, reduceCtorEq, false_and, and_false, exists_false, or_false, false_or, tIsN, tNotN, decide_true, decide_false, tDictN, rIntB, rRepE]
      dsimp only at q
      by_cases sn : lo < 0
      · rw [if_pos sn] at q
        rw [decide_eq_true sn]
        exact ⟨_, hl, by decide, by decide, sz_of (by simp [ib]), new_of fun p3 H3 np3 e3 hp3 => q p3 [.ref p] H3 (fresh_back (e1.trans e2) np3) ((e1.trans e2).trans e3) hp3 (tupL_one ((e2.trans e3) _ _ hp))⟩
      · rw [if_neg sn] at q
        rw [decide_eq_false sn]
        exact ⟨_, hl, by decide, by decide, sz_of (by simp [ib]), new_of fun p3 H3 np3 e3 hp3 => q p3 [] H3 (fresh_back (e1.trans e2) np3) ((e1.trans e2).trans e3) hp3 ⟨rfl, fun i x l h => by cases h⟩⟩
    refine ifF (decide_eq_false c3) ?_
    rw [← hN1]
    clear hN1
    have c4 : d.kd = .floor := by
      cases e : d.kd with
      | line => exact absurd e c1
      | wagon => exact absurd e c2
      | trap => exact absurd e c3
      | floor => rfl
    rw [c4] at q
    dsimp only at q
    have hlen := tw.1
    simp only [tSeq, tIfS, tOr, tAnd, tNot, tB, tTest, tCB, tCall, tCons, tVar, tNil, tC, tRet, tRetN, tNext, tAsg, gName, tDrop, tOp, tUn, tAug, ipI, tPar, tIf, tAndV, tOrV, tNotV, tChain, tNever, rI0, rI, rU, L2.start, cxK, List.map_cons, List.map_nil, List.length_cons, List.length_nil, Nat.reduceAdd, Nat.reduceSub, List.replicate, List.cons_append, List.nil_append, List.append_nil, List.set_cons_zero, List.set_cons_succ, List.getElem?_cons_zero, List.getElem?_cons_succ, Option.some.injEq, V.int.injEq, V.bl.injEq, exists_eq_left', exists_eq_left, exists_and_left, tFor_eq, iRng1, iRng2, iRng3, iList, iEnum, iZip, iTup, tLst_eq, tTup_eq, rCat_eq, rCatS, rSum, rAppend_eq, rListOf, rSlL_eq, tSl, tNoPart, tPart, tLc_eq, tBM, rIxL, rIxT, min3_eq, rEq_int, rNe_int, min_if, max_if, and_assoc, V.ref.injEq, V.str.injEq, List.cons.injEq, and_true, true_and, ↓reduceIte, Bool.false_eq_true, Bool.not_true, Bool.not_false, Int.reduceToNat, Int.reducePow, Int.reduceAdd, Int.reduceSub, Int.reduceNeg, tVirt, tOff, tFld, sFld_eq, tMake_eq, rTupOf, iStr, rNe_str, rEq_str, rEq_bl, tRaise1, tFmt, tJs, tCallS, WE, wKeep_eq, reduceCtorEq, false_and, and_false, exists_false, or_false, false_or, tIsN, tNotN, decide_true, decide_false, tDictN, tDGet]
    refine ⟨_, rd own_walls, ?_⟩
    simp only [tSeq, tIfS, tOr, tAnd, tNot, tB, tTest, tCB, tCall, tCons, tVar, tNil, tC, tRet, tRetN, tNext, tAsg, gName, tDrop, tOp, tUn, tAug, ipI, tPar, tIf, tAndV, tOrV, tNotV, tChain, tNever, rI0, rI, rU, L2.start, cxK, List.map_cons, List.map_nil, List.length_cons, List.length_nil, Nat.reduceAdd, Nat.reduceSub, List.replicate, List.cons_append, List.nil_append, List.append_nil, List.set_cons_zero, List.set_cons_succ, List.getElem?_cons_zero, List.getElem?_cons_succ, Option.some.injEq, V.int.injEq, V.bl.injEq, exists_eq_left', exists_eq_left, exists_and_left, tFor_eq, iRng1, iRng2, iRng3, iList, iEnum, iZip, iTup, tLst_eq, tTup_eq, rCat_eq, rCatS, rSum, rAppend_eq, rListOf, rSlL_eq, tSl, tNoPart, tPart, tLc_eq, tBM, rIxL, rIxT, min3_eq, rEq_int, rNe_int, min_if, max_if, and_assoc, V.ref.injEq, V.str.injEq, List.cons.injEq, and_true, true_and, ↓reduceIte, Bool.false_eq_true, Bool.not_true, Bool.not_false, Int.reduceToNat, Int.reducePow, Int.reduceAdd, Int.reduceSub, Int.reduceNeg, tVirt, tOff, tFld, sFld_eq, tMake_eq, rTupOf, iStr, rNe_str, rEq_str, rEq_bl, tRaise1, tFmt, tJs, tCallS, WE, wKeep_eq, reduceCtorEq, false_and, and_false, exists_false, or_false, false_or, tIsN, tNotN, decide_true, decide_false, tDictN]
    obtain ⟨fb, hfb⟩ : ∃ fb : Wl → List V, fb = fun wl => bxV ⟨d.lane, wl.1 + lo, wl.2.1 + hi - lo, 0, wl.2.2⟩ := ⟨_, rfl⟩
    have eb : (d.walls.map fun wl => (⟨d.lane, wl.1 + lo, wl.2.1 + hi - lo, 0, wl.2.2⟩ : Bx)).map bxV = d.walls.map fb := by
      rw [List.map_map, hfb]
      rfl
    unfold RetB at q
    rw [eb] at q
    refine ⟨⟨_, sq_of hw⟩, fun Dl hD => lc_grow (walk_list (xs := xs)) (fun k acc H' => TupL H' acc ((d.walls.take k).map fb)) hD (fun H' e => sq_of (e _ _ hw)) (fun H' _ => ⟨rfl, fun i x w h => by cases h⟩) ?_ ?_⟩
    · rintro k x acc H0 H' hik e0 h0 hl r ⟨rfl, hx⟩
      obtain ⟨wl, hwl⟩ : ∃ wl, d.walls[k]? = some wl := ⟨d.walls[k]'(by rw [← hlen]; exact hik), List.getElem?_eq_getElem (by rw [← hlen]; exact hik)⟩
      obtain ⟨b, rfl, hb⟩ := tw.2 k x wl hx hwl
      have sb := st_of (K := K) (e0 _ _ hb)
      simp only [tSeq, tIfS, tOr, tAnd, tNot, tB, tTest, tCB, tCall, tCons, tVar, tNil, tC, tRet, tRetN, tNext, tAsg, gName, tDrop, tOp, tUn, tAug, ipI, tPar, tIf, tAndV, tOrV, tNotV, tChain, tNever, rI0, rI, rU, L2.start, cxK, List.map_cons, List.map_nil, List.length_cons, List.length_nil, Nat.reduceAdd, Nat.reduceSub, List.replicate, List.cons_append, List.nil_append, List.append_nil, List.set_cons_zero, List.set_cons_succ, List.getElem?_cons_zero, List.getElem?_cons_succ, Option.some.injEq, V.int.injEq, V.bl.injEq, exists_eq_left', exists_eq_left, exists_and_left, tFor_eq, iRng1, iRng2, iRng3, iList, iEnum, iZip, iTup, tLst_eq, tTup_eq, rCat_eq, rCatS, rSum, rAppend_eq, rListOf, rSlL_eq, tSl, tNoPart, tPart, tLc_eq, tBM, rIxL, rIxT, min3_eq, rEq_int, rNe_int, min_if, max_if, and_assoc, V.ref.injEq, V.str.injEq, List.cons.injEq, and_true, true_and, ↓reduceIte, Bool.false_eq_true, Bool.not_true, Bool.not_false, Int.reduceToNat, Int.reducePow, Int.reduceAdd, Int.reduceSub, Int.reduceNeg, tVirt, tOff, tFld, sFld_eq, tMake_eq, rTupOf, iStr, rNe_str, rEq_str, rEq_bl, tRaise1, tFmt, tJs, tCallS, WE, wKeep_eq, reduceCtorEq, false_and, and_false, exists_false, or_false, false_or, tIsN, tNotN, decide_true, decide_false, tDictN, wipe, tYes, tDGet]
      refine ⟨_, .inl ⟨_, Sum.inr "lane", .inl (e0 _ _ ho), rfl, own_lane.symm⟩, _, sb, _, rfl, ?_⟩
      simp only [tSeq, tIfS, tOr, tAnd, tNot, tB, tTest, tCB, tCall, tCons, tVar, tNil, tC, tRet, tRetN, tNext, tAsg, gName, tDrop, tOp, tUn, tAug, ipI, tPar, tIf, tAndV, tOrV, tNotV, tChain, tNever, rI0, rI, rU, L2.start, cxK, List.map_cons, List.map_nil, List.length_cons, List.length_nil, Nat.reduceAdd, Nat.reduceSub, List.replicate, List.cons_append, List.nil_append, List.append_nil, List.set_cons_zero, List.set_cons_succ, List.getElem?_cons_zero, List.getElem?_cons_succ, Option.some.injEq, V.int.injEq, V.bl.injEq, exists_eq_left', exists_eq_left, exists_and_left, tFor_eq, iRng1, iRng2, iRng3, iList, iEnum, iZip, iTup, tLst_eq, tTup_eq, rCat_eq, rCatS, rSum, rAppend_eq, rListOf, rSlL_eq, tSl, tNoPart, tPart, tLc_eq, tBM, rIxL, rIxT, min3_eq, rEq_int, rNe_int, min_if, max_if, and_assoc, V.ref.injEq, V.str.injEq, List.cons.injEq, and_true, true_and, ↓reduceIte, Bool.false_eq_true, Bool.not_true, Bool.not_false, Int.reduceToNat, Int.reducePow, Int.reduceAdd, Int.reduceSub, Int.reduceNeg, tVirt, tOff, tFld, sFld_eq, tMake_eq, rTupOf, iStr, rNe_str, rEq_str, rEq_bl, tRaise1, tFmt, tJs, tCallS, WE, wKeep_eq, reduceCtorEq, false_and, and_false, exists_false, or_false, false_or, tIsN, tNotN, decide_true, decide_false, tDictN]
      refine ⟨_, sb, _, rfl, ?_⟩
      simp only [tSeq, tIfS, tOr, tAnd, tNot, tB, tTest, tCB, tCall, tCons, tVar, tNil, tC, tRet, tRetN, tNext, tAsg, gName, tDrop, tOp, tUn, tAug, ipI, tPar, tIf, tAndV, tOrV, tNotV, tChain, tNever, rI0, rI, rU, L2.start, cxK, List.map_cons, List.map_nil, List.length_cons, List.length_nil, Nat.reduceAdd, Nat.reduceSub, List.replicate, List.cons_append, List.nil_append, List.append_nil, List.set_cons_zero, List.set_cons_succ, List.getElem?_cons_zero, List.getElem?_cons_succ, Option.some.injEq, V.int.injEq, V.bl.injEq, exists_eq_left', exists_eq_left, exists_and_left, tFor_eq, iRng1, iRng2, iRng3, iList, iEnum, iZip, iTup, tLst_eq, tTup_eq, rCat_eq, rCatS, rSum, rAppend_eq, rListOf, rSlL_eq, tSl, tNoPart, tPart, tLc_eq, tBM, rIxL, rIxT, min3_eq, rEq_int, rNe_int, min_if, max_if, and_assoc, V.ref.injEq, V.str.injEq, List.cons.injEq, and_true, true_and, ↓reduceIte, Bool.false_eq_true, Bool.not_true, Bool.not_false, Int.reduceToNat, Int.reducePow, Int.reduceAdd, Int.reduceSub, Int.reduceNeg, tVirt, tOff, tFld, sFld_eq, tMake_eq, rTupOf, iStr, rNe_str, rEq_str, rEq_bl, tRaise1, tFmt, tJs, tCallS, WE, wKeep_eq, reduceCtorEq, false_and, and_false, exists_false, or_false, false_or, tIsN, tNotN, decide_true, decide_false, tDictN]
      refine ⟨_, sb, _, rfl, sz_of (by decide), new_of fun p G np eg hp => ?_⟩
      refine putG_of hD (e0.trans eg) (eg _ _ h0) hl (sz_lt (by omega)) fun H5 k5 => ?_
      have nD : p ≠ Dl := fun z => by rw [z] at np; rw [np] at h0; cases h0
      rw [List.take_succ, hwl, List.map_append]
      refine TupL.snoc ?_ (by rw [k5 p nD, hp, hfb]; simp [bxV] <;> omega)
      refine ⟨r.1, fun j y v g1 g2 => ?_⟩
      obtain ⟨c, rc, qc⟩ := r.2 j y v g1 g2
      have nc : c ≠ Dl := fun z => by rw [z, h0] at qc; cases qc
      exact ⟨c, rc, by rw [k5 c nc]; exact eg _ _ qc⟩
    · intro acc H9 e9 h9 r9
      rw [List.take_of_length_le (by omega)] at r9
      exact q Dl acc H9 hD e9 h9 r9
/-! ### what is compared -/
def flatD : V → PyData
  | .int i => .int i
  | .str x => .str x
  | .bl b => .bool b
  | _ => .none
def flatOk : V → Bool
  | .int _ => true
  | .bl _ => true
  | .non => true
  | .str x => PyData.strOk x
  | _ => false
theorem dp_flat {H : Hp} {v : V} (h : flatOk v = true) : Dp K H v (flatD v) := by
  cases v with
  | int i => exact .int i
  | bl b => exact .bl b
  | non => exact .non
  | str x => exact .str x
  | _ => cases h
theorem dpAll_flat {H : Hp} : ∀ {vs : List V}, vs.all flatOk = true → DpAll K H vs (vs.map flatD)
  | [], _ => .nil
  | v :: vs, h => by
    rw [List.all_cons, Bool.and_eq_true] at h
    exact .cons (dp_flat h.1) (dpAll_flat h.2)
theorem lay_flat {v : V} (h : flatOk v = true) : (flatD v).canLay0 = true ∧ (flatD v).depth = 0 ∧ PyData.eqv (flatD v) (flatD v) = true := by
  cases v with
  | int i => exact ⟨rfl, rfl, by simp [flatD, PyData.eqv]⟩
  | bl b => exact ⟨rfl, rfl, by simp [flatD, PyData.eqv]⟩
  | non => exact ⟨rfl, rfl, rfl⟩
  | str x => exact ⟨h, rfl, by simp [flatD, PyData.eqv]⟩
  | _ => cases h
theorem layAll_flat : ∀ {vs : List V}, vs.all flatOk = true → PyData.canLayAll0 (vs.map flatD) = true ∧ PyData.depthAll (vs.map flatD) = 0 ∧ PyData.eqvAll (vs.map flatD) (vs.map flatD) = true
  | [], _ => ⟨rfl, rfl, rfl⟩
  | v :: vs, h => by
    rw [List.all_cons, Bool.and_eq_true] at h
    obtain ⟨a1, a2, a3⟩ := lay_flat h.1
    obtain ⟨b1, b2, b3⟩ := layAll_flat h.2
    refine ⟨?_, ?_, ?_⟩
    · rw [List.map_cons, PyData.canLayAll0, a1, b1]
      rfl
    · rw [List.map_cons, PyData.depthAll, a2, b2]
      rfl
    · rw [List.map_cons, PyData.eqvAll, a3, b3]
      rfl
def bxD (b : Bx) : PyData := .tuple ((bxV b).map flatD)
theorem bx_flat (b : Bx) : (bxV b).all flatOk = true := rfl
theorem layAll_bx : ∀ bs : List Bx, PyData.canLayAll0 (bs.map bxD) = true ∧ PyData.depthAll (bs.map bxD) ≤ 1 ∧ PyData.eqvAll (bs.map bxD) (bs.map bxD) = true
  | [] => ⟨rfl, by decide, rfl⟩
  | b :: bs => by
    obtain ⟨a1, a2, a3⟩ := layAll_flat (bx_flat b)
    obtain ⟨b1, b2, b3⟩ := layAll_bx bs
    refine ⟨?_, ?_, ?_⟩
    · rw [List.map_cons, PyData.canLayAll0, b1, show (bxD b).canLay0 = _ from rfl]
      show (PyData.canLayAll0 ((bxV b).map flatD) && true) = true
      rw [a1]
      rfl
    · rw [List.map_cons, PyData.depthAll]
      have : (bxD b).depth = 1 := by
        show PyData.depthAll ((bxV b).map flatD) + 1 = 1
        rw [a2]
      omega
    · rw [List.map_cons, PyData.eqvAll, b3]
      have : PyData.eqv (bxD b) (bxD b) = true := by
        unfold bxD
        rw [PyData.eqv]
        exact a3
      rw [this]
      rfl
theorem dpAll_bx {H : Hp} : ∀ {xs : List V} {bs : List Bx}, TupL H xs (bs.map bxV) → DpAll K H xs (bs.map bxD)
  | [], [], _ => .nil
  | [], _ :: _, h => by cases h.1
  | _ :: _, [], h => by cases h.1
  | x :: xs, b :: bs, h => by
    obtain ⟨t, rfl, ht⟩ := h.2 0 x (bxV b) rfl rfl
    exact .cons (.tup (st_of ht) (dpAll_flat (bx_flat b))) (dpAll_bx ⟨Nat.succ.inj h.1, fun i x l h1 h2 => h.2 (i + 1) x l h1 h2⟩)
theorem shaped_list {ds : List PyData} (h1 : PyData.canLayAll0 ds = true) (h2 : PyData.depthAll ds ≤ 60) : SeqAt.shaped (.list ds) = true := by
  unfold SeqAt.shaped
  rw [show (PyData.list ds).canLay0 = true from h1, show (PyData.list ds).depth = PyData.depthAll ds + 1 from rfl, decide_eq_true (by omega)]
  rfl
theorem neD_flats {H : Hp} {a b : Addr} {vs : List V} {Q : VK} (f : vs.all flatOk = true) (ha : SqL K H a vs) (hb : SqL K H b vs) (q : Q (.bl false) H) : rNeD K (.ref a) (.ref b) H Q := by
  obtain ⟨l1, l2, l3⟩ := layAll_flat f
  refine ⟨_, _, .lst ha (dpAll_flat f), .lst hb (dpAll_flat f), shaped_list l1 (by omega), shaped_list l1 (by omega), ?_⟩
  rw [PyData.eqv, l3]
  exact q
theorem eqD_flats {H : Hp} {a b : Addr} {vs : List V} {Q : VK} (f : vs.all flatOk = true) (ha : SqL K H a vs) (hb : SqL K H b vs) (q : Q (.bl true) H) : rEqD K (.ref a) (.ref b) H Q := by
  obtain ⟨l1, l2, l3⟩ := layAll_flat f
  refine ⟨_, _, .lst ha (dpAll_flat f), .lst hb (dpAll_flat f), shaped_list l1 (by omega), shaped_list l1 (by omega), ?_⟩
  rw [PyData.eqv, l3]
  exact q
theorem neD_boxes {H : Hp} {a b : Addr} {xs ys : List V} {bs : List Bx} {Q : VK} (ha : SqL K H a xs) (tx : TupL H xs (bs.map bxV)) (hb : SqL K H b ys) (ty : TupL H ys (bs.map bxV)) (q : Q (.bl false) H) : rNeD K (.ref a) (.ref b) H Q := by
  obtain ⟨l1, l2, l3⟩ := layAll_bx bs
  refine ⟨_, _, .lst ha (dpAll_bx tx), .lst hb (dpAll_bx ty), shaped_list l1 (by omega), shaped_list l1 (by omega), ?_⟩
  rw [PyData.eqv, l3]
  exact q
/-! ### what is caught -/
structure Exn (K : PySem.W.Frag) (cl : Nat → Addr) : Prop where
  n1 : PySem.W.kitOne K (.ref (cl 1)) (.ref (cl 7)) = some false
  n2 : PySem.W.kitOne K (.ref (cl 2)) (.ref (cl 7)) = some false
def sp__law_classes (A1 A2 : Addr) : Sp := fun vs H Q _ => ∃ (a C : Addr) (t : Str), vs = [.ref a] ∧ H a = some (ExK (.ref C) none a) ∧ ((C = A1 ∧ t = "number ") ∨ (C = A2 ∧ t = "name ")) ∧ RetV (.str t) H Q
theorem ok__law_classes (B : Bt mg cl) (EE : Exs K mg cl) (EN : Exn K cl) {f : Addr} {fd : FuncData} (F : Fun K "_law_classes" "_law_classes" s__law_classes f fd) : FnOk P w K mg base CX0 1 f fd ["_law_caught"] (sp__law_classes (cl 1) (cl 2)) := by
  refine F.ok sc__law_classes (fun vs H Q E h => ?_) (fun cdv A outer s H vs Q E hr h => ?_)
  · obtain ⟨a, C, t, rfl, _⟩ := h
    rfl
  · obtain ⟨a, C, t, rfl, ha, c, q⟩ := h
    refine ⟨_, (pss_cons (ps_if (PW.pt (pw_or (pt_cmpR op_isN (pv 0) pe_non (nomark _)) (pw_or1 (pt_not (pt_val (pe_callB (k_isY (K := K) rfl) (by rfl) B.b_isinstance (by decide +kernel) (pa_cons (pv 0) (pa_cons (pe_bltn (v := .ty "ValueError") (by rfl) B.b_ValueError (by decide +kernel) rfl) pa_nil))))))))
        (pss_one (ps_ret pe_str))
        pss_nil)
      (pss_cons (ps_set (i := 1) sc__law_classes.nd rfl (.inl rfl) (pe_op op_add_str (pe_op op_mulS pe_str (pe_callTy call_intB (by rfl) B.b_int (by decide +kernel) (pa_cons (pe_callB (k_isY (K := K) rfl) (by rfl) B.b_isinstance (by decide +kernel) (pa_cons (pv 0) (pa_cons (pe_glob (v := .ref _) (by rfl) B.c_BadNumber rfl) pa_nil))) pa_nil))) (pe_op op_mulS pe_str (pe_callTy call_intB (by rfl) B.b_int (by decide +kernel) (pa_cons (pe_callB (k_isY (K := K) rfl) (by rfl) B.b_isinstance (by decide +kernel) (pa_cons (pv 0) (pa_cons (pe_glob (v := .ref _) (by rfl) B.c_BadName rfl) pa_nil))) pa_nil)))))
      (pss_cons (ps_set (i := 1) sc__law_classes.nd rfl (.inl rfl) (pe_op op_add_str (pe_op op_add_str (pv 1) (pe_op op_mulS pe_str (pe_callTy call_intB (by rfl) B.b_int (by decide +kernel) (pa_cons (pe_callB (k_isY (K := K) rfl) (by rfl) B.b_isinstance (by decide +kernel) (pa_cons (pv 0) (pa_cons (pe_glob (v := .ref _) (by rfl) B.c_BadStage rfl) pa_nil))) pa_nil)))) (pe_op op_mulS pe_str (pe_callTy call_intB (by rfl) B.b_int (by decide +kernel) (pa_cons (pe_callB (k_isY (K := K) rfl) (by rfl) B.b_isinstance (by decide +kernel) (pa_cons (pv 0) (pa_cons (pe_glob (v := .ref _) (by rfl) B.c_TooNear rfl) pa_nil))) pa_nil)))))
      (pss_cons (ps_set (i := 2) sc__law_classes.nd rfl (.inl rfl) (pe_callB (k_isYT (K := K) rfl) (by rfl) B.b_isinstance (by decide +kernel) (pa_cons (pv 0) (pa_cons (pe_tup (pa_cons (pe_glob (v := .ref _) (by rfl) B.c_BadSheet rfl) (pa_cons (pe_glob (v := .ref _) (by rfl) B.c_TooLong rfl) (pa_cons (pe_glob (v := .ref _) (by rfl) B.c_Busy rfl) (pa_cons (pe_glob (v := .ref _) (by rfl) B.c_Stopped rfl) (pa_cons (pe_glob (v := .ref _) (by rfl) B.c_NotStopped rfl) (pa_cons (pe_glob (v := .ref _) (by rfl) B.c_Moving rfl) (pa_cons (pe_glob (v := .ref _) (by rfl) B.c_NoCue rfl) (pa_cons (pe_glob (v := .ref _) (by rfl) B.c_BadRow rfl) pa_nil))))))))) pa_nil))))
      (pss_one (ps_ret (pe_op op_add_str (pv 1) (pe_op op_mulS pe_str (pe_callTy call_intB (by rfl) B.b_int (by decide +kernel) (pa_cons (pv 2) pa_nil)))))))))), ?_⟩
    rcases c with ⟨rfl, rfl⟩ | ⟨rfl, rfl⟩
    · have ty : TyY K H (.ref a) (.ref (cl 1)) := .exc ha EE.BadNumber.ec
      refine cut_eq fun N1 hN1 => ?_
      simp only [tSeq, tIfS, tOr, tAnd, tNot, tB, tTest, tCB, tCall, tCons, tVar, tNil, tC, tRet, tRetN, tNext, tAsg, gName, tDrop, tOp, tUn, tAug, ipI, tPar, tIf, tAndV, tOrV, tNotV, tChain, tNever, rI0, rI, rU, L2.start, cxK, List.map_cons, List.map_nil, List.length_cons, List.length_nil, Nat.reduceAdd, Nat.reduceSub, List.replicate, List.cons_append, List.nil_append, List.append_nil, List.set_cons_zero, List.set_cons_succ, List.getElem?_cons_zero, List.getElem?_cons_succ, Option.some.injEq, V.int.injEq, V.bl.injEq, exists_eq_left', exists_eq_left, exists_and_left, tFor_eq, iRng1, iRng2, iRng3, iList, iEnum, iZip, iTup, tLst_eq, tTup_eq, rCat_eq, rCatS, rSum, rAppend_eq, rListOf, rSlL_eq, tSl, tNoPart, tPart, tLc_eq, tBM, rIxL, rIxT, min3_eq, rEq_int, rNe_int, min_if, max_if, and_assoc, V.ref.injEq, V.str.injEq, List.cons.injEq, and_true, true_and, ↓reduceIte, Bool.false_eq_true, Bool.not_true, Bool.not_false, Int.reduceToNat, Int.reducePow, Int.reduceAdd, Int.reduceSub, Int.reduceNeg, tVirt, tOff, tFld, sFld_eq, tMake_eq, rTupOf, iStr, rNe_str, rEq_str, rEq_bl, tRaise1, tFmt, tJs, tCallS, WE, wKeep_eq, reduceCtorEq, false_and, and_false, exists_false, or_false, false_or, tIsN, tNotN, decide_true, decide_false, tDictN]
      refine isy ty EE.v_BadNumber ⟨_, rfl, ifF rfl ?_⟩
      rw [← hN1]
      clear hN1
      refine cut_eq fun N1 hN1 => ?_
      simp only [tSeq, tIfS, tOr, tAnd, tNot, tB, tTest, tCB, tCall, tCons, tVar, tNil, tC, tRet, tRetN, tNext, tAsg, gName, tDrop, tOp, tUn, tAug, ipI, tPar, tIf, tAndV, tOrV, tNotV, tChain, tNever, rI0, rI, rU, L2.start, cxK, List.map_cons, List.map_nil, List.length_cons, List.length_nil, Nat.reduceAdd, Nat.reduceSub, List.replicate, List.cons_append, List.nil_append, List.append_nil, List.set_cons_zero, List.set_cons_succ, List.getElem?_cons_zero, List.getElem?_cons_succ, Option.some.injEq, V.int.injEq, V.bl.injEq, exists_eq_left', exists_eq_left, exists_and_left, tFor_eq, iRng1, iRng2, iRng3, iList, iEnum, iZip, iTup, tLst_eq, tTup_eq, rCat_eq, rCatS, rSum, rAppend_eq, rListOf, rSlL_eq, tSl, tNoPart, tPart, tLc_eq, tBM, rIxL, rIxT, min3_eq, rEq_int, rNe_int, min_if, max_if, and_assoc, V.ref.injEq, V.str.injEq, List.cons.injEq, and_true, true_and, ↓reduceIte, Bool.false_eq_true, Bool.not_true, Bool.not_false, Int.reduceToNat, Int.reducePow, Int.reduceAdd, Int.reduceSub, Int.reduceNeg, tVirt, tOff, tFld, sFld_eq, tMake_eq, rTupOf, iStr, rNe_str, rEq_str, rEq_bl, tRaise1, tFmt, tJs, tCallS, WE, wKeep_eq, reduceCtorEq, false_and, and_false, exists_false, or_false, false_or, tIsN, tNotN, decide_true, decide_false, tDictN, rIntB, rMulS]
      refine isyC ty EE.k_BadNumber_BadNumber ⟨_, rfl, .inr rfl, isyC ty EE.k_BadNumber_BadName ⟨_, rfl, .inl rfl, sz_of (by decide +kernel), ?_⟩⟩
      have e1 : ((if ib true = 1 then Str.ofString "number " else Str.empty) ++ if ib false = 1 then Str.ofString "name " else Str.empty) = Str.ofString "number " := by decide +kernel
      rw [e1, ← hN1]
      clear hN1
      refine cut_eq fun N1 hN1 => ?_
      simp only [tSeq, tIfS, tOr, tAnd, tNot, tB, tTest, tCB, tCall, tCons, tVar, tNil, tC, tRet, tRetN, tNext, tAsg, gName, tDrop, tOp, tUn, tAug, ipI, tPar, tIf, tAndV, tOrV, tNotV, tChain, tNever, rI0, rI, rU, L2.start, cxK, List.map_cons, List.map_nil, List.length_cons, List.length_nil, Nat.reduceAdd, Nat.reduceSub, List.replicate, List.cons_append, List.nil_append, List.append_nil, List.set_cons_zero, List.set_cons_succ, List.getElem?_cons_zero, List.getElem?_cons_succ, Option.some.injEq, V.int.injEq, V.bl.injEq, exists_eq_left', exists_eq_left, exists_and_left, tFor_eq, iRng1, iRng2, iRng3, iList, iEnum, iZip, iTup, tLst_eq, tTup_eq, rCat_eq, rCatS, rSum, rAppend_eq, rListOf, rSlL_eq, tSl, tNoPart, tPart, tLc_eq, tBM, rIxL, rIxT, min3_eq, rEq_int, rNe_int, min_if, max_if, and_assoc, V.ref.injEq, V.str.injEq, List.cons.injEq, and_true, true_and, ↓reduceIte, Bool.false_eq_true, Bool.not_true, Bool.not_false, Int.reduceToNat, Int.reducePow, Int.reduceAdd, Int.reduceSub, Int.reduceNeg, tVirt, tOff, tFld, sFld_eq, tMake_eq, rTupOf, iStr, rNe_str, rEq_str, rEq_bl, tRaise1, tFmt, tJs, tCallS, WE, wKeep_eq, reduceCtorEq, false_and, and_false, exists_false, or_false, false_or, tIsN, tNotN, decide_true, decide_false, tDictN, rIntB, rMulS]
      refine isyC ty EE.k_BadNumber_BadStage ⟨_, rfl, .inl rfl, sz_of (by decide +kernel), isyC ty EN.n1 ⟨_, rfl, .inl rfl, sz_of (by decide +kernel), ?_⟩⟩
      have e2 : ((Str.ofString "number " ++ if ib false = 1 then Str.ofString "stage " else Str.empty) ++ if ib false = 1 then Str.ofString "near " else Str.empty) = Str.ofString "number " := by decide +kernel
      rw [e2, ← hN1]
      clear hN1
      refine cut_eq fun N1 hN1 => ?_
      simp only [tSeq, tIfS, tOr, tAnd, tNot, tB, tTest, tCB, tCall, tCons, tVar, tNil, tC, tRet, tRetN, tNext, tAsg, gName, tDrop, tOp, tUn, tAug, ipI, tPar, tIf, tAndV, tOrV, tNotV, tChain, tNever, rI0, rI, rU, L2.start, cxK, List.map_cons, List.map_nil, List.length_cons, List.length_nil, Nat.reduceAdd, Nat.reduceSub, List.replicate, List.cons_append, List.nil_append, List.append_nil, List.set_cons_zero, List.set_cons_succ, List.getElem?_cons_zero, List.getElem?_cons_succ, Option.some.injEq, V.int.injEq, V.bl.injEq, exists_eq_left', exists_eq_left, exists_and_left, tFor_eq, iRng1, iRng2, iRng3, iList, iEnum, iZip, iTup, tLst_eq, tTup_eq, rCat_eq, rCatS, rSum, rAppend_eq, rListOf, rSlL_eq, tSl, tNoPart, tPart, tLc_eq, tBM, rIxL, rIxT, min3_eq, rEq_int, rNe_int, min_if, max_if, and_assoc, V.ref.injEq, V.str.injEq, List.cons.injEq, and_true, true_and, ↓reduceIte, Bool.false_eq_true, Bool.not_true, Bool.not_false, Int.reduceToNat, Int.reducePow, Int.reduceAdd, Int.reduceSub, Int.reduceNeg, tVirt, tOff, tFld, sFld_eq, tMake_eq, rTupOf, iStr, rNe_str, rEq_str, rEq_bl, tRaise1, tFmt, tJs, tCallS, WE, wKeep_eq, reduceCtorEq, false_and, and_false, exists_false, or_false, false_or, tIsN, tNotN, decide_true, decide_false, tDictN]
      refine ⟨sz_of (by decide), new_of fun p2 H2 n2 e2 h2 => ⟨_, _, _, .ref (cl 1), _, false, rfl, h2, .cons (.own _) (.cons (.own _) (.cons (.own _) (.cons (.own _) (.cons (.own _) (.cons (.own _) (.cons (.own _) (.cons (.own _) .nil))))))), .exc (e2 _ _ ha) EE.BadNumber.ec, EE.o0_BadNumber, ?_⟩⟩
      rw [← hN1]
      clear hN1
      simp only [tSeq, tIfS, tOr, tAnd, tNot, tB, tTest, tCB, tCall, tCons, tVar, tNil, tC, tRet, tRetN, tNext, tAsg, gName, tDrop, tOp, tUn, tAug, ipI, tPar, tIf, tAndV, tOrV, tNotV, tChain, tNever, rI0, rI, rU, L2.start, cxK, List.map_cons, List.map_nil, List.length_cons, List.length_nil, Nat.reduceAdd, Nat.reduceSub, List.replicate, List.cons_append, List.nil_append, List.append_nil, List.set_cons_zero, List.set_cons_succ, List.getElem?_cons_zero, List.getElem?_cons_succ, Option.some.injEq, V.int.injEq, V.bl.injEq, exists_eq_left', exists_eq_left, exists_and_left, tFor_eq, iRng1, iRng2, iRng3, iList, iEnum, iZip, iTup, tLst_eq, tTup_eq, rCat_eq, rCatS, rSum, rAppend_eq, rListOf, rSlL_eq, tSl, tNoPart, tPart, tLc_eq, tBM, rIxL, rIxT, min3_eq, rEq_int, rNe_int, min_if, max_if, and_assoc, V.ref.injEq, V.str.injEq, List.cons.injEq, and_true, true_and, ↓reduceIte, Bool.false_eq_true, Bool.not_true, Bool.not_false, Int.reduceToNat, Int.reducePow, Int.reduceAdd, Int.reduceSub, Int.reduceNeg, tVirt, tOff, tFld, sFld_eq, tMake_eq, rTupOf, iStr, rNe_str, rEq_str, rEq_bl, tRaise1, tFmt, tJs, tCallS, WE, wKeep_eq, reduceCtorEq, false_and, and_false, exists_false, or_false, false_or, tIsN, tNotN, decide_true, decide_false, tDictN, rIntB, rMulS]
      refine ⟨.inl rfl, sz_of (by decide +kernel), ?_⟩
      have e3 : (Str.ofString "number " ++ if ib false = 1 then Str.ofString "other " else Str.empty) = Str.ofString "number " := by decide +kernel
      rw [e3]
      exact q H2 e2
    · have ty : TyY K H (.ref a) (.ref (cl 2)) := .exc ha EE.BadName.ec
      refine cut_eq fun N1 hN1 => ?_
      simp only [tSeq, tIfS, tOr, tAnd, tNot, tB, tTest, tCB, tCall, tCons, tVar, tNil, tC, tRet, tRetN, tNext, tAsg, gName, tDrop, tOp, tUn, tAug, ipI, tPar, tIf, tAndV, tOrV, tNotV, tChain, tNever, rI0, rI, rU, L2.start, cxK, List.map_cons, List.map_nil, List.length_cons, List.length_nil, Nat.reduceAdd, Nat.reduceSub, List.replicate, List.cons_append, List.nil_append, List.append_nil, List.set_cons_zero, List.set_cons_succ, List.getElem?_cons_zero, List.getElem?_cons_succ, Option.some.injEq, V.int.injEq, V.bl.injEq, exists_eq_left', exists_eq_left, exists_and_left, tFor_eq, iRng1, iRng2, iRng3, iList, iEnum, iZip, iTup, tLst_eq, tTup_eq, rCat_eq, rCatS, rSum, rAppend_eq, rListOf, rSlL_eq, tSl, tNoPart, tPart, tLc_eq, tBM, rIxL, rIxT, min3_eq, rEq_int, rNe_int, min_if, max_if, and_assoc, V.ref.injEq, V.str.injEq, List.cons.injEq, and_true, true_and, ↓reduceIte, Bool.false_eq_true, Bool.not_true, Bool.not_false, Int.reduceToNat, Int.reducePow, Int.reduceAdd, Int.reduceSub, Int.reduceNeg, tVirt, tOff, tFld, sFld_eq, tMake_eq, rTupOf, iStr, rNe_str, rEq_str, rEq_bl, tRaise1, tFmt, tJs, tCallS, WE, wKeep_eq, reduceCtorEq, false_and, and_false, exists_false, or_false, false_or, tIsN, tNotN, decide_true, decide_false, tDictN]
      refine isy ty EE.v_BadName ⟨_, rfl, ifF rfl ?_⟩
      rw [← hN1]
      clear hN1
      refine cut_eq fun N1 hN1 => ?_
      simp only [tSeq, tIfS, tOr, tAnd, tNot, tB, tTest, tCB, tCall, tCons, tVar, tNil, tC, tRet, tRetN, tNext, tAsg, gName, tDrop, tOp, tUn, tAug, ipI, tPar, tIf, tAndV, tOrV, tNotV, tChain, tNever, rI0, rI, rU, L2.start, cxK, List.map_cons, List.map_nil, List.length_cons, List.length_nil, Nat.reduceAdd, Nat.reduceSub, List.replicate, List.cons_append, List.nil_append, List.append_nil, List.set_cons_zero, List.set_cons_succ, List.getElem?_cons_zero, List.getElem?_cons_succ, Option.some.injEq, V.int.injEq, V.bl.injEq, exists_eq_left', exists_eq_left, exists_and_left, tFor_eq, iRng1, iRng2, iRng3, iList, iEnum, iZip, iTup, tLst_eq, tTup_eq, rCat_eq, rCatS, rSum, rAppend_eq, rListOf, rSlL_eq, tSl, tNoPart, tPart, tLc_eq, tBM, rIxL, rIxT, min3_eq, rEq_int, rNe_int, min_if, max_if, and_assoc, V.ref.injEq, V.str.injEq, List.cons.injEq, and_true, true_and, ↓reduceIte, Bool.false_eq_true, Bool.not_true, Bool.not_false, Int.reduceToNat, Int.reducePow, Int.reduceAdd, Int.reduceSub, Int.reduceNeg, tVirt, tOff, tFld, sFld_eq, tMake_eq, rTupOf, iStr, rNe_str, rEq_str, rEq_bl, tRaise1, tFmt, tJs, tCallS, WE, wKeep_eq, reduceCtorEq, false_and, and_false, exists_false, or_false, false_or, tIsN, tNotN, decide_true, decide_false, tDictN, rIntB, rMulS]
      refine isyC ty EE.k_BadName_BadNumber ⟨_, rfl, .inl rfl, isyC ty EE.k_BadName_BadName ⟨_, rfl, .inr rfl, sz_of (by decide +kernel), ?_⟩⟩
      have e1 : ((if ib false = 1 then Str.ofString "number " else Str.empty) ++ if ib true = 1 then Str.ofString "name " else Str.empty) = Str.ofString "name " := by decide +kernel
      rw [e1, ← hN1]
      clear hN1
      refine cut_eq fun N1 hN1 => ?_
      simp only [tSeq, tIfS, tOr, tAnd, tNot, tB, tTest, tCB, tCall, tCons, tVar, tNil, tC, tRet, tRetN, tNext, tAsg, gName, tDrop, tOp, tUn, tAug, ipI, tPar, tIf, tAndV, tOrV, tNotV, tChain, tNever, rI0, rI, rU, L2.start, cxK, List.map_cons, List.map_nil, List.length_cons, List.length_nil, Nat.reduceAdd, Nat.reduceSub, List.replicate, List.cons_append, List.nil_append, List.append_nil, List.set_cons_zero, List.set_cons_succ, List.getElem?_cons_zero, List.getElem?_cons_succ, Option.some.injEq, V.int.injEq, V.bl.injEq, exists_eq_left', exists_eq_left, exists_and_left, tFor_eq, iRng1, iRng2, iRng3, iList, iEnum, iZip, iTup, tLst_eq, tTup_eq, rCat_eq, rCatS, rSum, rAppend_eq, rListOf, rSlL_eq, tSl, tNoPart, tPart, tLc_eq, tBM, rIxL, rIxT, min3_eq, rEq_int, rNe_int, min_if, max_if, and_assoc, V.ref.injEq, V.str.injEq, List.cons.injEq, and_true, true_and, ↓reduceIte, Bool.false_eq_true, Bool.not_true, Bool.not_false, Int.reduceToNat, Int.reducePow, Int.reduceAdd, Int.reduceSub, Int.reduceNeg, tVirt, tOff, tFld, sFld_eq, tMake_eq, rTupOf, iStr, rNe_str, rEq_str, rEq_bl, tRaise1, tFmt, tJs, tCallS, WE, wKeep_eq, reduceCtorEq, false_and, and_false, exists_false, or_false, false_or, tIsN, tNotN, decide_true, decide_false, tDictN, rIntB, rMulS]
      refine isyC ty EE.k_BadName_BadStage ⟨_, rfl, .inl rfl, sz_of (by decide +kernel), isyC ty EN.n2 ⟨_, rfl, .inl rfl, sz_of (by decide +kernel), ?_⟩⟩
      have e2 : ((Str.ofString "name " ++ if ib false = 1 then Str.ofString "stage " else Str.empty) ++ if ib false = 1 then Str.ofString "near " else Str.empty) = Str.ofString "name " := by decide +kernel
      rw [e2, ← hN1]
      clear hN1
      refine cut_eq fun N1 hN1 => ?_
      simp only [tSeq, tIfS, tOr, tAnd, tNot, tB, tTest, tCB, tCall, tCons, tVar, tNil, tC, tRet, tRetN, tNext, tAsg, gName, tDrop, tOp, tUn, tAug, ipI, tPar, tIf, tAndV, tOrV, tNotV, tChain, tNever, rI0, rI, rU, L2.start, cxK, List.map_cons, List.map_nil, List.length_cons, List.length_nil, Nat.reduceAdd, Nat.reduceSub, List.replicate, List.cons_append, List.nil_append, List.append_nil, List.set_cons_zero, List.set_cons_succ, List.getElem?_cons_zero, List.getElem?_cons_succ, Option.some.injEq, V.int.injEq, V.bl.injEq, exists_eq_left', exists_eq_left, exists_and_left, tFor_eq, iRng1, iRng2, iRng3, iList, iEnum, iZip, iTup, tLst_eq, tTup_eq, rCat_eq, rCatS, rSum, rAppend_eq, rListOf, rSlL_eq, tSl, tNoPart, tPart, tLc_eq, tBM, rIxL, rIxT, min3_eq, rEq_int, rNe_int, min_if, max_if, and_assoc, V.ref.injEq, V.str.injEq, List.cons.injEq, and_true, true_and, ↓reduceIte, Bool.false_eq_true, Bool.not_true, Bool.not_false, Int.reduceToNat, Int.reducePow, Int.reduceAdd, Int.reduceSub, Int.reduceNeg, tVirt, tOff, tFld, sFld_eq, tMake_eq, rTupOf, iStr, rNe_str, rEq_str, rEq_bl, tRaise1, tFmt, tJs, tCallS, WE, wKeep_eq, reduceCtorEq, false_and, and_false, exists_false, or_false, false_or, tIsN, tNotN, decide_true, decide_false, tDictN]
      refine ⟨sz_of (by decide), new_of fun p2 H2 n2 e2 h2 => ⟨_, _, _, .ref (cl 2), _, false, rfl, h2, .cons (.own _) (.cons (.own _) (.cons (.own _) (.cons (.own _) (.cons (.own _) (.cons (.own _) (.cons (.own _) (.cons (.own _) .nil))))))), .exc (e2 _ _ ha) EE.BadName.ec, EE.o0_BadName, ?_⟩⟩
      rw [← hN1]
      clear hN1
      simp only [tSeq, tIfS, tOr, tAnd, tNot, tB, tTest, tCB, tCall, tCons, tVar, tNil, tC, tRet, tRetN, tNext, tAsg, gName, tDrop, tOp, tUn, tAug, ipI, tPar, tIf, tAndV, tOrV, tNotV, tChain, tNever, rI0, rI, rU, L2.start, cxK, List.map_cons, List.map_nil, List.length_cons, List.length_nil, Nat.reduceAdd, Nat.reduceSub, List.replicate, List.cons_append, List.nil_append, List.append_nil, List.set_cons_zero, List.set_cons_succ, List.getElem?_cons_zero, List.getElem?_cons_succ, Option.some.injEq, V.int.injEq, V.bl.injEq, exists_eq_left', exists_eq_left, exists_and_left, tFor_eq, iRng1, iRng2, iRng3, iList, iEnum, iZip, iTup, tLst_eq, tTup_eq, rCat_eq, rCatS, rSum, rAppend_eq, rListOf, rSlL_eq, tSl, tNoPart, tPart, tLc_eq, tBM, rIxL, rIxT, min3_eq, rEq_int, rNe_int, min_if, max_if, and_assoc, V.ref.injEq, V.str.injEq, List.cons.injEq, and_true, true_and, ↓reduceIte, Bool.false_eq_true, Bool.not_true, Bool.not_false, Int.reduceToNat, Int.reducePow, Int.reduceAdd, Int.reduceSub, Int.reduceNeg, tVirt, tOff, tFld, sFld_eq, tMake_eq, rTupOf, iStr, rNe_str, rEq_str, rEq_bl, tRaise1, tFmt, tJs, tCallS, WE, wKeep_eq, reduceCtorEq, false_and, and_false, exists_false, or_false, false_or, tIsN, tNotN, decide_true, decide_false, tDictN, rIntB, rMulS]
      refine ⟨.inl rfl, sz_of (by decide +kernel), ?_⟩
      have e3 : (Str.ofString "name " ++ if ib false = 1 then Str.ofString "other " else Str.empty) = Str.ofString "name " := by decide +kernel
      rw [e3]
      exact q H2 e2
end
end FW

set_option Elab.async false
set_option linter.all false
set_option maxRecDepth 100000
set_option maxHeartbeats 4000000
namespace FW
open PySem PySem.Spec PyProof.Rows L2 Evt
section
variable {P : Program} {w : World} {K : PySem.W.Frag} {mg : Str → Option Value} {base : Heap} {cl : Nat → Addr}
/-! ### a machine by the law's dict, good or not -/
def tailW (k : Kd) (la at_ wi ta : V) (t : Addr) : List (Str × V) := match k with
  | .line => [("lane_told", la), ("at_told", at_), ("wide_told", wi), ("tall_told", ta)]
  | .wagon => [("lane_told", la), ("wide_told", wi), ("tall_told", ta)]
  | .trap => [("lane_told", la), ("at_told", at_), ("wide_told", wi)]
  | .floor => [("lane_told", la), ("walls", .ref t)]
def tOk (k : Kd) (la at_ wi ta : V) (r : Option (List Wl)) : Bool := match k with
  | .line => tLine la at_ wi ta
  | .wagon => tWagon la wi ta
  | .trap => tTrap la at_ wi
  | .floor => wholeV la 0 9 && r.isSome
/-- plain things -/
def Sv' (H : Hp) (x : V) : Prop := ∃ s, Sv H x s
theorem Sv'.mono {H H' : Hp} {x : V} (e : Ls H H') (h : Sv' H x) : Sv' H' x := h.elim fun s q => ⟨s, q.mono e⟩
theorem Sv'.kn {H H' : Hp} {x : V} (e : Ex H H') (h : Sv' H x) : Known K H' x := h.elim fun _ q => (q.mono (.of e)).known
theorem Sv'.ks {H H' : Hp} {x : V} (e : Ex H H') (h : Sv' H x) : KnownS K H' x := h.elim fun _ q => (q.mono (.of e)).knownS
def sp__law_machine (cl : Nat → Addr) (T CN CB : Addr) : Sp := fun vs H Q E => ∃ (a : Addr) (n l g pl pa ga : V) (k : Kd) (la at_ wi ta wa : V) (r : Option (List Wl)), vs = [.ref a] ∧ H a = some (.dK (ownW n l g pl pa ga k la at_ wi ta wa)) ∧ Sv' H n ∧ Sv' H l ∧ Sv' H g ∧ Sv' H pl ∧ Sv' H pa ∧ Sv' H ga ∧ Sv' H la ∧ Sv' H at_ ∧ Sv' H wi ∧ Sv' H ta ∧ WallsIs H wa r ∧ GxR.TabG H T ∧
  (nameV n = false → ∀ H', Ex H H' → E (.ref CN) none H') ∧ (nameV n = true → (mOk l g pa ga pl && tOk k la at_ wi ta r) = false → ∀ H', Ex H H' → E (.ref CB) none H') ∧
  (nameV n = true → (mOk l g pa ga pl && tOk k la at_ wi ta r) = true → ∀ x dx t H', H x = none → Ex H H' → H' x = some (.ins (clsA cl k) dx (f6 n l g pa ga pl ++ tailW k la at_ wi ta t)) → (k = .floor → ∃ ws ys, r = some ws ∧ H' t = some (.tup ys) ∧ TupW H' ys ws) → Q (.ref x) H')
theorem ok__law_machine (B : Bt mg cl) {T : Addr} {fLine fWagon fTrap fFloor : Addr} {fdLine fdWagon fdTrap fdFloor : FuncData} (M_Line : MakeF P w K mg base (L2.CX P w) 6 (cl 14) fLine fdLine ["self", "name", "least", "greatest", "pace", "gain", "place", "lane", "at", "wide", "tall"] (sp_Line_init K T (cl 2) (cl 1) (cs4 cl))) (M_Wagon : MakeF P w K mg base (L2.CX P w) 6 (cl 15) fWagon fdWagon ["self", "name", "least", "greatest", "pace", "gain", "place", "lane", "wide", "tall"] (sp_Wagon_init K T (cl 2) (cl 1) (cs4 cl))) (M_Trap : MakeF P w K mg base (L2.CX P w) 6 (cl 16) fTrap fdTrap ["self", "name", "least", "greatest", "pace", "gain", "place", "lane", "at", "wide"] (sp_Trap_init K T (cl 2) (cl 1) (cs4 cl))) (M_Floor : MakeF P w K mg base (L2.CX P w) 6 (cl 17) fFloor fdFloor ["self", "name", "least", "greatest", "pace", "gain", "place", "lane", "walls"] (sp_Floor_init K T (cl 2) (cl 1) (cs4 cl))) {f : Addr} {fd : FuncData} (F : Fun K "_law_machine" "_law_machine" s__law_machine f fd) : FnOk P w K mg base (L2.CX P w) 8 f fd ["_law_own"] (sp__law_machine cl T (cl 2) (cl 1)) := by
  refine F.okX sc__law_machine (fun vs H Q E h => ?_) (fun cdv A outer s H vs Q E hr h => ?_)
  · obtain ⟨a, n, l, g, pl, pa, ga, k, la, at_, wi, ta, wa, r, rfl, _⟩ := h
    rfl
  · obtain ⟨a, n, l, g, pl, pa, ga, k, la, at_, wi, ta, wa, r, rfl, ho, sn, sl, sg, spl, spa, sga, sla, sat, swi, sta, wis, tg, noname, bad, q⟩ := h
    refine ⟨_, (pss_cons (ps_setLc (i := 1) (own := [("_law_word", 9)]) (g := gName 9) (tt := tYes) (by rfl) sc__law_machine.nd rfl rfl (sw_true rfl rfl rfl (by decide +kernel)) (k_pit (K := K) rfl (pe_tup (pa_cons pe_str (pa_cons pe_str (pa_cons pe_str (pa_cons pe_str (pa_cons pe_str (pa_cons pe_str (pa_cons pe_str pa_nil))))))))) (blkOk_by (own := [("_law_word", 9)]) (N := ["_law_own", "_law_common", "_law_name", "_law_least", "_law_greatest", "_law_pace", "_law_gain", "_law_place", "_law_lane", "_law_word"]) (sc := defScope s__law_machine) (by decide +kernel)) (fun _ _ _ _ _ => (pg_name (i := 9) sc__law_machine.nd rfl (.inl rfl))) (fun _ _ _ _ _ => pts_nil) (fun _ _ _ _ _ => (pe_dget (hu_of hr) (pv 0) (pv 9) (fun _ _ => rfl))))
      (pss_cons (ps_asg (pv 1) (k_pgl (K := K) (n := 7) rfl rfl (pgs_cons (pg_name (i := 2) sc__law_machine.nd rfl (.inl rfl)) (pgs_cons (pg_name (i := 3) sc__law_machine.nd rfl (.inl rfl)) (pgs_cons (pg_name (i := 4) sc__law_machine.nd rfl (.inl rfl)) (pgs_cons (pg_name (i := 5) sc__law_machine.nd rfl (.inl rfl)) (pgs_cons (pg_name (i := 6) sc__law_machine.nd rfl (.inl rfl)) (pgs_cons (pg_name (i := 7) sc__law_machine.nd rfl (.inl rfl)) (pgs_cons (pg_name (i := 8) sc__law_machine.nd rfl (.inl rfl)) pgs_nil)))))))))
      (pss_cons (ps_if (pt_cmpR op_eq (pe_dget (hu_of hr) (pv 0) pe_str (fun _ _ => rfl)) pe_str (nomark _))
        (pss_one (ps_ret (pe_make M_Line.m M_Line.f (hr.mono (by decide)) (by rfl) B.c_Line M_Line.b .nil (passes_call (takes_of rfl rfl rfl rfl) (fun _ _ _ _ h => h)) (pa_cons (pv 2) (pa_cons (pv 3) (pa_cons (pv 4) (pa_cons (pv 5) (pa_cons (pv 6) (pa_cons (pv 7) (pa_cons (pv 8) (pa_cons (pe_dget (hu_of hr) (pv 0) pe_str (fun _ _ => rfl)) (pa_cons (pe_dget (hu_of hr) (pv 0) pe_str (fun _ _ => rfl)) (pa_cons (pe_dget (hu_of hr) (pv 0) pe_str (fun _ _ => rfl)) pa_nil)))))))))))))
        pss_nil)
      (pss_cons (ps_if (pt_cmpR op_eq (pe_dget (hu_of hr) (pv 0) pe_str (fun _ _ => rfl)) pe_str (nomark _))
        (pss_one (ps_ret (pe_make M_Wagon.m M_Wagon.f (hr.mono (by decide)) (by rfl) B.c_Wagon M_Wagon.b .nil (passes_call (takes_of rfl rfl rfl rfl) (fun _ _ _ _ h => h)) (pa_cons (pv 2) (pa_cons (pv 3) (pa_cons (pv 4) (pa_cons (pv 5) (pa_cons (pv 6) (pa_cons (pv 7) (pa_cons (pv 8) (pa_cons (pe_dget (hu_of hr) (pv 0) pe_str (fun _ _ => rfl)) (pa_cons (pe_dget (hu_of hr) (pv 0) pe_str (fun _ _ => rfl)) pa_nil))))))))))))
        pss_nil)
      (pss_cons (ps_if (pt_cmpR op_eq (pe_dget (hu_of hr) (pv 0) pe_str (fun _ _ => rfl)) pe_str (nomark _))
        (pss_one (ps_ret (pe_make M_Trap.m M_Trap.f (hr.mono (by decide)) (by rfl) B.c_Trap M_Trap.b .nil (passes_call (takes_of rfl rfl rfl rfl) (fun _ _ _ _ h => h)) (pa_cons (pv 2) (pa_cons (pv 3) (pa_cons (pv 4) (pa_cons (pv 5) (pa_cons (pv 6) (pa_cons (pv 7) (pa_cons (pv 8) (pa_cons (pe_dget (hu_of hr) (pv 0) pe_str (fun _ _ => rfl)) (pa_cons (pe_dget (hu_of hr) (pv 0) pe_str (fun _ _ => rfl)) pa_nil))))))))))))
        pss_nil)
      (pss_one (ps_ret (pe_make M_Floor.m M_Floor.f (hr.mono (by decide)) (by rfl) B.c_Floor M_Floor.b .nil (passes_call (takes_of rfl rfl rfl rfl) (fun _ _ _ _ h => h)) (pa_cons (pv 2) (pa_cons (pv 3) (pa_cons (pv 4) (pa_cons (pv 5) (pa_cons (pv 6) (pa_cons (pv 7) (pa_cons (pv 8) (pa_cons (pe_dget (hu_of hr) (pv 0) pe_str (fun _ _ => rfl)) pa_nil)))))))))))))))), ?_⟩
    have rd : ∀ {H' : Hp} {z : Str} {v : V}, Ex H H' → valV (ownW n l g pl pa ga k la at_ wi ta wa) (Sum.inr z) = some v → DGet H' a (.str z) (some v) := fun {H' z v} e y => .inl ⟨_, Sum.inr z, .inl (e _ _ ho), rfl, y.symm⟩
    refine cut_eq fun N1 hN1 => ?_
    simp only [tSeq, tIfS, tOr, tAnd, tNot, tB, tTest, tCB, tCall, tCons, tVar, tNil, tC, tRet, tRetN, tNext, tAsg, gName, tDrop, tOp, tUn, tAug, ipI, tPar, tIf, tAndV, tOrV, tNotV, tChain, tNever, rI0, rI, rU, L2.start, cxK, List.map_cons, List.map_nil, List.length_cons, List.length_nil, Nat.reduceAdd, Nat.reduceSub, List.replicate, List.cons_append, List.nil_append, List.append_nil, List.set_cons_zero, List.set_cons_succ, List.getElem?_cons_zero, List.getElem?_cons_succ, Option.some.injEq, V.int.injEq, V.bl.injEq, exists_eq_left', exists_eq_left, exists_and_left, tFor_eq, iRng1, iRng2, iRng3, iList, iEnum, iZip, iTup, tLst_eq, tTup_eq, rCat_eq, rCatS, rSum, rAppend_eq, rListOf, rSlL_eq, tSl, tNoPart, tPart, tLc_eq, tBM, rIxL, rIxT, min3_eq, rEq_int, rNe_int, min_if, max_if, and_assoc, V.ref.injEq, V.str.injEq, List.cons.injEq, and_true, true_and, ↓reduceIte, Bool.false_eq_true, Bool.not_true, Bool.not_false, Int.reduceToNat, Int.reducePow, Int.reduceAdd, Int.reduceSub, Int.reduceNeg, tVirt, tOff, tFld, sFld_eq, tMake_eq, rTupOf, iStr, rNe_str, rEq_str, rEq_bl, tRaise1, tFmt, tJs, tCallS, WE, wKeep_eq, reduceCtorEq, false_and, and_false, exists_false, or_false, false_or, tIsN, tNotN, decide_true, decide_false, tDictN]
    refine ⟨sz_of (by decide), new_of fun tp H1 ntp e1 htp => ⟨⟨_, st_of htp⟩, fun Dl hD => lc_gives (walk_tup (xs := [.str "name", .str "least", .str "greatest", .str "pace", .str "gain", .str "place", .str "lane"])) (fun i => ([n, l, g, pa, ga, pl, la] : List V)[i]?) hD (fun H' e => st_of (e _ _ htp)) ?_ ?_⟩⟩
    · rintro i x H0 H' hi e0 h0 ⟨rfl, hx⟩
      match i, hi with
      | 0, _ =>
        cases hx
        simp only [tSeq, tIfS, tOr, tAnd, tNot, tB, tTest, tCB, tCall, tCons, tVar, tNil, tC, tRet, tRetN, tNext, tAsg, gName, tDrop, tOp, tUn, tAug, ipI, tPar, tIf, tAndV, tOrV, tNotV, tChain, tNever, rI0, rI, rU, L2.start, cxK, List.map_cons, List.map_nil, List.length_cons, List.length_nil, Nat.reduceAdd, Nat.reduceSub, List.replicate, List.cons_append, List.nil_append, List.append_nil, List.set_cons_zero, List.set_cons_succ, List.getElem?_cons_zero, List.getElem?_cons_succ, Option.some.injEq, V.int.injEq, V.bl.injEq, exists_eq_left', exists_eq_left, exists_and_left, tFor_eq, iRng1, iRng2, iRng3, iList, iEnum, iZip, iTup, tLst_eq, tTup_eq, rCat_eq, rCatS, rSum, rAppend_eq, rListOf, rSlL_eq, tSl, tNoPart, tPart, tLc_eq, tBM, rIxL, rIxT, min3_eq, rEq_int, rNe_int, min_if, max_if, and_assoc, V.ref.injEq, V.str.injEq, List.cons.injEq, and_true, true_and, ↓reduceIte, Bool.false_eq_true, Bool.not_true, Bool.not_false, Int.reduceToNat, Int.reducePow, Int.reduceAdd, Int.reduceSub, Int.reduceNeg, tVirt, tOff, tFld, sFld_eq, tMake_eq, rTupOf, iStr, rNe_str, rEq_str, rEq_bl, tRaise1, tFmt, tJs, tCallS, WE, wKeep_eq, reduceCtorEq, false_and, and_false, exists_false, or_false, false_or, tIsN, tNotN, decide_true, decide_false, tDictN, wipe, tYes, tDGet]
        exact ⟨_, rd (e1.trans e0) rfl, put_of hD e0 h0 (sz_lt (by decide)) rfl⟩
      | 1, _ =>
        cases hx
        simp only [tSeq, tIfS, tOr, tAnd, tNot, tB, tTest, tCB, tCall, tCons, tVar, tNil, tC, tRet, tRetN, tNext, tAsg, gName, tDrop, tOp, tUn, tAug, ipI, tPar, tIf, tAndV, tOrV, tNotV, tChain, tNever, rI0, rI, rU, L2.start, cxK, List.map_cons, List.map_nil, List.length_cons, List.length_nil, Nat.reduceAdd, Nat.reduceSub, List.replicate, List.cons_append, List.nil_append, List.append_nil, List.set_cons_zero, List.set_cons_succ, List.getElem?_cons_zero, List.getElem?_cons_succ, Option.some.injEq, V.int.injEq, V.bl.injEq, exists_eq_left', exists_eq_left, exists_and_left, tFor_eq, iRng1, iRng2, iRng3, iList, iEnum, iZip, iTup, tLst_eq, tTup_eq, rCat_eq, rCatS, rSum, rAppend_eq, rListOf, rSlL_eq, tSl, tNoPart, tPart, tLc_eq, tBM, rIxL, rIxT, min3_eq, rEq_int, rNe_int, min_if, max_if, and_assoc, V.ref.injEq, V.str.injEq, List.cons.injEq, and_true, true_and, ↓reduceIte, Bool.false_eq_true, Bool.not_true, Bool.not_false, Int.reduceToNat, Int.reducePow, Int.reduceAdd, Int.reduceSub, Int.reduceNeg, tVirt, tOff, tFld, sFld_eq, tMake_eq, rTupOf, iStr, rNe_str, rEq_str, rEq_bl, tRaise1, tFmt, tJs, tCallS, WE, wKeep_eq, reduceCtorEq, false_and, and_false, exists_false, or_false, false_or, tIsN, tNotN, decide_true, decide_false, tDictN, wipe, tYes, tDGet]
        exact ⟨_, rd (e1.trans e0) rfl, put_of hD e0 h0 (sz_lt (by decide)) rfl⟩
      | 2, _ =>
        cases hx
        simp only [tSeq, tIfS, tOr, tAnd, tNot, tB, tTest, tCB, tCall, tCons, tVar, tNil, tC, tRet, tRetN, tNext, tAsg, gName, tDrop, tOp, tUn, tAug, ipI, tPar, tIf, tAndV, tOrV, tNotV, tChain, tNever, rI0, rI, rU, L2.start, cxK, List.map_cons, List.map_nil, List.length_cons, List.length_nil, Nat.reduceAdd, Nat.reduceSub, List.replicate, List.cons_append, List.nil_append, List.append_nil, List.set_cons_zero, List.set_cons_succ, List.getElem?_cons_zero, List.getElem?_cons_succ, Option.some.injEq, V.int.injEq, V.bl.injEq, exists_eq_left', exists_eq_left, exists_and_left, tFor_eq, iRng1, iRng2, iRng3, iList, iEnum, iZip, iTup, tLst_eq, tTup_eq, rCat_eq, rCatS, rSum, rAppend_eq, rListOf, rSlL_eq, tSl, tNoPart, tPart, tLc_eq, tBM, rIxL, rIxT, min3_eq, rEq_int, rNe_int, min_if, max_if, and_assoc, V.ref.injEq, V.str.injEq, List.cons.injEq, and_true, true_and, ↓reduceIte, Bool.false_eq_true, Bool.not_true, Bool.not_false, Int.reduceToNat, Int.reducePow, Int.reduceAdd, Int.reduceSub, Int.reduceNeg, tVirt, tOff, tFld, sFld_eq, tMake_eq, rTupOf, iStr, rNe_str, rEq_str, rEq_bl, tRaise1, tFmt, tJs, tCallS, WE, wKeep_eq, reduceCtorEq, false_and, and_false, exists_false, or_false, false_or, tIsN, tNotN, decide_true, decide_false, tDictN, wipe, tYes, tDGet]
        exact ⟨_, rd (e1.trans e0) rfl, put_of hD e0 h0 (sz_lt (by decide)) rfl⟩
      | 3, _ =>
        cases hx
        simp only [tSeq, tIfS, tOr, tAnd, tNot, tB, tTest, tCB, tCall, tCons, tVar, tNil, tC, tRet, tRetN, tNext, tAsg, gName, tDrop, tOp, tUn, tAug, ipI, tPar, tIf, tAndV, tOrV, tNotV, tChain, tNever, rI0, rI, rU, L2.start, cxK, List.map_cons, List.map_nil, List.length_cons, List.length_nil, Nat.reduceAdd, Nat.reduceSub, List.replicate, List.cons_append, List.nil_append, List.append_nil, List.set_cons_zero, List.set_cons_succ, List.getElem?_cons_zero, List.getElem?_cons_succ, Option.some.injEq, V.int.injEq, V.bl.injEq, exists_eq_left', exists_eq_left, exists_and_left, tFor_eq, iRng1, iRng2, iRng3, iList, iEnum, iZip, iTup, tLst_eq, tTup_eq, rCat_eq, rCatS, rSum, rAppend_eq, rListOf, rSlL_eq, tSl, tNoPart, tPart, tLc_eq, tBM, rIxL, rIxT, min3_eq, rEq_int, rNe_int, min_if, max_if, and_assoc, V.ref.injEq, V.str.injEq, List.cons.injEq, and_true, true_and, ↓reduceIte, Bool.false_eq_true, Bool.not_true, Bool.not_false, Int.reduceToNat, Int.reducePow, Int.reduceAdd, Int.reduceSub, Int.reduceNeg, tVirt, tOff, tFld, sFld_eq, tMake_eq, rTupOf, iStr, rNe_str, rEq_str, rEq_bl, tRaise1, tFmt, tJs, tCallS, WE, wKeep_eq, reduceCtorEq, false_and, and_false, exists_false, or_false, false_or, tIsN, tNotN, decide_true, decide_false, tDictN, wipe, tYes, tDGet]
        exact ⟨_, rd (e1.trans e0) rfl, put_of hD e0 h0 (sz_lt (by decide)) rfl⟩
      | 4, _ =>
        cases hx
        simp only [tSeq, tIfS, tOr, tAnd, tNot, tB, tTest, tCB, tCall, tCons, tVar, tNil, tC, tRet, tRetN, tNext, tAsg, gName, tDrop, tOp, tUn, tAug, ipI, tPar, tIf, tAndV, tOrV, tNotV, tChain, tNever, rI0, rI, rU, L2.start, cxK, List.map_cons, List.map_nil, List.length_cons, List.length_nil, Nat.reduceAdd, Nat.reduceSub, List.replicate, List.cons_append, List.nil_append, List.append_nil, List.set_cons_zero, List.set_cons_succ, List.getElem?_cons_zero, List.getElem?_cons_succ, Option.some.injEq, V.int.injEq, V.bl.injEq, exists_eq_left', exists_eq_left, exists_and_left, tFor_eq, iRng1, iRng2, iRng3, iList, iEnum, iZip, iTup, tLst_eq, tTup_eq, rCat_eq, rCatS, rSum, rAppend_eq, rListOf, rSlL_eq, tSl, tNoPart, tPart, tLc_eq, tBM, rIxL, rIxT, min3_eq, rEq_int, rNe_int, min_if, max_if, and_assoc, V.ref.injEq, V.str.injEq, List.cons.injEq, and_true, true_and, ↓reduceIte, Bool.false_eq_true, Bool.not_true, Bool.not_false, Int.reduceToNat, Int.reducePow, Int.reduceAdd, Int.reduceSub, Int.reduceNeg, tVirt, tOff, tFld, sFld_eq, tMake_eq, rTupOf, iStr, rNe_str, rEq_str, rEq_bl, tRaise1, tFmt, tJs, tCallS, WE, wKeep_eq, reduceCtorEq, false_and, and_false, exists_false, or_false, false_or, tIsN, tNotN, decide_true, decide_false, tDictN, wipe, tYes, tDGet]
        exact ⟨_, rd (e1.trans e0) rfl, put_of hD e0 h0 (sz_lt (by decide)) rfl⟩
      | 5, _ =>
        cases hx
        simp only [tSeq, tIfS, tOr, tAnd, tNot, tB, tTest, tCB, tCall, tCons, tVar, tNil, tC, tRet, tRetN, tNext, tAsg, gName, tDrop, tOp, tUn, tAug, ipI, tPar, tIf, tAndV, tOrV, tNotV, tChain, tNever, rI0, rI, rU, L2.start, cxK, List.map_cons, List.map_nil, List.length_cons, List.length_nil, Nat.reduceAdd, Nat.reduceSub, List.replicate, List.cons_append, List.nil_append, List.append_nil, List.set_cons_zero, List.set_cons_succ, List.getElem?_cons_zero, List.getElem?_cons_succ, Option.some.injEq, V.int.injEq, V.bl.injEq, exists_eq_left', exists_eq_left, exists_and_left, tFor_eq, iRng1, iRng2, iRng3, iList, iEnum, iZip, iTup, tLst_eq, tTup_eq, rCat_eq, rCatS, rSum, rAppend_eq, rListOf, rSlL_eq, tSl, tNoPart, tPart, tLc_eq, tBM, rIxL, rIxT, min3_eq, rEq_int, rNe_int, min_if, max_if, and_assoc, V.ref.injEq, V.str.injEq, List.cons.injEq, and_true, true_and, ↓reduceIte, Bool.false_eq_true, Bool.not_true, Bool.not_false, Int.reduceToNat, Int.reducePow, Int.reduceAdd, Int.reduceSub, Int.reduceNeg, tVirt, tOff, tFld, sFld_eq, tMake_eq, rTupOf, iStr, rNe_str, rEq_str, rEq_bl, tRaise1, tFmt, tJs, tCallS, WE, wKeep_eq, reduceCtorEq, false_and, and_false, exists_false, or_false, false_or, tIsN, tNotN, decide_true, decide_false, tDictN, wipe, tYes, tDGet]
        exact ⟨_, rd (e1.trans e0) rfl, put_of hD e0 h0 (sz_lt (by decide)) rfl⟩
      | 6, _ =>
        cases hx
        simp only [tSeq, tIfS, tOr, tAnd, tNot, tB, tTest, tCB, tCall, tCons, tVar, tNil, tC, tRet, tRetN, tNext, tAsg, gName, tDrop, tOp, tUn, tAug, ipI, tPar, tIf, tAndV, tOrV, tNotV, tChain, tNever, rI0, rI, rU, L2.start, cxK, List.map_cons, List.map_nil, List.length_cons, List.length_nil, Nat.reduceAdd, Nat.reduceSub, List.replicate, List.cons_append, List.nil_append, List.append_nil, List.set_cons_zero, List.set_cons_succ, List.getElem?_cons_zero, List.getElem?_cons_succ, Option.some.injEq, V.int.injEq, V.bl.injEq, exists_eq_left', exists_eq_left, exists_and_left, tFor_eq, iRng1, iRng2, iRng3, iList, iEnum, iZip, iTup, tLst_eq, tTup_eq, rCat_eq, rCatS, rSum, rAppend_eq, rListOf, rSlL_eq, tSl, tNoPart, tPart, tLc_eq, tBM, rIxL, rIxT, min3_eq, rEq_int, rNe_int, min_if, max_if, and_assoc, V.ref.injEq, V.str.injEq, List.cons.injEq, and_true, true_and, ↓reduceIte, Bool.false_eq_true, Bool.not_true, Bool.not_false, Int.reduceToNat, Int.reducePow, Int.reduceAdd, Int.reduceSub, Int.reduceNeg, tVirt, tOff, tFld, sFld_eq, tMake_eq, rTupOf, iStr, rNe_str, rEq_str, rEq_bl, tRaise1, tFmt, tJs, tCallS, WE, wKeep_eq, reduceCtorEq, false_and, and_false, exists_false, or_false, false_or, tIsN, tNotN, decide_true, decide_false, tDictN, wipe, tYes, tDGet]
        exact ⟨_, rd (e1.trans e0) rfl, put_of hD e0 h0 (sz_lt (by decide)) rfl⟩
    intro H2 e2 h2
    rw [← hN1]
    clear hN1
    have e02 := e1.trans e2
    refine cut_eq fun N1 hN1 => ?_
    replace h2 : H2 Dl = some (.lst [n, l, g, pa, ga, pl, la]) := h2
    refine ⟨_, rfl, Dl, _, rfl, sq_of h2, rfl, ?_⟩
    simp only [tSeq, tIfS, tOr, tAnd, tNot, tB, tTest, tCB, tCall, tCons, tVar, tNil, tC, tRet, tRetN, tNext, tAsg, gName, tDrop, tOp, tUn, tAug, ipI, tPar, tIf, tAndV, tOrV, tNotV, tChain, tNever, rI0, rI, rU, L2.start, cxK, List.map_cons, List.map_nil, List.length_cons, List.length_nil, Nat.reduceAdd, Nat.reduceSub, List.replicate, List.cons_append, List.nil_append, List.append_nil, List.set_cons_zero, List.set_cons_succ, List.getElem?_cons_zero, List.getElem?_cons_succ, Option.some.injEq, V.int.injEq, V.bl.injEq, exists_eq_left', exists_eq_left, exists_and_left, tFor_eq, iRng1, iRng2, iRng3, iList, iEnum, iZip, iTup, tLst_eq, tTup_eq, rCat_eq, rCatS, rSum, rAppend_eq, rListOf, rSlL_eq, tSl, tNoPart, tPart, tLc_eq, tBM, rIxL, rIxT, min3_eq, rEq_int, rNe_int, min_if, max_if, and_assoc, V.ref.injEq, V.str.injEq, List.cons.injEq, and_true, true_and, ↓reduceIte, Bool.false_eq_true, Bool.not_true, Bool.not_false, Int.reduceToNat, Int.reducePow, Int.reduceAdd, Int.reduceSub, Int.reduceNeg, tVirt, tOff, tFld, sFld_eq, tMake_eq, rTupOf, iStr, rNe_str, rEq_str, rEq_bl, tRaise1, tFmt, tJs, tCallS, WE, wKeep_eq, reduceCtorEq, false_and, and_false, exists_false, or_false, false_or, tIsN, tNotN, decide_true, decide_false, tDictN, gCons, gNil]
    rw [← hN1]
    clear hN1
    have tg2 := e02.tab tg
    refine cut_eq fun N1 hN1 => ?_
    simp only [tSeq, tIfS, tOr, tAnd, tNot, tB, tTest, tCB, tCall, tCons, tVar, tNil, tC, tRet, tRetN, tNext, tAsg, gName, tDrop, tOp, tUn, tAug, ipI, tPar, tIf, tAndV, tOrV, tNotV, tChain, tNever, rI0, rI, rU, L2.start, cxK, List.map_cons, List.map_nil, List.length_cons, List.length_nil, Nat.reduceAdd, Nat.reduceSub, List.replicate, List.cons_append, List.nil_append, List.append_nil, List.set_cons_zero, List.set_cons_succ, List.getElem?_cons_zero, List.getElem?_cons_succ, Option.some.injEq, V.int.injEq, V.bl.injEq, exists_eq_left', exists_eq_left, exists_and_left, tFor_eq, iRng1, iRng2, iRng3, iList, iEnum, iZip, iTup, tLst_eq, tTup_eq, rCat_eq, rCatS, rSum, rAppend_eq, rListOf, rSlL_eq, tSl, tNoPart, tPart, tLc_eq, tBM, rIxL, rIxT, min3_eq, rEq_int, rNe_int, min_if, max_if, and_assoc, V.ref.injEq, V.str.injEq, List.cons.injEq, and_true, true_and, ↓reduceIte, Bool.false_eq_true, Bool.not_true, Bool.not_false, Int.reduceToNat, Int.reducePow, Int.reduceAdd, Int.reduceSub, Int.reduceNeg, tVirt, tOff, tFld, sFld_eq, tMake_eq, rTupOf, iStr, rNe_str, rEq_str, rEq_bl, tRaise1, tFmt, tJs, tCallS, WE, wKeep_eq, reduceCtorEq, false_and, and_false, exists_false, or_false, false_or, tIsN, tNotN, decide_true, decide_false, tDictN, tDGet]
    refine ⟨_, rd e02 rfl, ?_⟩
    simp only [tSeq, tIfS, tOr, tAnd, tNot, tB, tTest, tCB, tCall, tCons, tVar, tNil, tC, tRet, tRetN, tNext, tAsg, gName, tDrop, tOp, tUn, tAug, ipI, tPar, tIf, tAndV, tOrV, tNotV, tChain, tNever, rI0, rI, rU, L2.start, cxK, List.map_cons, List.map_nil, List.length_cons, List.length_nil, Nat.reduceAdd, Nat.reduceSub, List.replicate, List.cons_append, List.nil_append, List.append_nil, List.set_cons_zero, List.set_cons_succ, List.getElem?_cons_zero, List.getElem?_cons_succ, Option.some.injEq, V.int.injEq, V.bl.injEq, exists_eq_left', exists_eq_left, exists_and_left, tFor_eq, iRng1, iRng2, iRng3, iList, iEnum, iZip, iTup, tLst_eq, tTup_eq, rCat_eq, rCatS, rSum, rAppend_eq, rListOf, rSlL_eq, tSl, tNoPart, tPart, tLc_eq, tBM, rIxL, rIxT, min3_eq, rEq_int, rNe_int, min_if, max_if, and_assoc, V.ref.injEq, V.str.injEq, List.cons.injEq, and_true, true_and, ↓reduceIte, Bool.false_eq_true, Bool.not_true, Bool.not_false, Int.reduceToNat, Int.reducePow, Int.reduceAdd, Int.reduceSub, Int.reduceNeg, tVirt, tOff, tFld, sFld_eq, tMake_eq, rTupOf, iStr, rNe_str, rEq_str, rEq_bl, tRaise1, tFmt, tJs, tCallS, WE, wKeep_eq, reduceCtorEq, false_and, and_false, exists_false, or_false, false_or, tIsN, tNotN, decide_true, decide_false, tDictN]
    rw [show ("line" : Str) = kdS .line from rfl, kdS_inj]
    by_cases c0 : k = .line
    · refine ifT (decide_eq_true c0) ⟨_, rd e02 rfl, _, rd e02 rfl, _, rd e02 rfl, made_of fun x dx H3 nx e3 hx => ?_⟩
      subst c0
      have e3' := e02.trans e3
      have nx0 := fresh_back e02 nx
      refine ⟨x, _, dx, _, _, _, _, _, _, _, _, _, _, rfl, hx, by simp, sn.ks e3', sl.kn e3', sg.kn e3', spa.kn e3', sga.kn e3', spl.kn e3', sla.kn e3', sat.kn e3', swi.kn e3', sta.kn e3', e3.tab tg2, fun z H4 x4 => noname z H4 (ExB.ex e3' nx0 x4), fun z1 z2 H4 x4 => bad z1 z2 H4 (ExB.ex e3' nx0 x4), fun z1 z2 z3 H4 x4 h4 => ⟨rfl, ?_⟩⟩
      exact q z1 (by rw [z2]; exact z3) x dx 0 H4 nx0 (ExB.ex e3' nx0 x4) h4 fun z => by cases z
    refine ifF (decide_eq_false c0) ?_
    rw [← hN1]
    clear hN1
    refine cut_eq fun N1 hN1 => ?_
    simp only [tSeq, tIfS, tOr, tAnd, tNot, tB, tTest, tCB, tCall, tCons, tVar, tNil, tC, tRet, tRetN, tNext, tAsg, gName, tDrop, tOp, tUn, tAug, ipI, tPar, tIf, tAndV, tOrV, tNotV, tChain, tNever, rI0, rI, rU, L2.start, cxK, List.map_cons, List.map_nil, List.length_cons, List.length_nil, Nat.reduceAdd, Nat.reduceSub, List.replicate, List.cons_append, List.nil_append, List.append_nil, List.set_cons_zero, List.set_cons_succ, List.getElem?_cons_zero, List.getElem?_cons_succ, Option.some.injEq, V.int.injEq, V.bl.injEq, exists_eq_left', exists_eq_left, exists_and_left, tFor_eq, iRng1, iRng2, iRng3, iList, iEnum, iZip, iTup, tLst_eq, tTup_eq, rCat_eq, rCatS, rSum, rAppend_eq, rListOf, rSlL_eq, tSl, tNoPart, tPart, tLc_eq, tBM, rIxL, rIxT, min3_eq, rEq_int, rNe_int, min_if, max_if, and_assoc, V.ref.injEq, V.str.injEq, List.cons.injEq, and_true, true_and, ↓reduceIte, Bool.false_eq_true, Bool.not_true, Bool.not_false, Int.reduceToNat, Int.reducePow, Int.reduceAdd, Int.reduceSub, Int.reduceNeg, tVirt, tOff, tFld, sFld_eq, tMake_eq, rTupOf, iStr, rNe_str, rEq_str, rEq_bl, tRaise1, tFmt, tJs, tCallS, WE, wKeep_eq, reduceCtorEq, false_and, and_false, exists_false, or_false, false_or, tIsN, tNotN, decide_true, decide_false, tDictN, tDGet]
    refine ⟨_, rd e02 rfl, ?_⟩
    simp only [tSeq, tIfS, tOr, tAnd, tNot, tB, tTest, tCB, tCall, tCons, tVar, tNil, tC, tRet, tRetN, tNext, tAsg, gName, tDrop, tOp, tUn, tAug, ipI, tPar, tIf, tAndV, tOrV, tNotV, tChain, tNever, rI0, rI, rU, L2.start, cxK, List.map_cons, List.map_nil, List.length_cons, List.length_nil, Nat.reduceAdd, Nat.reduceSub, List.replicate, List.cons_append, List.nil_append, List.append_nil, List.set_cons_zero, List.set_cons_succ, List.getElem?_cons_zero, List.getElem?_cons_succ, Option.some.injEq, V.int.injEq, V.bl.injEq, exists_eq_left', exists_eq_left, exists_and_left, tFor_eq, iRng1, iRng2, iRng3, iList, iEnum, iZip, iTup, tLst_eq, tTup_eq, rCat_eq, rCatS, rSum, rAppend_eq, rListOf, rSlL_eq, tSl, tNoPart, tPart, tLc_eq, tBM, rIxL, rIxT, min3_eq, rEq_int, rNe_int, min_if, max_if, and_assoc, V.ref.injEq, V.str.injEq, List.cons.injEq, and_true, true_and, ↓reduceIte, Bool.false_eq_true, Bool.not_true, Bool.not_false, Int.reduceToNat, Int.reducePow, Int.reduceAdd, Int.reduceSub, Int.reduceNeg, tVirt, tOff, tFld, sFld_eq, tMake_eq, rTupOf, iStr, rNe_str, rEq_str, rEq_bl, tRaise1, tFmt, tJs, tCallS, WE, wKeep_eq, reduceCtorEq, false_and, and_false, exists_false, or_false, false_or, tIsN, tNotN, decide_true, decide_false, tDictN]
    rw [show ("wagon" : Str) = kdS .wagon from rfl, kdS_inj]
    by_cases c1 : k = .wagon
    · refine ifT (decide_eq_true c1) ⟨_, rd e02 rfl, _, rd e02 rfl, made_of fun x dx H3 nx e3 hx => ?_⟩
      subst c1
      have e3' := e02.trans e3
      have nx0 := fresh_back e02 nx
      refine ⟨x, _, dx, _, _, _, _, _, _, _, _, _, rfl, hx, by simp, sn.ks e3', sl.kn e3', sg.kn e3', spa.kn e3', sga.kn e3', spl.kn e3', sla.kn e3', swi.kn e3', sta.kn e3', e3.tab tg2, fun z H4 x4 => noname z H4 (ExB.ex e3' nx0 x4), fun z1 z2 H4 x4 => bad z1 z2 H4 (ExB.ex e3' nx0 x4), fun z1 z2 z3 H4 x4 h4 => ⟨rfl, ?_⟩⟩
      exact q z1 (by rw [z2]; exact z3) x dx 0 H4 nx0 (ExB.ex e3' nx0 x4) h4 fun z => by cases z
    refine ifF (decide_eq_false c1) ?_
    rw [← hN1]
    clear hN1
    refine cut_eq fun N1 hN1 => ?_
    simp only [tSeq, tIfS, tOr, tAnd, tNot, tB, tTest, tCB, tCall, tCons, tVar, tNil, tC, tRet, tRetN, tNext, tAsg, gName, tDrop, tOp, tUn, tAug, ipI, tPar, tIf, tAndV, tOrV, tNotV, tChain, tNever, rI0, rI, rU, L2.start, cxK, List.map_cons, List.map_nil, List.length_cons, List.length_nil, Nat.reduceAdd, Nat.reduceSub, List.replicate, List.cons_append, List.nil_append, List.append_nil, List.set_cons_zero, List.set_cons_succ, List.getElem?_cons_zero, List.getElem?_cons_succ, Option.some.injEq, V.int.injEq, V.bl.injEq, exists_eq_left', exists_eq_left, exists_and_left, tFor_eq, iRng1, iRng2, iRng3, iList, iEnum, iZip, iTup, tLst_eq, tTup_eq, rCat_eq, rCatS, rSum, rAppend_eq, rListOf, rSlL_eq, tSl, tNoPart, tPart, tLc_eq, tBM, rIxL, rIxT, min3_eq, rEq_int, rNe_int, min_if, max_if, and_assoc, V.ref.injEq, V.str.injEq, List.cons.injEq, and_true, true_and, ↓reduceIte, Bool.false_eq_true, Bool.not_true, Bool.not_false, Int.reduceToNat, Int.reducePow, Int.reduceAdd, Int.reduceSub, Int.reduceNeg, tVirt, tOff, tFld, sFld_eq, tMake_eq, rTupOf, iStr, rNe_str, rEq_str, rEq_bl, tRaise1, tFmt, tJs, tCallS, WE, wKeep_eq, reduceCtorEq, false_and, and_false, exists_false, or_false, false_or, tIsN, tNotN, decide_true, decide_false, tDictN, tDGet]
    refine ⟨_, rd e02 rfl, ?_⟩
    simp only [tSeq, tIfS, tOr, tAnd, tNot, tB, tTest, tCB, tCall, tCons, tVar, tNil, tC, tRet, tRetN, tNext, tAsg, gName, tDrop, tOp, tUn, tAug, ipI, tPar, tIf, tAndV, tOrV, tNotV, tChain, tNever, rI0, rI, rU, L2.start, cxK, List.map_cons, List.map_nil, List.length_cons, List.length_nil, Nat.reduceAdd, Nat.reduceSub, List.replicate, List.cons_append, List.nil_append, List.append_nil, List.set_cons_zero, List.set_cons_succ, List.getElem?_cons_zero, List.getElem?_cons_succ, Option.some.injEq, V.int.injEq, V.bl.injEq, exists_eq_left', exists_eq_left, exists_and_left, tFor_eq, iRng1, iRng2, iRng3, iList, iEnum, iZip, iTup, tLst_eq, tTup_eq, rCat_eq, rCatS, rSum, rAppend_eq, rListOf, rSlL_eq, tSl, tNoPart, tPart, tLc_eq, tBM, rIxL, rIxT, min3_eq, rEq_int, rNe_int, min_if, max_if, and_assoc, V.ref.injEq, V.str.injEq, List.cons.injEq, and_true, true_and, ↓reduceIte, Bool.false_eq_true, Bool.not_true, Bool.not_false, Int.reduceToNat, Int.reducePow, Int.reduceAdd, Int.reduceSub, Int.reduceNeg, tVirt, tOff, tFld, sFld_eq, tMake_eq, rTupOf, iStr, rNe_str, rEq_str, rEq_bl, tRaise1, tFmt, tJs, tCallS, WE, wKeep_eq, reduceCtorEq, false_and, and_false, exists_false, or_false, false_or, tIsN, tNotN, decide_true, decide_false, tDictN]
    rw [show ("trap" : Str) = kdS .trap from rfl, kdS_inj]
    by_cases c2 : k = .trap
    · refine ifT (decide_eq_true c2) ⟨_, rd e02 rfl, _, rd e02 rfl, made_of fun x dx H3 nx e3 hx => ?_⟩
      subst c2
      have e3' := e02.trans e3
      have nx0 := fresh_back e02 nx
      refine ⟨x, _, dx, _, _, _, _, _, _, _, _, _, rfl, hx, by simp, sn.ks e3', sl.kn e3', sg.kn e3', spa.kn e3', sga.kn e3', spl.kn e3', sla.kn e3', sat.kn e3', swi.kn e3', e3.tab tg2, fun z H4 x4 => noname z H4 (ExB.ex e3' nx0 x4), fun z1 z2 H4 x4 => bad z1 z2 H4 (ExB.ex e3' nx0 x4), fun z1 z2 z3 H4 x4 h4 => ⟨rfl, ?_⟩⟩
      exact q z1 (by rw [z2]; exact z3) x dx 0 H4 nx0 (ExB.ex e3' nx0 x4) h4 fun z => by cases z
    refine ifF (decide_eq_false c2) ?_
    rw [← hN1]
    clear hN1
    have c3 : k = .floor := by
      cases e : k with
      | line => exact absurd e c0
      | wagon => exact absurd e c1
      | trap => exact absurd e c2
      | floor => rfl
    subst c3
    simp only [tSeq, tIfS, tOr, tAnd, tNot, tB, tTest, tCB, tCall, tCons, tVar, tNil, tC, tRet, tRetN, tNext, tAsg, gName, tDrop, tOp, tUn, tAug, ipI, tPar, tIf, tAndV, tOrV, tNotV, tChain, tNever, rI0, rI, rU, L2.start, cxK, List.map_cons, List.map_nil, List.length_cons, List.length_nil, Nat.reduceAdd, Nat.reduceSub, List.replicate, List.cons_append, List.nil_append, List.append_nil, List.set_cons_zero, List.set_cons_succ, List.getElem?_cons_zero, List.getElem?_cons_succ, Option.some.injEq, V.int.injEq, V.bl.injEq, exists_eq_left', exists_eq_left, exists_and_left, tFor_eq, iRng1, iRng2, iRng3, iList, iEnum, iZip, iTup, tLst_eq, tTup_eq, rCat_eq, rCatS, rSum, rAppend_eq, rListOf, rSlL_eq, tSl, tNoPart, tPart, tLc_eq, tBM, rIxL, rIxT, min3_eq, rEq_int, rNe_int, min_if, max_if, and_assoc, V.ref.injEq, V.str.injEq, List.cons.injEq, and_true, true_and, ↓reduceIte, Bool.false_eq_true, Bool.not_true, Bool.not_false, Int.reduceToNat, Int.reducePow, Int.reduceAdd, Int.reduceSub, Int.reduceNeg, tVirt, tOff, tFld, sFld_eq, tMake_eq, rTupOf, iStr, rNe_str, rEq_str, rEq_bl, tRaise1, tFmt, tJs, tCallS, WE, wKeep_eq, reduceCtorEq, false_and, and_false, exists_false, or_false, false_or, tIsN, tNotN, decide_true, decide_false, tDictN, tDGet]
    refine ⟨_, rd e02 rfl, made_of fun x dx H3 nx e3 hx => ?_⟩
    have e3' := e02.trans e3
    have nx0 := fresh_back e02 nx
    refine ⟨x, _, dx, _, _, _, _, _, _, _, _, r, rfl, hx, by simp, sn.ks e3', sl.kn e3', sg.kn e3', spa.kn e3', sga.kn e3', spl.kn e3', sla.kn e3', wis.mono (.of e3'), e3.tab tg2, fun z H4 x4 => noname z H4 (ExB.ex e3' nx0 x4), fun z1 z2 H4 x4 => bad z1 (by rw [← z2, Bool.and_assoc]; rfl) H4 (ExB.ex e3' nx0 x4), fun z1 z2 z3 ws hws H4 t ys x4 nt ht tw4 h4 => ⟨rfl, ?_⟩⟩
    exact q z1 (by rw [z2, hws]; show (true && (wholeV la 0 9 && true)) = true; rw [z3]; rfl) x dx t H4 nx0 (ExB.ex e3' nx0 x4) h4 fun _ => ⟨ws, ys, hws, ht, tw4⟩
end
end FW

set_option Elab.async false
set_option linter.all false
set_option maxRecDepth 100000
set_option maxHeartbeats 4000000
namespace L2
open PySem PySem.Spec PyProof.Rows Evt
theorem dput_chg {H : Hp} {a : Addr} {kvs kvs' : List (Key × V)} {k : Str} {v : V} {R : Hp → Prop} (h : H a = some (.dK kvs)) (hl : kvs.length < 100000) (e : putK kvs (Sum.inr k) v = kvs') (r : ∀ H', (∀ b, b ≠ a → H' b = H b) → H' a = some (.dK kvs') → R H') : ∃ H', DPut H a (.str k) v H' ∧ R H' :=
  ⟨_, .inl ⟨kvs, Sum.inr k, h, rfl, sz_lt hl, rfl⟩, r _ (fun b hb => upd_ne hb) (by rw [upd_same, e])⟩
theorem ib_lo (b : Bool) : 0 ≤ ib b := by cases b <;> decide
theorem ib_hi (b : Bool) : ib b ≤ 1 := by cases b <;> decide
end L2
namespace FW
open PySem PySem.Spec PyProof.Rows L2 Evt
section
variable {P : Program} {w : World} {K : PySem.W.Frag} {mg : Str → Option Value} {base : Heap} {cl : Nat → Addr}
theorem cpw : CPow 10 9 := ⟨by decide, by decide, by decide⟩
theorem cpw8 : CPow 10 8 := ⟨by decide, by decide, by decide⟩
theorem cpw6 : CPow 10 6 := ⟨by decide, by decide, by decide⟩
def nmOk (i n : Nat) : Bool := nameV (.str (cutS (cutS (Str.ofString "abcdefgh") (some (i : Int)) none) none (some (1 + (n : Int))))) && PyData.strOk (cutS (cutS (Str.ofString "abcdefgh") (some (i : Int)) none) none (some (1 + (n : Int)))) && decide ((cutS (Str.ofString "abcdefgh") (some (i : Int)) none).length ≤ 8)
theorem nm_all : ∀ i : Fin 8, ∀ n : Fin 8, nmOk i.1 n.1 = true := by decide +kernel
theorem nm_cut {i n : Int} (i0 : 0 ≤ i) (i1 : i < 8) (n0 : 0 ≤ n) (n1 : n < 8) : ∃ nm : Str, cutS (cutS (Str.ofString "abcdefgh") (some i) none) none (some (1 + n)) = nm ∧ nameV (.str nm) = true ∧ PyData.strOk nm = true ∧ (cutS (Str.ofString "abcdefgh") (some i) none).length ≤ 8 ∧ nm.length ≤ 8 := by
  have h := nm_all ⟨i.toNat, by omega⟩ ⟨n.toNat, by omega⟩
  have h : nmOk i.toNat n.toNat = true := h
  unfold nmOk at h
  rw [show ((i.toNat : Nat) : Int) = i by omega, show ((n.toNat : Nat) : Int) = n by omega, Bool.and_eq_true, Bool.and_eq_true] at h
  refine ⟨_, rfl, h.1.1, h.1.2, of_decide_eq_true h.2, ?_⟩
  have z : (decide (1 ≤ (cutS (cutS (Str.ofString "abcdefgh") (some i) none) none (some (1 + n))).length) && decide ((cutS (cutS (Str.ofString "abcdefgh") (some i) none) none (some (1 + n))).length ≤ 8) && (cutS (cutS (Str.ofString "abcdefgh") (some i) none) none (some (1 + n))).cps.toList.all small) = true := h.1.1
  rw [Bool.and_eq_true, Bool.and_eq_true] at z
  exact of_decide_eq_true z.1.2
theorem kind4 {i : Int} (h0 : 0 ≤ i) (h1 : i < 4) : ∃ kd : Kd, atI [V.str "line", V.str "wagon", V.str "floor", V.str "trap"] i = some (V.str (kdS kd)) := by
  have c : i = 0 ∨ i = 1 ∨ i = 2 ∨ i = 3 := by omega
  rcases c with rfl | rfl | rfl | rfl
  · exact ⟨.line, rfl⟩
  · exact ⟨.wagon, rfl⟩
  · exact ⟨.floor, rfl⟩
  · exact ⟨.trap, rfl⟩
structure GoodD (d : Md) : Prop where
  nm : nameV (.str d.name) = true
  nl : d.name.length ≤ 100
  l0 : -1000000000 ≤ d.least
  lg : d.least ≤ d.greatest
  g1 : d.greatest ≤ 1000000000
  p0 : 1 ≤ d.pace
  p1 : d.pace ≤ 1000000000
  a0 : 1 ≤ d.gain
  a1 : d.gain ≤ 1000000000
  b0 : d.least ≤ d.place
  b1 : d.place ≤ d.greatest
  n0 : 0 ≤ d.lane
  n9 : d.lane ≤ 9
  t0 : -1000000000 ≤ d.at_
  t1 : d.at_ ≤ 1000000000
  w0 : 1 ≤ d.wide
  w1 : d.wide ≤ 1000000
  h0 : 1 ≤ d.tall
  h1 : d.tall ≤ 1000000
  k0 : 1 ≤ d.walls.length
  k4 : d.walls.length ≤ 4
  ok : ∀ w ∈ d.walls, WlOk w
theorem whole_of {i l m : Int} (h1 : l ≤ i) (h2 : i ≤ m) : wholeV (.int i) l m = true := by
  show (decide (l ≤ i) && decide (i ≤ m)) = true
  rw [decide_eq_true h1, decide_eq_true h2]
  rfl
theorem GoodD.m {d : Md} (g : GoodD d) : mOk (.int d.least) (.int d.greatest) (.int d.pace) (.int d.gain) (.int d.place) = true := by
  have l0 := g.l0
  have lg := g.lg
  have g1 := g.g1
  show (wholeV (.int d.least) (-1000000000) 1000000000 && wholeV (.int d.greatest) d.least 1000000000 && (wholeV (.int d.pace) 1 1000000000 && wholeV (.int d.gain) 1 1000000000) && wholeV (.int d.place) d.least d.greatest) = true
  rw [whole_of l0 (by omega), whole_of lg g1, whole_of g.p0 g.p1, whole_of g.a0 g.a1, whole_of g.b0 g.b1]
  rfl

def sp__law_drawn : Sp := fun vs H Q _ => ∃ (draw k : Int), vs = [.int draw, .int k] ∧ 0 ≤ draw ∧ draw < 2147483647 ∧ ∀ p wa d H', H p = none → Ex H H' → IsO H' p wa d → GoodD d → PyData.strOk d.name = true → Q (.ref p) H'
theorem ok__law_drawn (B : Bt mg cl) (F__law_spread : Fn P w K mg base "_law_spread" ["_law_cell", "_law_k"] CX0 1 sp__law_spread) {f : Addr} {fd : FuncData} (F : Fun K "_law_drawn" "_law_drawn" s__law_drawn f fd) : FnOk P w K mg base CX0 2 f fd ["_law_draw_here", "_law_k"] sp__law_drawn := by
  refine F.ok sc__law_drawn (fun vs H Q E h => ?_) (fun cdv A outer s H vs Q E hr h => ?_)
  · obtain ⟨draw, k, rfl, _⟩ := h
    rfl
  · obtain ⟨draw, k, rfl, d0, d1, q⟩ := h
    refine ⟨_, (pss_cons (ps_set (i := 2) sc__law_drawn.nd rfl (.inl rfl) (pe_op op_mod (pe_op op_fdivW (pv 0) pe_int) pe_int))
      (pss_cons (ps_set (i := 3) sc__law_drawn.nd rfl (.inl rfl) (pe_lst (pa_cons (pe_op op_sub (pe_op op_mod (pv 0) pe_int) pe_int) (pa_cons (pe_un un_neg (pe_op op_pow pe_int pe_int)) (pa_cons (pe_op op_sub (pe_op op_mod (pv 0) (pe_op op_pow pe_int pe_int)) (pe_op op_mul pe_int (pe_op op_pow pe_int pe_int))) pa_nil)))))
      (pss_cons (ps_set (i := 4) sc__law_drawn.nd rfl (.inl rfl) (pe_ix (k_ixl (K := K) rfl) (pv 3) (pv 2) (fun _ _ => rfl)))
      (pss_cons (ps_set (i := 5) sc__law_drawn.nd rfl (.inl rfl) (pe_op op_add (pv 4) (pe_ix (k_ixl (K := K) rfl) (pe_lst (pa_cons (pe_op op_mod (pe_op op_fdivW (pv 0) pe_int) pe_int) (pa_cons (pe_op op_pow pe_int pe_int) (pa_cons (pe_op op_mod (pe_op op_fdivW (pv 0) pe_int) (pe_op op_pow pe_int pe_int)) pa_nil)))) (pv 2) (fun _ _ => rfl))))
      (pss_cons (ps_set (i := 6) sc__law_drawn.nd rfl (.inl rfl) (pe_disp (pps_cons pe_str (pe_slice sl_str (pe_slice sl_str pe_str (po_some (pe_op op_mod (pe_op op_fdivW (pv 0) pe_int) pe_int)) po_none) po_none (po_some (pe_op op_add pe_int (pe_op op_mod (pe_op op_fdivW (pv 0) pe_int) pe_int)))) (pps_cons pe_str (pv 4) (pps_cons pe_str (pv 5) pps_nil))) (by rfl) (by rfl) (by simp) (by decide)))
      (pss_cons (ps_dput (hu_of hr) (pv 6) pe_str (pe_op op_add (pv 4) (pe_op op_mod (pe_op op_fdivW (pv 0) pe_int) (pe_op op_add (pe_op op_sub (pv 5) (pv 4)) pe_int))) (by rfl))
      (pss_cons (ps_dput (hu_of hr) (pv 6) pe_str (pe_ix (k_ixl (K := K) rfl) (pe_lst (pa_cons (pe_op op_add pe_int (pe_op op_mod (pe_op op_fdivW (pv 0) pe_int) pe_int)) (pa_cons (pe_op op_pow pe_int pe_int) (pa_cons (pe_op op_add pe_int (pe_op op_mod (pv 0) (pe_op op_pow pe_int pe_int))) pa_nil)))) (pv 2) (fun _ _ => rfl)) (by rfl))
      (pss_cons (ps_dput (hu_of hr) (pv 6) pe_str (pe_ix (k_ixl (K := K) rfl) (pe_lst (pa_cons (pe_op op_add pe_int (pe_op op_mod (pe_op op_fdivW (pv 0) pe_int) pe_int)) (pa_cons (pe_op op_pow pe_int pe_int) (pa_cons (pe_op op_add pe_int (pe_op op_mod (pe_op op_fdivW (pv 0) pe_int) (pe_op op_pow pe_int pe_int))) pa_nil)))) (pv 2) (fun _ _ => rfl)) (by rfl))
      (pss_cons (ps_dput (hu_of hr) (pv 6) pe_str (pe_ix (k_ixl (K := K) rfl) (pe_lst (pa_cons pe_str (pa_cons pe_str (pa_cons pe_str (pa_cons pe_str pa_nil))))) (pe_op op_mod (pv 1) pe_int) (fun _ _ => rfl)) (by rfl))
      (pss_cons (ps_dput (hu_of hr) (pv 6) pe_str (pe_op op_mod (pe_op op_fdivW (pv 0) pe_int) pe_int) (by rfl))
      (pss_cons (ps_dput (hu_of hr) (pv 6) pe_str (pe_ix (k_ixl (K := K) rfl) (pe_lst (pa_cons (pe_op op_sub (pe_op op_mod (pe_op op_fdivW (pv 0) pe_int) pe_int) pe_int) (pa_cons (pe_un un_neg (pe_op op_pow pe_int pe_int)) (pa_cons (pe_op op_pow pe_int pe_int) pa_nil)))) (pv 2) (fun _ _ => rfl)) (by rfl))
      (pss_cons (ps_dput (hu_of hr) (pv 6) pe_str (pe_ix (k_ixl (K := K) rfl) (pe_lst (pa_cons (pe_op op_add pe_int (pe_op op_mod (pe_op op_fdivW (pv 0) pe_int) pe_int)) (pa_cons (pe_op op_pow pe_int pe_int) (pa_cons (pe_op op_add pe_int (pe_op op_mod (pv 0) (pe_op op_pow pe_int pe_int))) pa_nil)))) (pv 2) (fun _ _ => rfl)) (by rfl))
      (pss_cons (ps_dput (hu_of hr) (pv 6) pe_str (pe_ix (k_ixl (K := K) rfl) (pe_lst (pa_cons (pe_op op_add pe_int (pe_op op_mod (pe_op op_fdivW (pv 0) pe_int) pe_int)) (pa_cons (pe_op op_add pe_int (pe_op op_mod (pe_op op_fdivW (pv 0) pe_int) (pe_op op_pow pe_int pe_int))) (pa_cons (pe_op op_pow pe_int pe_int) pa_nil)))) (pv 2) (fun _ _ => rfl)) (by rfl))
      (pss_cons (ps_dput (hu_of hr) (pv 6) pe_str (pe_lst pa_nil) (by rfl))
      (pss_cons (ps_for PassesOwn.never rfl (pi_range1 (by rfl) B.b_range (pa_cons (pe_op op_add pe_int (pe_op op_mod (pe_op op_fdivW (pv 0) pe_int) pe_int)) pa_nil)) (pg_name (i := 7) sc__law_drawn.nd rfl (.inl rfl))
        (pss_cons (ps_set (i := 8) sc__law_drawn.nd rfl (.inl rfl) (pe_fn F__law_spread (hr.mono (by decide)) (pa_cons (pv 0) (pa_cons (pv 7) pa_nil))))
      (pss_one (ps_expr (pe_bm PySem.F.plainAttrs_list PySem.F.slot_list_append PySem.F.type_list_append mt_append (pe_dget (hu_of hr) (pv 6) pe_str (fun _ _ => rfl)) (pa_cons (pe_tup (pa_cons (pe_ix (k_ixl (K := K) rfl) (pe_lst (pa_cons (pe_op op_mod (pv 8) pe_int) (pa_cons pe_int pa_nil))) (pe_op op_mod (pe_op op_fdivW (pv 8) pe_int) pe_int) (fun _ _ => rfl)) (pa_cons (pe_op op_add pe_int (pe_op op_mod (pe_op op_fdivW (pv 8) pe_int) pe_int)) (pa_cons (pe_op op_add pe_int (pe_op op_mod (pe_op op_fdivW (pv 8) pe_int) pe_int)) pa_nil)))) pa_nil))))))
      (pss_one (ps_ret (pv 6)))))))))))))))))), ?_⟩
    refine cut_eq fun N1 hN1 => ?_
    simp only [tSeq, tIfS, tOr, tAnd, tNot, tB, tTest, tCB, tCall, tCons, tVar, tNil, tC, tRet, tRetN, tNext, tAsg, gName, tDrop, tOp, tUn, tAug, ipI, tPar, tIf, tAndV, tOrV, tNotV, tChain, tNever, rI0, rI, rU, L2.start, cxK, List.map_cons, List.map_nil, List.length_cons, List.length_nil, Nat.reduceAdd, Nat.reduceSub, List.replicate, List.cons_append, List.nil_append, List.append_nil, List.set_cons_zero, List.set_cons_succ, List.getElem?_cons_zero, List.getElem?_cons_succ, Option.some.injEq, V.int.injEq, V.bl.injEq, exists_eq_left', exists_eq_left, exists_and_left, tFor_eq, iRng1, iRng2, iRng3, iList, iEnum, iZip, iTup, tLst_eq, tTup_eq, rCat_eq, rCatS, rSum, rAppend_eq, rListOf, rSlL_eq, tSl, tNoPart, tPart, tLc_eq, tBM, rIxL, rIxT, min3_eq, rEq_int, rNe_int, min_if, max_if, and_assoc, V.ref.injEq, V.str.injEq, List.cons.injEq, and_true, true_and, ↓reduceIte, Bool.false_eq_true, Bool.not_true, Bool.not_false, Int.reduceToNat, Int.reducePow, Int.reduceAdd, Int.reduceSub, Int.reduceNeg, tVirt, tOff, tFld, sFld_eq, tMake_eq, rTupOf, iStr, rNe_str, rEq_str, rEq_bl, tRaise1, tFmt, tJs, tCallS, WE, wKeep_eq, reduceCtorEq, false_and, and_false, exists_false, or_false, false_or, tIsN, tNotN, decide_true, decide_false, tDictN]
    refine ⟨cdw (by decide) (by decide), by decide, ?_⟩
    rw [← hN1]
    clear hN1
    obtain ⟨gr, egr⟩ : ∃ gr, gr = draw / 7 % 3 := ⟨_, rfl⟩
    have g0 : gr = 0 ∨ gr = 1 ∨ gr = 2 := by omega
    rw [← egr]
    refine cut_eq fun N1 hN1 => ?_
    simp only [tSeq, tIfS, tOr, tAnd, tNot, tB, tTest, tCB, tCall, tCons, tVar, tNil, tC, tRet, tRetN, tNext, tAsg, gName, tDrop, tOp, tUn, tAug, ipI, tPar, tIf, tAndV, tOrV, tNotV, tChain, tNever, rI0, rI, rU, L2.start, cxK, List.map_cons, List.map_nil, List.length_cons, List.length_nil, Nat.reduceAdd, Nat.reduceSub, List.replicate, List.cons_append, List.nil_append, List.append_nil, List.set_cons_zero, List.set_cons_succ, List.getElem?_cons_zero, List.getElem?_cons_succ, Option.some.injEq, V.int.injEq, V.bl.injEq, exists_eq_left', exists_eq_left, exists_and_left, tFor_eq, iRng1, iRng2, iRng3, iList, iEnum, iZip, iTup, tLst_eq, tTup_eq, rCat_eq, rCatS, rSum, rAppend_eq, rListOf, rSlL_eq, tSl, tNoPart, tPart, tLc_eq, tBM, rIxL, rIxT, min3_eq, rEq_int, rNe_int, min_if, max_if, and_assoc, V.ref.injEq, V.str.injEq, List.cons.injEq, and_true, true_and, ↓reduceIte, Bool.false_eq_true, Bool.not_true, Bool.not_false, Int.reduceToNat, Int.reducePow, Int.reduceAdd, Int.reduceSub, Int.reduceNeg, tVirt, tOff, tFld, sFld_eq, tMake_eq, rTupOf, iStr, rNe_str, rEq_str, rEq_bl, tRaise1, tFmt, tJs, tCallS, WE, wKeep_eq, reduceCtorEq, false_and, and_false, exists_false, or_false, false_or, tIsN, tNotN, decide_true, decide_false, tDictN]
    refine ⟨by decide, cpw, cpw, by decide, cpw8, .inl ⟨by decide, by decide⟩, sz_of (by decide), new_of fun ll H1 nll e1 hll => ?_⟩
    rw [← hN1]
    clear hN1
    refine cut_eq fun N1 hN1 => ?_
    simp only [tSeq, tIfS, tOr, tAnd, tNot, tB, tTest, tCB, tCall, tCons, tVar, tNil, tC, tRet, tRetN, tNext, tAsg, gName, tDrop, tOp, tUn, tAug, ipI, tPar, tIf, tAndV, tOrV, tNotV, tChain, tNever, rI0, rI, rU, L2.start, cxK, List.map_cons, List.map_nil, List.length_cons, List.length_nil, Nat.reduceAdd, Nat.reduceSub, List.replicate, List.cons_append, List.nil_append, List.append_nil, List.set_cons_zero, List.set_cons_succ, List.getElem?_cons_zero, List.getElem?_cons_succ, Option.some.injEq, V.int.injEq, V.bl.injEq, exists_eq_left', exists_eq_left, exists_and_left, tFor_eq, iRng1, iRng2, iRng3, iList, iEnum, iZip, iTup, tLst_eq, tTup_eq, rCat_eq, rCatS, rSum, rAppend_eq, rListOf, rSlL_eq, tSl, tNoPart, tPart, tLc_eq, tBM, rIxL, rIxT, min3_eq, rEq_int, rNe_int, min_if, max_if, and_assoc, V.ref.injEq, V.str.injEq, List.cons.injEq, and_true, true_and, ↓reduceIte, Bool.false_eq_true, Bool.not_true, Bool.not_false, Int.reduceToNat, Int.reducePow, Int.reduceAdd, Int.reduceSub, Int.reduceNeg, tVirt, tOff, tFld, sFld_eq, tMake_eq, rTupOf, iStr, rNe_str, rEq_str, rEq_bl, tRaise1, tFmt, tJs, tCallS, WE, wKeep_eq, reduceCtorEq, false_and, and_false, exists_false, or_false, false_or, tIsN, tNotN, decide_true, decide_false, tDictN]
    obtain ⟨le, le0, le1, leg, hle⟩ : ∃ le : Int, -1000000000 ≤ le ∧ le < 500000000 ∧ (gr = 1 → le = -1000000000) ∧ atI [V.int (draw % 41 - 20), V.int (-1000000000), V.int (draw % 1000000000 - 5 * 100000000)] gr = some (.int le) := by
      rcases g0 with rfl | rfl | rfl
      · exact ⟨_, by omega, by omega, by omega, rfl⟩
      · exact ⟨_, by omega, by omega, by omega, rfl⟩
      · exact ⟨_, by omega, by omega, by omega, rfl⟩
    refine ⟨_, sq_of hll, _, hle, ?_⟩
    rw [← hN1]
    clear hN1
    refine cut_eq fun N1 hN1 => ?_
    simp only [tSeq, tIfS, tOr, tAnd, tNot, tB, tTest, tCB, tCall, tCons, tVar, tNil, tC, tRet, tRetN, tNext, tAsg, gName, tDrop, tOp, tUn, tAug, ipI, tPar, tIf, tAndV, tOrV, tNotV, tChain, tNever, rI0, rI, rU, L2.start, cxK, List.map_cons, List.map_nil, List.length_cons, List.length_nil, Nat.reduceAdd, Nat.reduceSub, List.replicate, List.cons_append, List.nil_append, List.append_nil, List.set_cons_zero, List.set_cons_succ, List.getElem?_cons_zero, List.getElem?_cons_succ, Option.some.injEq, V.int.injEq, V.bl.injEq, exists_eq_left', exists_eq_left, exists_and_left, tFor_eq, iRng1, iRng2, iRng3, iList, iEnum, iZip, iTup, tLst_eq, tTup_eq, rCat_eq, rCatS, rSum, rAppend_eq, rListOf, rSlL_eq, tSl, tNoPart, tPart, tLc_eq, tBM, rIxL, rIxT, min3_eq, rEq_int, rNe_int, min_if, max_if, and_assoc, V.ref.injEq, V.str.injEq, List.cons.injEq, and_true, true_and, ↓reduceIte, Bool.false_eq_true, Bool.not_true, Bool.not_false, Int.reduceToNat, Int.reducePow, Int.reduceAdd, Int.reduceSub, Int.reduceNeg, tVirt, tOff, tFld, sFld_eq, tMake_eq, rTupOf, iStr, rNe_str, rEq_str, rEq_bl, tRaise1, tFmt, tJs, tCallS, WE, wKeep_eq, reduceCtorEq, false_and, and_false, exists_false, or_false, false_or, tIsN, tNotN, decide_true, decide_false, tDictN]
    refine ⟨cdw (by decide) (by decide), by decide, cpw, cdw (by decide) (by decide), cpw8, by decide, sz_of (by decide), new_of fun l2 H2 n2 e2 hl2 => ?_⟩
    obtain ⟨xx, xx0, xx1, xxg, hxx⟩ : ∃ xx : Int, 0 ≤ xx ∧ xx ≤ 1000000000 ∧ (gr ≠ 1 → xx < 100000000) ∧ atI [V.int (draw / 41 % 60), V.int 1000000000, V.int (draw / 9 % 100000000)] gr = some (.int xx) := by
      rcases g0 with rfl | rfl | rfl
      · exact ⟨_, by omega, by omega, by omega, rfl⟩
      · exact ⟨_, by omega, by omega, by omega, rfl⟩
      · exact ⟨_, by omega, by omega, by omega, rfl⟩
    refine ⟨_, sq_of hl2, _, hxx, ?_⟩
    simp only [tSeq, tIfS, tOr, tAnd, tNot, tB, tTest, tCB, tCall, tCons, tVar, tNil, tC, tRet, tRetN, tNext, tAsg, gName, tDrop, tOp, tUn, tAug, ipI, tPar, tIf, tAndV, tOrV, tNotV, tChain, tNever, rI0, rI, rU, L2.start, cxK, List.map_cons, List.map_nil, List.length_cons, List.length_nil, Nat.reduceAdd, Nat.reduceSub, List.replicate, List.cons_append, List.nil_append, List.append_nil, List.set_cons_zero, List.set_cons_succ, List.getElem?_cons_zero, List.getElem?_cons_succ, Option.some.injEq, V.int.injEq, V.bl.injEq, exists_eq_left', exists_eq_left, exists_and_left, tFor_eq, iRng1, iRng2, iRng3, iList, iEnum, iZip, iTup, tLst_eq, tTup_eq, rCat_eq, rCatS, rSum, rAppend_eq, rListOf, rSlL_eq, tSl, tNoPart, tPart, tLc_eq, tBM, rIxL, rIxT, min3_eq, rEq_int, rNe_int, min_if, max_if, and_assoc, V.ref.injEq, V.str.injEq, List.cons.injEq, and_true, true_and, ↓reduceIte, Bool.false_eq_true, Bool.not_true, Bool.not_false, Int.reduceToNat, Int.reducePow, Int.reduceAdd, Int.reduceSub, Int.reduceNeg, tVirt, tOff, tFld, sFld_eq, tMake_eq, rTupOf, iStr, rNe_str, rEq_str, rEq_bl, tRaise1, tFmt, tJs, tCallS, WE, wKeep_eq, reduceCtorEq, false_and, and_false, exists_false, or_false, false_or, tIsN, tNotN, decide_true, decide_false, tDictN]
    rw [← hN1]
    clear hN1
    obtain ⟨gt, egt⟩ : ∃ gt, gt = le + xx := ⟨_, rfl⟩
    have gt0 : le ≤ gt := by omega
    have gt1 : gt ≤ 1000000000 := by
      by_cases c : gr = 1
      · have := leg c
        omega
      · have := xxg c
        omega
    rw [← egt]
    have e02 := e1.trans e2
    refine cut_eq fun N1 hN1 => ?_
    simp only [tSeq, tIfS, tOr, tAnd, tNot, tB, tTest, tCB, tCall, tCons, tVar, tNil, tC, tRet, tRetN, tNext, tAsg, gName, tDrop, tOp, tUn, tAug, ipI, tPar, tIf, tAndV, tOrV, tNotV, tChain, tNever, rI0, rI, rU, L2.start, cxK, List.map_cons, List.map_nil, List.length_cons, List.length_nil, Nat.reduceAdd, Nat.reduceSub, List.replicate, List.cons_append, List.nil_append, List.append_nil, List.set_cons_zero, List.set_cons_succ, List.getElem?_cons_zero, List.getElem?_cons_succ, Option.some.injEq, V.int.injEq, V.bl.injEq, exists_eq_left', exists_eq_left, exists_and_left, tFor_eq, iRng1, iRng2, iRng3, iList, iEnum, iZip, iTup, tLst_eq, tTup_eq, rCat_eq, rCatS, rSum, rAppend_eq, rListOf, rSlL_eq, tSl, tNoPart, tPart, tLc_eq, tBM, rIxL, rIxT, min3_eq, rEq_int, rNe_int, min_if, max_if, and_assoc, V.ref.injEq, V.str.injEq, List.cons.injEq, and_true, true_and, ↓reduceIte, Bool.false_eq_true, Bool.not_true, Bool.not_false, Int.reduceToNat, Int.reducePow, Int.reduceAdd, Int.reduceSub, Int.reduceNeg, tVirt, tOff, tFld, sFld_eq, tMake_eq, rTupOf, iStr, rNe_str, rEq_str, rEq_bl, tRaise1, tFmt, tJs, tCallS, WE, wKeep_eq, reduceCtorEq, false_and, and_false, exists_false, or_false, false_or, tIsN, tNotN, decide_true, decide_false, tDictN, tDisp_eq, tPairs, rSlS]
    obtain ⟨nm, enm, nm1, nm2, nm3, nm4⟩ := nm_cut (i := draw / 3 % 8) (n := draw / 24 % 8) (by omega) (by omega) (by omega) (by omega)
    rw [enm]
    refine new_of fun p H3 np3 e3 hp3 => ⟨cdw (by decide) (by decide), by decide, sz_of (by decide +kernel), cdw (by decide) (by decide), by decide, sz_of (by omega), hp3, [(Sum.inr "name", .str nm), (Sum.inr "least", .int le), (Sum.inr "greatest", .int gt)], rfl, show (3 : Nat) ≤ 15 by decide, chg_of fun H4 k4 h4 => ?_⟩
    replace h4 : H4 p = some (.dK [(Sum.inr "name", .str nm), (Sum.inr "least", .int le), (Sum.inr "greatest", .int gt)]) := h4
    have np : H p = none := fresh_back e02 np3
    have e4 : Ex H H4 := ex_chg (e02.trans e3) np k4
    clear k4 hp3
    rw [← hN1]
    clear hN1
    have sp : 0 < gt - le + 1 := by omega
    have s0 := Int.emod_nonneg (draw / 5) (Int.ne_of_gt sp)
    have s1 := Int.emod_lt_of_pos (draw / 5) sp
    refine cut_eq fun N1 hN1 => ?_
    simp only [tSeq, tIfS, tOr, tAnd, tNot, tB, tTest, tCB, tCall, tCons, tVar, tNil, tC, tRet, tRetN, tNext, tAsg, gName, tDrop, tOp, tUn, tAug, ipI, tPar, tIf, tAndV, tOrV, tNotV, tChain, tNever, rI0, rI, rU, L2.start, cxK, List.map_cons, List.map_nil, List.length_cons, List.length_nil, Nat.reduceAdd, Nat.reduceSub, List.replicate, List.cons_append, List.nil_append, List.append_nil, List.set_cons_zero, List.set_cons_succ, List.getElem?_cons_zero, List.getElem?_cons_succ, Option.some.injEq, V.int.injEq, V.bl.injEq, exists_eq_left', exists_eq_left, exists_and_left, tFor_eq, iRng1, iRng2, iRng3, iList, iEnum, iZip, iTup, tLst_eq, tTup_eq, rCat_eq, rCatS, rSum, rAppend_eq, rListOf, rSlL_eq, tSl, tNoPart, tPart, tLc_eq, tBM, rIxL, rIxT, min3_eq, rEq_int, rNe_int, min_if, max_if, and_assoc, V.ref.injEq, V.str.injEq, List.cons.injEq, and_true, true_and, ↓reduceIte, Bool.false_eq_true, Bool.not_true, Bool.not_false, Int.reduceToNat, Int.reducePow, Int.reduceAdd, Int.reduceSub, Int.reduceNeg, tVirt, tOff, tFld, sFld_eq, tMake_eq, rTupOf, iStr, rNe_str, rEq_str, rEq_bl, tRaise1, tFmt, tJs, tCallS, WE, wKeep_eq, reduceCtorEq, false_and, and_false, exists_false, or_false, false_or, tIsN, tNotN, decide_true, decide_false, tDictN, sDPut]
    refine ⟨cdw (by decide) (by decide), sp, ?_⟩
    refine dput_chg h4 (show (3 : Nat) < 100000 by decide) rfl fun H5 k5 h5 => ?_
    obtain ⟨pl, pl0, pl1, h5⟩ : ∃ pl : Int, le ≤ pl ∧ pl ≤ gt ∧ H5 p = some (.dK [(Sum.inr "name", .str nm), (Sum.inr "least", .int le), (Sum.inr "greatest", .int gt), (Sum.inr "place", .int pl)]) := ⟨_, by omega, by omega, h5⟩
    have e5 : Ex H H5 := ex_chg e4 np k5
    clear k5
    rw [← hN1]
    clear hN1
    refine cut_eq fun N1 hN1 => ?_
    simp only [tSeq, tIfS, tOr, tAnd, tNot, tB, tTest, tCB, tCall, tCons, tVar, tNil, tC, tRet, tRetN, tNext, tAsg, gName, tDrop, tOp, tUn, tAug, ipI, tPar, tIf, tAndV, tOrV, tNotV, tChain, tNever, rI0, rI, rU, L2.start, cxK, List.map_cons, List.map_nil, List.length_cons, List.length_nil, Nat.reduceAdd, Nat.reduceSub, List.replicate, List.cons_append, List.nil_append, List.append_nil, List.set_cons_zero, List.set_cons_succ, List.getElem?_cons_zero, List.getElem?_cons_succ, Option.some.injEq, V.int.injEq, V.bl.injEq, exists_eq_left', exists_eq_left, exists_and_left, tFor_eq, iRng1, iRng2, iRng3, iList, iEnum, iZip, iTup, tLst_eq, tTup_eq, rCat_eq, rCatS, rSum, rAppend_eq, rListOf, rSlL_eq, tSl, tNoPart, tPart, tLc_eq, tBM, rIxL, rIxT, min3_eq, rEq_int, rNe_int, min_if, max_if, and_assoc, V.ref.injEq, V.str.injEq, List.cons.injEq, and_true, true_and, ↓reduceIte, Bool.false_eq_true, Bool.not_true, Bool.not_false, Int.reduceToNat, Int.reducePow, Int.reduceAdd, Int.reduceSub, Int.reduceNeg, tVirt, tOff, tFld, sFld_eq, tMake_eq, rTupOf, iStr, rNe_str, rEq_str, rEq_bl, tRaise1, tFmt, tJs, tCallS, WE, wKeep_eq, reduceCtorEq, false_and, and_false, exists_false, or_false, false_or, tIsN, tNotN, decide_true, decide_false, tDictN, sDPut]
    refine ⟨cdw (by decide) (by decide), by decide, cpw, cpw, by decide, sz_of (by decide), new_of fun lq G5 nq eq5 hq => ?_⟩
    obtain ⟨pa', pa'0, pa'1, hx⟩ : ∃ pa' : Int, 1 ≤ pa' ∧ pa' ≤ 1000000000 ∧ atI [V.int (1 + draw / 11 % 30), V.int (1000000000), V.int (1 + draw % 1000000000)] gr = some (.int pa') := by
      rcases g0 with rfl | rfl | rfl
      · exact ⟨_, by omega, by omega, rfl⟩
      · exact ⟨_, by omega, by omega, rfl⟩
      · exact ⟨_, by omega, by omega, rfl⟩
    refine ⟨_, sq_of hq, _, hx, ?_⟩
    have hh5 := eq5 _ _ h5
    have ee5 := e5.trans eq5
    refine dput_chg hh5 (show (4 : Nat) < 100000 by decide) rfl fun H6 k6 h6 => ?_
    replace h6 : H6 p = some (.dK [(Sum.inr "name", .str nm), (Sum.inr "least", .int le), (Sum.inr "greatest", .int gt), (Sum.inr "place", .int pl), (Sum.inr "pace", .int pa')]) := h6
    have e6 : Ex H H6 := ex_chg ee5 np k6
    clear k6 hx hq hh5
    rw [← hN1]
    clear hN1
    refine cut_eq fun N1 hN1 => ?_
    simp only [tSeq, tIfS, tOr, tAnd, tNot, tB, tTest, tCB, tCall, tCons, tVar, tNil, tC, tRet, tRetN, tNext, tAsg, gName, tDrop, tOp, tUn, tAug, ipI, tPar, tIf, tAndV, tOrV, tNotV, tChain, tNever, rI0, rI, rU, L2.start, cxK, List.map_cons, List.map_nil, List.length_cons, List.length_nil, Nat.reduceAdd, Nat.reduceSub, List.replicate, List.cons_append, List.nil_append, List.append_nil, List.set_cons_zero, List.set_cons_succ, List.getElem?_cons_zero, List.getElem?_cons_succ, Option.some.injEq, V.int.injEq, V.bl.injEq, exists_eq_left', exists_eq_left, exists_and_left, tFor_eq, iRng1, iRng2, iRng3, iList, iEnum, iZip, iTup, tLst_eq, tTup_eq, rCat_eq, rCatS, rSum, rAppend_eq, rListOf, rSlL_eq, tSl, tNoPart, tPart, tLc_eq, tBM, rIxL, rIxT, min3_eq, rEq_int, rNe_int, min_if, max_if, and_assoc, V.ref.injEq, V.str.injEq, List.cons.injEq, and_true, true_and, ↓reduceIte, Bool.false_eq_true, Bool.not_true, Bool.not_false, Int.reduceToNat, Int.reducePow, Int.reduceAdd, Int.reduceSub, Int.reduceNeg, tVirt, tOff, tFld, sFld_eq, tMake_eq, rTupOf, iStr, rNe_str, rEq_str, rEq_bl, tRaise1, tFmt, tJs, tCallS, WE, wKeep_eq, reduceCtorEq, false_and, and_false, exists_false, or_false, false_or, tIsN, tNotN, decide_true, decide_false, tDictN, sDPut]
    refine ⟨cdw (by decide) (by decide), by decide, cpw, cdw (by decide) (by decide), cpw, by decide, sz_of (by decide), new_of fun lq G6 nq eq6 hq => ?_⟩
    obtain ⟨ga', ga'0, ga'1, hx⟩ : ∃ ga' : Int, 1 ≤ ga' ∧ ga' ≤ 1000000000 ∧ atI [V.int (1 + draw / 13 % 9), V.int (1000000000), V.int (1 + draw / 3 % 1000000000)] gr = some (.int ga') := by
      rcases g0 with rfl | rfl | rfl
      · exact ⟨_, by omega, by omega, rfl⟩
      · exact ⟨_, by omega, by omega, rfl⟩
      · exact ⟨_, by omega, by omega, rfl⟩
    refine ⟨_, sq_of hq, _, hx, ?_⟩
    have hh6 := eq6 _ _ h6
    have ee6 := e6.trans eq6
    refine dput_chg hh6 (show (5 : Nat) < 100000 by decide) rfl fun H7 k7 h7 => ?_
    replace h7 : H7 p = some (.dK [(Sum.inr "name", .str nm), (Sum.inr "least", .int le), (Sum.inr "greatest", .int gt), (Sum.inr "place", .int pl), (Sum.inr "pace", .int pa'), (Sum.inr "gain", .int ga')]) := h7
    have e7 : Ex H H7 := ex_chg ee6 np k7
    clear k7 hx hq hh6
    rw [← hN1]
    clear hN1
    refine cut_eq fun N1 hN1 => ?_
    simp only [tSeq, tIfS, tOr, tAnd, tNot, tB, tTest, tCB, tCall, tCons, tVar, tNil, tC, tRet, tRetN, tNext, tAsg, gName, tDrop, tOp, tUn, tAug, ipI, tPar, tIf, tAndV, tOrV, tNotV, tChain, tNever, rI0, rI, rU, L2.start, cxK, List.map_cons, List.map_nil, List.length_cons, List.length_nil, Nat.reduceAdd, Nat.reduceSub, List.replicate, List.cons_append, List.nil_append, List.append_nil, List.set_cons_zero, List.set_cons_succ, List.getElem?_cons_zero, List.getElem?_cons_succ, Option.some.injEq, V.int.injEq, V.bl.injEq, exists_eq_left', exists_eq_left, exists_and_left, tFor_eq, iRng1, iRng2, iRng3, iList, iEnum, iZip, iTup, tLst_eq, tTup_eq, rCat_eq, rCatS, rSum, rAppend_eq, rListOf, rSlL_eq, tSl, tNoPart, tPart, tLc_eq, tBM, rIxL, rIxT, min3_eq, rEq_int, rNe_int, min_if, max_if, and_assoc, V.ref.injEq, V.str.injEq, List.cons.injEq, and_true, true_and, ↓reduceIte, Bool.false_eq_true, Bool.not_true, Bool.not_false, Int.reduceToNat, Int.reducePow, Int.reduceAdd, Int.reduceSub, Int.reduceNeg, tVirt, tOff, tFld, sFld_eq, tMake_eq, rTupOf, iStr, rNe_str, rEq_str, rEq_bl, tRaise1, tFmt, tJs, tCallS, WE, wKeep_eq, reduceCtorEq, false_and, and_false, exists_false, or_false, false_or, tIsN, tNotN, decide_true, decide_false, tDictN, sDPut]
    obtain ⟨kd, hkd⟩ := kind4 (i := k % 4) (by omega) (by omega)
    refine ⟨sz_of (by decide), new_of fun lq G7 nq eq7 hq => ⟨by decide, _, sq_of hq, _, hkd, ?_⟩⟩
    have hh7 := eq7 _ _ h7
    have ee7 := e7.trans eq7
    refine dput_chg hh7 (show (6 : Nat) < 100000 by decide) rfl fun H8 k8 h8 => ?_
    replace h8 : H8 p = some (.dK [(Sum.inr "name", .str nm), (Sum.inr "least", .int le), (Sum.inr "greatest", .int gt), (Sum.inr "place", .int pl), (Sum.inr "pace", .int pa'), (Sum.inr "gain", .int ga'), (Sum.inr "kind", .str (kdS kd))]) := h8
    have e8 : Ex H H8 := ex_chg ee7 np k8
    clear k8 hq hh7
    rw [← hN1]
    clear hN1
    refine cut_eq fun N1 hN1 => ?_
    simp only [tSeq, tIfS, tOr, tAnd, tNot, tB, tTest, tCB, tCall, tCons, tVar, tNil, tC, tRet, tRetN, tNext, tAsg, gName, tDrop, tOp, tUn, tAug, ipI, tPar, tIf, tAndV, tOrV, tNotV, tChain, tNever, rI0, rI, rU, L2.start, cxK, List.map_cons, List.map_nil, List.length_cons, List.length_nil, Nat.reduceAdd, Nat.reduceSub, List.replicate, List.cons_append, List.nil_append, List.append_nil, List.set_cons_zero, List.set_cons_succ, List.getElem?_cons_zero, List.getElem?_cons_succ, Option.some.injEq, V.int.injEq, V.bl.injEq, exists_eq_left', exists_eq_left, exists_and_left, tFor_eq, iRng1, iRng2, iRng3, iList, iEnum, iZip, iTup, tLst_eq, tTup_eq, rCat_eq, rCatS, rSum, rAppend_eq, rListOf, rSlL_eq, tSl, tNoPart, tPart, tLc_eq, tBM, rIxL, rIxT, min3_eq, rEq_int, rNe_int, min_if, max_if, and_assoc, V.ref.injEq, V.str.injEq, List.cons.injEq, and_true, true_and, ↓reduceIte, Bool.false_eq_true, Bool.not_true, Bool.not_false, Int.reduceToNat, Int.reducePow, Int.reduceAdd, Int.reduceSub, Int.reduceNeg, tVirt, tOff, tFld, sFld_eq, tMake_eq, rTupOf, iStr, rNe_str, rEq_str, rEq_bl, tRaise1, tFmt, tJs, tCallS, WE, wKeep_eq, reduceCtorEq, false_and, and_false, exists_false, or_false, false_or, tIsN, tNotN, decide_true, decide_false, tDictN, sDPut]
    refine ⟨cdw (by decide) (by decide), by decide, ?_⟩
    refine dput_chg h8 (show (7 : Nat) < 100000 by decide) rfl fun H9 k9 h9 => ?_
    obtain ⟨la, la0, la1, h9⟩ : ∃ la : Int, 0 ≤ la ∧ la ≤ 9 ∧ H9 p = some (.dK [(Sum.inr "name", .str nm), (Sum.inr "least", .int le), (Sum.inr "greatest", .int gt), (Sum.inr "place", .int pl), (Sum.inr "pace", .int pa'), (Sum.inr "gain", .int ga'), (Sum.inr "kind", .str (kdS kd)), (Sum.inr "lane", .int la)]) := ⟨_, by omega, by omega, h9⟩
    have e9 : Ex H H9 := ex_chg e8 np k9
    clear k9
    rw [← hN1]
    clear hN1
    refine cut_eq fun N1 hN1 => ?_
    simp only [tSeq, tIfS, tOr, tAnd, tNot, tB, tTest, tCB, tCall, tCons, tVar, tNil, tC, tRet, tRetN, tNext, tAsg, gName, tDrop, tOp, tUn, tAug, ipI, tPar, tIf, tAndV, tOrV, tNotV, tChain, tNever, rI0, rI, rU, L2.start, cxK, List.map_cons, List.map_nil, List.length_cons, List.length_nil, Nat.reduceAdd, Nat.reduceSub, List.replicate, List.cons_append, List.nil_append, List.append_nil, List.set_cons_zero, List.set_cons_succ, List.getElem?_cons_zero, List.getElem?_cons_succ, Option.some.injEq, V.int.injEq, V.bl.injEq, exists_eq_left', exists_eq_left, exists_and_left, tFor_eq, iRng1, iRng2, iRng3, iList, iEnum, iZip, iTup, tLst_eq, tTup_eq, rCat_eq, rCatS, rSum, rAppend_eq, rListOf, rSlL_eq, tSl, tNoPart, tPart, tLc_eq, tBM, rIxL, rIxT, min3_eq, rEq_int, rNe_int, min_if, max_if, and_assoc, V.ref.injEq, V.str.injEq, List.cons.injEq, and_true, true_and, ↓reduceIte, Bool.false_eq_true, Bool.not_true, Bool.not_false, Int.reduceToNat, Int.reducePow, Int.reduceAdd, Int.reduceSub, Int.reduceNeg, tVirt, tOff, tFld, sFld_eq, tMake_eq, rTupOf, iStr, rNe_str, rEq_str, rEq_bl, tRaise1, tFmt, tJs, tCallS, WE, wKeep_eq, reduceCtorEq, false_and, and_false, exists_false, or_false, false_or, tIsN, tNotN, decide_true, decide_false, tDictN, sDPut]
    refine ⟨cdw (by decide) (by decide), by decide, cpw, cpw, sz_of (by decide), new_of fun lq G9 nq eq9 hq => ?_⟩
    obtain ⟨at_', at_'0, at_'1, hx⟩ : ∃ at_' : Int, -1000000000 ≤ at_' ∧ at_' ≤ 1000000000 ∧ atI [V.int (draw / 19 % 101 - 50), V.int (-1000000000), V.int (1000000000)] gr = some (.int at_') := by
      rcases g0 with rfl | rfl | rfl
      · exact ⟨_, by omega, by omega, rfl⟩
      · exact ⟨_, by omega, by omega, rfl⟩
      · exact ⟨_, by omega, by omega, rfl⟩
    refine ⟨_, sq_of hq, _, hx, ?_⟩
    have hh9 := eq9 _ _ h9
    have ee9 := e9.trans eq9
    refine dput_chg hh9 (show (8 : Nat) < 100000 by decide) rfl fun H10 k10 h10 => ?_
    replace h10 : H10 p = some (.dK [(Sum.inr "name", .str nm), (Sum.inr "least", .int le), (Sum.inr "greatest", .int gt), (Sum.inr "place", .int pl), (Sum.inr "pace", .int pa'), (Sum.inr "gain", .int ga'), (Sum.inr "kind", .str (kdS kd)), (Sum.inr "lane", .int la), (Sum.inr "at", .int at_')]) := h10
    have e10 : Ex H H10 := ex_chg ee9 np k10
    clear k10 hx hq hh9
    rw [← hN1]
    clear hN1
    refine cut_eq fun N1 hN1 => ?_
    simp only [tSeq, tIfS, tOr, tAnd, tNot, tB, tTest, tCB, tCall, tCons, tVar, tNil, tC, tRet, tRetN, tNext, tAsg, gName, tDrop, tOp, tUn, tAug, ipI, tPar, tIf, tAndV, tOrV, tNotV, tChain, tNever, rI0, rI, rU, L2.start, cxK, List.map_cons, List.map_nil, List.length_cons, List.length_nil, Nat.reduceAdd, Nat.reduceSub, List.replicate, List.cons_append, List.nil_append, List.append_nil, List.set_cons_zero, List.set_cons_succ, List.getElem?_cons_zero, List.getElem?_cons_succ, Option.some.injEq, V.int.injEq, V.bl.injEq, exists_eq_left', exists_eq_left, exists_and_left, tFor_eq, iRng1, iRng2, iRng3, iList, iEnum, iZip, iTup, tLst_eq, tTup_eq, rCat_eq, rCatS, rSum, rAppend_eq, rListOf, rSlL_eq, tSl, tNoPart, tPart, tLc_eq, tBM, rIxL, rIxT, min3_eq, rEq_int, rNe_int, min_if, max_if, and_assoc, V.ref.injEq, V.str.injEq, List.cons.injEq, and_true, true_and, ↓reduceIte, Bool.false_eq_true, Bool.not_true, Bool.not_false, Int.reduceToNat, Int.reducePow, Int.reduceAdd, Int.reduceSub, Int.reduceNeg, tVirt, tOff, tFld, sFld_eq, tMake_eq, rTupOf, iStr, rNe_str, rEq_str, rEq_bl, tRaise1, tFmt, tJs, tCallS, WE, wKeep_eq, reduceCtorEq, false_and, and_false, exists_false, or_false, false_or, tIsN, tNotN, decide_true, decide_false, tDictN, sDPut]
    refine ⟨cdw (by decide) (by decide), by decide, cpw6, cpw6, by decide, sz_of (by decide), new_of fun lq G10 nq eq10 hq => ?_⟩
    obtain ⟨wi', wi'0, wi'1, hx⟩ : ∃ wi' : Int, 1 ≤ wi' ∧ wi' ≤ 1000000 ∧ atI [V.int (1 + draw / 23 % 20), V.int (1000000), V.int (1 + draw % 1000000)] gr = some (.int wi') := by
      rcases g0 with rfl | rfl | rfl
      · exact ⟨_, by omega, by omega, rfl⟩
      · exact ⟨_, by omega, by omega, rfl⟩
      · exact ⟨_, by omega, by omega, rfl⟩
    refine ⟨_, sq_of hq, _, hx, ?_⟩
    have hh10 := eq10 _ _ h10
    have ee10 := e10.trans eq10
    refine dput_chg hh10 (show (9 : Nat) < 100000 by decide) rfl fun H11 k11 h11 => ?_
    replace h11 : H11 p = some (.dK [(Sum.inr "name", .str nm), (Sum.inr "least", .int le), (Sum.inr "greatest", .int gt), (Sum.inr "place", .int pl), (Sum.inr "pace", .int pa'), (Sum.inr "gain", .int ga'), (Sum.inr "kind", .str (kdS kd)), (Sum.inr "lane", .int la), (Sum.inr "at", .int at_'), (Sum.inr "wide", .int wi')]) := h11
    have e11 : Ex H H11 := ex_chg ee10 np k11
    clear k11 hx hq hh10
    rw [← hN1]
    clear hN1
    refine cut_eq fun N1 hN1 => ?_
    simp only [tSeq, tIfS, tOr, tAnd, tNot, tB, tTest, tCB, tCall, tCons, tVar, tNil, tC, tRet, tRetN, tNext, tAsg, gName, tDrop, tOp, tUn, tAug, ipI, tPar, tIf, tAndV, tOrV, tNotV, tChain, tNever, rI0, rI, rU, L2.start, cxK, List.map_cons, List.map_nil, List.length_cons, List.length_nil, Nat.reduceAdd, Nat.reduceSub, List.replicate, List.cons_append, List.nil_append, List.append_nil, List.set_cons_zero, List.set_cons_succ, List.getElem?_cons_zero, List.getElem?_cons_succ, Option.some.injEq, V.int.injEq, V.bl.injEq, exists_eq_left', exists_eq_left, exists_and_left, tFor_eq, iRng1, iRng2, iRng3, iList, iEnum, iZip, iTup, tLst_eq, tTup_eq, rCat_eq, rCatS, rSum, rAppend_eq, rListOf, rSlL_eq, tSl, tNoPart, tPart, tLc_eq, tBM, rIxL, rIxT, min3_eq, rEq_int, rNe_int, min_if, max_if, and_assoc, V.ref.injEq, V.str.injEq, List.cons.injEq, and_true, true_and, ↓reduceIte, Bool.false_eq_true, Bool.not_true, Bool.not_false, Int.reduceToNat, Int.reducePow, Int.reduceAdd, Int.reduceSub, Int.reduceNeg, tVirt, tOff, tFld, sFld_eq, tMake_eq, rTupOf, iStr, rNe_str, rEq_str, rEq_bl, tRaise1, tFmt, tJs, tCallS, WE, wKeep_eq, reduceCtorEq, false_and, and_false, exists_false, or_false, false_or, tIsN, tNotN, decide_true, decide_false, tDictN, sDPut]
    refine ⟨cdw (by decide) (by decide), by decide, cdw (by decide) (by decide), cpw6, by decide, cpw6, sz_of (by decide), new_of fun lq G11 nq eq11 hq => ?_⟩
    obtain ⟨ta', ta'0, ta'1, hx⟩ : ∃ ta' : Int, 1 ≤ ta' ∧ ta' ≤ 1000000 ∧ atI [V.int (1 + draw / 29 % 20), V.int (1 + draw / 5 % 1000000), V.int (1000000)] gr = some (.int ta') := by
      rcases g0 with rfl | rfl | rfl
      · exact ⟨_, by omega, by omega, rfl⟩
      · exact ⟨_, by omega, by omega, rfl⟩
      · exact ⟨_, by omega, by omega, rfl⟩
    refine ⟨_, sq_of hq, _, hx, ?_⟩
    have hh11 := eq11 _ _ h11
    have ee11 := e11.trans eq11
    refine dput_chg hh11 (show (10 : Nat) < 100000 by decide) rfl fun H12 k12 h12 => ?_
    replace h12 : H12 p = some (.dK [(Sum.inr "name", .str nm), (Sum.inr "least", .int le), (Sum.inr "greatest", .int gt), (Sum.inr "place", .int pl), (Sum.inr "pace", .int pa'), (Sum.inr "gain", .int ga'), (Sum.inr "kind", .str (kdS kd)), (Sum.inr "lane", .int la), (Sum.inr "at", .int at_'), (Sum.inr "wide", .int wi'), (Sum.inr "tall", .int ta')]) := h12
    have e12 : Ex H H12 := ex_chg ee11 np k12
    clear k12 hx hq hh11
    rw [← hN1]
    clear hN1
    refine cut_eq fun N1 hN1 => ?_
    simp only [tSeq, tIfS, tOr, tAnd, tNot, tB, tTest, tCB, tCall, tCons, tVar, tNil, tC, tRet, tRetN, tNext, tAsg, gName, tDrop, tOp, tUn, tAug, ipI, tPar, tIf, tAndV, tOrV, tNotV, tChain, tNever, rI0, rI, rU, L2.start, cxK, List.map_cons, List.map_nil, List.length_cons, List.length_nil, Nat.reduceAdd, Nat.reduceSub, List.replicate, List.cons_append, List.nil_append, List.append_nil, List.set_cons_zero, List.set_cons_succ, List.getElem?_cons_zero, List.getElem?_cons_succ, Option.some.injEq, V.int.injEq, V.bl.injEq, exists_eq_left', exists_eq_left, exists_and_left, tFor_eq, iRng1, iRng2, iRng3, iList, iEnum, iZip, iTup, tLst_eq, tTup_eq, rCat_eq, rCatS, rSum, rAppend_eq, rListOf, rSlL_eq, tSl, tNoPart, tPart, tLc_eq, tBM, rIxL, rIxT, min3_eq, rEq_int, rNe_int, min_if, max_if, and_assoc, V.ref.injEq, V.str.injEq, List.cons.injEq, and_true, true_and, ↓reduceIte, Bool.false_eq_true, Bool.not_true, Bool.not_false, Int.reduceToNat, Int.reducePow, Int.reduceAdd, Int.reduceSub, Int.reduceNeg, tVirt, tOff, tFld, sFld_eq, tMake_eq, rTupOf, iStr, rNe_str, rEq_str, rEq_bl, tRaise1, tFmt, tJs, tCallS, WE, wKeep_eq, reduceCtorEq, false_and, and_false, exists_false, or_false, false_or, tIsN, tNotN, decide_true, decide_false, tDictN, sDPut]
    refine ⟨Nat.zero_le _, new_of fun wa G0 nwa x0 hwa0 => ?_⟩
    refine dput_chg (x0 _ _ h12) (show (11 : Nat) < 100000 by decide) rfl fun G1 k99 h99 => ?_
    replace h99 : G1 p = some (.dK [(Sum.inr "name", .str nm), (Sum.inr "least", .int le), (Sum.inr "greatest", .int gt), (Sum.inr "place", .int pl), (Sum.inr "pace", .int pa'), (Sum.inr "gain", .int ga'), (Sum.inr "kind", .str (kdS kd)), (Sum.inr "lane", .int la), (Sum.inr "at", .int at_'), (Sum.inr "wide", .int wi'), (Sum.inr "tall", .int ta'), (Sum.inr "walls", .ref wa)]) := h99
    have nwp : wa ≠ p := fun z => by rw [z, h12] at nwa; cases nwa
    have hwa1 : G1 wa = some (.lst []) := by rw [k99 wa nwp]; exact hwa0
    have e99 : Ex H G1 := ex_chg (e12.trans x0) np k99
    have nwa0 : H wa = none := fresh_back e12 nwa
    clear k99 hwa0
    rw [← hN1]
    clear hN1
    refine cut_eq fun N1 hN1 => ?_
    simp only [tSeq, tIfS, tOr, tAnd, tNot, tB, tTest, tCB, tCall, tCons, tVar, tNil, tC, tRet, tRetN, tNext, tAsg, gName, tDrop, tOp, tUn, tAug, ipI, tPar, tIf, tAndV, tOrV, tNotV, tChain, tNever, rI0, rI, rU, L2.start, cxK, List.map_cons, List.map_nil, List.length_cons, List.length_nil, Nat.reduceAdd, Nat.reduceSub, List.replicate, List.cons_append, List.nil_append, List.append_nil, List.set_cons_zero, List.set_cons_succ, List.getElem?_cons_zero, List.getElem?_cons_succ, Option.some.injEq, V.int.injEq, V.bl.injEq, exists_eq_left', exists_eq_left, exists_and_left, tFor_eq, iRng1, iRng2, iRng3, iList, iEnum, iZip, iTup, tLst_eq, tTup_eq, rCat_eq, rCatS, rSum, rAppend_eq, rListOf, rSlL_eq, tSl, tNoPart, tPart, tLc_eq, tBM, rIxL, rIxT, min3_eq, rEq_int, rNe_int, min_if, max_if, and_assoc, V.ref.injEq, V.str.injEq, List.cons.injEq, and_true, true_and, ↓reduceIte, Bool.false_eq_true, Bool.not_true, Bool.not_false, Int.reduceToNat, Int.reducePow, Int.reduceAdd, Int.reduceSub, Int.reduceNeg, tVirt, tOff, tFld, sFld_eq, tMake_eq, rTupOf, iStr, rNe_str, rEq_str, rEq_bl, tRaise1, tFmt, tJs, tCallS, WE, wKeep_eq, reduceCtorEq, false_and, and_false, exists_false, or_false, false_or, tIsN, tNotN, decide_true, decide_false, tDictN]
    refine ⟨cdw (by decide) (by decide), by decide, by omega, by omega, ?_⟩
    obtain ⟨nw, hnw, nw1, nw4⟩ : ∃ nw : Nat, (1 + draw / 31 % 4).toNat = nw ∧ 1 ≤ nw ∧ nw ≤ 4 := ⟨_, rfl, by omega, by omega⟩
    rw [hnw]
    obtain ⟨Pv, hPv⟩ : ∃ Pv : Nat → L2.St → Hp → Prop, ∀ i σ H', Pv i σ H' ↔ (∃ o7 o8, σ = [some (.int draw), some (.int k), some (.int gr), some (.ref ll), some (.int le), some (.int gt), some (.ref p), o7, o8]) ∧ Ex H H' ∧ H' p = some (.dK [(Sum.inr "name", .str nm), (Sum.inr "least", .int le), (Sum.inr "greatest", .int gt), (Sum.inr "place", .int pl), (Sum.inr "pace", .int pa'), (Sum.inr "gain", .int ga'), (Sum.inr "kind", .str (kdS kd)), (Sum.inr "lane", .int la), (Sum.inr "at", .int at_'), (Sum.inr "wide", .int wi'), (Sum.inr "tall", .int ta'), (Sum.inr "walls", .ref wa)]) ∧
      ∃ xs ws, H' wa = some (.lst xs) ∧ TupW H' xs ws ∧ ws.length = i ∧ ∀ w ∈ ws, WlOk w := ⟨_, fun _ _ _ => Iff.rfl⟩
    refine loop_range Pv ((hPv _ _ _).mpr ⟨⟨_, _, rfl⟩, e99, h99, [], [], hwa1, ⟨rfl, fun i x w h => by cases h⟩, rfl, fun w h => by cases h⟩) ?_ ?_
    · intro i σ H4 hi hp
      obtain ⟨⟨o7, o8, rfl⟩, e4, h4, xs, ws, hx4, tw4, lw4, ok4⟩ := (hPv _ _ _).mp hp
      refine cut_eq fun N2 hN2 => ?_
      simp only [tSeq, tIfS, tOr, tAnd, tNot, tB, tTest, tCB, tCall, tCons, tVar, tNil, tC, tRet, tRetN, tNext, tAsg, gName, tDrop, tOp, tUn, tAug, ipI, tPar, tIf, tAndV, tOrV, tNotV, tChain, tNever, rI0, rI, rU, L2.start, cxK, List.map_cons, List.map_nil, List.length_cons, List.length_nil, Nat.reduceAdd, Nat.reduceSub, List.replicate, List.cons_append, List.nil_append, List.append_nil, List.set_cons_zero, List.set_cons_succ, List.getElem?_cons_zero, List.getElem?_cons_succ, Option.some.injEq, V.int.injEq, V.bl.injEq, exists_eq_left', exists_eq_left, exists_and_left, tFor_eq, iRng1, iRng2, iRng3, iList, iEnum, iZip, iTup, tLst_eq, tTup_eq, rCat_eq, rCatS, rSum, rAppend_eq, rListOf, rSlL_eq, tSl, tNoPart, tPart, tLc_eq, tBM, rIxL, rIxT, min3_eq, rEq_int, rNe_int, min_if, max_if, and_assoc, V.ref.injEq, V.str.injEq, List.cons.injEq, and_true, true_and, ↓reduceIte, Bool.false_eq_true, Bool.not_true, Bool.not_false, Int.reduceToNat, Int.reducePow, Int.reduceAdd, Int.reduceSub, Int.reduceNeg, tVirt, tOff, tFld, sFld_eq, tMake_eq, rTupOf, iStr, rNe_str, rEq_str, rEq_bl, tRaise1, tFmt, tJs, tCallS, WE, wKeep_eq, reduceCtorEq, false_and, and_false, exists_false, or_false, false_or, tIsN, tNotN, decide_true, decide_false, tDictN]
      refine ⟨_, _, rfl, by omega, by omega, fun sh sh0 sh1 => ?_⟩
      rw [← hN2]
      clear hN2
      simp only [tSeq, tIfS, tOr, tAnd, tNot, tB, tTest, tCB, tCall, tCons, tVar, tNil, tC, tRet, tRetN, tNext, tAsg, gName, tDrop, tOp, tUn, tAug, ipI, tPar, tIf, tAndV, tOrV, tNotV, tChain, tNever, rI0, rI, rU, L2.start, cxK, List.map_cons, List.map_nil, List.length_cons, List.length_nil, Nat.reduceAdd, Nat.reduceSub, List.replicate, List.cons_append, List.nil_append, List.append_nil, List.set_cons_zero, List.set_cons_succ, List.getElem?_cons_zero, List.getElem?_cons_succ, Option.some.injEq, V.int.injEq, V.bl.injEq, exists_eq_left', exists_eq_left, exists_and_left, tFor_eq, iRng1, iRng2, iRng3, iList, iEnum, iZip, iTup, tLst_eq, tTup_eq, rCat_eq, rCatS, rSum, rAppend_eq, rListOf, rSlL_eq, tSl, tNoPart, tPart, tLc_eq, tBM, rIxL, rIxT, min3_eq, rEq_int, rNe_int, min_if, max_if, and_assoc, V.ref.injEq, V.str.injEq, List.cons.injEq, and_true, true_and, ↓reduceIte, Bool.false_eq_true, Bool.not_true, Bool.not_false, Int.reduceToNat, Int.reducePow, Int.reduceAdd, Int.reduceSub, Int.reduceNeg, tVirt, tOff, tFld, sFld_eq, tMake_eq, rTupOf, iStr, rNe_str, rEq_str, rEq_bl, tRaise1, tFmt, tJs, tCallS, WE, wKeep_eq, reduceCtorEq, false_and, and_false, exists_false, or_false, false_or, tIsN, tNotN, decide_true, decide_false, tDictN, tDGet]
      have lx : xs.length ≤ 4 := by rw [tw4.1]; omega
      refine ⟨_, .inl ⟨_, Sum.inr "walls", .inl h4, rfl, rfl⟩, .inl ⟨rfl, _, sq_of hx4⟩, by decide, sz_of (by decide), new_of fun lq G5 nq eq5 hq => ⟨cdw (by decide) (by decide), by decide, _, sq_of hq, ?_⟩⟩
      obtain ⟨off, off0, off1, hoff⟩ : ∃ off : Int, 0 ≤ off ∧ off ≤ 719 ∧ atI [V.int (sh % 720), V.int 719] (sh / 720 % 2) = some (.int off) := by
        have c : sh / 720 % 2 = 0 ∨ sh / 720 % 2 = 1 := by omega
        rcases c with c | c <;> rw [c]
        · exact ⟨_, by omega, by omega, rfl⟩
        · exact ⟨_, by omega, by omega, rfl⟩
      refine ⟨_, hoff, cdw (by decide) (by decide), by decide, cdw (by decide) (by decide), by decide, sz_of (by decide), new_of fun tp H5 ntp e5 htp => ⟨wa, rfl, xs, (eq5.trans e5) _ _ hx4, sz_lt (by omega), chg_of fun H6 k6 h6 => ?_⟩⟩
      have e45 := eq5.trans e5
      have hx5 := e45 _ _ hx4
      have ntw : tp ≠ wa := fun z => by rw [z, hx5] at htp; cases htp
      refine (hPv _ _ _).mpr ⟨⟨_, _, rfl⟩, ex_chg (e4.trans e45) nwa0 k6, by rw [k6 p (Ne.symm nwp)]; exact e45 _ _ h4, xs ++ [.ref tp], ws ++ [(off, 1 + sh / 1440 % 30, 1 + sh / 43200 % 9)], h6, TupW.snoc ⟨tw4.1, fun j y v g1 g2 => ?_⟩ (by rw [k6 tp ntw]; exact htp), by rw [List.length_append, lw4]; rfl, fun w hw => ?_⟩
      · obtain ⟨c, rc, qc⟩ := tw4.2 j y v g1 g2
        have nc : c ≠ wa := fun z => by rw [z, hx4] at qc; cases qc
        exact ⟨c, rc, by rw [k6 c nc]; exact e45 _ _ qc⟩
      · rcases List.mem_append.mp hw with hw | hw
        · exact ok4 w hw
        · obtain rfl := List.mem_singleton.mp hw
          exact ⟨off0, off1, by dsimp only; omega, by dsimp only; omega, by dsimp only; omega, by dsimp only; omega⟩
    · intro σ H4 hp
      obtain ⟨⟨o7, o8, rfl⟩, e4, h4, xs, ws, hx4, tw4, lw4, ok4⟩ := (hPv _ _ _).mp hp
      show N1 _ H4
      rw [← hN1]
      simp only [tSeq, tIfS, tOr, tAnd, tNot, tB, tTest, tCB, tCall, tCons, tVar, tNil, tC, tRet, tRetN, tNext, tAsg, gName, tDrop, tOp, tUn, tAug, ipI, tPar, tIf, tAndV, tOrV, tNotV, tChain, tNever, rI0, rI, rU, L2.start, cxK, List.map_cons, List.map_nil, List.length_cons, List.length_nil, Nat.reduceAdd, Nat.reduceSub, List.replicate, List.cons_append, List.nil_append, List.append_nil, List.set_cons_zero, List.set_cons_succ, List.getElem?_cons_zero, List.getElem?_cons_succ, Option.some.injEq, V.int.injEq, V.bl.injEq, exists_eq_left', exists_eq_left, exists_and_left, tFor_eq, iRng1, iRng2, iRng3, iList, iEnum, iZip, iTup, tLst_eq, tTup_eq, rCat_eq, rCatS, rSum, rAppend_eq, rListOf, rSlL_eq, tSl, tNoPart, tPart, tLc_eq, tBM, rIxL, rIxT, min3_eq, rEq_int, rNe_int, min_if, max_if, and_assoc, V.ref.injEq, V.str.injEq, List.cons.injEq, and_true, true_and, ↓reduceIte, Bool.false_eq_true, Bool.not_true, Bool.not_false, Int.reduceToNat, Int.reducePow, Int.reduceAdd, Int.reduceSub, Int.reduceNeg, tVirt, tOff, tFld, sFld_eq, tMake_eq, rTupOf, iStr, rNe_str, rEq_str, rEq_bl, tRaise1, tFmt, tJs, tCallS, WE, wKeep_eq, reduceCtorEq, false_and, and_false, exists_false, or_false, false_or, tIsN, tNotN, decide_true, decide_false, tDictN]
      exact q p wa ⟨kd, nm, le, gt, pa', ga', pl, la, at_', wi', ta', ws⟩ H4 np e4 ⟨h4, xs, hx4, tw4⟩ ⟨nm1, by show nm.length ≤ 100; omega, le0, gt0, gt1, pa'0, pa'1, ga'0, ga'1, pl0, pl1, la0, la1, at_'0, at_'1, wi'0, wi'1, ta'0, ta'1, by show 1 ≤ ws.length; omega, by show ws.length ≤ 4; omega, ok4⟩ nm2
end
end FW

set_option Elab.async false
set_option linter.all false
set_option maxRecDepth 100000
set_option maxHeartbeats 4000000
namespace L2
open PySem PySem.Spec PyProof.Rows Evt
/-- str() of an int or of a text -/
def rStrA : List V → Hp → VK → Prop := fun xs H Q => (∃ i : Int, xs = [.int i] ∧ i.natAbs.log2 < 1920 ∧ Q (.str (Str.ofString (toString i))) H) ∨ ∃ a, xs = [.str a] ∧ Q (.str a) H
theorem call_strA {X : Cx} : CallR X (.type "str") rStrA := by
  intro pins s σ H xs us Q I r h
  rcases h with h | h
  · exact call_str_int pins s σ H xs us Q I r h
  · exact SkE.call_str_str pins s σ H xs us Q I r h
end L2
namespace FW
open PySem PySem.Spec PyProof.Rows L2 Evt
section
variable {P : Program} {w : World} {K : PySem.W.Frag} {mg : Str → Option Value} {base : Heap} {cl : Nat → Addr}
def wallT (w : Wl) : Str := nS w.1 ++ Str.ofString ":" ++ nS w.2.1 ++ Str.ofString ":" ++ nS w.2.2
def tailVs (d : Md) : List V := match d.kd with
  | .line => [.int d.lane, .int d.at_, .int d.wide, .int d.tall]
  | .wagon => [.int d.lane, .int d.wide, .int d.tall]
  | .trap => [.int d.lane, .int d.at_, .int d.wide]
  | .floor => [.int d.lane] ++ d.walls.map fun w => .str (wallT w)
def sp__law_tail : Sp := fun vs H Q _ => ∃ (a wa : Addr) (d : Md), vs = [.ref a] ∧ IsO H a wa d ∧ Tell d ∧ ∀ p H', H p = none → Ex H H' → H' p = some (.lst (tailVs d)) → Q (.ref p) H'
theorem ok__law_tail (B : Bt mg cl) {f : Addr} {fd : FuncData} (F : Fun K "_law_tail" "_law_tail" s__law_tail f fd) : FnOk P w K mg base CX0 1 f fd ["_law_own"] sp__law_tail := by
  refine F.ok sc__law_tail (fun vs H Q E h => ?_) (fun cdv A outer s H vs Q E hr h => ?_)
  · obtain ⟨a, wa, d, rfl, _⟩ := h
    rfl
  · obtain ⟨a, wa, d, rfl, ⟨ho, xs, hw, tw⟩, tl, q⟩ := h
    refine ⟨_, (pss_cons (ps_if (pt_cmpR op_eq (pe_dget (hu_of hr) (pv 0) pe_str (fun _ _ => rfl)) pe_str (nomark _))
        (pss_one (ps_ret (pe_lst (pa_cons (pe_dget (hu_of hr) (pv 0) pe_str (fun _ _ => rfl)) (pa_cons (pe_dget (hu_of hr) (pv 0) pe_str (fun _ _ => rfl)) (pa_cons (pe_dget (hu_of hr) (pv 0) pe_str (fun _ _ => rfl)) (pa_cons (pe_dget (hu_of hr) (pv 0) pe_str (fun _ _ => rfl)) pa_nil)))))))
        pss_nil)
      (pss_cons (ps_if (pt_cmpR op_eq (pe_dget (hu_of hr) (pv 0) pe_str (fun _ _ => rfl)) pe_str (nomark _))
        (pss_one (ps_ret (pe_lst (pa_cons (pe_dget (hu_of hr) (pv 0) pe_str (fun _ _ => rfl)) (pa_cons (pe_dget (hu_of hr) (pv 0) pe_str (fun _ _ => rfl)) (pa_cons (pe_dget (hu_of hr) (pv 0) pe_str (fun _ _ => rfl)) pa_nil))))))
        pss_nil)
      (pss_cons (ps_if (pt_cmpR op_eq (pe_dget (hu_of hr) (pv 0) pe_str (fun _ _ => rfl)) pe_str (nomark _))
        (pss_one (ps_ret (pe_lst (pa_cons (pe_dget (hu_of hr) (pv 0) pe_str (fun _ _ => rfl)) (pa_cons (pe_dget (hu_of hr) (pv 0) pe_str (fun _ _ => rfl)) (pa_cons (pe_dget (hu_of hr) (pv 0) pe_str (fun _ _ => rfl)) pa_nil))))))
        pss_nil)
      (pss_one (ps_ret (pe_op (k_catS (K := K) rfl) (pe_lst (pa_cons (pe_dget (hu_of hr) (pv 0) pe_str (fun _ _ => rfl)) pa_nil)) (pe_lc (own := [("_law_shut", 1)]) (g := gName 1) (tt := tYes) (by rfl) sc__law_tail.nd (k_pil (K := K) rfl (pe_dget (hu_of hr) (pv 0) pe_str (fun _ _ => rfl))) (blkOk_by (own := [("_law_shut", 1)]) (N := ["_law_own", "_law_shut"]) (sc := defScope s__law_tail) (by decide +kernel)) (fun _ _ _ _ _ => (pg_name (i := 1) sc__law_tail.nd rfl (.inl rfl))) (fun _ _ _ _ _ => pts_nil) (fun _ _ _ _ _ => (pe_op op_add_str (pe_op op_add_str (pe_op op_add_str (pe_op op_add_str (pe_callTy call_strA (by rfl) B.b_str (by decide +kernel) (pa_cons (pe_ix (k_ixt (K := K) rfl) (pv 1) pe_int (fun _ _ => rfl)) pa_nil)) pe_str) (pe_callTy call_strA (by rfl) B.b_str (by decide +kernel) (pa_cons (pe_ix (k_ixt (K := K) rfl) (pv 1) pe_int (fun _ _ => rfl)) pa_nil))) pe_str) (pe_callTy call_strA (by rfl) B.b_str (by decide +kernel) (pa_cons (pe_ix (k_ixt (K := K) rfl) (pv 1) pe_int (fun _ _ => rfl)) pa_nil))))))))))), ?_⟩
    unfold tailVs at q
    have rd : ∀ {H' : Hp} {z : Str} {v : V}, Ex H H' → valV (ownV d wa) (Sum.inr z) = some v → DGet H' a (.str z) (some v) := fun {H' z v} e y => .inl ⟨_, Sum.inr z, .inl (e _ _ ho), rfl, y.symm⟩
    refine cut_eq fun N1 hN1 => ?_
    simp only [tSeq, tIfS, tOr, tAnd, tNot, tB, tTest, tCB, tCall, tCons, tVar, tNil, tC, tRet, tRetN, tNext, tAsg, gName, tDrop, tOp, tUn, tAug, ipI, tPar, tIf, tAndV, tOrV, tNotV, tChain, tNever, rI0, rI, rU, L2.start, cxK, List.map_cons, List.map_nil, List.length_cons, List.length_nil, Nat.reduceAdd, Nat.reduceSub, List.replicate, List.cons_append, List.nil_append, List.append_nil, List.set_cons_zero, List.set_cons_succ, List.getElem?_cons_zero, List.getElem?_cons_succ, Option.some.injEq, V.int.injEq, V.bl.injEq, exists_eq_left', exists_eq_left, exists_and_left, tFor_eq, iRng1, iRng2, iRng3, iList, iEnum, iZip, iTup, tLst_eq, tTup_eq, rCat_eq, rCatS, rSum, rAppend_eq, rListOf, rSlL_eq, tSl, tNoPart, tPart, tLc_eq, tBM, rIxL, rIxT, min3_eq, rEq_int, rNe_int, min_if, max_if, and_assoc, V.ref.injEq, V.str.injEq, List.cons.injEq, and_true, true_and, ↓reduceIte, Bool.false_eq_true, Bool.not_true, Bool.not_false, Int.reduceToNat, Int.reducePow, Int.reduceAdd, Int.reduceSub, Int.reduceNeg, tVirt, tOff, tFld, sFld_eq, tMake_eq, rTupOf, iStr, rNe_str, rEq_str, rEq_bl, tRaise1, tFmt, tJs, tCallS, WE, wKeep_eq, reduceCtorEq, false_and, and_false, exists_false, or_false, false_or, tIsN, tNotN, decide_true, decide_false, tDictN, tDGet]
    refine ⟨_, rd (Ex.refl _) own_kind, ?_⟩
    simp only [tSeq, tIfS, tOr, tAnd, tNot, tB, tTest, tCB, tCall, tCons, tVar, tNil, tC, tRet, tRetN, tNext, tAsg, gName, tDrop, tOp, tUn, tAug, ipI, tPar, tIf, tAndV, tOrV, tNotV, tChain, tNever, rI0, rI, rU, L2.start, cxK, List.map_cons, List.map_nil, List.length_cons, List.length_nil, Nat.reduceAdd, Nat.reduceSub, List.replicate, List.cons_append, List.nil_append, List.append_nil, List.set_cons_zero, List.set_cons_succ, List.getElem?_cons_zero, List.getElem?_cons_succ, Option.some.injEq, V.int.injEq, V.bl.injEq, exists_eq_left', exists_eq_left, exists_and_left, tFor_eq, iRng1, iRng2, iRng3, iList, iEnum, iZip, iTup, tLst_eq, tTup_eq, rCat_eq, rCatS, rSum, rAppend_eq, rListOf, rSlL_eq, tSl, tNoPart, tPart, tLc_eq, tBM, rIxL, rIxT, min3_eq, rEq_int, rNe_int, min_if, max_if, and_assoc, V.ref.injEq, V.str.injEq, List.cons.injEq, and_true, true_and, ↓reduceIte, Bool.false_eq_true, Bool.not_true, Bool.not_false, Int.reduceToNat, Int.reducePow, Int.reduceAdd, Int.reduceSub, Int.reduceNeg, tVirt, tOff, tFld, sFld_eq, tMake_eq, rTupOf, iStr, rNe_str, rEq_str, rEq_bl, tRaise1, tFmt, tJs, tCallS, WE, wKeep_eq, reduceCtorEq, false_and, and_false, exists_false, or_false, false_or, tIsN, tNotN, decide_true, decide_false, tDictN]
    rw [show ("line" : Str) = kdS .line from rfl, kdS_inj]
    by_cases c0 : d.kd = .line
    · rw [c0] at q
      refine ifT (decide_eq_true c0) ⟨_, rd (Ex.refl _) rfl, _, rd (Ex.refl _) rfl, _, rd (Ex.refl _) rfl, _, rd (Ex.refl _) rfl, sz_of (by decide), new_of fun l H1 nl e1 hl => q l H1 nl e1 hl⟩
    refine ifF (decide_eq_false c0) ?_
    rw [← hN1]
    clear hN1
    refine cut_eq fun N1 hN1 => ?_
    simp only [tSeq, tIfS, tOr, tAnd, tNot, tB, tTest, tCB, tCall, tCons, tVar, tNil, tC, tRet, tRetN, tNext, tAsg, gName, tDrop, tOp, tUn, tAug, ipI, tPar, tIf, tAndV, tOrV, tNotV, tChain, tNever, rI0, rI, rU, L2.start, cxK, List.map_cons, List.map_nil, List.length_cons, List.length_nil, Nat.reduceAdd, Nat.reduceSub, List.replicate, List.cons_append, List.nil_append, List.append_nil, List.set_cons_zero, List.set_cons_succ, List.getElem?_cons_zero, List.getElem?_cons_succ, Option.some.injEq, V.int.injEq, V.bl.injEq, exists_eq_left', exists_eq_left, exists_and_left, tFor_eq, iRng1, iRng2, iRng3, iList, iEnum, iZip, iTup, tLst_eq, tTup_eq, rCat_eq, rCatS, rSum, rAppend_eq, rListOf, rSlL_eq, tSl, tNoPart, tPart, tLc_eq, tBM, rIxL, rIxT, min3_eq, rEq_int, rNe_int, min_if, max_if, and_assoc, V.ref.injEq, V.str.injEq, List.cons.injEq, and_true, true_and, ↓reduceIte, Bool.false_eq_true, Bool.not_true, Bool.not_false, Int.reduceToNat, Int.reducePow, Int.reduceAdd, Int.reduceSub, Int.reduceNeg, tVirt, tOff, tFld, sFld_eq, tMake_eq, rTupOf, iStr, rNe_str, rEq_str, rEq_bl, tRaise1, tFmt, tJs, tCallS, WE, wKeep_eq, reduceCtorEq, false_and, and_false, exists_false, or_false, false_or, tIsN, tNotN, decide_true, decide_false, tDictN, tDGet]
    refine ⟨_, rd (Ex.refl _) own_kind, ?_⟩
    simp only [tSeq, tIfS, tOr, tAnd, tNot, tB, tTest, tCB, tCall, tCons, tVar, tNil, tC, tRet, tRetN, tNext, tAsg, gName, tDrop, tOp, tUn, tAug, ipI, tPar, tIf, tAndV, tOrV, tNotV, tChain, tNever, rI0, rI, rU, L2.start, cxK, List.map_cons, List.map_nil, List.length_cons, List.length_nil, Nat.reduceAdd, Nat.reduceSub, List.replicate, List.cons_append, List.nil_append, List.append_nil, List.set_cons_zero, List.set_cons_succ, List.getElem?_cons_zero, List.getElem?_cons_succ, Option.some.injEq, V.int.injEq, V.bl.injEq, exists_eq_left', exists_eq_left, exists_and_left, tFor_eq, iRng1, iRng2, iRng3, iList, iEnum, iZip, iTup, tLst_eq, tTup_eq, rCat_eq, rCatS, rSum, rAppend_eq, rListOf, rSlL_eq, tSl, tNoPart, tPart, tLc_eq, tBM, rIxL, rIxT, min3_eq, rEq_int, rNe_int, min_if, max_if, and_assoc, V.ref.injEq, V.str.injEq, List.cons.injEq, and_true, true_and, ↓reduceIte, Bool.false_eq_true, Bool.not_true, Bool.not_false, Int.reduceToNat, Int.reducePow, Int.reduceAdd, Int.reduceSub, Int.reduceNeg, tVirt, tOff, tFld, sFld_eq, tMake_eq, rTupOf, iStr, rNe_str, rEq_str, rEq_bl, tRaise1, tFmt, tJs, tCallS, WE, wKeep_eq, reduceCtorEq, false_and, and_false, exists_false, or_false, false_or, tIsN, tNotN, decide_true, decide_false, tDictN]
    rw [show ("wagon" : Str) = kdS .wagon from rfl, kdS_inj]
    by_cases c1 : d.kd = .wagon
    · rw [c1] at q
      refine ifT (decide_eq_true c1) ⟨_, rd (Ex.refl _) rfl, _, rd (Ex.refl _) rfl, _, rd (Ex.refl _) rfl, sz_of (by decide), new_of fun l H1 nl e1 hl => q l H1 nl e1 hl⟩
    refine ifF (decide_eq_false c1) ?_
    rw [← hN1]
    clear hN1
    refine cut_eq fun N1 hN1 => ?_
    simp only [tSeq, tIfS, tOr, tAnd, tNot, tB, tTest, tCB, tCall, tCons, tVar, tNil, tC, tRet, tRetN, tNext, tAsg, gName, tDrop, tOp, tUn, tAug, ipI, tPar, tIf, tAndV, tOrV, tNotV, tChain, tNever, rI0, rI, rU, L2.start, cxK, List.map_cons, List.map_nil, List.length_cons, List.length_nil, Nat.reduceAdd, Nat.reduceSub, List.replicate, List.cons_append, List.nil_append, List.append_nil, List.set_cons_zero, List.set_cons_succ, List.getElem?_cons_zero, List.getElem?_cons_succ, Option.some.injEq, V.int.injEq, V.bl.injEq, exists_eq_left', exists_eq_left, exists_and_left, tFor_eq, iRng1, iRng2, iRng3, iList, iEnum, iZip, iTup, tLst_eq, tTup_eq, rCat_eq, rCatS, rSum, rAppend_eq, rListOf, rSlL_eq, tSl, tNoPart, tPart, tLc_eq, tBM, rIxL, rIxT, min3_eq, rEq_int, rNe_int, min_if, max_if, and_assoc, V.ref.injEq, V.str.injEq, List.cons.injEq, and_true, true_and, ↓reduceIte, Bool.false_eq_true, Bool.not_true, Bool.not_false, Int.reduceToNat, Int.reducePow, Int.reduceAdd, Int.reduceSub, Int.reduceNeg, tVirt, tOff, tFld, sFld_eq, tMake_eq, rTupOf, iStr, rNe_str, rEq_str, rEq_bl, tRaise1, tFmt, tJs, tCallS, WE, wKeep_eq, reduceCtorEq, false_and, and_false, exists_false, or_false, false_or, tIsN, tNotN, decide_true, decide_false, tDictN, tDGet]
    refine ⟨_, rd (Ex.refl _) own_kind, ?_⟩
    simp only [tSeq, tIfS, tOr, tAnd, tNot, tB, tTest, tCB, tCall, tCons, tVar, tNil, tC, tRet, tRetN, tNext, tAsg, gName, tDrop, tOp, tUn, tAug, ipI, tPar, tIf, tAndV, tOrV, tNotV, tChain, tNever, rI0, rI, rU, L2.start, cxK, List.map_cons, List.map_nil, List.length_cons, List.length_nil, Nat.reduceAdd, Nat.reduceSub, List.replicate, List.cons_append, List.nil_append, List.append_nil, List.set_cons_zero, List.set_cons_succ, List.getElem?_cons_zero, List.getElem?_cons_succ, Option.some.injEq, V.int.injEq, V.bl.injEq, exists_eq_left', exists_eq_left, exists_and_left, tFor_eq, iRng1, iRng2, iRng3, iList, iEnum, iZip, iTup, tLst_eq, tTup_eq, rCat_eq, rCatS, rSum, rAppend_eq, rListOf, rSlL_eq, tSl, tNoPart, tPart, tLc_eq, tBM, rIxL, rIxT, min3_eq, rEq_int, rNe_int, min_if, max_if, and_assoc, V.ref.injEq, V.str.injEq, List.cons.injEq, and_true, true_and, ↓reduceIte, Bool.false_eq_true, Bool.not_true, Bool.not_false, Int.reduceToNat, Int.reducePow, Int.reduceAdd, Int.reduceSub, Int.reduceNeg, tVirt, tOff, tFld, sFld_eq, tMake_eq, rTupOf, iStr, rNe_str, rEq_str, rEq_bl, tRaise1, tFmt, tJs, tCallS, WE, wKeep_eq, reduceCtorEq, false_and, and_false, exists_false, or_false, false_or, tIsN, tNotN, decide_true, decide_false, tDictN]
    rw [show ("trap" : Str) = kdS .trap from rfl, kdS_inj]
    by_cases c2 : d.kd = .trap
    · rw [c2] at q
      refine ifT (decide_eq_true c2) ⟨_, rd (Ex.refl _) rfl, _, rd (Ex.refl _) rfl, _, rd (Ex.refl _) rfl, sz_of (by decide), new_of fun l H1 nl e1 hl => q l H1 nl e1 hl⟩
    refine ifF (decide_eq_false c2) ?_
    rw [← hN1]
    clear hN1
    have c4 : d.kd = .floor := by
      cases e : d.kd with
      | line => exact absurd e c0
      | wagon => exact absurd e c1
      | trap => exact absurd e c2
      | floor => rfl
    rw [c4] at q
    dsimp only at q
    have hlen := tw.1
    have wn := tl.wn
    simp only [tSeq, tIfS, tOr, tAnd, tNot, tB, tTest, tCB, tCall, tCons, tVar, tNil, tC, tRet, tRetN, tNext, tAsg, gName, tDrop, tOp, tUn, tAug, ipI, tPar, tIf, tAndV, tOrV, tNotV, tChain, tNever, rI0, rI, rU, L2.start, cxK, List.map_cons, List.map_nil, List.length_cons, List.length_nil, Nat.reduceAdd, Nat.reduceSub, List.replicate, List.cons_append, List.nil_append, List.append_nil, List.set_cons_zero, List.set_cons_succ, List.getElem?_cons_zero, List.getElem?_cons_succ, Option.some.injEq, V.int.injEq, V.bl.injEq, exists_eq_left', exists_eq_left, exists_and_left, tFor_eq, iRng1, iRng2, iRng3, iList, iEnum, iZip, iTup, tLst_eq, tTup_eq, rCat_eq, rCatS, rSum, rAppend_eq, rListOf, rSlL_eq, tSl, tNoPart, tPart, tLc_eq, tBM, rIxL, rIxT, min3_eq, rEq_int, rNe_int, min_if, max_if, and_assoc, V.ref.injEq, V.str.injEq, List.cons.injEq, and_true, true_and, ↓reduceIte, Bool.false_eq_true, Bool.not_true, Bool.not_false, Int.reduceToNat, Int.reducePow, Int.reduceAdd, Int.reduceSub, Int.reduceNeg, tVirt, tOff, tFld, sFld_eq, tMake_eq, rTupOf, iStr, rNe_str, rEq_str, rEq_bl, tRaise1, tFmt, tJs, tCallS, WE, wKeep_eq, reduceCtorEq, false_and, and_false, exists_false, or_false, false_or, tIsN, tNotN, decide_true, decide_false, tDictN, tDGet]
    refine ⟨_, rd (Ex.refl _) own_lane, sz_of (by decide), new_of fun l1 H1 nl1 e1 hl1 => ⟨_, rd e1 own_walls, ?_⟩⟩
    simp only [tSeq, tIfS, tOr, tAnd, tNot, tB, tTest, tCB, tCall, tCons, tVar, tNil, tC, tRet, tRetN, tNext, tAsg, gName, tDrop, tOp, tUn, tAug, ipI, tPar, tIf, tAndV, tOrV, tNotV, tChain, tNever, rI0, rI, rU, L2.start, cxK, List.map_cons, List.map_nil, List.length_cons, List.length_nil, Nat.reduceAdd, Nat.reduceSub, List.replicate, List.cons_append, List.nil_append, List.append_nil, List.set_cons_zero, List.set_cons_succ, List.getElem?_cons_zero, List.getElem?_cons_succ, Option.some.injEq, V.int.injEq, V.bl.injEq, exists_eq_left', exists_eq_left, exists_and_left, tFor_eq, iRng1, iRng2, iRng3, iList, iEnum, iZip, iTup, tLst_eq, tTup_eq, rCat_eq, rCatS, rSum, rAppend_eq, rListOf, rSlL_eq, tSl, tNoPart, tPart, tLc_eq, tBM, rIxL, rIxT, min3_eq, rEq_int, rNe_int, min_if, max_if, and_assoc, V.ref.injEq, V.str.injEq, List.cons.injEq, and_true, true_and, ↓reduceIte, Bool.false_eq_true, Bool.not_true, Bool.not_false, Int.reduceToNat, Int.reducePow, Int.reduceAdd, Int.reduceSub, Int.reduceNeg, tVirt, tOff, tFld, sFld_eq, tMake_eq, rTupOf, iStr, rNe_str, rEq_str, rEq_bl, tRaise1, tFmt, tJs, tCallS, WE, wKeep_eq, reduceCtorEq, false_and, and_false, exists_false, or_false, false_or, tIsN, tNotN, decide_true, decide_false, tDictN]
    refine ⟨⟨_, sq_of (e1 _ _ hw)⟩, fun Dl hD => lc_gives (walk_list (xs := xs)) (fun k => (d.walls[k]?).map fun w => V.str (wallT w)) hD (fun H' e => sq_of (e _ _ (e1 _ _ hw))) ?_ ?_⟩
    · rintro k x H0 H' hi e0 h0 ⟨rfl, hx⟩
      obtain ⟨wl, hwl⟩ : ∃ wl, d.walls[k]? = some wl := ⟨d.walls[k]'(by rw [← hlen]; exact hi), List.getElem?_eq_getElem (by rw [← hlen]; exact hi)⟩
      obtain ⟨b, rfl, hb⟩ := tw.2 k x wl hx hwl
      obtain ⟨wo1, wo2, wo3⟩ := tl.wo wl (List.mem_of_getElem? hwl)
      obtain ⟨x1, x2⟩ := int_len wo1
      obtain ⟨y1, y2⟩ := int_len wo2
      obtain ⟨z1, z2⟩ := int_len wo3
      have sb := st_of (K := K) (e0 _ _ (e1 _ _ hb))
      simp only [tSeq, tIfS, tOr, tAnd, tNot, tB, tTest, tCB, tCall, tCons, tVar, tNil, tC, tRet, tRetN, tNext, tAsg, gName, tDrop, tOp, tUn, tAug, ipI, tPar, tIf, tAndV, tOrV, tNotV, tChain, tNever, rI0, rI, rU, L2.start, cxK, List.map_cons, List.map_nil, List.length_cons, List.length_nil, Nat.reduceAdd, Nat.reduceSub, List.replicate, List.cons_append, List.nil_append, List.append_nil, List.set_cons_zero, List.set_cons_succ, List.getElem?_cons_zero, List.getElem?_cons_succ, Option.some.injEq, V.int.injEq, V.bl.injEq, exists_eq_left', exists_eq_left, exists_and_left, tFor_eq, iRng1, iRng2, iRng3, iList, iEnum, iZip, iTup, tLst_eq, tTup_eq, rCat_eq, rCatS, rSum, rAppend_eq, rListOf, rSlL_eq, tSl, tNoPart, tPart, tLc_eq, tBM, rIxL, rIxT, min3_eq, rEq_int, rNe_int, min_if, max_if, and_assoc, V.ref.injEq, V.str.injEq, List.cons.injEq, and_true, true_and, ↓reduceIte, Bool.false_eq_true, Bool.not_true, Bool.not_false, Int.reduceToNat, Int.reducePow, Int.reduceAdd, Int.reduceSub, Int.reduceNeg, tVirt, tOff, tFld, sFld_eq, tMake_eq, rTupOf, iStr, rNe_str, rEq_str, rEq_bl, tRaise1, tFmt, tJs, tCallS, WE, wKeep_eq, reduceCtorEq, false_and, and_false, exists_false, or_false, false_or, tIsN, tNotN, decide_true, decide_false, tDictN, wipe, tYes, rStrA]
      refine ⟨_, sb, _, rfl, .inl ⟨_, rfl, x1, by rw [colon_len]; exact sz_of (by omega), _, sb, _, rfl, .inl ⟨_, rfl, y1, by rw [str_len, colon_len]; exact sz_of (by omega), by rw [str_len, str_len, colon_len]; exact sz_of (by omega), _, sb, _, rfl, .inl ⟨_, rfl, z1, by rw [str_len, str_len, str_len, colon_len]; exact sz_of (by omega), put_of hD e0 h0 (sz_lt (by omega)) (by rw [hwl]; rfl)⟩⟩⟩⟩
    · intro H9 e9 h9
      rw [gives_take, List.take_of_length_le (by omega)] at h9
      simp only [tSeq, tIfS, tOr, tAnd, tNot, tB, tTest, tCB, tCall, tCons, tVar, tNil, tC, tRet, tRetN, tNext, tAsg, gName, tDrop, tOp, tUn, tAug, ipI, tPar, tIf, tAndV, tOrV, tNotV, tChain, tNever, rI0, rI, rU, L2.start, cxK, List.map_cons, List.map_nil, List.length_cons, List.length_nil, Nat.reduceAdd, Nat.reduceSub, List.replicate, List.cons_append, List.nil_append, List.append_nil, List.set_cons_zero, List.set_cons_succ, List.getElem?_cons_zero, List.getElem?_cons_succ, Option.some.injEq, V.int.injEq, V.bl.injEq, exists_eq_left', exists_eq_left, exists_and_left, tFor_eq, iRng1, iRng2, iRng3, iList, iEnum, iZip, iTup, tLst_eq, tTup_eq, rCat_eq, rCatS, rSum, rAppend_eq, rListOf, rSlL_eq, tSl, tNoPart, tPart, tLc_eq, tBM, rIxL, rIxT, min3_eq, rEq_int, rNe_int, min_if, max_if, and_assoc, V.ref.injEq, V.str.injEq, List.cons.injEq, and_true, true_and, ↓reduceIte, Bool.false_eq_true, Bool.not_true, Bool.not_false, Int.reduceToNat, Int.reducePow, Int.reduceAdd, Int.reduceSub, Int.reduceNeg, tVirt, tOff, tFld, sFld_eq, tMake_eq, rTupOf, iStr, rNe_str, rEq_str, rEq_bl, tRaise1, tFmt, tJs, tCallS, WE, wKeep_eq, reduceCtorEq, false_and, and_false, exists_false, or_false, false_or, tIsN, tNotN, decide_true, decide_false, tDictN]
      refine ⟨_, sq_of (e9 _ _ hl1), _, sq_of h9, sz_of (by rw [List.length_map]; simp; omega), new_of fun p H2 np e2 hp => q p H2 (fresh_back (e1.trans e9) np) ((e1.trans e9).trans e2) hp⟩
/-! ### told right -/
/-- what isinstance tells of the four kinds -/
structure IK (K : PySem.W.Frag) (cl : Nat → Addr) : Prop where
  ty : ∀ (k : Kd) {H : Hp} {a dx : Addr} {fs : List (Str × V)}, H a = some (.ins (clsA cl k) dx fs) → TyX K H (.ref a) (.ref (clsA cl k))
  one : ∀ k k' : Kd, PySem.W.kitOne K (.ref (clsA cl k)) (.ref (clsA cl k')) = some (decide (k = k'))
  mach : ∀ k : Kd, PySem.W.kitOne K (.ref (clsA cl k)) (.ref (cl 13)) = some true
def rowT (d : Md) : List Str := kdS d.kd :: d.name :: nS d.least :: nS d.greatest :: nS d.pace :: nS d.gain :: nS d.place :: match d.kd with
  | .line => [nS d.lane, nS d.at_, nS d.wide, nS d.tall]
  | .wagon => [nS d.lane, nS d.wide, nS d.tall]
  | .trap => [nS d.lane, nS d.at_, nS d.wide]
  | .floor => nS d.lane :: d.walls.map wallT
theorem walls_same (ws : List Wl) : ws.map wallT = ws.map wallS := by
  refine List.map_congr_left fun w _ => TL.ext_tl ?_
  unfold wallT wallS
  simp only [TL.tl_append, List.append_assoc]
  rfl
theorem row_words {d : Md} (h : d.kd = .floor → d.walls ≠ []) : Txt.join (Str.ofString " ") (rowT d) = wordsM d := by
  rw [TL.join_eq]
  refine TL.ext_tl ?_
  unfold rowT wordsM mWords
  have e0 : TL.tl Str.empty = [] := rfl
  cases e : d.kd with
  | floor =>
    dsimp only
    rw [walls_same]
    have hw := h e
    cases z : d.walls with
    | nil => exact absurd z hw
    | cons x r =>
      rw [TL.join_eq]
      simp only [TL.tl_append, TL.tl_join, List.map_cons, TL.joinL, List.append_assoc, e0, List.nil_append]
  | _ =>
    dsimp only
    simp only [TL.tl_append, TL.tl_join, List.map_cons, List.map_nil, TL.joinL, List.append_assoc, e0, List.nil_append]
def strV : V → Str
  | .int i => nS i
  | .str s => s
  | _ => Str.empty
def okS (v : V) : Prop := (∃ i : Int, v = .int i ∧ i.natAbs < 2 ^ 1000) ∨ ∃ s : Str, v = .str s ∧ s.length ≤ 6100
theorem strV_len {v : V} (h : okS v) : (strV v).length ≤ 6100 := by
  rcases h with ⟨i, rfl, b⟩ | ⟨s, rfl, b⟩
  · have := (int_len b).2
    show (nS i).length ≤ 6100
    unfold nS
    omega
  · exact b
theorem tailVs_ok {d : Md} (t : Tell d) : ∀ v ∈ tailVs d, okS v := by
  intro v hv
  unfold tailVs at hv
  split at hv
  · simp only [List.mem_cons, List.not_mem_nil, or_false] at hv
    rcases hv with rfl | rfl | rfl | rfl
    · exact .inl ⟨_, rfl, t.la⟩
    · exact .inl ⟨_, rfl, t.at_⟩
    · exact .inl ⟨_, rfl, t.wi⟩
    · exact .inl ⟨_, rfl, t.ta⟩
  · simp only [List.mem_cons, List.not_mem_nil, or_false] at hv
    rcases hv with rfl | rfl | rfl
    · exact .inl ⟨_, rfl, t.la⟩
    · exact .inl ⟨_, rfl, t.wi⟩
    · exact .inl ⟨_, rfl, t.ta⟩
  · simp only [List.mem_cons, List.not_mem_nil, or_false] at hv
    rcases hv with rfl | rfl | rfl
    · exact .inl ⟨_, rfl, t.la⟩
    · exact .inl ⟨_, rfl, t.at_⟩
    · exact .inl ⟨_, rfl, t.wi⟩
  · rcases List.mem_append.mp hv with hv | hv
    · obtain rfl := List.mem_singleton.mp hv
      exact .inl ⟨_, rfl, t.la⟩
    · obtain ⟨wl, hw, rfl⟩ := List.mem_map.mp hv
      obtain ⟨wo1, wo2, wo3⟩ := t.wo wl hw
      have := (int_len wo1).2
      have := (int_len wo2).2
      have := (int_len wo3).2
      refine .inr ⟨_, rfl, ?_⟩
      unfold wallT nS
      simp only [str_len, colon_len]
      omega
theorem tailVs_len {d : Md} (t : Tell d) : (tailVs d).length ≤ 5 := by
  have := t.wn
  unfold tailVs
  split
  · show (4 : Nat) ≤ 5
    decide
  · show (3 : Nat) ≤ 5
    decide
  · show (3 : Nat) ≤ 5
    decide
  · rw [List.length_append, List.length_map]
    show 1 + d.walls.length ≤ 5
    omega
theorem sum_len : ∀ {vs : List V}, (∀ v ∈ vs, okS v) → ((vs.map strV).map (·.length)).sum ≤ 6100 * vs.length
  | [], _ => Nat.le_refl _
  | v :: vs, h => by
    have a := strV_len (h v List.mem_cons_self)
    have b := sum_len fun u hu => h u (List.mem_cons_of_mem _ hu)
    simp only [List.map_cons, List.sum_cons, List.length_cons]
    omega
theorem rowT_eq (d : Md) : kdS d.kd :: d.name :: (([.int d.least, .int d.greatest, .int d.pace, .int d.gain, .int d.place] : List V).map strV ++ (tailVs d).map strV) = rowT d := by
  unfold rowT tailVs
  cases d.kd with
  | floor =>
    dsimp only
    simp only [List.map_cons, List.map_nil, List.map_append, List.map_map, List.cons_append, List.nil_append]
    rfl
  | _ => rfl
def sp__law_told_right (cl : Nat → Addr) : Sp := fun vs H Q _ => ∃ (x a wa : Addr) (d : Md), vs = [.ref x, .ref a] ∧ IsM cl H x d ∧ IsO H a wa d ∧ GoodD d ∧ PyData.strOk d.name = true ∧ RetV (.bl true) H Q
theorem GoodD.tell {d : Md} (g : GoodD d) : Tell d := by
  obtain ⟨a1, a2, a3, a4, a5, a6, a7, a8, a9, b1, b2, b3, b4, b5, b6, b7, b8, b9, c1, c2, c3, c4⟩ := g
  refine ⟨a2, by omega, by omega, by omega, by omega, by omega, by omega, by omega, by omega, by omega, c3, fun w hw => ?_⟩
  obtain ⟨o1, o2, o3, o4, o5, o6⟩ := c4 w hw
  omega
theorem ok__law_told_right (B : Bt mg cl) (MM : ∀ C ∈ cs4 cl, MC K C) (II : IK K cl) (F__law_tail : Fn P w K mg base "_law_tail" ["_law_own"] CX0 1 sp__law_tail) (V_kind : Virt P w K mg base CX0 1 "kind" ["self"] (ck4 cl) (sp_kind cl)) (V_lane : Virt P w K mg base CX0 1 "lane" ["self"] (ck4 cl) (sp_lane cl)) (V_wide : Virt P w K mg base CX0 1 "wide" ["self"] (ck4 cl) (sp_wide cl)) (V_offset : Virt P w K mg base CX0 1 "offset" ["self"] (ck4 cl) (sp_offset cl)) (V_words : Virt P w K mg base CX0 3 "words" ["self"] (ck4 cl) (sp_words cl)) {f : Addr} {fd : FuncData} (F : Fun K "_law_told_right" "_law_told_right" s__law_told_right f fd) : FnOk P w K mg base CX0 8 f fd ["_law_machine_here", "_law_own"] (sp__law_told_right cl) := by
  refine F.ok sc__law_told_right (fun vs H Q E h => ?_) (fun cdv A outer s H vs Q E hr h => ?_)
  · obtain ⟨x, a, wa, d, rfl, _⟩ := h
    rfl
  · obtain ⟨x, a, wa, d, rfl, im, io, g, sok, q⟩ := h
    refine ⟨_, (pss_cons (ps_set (i := 2) sc__law_told_right.nd rfl (.inl rfl) (pe_lst (pa_cons (pe_callB (k_isY (K := K) rfl) (by rfl) B.b_isinstance (by decide +kernel) (pa_cons (pv 0) (pa_cons (pe_glob (v := .ref _) (by rfl) B.c_Line rfl) pa_nil))) (pa_cons (pe_callB (k_isY (K := K) rfl) (by rfl) B.b_isinstance (by decide +kernel) (pa_cons (pv 0) (pa_cons (pe_glob (v := .ref _) (by rfl) B.c_Wagon rfl) pa_nil))) (pa_cons (pe_callB (k_isY (K := K) rfl) (by rfl) B.b_isinstance (by decide +kernel) (pa_cons (pv 0) (pa_cons (pe_glob (v := .ref _) (by rfl) B.c_Trap rfl) pa_nil))) pa_nil)))))
      (pss_cons (ps_expr (pe_bm PySem.F.plainAttrs_list PySem.F.slot_list_append PySem.F.type_list_append mt_append (pv 2) (pa_cons (pe_callB (k_isY (K := K) rfl) (by rfl) B.b_isinstance (by decide +kernel) (pa_cons (pv 0) (pa_cons (pe_glob (v := .ref _) (by rfl) B.c_Floor rfl) pa_nil))) pa_nil)))
      (pss_cons (ps_setLc (i := 3) (own := [("_law_word", 8)]) (g := gName 8) (tt := tYes) (by rfl) sc__law_told_right.nd rfl rfl (sw_true rfl rfl rfl (by decide +kernel)) (k_pit (K := K) rfl (pe_tup (pa_cons pe_str (pa_cons pe_str (pa_cons pe_str (pa_cons pe_str pa_nil)))))) (blkOk_by (own := [("_law_word", 8)]) (N := ["_law_machine_here", "_law_own", "_law_kinds", "_law_due", "_law_fields", "_law_wide", "_law_offset", "_law_row", "_law_word", "_law_one", "_law_shut"]) (sc := defScope s__law_told_right) (by decide +kernel)) (fun _ _ _ _ _ => (pg_name (i := 8) sc__law_told_right.nd rfl (.inl rfl))) (fun _ _ _ _ _ => pts_nil) (fun _ _ _ _ _ => (pe_cmpR op_eq (pe_dget (hu_of hr) (pv 1) pe_str (fun _ _ => rfl)) (pv 8) (nomark _))))
      (pss_cons (ps_if (PW.pt (pw_or (pt_not (pt_val (pe_callB (k_isY (K := K) rfl) (by rfl) B.b_isinstance (by decide +kernel) (pa_cons (pv 0) (pa_cons (pe_glob (v := .ref _) (by rfl) B.c_Machine rfl) pa_nil))))) (pw_or1 (pt_cmpR (k_neD (K := K) rfl hr.units) (pv 2) (pv 3) (nomark _)))))
        (pss_one (ps_ret pe_bl))
        pss_nil)
      (pss_cons (ps_set (i := 4) sc__law_told_right.nd rfl (.inl rfl) (pe_lst (pa_cons (k_fld (K := K) rfl (pv 0)) (pa_cons (k_fld (K := K) rfl (pv 0)) (pa_cons (k_fld (K := K) rfl (pv 0)) (pa_cons (k_fld (K := K) rfl (pv 0)) (pa_cons (k_fld (K := K) rfl (pv 0)) (pa_cons (k_fld (K := K) rfl (pv 0)) pa_nil))))))))
      (pss_cons (ps_if (pt_cmpR (k_neD (K := K) rfl hr.units) (pv 4) (pe_lc (own := [("_law_word", 8)]) (g := gName 8) (tt := tYes) (by rfl) sc__law_told_right.nd (k_pit (K := K) rfl (pe_tup (pa_cons pe_str (pa_cons pe_str (pa_cons pe_str (pa_cons pe_str (pa_cons pe_str (pa_cons pe_str pa_nil)))))))) (blkOk_by (own := [("_law_word", 8)]) (N := ["_law_machine_here", "_law_own", "_law_kinds", "_law_due", "_law_fields", "_law_wide", "_law_offset", "_law_row", "_law_word", "_law_one", "_law_shut"]) (sc := defScope s__law_told_right) (by decide +kernel)) (fun _ _ _ _ _ => (pg_name (i := 8) sc__law_told_right.nd rfl (.inl rfl))) (fun _ _ _ _ _ => pts_nil) (fun _ _ _ _ _ => (pe_dget (hu_of hr) (pv 1) (pv 8) (fun _ _ => rfl)))) (nomark _))
        (pss_one (ps_ret pe_bl))
        pss_nil)
      (pss_cons (ps_set (i := 5) sc__law_told_right.nd rfl (.inl rfl) (pe_ifExp (pt_cmpR op_eq (pe_dget (hu_of hr) (pv 1) pe_str (fun _ _ => rfl)) pe_str (nomark _)) (pe_callB (k_max (K := K) rfl (by rfl)) (by rfl) B.b_max (by decide +kernel) (pa_cons (pe_lc (own := [("_law_shut", 10)]) (g := gName 10) (tt := tYes) (by rfl) sc__law_told_right.nd (k_pil (K := K) rfl (pe_dget (hu_of hr) (pv 1) pe_str (fun _ _ => rfl))) (blkOk_by (own := [("_law_shut", 10)]) (N := ["_law_machine_here", "_law_own", "_law_kinds", "_law_due", "_law_fields", "_law_wide", "_law_offset", "_law_row", "_law_word", "_law_one", "_law_shut"]) (sc := defScope s__law_told_right) (by decide +kernel)) (fun _ _ _ _ _ => (pg_name (i := 10) sc__law_told_right.nd rfl (.inl rfl))) (fun _ _ _ _ _ => pts_nil) (fun _ _ _ _ _ => (pe_ix (k_ixt (K := K) rfl) (pv 10) pe_int (fun _ _ => rfl)))) pa_nil)) (pe_dget (hu_of hr) (pv 1) pe_str (fun _ _ => rfl))))
      (pss_cons (ps_set (i := 6) sc__law_told_right.nd rfl (.inl rfl) (pe_ifExp (pt_cmpR op_eq (pe_dget (hu_of hr) (pv 1) pe_str (fun _ _ => rfl)) pe_str (nomark _)) (pe_callB (k_max (K := K) rfl (by rfl)) (by rfl) B.b_max (by decide +kernel) (pa_cons (pe_lc (own := [("_law_shut", 10)]) (g := gName 10) (tt := tYes) (by rfl) sc__law_told_right.nd (k_pil (K := K) rfl (pe_dget (hu_of hr) (pv 1) pe_str (fun _ _ => rfl))) (blkOk_by (own := [("_law_shut", 10)]) (N := ["_law_machine_here", "_law_own", "_law_kinds", "_law_due", "_law_fields", "_law_wide", "_law_offset", "_law_row", "_law_word", "_law_one", "_law_shut"]) (sc := defScope s__law_told_right) (by decide +kernel)) (fun _ _ _ _ _ => (pg_name (i := 10) sc__law_told_right.nd rfl (.inl rfl))) (fun _ _ _ _ _ => pts_nil) (fun _ _ _ _ _ => (pe_ix (k_ixt (K := K) rfl) (pv 10) pe_int (fun _ _ => rfl)))) pa_nil)) pe_int))
      (pss_cons (ps_if (pt_cmpR (k_neD (K := K) rfl hr.units) (pe_lst (pa_cons (pe_virt0 (E := fun _ => E0) V_kind (hr.mono (by decide)) (fun _ => pass0At) (pv 0)) (pa_cons (pe_virt0 (E := fun _ => E0) V_lane (hr.mono (by decide)) (fun _ => pass0At) (pv 0)) (pa_cons (pe_virt0 (E := fun _ => E0) V_wide (hr.mono (by decide)) (fun _ => pass0At) (pv 0)) (pa_cons (pe_virt0 (E := fun _ => E0) V_offset (hr.mono (by decide)) (fun _ => pass0At) (pv 0)) pa_nil))))) (pe_lst (pa_cons (pe_dget (hu_of hr) (pv 1) pe_str (fun _ _ => rfl)) (pa_cons (pe_dget (hu_of hr) (pv 1) pe_str (fun _ _ => rfl)) (pa_cons (pv 5) (pa_cons (pv 6) pa_nil))))) (nomark _))
        (pss_one (ps_ret pe_bl))
        pss_nil)
      (pss_cons (ps_set (i := 7) sc__law_told_right.nd rfl (.inl rfl) (pe_op (k_catS (K := K) rfl) (pe_op (k_catS (K := K) rfl) (pe_lst (pa_cons (pe_dget (hu_of hr) (pv 1) pe_str (fun _ _ => rfl)) (pa_cons (pe_dget (hu_of hr) (pv 1) pe_str (fun _ _ => rfl)) pa_nil))) (pe_lc (own := [("_law_one", 9)]) (g := gName 9) (tt := tYes) (by rfl) sc__law_told_right.nd (k_pil (K := K) rfl (pe_slice (k_sll (K := K) rfl) (pv 4) (po_some pe_int) po_none)) (blkOk_by (own := [("_law_one", 9)]) (N := ["_law_machine_here", "_law_own", "_law_kinds", "_law_due", "_law_fields", "_law_wide", "_law_offset", "_law_row", "_law_word", "_law_one", "_law_shut"]) (sc := defScope s__law_told_right) (by decide +kernel)) (fun _ _ _ _ _ => (pg_name (i := 9) sc__law_told_right.nd rfl (.inl rfl))) (fun _ _ _ _ _ => pts_nil) (fun _ _ _ _ _ => (pe_callTy call_strA (by rfl) B.b_str (by decide +kernel) (pa_cons (pv 9) pa_nil))))) (pe_lc (own := [("_law_one", 9)]) (g := gName 9) (tt := tYes) (by rfl) sc__law_told_right.nd (k_pil (K := K) rfl (pe_fn F__law_tail (hr.mono (by decide)) (pa_cons (pv 1) pa_nil))) (blkOk_by (own := [("_law_one", 9)]) (N := ["_law_machine_here", "_law_own", "_law_kinds", "_law_due", "_law_fields", "_law_wide", "_law_offset", "_law_row", "_law_word", "_law_one", "_law_shut"]) (sc := defScope s__law_told_right) (by decide +kernel)) (fun _ _ _ _ _ => (pg_name (i := 9) sc__law_told_right.nd rfl (.inl rfl))) (fun _ _ _ _ _ => pts_nil) (fun _ _ _ _ _ => (pe_callTy call_strA (by rfl) B.b_str (by decide +kernel) (pa_cons (pv 9) pa_nil))))))
      (pss_one (ps_ret (pe_cmpR op_eq (pe_virt0 (E := fun _ => E0) V_words (hr.mono (by decide)) (fun _ => pass0At) (pv 0)) (pe_bm PySem.F.plainAttrs_str PySem.F.slot_str_join PySem.F.type_str_join (k_join (K := K) rfl) pe_str (pa_cons (pv 7) pa_nil)) (nomark _)))))))))))))), ?_⟩
    obtain ⟨ho, xs, hw, tw⟩ := id io
    have rd : ∀ {H' : Hp} {z : Str} {v : V}, Ex H H' → valV (ownV d wa) (Sum.inr z) = some v → DGet H' a (.str z) (some v) := fun {H' z v} e y => .inl ⟨_, Sum.inr z, .inl (e _ _ ho), rfl, y.symm⟩
    obtain ⟨dx, t, h1, h2⟩ := id im
    have M := MM _ (clsA_mem cl d.kd)
    have tl := g.tell
    have ty : ∀ {H' : Hp}, Ex H H' → TyY K H' (.ref x) (.ref (clsA cl d.kd)) := fun {H'} e => .base (II.ty d.kd (e _ _ h1))
    refine cut_eq fun N1 hN1 => ?_
    simp only [tSeq, tIfS, tOr, tAnd, tNot, tB, tTest, tCB, tCall, tCons, tVar, tNil, tC, tRet, tRetN, tNext, tAsg, gName, tDrop, tOp, tUn, tAug, ipI, tPar, tIf, tAndV, tOrV, tNotV, tChain, tNever, rI0, rI, rU, L2.start, cxK, List.map_cons, List.map_nil, List.length_cons, List.length_nil, Nat.reduceAdd, Nat.reduceSub, List.replicate, List.cons_append, List.nil_append, List.append_nil, List.set_cons_zero, List.set_cons_succ, List.getElem?_cons_zero, List.getElem?_cons_succ, Option.some.injEq, V.int.injEq, V.bl.injEq, exists_eq_left', exists_eq_left, exists_and_left, tFor_eq, iRng1, iRng2, iRng3, iList, iEnum, iZip, iTup, tLst_eq, tTup_eq, rCat_eq, rCatS, rSum, rAppend_eq, rListOf, rSlL_eq, tSl, tNoPart, tPart, tLc_eq, tBM, rIxL, rIxT, min3_eq, rEq_int, rNe_int, min_if, max_if, and_assoc, V.ref.injEq, V.str.injEq, List.cons.injEq, and_true, true_and, ↓reduceIte, Bool.false_eq_true, Bool.not_true, Bool.not_false, Int.reduceToNat, Int.reducePow, Int.reduceAdd, Int.reduceSub, Int.reduceNeg, tVirt, tOff, tFld, sFld_eq, tMake_eq, rTupOf, iStr, rNe_str, rEq_str, rEq_bl, tRaise1, tFmt, tJs, tCallS, WE, wKeep_eq, reduceCtorEq, false_and, and_false, exists_false, or_false, false_or, tIsN, tNotN, decide_true, decide_false, tDictN]
    refine isyC (ty (Ex.refl _)) (II.one d.kd .line) (isyC (ty (Ex.refl _)) (II.one d.kd .wagon) (isyC (ty (Ex.refl _)) (II.one d.kd .trap) ⟨sz_of (by decide), new_of fun kl H1 nkl e1 hkl => ?_⟩))
    rw [← hN1]
    clear hN1
    refine cut_eq fun N1 hN1 => ?_
    simp only [tSeq, tIfS, tOr, tAnd, tNot, tB, tTest, tCB, tCall, tCons, tVar, tNil, tC, tRet, tRetN, tNext, tAsg, gName, tDrop, tOp, tUn, tAug, ipI, tPar, tIf, tAndV, tOrV, tNotV, tChain, tNever, rI0, rI, rU, L2.start, cxK, List.map_cons, List.map_nil, List.length_cons, List.length_nil, Nat.reduceAdd, Nat.reduceSub, List.replicate, List.cons_append, List.nil_append, List.append_nil, List.set_cons_zero, List.set_cons_succ, List.getElem?_cons_zero, List.getElem?_cons_succ, Option.some.injEq, V.int.injEq, V.bl.injEq, exists_eq_left', exists_eq_left, exists_and_left, tFor_eq, iRng1, iRng2, iRng3, iList, iEnum, iZip, iTup, tLst_eq, tTup_eq, rCat_eq, rCatS, rSum, rAppend_eq, rListOf, rSlL_eq, tSl, tNoPart, tPart, tLc_eq, tBM, rIxL, rIxT, min3_eq, rEq_int, rNe_int, min_if, max_if, and_assoc, V.ref.injEq, V.str.injEq, List.cons.injEq, and_true, true_and, ↓reduceIte, Bool.false_eq_true, Bool.not_true, Bool.not_false, Int.reduceToNat, Int.reducePow, Int.reduceAdd, Int.reduceSub, Int.reduceNeg, tVirt, tOff, tFld, sFld_eq, tMake_eq, rTupOf, iStr, rNe_str, rEq_str, rEq_bl, tRaise1, tFmt, tJs, tCallS, WE, wKeep_eq, reduceCtorEq, false_and, and_false, exists_false, or_false, false_or, tIsN, tNotN, decide_true, decide_false, tDictN]
    refine ⟨.inl ⟨rfl, _, sq_of hkl⟩, isyC (ty e1) (II.one d.kd .floor) ⟨_, hkl, sz_lt (by show (3 : Nat) < 100000; decide), chg_of fun H2 k2 h2' => ?_⟩⟩
    have e2 : Ex H H2 := ex_chg e1 nkl k2
    replace h2' : H2 kl = some (.lst [.bl (decide (d.kd = .line)), .bl (decide (d.kd = .wagon)), .bl (decide (d.kd = .trap)), .bl (decide (d.kd = .floor))]) := h2'
    clear k2 hkl e1
    rw [← hN1]
    clear hN1
    refine cut_eq fun N1 hN1 => ?_
    simp only [tSeq, tIfS, tOr, tAnd, tNot, tB, tTest, tCB, tCall, tCons, tVar, tNil, tC, tRet, tRetN, tNext, tAsg, gName, tDrop, tOp, tUn, tAug, ipI, tPar, tIf, tAndV, tOrV, tNotV, tChain, tNever, rI0, rI, rU, L2.start, cxK, List.map_cons, List.map_nil, List.length_cons, List.length_nil, Nat.reduceAdd, Nat.reduceSub, List.replicate, List.cons_append, List.nil_append, List.append_nil, List.set_cons_zero, List.set_cons_succ, List.getElem?_cons_zero, List.getElem?_cons_succ, Option.some.injEq, V.int.injEq, V.bl.injEq, exists_eq_left', exists_eq_left, exists_and_left, tFor_eq, iRng1, iRng2, iRng3, iList, iEnum, iZip, iTup, tLst_eq, tTup_eq, rCat_eq, rCatS, rSum, rAppend_eq, rListOf, rSlL_eq, tSl, tNoPart, tPart, tLc_eq, tBM, rIxL, rIxT, min3_eq, rEq_int, rNe_int, min_if, max_if, and_assoc, V.ref.injEq, V.str.injEq, List.cons.injEq, and_true, true_and, ↓reduceIte, Bool.false_eq_true, Bool.not_true, Bool.not_false, Int.reduceToNat, Int.reducePow, Int.reduceAdd, Int.reduceSub, Int.reduceNeg, tVirt, tOff, tFld, sFld_eq, tMake_eq, rTupOf, iStr, rNe_str, rEq_str, rEq_bl, tRaise1, tFmt, tJs, tCallS, WE, wKeep_eq, reduceCtorEq, false_and, and_false, exists_false, or_false, false_or, tIsN, tNotN, decide_true, decide_false, tDictN]
    refine ⟨sz_of (by decide), new_of fun tp H3 ntp e3 htp => ⟨⟨_, st_of htp⟩, fun Dl hD => lc_gives (walk_tup (xs := [.str "line", .str "wagon", .str "trap", .str "floor"])) (fun i => ([.bl (decide (d.kd = .line)), .bl (decide (d.kd = .wagon)), .bl (decide (d.kd = .trap)), .bl (decide (d.kd = .floor))] : List V)[i]?) hD (fun H' e => st_of (e _ _ htp)) ?_ ?_⟩⟩
    · rintro i x H0 H' hi e0 h0 ⟨rfl, hx⟩
      have e20 := (e2.trans e3).trans e0
      match i, hi with
      | 0, _ =>
        cases hx
        simp only [tSeq, tIfS, tOr, tAnd, tNot, tB, tTest, tCB, tCall, tCons, tVar, tNil, tC, tRet, tRetN, tNext, tAsg, gName, tDrop, tOp, tUn, tAug, ipI, tPar, tIf, tAndV, tOrV, tNotV, tChain, tNever, rI0, rI, rU, L2.start, cxK, List.map_cons, List.map_nil, List.length_cons, List.length_nil, Nat.reduceAdd, Nat.reduceSub, List.replicate, List.cons_append, List.nil_append, List.append_nil, List.set_cons_zero, List.set_cons_succ, List.getElem?_cons_zero, List.getElem?_cons_succ, Option.some.injEq, V.int.injEq, V.bl.injEq, exists_eq_left', exists_eq_left, exists_and_left, tFor_eq, iRng1, iRng2, iRng3, iList, iEnum, iZip, iTup, tLst_eq, tTup_eq, rCat_eq, rCatS, rSum, rAppend_eq, rListOf, rSlL_eq, tSl, tNoPart, tPart, tLc_eq, tBM, rIxL, rIxT, min3_eq, rEq_int, rNe_int, min_if, max_if, and_assoc, V.ref.injEq, V.str.injEq, List.cons.injEq, and_true, true_and, ↓reduceIte, Bool.false_eq_true, Bool.not_true, Bool.not_false, Int.reduceToNat, Int.reducePow, Int.reduceAdd, Int.reduceSub, Int.reduceNeg, tVirt, tOff, tFld, sFld_eq, tMake_eq, rTupOf, iStr, rNe_str, rEq_str, rEq_bl, tRaise1, tFmt, tJs, tCallS, WE, wKeep_eq, reduceCtorEq, false_and, and_false, exists_false, or_false, false_or, tIsN, tNotN, decide_true, decide_false, tDictN, wipe, tYes, tDGet]
        refine ⟨_, rd e20 own_kind, ?_⟩
        simp only [tSeq, tIfS, tOr, tAnd, tNot, tB, tTest, tCB, tCall, tCons, tVar, tNil, tC, tRet, tRetN, tNext, tAsg, gName, tDrop, tOp, tUn, tAug, ipI, tPar, tIf, tAndV, tOrV, tNotV, tChain, tNever, rI0, rI, rU, L2.start, cxK, List.map_cons, List.map_nil, List.length_cons, List.length_nil, Nat.reduceAdd, Nat.reduceSub, List.replicate, List.cons_append, List.nil_append, List.append_nil, List.set_cons_zero, List.set_cons_succ, List.getElem?_cons_zero, List.getElem?_cons_succ, Option.some.injEq, V.int.injEq, V.bl.injEq, exists_eq_left', exists_eq_left, exists_and_left, tFor_eq, iRng1, iRng2, iRng3, iList, iEnum, iZip, iTup, tLst_eq, tTup_eq, rCat_eq, rCatS, rSum, rAppend_eq, rListOf, rSlL_eq, tSl, tNoPart, tPart, tLc_eq, tBM, rIxL, rIxT, min3_eq, rEq_int, rNe_int, min_if, max_if, and_assoc, V.ref.injEq, V.str.injEq, List.cons.injEq, and_true, true_and, ↓reduceIte, Bool.false_eq_true, Bool.not_true, Bool.not_false, Int.reduceToNat, Int.reducePow, Int.reduceAdd, Int.reduceSub, Int.reduceNeg, tVirt, tOff, tFld, sFld_eq, tMake_eq, rTupOf, iStr, rNe_str, rEq_str, rEq_bl, tRaise1, tFmt, tJs, tCallS, WE, wKeep_eq, reduceCtorEq, false_and, and_false, exists_false, or_false, false_or, tIsN, tNotN, decide_true, decide_false, tDictN]
        rw [show ("line" : Str) = kdS .line from rfl, kdS_inj]
        exact put_of hD e0 h0 (sz_lt (by decide)) rfl
      | 1, _ =>
        cases hx
        simp only [tSeq, tIfS, tOr, tAnd, tNot, tB, tTest, tCB, tCall, tCons, tVar, tNil, tC, tRet, tRetN, tNext, tAsg, gName, tDrop, tOp, tUn, tAug, ipI, tPar, tIf, tAndV, tOrV, tNotV, tChain, tNever, rI0, rI, rU, L2.start, cxK, List.map_cons, List.map_nil, List.length_cons, List.length_nil, Nat.reduceAdd, Nat.reduceSub, List.replicate, List.cons_append, List.nil_append, List.append_nil, List.set_cons_zero, List.set_cons_succ, List.getElem?_cons_zero, List.getElem?_cons_succ, Option.some.injEq, V.int.injEq, V.bl.injEq, exists_eq_left', exists_eq_left, exists_and_left, tFor_eq, iRng1, iRng2, iRng3, iList, iEnum, iZip, iTup, tLst_eq, tTup_eq, rCat_eq, rCatS, rSum, rAppend_eq, rListOf, rSlL_eq, tSl, tNoPart, tPart, tLc_eq, tBM, rIxL, rIxT, min3_eq, rEq_int, rNe_int, min_if, max_if, and_assoc, V.ref.injEq, V.str.injEq, List.cons.injEq, and_true, true_and, ↓reduceIte, Bool.false_eq_true, Bool.not_true, Bool.not_false, Int.reduceToNat, Int.reducePow, Int.reduceAdd, Int.reduceSub, Int.reduceNeg, tVirt, tOff, tFld, sFld_eq, tMake_eq, rTupOf, iStr, rNe_str, rEq_str, rEq_bl, tRaise1, tFmt, tJs, tCallS, WE, wKeep_eq, reduceCtorEq, false_and, and_false, exists_false, or_false, false_or, tIsN, tNotN, decide_true, decide_false, tDictN, wipe, tYes, tDGet]
        refine ⟨_, rd e20 own_kind, ?_⟩
        simp only [tSeq, tIfS, tOr, tAnd, tNot, tB, tTest, tCB, tCall, tCons, tVar, tNil, tC, tRet, tRetN, tNext, tAsg, gName, tDrop, tOp, tUn, tAug, ipI, tPar, tIf, tAndV, tOrV, tNotV, tChain, tNever, rI0, rI, rU, L2.start, cxK, List.map_cons, List.map_nil, List.length_cons, List.length_nil, Nat.reduceAdd, Nat.reduceSub, List.replicate, List.cons_append, List.nil_append, List.append_nil, List.set_cons_zero, List.set_cons_succ, List.getElem?_cons_zero, List.getElem?_cons_succ, Option.some.injEq, V.int.injEq, V.bl.injEq, exists_eq_left', exists_eq_left, exists_and_left, tFor_eq, iRng1, iRng2, iRng3, iList, iEnum, iZip, iTup, tLst_eq, tTup_eq, rCat_eq, rCatS, rSum, rAppend_eq, rListOf, rSlL_eq, tSl, tNoPart, tPart, tLc_eq, tBM, rIxL, rIxT, min3_eq, rEq_int, rNe_int, min_if, max_if, and_assoc, V.ref.injEq, V.str.injEq, List.cons.injEq, and_true, true_and, ↓reduceIte, Bool.false_eq_true, Bool.not_true, Bool.not_false, Int.reduceToNat, Int.reducePow, Int.reduceAdd, Int.reduceSub, Int.reduceNeg, tVirt, tOff, tFld, sFld_eq, tMake_eq, rTupOf, iStr, rNe_str, rEq_str, rEq_bl, tRaise1, tFmt, tJs, tCallS, WE, wKeep_eq, reduceCtorEq, false_and, and_false, exists_false, or_false, false_or, tIsN, tNotN, decide_true, decide_false, tDictN]
        rw [show ("wagon" : Str) = kdS .wagon from rfl, kdS_inj]
        exact put_of hD e0 h0 (sz_lt (by decide)) rfl
      | 2, _ =>
        cases hx
        simp only [tSeq, tIfS, tOr, tAnd, tNot, tB, tTest, tCB, tCall, tCons, tVar, tNil, tC, tRet, tRetN, tNext, tAsg, gName, tDrop, tOp, tUn, tAug, ipI, tPar, tIf, tAndV, tOrV, tNotV, tChain, tNever, rI0, rI, rU, L2.start, cxK, List.map_cons, List.map_nil, List.length_cons, List.length_nil, Nat.reduceAdd, Nat.reduceSub, List.replicate, List.cons_append, List.nil_append, List.append_nil, List.set_cons_zero, List.set_cons_succ, List.getElem?_cons_zero, List.getElem?_cons_succ, Option.some.injEq, V.int.injEq, V.bl.injEq, exists_eq_left', exists_eq_left, exists_and_left, tFor_eq, iRng1, iRng2, iRng3, iList, iEnum, iZip, iTup, tLst_eq, tTup_eq, rCat_eq, rCatS, rSum, rAppend_eq, rListOf, rSlL_eq, tSl, tNoPart, tPart, tLc_eq, tBM, rIxL, rIxT, min3_eq, rEq_int, rNe_int, min_if, max_if, and_assoc, V.ref.injEq, V.str.injEq, List.cons.injEq, and_true, true_and, ↓reduceIte, Bool.false_eq_true, Bool.not_true, Bool.not_false, Int.reduceToNat, Int.reducePow, Int.reduceAdd, Int.reduceSub, Int.reduceNeg, tVirt, tOff, tFld, sFld_eq, tMake_eq, rTupOf, iStr, rNe_str, rEq_str, rEq_bl, tRaise1, tFmt, tJs, tCallS, WE, wKeep_eq, reduceCtorEq, false_and, and_false, exists_false, or_false, false_or, tIsN, tNotN, decide_true, decide_false, tDictN, wipe, tYes, tDGet]
        refine ⟨_, rd e20 own_kind, ?_⟩
        simp only [tSeq, tIfS, tOr, tAnd, tNot, tB, tTest, tCB, tCall, tCons, tVar, tNil, tC, tRet, tRetN, tNext, tAsg, gName, tDrop, tOp, tUn, tAug, ipI, tPar, tIf, tAndV, tOrV, tNotV, tChain, tNever, rI0, rI, rU, L2.start, cxK, List.map_cons, List.map_nil, List.length_cons, List.length_nil, Nat.reduceAdd, Nat.reduceSub, List.replicate, List.cons_append, List.nil_append, List.append_nil, List.set_cons_zero, List.set_cons_succ, List.getElem?_cons_zero, List.getElem?_cons_succ, Option.some.injEq, V.int.injEq, V.bl.injEq, exists_eq_left', exists_eq_left, exists_and_left, tFor_eq, iRng1, iRng2, iRng3, iList, iEnum, iZip, iTup, tLst_eq, tTup_eq, rCat_eq, rCatS, rSum, rAppend_eq, rListOf, rSlL_eq, tSl, tNoPart, tPart, tLc_eq, tBM, rIxL, rIxT, min3_eq, rEq_int, rNe_int, min_if, max_if, and_assoc, V.ref.injEq, V.str.injEq, List.cons.injEq, and_true, true_and, ↓reduceIte, Bool.false_eq_true, Bool.not_true, Bool.not_false, Int.reduceToNat, Int.reducePow, Int.reduceAdd, Int.reduceSub, Int.reduceNeg, tVirt, tOff, tFld, sFld_eq, tMake_eq, rTupOf, iStr, rNe_str, rEq_str, rEq_bl, tRaise1, tFmt, tJs, tCallS, WE, wKeep_eq, reduceCtorEq, false_and, and_false, exists_false, or_false, false_or, tIsN, tNotN, decide_true, decide_false, tDictN]
        rw [show ("trap" : Str) = kdS .trap from rfl, kdS_inj]
        exact put_of hD e0 h0 (sz_lt (by decide)) rfl
      | 3, _ =>
        cases hx
        simp only [tSeq, tIfS, tOr, tAnd, tNot, tB, tTest, tCB, tCall, tCons, tVar, tNil, tC, tRet, tRetN, tNext, tAsg, gName, tDrop, tOp, tUn, tAug, ipI, tPar, tIf, tAndV, tOrV, tNotV, tChain, tNever, rI0, rI, rU, L2.start, cxK, List.map_cons, List.map_nil, List.length_cons, List.length_nil, Nat.reduceAdd, Nat.reduceSub, List.replicate, List.cons_append, List.nil_append, List.append_nil, List.set_cons_zero, List.set_cons_succ, List.getElem?_cons_zero, List.getElem?_cons_succ, Option.some.injEq, V.int.injEq, V.bl.injEq, exists_eq_left', exists_eq_left, exists_and_left, tFor_eq, iRng1, iRng2, iRng3, iList, iEnum, iZip, iTup, tLst_eq, tTup_eq, rCat_eq, rCatS, rSum, rAppend_eq, rListOf, rSlL_eq, tSl, tNoPart, tPart, tLc_eq, tBM, rIxL, rIxT, min3_eq, rEq_int, rNe_int, min_if, max_if, and_assoc, V.ref.injEq, V.str.injEq, List.cons.injEq, and_true, true_and, ↓reduceIte, Bool.false_eq_true, Bool.not_true, Bool.not_false, Int.reduceToNat, Int.reducePow, Int.reduceAdd, Int.reduceSub, Int.reduceNeg, tVirt, tOff, tFld, sFld_eq, tMake_eq, rTupOf, iStr, rNe_str, rEq_str, rEq_bl, tRaise1, tFmt, tJs, tCallS, WE, wKeep_eq, reduceCtorEq, false_and, and_false, exists_false, or_false, false_or, tIsN, tNotN, decide_true, decide_false, tDictN, wipe, tYes, tDGet]
        refine ⟨_, rd e20 own_kind, ?_⟩
        simp only [tSeq, tIfS, tOr, tAnd, tNot, tB, tTest, tCB, tCall, tCons, tVar, tNil, tC, tRet, tRetN, tNext, tAsg, gName, tDrop, tOp, tUn, tAug, ipI, tPar, tIf, tAndV, tOrV, tNotV, tChain, tNever, rI0, rI, rU, L2.start, cxK, List.map_cons, List.map_nil, List.length_cons, List.length_nil, Nat.reduceAdd, Nat.reduceSub, List.replicate, List.cons_append, List.nil_append, List.append_nil, List.set_cons_zero, List.set_cons_succ, List.getElem?_cons_zero, List.getElem?_cons_succ, Option.some.injEq, V.int.injEq, V.bl.injEq, exists_eq_left', exists_eq_left, exists_and_left, tFor_eq, iRng1, iRng2, iRng3, iList, iEnum, iZip, iTup, tLst_eq, tTup_eq, rCat_eq, rCatS, rSum, rAppend_eq, rListOf, rSlL_eq, tSl, tNoPart, tPart, tLc_eq, tBM, rIxL, rIxT, min3_eq, rEq_int, rNe_int, min_if, max_if, and_assoc, V.ref.injEq, V.str.injEq, List.cons.injEq, and_true, true_and, ↓reduceIte, Bool.false_eq_true, Bool.not_true, Bool.not_false, Int.reduceToNat, Int.reducePow, Int.reduceAdd, Int.reduceSub, Int.reduceNeg, tVirt, tOff, tFld, sFld_eq, tMake_eq, rTupOf, iStr, rNe_str, rEq_str, rEq_bl, tRaise1, tFmt, tJs, tCallS, WE, wKeep_eq, reduceCtorEq, false_and, and_false, exists_false, or_false, false_or, tIsN, tNotN, decide_true, decide_false, tDictN]
        rw [show ("floor" : Str) = kdS .floor from rfl, kdS_inj]
        exact put_of hD e0 h0 (sz_lt (by decide)) rfl
    intro H4 e4 h4
    replace h4 : H4 Dl = some (.lst [.bl (decide (d.kd = .line)), .bl (decide (d.kd = .wagon)), .bl (decide (d.kd = .trap)), .bl (decide (d.kd = .floor))]) := h4
    have e04 := (e2.trans e3).trans e4
    have hk4 := (e3.trans e4) _ _ h2'
    rw [← hN1]
    clear hN1
    refine cut_eq fun N1 hN1 => ?_
    simp only [tSeq, tIfS, tOr, tAnd, tNot, tB, tTest, tCB, tCall, tCons, tVar, tNil, tC, tRet, tRetN, tNext, tAsg, gName, tDrop, tOp, tUn, tAug, ipI, tPar, tIf, tAndV, tOrV, tNotV, tChain, tNever, rI0, rI, rU, L2.start, cxK, List.map_cons, List.map_nil, List.length_cons, List.length_nil, Nat.reduceAdd, Nat.reduceSub, List.replicate, List.cons_append, List.nil_append, List.append_nil, List.set_cons_zero, List.set_cons_succ, List.getElem?_cons_zero, List.getElem?_cons_succ, Option.some.injEq, V.int.injEq, V.bl.injEq, exists_eq_left', exists_eq_left, exists_and_left, tFor_eq, iRng1, iRng2, iRng3, iList, iEnum, iZip, iTup, tLst_eq, tTup_eq, rCat_eq, rCatS, rSum, rAppend_eq, rListOf, rSlL_eq, tSl, tNoPart, tPart, tLc_eq, tBM, rIxL, rIxT, min3_eq, rEq_int, rNe_int, min_if, max_if, and_assoc, V.ref.injEq, V.str.injEq, List.cons.injEq, and_true, true_and, ↓reduceIte, Bool.false_eq_true, Bool.not_true, Bool.not_false, Int.reduceToNat, Int.reducePow, Int.reduceAdd, Int.reduceSub, Int.reduceNeg, tVirt, tOff, tFld, sFld_eq, tMake_eq, rTupOf, iStr, rNe_str, rEq_str, rEq_bl, tRaise1, tFmt, tJs, tCallS, WE, wKeep_eq, reduceCtorEq, false_and, and_false, exists_false, or_false, false_or, tIsN, tNotN, decide_true, decide_false, tDictN]
    refine isyC (ty e04) (II.mach d.kd) ⟨_, rfl, ifF rfl (neD_flats (vs := [.bl (decide (d.kd = .line)), .bl (decide (d.kd = .wagon)), .bl (decide (d.kd = .trap)), .bl (decide (d.kd = .floor))]) rfl (sq_of hk4) (sq_of h4) ⟨_, rfl, ifF rfl ?_⟩)⟩
    rw [← hN1]
    clear hN1
    refine cut_eq fun N1 hN1 => ?_
    simp only [tSeq, tIfS, tOr, tAnd, tNot, tB, tTest, tCB, tCall, tCons, tVar, tNil, tC, tRet, tRetN, tNext, tAsg, gName, tDrop, tOp, tUn, tAug, ipI, tPar, tIf, tAndV, tOrV, tNotV, tChain, tNever, rI0, rI, rU, L2.start, cxK, List.map_cons, List.map_nil, List.length_cons, List.length_nil, Nat.reduceAdd, Nat.reduceSub, List.replicate, List.cons_append, List.nil_append, List.append_nil, List.set_cons_zero, List.set_cons_succ, List.getElem?_cons_zero, List.getElem?_cons_succ, Option.some.injEq, V.int.injEq, V.bl.injEq, exists_eq_left', exists_eq_left, exists_and_left, tFor_eq, iRng1, iRng2, iRng3, iList, iEnum, iZip, iTup, tLst_eq, tTup_eq, rCat_eq, rCatS, rSum, rAppend_eq, rListOf, rSlL_eq, tSl, tNoPart, tPart, tLc_eq, tBM, rIxL, rIxT, min3_eq, rEq_int, rNe_int, min_if, max_if, and_assoc, V.ref.injEq, V.str.injEq, List.cons.injEq, and_true, true_and, ↓reduceIte, Bool.false_eq_true, Bool.not_true, Bool.not_false, Int.reduceToNat, Int.reducePow, Int.reduceAdd, Int.reduceSub, Int.reduceNeg, tVirt, tOff, tFld, sFld_eq, tMake_eq, rTupOf, iStr, rNe_str, rEq_str, rEq_bl, tRaise1, tFmt, tJs, tCallS, WE, wKeep_eq, reduceCtorEq, false_and, and_false, exists_false, or_false, false_or, tIsN, tNotN, decide_true, decide_false, tDictN]
    have h1' := e04 _ _ h1
    refine ⟨_, _, _, h1', M.c, M.n_name, _, rfl, _, _, _, h1', M.c, M.n_least, _, rfl, _, _, _, h1', M.c, M.n_greatest, _, rfl, _, _, _, h1', M.c, M.n_pace, _, rfl, _, _, _, h1', M.c, M.n_gain, _, rfl, _, _, _, h1', M.c, M.n_place, _, rfl, sz_of (by decide), new_of fun fl H5 nfl e5 hfl => ?_⟩
    have e05 := e04.trans e5
    rw [← hN1]
    clear hN1
    refine cut_eq fun N1 hN1 => ?_
    simp only [tSeq, tIfS, tOr, tAnd, tNot, tB, tTest, tCB, tCall, tCons, tVar, tNil, tC, tRet, tRetN, tNext, tAsg, gName, tDrop, tOp, tUn, tAug, ipI, tPar, tIf, tAndV, tOrV, tNotV, tChain, tNever, rI0, rI, rU, L2.start, cxK, List.map_cons, List.map_nil, List.length_cons, List.length_nil, Nat.reduceAdd, Nat.reduceSub, List.replicate, List.cons_append, List.nil_append, List.append_nil, List.set_cons_zero, List.set_cons_succ, List.getElem?_cons_zero, List.getElem?_cons_succ, Option.some.injEq, V.int.injEq, V.bl.injEq, exists_eq_left', exists_eq_left, exists_and_left, tFor_eq, iRng1, iRng2, iRng3, iList, iEnum, iZip, iTup, tLst_eq, tTup_eq, rCat_eq, rCatS, rSum, rAppend_eq, rListOf, rSlL_eq, tSl, tNoPart, tPart, tLc_eq, tBM, rIxL, rIxT, min3_eq, rEq_int, rNe_int, min_if, max_if, and_assoc, V.ref.injEq, V.str.injEq, List.cons.injEq, and_true, true_and, ↓reduceIte, Bool.false_eq_true, Bool.not_true, Bool.not_false, Int.reduceToNat, Int.reducePow, Int.reduceAdd, Int.reduceSub, Int.reduceNeg, tVirt, tOff, tFld, sFld_eq, tMake_eq, rTupOf, iStr, rNe_str, rEq_str, rEq_bl, tRaise1, tFmt, tJs, tCallS, WE, wKeep_eq, reduceCtorEq, false_and, and_false, exists_false, or_false, false_or, tIsN, tNotN, decide_true, decide_false, tDictN]
    refine ⟨sz_of (by decide), new_of fun tp2 H6 ntp2 e6 htp2 => ⟨⟨_, st_of htp2⟩, fun Dl2 hD2 => lc_gives (walk_tup (xs := [.str "name", .str "least", .str "greatest", .str "pace", .str "gain", .str "place"])) (fun i => ([.str d.name, .int d.least, .int d.greatest, .int d.pace, .int d.gain, .int d.place] : List V)[i]?) hD2 (fun H' e => st_of (e _ _ htp2)) ?_ ?_⟩⟩
    · rintro i x H0 H' hi e0 h0 ⟨rfl, hx⟩
      have e20 := (e05.trans e6).trans e0
      match i, hi with
      | 0, _ =>
        cases hx
        simp only [tSeq, tIfS, tOr, tAnd, tNot, tB, tTest, tCB, tCall, tCons, tVar, tNil, tC, tRet, tRetN, tNext, tAsg, gName, tDrop, tOp, tUn, tAug, ipI, tPar, tIf, tAndV, tOrV, tNotV, tChain, tNever, rI0, rI, rU, L2.start, cxK, List.map_cons, List.map_nil, List.length_cons, List.length_nil, Nat.reduceAdd, Nat.reduceSub, List.replicate, List.cons_append, List.nil_append, List.append_nil, List.set_cons_zero, List.set_cons_succ, List.getElem?_cons_zero, List.getElem?_cons_succ, Option.some.injEq, V.int.injEq, V.bl.injEq, exists_eq_left', exists_eq_left, exists_and_left, tFor_eq, iRng1, iRng2, iRng3, iList, iEnum, iZip, iTup, tLst_eq, tTup_eq, rCat_eq, rCatS, rSum, rAppend_eq, rListOf, rSlL_eq, tSl, tNoPart, tPart, tLc_eq, tBM, rIxL, rIxT, min3_eq, rEq_int, rNe_int, min_if, max_if, and_assoc, V.ref.injEq, V.str.injEq, List.cons.injEq, and_true, true_and, ↓reduceIte, Bool.false_eq_true, Bool.not_true, Bool.not_false, Int.reduceToNat, Int.reducePow, Int.reduceAdd, Int.reduceSub, Int.reduceNeg, tVirt, tOff, tFld, sFld_eq, tMake_eq, rTupOf, iStr, rNe_str, rEq_str, rEq_bl, tRaise1, tFmt, tJs, tCallS, WE, wKeep_eq, reduceCtorEq, false_and, and_false, exists_false, or_false, false_or, tIsN, tNotN, decide_true, decide_false, tDictN, wipe, tYes, tDGet]
        exact ⟨_, rd e20 rfl, put_of hD2 e0 h0 (sz_lt (by decide)) rfl⟩
      | 1, _ =>
        cases hx
        simp only [tSeq, tIfS, tOr, tAnd, tNot, tB, tTest, tCB, tCall, tCons, tVar, tNil, tC, tRet, tRetN, tNext, tAsg, gName, tDrop, tOp, tUn, tAug, ipI, tPar, tIf, tAndV, tOrV, tNotV, tChain, tNever, rI0, rI, rU, L2.start, cxK, List.map_cons, List.map_nil, List.length_cons, List.length_nil, Nat.reduceAdd, Nat.reduceSub, List.replicate, List.cons_append, List.nil_append, List.append_nil, List.set_cons_zero, List.set_cons_succ, List.getElem?_cons_zero, List.getElem?_cons_succ, Option.some.injEq, V.int.injEq, V.bl.injEq, exists_eq_left', exists_eq_left, exists_and_left, tFor_eq, iRng1, iRng2, iRng3, iList, iEnum, iZip, iTup, tLst_eq, tTup_eq, rCat_eq, rCatS, rSum, rAppend_eq, rListOf, rSlL_eq, tSl, tNoPart, tPart, tLc_eq, tBM, rIxL, rIxT, min3_eq, rEq_int, rNe_int, min_if, max_if, and_assoc, V.ref.injEq, V.str.injEq, List.cons.injEq, and_true, true_and, ↓reduceIte, Bool.false_eq_true, Bool.not_true, Bool.not_false, Int.reduceToNat, Int.reducePow, Int.reduceAdd, Int.reduceSub, Int.reduceNeg, tVirt, tOff, tFld, sFld_eq, tMake_eq, rTupOf, iStr, rNe_str, rEq_str, rEq_bl, tRaise1, tFmt, tJs, tCallS, WE, wKeep_eq, reduceCtorEq, false_and, and_false, exists_false, or_false, false_or, tIsN, tNotN, decide_true, decide_false, tDictN, wipe, tYes, tDGet]
        exact ⟨_, rd e20 rfl, put_of hD2 e0 h0 (sz_lt (by decide)) rfl⟩
      | 2, _ =>
        cases hx
        simp only [tSeq, tIfS, tOr, tAnd, tNot, tB, tTest, tCB, tCall, tCons, tVar, tNil, tC, tRet, tRetN, tNext, tAsg, gName, tDrop, tOp, tUn, tAug, ipI, tPar, tIf, tAndV, tOrV, tNotV, tChain, tNever, rI0, rI, rU, L2.start, cxK, List.map_cons, List.map_nil, List.length_cons, List.length_nil, Nat.reduceAdd, Nat.reduceSub, List.replicate, List.cons_append, List.nil_append, List.append_nil, List.set_cons_zero, List.set_cons_succ, List.getElem?_cons_zero, List.getElem?_cons_succ, Option.some.injEq, V.int.injEq, V.bl.injEq, exists_eq_left', exists_eq_left, exists_and_left, tFor_eq, iRng1, iRng2, iRng3, iList, iEnum, iZip, iTup, tLst_eq, tTup_eq, rCat_eq, rCatS, rSum, rAppend_eq, rListOf, rSlL_eq, tSl, tNoPart, tPart, tLc_eq, tBM, rIxL, rIxT, min3_eq, rEq_int, rNe_int, min_if, max_if, and_assoc, V.ref.injEq, V.str.injEq, List.cons.injEq, and_true, true_and, ↓reduceIte, Bool.false_eq_true, Bool.not_true, Bool.not_false, Int.reduceToNat, Int.reducePow, Int.reduceAdd, Int.reduceSub, Int.reduceNeg, tVirt, tOff, tFld, sFld_eq, tMake_eq, rTupOf, iStr, rNe_str, rEq_str, rEq_bl, tRaise1, tFmt, tJs, tCallS, WE, wKeep_eq, reduceCtorEq, false_and, and_false, exists_false, or_false, false_or, tIsN, tNotN, decide_true, decide_false, tDictN, wipe, tYes, tDGet]
        exact ⟨_, rd e20 rfl, put_of hD2 e0 h0 (sz_lt (by decide)) rfl⟩
      | 3, _ =>
        cases hx
        simp only [tSeq, tIfS, tOr, tAnd, tNot, tB, tTest, tCB, tCall, tCons, tVar, tNil, tC, tRet, tRetN, tNext, tAsg, gName, tDrop, tOp, tUn, tAug, ipI, tPar, tIf, tAndV, tOrV, tNotV, tChain, tNever, rI0, rI, rU, L2.start, cxK, List.map_cons, List.map_nil, List.length_cons, List.length_nil, Nat.reduceAdd, Nat.reduceSub, List.replicate, List.cons_append, List.nil_append, List.append_nil, List.set_cons_zero, List.set_cons_succ, List.getElem?_cons_zero, List.getElem?_cons_succ, Option.some.injEq, V.int.injEq, V.bl.injEq, exists_eq_left', exists_eq_left, exists_and_left, tFor_eq, iRng1, iRng2, iRng3, iList, iEnum, iZip, iTup, tLst_eq, tTup_eq, rCat_eq, rCatS, rSum, rAppend_eq, rListOf, rSlL_eq, tSl, tNoPart, tPart, tLc_eq, tBM, rIxL, rIxT, min3_eq, rEq_int, rNe_int, min_if, max_if, and_assoc, V.ref.injEq, V.str.injEq, List.cons.injEq, and_true, true_and, ↓reduceIte, Bool.false_eq_true, Bool.not_true, Bool.not_false, Int.reduceToNat, Int.reducePow, Int.reduceAdd, Int.reduceSub, Int.reduceNeg, tVirt, tOff, tFld, sFld_eq, tMake_eq, rTupOf, iStr, rNe_str, rEq_str, rEq_bl, tRaise1, tFmt, tJs, tCallS, WE, wKeep_eq, reduceCtorEq, false_and, and_false, exists_false, or_false, false_or, tIsN, tNotN, decide_true, decide_false, tDictN, wipe, tYes, tDGet]
        exact ⟨_, rd e20 rfl, put_of hD2 e0 h0 (sz_lt (by decide)) rfl⟩
      | 4, _ =>
        cases hx
        simp only [tSeq, tIfS, tOr, tAnd, tNot, tB, tTest, tCB, tCall, tCons, tVar, tNil, tC, tRet, tRetN, tNext, tAsg, gName, tDrop, tOp, tUn, tAug, ipI, tPar, tIf, tAndV, tOrV, tNotV, tChain, tNever, rI0, rI, rU, L2.start, cxK, List.map_cons, List.map_nil, List.length_cons, List.length_nil, Nat.reduceAdd, Nat.reduceSub, List.replicate, List.cons_append, List.nil_append, List.append_nil, List.set_cons_zero, List.set_cons_succ, List.getElem?_cons_zero, List.getElem?_cons_succ, Option.some.injEq, V.int.injEq, V.bl.injEq, exists_eq_left', exists_eq_left, exists_and_left, tFor_eq, iRng1, iRng2, iRng3, iList, iEnum, iZip, iTup, tLst_eq, tTup_eq, rCat_eq, rCatS, rSum, rAppend_eq, rListOf, rSlL_eq, tSl, tNoPart, tPart, tLc_eq, tBM, rIxL, rIxT, min3_eq, rEq_int, rNe_int, min_if, max_if, and_assoc, V.ref.injEq, V.str.injEq, List.cons.injEq, and_true, true_and, ↓reduceIte, Bool.false_eq_true, Bool.not_true, Bool.not_false, Int.reduceToNat, Int.reducePow, Int.reduceAdd, Int.reduceSub, Int.reduceNeg, tVirt, tOff, tFld, sFld_eq, tMake_eq, rTupOf, iStr, rNe_str, rEq_str, rEq_bl, tRaise1, tFmt, tJs, tCallS, WE, wKeep_eq, reduceCtorEq, false_and, and_false, exists_false, or_false, false_or, tIsN, tNotN, decide_true, decide_false, tDictN, wipe, tYes, tDGet]
        exact ⟨_, rd e20 rfl, put_of hD2 e0 h0 (sz_lt (by decide)) rfl⟩
      | 5, _ =>
        cases hx
        simp only [tSeq, tIfS, tOr, tAnd, tNot, tB, tTest, tCB, tCall, tCons, tVar, tNil, tC, tRet, tRetN, tNext, tAsg, gName, tDrop, tOp, tUn, tAug, ipI, tPar, tIf, tAndV, tOrV, tNotV, tChain, tNever, rI0, rI, rU, L2.start, cxK, List.map_cons, List.map_nil, List.length_cons, List.length_nil, Nat.reduceAdd, Nat.reduceSub, List.replicate, List.cons_append, List.nil_append, List.append_nil, List.set_cons_zero, List.set_cons_succ, List.getElem?_cons_zero, List.getElem?_cons_succ, Option.some.injEq, V.int.injEq, V.bl.injEq, exists_eq_left', exists_eq_left, exists_and_left, tFor_eq, iRng1, iRng2, iRng3, iList, iEnum, iZip, iTup, tLst_eq, tTup_eq, rCat_eq, rCatS, rSum, rAppend_eq, rListOf, rSlL_eq, tSl, tNoPart, tPart, tLc_eq, tBM, rIxL, rIxT, min3_eq, rEq_int, rNe_int, min_if, max_if, and_assoc, V.ref.injEq, V.str.injEq, List.cons.injEq, and_true, true_and, ↓reduceIte, Bool.false_eq_true, Bool.not_true, Bool.not_false, Int.reduceToNat, Int.reducePow, Int.reduceAdd, Int.reduceSub, Int.reduceNeg, tVirt, tOff, tFld, sFld_eq, tMake_eq, rTupOf, iStr, rNe_str, rEq_str, rEq_bl, tRaise1, tFmt, tJs, tCallS, WE, wKeep_eq, reduceCtorEq, false_and, and_false, exists_false, or_false, false_or, tIsN, tNotN, decide_true, decide_false, tDictN, wipe, tYes, tDGet]
        exact ⟨_, rd e20 rfl, put_of hD2 e0 h0 (sz_lt (by decide)) rfl⟩
    intro H7 e7 h7
    replace h7 : H7 Dl2 = some (.lst [.str d.name, .int d.least, .int d.greatest, .int d.pace, .int d.gain, .int d.place]) := h7
    have e07 := (e05.trans e6).trans e7
    have hf7 := (e6.trans e7) _ _ hfl
    have fok : ([.str d.name, .int d.least, .int d.greatest, .int d.pace, .int d.gain, .int d.place] : List V).all flatOk = true := by simp [flatOk, sok]
    refine neD_flats (vs := [.str d.name, .int d.least, .int d.greatest, .int d.pace, .int d.gain, .int d.place]) fok (sq_of hf7) (sq_of h7) ⟨_, rfl, ifF rfl ?_⟩
    rw [← hN1]
    clear hN1
    have wne : d.walls ≠ [] := fun z => by have := g.k0; rw [z] at this; exact absurd this (by decide)
    have wlen : d.walls.length < 100000 := by have := g.k4; omega
    have hlen := tw.1
    have k4 := g.k4
    refine cut_eq fun N1 hN1 => ?_
    simp only [tSeq, tIfS, tOr, tAnd, tNot, tB, tTest, tCB, tCall, tCons, tVar, tNil, tC, tRet, tRetN, tNext, tAsg, gName, tDrop, tOp, tUn, tAug, ipI, tPar, tIf, tAndV, tOrV, tNotV, tChain, tNever, rI0, rI, rU, L2.start, cxK, List.map_cons, List.map_nil, List.length_cons, List.length_nil, Nat.reduceAdd, Nat.reduceSub, List.replicate, List.cons_append, List.nil_append, List.append_nil, List.set_cons_zero, List.set_cons_succ, List.getElem?_cons_zero, List.getElem?_cons_succ, Option.some.injEq, V.int.injEq, V.bl.injEq, exists_eq_left', exists_eq_left, exists_and_left, tFor_eq, iRng1, iRng2, iRng3, iList, iEnum, iZip, iTup, tLst_eq, tTup_eq, rCat_eq, rCatS, rSum, rAppend_eq, rListOf, rSlL_eq, tSl, tNoPart, tPart, tLc_eq, tBM, rIxL, rIxT, min3_eq, rEq_int, rNe_int, min_if, max_if, and_assoc, V.ref.injEq, V.str.injEq, List.cons.injEq, and_true, true_and, ↓reduceIte, Bool.false_eq_true, Bool.not_true, Bool.not_false, Int.reduceToNat, Int.reducePow, Int.reduceAdd, Int.reduceSub, Int.reduceNeg, tVirt, tOff, tFld, sFld_eq, tMake_eq, rTupOf, iStr, rNe_str, rEq_str, rEq_bl, tRaise1, tFmt, tJs, tCallS, WE, wKeep_eq, reduceCtorEq, false_and, and_false, exists_false, or_false, false_or, tIsN, tNotN, decide_true, decide_false, tDictN, tDGet]
    refine ⟨_, rd e07 own_kind, ?_⟩
    simp only [tSeq, tIfS, tOr, tAnd, tNot, tB, tTest, tCB, tCall, tCons, tVar, tNil, tC, tRet, tRetN, tNext, tAsg, gName, tDrop, tOp, tUn, tAug, ipI, tPar, tIf, tAndV, tOrV, tNotV, tChain, tNever, rI0, rI, rU, L2.start, cxK, List.map_cons, List.map_nil, List.length_cons, List.length_nil, Nat.reduceAdd, Nat.reduceSub, List.replicate, List.cons_append, List.nil_append, List.append_nil, List.set_cons_zero, List.set_cons_succ, List.getElem?_cons_zero, List.getElem?_cons_succ, Option.some.injEq, V.int.injEq, V.bl.injEq, exists_eq_left', exists_eq_left, exists_and_left, tFor_eq, iRng1, iRng2, iRng3, iList, iEnum, iZip, iTup, tLst_eq, tTup_eq, rCat_eq, rCatS, rSum, rAppend_eq, rListOf, rSlL_eq, tSl, tNoPart, tPart, tLc_eq, tBM, rIxL, rIxT, min3_eq, rEq_int, rNe_int, min_if, max_if, and_assoc, V.ref.injEq, V.str.injEq, List.cons.injEq, and_true, true_and, ↓reduceIte, Bool.false_eq_true, Bool.not_true, Bool.not_false, Int.reduceToNat, Int.reducePow, Int.reduceAdd, Int.reduceSub, Int.reduceNeg, tVirt, tOff, tFld, sFld_eq, tMake_eq, rTupOf, iStr, rNe_str, rEq_str, rEq_bl, tRaise1, tFmt, tJs, tCallS, WE, wKeep_eq, reduceCtorEq, false_and, and_false, exists_false, or_false, false_or, tIsN, tNotN, decide_true, decide_false, tDictN]
    have go0 : ∀ H8, Ex H7 H8 → N1 [some (.ref x), some (.ref a), some (.ref kl), some (.ref Dl), some (.ref fl), some (.int (wideM d)), none, none, none, none, none] H8 := by
      intro H8 e78
      have e08 := e07.trans e78
      rw [← hN1]
      clear hN1
      refine cut_eq fun N1 hN1 => ?_
      simp only [tSeq, tIfS, tOr, tAnd, tNot, tB, tTest, tCB, tCall, tCons, tVar, tNil, tC, tRet, tRetN, tNext, tAsg, gName, tDrop, tOp, tUn, tAug, ipI, tPar, tIf, tAndV, tOrV, tNotV, tChain, tNever, rI0, rI, rU, L2.start, cxK, List.map_cons, List.map_nil, List.length_cons, List.length_nil, Nat.reduceAdd, Nat.reduceSub, List.replicate, List.cons_append, List.nil_append, List.append_nil, List.set_cons_zero, List.set_cons_succ, List.getElem?_cons_zero, List.getElem?_cons_succ, Option.some.injEq, V.int.injEq, V.bl.injEq, exists_eq_left', exists_eq_left, exists_and_left, tFor_eq, iRng1, iRng2, iRng3, iList, iEnum, iZip, iTup, tLst_eq, tTup_eq, rCat_eq, rCatS, rSum, rAppend_eq, rListOf, rSlL_eq, tSl, tNoPart, tPart, tLc_eq, tBM, rIxL, rIxT, min3_eq, rEq_int, rNe_int, min_if, max_if, and_assoc, V.ref.injEq, V.str.injEq, List.cons.injEq, and_true, true_and, ↓reduceIte, Bool.false_eq_true, Bool.not_true, Bool.not_false, Int.reduceToNat, Int.reducePow, Int.reduceAdd, Int.reduceSub, Int.reduceNeg, tVirt, tOff, tFld, sFld_eq, tMake_eq, rTupOf, iStr, rNe_str, rEq_str, rEq_bl, tRaise1, tFmt, tJs, tCallS, WE, wKeep_eq, reduceCtorEq, false_and, and_false, exists_false, or_false, false_or, tIsN, tNotN, decide_true, decide_false, tDictN, tDGet]
      refine ⟨_, rd e08 own_kind, ?_⟩
      simp only [tSeq, tIfS, tOr, tAnd, tNot, tB, tTest, tCB, tCall, tCons, tVar, tNil, tC, tRet, tRetN, tNext, tAsg, gName, tDrop, tOp, tUn, tAug, ipI, tPar, tIf, tAndV, tOrV, tNotV, tChain, tNever, rI0, rI, rU, L2.start, cxK, List.map_cons, List.map_nil, List.length_cons, List.length_nil, Nat.reduceAdd, Nat.reduceSub, List.replicate, List.cons_append, List.nil_append, List.append_nil, List.set_cons_zero, List.set_cons_succ, List.getElem?_cons_zero, List.getElem?_cons_succ, Option.some.injEq, V.int.injEq, V.bl.injEq, exists_eq_left', exists_eq_left, exists_and_left, tFor_eq, iRng1, iRng2, iRng3, iList, iEnum, iZip, iTup, tLst_eq, tTup_eq, rCat_eq, rCatS, rSum, rAppend_eq, rListOf, rSlL_eq, tSl, tNoPart, tPart, tLc_eq, tBM, rIxL, rIxT, min3_eq, rEq_int, rNe_int, min_if, max_if, and_assoc, V.ref.injEq, V.str.injEq, List.cons.injEq, and_true, true_and, ↓reduceIte, Bool.false_eq_true, Bool.not_true, Bool.not_false, Int.reduceToNat, Int.reducePow, Int.reduceAdd, Int.reduceSub, Int.reduceNeg, tVirt, tOff, tFld, sFld_eq, tMake_eq, rTupOf, iStr, rNe_str, rEq_str, rEq_bl, tRaise1, tFmt, tJs, tCallS, WE, wKeep_eq, reduceCtorEq, false_and, and_false, exists_false, or_false, false_or, tIsN, tNotN, decide_true, decide_false, tDictN]
      have go1 : ∀ H9, Ex H8 H9 → N1 [some (.ref x), some (.ref a), some (.ref kl), some (.ref Dl), some (.ref fl), some (.int (wideM d)), some (.int (offM d)), none, none, none, none] H9 := by
        intro H9 e89
        have e09 := e08.trans e89
        rw [← hN1]
        clear hN1
        refine cut_eq fun N1 hN1 => ?_
        simp only [tSeq, tIfS, tOr, tAnd, tNot, tB, tTest, tCB, tCall, tCons, tVar, tNil, tC, tRet, tRetN, tNext, tAsg, gName, tDrop, tOp, tUn, tAug, ipI, tPar, tIf, tAndV, tOrV, tNotV, tChain, tNever, rI0, rI, rU, L2.start, cxK, List.map_cons, List.map_nil, List.length_cons, List.length_nil, Nat.reduceAdd, Nat.reduceSub, List.replicate, List.cons_append, List.nil_append, List.append_nil, List.set_cons_zero, List.set_cons_succ, List.getElem?_cons_zero, List.getElem?_cons_succ, Option.some.injEq, V.int.injEq, V.bl.injEq, exists_eq_left', exists_eq_left, exists_and_left, tFor_eq, iRng1, iRng2, iRng3, iList, iEnum, iZip, iTup, tLst_eq, tTup_eq, rCat_eq, rCatS, rSum, rAppend_eq, rListOf, rSlL_eq, tSl, tNoPart, tPart, tLc_eq, tBM, rIxL, rIxT, min3_eq, rEq_int, rNe_int, min_if, max_if, and_assoc, V.ref.injEq, V.str.injEq, List.cons.injEq, and_true, true_and, ↓reduceIte, Bool.false_eq_true, Bool.not_true, Bool.not_false, Int.reduceToNat, Int.reducePow, Int.reduceAdd, Int.reduceSub, Int.reduceNeg, tVirt, tOff, tFld, sFld_eq, tMake_eq, rTupOf, iStr, rNe_str, rEq_str, rEq_bl, tRaise1, tFmt, tJs, tCallS, WE, wKeep_eq, reduceCtorEq, false_and, and_false, exists_false, or_false, false_or, tIsN, tNotN, decide_true, decide_false, tDictN]
        have im9 := im.mono e09
        refine ⟨_, _, ck_mem cl d.kd, _, _, e09 _ _ h1, is_no_field (by decide +kernel), x, d, rfl, im9, rfl, ?_⟩
        refine ⟨_, _, ck_mem cl d.kd, _, _, e09 _ _ h1, is_no_field (by decide +kernel), x, d, rfl, im9, rfl, ?_⟩
        refine ⟨_, _, ck_mem cl d.kd, _, _, e09 _ _ h1, is_no_field (by decide +kernel), x, d, rfl, im9, rfl, wlen, fun _ => wne, fun G1 f1 => ?_⟩
        have e0a := e09.trans f1
        refine ⟨_, _, ck_mem cl d.kd, _, _, e0a _ _ h1, is_no_field (by decide +kernel), x, d, rfl, im.mono e0a, rfl, wlen, fun _ => wne, fun G2 f2 => ?_⟩
        have e0b := e0a.trans f2
        simp only [tSeq, tIfS, tOr, tAnd, tNot, tB, tTest, tCB, tCall, tCons, tVar, tNil, tC, tRet, tRetN, tNext, tAsg, gName, tDrop, tOp, tUn, tAug, ipI, tPar, tIf, tAndV, tOrV, tNotV, tChain, tNever, rI0, rI, rU, L2.start, cxK, List.map_cons, List.map_nil, List.length_cons, List.length_nil, Nat.reduceAdd, Nat.reduceSub, List.replicate, List.cons_append, List.nil_append, List.append_nil, List.set_cons_zero, List.set_cons_succ, List.getElem?_cons_zero, List.getElem?_cons_succ, Option.some.injEq, V.int.injEq, V.bl.injEq, exists_eq_left', exists_eq_left, exists_and_left, tFor_eq, iRng1, iRng2, iRng3, iList, iEnum, iZip, iTup, tLst_eq, tTup_eq, rCat_eq, rCatS, rSum, rAppend_eq, rListOf, rSlL_eq, tSl, tNoPart, tPart, tLc_eq, tBM, rIxL, rIxT, min3_eq, rEq_int, rNe_int, min_if, max_if, and_assoc, V.ref.injEq, V.str.injEq, List.cons.injEq, and_true, true_and, ↓reduceIte, Bool.false_eq_true, Bool.not_true, Bool.not_false, Int.reduceToNat, Int.reducePow, Int.reduceAdd, Int.reduceSub, Int.reduceNeg, tVirt, tOff, tFld, sFld_eq, tMake_eq, rTupOf, iStr, rNe_str, rEq_str, rEq_bl, tRaise1, tFmt, tJs, tCallS, WE, wKeep_eq, reduceCtorEq, false_and, and_false, exists_false, or_false, false_or, tIsN, tNotN, decide_true, decide_false, tDictN]
        refine ⟨sz_of (by show (4 : Nat) ≤ 100000; decide), new_of fun l1 G3 nl1 f3 hl1 => ?_⟩
        have e0c := e0b.trans f3
        simp only [tSeq, tIfS, tOr, tAnd, tNot, tB, tTest, tCB, tCall, tCons, tVar, tNil, tC, tRet, tRetN, tNext, tAsg, gName, tDrop, tOp, tUn, tAug, ipI, tPar, tIf, tAndV, tOrV, tNotV, tChain, tNever, rI0, rI, rU, L2.start, cxK, List.map_cons, List.map_nil, List.length_cons, List.length_nil, Nat.reduceAdd, Nat.reduceSub, List.replicate, List.cons_append, List.nil_append, List.append_nil, List.set_cons_zero, List.set_cons_succ, List.getElem?_cons_zero, List.getElem?_cons_succ, Option.some.injEq, V.int.injEq, V.bl.injEq, exists_eq_left', exists_eq_left, exists_and_left, tFor_eq, iRng1, iRng2, iRng3, iList, iEnum, iZip, iTup, tLst_eq, tTup_eq, rCat_eq, rCatS, rSum, rAppend_eq, rListOf, rSlL_eq, tSl, tNoPart, tPart, tLc_eq, tBM, rIxL, rIxT, min3_eq, rEq_int, rNe_int, min_if, max_if, and_assoc, V.ref.injEq, V.str.injEq, List.cons.injEq, and_true, true_and, ↓reduceIte, Bool.false_eq_true, Bool.not_true, Bool.not_false, Int.reduceToNat, Int.reducePow, Int.reduceAdd, Int.reduceSub, Int.reduceNeg, tVirt, tOff, tFld, sFld_eq, tMake_eq, rTupOf, iStr, rNe_str, rEq_str, rEq_bl, tRaise1, tFmt, tJs, tCallS, WE, wKeep_eq, reduceCtorEq, false_and, and_false, exists_false, or_false, false_or, tIsN, tNotN, decide_true, decide_false, tDictN, tDGet]
        refine ⟨_, rd e0c own_kind, _, rd e0c own_lane, sz_of (by decide), new_of fun l2 G4 nl2 f4 hl2 => ?_⟩
        have e0d := e0c.trans f4
        have kok : ([.str (kdS d.kd), .int d.lane, .int (wideM d), .int (offM d)] : List V).all flatOk = true := by
          have : PyData.strOk (kdS d.kd) = true := by cases d.kd <;> decide +kernel
          simp [flatOk, this]
        refine neD_flats (vs := [.str (kdS d.kd), .int d.lane, .int (wideM d), .int (offM d)]) kok (sq_of (f4 _ _ hl1)) (sq_of hl2) ⟨_, rfl, ifF rfl ?_⟩
        rw [← hN1]
        clear hN1
        have hfd := ((((e78.trans e89).trans (f1.trans f2)).trans f3).trans f4) _ _ hf7
        refine cut_eq fun N1 hN1 => ?_
        simp only [tSeq, tIfS, tOr, tAnd, tNot, tB, tTest, tCB, tCall, tCons, tVar, tNil, tC, tRet, tRetN, tNext, tAsg, gName, tDrop, tOp, tUn, tAug, ipI, tPar, tIf, tAndV, tOrV, tNotV, tChain, tNever, rI0, rI, rU, L2.start, cxK, List.map_cons, List.map_nil, List.length_cons, List.length_nil, Nat.reduceAdd, Nat.reduceSub, List.replicate, List.cons_append, List.nil_append, List.append_nil, List.set_cons_zero, List.set_cons_succ, List.getElem?_cons_zero, List.getElem?_cons_succ, Option.some.injEq, V.int.injEq, V.bl.injEq, exists_eq_left', exists_eq_left, exists_and_left, tFor_eq, iRng1, iRng2, iRng3, iList, iEnum, iZip, iTup, tLst_eq, tTup_eq, rCat_eq, rCatS, rSum, rAppend_eq, rListOf, rSlL_eq, tSl, tNoPart, tPart, tLc_eq, tBM, rIxL, rIxT, min3_eq, rEq_int, rNe_int, min_if, max_if, and_assoc, V.ref.injEq, V.str.injEq, List.cons.injEq, and_true, true_and, ↓reduceIte, Bool.false_eq_true, Bool.not_true, Bool.not_false, Int.reduceToNat, Int.reducePow, Int.reduceAdd, Int.reduceSub, Int.reduceNeg, tVirt, tOff, tFld, sFld_eq, tMake_eq, rTupOf, iStr, rNe_str, rEq_str, rEq_bl, tRaise1, tFmt, tJs, tCallS, WE, wKeep_eq, reduceCtorEq, false_and, and_false, exists_false, or_false, false_or, tIsN, tNotN, decide_true, decide_false, tDictN, tDGet]
        have iok : ∀ v ∈ ([.int d.least, .int d.greatest, .int d.pace, .int d.gain, .int d.place] : List V), okS v := by
          intro v hv
          simp only [List.mem_cons, List.not_mem_nil, or_false] at hv
          rcases hv with rfl | rfl | rfl | rfl | rfl
          · exact .inl ⟨_, rfl, tl.le⟩
          · exact .inl ⟨_, rfl, tl.gr⟩
          · exact .inl ⟨_, rfl, tl.pa⟩
          · exact .inl ⟨_, rfl, tl.ga⟩
          · exact .inl ⟨_, rfl, tl.pl⟩
        refine ⟨_, rd e0d own_kind, _, rd e0d own_name, sz_of (by decide), new_of fun q1 G5 nq1 f5 hq1 => ⟨_, sq_of (f5 _ _ hfd), new_of fun q2 G6 nq2 f6 hq2 => ?_⟩⟩
        replace hq2 : G6 q2 = some (.lst [.int d.least, .int d.greatest, .int d.pace, .int d.gain, .int d.place]) := hq2
        refine ⟨⟨_, sq_of hq2⟩, fun D3 hD3 => lc_gives (walk_list (xs := [.int d.least, .int d.greatest, .int d.pace, .int d.gain, .int d.place])) (fun k => (([.int d.least, .int d.greatest, .int d.pace, .int d.gain, .int d.place] : List V)[k]?).map fun v => V.str (strV v)) hD3 (fun H' e => sq_of (e _ _ hq2)) ?_ ?_⟩
        · rintro k v H0 H' hi e0 h0 ⟨rfl, hx⟩
          have okv := iok v (List.mem_of_getElem? hx)
          simp only [tSeq, tIfS, tOr, tAnd, tNot, tB, tTest, tCB, tCall, tCons, tVar, tNil, tC, tRet, tRetN, tNext, tAsg, gName, tDrop, tOp, tUn, tAug, ipI, tPar, tIf, tAndV, tOrV, tNotV, tChain, tNever, rI0, rI, rU, L2.start, cxK, List.map_cons, List.map_nil, List.length_cons, List.length_nil, Nat.reduceAdd, Nat.reduceSub, List.replicate, List.cons_append, List.nil_append, List.append_nil, List.set_cons_zero, List.set_cons_succ, List.getElem?_cons_zero, List.getElem?_cons_succ, Option.some.injEq, V.int.injEq, V.bl.injEq, exists_eq_left', exists_eq_left, exists_and_left, tFor_eq, iRng1, iRng2, iRng3, iList, iEnum, iZip, iTup, tLst_eq, tTup_eq, rCat_eq, rCatS, rSum, rAppend_eq, rListOf, rSlL_eq, tSl, tNoPart, tPart, tLc_eq, tBM, rIxL, rIxT, min3_eq, rEq_int, rNe_int, min_if, max_if, and_assoc, V.ref.injEq, V.str.injEq, List.cons.injEq, and_true, true_and, ↓reduceIte, Bool.false_eq_true, Bool.not_true, Bool.not_false, Int.reduceToNat, Int.reducePow, Int.reduceAdd, Int.reduceSub, Int.reduceNeg, tVirt, tOff, tFld, sFld_eq, tMake_eq, rTupOf, iStr, rNe_str, rEq_str, rEq_bl, tRaise1, tFmt, tJs, tCallS, WE, wKeep_eq, reduceCtorEq, false_and, and_false, exists_false, or_false, false_or, tIsN, tNotN, decide_true, decide_false, tDictN, wipe, tYes, rStrA]
          rcases okv with ⟨i, rfl, b⟩ | ⟨s, rfl, b⟩
          · exact .inl ⟨i, rfl, (int_len b).1, put_of hD3 e0 h0 (sz_lt (by have : k < 5 := hi; omega)) (by rw [hx]; rfl)⟩
          · exact .inr ⟨s, rfl, put_of hD3 e0 h0 (sz_lt (by have : k < 5 := hi; omega)) (by rw [hx]; rfl)⟩
        intro G7 f7 hD7
        rw [gives_take, List.take_of_length_le (by show (5 : Nat) ≤ 5; decide)] at hD7
        have e0e := ((e0d.trans f5).trans f6).trans f7
        have hq7 := (f6.trans f7) _ _ hq1
        refine ⟨D3, rfl, _, sq_of hq7, _, sq_of hD7, sz_of (by show (7 : Nat) ≤ 100000; decide), new_of fun q3 G8 nq3 f8 hq3 => ?_⟩
        have e0f := e0e.trans f8
        refine ⟨a, wa, d, rfl, io.mono e0f, tl, fun q4 G9 nq4 f9 hq4 => ⟨q4, rfl, ⟨_, sq_of hq4⟩, fun D5 hD5 => lc_gives (walk_list (xs := tailVs d)) (fun k => ((tailVs d)[k]?).map fun v => V.str (strV v)) hD5 (fun H' e => sq_of (e _ _ hq4)) ?_ ?_⟩⟩
        · rintro k v H0 H' hi e0 h0 ⟨rfl, hx⟩
          have okv := tailVs_ok tl v (List.mem_of_getElem? hx)
          have tll := tailVs_len tl
          simp only [tSeq, tIfS, tOr, tAnd, tNot, tB, tTest, tCB, tCall, tCons, tVar, tNil, tC, tRet, tRetN, tNext, tAsg, gName, tDrop, tOp, tUn, tAug, ipI, tPar, tIf, tAndV, tOrV, tNotV, tChain, tNever, rI0, rI, rU, L2.start, cxK, List.map_cons, List.map_nil, List.length_cons, List.length_nil, Nat.reduceAdd, Nat.reduceSub, List.replicate, List.cons_append, List.nil_append, List.append_nil, List.set_cons_zero, List.set_cons_succ, List.getElem?_cons_zero, List.getElem?_cons_succ, Option.some.injEq, V.int.injEq, V.bl.injEq, exists_eq_left', exists_eq_left, exists_and_left, tFor_eq, iRng1, iRng2, iRng3, iList, iEnum, iZip, iTup, tLst_eq, tTup_eq, rCat_eq, rCatS, rSum, rAppend_eq, rListOf, rSlL_eq, tSl, tNoPart, tPart, tLc_eq, tBM, rIxL, rIxT, min3_eq, rEq_int, rNe_int, min_if, max_if, and_assoc, V.ref.injEq, V.str.injEq, List.cons.injEq, and_true, true_and, ↓reduceIte, Bool.false_eq_true, Bool.not_true, Bool.not_false, Int.reduceToNat, Int.reducePow, Int.reduceAdd, Int.reduceSub, Int.reduceNeg, tVirt, tOff, tFld, sFld_eq, tMake_eq, rTupOf, iStr, rNe_str, rEq_str, rEq_bl, tRaise1, tFmt, tJs, tCallS, WE, wKeep_eq, reduceCtorEq, false_and, and_false, exists_false, or_false, false_or, tIsN, tNotN, decide_true, decide_false, tDictN, wipe, tYes, rStrA]
          rcases okv with ⟨i, rfl, b⟩ | ⟨s, rfl, b⟩
          · exact .inl ⟨i, rfl, (int_len b).1, put_of hD5 e0 h0 (sz_lt (by omega)) (by rw [hx]; rfl)⟩
          · exact .inr ⟨s, rfl, put_of hD5 e0 h0 (sz_lt (by omega)) (by rw [hx]; rfl)⟩
        intro G10 f10 hD10
        rw [gives_take, List.take_of_length_le (Nat.le_refl _)] at hD10
        have e0g := (e0f.trans f9).trans f10
        have tll := tailVs_len tl
        refine ⟨D5, rfl, _, sq_of ((f9.trans f10) _ _ hq3), _, sq_of hD10, sz_of (by rw [List.length_map]; show 7 + (tailVs d).length ≤ 100000; omega), new_of fun q5 G11 nq5 f11 hq5 => ?_⟩
        have e0h := e0g.trans f11
        rw [← hN1]
        clear hN1
        simp only [tSeq, tIfS, tOr, tAnd, tNot, tB, tTest, tCB, tCall, tCons, tVar, tNil, tC, tRet, tRetN, tNext, tAsg, gName, tDrop, tOp, tUn, tAug, ipI, tPar, tIf, tAndV, tOrV, tNotV, tChain, tNever, rI0, rI, rU, L2.start, cxK, List.map_cons, List.map_nil, List.length_cons, List.length_nil, Nat.reduceAdd, Nat.reduceSub, List.replicate, List.cons_append, List.nil_append, List.append_nil, List.set_cons_zero, List.set_cons_succ, List.getElem?_cons_zero, List.getElem?_cons_succ, Option.some.injEq, V.int.injEq, V.bl.injEq, exists_eq_left', exists_eq_left, exists_and_left, tFor_eq, iRng1, iRng2, iRng3, iList, iEnum, iZip, iTup, tLst_eq, tTup_eq, rCat_eq, rCatS, rSum, rAppend_eq, rListOf, rSlL_eq, tSl, tNoPart, tPart, tLc_eq, tBM, rIxL, rIxT, min3_eq, rEq_int, rNe_int, min_if, max_if, and_assoc, V.ref.injEq, V.str.injEq, List.cons.injEq, and_true, true_and, ↓reduceIte, Bool.false_eq_true, Bool.not_true, Bool.not_false, Int.reduceToNat, Int.reducePow, Int.reduceAdd, Int.reduceSub, Int.reduceNeg, tVirt, tOff, tFld, sFld_eq, tMake_eq, rTupOf, iStr, rNe_str, rEq_str, rEq_bl, tRaise1, tFmt, tJs, tCallS, WE, wKeep_eq, reduceCtorEq, false_and, and_false, exists_false, or_false, false_or, tIsN, tNotN, decide_true, decide_false, tDictN, rJoin]
        refine ⟨_, _, ck_mem cl d.kd, _, _, e0h _ _ h1, is_no_field (by decide +kernel), x, d, rfl, im.mono e0h, rfl, tl, fun G12 f12 => ⟨rfl, rowT d, .inl (sq_of ?_), ?_, ?_⟩⟩
        · rw [f12 _ _ hq5, ← rowT_eq]
          simp only [List.map_cons, List.map_append, List.map_map, List.cons_append, List.nil_append]
          rfl
        · have a1 := sum_len iok
          have a2 := sum_len (tailVs_ok tl)
          have a3 := kdS_len d.kd
          have a4 := tl.nm
          rw [← rowT_eq, blank_len]
          simp only [List.map_cons, List.map_append, List.sum_cons, List.sum_append, List.length_cons, List.length_append, List.length_map, List.map_nil, List.sum_nil, List.length_nil] at a1 a2 ⊢
          omega
        · rw [row_words fun _ => wne, rEq_str, decide_eq_true rfl]
          exact q G12 (e0h.trans f12)
      rw [show ("floor" : Str) = kdS .floor from rfl, kdS_inj]
      by_cases cf : d.kd = .floor
      · refine ifT (decide_eq_true cf) ⟨_, rd e08 own_walls, wa, rfl, ⟨_, sq_of (e08 _ _ hw)⟩, fun Dm hDm => lc_gives (walk_list (xs := xs)) (fun k => (d.walls[k]?).map fun w => V.int w.1) hDm (fun H' e => sq_of (e _ _ (e08 _ _ hw))) ?_ ?_⟩
        · rintro k x H0 H' hi e0 h0 ⟨rfl, hx⟩
          obtain ⟨wl, hwl⟩ : ∃ wl, d.walls[k]? = some wl := ⟨d.walls[k]'(by rw [← hlen]; exact hi), List.getElem?_eq_getElem (by rw [← hlen]; exact hi)⟩
          obtain ⟨b, rfl, hb⟩ := tw.2 k x wl hx hwl
          have sb := st_of (K := K) (e0 _ _ (e08 _ _ hb))
          simp only [tSeq, tIfS, tOr, tAnd, tNot, tB, tTest, tCB, tCall, tCons, tVar, tNil, tC, tRet, tRetN, tNext, tAsg, gName, tDrop, tOp, tUn, tAug, ipI, tPar, tIf, tAndV, tOrV, tNotV, tChain, tNever, rI0, rI, rU, L2.start, cxK, List.map_cons, List.map_nil, List.length_cons, List.length_nil, Nat.reduceAdd, Nat.reduceSub, List.replicate, List.cons_append, List.nil_append, List.append_nil, List.set_cons_zero, List.set_cons_succ, List.getElem?_cons_zero, List.getElem?_cons_succ, Option.some.injEq, V.int.injEq, V.bl.injEq, exists_eq_left', exists_eq_left, exists_and_left, tFor_eq, iRng1, iRng2, iRng3, iList, iEnum, iZip, iTup, tLst_eq, tTup_eq, rCat_eq, rCatS, rSum, rAppend_eq, rListOf, rSlL_eq, tSl, tNoPart, tPart, tLc_eq, tBM, rIxL, rIxT, min3_eq, rEq_int, rNe_int, min_if, max_if, and_assoc, V.ref.injEq, V.str.injEq, List.cons.injEq, and_true, true_and, ↓reduceIte, Bool.false_eq_true, Bool.not_true, Bool.not_false, Int.reduceToNat, Int.reducePow, Int.reduceAdd, Int.reduceSub, Int.reduceNeg, tVirt, tOff, tFld, sFld_eq, tMake_eq, rTupOf, iStr, rNe_str, rEq_str, rEq_bl, tRaise1, tFmt, tJs, tCallS, WE, wKeep_eq, reduceCtorEq, false_and, and_false, exists_false, or_false, false_or, tIsN, tNotN, decide_true, decide_false, tDictN, wipe, tYes]
          exact ⟨_, sb, _, rfl, put_of hDm e0 h0 (sz_lt (by omega)) (by rw [hwl]; rfl)⟩
        · intro H9 e9 h9
          rw [gives_take, List.take_of_length_le (by omega)] at h9
          have e2' : d.walls.map (fun w => V.int w.1) = (d.walls.map fun w => w.1).map V.int := by
            rw [List.map_map]
            rfl
          rw [e2'] at h9
          refine ⟨_, _, rfl, sq_of h9, ?_, fun mx m1 m2 => ?_⟩
          · rw [List.length_map]
            exact List.length_pos_iff.mpr wne
          · have em : offM d = mx := by
              unfold offM
              rw [cf]
              exact max_is m1 m2
            rw [← em]
            exact go1 H9 e9
      · refine ifF (decide_eq_false cf) (by rw [show (0 : Int) = offM d by unfold offM; split <;> first | rfl | (rename_i z; exact absurd z cf)]; exact go1 H8 (Ex.refl _))
    rw [show ("floor" : Str) = kdS .floor from rfl, kdS_inj]
    by_cases cf : d.kd = .floor
    · refine ifT (decide_eq_true cf) ⟨_, rd e07 own_walls, wa, rfl, ⟨_, sq_of (e07 _ _ hw)⟩, fun Dm hDm => lc_gives (walk_list (xs := xs)) (fun k => (d.walls[k]?).map fun w => V.int w.2.1) hDm (fun H' e => sq_of (e _ _ (e07 _ _ hw))) ?_ ?_⟩
      · rintro k x H0 H' hi e0 h0 ⟨rfl, hx⟩
        obtain ⟨wl, hwl⟩ : ∃ wl, d.walls[k]? = some wl := ⟨d.walls[k]'(by rw [← hlen]; exact hi), List.getElem?_eq_getElem (by rw [← hlen]; exact hi)⟩
        obtain ⟨b, rfl, hb⟩ := tw.2 k x wl hx hwl
        have sb := st_of (K := K) (e0 _ _ (e07 _ _ hb))
        simp only [tSeq, tIfS, tOr, tAnd, tNot, tB, tTest, tCB, tCall, tCons, tVar, tNil, tC, tRet, tRetN, tNext, tAsg, gName, tDrop, tOp, tUn, tAug, ipI, tPar, tIf, tAndV, tOrV, tNotV, tChain, tNever, rI0, rI, rU, L2.start, cxK, List.map_cons, List.map_nil, List.length_cons, List.length_nil, Nat.reduceAdd, Nat.reduceSub, List.replicate, List.cons_append, List.nil_append, List.append_nil, List.set_cons_zero, List.set_cons_succ, List.getElem?_cons_zero, List.getElem?_cons_succ, Option.some.injEq, V.int.injEq, V.bl.injEq, exists_eq_left', exists_eq_left, exists_and_left, tFor_eq, iRng1, iRng2, iRng3, iList, iEnum, iZip, iTup, tLst_eq, tTup_eq, rCat_eq, rCatS, rSum, rAppend_eq, rListOf, rSlL_eq, tSl, tNoPart, tPart, tLc_eq, tBM, rIxL, rIxT, min3_eq, rEq_int, rNe_int, min_if, max_if, and_assoc, V.ref.injEq, V.str.injEq, List.cons.injEq, and_true, true_and, ↓reduceIte, Bool.false_eq_true, Bool.not_true, Bool.not_false, Int.reduceToNat, Int.reducePow, Int.reduceAdd, Int.reduceSub, Int.reduceNeg, tVirt, tOff, tFld, sFld_eq, tMake_eq, rTupOf, iStr, rNe_str, rEq_str, rEq_bl, tRaise1, tFmt, tJs, tCallS, WE, wKeep_eq, reduceCtorEq, false_and, and_false, exists_false, or_false, false_or, tIsN, tNotN, decide_true, decide_false, tDictN, wipe, tYes]
        exact ⟨_, sb, _, rfl, put_of hDm e0 h0 (sz_lt (by omega)) (by rw [hwl]; rfl)⟩
      · intro H9 e9 h9
        rw [gives_take, List.take_of_length_le (by omega)] at h9
        have e2' : d.walls.map (fun w => V.int w.2.1) = (d.walls.map fun w => w.2.1).map V.int := by
          rw [List.map_map]
          rfl
        rw [e2'] at h9
        refine ⟨_, _, rfl, sq_of h9, ?_, fun mx m1 m2 => ?_⟩
        · rw [List.length_map]
          exact List.length_pos_iff.mpr wne
        · have em : wideM d = mx := by
            unfold wideM
            rw [cf]
            exact max_is m1 m2
          rw [← em]
          exact go0 H9 e9
    · refine ifF (decide_eq_false cf) ⟨_, rd e07 own_wide, by rw [show d.wide = wideM d by unfold wideM; split <;> first | rfl | (rename_i z; exact absurd z cf)]; exact go0 H7 (Ex.refl _)⟩
end
end FW

set_option Elab.async false
set_option linter.all false
set_option maxRecDepth 100000
set_option maxHeartbeats 4000000
namespace L2
open PySem PySem.Spec PyProof.Rows Evt
theorem loop_tup {K : PySem.W.Frag} {a : Addr} {xs : List V} {g : TG} {tb : TS} {D : Ends} {σ : St} {H : Hp} (Pv : Nat → St → Hp → Prop) (h0 : Pv 0 σ H) (hl : ∀ i σ H, Pv i σ H → SqT K H a xs) (hs : ∀ i x σ H, xs[i]? = some x → Pv i σ H → g x σ H fun σ2 H2 => tb { D with nx := Pv (i + 1), ct := Pv (i + 1), bk := D.nx } σ2 H2) (hd : ∀ σ H, Pv xs.length σ H → D.nx σ H) :
    LoopI (Itt K a) g tb D σ H := for_it (walk_tup (xs := xs)) Pv h0 (fun i σ H _ p => hl i σ H p) (fun i x σ H H' hi p y => by obtain ⟨rfl, e⟩ := y; exact hs i x σ _ e p) hd
end L2
namespace FW
open PySem PySem.Spec PyProof.Rows L2 Evt
section
variable {P : Program} {w : World} {K : PySem.W.Frag} {mg : Str → Option Value} {base : Heap} {cl : Nat → Addr}
def sp_boxes (K : PySem.W.Frag) (cl : Nat → Addr) (CB : Addr) : Kd → Sp := fun k vs H Q E => ∃ a x, vs = [.ref a, x] ∧ sp_taken K cl CB k [.ref a, x, x] H Q E
theorem GoodD.small {d : Md} (g : GoodD d) : Small d := by
  obtain ⟨a1, a2, a3, a4, a5, a6, a7, a8, a9, b1, b2, b3, b4, b5, b6, b7, b8, b9, c1, c2, c3, c4⟩ := g
  exact ⟨by omega, by omega, by omega⟩
def sp__law_place_refused (cl : Nat → Addr) : Sp := fun vs H Q _ => ∃ (x : Addr) (d : Md) (v : V) (good : Int), vs = [.ref x, v, .int good] ∧ IsM cl H x d ∧ Small d ∧ Sv' H v ∧ inB d v = false ∧ RetV (.bl true) H Q
theorem ok__law_place_refused (B : Bt mg cl) (EE : Exs K mg cl) (F__law_classes : Fn P w K mg base "_law_classes" ["_law_caught"] CX0 1 (sp__law_classes (cl 1) (cl 2))) (V_boxes : Virt P w K mg base (L2.CX P w) 5 "boxes" ["self", "place"] (ck4 cl) (sp_boxes K cl (cl 1))) (V_taken : Virt P w K mg base (L2.CX P w) 4 "taken" ["self", "ahead", "place"] (ck4 cl) (sp_taken K cl (cl 1))) {f : Addr} {fd : FuncData} (F : Fun K "_law_place_refused" "_law_place_refused" s__law_place_refused f fd) : FnOk P w K mg base CX0 8 f fd ["_law_machine_here", "_law_place", "_law_good"] (sp__law_place_refused cl) := by
  refine F.ok sc__law_place_refused (fun vs H Q E h => ?_) (fun cdv A outer s H vs Q E hr h => ?_)
  · obtain ⟨x, d, v, good, rfl, _⟩ := h
    rfl
  · obtain ⟨x, d, v, good, rfl, im, sm, sv, nb, q⟩ := h
    refine ⟨_, (pss_cons (ps_set (i := 3) sc__law_place_refused.nd rfl (.inl rfl) (pe_lst pa_nil))
      (pss_cons (ps_for PassesOwn.never rfl (pi_range1 (by rfl) B.b_range (pa_cons pe_int pa_nil)) (pg_name (i := 4) sc__law_place_refused.nd rfl (.inl rfl))
        (pss_cons (ps_set (i := 5) sc__law_place_refused.nd rfl (.inl rfl) pe_non)
      (pss_cons (ps_try_keep (i := 6) (j := 5) (tb := _) rfl rfl rfl sc__law_place_refused.nd rfl rfl rfl rfl (.inl rfl) ⟨rfl, by decide, .inl B.c_StageError⟩ (fun W pn xe tk _ =>
        (pss_one (ps_if (pt_cmpR op_eq (pv 4) pe_int (nomark _))
        (pss_one (ps_expr (pe_virt V_boxes (hr.mono (by decide)) (fun σ => passAt tk σ) (pv 0) (pa_cons (pv 1) pa_nil))))
        (pss_one (ps_if (pt_cmpR op_eq (pv 4) pe_int (nomark _))
        (pss_one (ps_expr (pe_virt V_taken (hr.mono (by decide)) (fun σ => passAt tk σ) (pv 0) (pa_cons (pv 1) (pa_cons (pv 2) pa_nil)))))
        (pss_one (ps_expr (pe_virt V_taken (hr.mono (by decide)) (fun σ => passAt tk σ) (pv 0) (pa_cons (pv 2) (pa_cons (pv 1) pa_nil)))))))))))
      (pss_one (ps_expr (pe_bm PySem.F.plainAttrs_list PySem.F.slot_list_append PySem.F.type_list_append mt_append (pv 3) (pa_cons (pe_fn F__law_classes (hr.mono (by decide)) (pa_cons (pv 5) pa_nil)) pa_nil)))))))
      (pss_one (ps_ret (pe_cmpR (k_eqD (K := K) rfl hr.units) (pv 3) (pe_op op_repE (pe_lst (pa_cons pe_str pa_nil)) pe_int) (nomark _)))))), ?_⟩
    obtain ⟨dx, t, h1, h2⟩ := id im
    refine cut_eq fun N1 hN1 => ?_
    simp only [tSeq, tIfS, tOr, tAnd, tNot, tB, tTest, tCB, tCall, tCons, tVar, tNil, tC, tRet, tRetN, tNext, tAsg, gName, tDrop, tOp, tUn, tAug, ipI, tPar, tIf, tAndV, tOrV, tNotV, tChain, tNever, rI0, rI, rU, L2.start, cxK, List.map_cons, List.map_nil, List.length_cons, List.length_nil, Nat.reduceAdd, Nat.reduceSub, List.replicate, List.cons_append, List.nil_append, List.append_nil, List.set_cons_zero, List.set_cons_succ, List.getElem?_cons_zero, List.getElem?_cons_succ, Option.some.injEq, V.int.injEq, V.bl.injEq, exists_eq_left', exists_eq_left, exists_and_left, tFor_eq, iRng1, iRng2, iRng3, iList, iEnum, iZip, iTup, tLst_eq, tTup_eq, rCat_eq, rCatS, rSum, rAppend_eq, rListOf, rSlL_eq, tSl, tNoPart, tPart, tLc_eq, tBM, rIxL, rIxT, min3_eq, rEq_int, rNe_int, min_if, max_if, and_assoc, V.ref.injEq, V.str.injEq, List.cons.injEq, and_true, true_and, ↓reduceIte, Bool.false_eq_true, Bool.not_true, Bool.not_false, Int.reduceToNat, Int.reducePow, Int.reduceAdd, Int.reduceSub, Int.reduceNeg, tVirt, tOff, tFld, sFld_eq, tMake_eq, rTupOf, iStr, rNe_str, rEq_str, rEq_bl, tRaise1, tFmt, tJs, tCallS, WE, wKeep_eq, reduceCtorEq, false_and, and_false, exists_false, or_false, false_or, tIsN, tNotN, decide_true, decide_false, tDictN]
    refine ⟨Nat.zero_le _, new_of fun wl H1 nwl e1 hwl => ?_⟩
    rw [← hN1]
    clear hN1
    refine cut_eq fun N1 hN1 => ?_
    simp only [tSeq, tIfS, tOr, tAnd, tNot, tB, tTest, tCB, tCall, tCons, tVar, tNil, tC, tRet, tRetN, tNext, tAsg, gName, tDrop, tOp, tUn, tAug, ipI, tPar, tIf, tAndV, tOrV, tNotV, tChain, tNever, rI0, rI, rU, L2.start, cxK, List.map_cons, List.map_nil, List.length_cons, List.length_nil, Nat.reduceAdd, Nat.reduceSub, List.replicate, List.cons_append, List.nil_append, List.append_nil, List.set_cons_zero, List.set_cons_succ, List.getElem?_cons_zero, List.getElem?_cons_succ, Option.some.injEq, V.int.injEq, V.bl.injEq, exists_eq_left', exists_eq_left, exists_and_left, tFor_eq, iRng1, iRng2, iRng3, iList, iEnum, iZip, iTup, tLst_eq, tTup_eq, rCat_eq, rCatS, rSum, rAppend_eq, rListOf, rSlL_eq, tSl, tNoPart, tPart, tLc_eq, tBM, rIxL, rIxT, min3_eq, rEq_int, rNe_int, min_if, max_if, and_assoc, V.ref.injEq, V.str.injEq, List.cons.injEq, and_true, true_and, ↓reduceIte, Bool.false_eq_true, Bool.not_true, Bool.not_false, Int.reduceToNat, Int.reducePow, Int.reduceAdd, Int.reduceSub, Int.reduceNeg, tVirt, tOff, tFld, sFld_eq, tMake_eq, rTupOf, iStr, rNe_str, rEq_str, rEq_bl, tRaise1, tFmt, tJs, tCallS, WE, wKeep_eq, reduceCtorEq, false_and, and_false, exists_false, or_false, false_or, tIsN, tNotN, decide_true, decide_false, tDictN]
    refine ⟨by decide, by decide, ?_⟩
    obtain ⟨Pv, hPv⟩ : ∃ Pv : Nat → L2.St → Hp → Prop, ∀ k σ H', Pv k σ H' ↔ (∃ o4 o5, σ = [some (.ref x), some v, some (.int good), some (.ref wl), o4, o5, none]) ∧ Ex H H' ∧ H' wl = some (.lst (List.replicate k (.str "number "))) := ⟨_, fun _ _ _ => Iff.rfl⟩
    refine loop_range (n := 3) Pv ((hPv _ _ _).mpr ⟨⟨_, _, rfl⟩, e1, hwl⟩) ?_ ?_
    · intro k σ H2 hk hp
      obtain ⟨⟨o4, o5, rfl⟩, e2, h2'⟩ := (hPv _ _ _).mp hp
      have h1' := e2 _ _ h1
      have im2 := im.mono e2
      have kv : Known K H2 v := sv.kn e2
      have kg : ∀ {H' : Hp}, Known K H' (.int good) := .inl ⟨_, rfl⟩
      refine cut_eq fun N2 hN2 => ?_
      simp only [tSeq, tIfS, tOr, tAnd, tNot, tB, tTest, tCB, tCall, tCons, tVar, tNil, tC, tRet, tRetN, tNext, tAsg, gName, tDrop, tOp, tUn, tAug, ipI, tPar, tIf, tAndV, tOrV, tNotV, tChain, tNever, rI0, rI, rU, L2.start, cxK, List.map_cons, List.map_nil, List.length_cons, List.length_nil, Nat.reduceAdd, Nat.reduceSub, List.replicate, List.cons_append, List.nil_append, List.append_nil, List.set_cons_zero, List.set_cons_succ, List.getElem?_cons_zero, List.getElem?_cons_succ, Option.some.injEq, V.int.injEq, V.bl.injEq, exists_eq_left', exists_eq_left, exists_and_left, tFor_eq, iRng1, iRng2, iRng3, iList, iEnum, iZip, iTup, tLst_eq, tTup_eq, rCat_eq, rCatS, rSum, rAppend_eq, rListOf, rSlL_eq, tSl, tNoPart, tPart, tLc_eq, tBM, rIxL, rIxT, min3_eq, rEq_int, rNe_int, min_if, max_if, and_assoc, V.ref.injEq, V.str.injEq, List.cons.injEq, and_true, true_and, ↓reduceIte, Bool.false_eq_true, Bool.not_true, Bool.not_false, Int.reduceToNat, Int.reducePow, Int.reduceAdd, Int.reduceSub, Int.reduceNeg, tVirt, tOff, tFld, sFld_eq, tMake_eq, rTupOf, iStr, rNe_str, rEq_str, rEq_bl, tRaise1, tFmt, tJs, tCallS, WE, wKeep_eq, reduceCtorEq, false_and, and_false, exists_false, or_false, false_or, tIsN, tNotN, decide_true, decide_false, tDictN]
      rw [← hN2]
      clear hN2
      refine cut_eq fun N2 hN2 => ?_
      simp only [tSeq, tIfS, tOr, tAnd, tNot, tB, tTest, tCB, tCall, tCons, tVar, tNil, tC, tRet, tRetN, tNext, tAsg, gName, tDrop, tOp, tUn, tAug, ipI, tPar, tIf, tAndV, tOrV, tNotV, tChain, tNever, rI0, rI, rU, L2.start, cxK, List.map_cons, List.map_nil, List.length_cons, List.length_nil, Nat.reduceAdd, Nat.reduceSub, List.replicate, List.cons_append, List.nil_append, List.append_nil, List.set_cons_zero, List.set_cons_succ, List.getElem?_cons_zero, List.getElem?_cons_succ, Option.some.injEq, V.int.injEq, V.bl.injEq, exists_eq_left', exists_eq_left, exists_and_left, tFor_eq, iRng1, iRng2, iRng3, iList, iEnum, iZip, iTup, tLst_eq, tTup_eq, rCat_eq, rCatS, rSum, rAppend_eq, rListOf, rSlL_eq, tSl, tNoPart, tPart, tLc_eq, tBM, rIxL, rIxT, min3_eq, rEq_int, rNe_int, min_if, max_if, and_assoc, V.ref.injEq, V.str.injEq, List.cons.injEq, and_true, true_and, ↓reduceIte, Bool.false_eq_true, Bool.not_true, Bool.not_false, Int.reduceToNat, Int.reducePow, Int.reduceAdd, Int.reduceSub, Int.reduceNeg, tVirt, tOff, tFld, sFld_eq, tMake_eq, rTupOf, iStr, rNe_str, rEq_str, rEq_bl, tRaise1, tFmt, tJs, tCallS, WE, wKeep_eq, reduceCtorEq, false_and, and_false, exists_false, or_false, false_or, tIsN, tNotN, decide_true, decide_false, tDictN]
      have exn : WE (wKeep K (Value.ref (cl 0)) 6 5 { nx := N2, rt := Q, bk := N1, ct := Pv (k + 1) }) [some (.ref x), some v, some (.int good), some (.ref wl), some (.int (0 + (k : Int))), some .non, none] (.ref (cl 1)) none H2 := by
        simp only [tSeq, tIfS, tOr, tAnd, tNot, tB, tTest, tCB, tCall, tCons, tVar, tNil, tC, tRet, tRetN, tNext, tAsg, gName, tDrop, tOp, tUn, tAug, ipI, tPar, tIf, tAndV, tOrV, tNotV, tChain, tNever, rI0, rI, rU, L2.start, cxK, List.map_cons, List.map_nil, List.length_cons, List.length_nil, Nat.reduceAdd, Nat.reduceSub, List.replicate, List.cons_append, List.nil_append, List.append_nil, List.set_cons_zero, List.set_cons_succ, List.getElem?_cons_zero, List.getElem?_cons_succ, Option.some.injEq, V.int.injEq, V.bl.injEq, exists_eq_left', exists_eq_left, exists_and_left, tFor_eq, iRng1, iRng2, iRng3, iList, iEnum, iZip, iTup, tLst_eq, tTup_eq, rCat_eq, rCatS, rSum, rAppend_eq, rListOf, rSlL_eq, tSl, tNoPart, tPart, tLc_eq, tBM, rIxL, rIxT, min3_eq, rEq_int, rNe_int, min_if, max_if, and_assoc, V.ref.injEq, V.str.injEq, List.cons.injEq, and_true, true_and, ↓reduceIte, Bool.false_eq_true, Bool.not_true, Bool.not_false, Int.reduceToNat, Int.reducePow, Int.reduceAdd, Int.reduceSub, Int.reduceNeg, tVirt, tOff, tFld, sFld_eq, tMake_eq, rTupOf, iStr, rNe_str, rEq_str, rEq_bl, tRaise1, tFmt, tJs, tCallS, WE, wKeep_eq, reduceCtorEq, false_and, and_false, exists_false, or_false, false_or, tIsN, tNotN, decide_true, decide_false, tDictN]
        refine ⟨EE.BadNumber.em, newD_of fun a H3 na e3 h3 => ?_⟩
        rw [← hN2]
        clear hN2
        simp only [tSeq, tIfS, tOr, tAnd, tNot, tB, tTest, tCB, tCall, tCons, tVar, tNil, tC, tRet, tRetN, tNext, tAsg, gName, tDrop, tOp, tUn, tAug, ipI, tPar, tIf, tAndV, tOrV, tNotV, tChain, tNever, rI0, rI, rU, L2.start, cxK, List.map_cons, List.map_nil, List.length_cons, List.length_nil, Nat.reduceAdd, Nat.reduceSub, List.replicate, List.cons_append, List.nil_append, List.append_nil, List.set_cons_zero, List.set_cons_succ, List.getElem?_cons_zero, List.getElem?_cons_succ, Option.some.injEq, V.int.injEq, V.bl.injEq, exists_eq_left', exists_eq_left, exists_and_left, tFor_eq, iRng1, iRng2, iRng3, iList, iEnum, iZip, iTup, tLst_eq, tTup_eq, rCat_eq, rCatS, rSum, rAppend_eq, rListOf, rSlL_eq, tSl, tNoPart, tPart, tLc_eq, tBM, rIxL, rIxT, min3_eq, rEq_int, rNe_int, min_if, max_if, and_assoc, V.ref.injEq, V.str.injEq, List.cons.injEq, and_true, true_and, ↓reduceIte, Bool.false_eq_true, Bool.not_true, Bool.not_false, Int.reduceToNat, Int.reducePow, Int.reduceAdd, Int.reduceSub, Int.reduceNeg, tVirt, tOff, tFld, sFld_eq, tMake_eq, rTupOf, iStr, rNe_str, rEq_str, rEq_bl, tRaise1, tFmt, tJs, tCallS, WE, wKeep_eq, reduceCtorEq, false_and, and_false, exists_false, or_false, false_or, tIsN, tNotN, decide_true, decide_false, tDictN]
        refine ⟨.inl ⟨rfl, _, sq_of (e3 _ _ h2')⟩, a, _, _, rfl, h3, .inl ⟨rfl, rfl⟩, fun H4 e4 => ⟨_, (e3.trans e4) _ _ h2', sz_lt (by rw [List.length_replicate]; omega), chg_of fun H5 k5 h5 => ?_⟩⟩
        refine (hPv _ _ _).mpr ⟨⟨_, _, rfl⟩, ex_chg (e2.trans (e3.trans e4)) nwl k5, ?_⟩
        rw [h5, List.replicate_succ']
      have no : ∀ i : Int, v = .int i → d.least ≤ i → i ≤ d.greatest → False := fun i e l1 l2 => by
        rw [e] at nb
        have z : (decide (d.least ≤ i) && decide (i ≤ d.greatest)) = false := nb
        rw [decide_eq_true l1, decide_eq_true l2] at z
        cases z
      by_cases k0 : k = 0
      · refine ifT (decide_eq_true (by omega)) ⟨_, _, ck_mem cl d.kd, _, _, h1', is_no_field (by decide +kernel), x, v, rfl, x, d, v, v, rfl, im2, rfl, sm, kv, kv, fun _ => exn, fun i j ei _ l1 l2 => (no i ei l1 l2).elim⟩
      refine ifF (decide_eq_false (by omega)) ?_
      by_cases k1 : k = 1
      · refine ifT (decide_eq_true (by omega)) ⟨_, _, ck_mem cl d.kd, _, _, h1', is_no_field (by decide +kernel), x, d, v, .int good, rfl, im2, rfl, sm, kv, kg, fun _ => exn, fun i j ei _ l1 l2 => (no i ei l1 l2).elim⟩
      refine ifF (decide_eq_false (by omega)) ?_
      exact ⟨_, _, ck_mem cl d.kd, _, _, h1', is_no_field (by decide +kernel), x, d, .int good, v, rfl, im2, rfl, sm, kg, kv, fun _ => exn, fun i j _ ej _ _ l1 l2 => (no j ej l1 l2).elim⟩
    · intro σ H2 hp
      obtain ⟨⟨o4, o5, rfl⟩, e2, h2'⟩ := (hPv _ _ _).mp hp
      show N1 _ H2
      rw [← hN1]
      clear hN1
      simp only [tSeq, tIfS, tOr, tAnd, tNot, tB, tTest, tCB, tCall, tCons, tVar, tNil, tC, tRet, tRetN, tNext, tAsg, gName, tDrop, tOp, tUn, tAug, ipI, tPar, tIf, tAndV, tOrV, tNotV, tChain, tNever, rI0, rI, rU, L2.start, cxK, List.map_cons, List.map_nil, List.length_cons, List.length_nil, Nat.reduceAdd, Nat.reduceSub, List.replicate, List.cons_append, List.nil_append, List.append_nil, List.set_cons_zero, List.set_cons_succ, List.getElem?_cons_zero, List.getElem?_cons_succ, Option.some.injEq, V.int.injEq, V.bl.injEq, exists_eq_left', exists_eq_left, exists_and_left, tFor_eq, iRng1, iRng2, iRng3, iList, iEnum, iZip, iTup, tLst_eq, tTup_eq, rCat_eq, rCatS, rSum, rAppend_eq, rListOf, rSlL_eq, tSl, tNoPart, tPart, tLc_eq, tBM, rIxL, rIxT, min3_eq, rEq_int, rNe_int, min_if, max_if, and_assoc, V.ref.injEq, V.str.injEq, List.cons.injEq, and_true, true_and, ↓reduceIte, Bool.false_eq_true, Bool.not_true, Bool.not_false, Int.reduceToNat, Int.reducePow, Int.reduceAdd, Int.reduceSub, Int.reduceNeg, tVirt, tOff, tFld, sFld_eq, tMake_eq, rTupOf, iStr, rNe_str, rEq_str, rEq_bl, tRaise1, tFmt, tJs, tCallS, WE, wKeep_eq, reduceCtorEq, false_and, and_false, exists_false, or_false, false_or, tIsN, tNotN, decide_true, decide_false, tDictN, rRepE]
      refine ⟨sz_of (by decide), new_of fun p1 H3 np1 e3 hp1 => ⟨_, hp1, by decide, by decide, sz_of (by decide), new_of fun p2 H4 np2 e4 hp2 => ?_⟩⟩
      refine eqD_flats (vs := List.replicate 3 (.str "number ")) (by decide +kernel) (sq_of ((e3.trans e4) _ _ h2')) (sq_of hp2) (q H4 (e2.trans (e3.trans e4)))
theorem takes_sym (d : Md) (a b : Int) : takes d a b = takes d (min a b) (max a b) := by
  unfold takes
  have e1 : min (min a b) (max a b) = min a b := by omega
  have e2 : far (min a b) (max a b) = far a b := by
    unfold far
    split <;> split <;> omega
  rw [e1, e2]
theorem takes_len (d : Md) (a b : Int) : (takes d a b).length ≤ 1 + d.walls.length := by
  unfold takes
  split
  · show 1 ≤ _
    omega
  · show 1 ≤ _
    omega
  · split
    · show 1 ≤ _
      omega
    · exact Nat.zero_le _
  · rw [List.length_map]
    omega
def sp__law_boxes_right (cl : Nat → Addr) : Sp := fun vs H Q _ => ∃ (x a wa : Addr) (d : Md) (draw : Int), vs = [.ref x, .ref a, .int draw] ∧ IsM cl H x d ∧ IsO H a wa d ∧ GoodD d ∧ RetV (.bl true) H Q
theorem ok__law_boxes_right (B : Bt mg cl) (F__law_takes : Fn P w K mg base "_law_takes" ["_law_own", "_law_low", "_law_high"] CX0 1 sp__law_takes) (F__law_place_refused : Fn P w K mg base "_law_place_refused" ["_law_machine_here", "_law_place", "_law_good"] CX0 8 (sp__law_place_refused cl)) (V_boxes : Virt P w K mg base (L2.CX P w) 5 "boxes" ["self", "place"] (ck4 cl) (sp_boxes K cl (cl 1))) (V_taken : Virt P w K mg base (L2.CX P w) 4 "taken" ["self", "ahead", "place"] (ck4 cl) (sp_taken K cl (cl 1))) {f : Addr} {fd : FuncData} (F : Fun K "_law_boxes_right" "_law_boxes_right" s__law_boxes_right f fd) : FnOk P w K mg base CX0 9 f fd ["_law_machine_here", "_law_own", "_law_draw_here"] (sp__law_boxes_right cl) := by
  refine F.ok sc__law_boxes_right (fun vs H Q E h => ?_) (fun cdv A outer s H vs Q E hr h => ?_)
  · obtain ⟨x, a, wa, d, draw, rfl, _⟩ := h
    rfl
  · obtain ⟨x, a, wa, d, draw, rfl, im, io, g, q⟩ := h
    refine ⟨_, (pss_cons (ps_set (i := 3) sc__law_boxes_right.nd rfl (.inl rfl) (pe_op op_add (pe_dget (hu_of hr) (pv 1) pe_str (fun _ _ => rfl)) (pe_op op_mod (pv 2) (pe_op op_add (pe_op op_sub (pe_dget (hu_of hr) (pv 1) pe_str (fun _ _ => rfl)) (pe_dget (hu_of hr) (pv 1) pe_str (fun _ _ => rfl))) pe_int))))
      (pss_cons (ps_set (i := 4) sc__law_boxes_right.nd rfl (.inl rfl) (pe_lst (pa_cons (pe_dget (hu_of hr) (pv 1) pe_str (fun _ _ => rfl)) (pa_cons (pe_dget (hu_of hr) (pv 1) pe_str (fun _ _ => rfl)) (pa_cons (pe_dget (hu_of hr) (pv 1) pe_str (fun _ _ => rfl)) (pa_cons (pv 3) pa_nil))))))
      (pss_cons (ps_for PassesOwn.never rfl (k_pil (K := K) rfl (pv 4)) (pg_name (i := 5) sc__law_boxes_right.nd rfl (.inl rfl))
        (pss_cons (ps_set (i := 6) sc__law_boxes_right.nd rfl (.inl rfl) (pe_virt V_boxes (hr.mono (by decide)) (fun σ => passAt takes0 σ) (pv 0) (pa_cons (pv 5) pa_nil)))
      (pss_cons (ps_if (PW.pt (pw_or (pt_not (pt_val (pe_callB (k_isY (K := K) rfl) (by rfl) B.b_isinstance (by decide +kernel) (pa_cons (pv 6) (pa_cons (pe_bltn (v := .ty "list") (by rfl) B.b_list (by decide +kernel) rfl) pa_nil))))) (pw_or1 (pt_cmpR (k_neD (K := K) rfl hr.units) (pv 6) (pe_fn F__law_takes (hr.mono (by decide)) (pa_cons (pv 1) (pa_cons (pv 5) (pa_cons (pv 5) pa_nil)))) (nomark _)))))
        (pss_one (ps_ret pe_bl))
        pss_nil)
      (pss_cons (ps_expr (pe_bm PySem.F.plainAttrs_list PySem.F.slot_list_append PySem.F.type_list_append mt_append (pv 6) (pa_cons pe_non pa_nil)))
      (pss_cons (ps_set (i := 7) sc__law_boxes_right.nd rfl (.inl rfl) (pe_ix (k_ixl (K := K) rfl) (pv 4) (pe_op op_mod (pe_op op_fdivW (pv 2) pe_int) pe_int) (fun _ _ => rfl)))
      (pss_cons (ps_set (i := 6) sc__law_boxes_right.nd rfl (.inl rfl) (pe_virt V_taken (hr.mono (by decide)) (fun σ => passAt takes0 σ) (pv 0) (pa_cons (pv 5) (pa_cons (pv 7) pa_nil))))
      (pss_cons (ps_set (i := 8) sc__law_boxes_right.nd rfl (.inl rfl) (pe_fn F__law_takes (hr.mono (by decide)) (pa_cons (pv 1) (pa_cons (pe_callB (call_min2 rfl) (by rfl) B.b_min (by decide +kernel) (pa_cons (pv 5) (pa_cons (pv 7) pa_nil))) (pa_cons (pe_callB (call_max2 rfl) (by rfl) B.b_max (by decide +kernel) (pa_cons (pv 5) (pa_cons (pv 7) pa_nil))) pa_nil)))))
      (pss_cons (ps_if (PW.pt (pw_or (pt_not (pt_val (pe_callB (k_isY (K := K) rfl) (by rfl) B.b_isinstance (by decide +kernel) (pa_cons (pv 6) (pa_cons (pe_bltn (v := .ty "list") (by rfl) B.b_list (by decide +kernel) rfl) pa_nil))))) (pw_or (pt_cmpR (k_neD (K := K) rfl hr.units) (pv 6) (pv 8) (nomark _)) (pw_or1 (pt_cmpR (k_neD (K := K) rfl hr.units) (pe_virt V_taken (hr.mono (by decide)) (fun σ => passAt takes0 σ) (pv 0) (pa_cons (pv 7) (pa_cons (pv 5) pa_nil))) (pv 8) (nomark _))))))
        (pss_one (ps_ret pe_bl))
        pss_nil)
      (pss_cons (ps_expr (pe_bm PySem.F.plainAttrs_list PySem.F.slot_list_append PySem.F.type_list_append mt_append (pv 6) (pa_cons pe_non pa_nil)))
      (pss_one (ps_if (pt_cmpR (k_neD (K := K) rfl hr.units) (pe_virt V_taken (hr.mono (by decide)) (fun σ => passAt takes0 σ) (pv 0) (pa_cons (pv 5) (pa_cons (pv 7) pa_nil))) (pv 8) (nomark _))
        (pss_one (ps_ret pe_bl))
        pss_nil)))))))))))
      (pss_cons (ps_for PassesOwn.never rfl (k_pit (K := K) rfl (pe_tup (pa_cons (pe_op op_sub (pe_dget (hu_of hr) (pv 1) pe_str (fun _ _ => rfl)) pe_int) (pa_cons (pe_op op_add (pe_dget (hu_of hr) (pv 1) pe_str (fun _ _ => rfl)) pe_int) (pa_cons pe_non (pa_cons pe_bl (pa_cons pe_str (pa_cons (pe_lst (pa_cons (pe_dget (hu_of hr) (pv 1) pe_str (fun _ _ => rfl)) pa_nil)) pa_nil)))))))) (pg_name (i := 9) sc__law_boxes_right.nd rfl (.inl rfl))
        (pss_one (ps_if (pt_not (pt_val (pe_fn F__law_place_refused (hr.mono (by decide)) (pa_cons (pv 0) (pa_cons (pv 9) (pa_cons (pe_dget (hu_of hr) (pv 1) pe_str (fun _ _ => rfl)) pa_nil))))))
        (pss_one (ps_ret pe_bl))
        pss_nil)))
      (pss_one (ps_ret pe_bl)))))), ?_⟩
    obtain ⟨ho, xs, hw, tw⟩ := id io
    have rd : ∀ {H' : Hp} {z : Str} {v : V}, Ex H H' → valV (ownV d wa) (Sum.inr z) = some v → DGet H' a (.str z) (some v) := fun {H' z v} e y => .inl ⟨_, Sum.inr z, .inl (e _ _ ho), rfl, y.symm⟩
    obtain ⟨dx, t, h1, h2⟩ := id im
    have sm := g.small
    have lg := g.lg
    have b0 := g.b0
    have b1 := g.b1
    have k4 := g.k4
    have wlen : d.walls.length < 100000 := by omega
    refine cut_eq fun N1 hN1 => ?_
    simp only [tSeq, tIfS, tOr, tAnd, tNot, tB, tTest, tCB, tCall, tCons, tVar, tNil, tC, tRet, tRetN, tNext, tAsg, gName, tDrop, tOp, tUn, tAug, ipI, tPar, tIf, tAndV, tOrV, tNotV, tChain, tNever, rI0, rI, rU, L2.start, cxK, List.map_cons, List.map_nil, List.length_cons, List.length_nil, Nat.reduceAdd, Nat.reduceSub, List.replicate, List.cons_append, List.nil_append, List.append_nil, List.set_cons_zero, List.set_cons_succ, List.getElem?_cons_zero, List.getElem?_cons_succ, Option.some.injEq, V.int.injEq, V.bl.injEq, exists_eq_left', exists_eq_left, exists_and_left, tFor_eq, iRng1, iRng2, iRng3, iList, iEnum, iZip, iTup, tLst_eq, tTup_eq, rCat_eq, rCatS, rSum, rAppend_eq, rListOf, rSlL_eq, tSl, tNoPart, tPart, tLc_eq, tBM, rIxL, rIxT, min3_eq, rEq_int, rNe_int, min_if, max_if, and_assoc, V.ref.injEq, V.str.injEq, List.cons.injEq, and_true, true_and, ↓reduceIte, Bool.false_eq_true, Bool.not_true, Bool.not_false, Int.reduceToNat, Int.reducePow, Int.reduceAdd, Int.reduceSub, Int.reduceNeg, tVirt, tOff, tFld, sFld_eq, tMake_eq, rTupOf, iStr, rNe_str, rEq_str, rEq_bl, tRaise1, tFmt, tJs, tCallS, WE, wKeep_eq, reduceCtorEq, false_and, and_false, exists_false, or_false, false_or, tIsN, tNotN, decide_true, decide_false, tDictN, tDGet]
    refine ⟨_, rd (Ex.refl _) own_least, _, rd (Ex.refl _) own_greatest, _, rd (Ex.refl _) own_least, ?_⟩
    simp only [tSeq, tIfS, tOr, tAnd, tNot, tB, tTest, tCB, tCall, tCons, tVar, tNil, tC, tRet, tRetN, tNext, tAsg, gName, tDrop, tOp, tUn, tAug, ipI, tPar, tIf, tAndV, tOrV, tNotV, tChain, tNever, rI0, rI, rU, L2.start, cxK, List.map_cons, List.map_nil, List.length_cons, List.length_nil, Nat.reduceAdd, Nat.reduceSub, List.replicate, List.cons_append, List.nil_append, List.append_nil, List.set_cons_zero, List.set_cons_succ, List.getElem?_cons_zero, List.getElem?_cons_succ, Option.some.injEq, V.int.injEq, V.bl.injEq, exists_eq_left', exists_eq_left, exists_and_left, tFor_eq, iRng1, iRng2, iRng3, iList, iEnum, iZip, iTup, tLst_eq, tTup_eq, rCat_eq, rCatS, rSum, rAppend_eq, rListOf, rSlL_eq, tSl, tNoPart, tPart, tLc_eq, tBM, rIxL, rIxT, min3_eq, rEq_int, rNe_int, min_if, max_if, and_assoc, V.ref.injEq, V.str.injEq, List.cons.injEq, and_true, true_and, ↓reduceIte, Bool.false_eq_true, Bool.not_true, Bool.not_false, Int.reduceToNat, Int.reducePow, Int.reduceAdd, Int.reduceSub, Int.reduceNeg, tVirt, tOff, tFld, sFld_eq, tMake_eq, rTupOf, iStr, rNe_str, rEq_str, rEq_bl, tRaise1, tFmt, tJs, tCallS, WE, wKeep_eq, reduceCtorEq, false_and, and_false, exists_false, or_false, false_or, tIsN, tNotN, decide_true, decide_false, tDictN]
    have sp : 0 < d.greatest - d.least + 1 := by omega
    refine ⟨sp, ?_⟩
    obtain ⟨mid, emid⟩ : ∃ mid, mid = d.least + draw % (d.greatest - d.least + 1) := ⟨_, rfl⟩
    have s0 := Int.emod_nonneg draw (Int.ne_of_gt sp)
    have s1 := Int.emod_lt_of_pos draw sp
    have m0 : d.least ≤ mid := by omega
    have m1 : mid ≤ d.greatest := by omega
    rw [← emid, ← hN1]
    clear hN1
    refine cut_eq fun N1 hN1 => ?_
    simp only [tSeq, tIfS, tOr, tAnd, tNot, tB, tTest, tCB, tCall, tCons, tVar, tNil, tC, tRet, tRetN, tNext, tAsg, gName, tDrop, tOp, tUn, tAug, ipI, tPar, tIf, tAndV, tOrV, tNotV, tChain, tNever, rI0, rI, rU, L2.start, cxK, List.map_cons, List.map_nil, List.length_cons, List.length_nil, Nat.reduceAdd, Nat.reduceSub, List.replicate, List.cons_append, List.nil_append, List.append_nil, List.set_cons_zero, List.set_cons_succ, List.getElem?_cons_zero, List.getElem?_cons_succ, Option.some.injEq, V.int.injEq, V.bl.injEq, exists_eq_left', exists_eq_left, exists_and_left, tFor_eq, iRng1, iRng2, iRng3, iList, iEnum, iZip, iTup, tLst_eq, tTup_eq, rCat_eq, rCatS, rSum, rAppend_eq, rListOf, rSlL_eq, tSl, tNoPart, tPart, tLc_eq, tBM, rIxL, rIxT, min3_eq, rEq_int, rNe_int, min_if, max_if, and_assoc, V.ref.injEq, V.str.injEq, List.cons.injEq, and_true, true_and, ↓reduceIte, Bool.false_eq_true, Bool.not_true, Bool.not_false, Int.reduceToNat, Int.reducePow, Int.reduceAdd, Int.reduceSub, Int.reduceNeg, tVirt, tOff, tFld, sFld_eq, tMake_eq, rTupOf, iStr, rNe_str, rEq_str, rEq_bl, tRaise1, tFmt, tJs, tCallS, WE, wKeep_eq, reduceCtorEq, false_and, and_false, exists_false, or_false, false_or, tIsN, tNotN, decide_true, decide_false, tDictN, tDGet]
    refine ⟨_, rd (Ex.refl _) own_least, _, rd (Ex.refl _) own_greatest, _, rd (Ex.refl _) own_place, sz_of (by decide), new_of fun sl H1 nsl e1 hsl => ?_⟩
    rw [← hN1]
    clear hN1
    refine cut_eq fun N1 hN1 => ?_
    simp only [tSeq, tIfS, tOr, tAnd, tNot, tB, tTest, tCB, tCall, tCons, tVar, tNil, tC, tRet, tRetN, tNext, tAsg, gName, tDrop, tOp, tUn, tAug, ipI, tPar, tIf, tAndV, tOrV, tNotV, tChain, tNever, rI0, rI, rU, L2.start, cxK, List.map_cons, List.map_nil, List.length_cons, List.length_nil, Nat.reduceAdd, Nat.reduceSub, List.replicate, List.cons_append, List.nil_append, List.append_nil, List.set_cons_zero, List.set_cons_succ, List.getElem?_cons_zero, List.getElem?_cons_succ, Option.some.injEq, V.int.injEq, V.bl.injEq, exists_eq_left', exists_eq_left, exists_and_left, tFor_eq, iRng1, iRng2, iRng3, iList, iEnum, iZip, iTup, tLst_eq, tTup_eq, rCat_eq, rCatS, rSum, rAppend_eq, rListOf, rSlL_eq, tSl, tNoPart, tPart, tLc_eq, tBM, rIxL, rIxT, min3_eq, rEq_int, rNe_int, min_if, max_if, and_assoc, V.ref.injEq, V.str.injEq, List.cons.injEq, and_true, true_and, ↓reduceIte, Bool.false_eq_true, Bool.not_true, Bool.not_false, Int.reduceToNat, Int.reducePow, Int.reduceAdd, Int.reduceSub, Int.reduceNeg, tVirt, tOff, tFld, sFld_eq, tMake_eq, rTupOf, iStr, rNe_str, rEq_str, rEq_bl, tRaise1, tFmt, tJs, tCallS, WE, wKeep_eq, reduceCtorEq, false_and, and_false, exists_false, or_false, false_or, tIsN, tNotN, decide_true, decide_false, tDictN]
    refine ⟨⟨_, sq_of hsl⟩, ?_⟩
    have inl : ∀ v ∈ ([.int d.least, .int d.greatest, .int d.place, .int mid] : List V), ∃ i : Int, v = .int i ∧ d.least ≤ i ∧ i ≤ d.greatest := by
      intro v hv
      simp only [List.mem_cons, List.not_mem_nil, or_false] at hv
      rcases hv with rfl | rfl | rfl | rfl
      · exact ⟨_, rfl, by omega, by omega⟩
      · exact ⟨_, rfl, by omega, by omega⟩
      · exact ⟨_, rfl, by omega, by omega⟩
      · exact ⟨_, rfl, by omega, by omega⟩
    obtain ⟨Pv, hPv⟩ : ∃ Pv : Nat → L2.St → Hp → Prop, ∀ k σ H', Pv k σ H' ↔ (∃ o5 o6 o7 o8, σ = [some (.ref x), some (.ref a), some (.int draw), some (.int mid), some (.ref sl), o5, o6, o7, o8, none]) ∧ Ex H1 H' := ⟨_, fun _ _ _ => Iff.rfl⟩
    have ki : ∀ {H' : Hp} (i : Int), Known K H' (.int i) := fun i => .inl ⟨i, rfl⟩
    have inB_of : ∀ {i : Int}, d.least ≤ i → i ≤ d.greatest → inB d (.int i) = true := fun {i} l1 l2 => by
      show (decide (d.least ≤ i) && decide (i ≤ d.greatest)) = true
      rw [decide_eq_true l1, decide_eq_true l2]
      rfl
    refine loop_list (xs := [.int d.least, .int d.greatest, .int d.place, .int mid]) Pv ((hPv _ _ _).mpr ⟨⟨_, _, _, _, rfl⟩, Ex.refl _⟩) (fun i σ H' hp => ?_) ?_ ?_
    · obtain ⟨_, e2⟩ := (hPv _ _ _).mp hp
      exact sq_of (e2 _ _ hsl)
    · intro i v σ H2 hv hp
      obtain ⟨⟨o5, o6, o7, o8, rfl⟩, e2⟩ := (hPv _ _ _).mp hp
      obtain ⟨one, rfl, on0, on1⟩ := inl v (List.mem_of_getElem? hv)
      obtain ⟨oth, hoth, ot0, ot1⟩ : ∃ oth : Int, atI [V.int d.least, V.int d.greatest, V.int d.place, V.int mid] (draw / 7 % 4) = some (.int oth) ∧ d.least ≤ oth ∧ oth ≤ d.greatest := by
        have c : draw / 7 % 4 = 0 ∨ draw / 7 % 4 = 1 ∨ draw / 7 % 4 = 2 ∨ draw / 7 % 4 = 3 := by omega
        rcases c with c | c | c | c <;> rw [c]
        · exact ⟨_, rfl, by omega, by omega⟩
        · exact ⟨_, rfl, by omega, by omega⟩
        · exact ⟨_, rfl, by omega, by omega⟩
        · exact ⟨_, rfl, by omega, by omega⟩
      have e02 := e1.trans e2
      have bad : ∀ {i j : Int} {R : Prop}, d.least ≤ i → i ≤ d.greatest → d.least ≤ j → j ≤ d.greatest → (inB d (.int i) && inB d (.int j)) = false → R := fun l1 l2 l3 l4 z => by
        rw [inB_of l1 l2, inB_of l3 l4] at z
        cases z
      -- boxes
      refine cut_eq fun N2 hN2 => ?_
      simp only [tSeq, tIfS, tOr, tAnd, tNot, tB, tTest, tCB, tCall, tCons, tVar, tNil, tC, tRet, tRetN, tNext, tAsg, gName, tDrop, tOp, tUn, tAug, ipI, tPar, tIf, tAndV, tOrV, tNotV, tChain, tNever, rI0, rI, rU, L2.start, cxK, List.map_cons, List.map_nil, List.length_cons, List.length_nil, Nat.reduceAdd, Nat.reduceSub, List.replicate, List.cons_append, List.nil_append, List.append_nil, List.set_cons_zero, List.set_cons_succ, List.getElem?_cons_zero, List.getElem?_cons_succ, Option.some.injEq, V.int.injEq, V.bl.injEq, exists_eq_left', exists_eq_left, exists_and_left, tFor_eq, iRng1, iRng2, iRng3, iList, iEnum, iZip, iTup, tLst_eq, tTup_eq, rCat_eq, rCatS, rSum, rAppend_eq, rListOf, rSlL_eq, tSl, tNoPart, tPart, tLc_eq, tBM, rIxL, rIxT, min3_eq, rEq_int, rNe_int, min_if, max_if, and_assoc, V.ref.injEq, V.str.injEq, List.cons.injEq, and_true, true_and, ↓reduceIte, Bool.false_eq_true, Bool.not_true, Bool.not_false, Int.reduceToNat, Int.reducePow, Int.reduceAdd, Int.reduceSub, Int.reduceNeg, tVirt, tOff, tFld, sFld_eq, tMake_eq, rTupOf, iStr, rNe_str, rEq_str, rEq_bl, tRaise1, tFmt, tJs, tCallS, WE, wKeep_eq, reduceCtorEq, false_and, and_false, exists_false, or_false, false_or, tIsN, tNotN, decide_true, decide_false, tDictN]
      refine ⟨_, _, ck_mem cl d.kd, _, _, e02 _ _ h1, is_no_field (by decide +kernel), x, .int one, rfl, x, d, .int one, .int one, rfl, im.mono e02, rfl, sm, ki _, ki _, bad on0 on1 on0 on1, fun i j ei ej _ _ _ _ p ys H3 np e3 hp3 tx3 => ?_⟩
      cases ei
      cases ej
      rw [← hN2]
      clear hN2
      have e03 := e02.trans e3
      refine cut_eq fun N2 hN2 => ?_
      simp only [tSeq, tIfS, tOr, tAnd, tNot, tB, tTest, tCB, tCall, tCons, tVar, tNil, tC, tRet, tRetN, tNext, tAsg, gName, tDrop, tOp, tUn, tAug, ipI, tPar, tIf, tAndV, tOrV, tNotV, tChain, tNever, rI0, rI, rU, L2.start, cxK, List.map_cons, List.map_nil, List.length_cons, List.length_nil, Nat.reduceAdd, Nat.reduceSub, List.replicate, List.cons_append, List.nil_append, List.append_nil, List.set_cons_zero, List.set_cons_succ, List.getElem?_cons_zero, List.getElem?_cons_succ, Option.some.injEq, V.int.injEq, V.bl.injEq, exists_eq_left', exists_eq_left, exists_and_left, tFor_eq, iRng1, iRng2, iRng3, iList, iEnum, iZip, iTup, tLst_eq, tTup_eq, rCat_eq, rCatS, rSum, rAppend_eq, rListOf, rSlL_eq, tSl, tNoPart, tPart, tLc_eq, tBM, rIxL, rIxT, min3_eq, rEq_int, rNe_int, min_if, max_if, and_assoc, V.ref.injEq, V.str.injEq, List.cons.injEq, and_true, true_and, ↓reduceIte, Bool.false_eq_true, Bool.not_true, Bool.not_false, Int.reduceToNat, Int.reducePow, Int.reduceAdd, Int.reduceSub, Int.reduceNeg, tVirt, tOff, tFld, sFld_eq, tMake_eq, rTupOf, iStr, rNe_str, rEq_str, rEq_bl, tRaise1, tFmt, tJs, tCallS, WE, wKeep_eq, reduceCtorEq, false_and, and_false, exists_false, or_false, false_or, tIsN, tNotN, decide_true, decide_false, tDictN]
      refine isy_ty (.base (.lst hp3)) (b := true) (by decide +kernel) ⟨_, rfl, ifF rfl ?_⟩
      refine ⟨a, wa, d, one, one, rfl, Int.le_refl _, io.mono e03, wlen, fun p2 ys2 H4 np2 e4 hp4 tx4 => ?_⟩
      refine neD_boxes (sq_of (e4 _ _ hp3)) (tx3.mono e4) (sq_of hp4) tx4 ⟨_, rfl, ifF rfl ?_⟩
      rw [← hN2]
      clear hN2
      have e34 := e3.trans e4
      have h4p := e4 _ _ hp3
      refine cut_eq fun N2 hN2 => ?_
      simp only [tSeq, tIfS, tOr, tAnd, tNot, tB, tTest, tCB, tCall, tCons, tVar, tNil, tC, tRet, tRetN, tNext, tAsg, gName, tDrop, tOp, tUn, tAug, ipI, tPar, tIf, tAndV, tOrV, tNotV, tChain, tNever, rI0, rI, rU, L2.start, cxK, List.map_cons, List.map_nil, List.length_cons, List.length_nil, Nat.reduceAdd, Nat.reduceSub, List.replicate, List.cons_append, List.nil_append, List.append_nil, List.set_cons_zero, List.set_cons_succ, List.getElem?_cons_zero, List.getElem?_cons_succ, Option.some.injEq, V.int.injEq, V.bl.injEq, exists_eq_left', exists_eq_left, exists_and_left, tFor_eq, iRng1, iRng2, iRng3, iList, iEnum, iZip, iTup, tLst_eq, tTup_eq, rCat_eq, rCatS, rSum, rAppend_eq, rListOf, rSlL_eq, tSl, tNoPart, tPart, tLc_eq, tBM, rIxL, rIxT, min3_eq, rEq_int, rNe_int, min_if, max_if, and_assoc, V.ref.injEq, V.str.injEq, List.cons.injEq, and_true, true_and, ↓reduceIte, Bool.false_eq_true, Bool.not_true, Bool.not_false, Int.reduceToNat, Int.reducePow, Int.reduceAdd, Int.reduceSub, Int.reduceNeg, tVirt, tOff, tFld, sFld_eq, tMake_eq, rTupOf, iStr, rNe_str, rEq_str, rEq_bl, tRaise1, tFmt, tJs, tCallS, WE, wKeep_eq, reduceCtorEq, false_and, and_false, exists_false, or_false, false_or, tIsN, tNotN, decide_true, decide_false, tDictN]
      have len3 : ys.length ≤ 5 := by
        rw [tx3.1, List.length_map]
        have := takes_len d one one
        omega
      refine ⟨.inl ⟨rfl, _, sq_of h4p⟩, _, h4p, sz_lt (by omega), chg_of fun H5 k5 h5 => ?_⟩
      have e05 : Ex H1 H5 := ex_chg (e2.trans e34) (fresh_back e2 np) k5
      clear k5 h5
      rw [← hN2]
      clear hN2
      have ee5 := e1.trans e05
      -- what is taken between two places
      refine cut_eq fun N2 hN2 => ?_
      simp only [tSeq, tIfS, tOr, tAnd, tNot, tB, tTest, tCB, tCall, tCons, tVar, tNil, tC, tRet, tRetN, tNext, tAsg, gName, tDrop, tOp, tUn, tAug, ipI, tPar, tIf, tAndV, tOrV, tNotV, tChain, tNever, rI0, rI, rU, L2.start, cxK, List.map_cons, List.map_nil, List.length_cons, List.length_nil, Nat.reduceAdd, Nat.reduceSub, List.replicate, List.cons_append, List.nil_append, List.append_nil, List.set_cons_zero, List.set_cons_succ, List.getElem?_cons_zero, List.getElem?_cons_succ, Option.some.injEq, V.int.injEq, V.bl.injEq, exists_eq_left', exists_eq_left, exists_and_left, tFor_eq, iRng1, iRng2, iRng3, iList, iEnum, iZip, iTup, tLst_eq, tTup_eq, rCat_eq, rCatS, rSum, rAppend_eq, rListOf, rSlL_eq, tSl, tNoPart, tPart, tLc_eq, tBM, rIxL, rIxT, min3_eq, rEq_int, rNe_int, min_if, max_if, and_assoc, V.ref.injEq, V.str.injEq, List.cons.injEq, and_true, true_and, ↓reduceIte, Bool.false_eq_true, Bool.not_true, Bool.not_false, Int.reduceToNat, Int.reducePow, Int.reduceAdd, Int.reduceSub, Int.reduceNeg, tVirt, tOff, tFld, sFld_eq, tMake_eq, rTupOf, iStr, rNe_str, rEq_str, rEq_bl, tRaise1, tFmt, tJs, tCallS, WE, wKeep_eq, reduceCtorEq, false_and, and_false, exists_false, or_false, false_or, tIsN, tNotN, decide_true, decide_false, tDictN]
      refine ⟨cdw (by decide) (by decide), by decide, _, sq_of (e05 _ _ hsl), _, hoth, ?_⟩
      rw [← hN2]
      clear hN2
      refine cut_eq fun N2 hN2 => ?_
      simp only [tSeq, tIfS, tOr, tAnd, tNot, tB, tTest, tCB, tCall, tCons, tVar, tNil, tC, tRet, tRetN, tNext, tAsg, gName, tDrop, tOp, tUn, tAug, ipI, tPar, tIf, tAndV, tOrV, tNotV, tChain, tNever, rI0, rI, rU, L2.start, cxK, List.map_cons, List.map_nil, List.length_cons, List.length_nil, Nat.reduceAdd, Nat.reduceSub, List.replicate, List.cons_append, List.nil_append, List.append_nil, List.set_cons_zero, List.set_cons_succ, List.getElem?_cons_zero, List.getElem?_cons_succ, Option.some.injEq, V.int.injEq, V.bl.injEq, exists_eq_left', exists_eq_left, exists_and_left, tFor_eq, iRng1, iRng2, iRng3, iList, iEnum, iZip, iTup, tLst_eq, tTup_eq, rCat_eq, rCatS, rSum, rAppend_eq, rListOf, rSlL_eq, tSl, tNoPart, tPart, tLc_eq, tBM, rIxL, rIxT, min3_eq, rEq_int, rNe_int, min_if, max_if, and_assoc, V.ref.injEq, V.str.injEq, List.cons.injEq, and_true, true_and, ↓reduceIte, Bool.false_eq_true, Bool.not_true, Bool.not_false, Int.reduceToNat, Int.reducePow, Int.reduceAdd, Int.reduceSub, Int.reduceNeg, tVirt, tOff, tFld, sFld_eq, tMake_eq, rTupOf, iStr, rNe_str, rEq_str, rEq_bl, tRaise1, tFmt, tJs, tCallS, WE, wKeep_eq, reduceCtorEq, false_and, and_false, exists_false, or_false, false_or, tIsN, tNotN, decide_true, decide_false, tDictN]
      refine ⟨_, _, ck_mem cl d.kd, _, _, ee5 _ _ h1, is_no_field (by decide +kernel), x, d, .int one, .int oth, rfl, im.mono ee5, rfl, sm, ki _, ki _, bad on0 on1 ot0 ot1, fun i j ei ej _ _ _ _ p6 ys6 H6 np6 e6 hp6 tx6 => ?_⟩
      cases ei
      cases ej
      rw [← hN2]
      clear hN2
      have ee6 := ee5.trans e6
      refine cut_eq fun N2 hN2 => ?_
      simp only [tSeq, tIfS, tOr, tAnd, tNot, tB, tTest, tCB, tCall, tCons, tVar, tNil, tC, tRet, tRetN, tNext, tAsg, gName, tDrop, tOp, tUn, tAug, ipI, tPar, tIf, tAndV, tOrV, tNotV, tChain, tNever, rI0, rI, rU, L2.start, cxK, List.map_cons, List.map_nil, List.length_cons, List.length_nil, Nat.reduceAdd, Nat.reduceSub, List.replicate, List.cons_append, List.nil_append, List.append_nil, List.set_cons_zero, List.set_cons_succ, List.getElem?_cons_zero, List.getElem?_cons_succ, Option.some.injEq, V.int.injEq, V.bl.injEq, exists_eq_left', exists_eq_left, exists_and_left, tFor_eq, iRng1, iRng2, iRng3, iList, iEnum, iZip, iTup, tLst_eq, tTup_eq, rCat_eq, rCatS, rSum, rAppend_eq, rListOf, rSlL_eq, tSl, tNoPart, tPart, tLc_eq, tBM, rIxL, rIxT, min3_eq, rEq_int, rNe_int, min_if, max_if, and_assoc, V.ref.injEq, V.str.injEq, List.cons.injEq, and_true, true_and, ↓reduceIte, Bool.false_eq_true, Bool.not_true, Bool.not_false, Int.reduceToNat, Int.reducePow, Int.reduceAdd, Int.reduceSub, Int.reduceNeg, tVirt, tOff, tFld, sFld_eq, tMake_eq, rTupOf, iStr, rNe_str, rEq_str, rEq_bl, tRaise1, tFmt, tJs, tCallS, WE, wKeep_eq, reduceCtorEq, false_and, and_false, exists_false, or_false, false_or, tIsN, tNotN, decide_true, decide_false, tDictN]
      refine ⟨a, wa, d, min one oth, max one oth, by first | rfl | simp only [min_if, max_if], by omega, io.mono ee6, wlen, fun p7 ys7 H7 np7 e7 hp7 tx7 => ?_⟩
      rw [← takes_sym] at tx7
      rw [← hN2]
      clear hN2
      have ee7 := ee6.trans e7
      refine cut_eq fun N2 hN2 => ?_
      simp only [tSeq, tIfS, tOr, tAnd, tNot, tB, tTest, tCB, tCall, tCons, tVar, tNil, tC, tRet, tRetN, tNext, tAsg, gName, tDrop, tOp, tUn, tAug, ipI, tPar, tIf, tAndV, tOrV, tNotV, tChain, tNever, rI0, rI, rU, L2.start, cxK, List.map_cons, List.map_nil, List.length_cons, List.length_nil, Nat.reduceAdd, Nat.reduceSub, List.replicate, List.cons_append, List.nil_append, List.append_nil, List.set_cons_zero, List.set_cons_succ, List.getElem?_cons_zero, List.getElem?_cons_succ, Option.some.injEq, V.int.injEq, V.bl.injEq, exists_eq_left', exists_eq_left, exists_and_left, tFor_eq, iRng1, iRng2, iRng3, iList, iEnum, iZip, iTup, tLst_eq, tTup_eq, rCat_eq, rCatS, rSum, rAppend_eq, rListOf, rSlL_eq, tSl, tNoPart, tPart, tLc_eq, tBM, rIxL, rIxT, min3_eq, rEq_int, rNe_int, min_if, max_if, and_assoc, V.ref.injEq, V.str.injEq, List.cons.injEq, and_true, true_and, ↓reduceIte, Bool.false_eq_true, Bool.not_true, Bool.not_false, Int.reduceToNat, Int.reducePow, Int.reduceAdd, Int.reduceSub, Int.reduceNeg, tVirt, tOff, tFld, sFld_eq, tMake_eq, rTupOf, iStr, rNe_str, rEq_str, rEq_bl, tRaise1, tFmt, tJs, tCallS, WE, wKeep_eq, reduceCtorEq, false_and, and_false, exists_false, or_false, false_or, tIsN, tNotN, decide_true, decide_false, tDictN]
      refine isy_ty (.base (.lst (e7 _ _ hp6))) (b := true) (by decide +kernel) ⟨_, rfl, ifF rfl ?_⟩
      refine neD_boxes (sq_of (e7 _ _ hp6)) (tx6.mono e7) (sq_of hp7) tx7 ⟨_, rfl, ifF rfl ?_⟩
      refine ⟨_, _, ck_mem cl d.kd, _, _, ee7 _ _ h1, is_no_field (by decide +kernel), x, d, .int oth, .int one, rfl, im.mono ee7, rfl, sm, ki _, ki _, bad ot0 ot1 on0 on1, fun i j ei ej _ _ _ _ p8 ys8 H8 np8 e8 hp8 tx8 => ?_⟩
      cases ei
      cases ej
      have sy : takes d oth one = takes d one oth := by
        rw [takes_sym d oth one, takes_sym d one oth, Int.min_comm, Int.max_comm]
      rw [sy] at tx8
      have ee8 := ee7.trans e8
      refine neD_boxes (sq_of hp8) tx8 (sq_of (e8 _ _ hp7)) (tx7.mono e8) ⟨_, rfl, ifF rfl ?_⟩
      rw [← hN2]
      clear hN2
      have h8p := (e7.trans e8) _ _ hp6
      have len6 : ys6.length ≤ 5 := by
        rw [tx6.1, List.length_map]
        have := takes_len d one oth
        omega
      refine cut_eq fun N2 hN2 => ?_
      simp only [tSeq, tIfS, tOr, tAnd, tNot, tB, tTest, tCB, tCall, tCons, tVar, tNil, tC, tRet, tRetN, tNext, tAsg, gName, tDrop, tOp, tUn, tAug, ipI, tPar, tIf, tAndV, tOrV, tNotV, tChain, tNever, rI0, rI, rU, L2.start, cxK, List.map_cons, List.map_nil, List.length_cons, List.length_nil, Nat.reduceAdd, Nat.reduceSub, List.replicate, List.cons_append, List.nil_append, List.append_nil, List.set_cons_zero, List.set_cons_succ, List.getElem?_cons_zero, List.getElem?_cons_succ, Option.some.injEq, V.int.injEq, V.bl.injEq, exists_eq_left', exists_eq_left, exists_and_left, tFor_eq, iRng1, iRng2, iRng3, iList, iEnum, iZip, iTup, tLst_eq, tTup_eq, rCat_eq, rCatS, rSum, rAppend_eq, rListOf, rSlL_eq, tSl, tNoPart, tPart, tLc_eq, tBM, rIxL, rIxT, min3_eq, rEq_int, rNe_int, min_if, max_if, and_assoc, V.ref.injEq, V.str.injEq, List.cons.injEq, and_true, true_and, ↓reduceIte, Bool.false_eq_true, Bool.not_true, Bool.not_false, Int.reduceToNat, Int.reducePow, Int.reduceAdd, Int.reduceSub, Int.reduceNeg, tVirt, tOff, tFld, sFld_eq, tMake_eq, rTupOf, iStr, rNe_str, rEq_str, rEq_bl, tRaise1, tFmt, tJs, tCallS, WE, wKeep_eq, reduceCtorEq, false_and, and_false, exists_false, or_false, false_or, tIsN, tNotN, decide_true, decide_false, tDictN]
      refine ⟨.inl ⟨rfl, _, sq_of h8p⟩, _, h8p, sz_lt (by omega), chg_of fun H9 k9 h9 => ?_⟩
      have e19 : Ex H1 H9 := ex_chg (((e05.trans e6).trans e7).trans e8) (fresh_back e05 np6) k9
      have n76 : p7 ≠ p6 := fun z => by rw [z] at np7; rw [hp6] at np7; cases np7
      have hp79 : H9 p7 = some (.lst ys7) := by rw [k9 p7 n76]; exact e8 _ _ hp7
      have tx79 : TupL H9 ys7 ((takes d one oth).map bxV) := ⟨tx7.1, fun j y l g1 g2 => by
        obtain ⟨b, rb, qb⟩ := tx7.2 j y l g1 g2
        have nb : b ≠ p6 := fun z => by rw [z, e7 _ _ hp6] at qb; cases qb
        exact ⟨b, rb, by rw [k9 b nb]; exact e8 _ _ qb⟩⟩
      clear k9 h9
      rw [← hN2]
      clear hN2
      have ee9 := e1.trans e19
      simp only [tSeq, tIfS, tOr, tAnd, tNot, tB, tTest, tCB, tCall, tCons, tVar, tNil, tC, tRet, tRetN, tNext, tAsg, gName, tDrop, tOp, tUn, tAug, ipI, tPar, tIf, tAndV, tOrV, tNotV, tChain, tNever, rI0, rI, rU, L2.start, cxK, List.map_cons, List.map_nil, List.length_cons, List.length_nil, Nat.reduceAdd, Nat.reduceSub, List.replicate, List.cons_append, List.nil_append, List.append_nil, List.set_cons_zero, List.set_cons_succ, List.getElem?_cons_zero, List.getElem?_cons_succ, Option.some.injEq, V.int.injEq, V.bl.injEq, exists_eq_left', exists_eq_left, exists_and_left, tFor_eq, iRng1, iRng2, iRng3, iList, iEnum, iZip, iTup, tLst_eq, tTup_eq, rCat_eq, rCatS, rSum, rAppend_eq, rListOf, rSlL_eq, tSl, tNoPart, tPart, tLc_eq, tBM, rIxL, rIxT, min3_eq, rEq_int, rNe_int, min_if, max_if, and_assoc, V.ref.injEq, V.str.injEq, List.cons.injEq, and_true, true_and, ↓reduceIte, Bool.false_eq_true, Bool.not_true, Bool.not_false, Int.reduceToNat, Int.reducePow, Int.reduceAdd, Int.reduceSub, Int.reduceNeg, tVirt, tOff, tFld, sFld_eq, tMake_eq, rTupOf, iStr, rNe_str, rEq_str, rEq_bl, tRaise1, tFmt, tJs, tCallS, WE, wKeep_eq, reduceCtorEq, false_and, and_false, exists_false, or_false, false_or, tIsN, tNotN, decide_true, decide_false, tDictN]
      refine ⟨_, _, ck_mem cl d.kd, _, _, ee9 _ _ h1, is_no_field (by decide +kernel), x, d, .int one, .int oth, rfl, im.mono ee9, rfl, sm, ki _, ki _, bad on0 on1 ot0 ot1, fun i j ei ej _ _ _ _ p10 ys10 H10 np10 e10 hp10 tx10 => ?_⟩
      cases ei
      cases ej
      refine neD_boxes (sq_of hp10) tx10 (sq_of (e10 _ _ hp79)) (tx79.mono e10) ⟨_, rfl, ifF rfl ?_⟩
      exact (hPv _ _ _).mpr ⟨⟨_, _, _, _, rfl⟩, e19.trans e10⟩
    · intro σ H2 hp
      obtain ⟨⟨o5, o6, o7, o8, rfl⟩, e2⟩ := (hPv _ _ _).mp hp
      show N1 _ H2
      rw [← hN1]
      clear hN1
      have e02 := e1.trans e2
      simp only [tSeq, tIfS, tOr, tAnd, tNot, tB, tTest, tCB, tCall, tCons, tVar, tNil, tC, tRet, tRetN, tNext, tAsg, gName, tDrop, tOp, tUn, tAug, ipI, tPar, tIf, tAndV, tOrV, tNotV, tChain, tNever, rI0, rI, rU, L2.start, cxK, List.map_cons, List.map_nil, List.length_cons, List.length_nil, Nat.reduceAdd, Nat.reduceSub, List.replicate, List.cons_append, List.nil_append, List.append_nil, List.set_cons_zero, List.set_cons_succ, List.getElem?_cons_zero, List.getElem?_cons_succ, Option.some.injEq, V.int.injEq, V.bl.injEq, exists_eq_left', exists_eq_left, exists_and_left, tFor_eq, iRng1, iRng2, iRng3, iList, iEnum, iZip, iTup, tLst_eq, tTup_eq, rCat_eq, rCatS, rSum, rAppend_eq, rListOf, rSlL_eq, tSl, tNoPart, tPart, tLc_eq, tBM, rIxL, rIxT, min3_eq, rEq_int, rNe_int, min_if, max_if, and_assoc, V.ref.injEq, V.str.injEq, List.cons.injEq, and_true, true_and, ↓reduceIte, Bool.false_eq_true, Bool.not_true, Bool.not_false, Int.reduceToNat, Int.reducePow, Int.reduceAdd, Int.reduceSub, Int.reduceNeg, tVirt, tOff, tFld, sFld_eq, tMake_eq, rTupOf, iStr, rNe_str, rEq_str, rEq_bl, tRaise1, tFmt, tJs, tCallS, WE, wKeep_eq, reduceCtorEq, false_and, and_false, exists_false, or_false, false_or, tIsN, tNotN, decide_true, decide_false, tDictN, tDGet]
      refine ⟨_, rd e02 own_least, _, rfl, _, rd e02 own_greatest, _, rfl, _, rd e02 own_place, sz_of (by decide), new_of fun l1 H3 nl1 e3 hl1 => ⟨sz_of (by decide), new_of fun tp H4 ntp e4 htp => ⟨⟨_, st_of htp⟩, ?_⟩⟩⟩
      have e04 := (e02.trans e3).trans e4
      obtain ⟨Pw, hPw⟩ : ∃ Pw : Nat → L2.St → Hp → Prop, ∀ k σ H', Pw k σ H' ↔ (∃ o9, σ = [some (.ref x), some (.ref a), some (.int draw), some (.int mid), some (.ref sl), o5, o6, o7, o8, o9]) ∧ Ex H4 H' := ⟨_, fun _ _ _ => Iff.rfl⟩
      have odd : ∀ v ∈ ([.int (d.least - 1), .int (d.greatest + 1), .non, .bl true, .str "1", .ref l1] : List V), Sv' H4 v ∧ inB d v = false := by
        intro v hv
        simp only [List.mem_cons, List.not_mem_nil, or_false] at hv
        rcases hv with rfl | rfl | rfl | rfl | rfl | rfl
        · refine ⟨⟨_, .int _⟩, ?_⟩
          show (decide (d.least ≤ d.least - 1) && _) = false
          rw [decide_eq_false (by omega)]
          rfl
        · refine ⟨⟨_, .int _⟩, ?_⟩
          show (_ && decide (d.greatest + 1 ≤ d.greatest)) = false
          rw [decide_eq_false (p := d.greatest + 1 ≤ d.greatest) (by omega), Bool.and_false]
        · exact ⟨⟨_, .non⟩, rfl⟩
        · exact ⟨⟨_, .bl _⟩, rfl⟩
        · exact ⟨⟨_, .str _ (by decide +kernel)⟩, rfl⟩
        · exact ⟨⟨_, .lst (e4 _ _ hl1)⟩, rfl⟩
      refine loop_tup (xs := [.int (d.least - 1), .int (d.greatest + 1), .non, .bl true, .str "1", .ref l1]) Pw ((hPw _ _ _).mpr ⟨⟨_, rfl⟩, Ex.refl _⟩) (fun i σ H' hp => ?_) ?_ ?_
      · obtain ⟨_, e5⟩ := (hPw _ _ _).mp hp
        exact st_of (e5 _ _ htp)
      · intro i v σ H5 hv hp
        obtain ⟨⟨o9, rfl⟩, e5⟩ := (hPw _ _ _).mp hp
        obtain ⟨sv, nb⟩ := odd v (List.mem_of_getElem? hv)
        have e05 := e04.trans e5
        simp only [tSeq, tIfS, tOr, tAnd, tNot, tB, tTest, tCB, tCall, tCons, tVar, tNil, tC, tRet, tRetN, tNext, tAsg, gName, tDrop, tOp, tUn, tAug, ipI, tPar, tIf, tAndV, tOrV, tNotV, tChain, tNever, rI0, rI, rU, L2.start, cxK, List.map_cons, List.map_nil, List.length_cons, List.length_nil, Nat.reduceAdd, Nat.reduceSub, List.replicate, List.cons_append, List.nil_append, List.append_nil, List.set_cons_zero, List.set_cons_succ, List.getElem?_cons_zero, List.getElem?_cons_succ, Option.some.injEq, V.int.injEq, V.bl.injEq, exists_eq_left', exists_eq_left, exists_and_left, tFor_eq, iRng1, iRng2, iRng3, iList, iEnum, iZip, iTup, tLst_eq, tTup_eq, rCat_eq, rCatS, rSum, rAppend_eq, rListOf, rSlL_eq, tSl, tNoPart, tPart, tLc_eq, tBM, rIxL, rIxT, min3_eq, rEq_int, rNe_int, min_if, max_if, and_assoc, V.ref.injEq, V.str.injEq, List.cons.injEq, and_true, true_and, ↓reduceIte, Bool.false_eq_true, Bool.not_true, Bool.not_false, Int.reduceToNat, Int.reducePow, Int.reduceAdd, Int.reduceSub, Int.reduceNeg, tVirt, tOff, tFld, sFld_eq, tMake_eq, rTupOf, iStr, rNe_str, rEq_str, rEq_bl, tRaise1, tFmt, tJs, tCallS, WE, wKeep_eq, reduceCtorEq, false_and, and_false, exists_false, or_false, false_or, tIsN, tNotN, decide_true, decide_false, tDictN, tDGet]
        refine ⟨_, rd e05 own_place, x, d, v, d.place, rfl, im.mono e05, sm, sv.mono (.of e5), nb, fun H6 e6 => ⟨_, rfl, ifF rfl ?_⟩⟩
        exact (hPw _ _ _).mpr ⟨⟨_, rfl⟩, e5.trans e6⟩
      · intro σ H5 hp
        obtain ⟨⟨o9, rfl⟩, e5⟩ := (hPw _ _ _).mp hp
        simp only [tSeq, tIfS, tOr, tAnd, tNot, tB, tTest, tCB, tCall, tCons, tVar, tNil, tC, tRet, tRetN, tNext, tAsg, gName, tDrop, tOp, tUn, tAug, ipI, tPar, tIf, tAndV, tOrV, tNotV, tChain, tNever, rI0, rI, rU, L2.start, cxK, List.map_cons, List.map_nil, List.length_cons, List.length_nil, Nat.reduceAdd, Nat.reduceSub, List.replicate, List.cons_append, List.nil_append, List.append_nil, List.set_cons_zero, List.set_cons_succ, List.getElem?_cons_zero, List.getElem?_cons_succ, Option.some.injEq, V.int.injEq, V.bl.injEq, exists_eq_left', exists_eq_left, exists_and_left, tFor_eq, iRng1, iRng2, iRng3, iList, iEnum, iZip, iTup, tLst_eq, tTup_eq, rCat_eq, rCatS, rSum, rAppend_eq, rListOf, rSlL_eq, tSl, tNoPart, tPart, tLc_eq, tBM, rIxL, rIxT, min3_eq, rEq_int, rNe_int, min_if, max_if, and_assoc, V.ref.injEq, V.str.injEq, List.cons.injEq, and_true, true_and, ↓reduceIte, Bool.false_eq_true, Bool.not_true, Bool.not_false, Int.reduceToNat, Int.reducePow, Int.reduceAdd, Int.reduceSub, Int.reduceNeg, tVirt, tOff, tFld, sFld_eq, tMake_eq, rTupOf, iStr, rNe_str, rEq_str, rEq_bl, tRaise1, tFmt, tJs, tCallS, WE, wKeep_eq, reduceCtorEq, false_and, and_false, exists_false, or_false, false_or, tIsN, tNotN, decide_true, decide_false, tDictN]
        exact q H5 (e04.trans e5)
end
end FW

set_option Elab.async false
set_option linter.all false
set_option maxRecDepth 100000
set_option maxHeartbeats 4000000
namespace L2
open PySem PySem.Spec PyProof.Rows Evt
section
variable {X : Cx}
def rDUpd : V → List V → Hp → VK → Prop := fun x xs H Q => ∃ a b kvs more, x = .ref a ∧ xs = [.ref b] ∧ a ≠ b ∧ H a = some (.dK kvs) ∧ H b = some (.dK more) ∧ kvs.length + more.length ≤ sizeLine ∧ Chg H a (.dK (mergeK kvs more)) fun H2 => Q .non H2
/-- d.update(d2) -/
theorem mt_dupdate : MtR X "dict.update" rDUpd := by
  intro pins s σ H x xs v us Q I rx rs h
  obtain ⟨a, b, kvs, more, rfl, rfl, ne, ha, hb, hz, q⟩ := h
  cases rx
  cases rs with
  | cons r1 rs =>
    cases rs
    cases r1
    obtain ⟨z1, lo1, vs1, rel1, dd1⟩ := dk_of I.hok ha
    obtain ⟨z2, lo2, vs2, rel2, dd2⟩ := dk_of I.hok hb
    refine call_meetsIn PySem.F.slot_dict_update dd1.typeIs PySem.F.entry_dict_update (PySem.F.args_dict_update_2 _ _) (meets_dict_update (mixKind X.prog X.w) a b ne lo2) ⟨vs1, vs2, dd1, dd2, by rw [← rel1.length, ← rel2.length]; exact hz, fun h' dd' _ hs => ?_⟩
    have he : ∃ q, h'.get? a = some q := let ⟨q, _, _, hq, _⟩ := dd'; ⟨q, hq⟩
    exact ⟨.non, _, d_write (t' := s.toks) I (by rw [ha]; exact True.intro) hs he (dk_new (Nat.le_trans (length_mergeK more kvs) hz) lo1 (KV.merge rel2 rel1) dd'), rfl, q⟩
theorem k_inS {K : PySem.W.Frag} (hK : X.K = K) : OpR X (compareOp .In) (rIn K false) := hK ▸ op_in_seq
end
end L2
namespace FW
open PySem PySem.Spec PyProof.Rows L2 Evt
section
variable {P : Program} {w : World} {K : PySem.W.Frag} {mg : Str → Option Value} {base : Heap} {cl : Nat → Addr}
/-! ### one thing that is none -/
inductive Wd where
  | least | greatest | pace | gain | place | lane | at_ | wide | tall | walls
instance : DecidableEq Wd := fun a b => by
  cases a <;> cases b <;> first | exact isTrue rfl | exact isFalse (fun h => nomatch h)
def wdS : Wd → Str
  | .least => "least"
  | .greatest => "greatest"
  | .pace => "pace"
  | .gain => "gain"
  | .place => "place"
  | .lane => "lane"
  | .at_ => "at"
  | .wide => "wide"
  | .tall => "tall"
  | .walls => "walls"
def selV (wd w : Wd) (v x : V) : V := if wd = w then v else x
/-- the law's dict, the thing wd put in as v, the name as n -/
def ownP (d : Md) (wa : Addr) (wd : Wd) (v n : V) : List (Key × V) := ownW n (selV wd .least v (.int d.least)) (selV wd .greatest v (.int d.greatest)) (selV wd .place v (.int d.place)) (selV wd .pace v (.int d.pace)) (selV wd .gain v (.int d.gain)) d.kd (selV wd .lane v (.int d.lane)) (selV wd .at_ v (.int d.at_)) (selV wd .wide v (.int d.wide)) (selV wd .tall v (.int d.tall)) (selV wd .walls v (.ref wa))
theorem put_odd {d : Md} {wa : Addr} {wd : Wd} {v : V} : putK (ownV d wa) (Sum.inr (wdS wd)) v = ownP d wa wd v (.str d.name) := by
  cases wd <;> rfl
theorem put_name {d : Md} {wa : Addr} {wd : Wd} {v n m : V} : putK (ownP d wa wd v n) (Sum.inr "name") m = ownP d wa wd v m := rfl
def ownAt (d : Md) (wa : Addr) : Wd → V
  | .least => .int d.least
  | .greatest => .int d.greatest
  | .pace => .int d.pace
  | .gain => .int d.gain
  | .place => .int d.place
  | .lane => .int d.lane
  | .at_ => .int d.at_
  | .wide => .int d.wide
  | .tall => .int d.tall
  | .walls => .ref wa
theorem own_at_wd {d : Md} {wa : Addr} {wd : Wd} : valV (ownV d wa) (Sum.inr (wdS wd)) = some (ownAt d wa wd) := by
  cases wd <;> rfl
def badI (d : Md) : Wd → Int
  | .least => d.greatest + 1
  | .greatest => 1000000000 + 1
  | .pace => 0
  | .gain => 1000000000 + 1
  | .place => d.least - 1
  | .lane => 10
  | .at_ => -1000000000 - 1
  | .wide => 1000000 + 1
  | .tall => 0
  | .walls => 0
def loI (d : Md) : Wd → Int
  | .least => -1000000000
  | .greatest => d.least
  | .pace => 1
  | .gain => 1
  | .place => d.least
  | .lane => 0
  | .at_ => -1000000000
  | .wide => 1
  | .tall => 1
  | .walls => 0
def hiI (d : Md) : Wd → Int
  | .least => d.greatest
  | .greatest => 1000000000
  | .pace => 1000000000
  | .gain => 1000000000
  | .place => d.greatest
  | .lane => 9
  | .at_ => 1000000000
  | .wide => 1000000
  | .tall => 1000000
  | .walls => 0
def badL (d : Md) : List (Key × V) := [(Sum.inr "least", .int (d.greatest + 1)), (Sum.inr "greatest", .int (1000000000 + 1)), (Sum.inr "pace", .int (0)), (Sum.inr "gain", .int (1000000000 + 1)), (Sum.inr "lane", .int (10)), (Sum.inr "place", .int (d.least - 1)), (Sum.inr "at", .int (-1000000000 - 1)), (Sum.inr "wide", .int (1000000 + 1)), (Sum.inr "tall", .int (0))]
theorem bad_at {d : Md} {wd : Wd} (h : wd ≠ .walls) : valV (badL d) (Sum.inr (wdS wd)) = some (.int (badI d wd)) := by
  cases wd <;> first | rfl | exact absurd rfl h
theorem bad_walls {d : Md} : valV (badL d) (Sum.inr (wdS .walls)) = none := rfl
/-- the kinds that have it -/
def hasW : Kd → Wd → Bool
  | .line, .walls => false
  | .wagon, .walls => false
  | .wagon, .at_ => false
  | .trap, .walls => false
  | .trap, .tall => false
  | .floor, .at_ => false
  | .floor, .wide => false
  | .floor, .tall => false
  | _, _ => true
theorem whole_out {v : V} {l m : Int} (h : ∀ i, v = .int i → i < l ∨ m < i) : wholeV v l m = false := by
  cases v with
  | int i =>
    show (decide (l ≤ i) && decide (i ≤ m)) = false
    rcases h i rfl with h | h
    · rw [decide_eq_false (by omega)]
      rfl
    · rw [decide_eq_false (p := i ≤ m) (by omega), Bool.and_false]
  | _ => rfl
theorem and_f1 {a b : Bool} (h : a = false) : (a && b) = false := by rw [h, Bool.false_and]
theorem and_f2 {a b : Bool} (h : b = false) : (a && b) = false := by rw [h, Bool.and_false]
/-- out of its bounds the machine is none -/
theorem spoils {d : Md} {wa : Addr} {wd : Wd} {v : V} {r : Option (List Wl)} (g : GoodD d) (hw : hasW d.kd wd = true) (nw : wd ≠ .walls) (h : ∀ i, v = .int i → i < loI d wd ∨ hiI d wd < i) :
    (mOk (selV wd .least v (.int d.least)) (selV wd .greatest v (.int d.greatest)) (selV wd .pace v (.int d.pace)) (selV wd .gain v (.int d.gain)) (selV wd .place v (.int d.place)) && tOk d.kd (selV wd .lane v (.int d.lane)) (selV wd .at_ v (.int d.at_)) (selV wd .wide v (.int d.wide)) (selV wd .tall v (.int d.tall)) r) = false := by
  cases wd with
  | least =>
    refine and_f1 ?_
    cases v with
    | int i =>
      show (wholeV (.int i) (-1000000000) 1000000000 && wholeV (.int d.greatest) i 1000000000 && _ && _) = false
      rcases h i rfl with z | z
      · rw [whole_out (v := .int i) fun j e => by cases e; exact .inl z]
        simp
      · rw [whole_out (v := .int d.greatest) (l := i) fun j e => by cases e; exact .inl z]
        simp
    | _ => rfl
  | greatest =>
    refine and_f1 ?_
    cases v with
    | int i =>
      show (_ && wholeV (.int i) d.least 1000000000 && _ && _) = false
      rw [show wholeV (.int i) d.least 1000000000 = false from whole_out h]
      simp
    | _ => rfl
  | pace =>
    refine and_f1 ?_
    show (_ && _ && (wholeV v 1 1000000000 && _) && _) = false
    rw [show wholeV v 1 1000000000 = false from whole_out h]
    simp
  | gain =>
    refine and_f1 ?_
    show (_ && _ && (_ && wholeV v 1 1000000000) && _) = false
    rw [show wholeV v 1 1000000000 = false from whole_out h]
    simp
  | place =>
    refine and_f1 ?_
    show (_ && _ && _ && wholeV v d.least d.greatest) = false
    rw [show wholeV v d.least d.greatest = false from whole_out h]
    simp
  | lane =>
    refine and_f2 ?_
    unfold tOk tLine tWagon tTrap
    have z : wholeV v 0 9 = false := whole_out h
    cases d.kd <;> (dsimp only [selV]; simp [z])
  | at_ =>
    refine and_f2 ?_
    have z : wholeV v (-1000000000) 1000000000 = false := whole_out h
    cases e : d.kd with
    | line => unfold tOk tLine; dsimp only [selV]; simp [z]
    | trap => unfold tOk tTrap; dsimp only [selV]; simp [z]
    | wagon => rw [e] at hw; cases hw
    | floor => rw [e] at hw; cases hw
  | wide =>
    refine and_f2 ?_
    have z : wholeV v 1 1000000 = false := whole_out h
    cases e : d.kd with
    | line => unfold tOk tLine; dsimp only [selV]; simp [z]
    | trap => unfold tOk tTrap; dsimp only [selV]; simp [z]
    | wagon => unfold tOk tWagon; dsimp only [selV]; simp [z]
    | floor => rw [e] at hw; cases hw
  | tall =>
    refine and_f2 ?_
    have z : wholeV v 1 1000000 = false := whole_out h
    cases e : d.kd with
    | line => unfold tOk tLine; dsimp only [selV]; simp [z]
    | wagon => unfold tOk tWagon; dsimp only [selV]; simp [z]
    | trap => rw [e] at hw; cases hw
    | floor => rw [e] at hw; cases hw
  | walls => exact absurd rfl nw
theorem walls_is {H : Hp} {wa : Addr} {xs : List V} {ws : List Wl} (hw : H wa = some (.lst xs)) (tw : TupW H xs ws) (k0 : 1 ≤ ws.length) (k4 : ws.length ≤ 4) (ok : ∀ w ∈ ws, WlOk w) : WallsIs H (.ref wa) (some ws) := by
  refine .inr ⟨wa, xs, ws.map some, rfl, hw, by rw [tw.1]; omega, by rw [List.length_map, tw.1], fun i y o h1 h2 => ?_, .inr ⟨ws, rfl, k0, k4, rfl⟩⟩
  rw [List.getElem?_map] at h2
  obtain ⟨wl, h3, rfl⟩ := Option.map_eq_some_iff.mp h2
  obtain ⟨b, rfl, hb⟩ := tw.2 i y wl h1 h3
  refine .inl ⟨b, wlV wl, rfl, hb, by show 3 ≤ 100; decide, fun z hz => ?_, wallV_of (ok wl (List.mem_of_getElem? h3))⟩
  simp only [wlV, List.mem_cons, List.not_mem_nil, or_false] at hz
  rcases hz with rfl | rfl | rfl <;> exact ⟨_, .int _⟩
theorem cpw40 : CPow 10 40 := ⟨by decide, by decide, by decide⟩
def plV : V → Bool
  | .int _ => true
  | .non => true
  | .bl _ => true
  | _ => false
theorem pl_sv {H : Hp} {y : V} (h : plV y = true) : ∃ s, Sv H y s := by
  cases y with
  | int i => exact ⟨_, .int i⟩
  | non => exact ⟨_, .non⟩
  | bl b => exact ⟨_, .bl b⟩
  | _ => cases h
theorem no_wall {H : Hp} {t : Addr} {ys : List V} (ht : H t = some (.tup ys)) (h1 : ys.length ≤ 100) (h2 : ys.all plV = true) (h3 : wallV ys = none) : WallIs H (.ref t) none :=
  .inl ⟨t, ys, rfl, ht, h1, fun y hy => pl_sv (List.all_eq_true.mp h2 y hy), h3⟩
theorem Ls.trans {H1 H2 H3 : Hp} (a : Ls H1 H2) (b : Ls H2 H3) : Ls H1 H3 := ⟨fun _ _ h => b.1 _ _ (a.1 _ _ h), fun _ _ h => b.2 _ _ (a.2 _ _ h)⟩
theorem ls_chg {H H' : Hp} {p : Addr} {kvs : List (Key × V)} (h : H p = some (.dK kvs)) (k : ∀ b, b ≠ p → H' b = H b) : Ls H H' :=
  ⟨fun b xs hb => (k b fun z => by rw [z, h] at hb; cases hb).trans hb, fun b xs hb => (k b fun z => by rw [z, h] at hb; cases hb).trans hb⟩
theorem wd_walls {wd : Wd} : decide (wdS wd = "walls") = decide (wd = .walls) := by cases wd <;> decide +kernel
theorem bad_out {d : Md} {wd : Wd} (g : GoodD d) (nw : wd ≠ .walls) : badI d wd < loI d wd ∨ hiI d wd < badI d wd := by
  have := g.l0
  have := g.lg
  cases wd <;> (try exact absurd rfl nw) <;> (simp only [badI, loI, hiI]; omega)
theorem lo_big {d : Md} {wd : Wd} (g : GoodD d) (nw : wd ≠ .walls) : (-10000000000000000000000000000000000000000 : Int) < loI d wd := by
  have := g.l0
  cases wd <;> (simp only [loI]; omega)
theorem cut3 (xs : List V) : cutV xs none (some 3) = xs.take 3 := by
  show (xs.drop 0).take (HT.sIx xs.length xs.length (some ((3 : Nat) : Int)) - 0) = _
  rw [HT.sIx_nat, List.drop_zero, Nat.sub_zero, List.take_eq_take_iff]
  omega
def L0 : List V := [.str "least", .str "greatest", .str "pace", .str "gain", .str "place", .str "lane"]
def L3 (k : Kd) : List V := match k with
  | .line => L0 ++ [.str "at"]
  | .trap => L0 ++ [.str "at"]
  | _ => L0
def L4 (k : Kd) : List V := match k with
  | .floor => L3 k ++ [.str "walls"]
  | _ => L3 k ++ [.str "wide"]
def L5 (k : Kd) : List V := match k with
  | .line => L4 k ++ [.str "tall"]
  | .wagon => L4 k ++ [.str "tall"]
  | _ => L4 k
theorem in_at (k : Kd) : inV (.str (kdS k)) [.str "line", .str "trap"] = (decide (k = .line) || decide (k = .trap)) := by cases k <;> decide +kernel
theorem in_tall (k : Kd) : inV (.str (kdS k)) [.str "line", .str "wagon"] = (decide (k = .line) || decide (k = .wagon)) := by cases k <;> decide +kernel
theorem L5_len (k : Kd) : 7 ≤ (L5 k).length ∧ (L5 k).length ≤ 9 := by cases k <;> decide
theorem L5_at (k : Kd) {i : Int} (h0 : 0 ≤ i) (h1 : i < (L5 k).length) : ∃ wd : Wd, atI (L5 k) i = some (.str (wdS wd)) ∧ hasW k wd = true := by
  have c : i = 0 ∨ i = 1 ∨ i = 2 ∨ i = 3 ∨ i = 4 ∨ i = 5 ∨ i = 6 ∨ i = 7 ∨ i = 8 := by
    have := (L5_len k).2
    omega
  cases k with
  | line => rcases c with rfl | rfl | rfl | rfl | rfl | rfl | rfl | rfl | rfl
            · exact ⟨.least, rfl, rfl⟩
            · exact ⟨.greatest, rfl, rfl⟩
            · exact ⟨.pace, rfl, rfl⟩
            · exact ⟨.gain, rfl, rfl⟩
            · exact ⟨.place, rfl, rfl⟩
            · exact ⟨.lane, rfl, rfl⟩
            · exact ⟨.at_, rfl, rfl⟩
            · exact ⟨.wide, rfl, rfl⟩
            · exact ⟨.tall, rfl, rfl⟩
  | wagon => rcases c with rfl | rfl | rfl | rfl | rfl | rfl | rfl | rfl | rfl
             · exact ⟨.least, rfl, rfl⟩
             · exact ⟨.greatest, rfl, rfl⟩
             · exact ⟨.pace, rfl, rfl⟩
             · exact ⟨.gain, rfl, rfl⟩
             · exact ⟨.place, rfl, rfl⟩
             · exact ⟨.lane, rfl, rfl⟩
             · exact ⟨.wide, rfl, rfl⟩
             · exact ⟨.tall, rfl, rfl⟩
             · exact absurd h1 (by decide)
  | trap => rcases c with rfl | rfl | rfl | rfl | rfl | rfl | rfl | rfl | rfl
            · exact ⟨.least, rfl, rfl⟩
            · exact ⟨.greatest, rfl, rfl⟩
            · exact ⟨.pace, rfl, rfl⟩
            · exact ⟨.gain, rfl, rfl⟩
            · exact ⟨.place, rfl, rfl⟩
            · exact ⟨.lane, rfl, rfl⟩
            · exact ⟨.at_, rfl, rfl⟩
            · exact ⟨.wide, rfl, rfl⟩
            · exact absurd h1 (by decide)
  | floor => rcases c with rfl | rfl | rfl | rfl | rfl | rfl | rfl | rfl | rfl
             · exact ⟨.least, rfl, rfl⟩
             · exact ⟨.greatest, rfl, rfl⟩
             · exact ⟨.pace, rfl, rfl⟩
             · exact ⟨.gain, rfl, rfl⟩
             · exact ⟨.place, rfl, rfl⟩
             · exact ⟨.lane, rfl, rfl⟩
             · exact ⟨.walls, rfl, rfl⟩
             · exact absurd h1 (by decide)
             · exact absurd h1 (by decide)
def sp__law_spoilt : Sp := fun vs H Q _ => ∃ (a wa : Addr) (d : Md) (draw : Int), vs = [.ref a, .int draw] ∧ IsO H a wa d ∧ GoodD d ∧ ∀ p n wd v r H', H p = none → Ex H H' → H' p = some (.dK (ownP d wa wd v n)) → Sv' H' n → Sv' H' v → WallsIs H' (selV wd .walls v (.ref wa)) r →
  (mOk (selV wd .least v (.int d.least)) (selV wd .greatest v (.int d.greatest)) (selV wd .pace v (.int d.pace)) (selV wd .gain v (.int d.gain)) (selV wd .place v (.int d.place)) && tOk d.kd (selV wd .lane v (.int d.lane)) (selV wd .at_ v (.int d.at_)) (selV wd .wide v (.int d.wide)) (selV wd .tall v (.int d.tall)) r) = false →
  (n = .str d.name ∨ (nameV n = false ∧ ((∃ z, n = .str z ∧ PyData.strOk z = true) ∨ n = .non ∨ n = .int 5 ∨ ∃ l, n = .ref l ∧ H' l = some (.lst [.str "a"])))) → Q (.ref p) H'
theorem ok__law_spoilt (B : Bt mg cl) {f : Addr} {fd : FuncData} (F : Fun K "_law_spoilt" "_law_spoilt" s__law_spoilt f fd) : FnOk P w K mg base CX0 1 f fd ["_law_own", "_law_draw_here"] sp__law_spoilt := by
  refine F.ok sc__law_spoilt (fun vs H Q E h => ?_) (fun cdv A outer s H vs Q E hr h => ?_)
  · obtain ⟨a, wa, d, draw, rfl, _⟩ := h
    rfl
  · obtain ⟨a, wa, d, draw, rfl, io, g, q⟩ := h
    refine ⟨_, (pss_cons (ps_set (i := 2) sc__law_spoilt.nd rfl (.inl rfl) (pe_callTy call_dictD (by rfl) B.b_dict (by decide +kernel) (pa_cons (pv 0) pa_nil)))
      (pss_cons (ps_set (i := 3) sc__law_spoilt.nd rfl (.inl rfl) (pe_lst (pa_cons pe_str (pa_cons pe_str (pa_cons pe_str (pa_cons pe_str (pa_cons pe_str (pa_cons pe_str pa_nil))))))))
      (pss_cons (ps_if (pt_cmpR (k_inS (K := K) rfl) (pe_dget (hu_of hr) (pv 0) pe_str (fun _ _ => rfl)) (pe_tup (pa_cons pe_str (pa_cons pe_str pa_nil))) (by with_unfolding_all rfl))
        (pss_one (ps_set (i := 3) sc__law_spoilt.nd rfl (.inl rfl) (pe_op (k_catS (K := K) rfl) (pv 3) (pe_lst (pa_cons pe_str pa_nil)))))
        pss_nil)
      (pss_cons (ps_set (i := 3) sc__law_spoilt.nd rfl (.inl rfl) (pe_op (k_catS (K := K) rfl) (pv 3) (pe_ifExp (pt_cmpR op_eq (pe_dget (hu_of hr) (pv 0) pe_str (fun _ _ => rfl)) pe_str (nomark _)) (pe_lst (pa_cons pe_str pa_nil)) (pe_lst (pa_cons pe_str pa_nil)))))
      (pss_cons (ps_if (pt_cmpR (k_inS (K := K) rfl) (pe_dget (hu_of hr) (pv 0) pe_str (fun _ _ => rfl)) (pe_tup (pa_cons pe_str (pa_cons pe_str pa_nil))) (by with_unfolding_all rfl))
        (pss_one (ps_set (i := 3) sc__law_spoilt.nd rfl (.inl rfl) (pe_op (k_catS (K := K) rfl) (pv 3) (pe_lst (pa_cons pe_str pa_nil)))))
        pss_nil)
      (pss_cons (ps_set (i := 4) sc__law_spoilt.nd rfl (.inl rfl) (pe_ix (k_ixl (K := K) rfl) (pv 3) (pe_op op_mod (pv 1) (pe_callB (k_len (K := K) rfl) (by rfl) B.b_len (by decide +kernel) (pa_cons (pv 3) pa_nil))) (fun _ _ => rfl)))
      (pss_cons (ps_set (i := 5) sc__law_spoilt.nd rfl (.inl rfl) (pe_disp (pps_cons pe_str (pe_op op_add (pe_dget (hu_of hr) (pv 0) pe_str (fun _ _ => rfl)) pe_int) (pps_cons pe_str (pe_op op_add (pe_op op_pow pe_int pe_int) pe_int) (pps_cons pe_str pe_int (pps_cons pe_str (pe_op op_add (pe_op op_pow pe_int pe_int) pe_int) (pps_cons pe_str pe_int pps_nil))))) (by rfl) (by rfl) (by simp) (by decide)))
      (pss_cons (ps_expr (pe_bm PySem.F.plainAttrs_dict PySem.F.slot_dict_update PySem.F.type_dict_update mt_dupdate (pv 5) (pa_cons (pe_disp (pps_cons pe_str (pe_op op_sub (pe_dget (hu_of hr) (pv 0) pe_str (fun _ _ => rfl)) pe_int) (pps_cons pe_str (pe_op op_sub (pe_un un_neg (pe_op op_pow pe_int pe_int)) pe_int) (pps_cons pe_str (pe_op op_add (pe_op op_pow pe_int pe_int) pe_int) (pps_cons pe_str pe_int pps_nil)))) (by rfl) (by rfl) (by simp) (by decide)) pa_nil)))
      (pss_cons (ps_set (i := 6) sc__law_spoilt.nd rfl (.inl rfl) (pe_ix (k_ixl (K := K) rfl) (pe_lst (pa_cons (pe_tup (pa_cons pe_int (pa_cons pe_int (pa_cons pe_int pa_nil)))) (pa_cons (pe_tup (pa_cons pe_int (pa_cons pe_int (pa_cons pe_int pa_nil)))) (pa_cons (pe_tup (pa_cons pe_int (pa_cons pe_int (pa_cons (pe_op op_add (pe_op op_pow pe_int pe_int) pe_int) pa_nil)))) (pa_cons (pe_tup (pa_cons pe_int (pa_cons pe_int pa_nil))) (pa_cons (pe_lst (pa_cons pe_int (pa_cons pe_int (pa_cons pe_int pa_nil)))) (pa_cons (pe_tup (pa_cons pe_bl (pa_cons pe_int (pa_cons pe_int pa_nil)))) (pa_cons (pe_tup (pa_cons pe_int (pa_cons pe_non (pa_cons pe_int pa_nil)))) pa_nil)))))))) (pe_op op_mod (pe_op op_fdivW (pv 1) pe_int) pe_int) (fun _ _ => rfl)))
      (pss_cons (ps_set (i := 7) sc__law_spoilt.nd rfl (.inl rfl) (pe_lst (pa_cons (pe_dget2 (hu_of hr) (pv 5) (pv 4) (pe_op (k_catS (K := K) rfl) (pe_dget (hu_of hr) (pv 0) pe_str (fun _ _ => rfl)) (pe_lst (pa_cons (pv 6) pa_nil))) ⟨rfl, rfl, rfl, rfl⟩) (pa_cons pe_non (pa_cons pe_bl (pa_cons pe_str (pa_cons (pe_lst (pa_cons (pe_dget1 (hu_of hr) (pv 0) (pv 4) ⟨rfl, rfl, rfl, rfl⟩) pa_nil)) (pa_cons (pe_un un_neg (pe_op op_pow pe_int pe_int)) pa_nil))))))))
      (pss_cons (ps_if (pt_cmpR op_eq (pv 4) pe_str (nomark _))
        (pss_one (ps_set (i := 7) sc__law_spoilt.nd rfl (.inl rfl) (pe_lst (pa_cons (pe_op (k_catS (K := K) rfl) (pe_slice (k_sll (K := K) rfl) (pe_dget (hu_of hr) (pv 0) pe_str (fun _ _ => rfl)) po_none (po_some pe_int)) (pe_lst (pa_cons (pv 6) pa_nil))) (pa_cons (pe_lst pa_nil) (pa_cons (pe_callTy (k_tupof (K := K) rfl) (by rfl) B.b_tuple (by decide +kernel) (pa_cons (pe_dget (hu_of hr) (pv 0) pe_str (fun _ _ => rfl)) pa_nil)) (pa_cons pe_non (pa_cons (pe_op op_repE (pe_lst (pa_cons (pe_tup (pa_cons pe_int (pa_cons pe_int (pa_cons pe_int pa_nil)))) pa_nil)) pe_int) (pa_cons pe_int pa_nil)))))))))
        pss_nil)
      (pss_cons (ps_dput (hu_of hr) (pv 2) (pv 4) (pe_ix (k_ixl (K := K) rfl) (pv 7) (pe_op op_mod (pe_op op_fdivW (pv 1) pe_int) pe_int) (fun _ _ => rfl)) (by rfl))
      (pss_cons (ps_if (pt_cmpR op_eq (pe_op op_mod (pe_op op_fdivW (pv 1) pe_int) pe_int) pe_int (nomark _))
        (pss_one (ps_dput (hu_of hr) (pv 2) pe_str (pe_ix (k_ixl (K := K) rfl) (pe_lst (pa_cons pe_str (pa_cons pe_str (pa_cons pe_str (pa_cons pe_str (pa_cons pe_non (pa_cons pe_int (pa_cons (pe_lst (pa_cons pe_str pa_nil)) (pa_cons pe_str pa_nil))))))))) (pe_op op_mod (pe_op op_fdivW (pv 1) pe_int) pe_int) (fun _ _ => rfl)) (by rfl)))
        pss_nil)
      (pss_one (ps_ret (pv 2)))))))))))))))), ?_⟩
    obtain ⟨ho, xs, hw, tw⟩ := id io
    have rd : ∀ {H' : Hp} {z : Str} {v : V}, Ex H H' → valV (ownV d wa) (Sum.inr z) = some v → DGet H' a (.str z) (some v) := fun {H' z v} e y => .inl ⟨_, Sum.inr z, .inl (e _ _ ho), rfl, y.symm⟩
    refine cut_eq fun N1 hN1 => ?_
    simp only [tSeq, tIfS, tOr, tAnd, tNot, tB, tTest, tCB, tCall, tCons, tVar, tNil, tC, tRet, tRetN, tNext, tAsg, gName, tDrop, tOp, tUn, tAug, ipI, tPar, tIf, tAndV, tOrV, tNotV, tChain, tNever, rI0, rI, rU, L2.start, cxK, List.map_cons, List.map_nil, List.length_cons, List.length_nil, Nat.reduceAdd, Nat.reduceSub, List.replicate, List.cons_append, List.nil_append, List.append_nil, List.set_cons_zero, List.set_cons_succ, List.getElem?_cons_zero, List.getElem?_cons_succ, Option.some.injEq, V.int.injEq, V.bl.injEq, exists_eq_left', exists_eq_left, exists_and_left, tFor_eq, iRng1, iRng2, iRng3, iList, iEnum, iZip, iTup, tLst_eq, tTup_eq, rCat_eq, rCatS, rSum, rAppend_eq, rListOf, rSlL_eq, tSl, tNoPart, tPart, tLc_eq, tBM, rIxL, rIxT, min3_eq, rEq_int, rNe_int, min_if, max_if, and_assoc, V.ref.injEq, V.str.injEq, List.cons.injEq, and_true, true_and, ↓reduceIte, Bool.false_eq_true, Bool.not_true, Bool.not_false, Int.reduceToNat, Int.reducePow, Int.reduceAdd, Int.reduceSub, Int.reduceNeg, tVirt, tOff, tFld, sFld_eq, tMake_eq, rTupOf, iStr, rNe_str, rEq_str, rEq_bl, tRaise1, tFmt, tJs, tCallS, WE, wKeep_eq, reduceCtorEq, false_and, and_false, exists_false, or_false, false_or, tIsN, tNotN, decide_true, decide_false, tDictN]
    refine ⟨_, .inl ho, fun p np => ?_⟩
    obtain ⟨H1, hH1⟩ : ∃ H1, H1 = upd H p (.dK (ownV d wa)) := ⟨_, rfl⟩
    have e1 : Ex H H1 := by rw [hH1]; exact Ex.new np
    have h1 : H1 p = some (.dK (ownV d wa)) := by rw [hH1]; exact upd_same
    rw [← hH1, ← hN1]
    clear hN1 hH1
    refine cut_eq fun N1 hN1 => ?_
    simp only [tSeq, tIfS, tOr, tAnd, tNot, tB, tTest, tCB, tCall, tCons, tVar, tNil, tC, tRet, tRetN, tNext, tAsg, gName, tDrop, tOp, tUn, tAug, ipI, tPar, tIf, tAndV, tOrV, tNotV, tChain, tNever, rI0, rI, rU, L2.start, cxK, List.map_cons, List.map_nil, List.length_cons, List.length_nil, Nat.reduceAdd, Nat.reduceSub, List.replicate, List.cons_append, List.nil_append, List.append_nil, List.set_cons_zero, List.set_cons_succ, List.getElem?_cons_zero, List.getElem?_cons_succ, Option.some.injEq, V.int.injEq, V.bl.injEq, exists_eq_left', exists_eq_left, exists_and_left, tFor_eq, iRng1, iRng2, iRng3, iList, iEnum, iZip, iTup, tLst_eq, tTup_eq, rCat_eq, rCatS, rSum, rAppend_eq, rListOf, rSlL_eq, tSl, tNoPart, tPart, tLc_eq, tBM, rIxL, rIxT, min3_eq, rEq_int, rNe_int, min_if, max_if, and_assoc, V.ref.injEq, V.str.injEq, List.cons.injEq, and_true, true_and, ↓reduceIte, Bool.false_eq_true, Bool.not_true, Bool.not_false, Int.reduceToNat, Int.reducePow, Int.reduceAdd, Int.reduceSub, Int.reduceNeg, tVirt, tOff, tFld, sFld_eq, tMake_eq, rTupOf, iStr, rNe_str, rEq_str, rEq_bl, tRaise1, tFmt, tJs, tCallS, WE, wKeep_eq, reduceCtorEq, false_and, and_false, exists_false, or_false, false_or, tIsN, tNotN, decide_true, decide_false, tDictN]
    refine ⟨sz_of (by decide), new_of fun s1 H2 ns1 e2 hs1 => ?_⟩
    have e02 := e1.trans e2
    rw [← hN1]
    clear hN1
    refine cut_eq fun N1 hN1 => ?_
    simp only [tSeq, tIfS, tOr, tAnd, tNot, tB, tTest, tCB, tCall, tCons, tVar, tNil, tC, tRet, tRetN, tNext, tAsg, gName, tDrop, tOp, tUn, tAug, ipI, tPar, tIf, tAndV, tOrV, tNotV, tChain, tNever, rI0, rI, rU, L2.start, cxK, List.map_cons, List.map_nil, List.length_cons, List.length_nil, Nat.reduceAdd, Nat.reduceSub, List.replicate, List.cons_append, List.nil_append, List.append_nil, List.set_cons_zero, List.set_cons_succ, List.getElem?_cons_zero, List.getElem?_cons_succ, Option.some.injEq, V.int.injEq, V.bl.injEq, exists_eq_left', exists_eq_left, exists_and_left, tFor_eq, iRng1, iRng2, iRng3, iList, iEnum, iZip, iTup, tLst_eq, tTup_eq, rCat_eq, rCatS, rSum, rAppend_eq, rListOf, rSlL_eq, tSl, tNoPart, tPart, tLc_eq, tBM, rIxL, rIxT, min3_eq, rEq_int, rNe_int, min_if, max_if, and_assoc, V.ref.injEq, V.str.injEq, List.cons.injEq, and_true, true_and, ↓reduceIte, Bool.false_eq_true, Bool.not_true, Bool.not_false, Int.reduceToNat, Int.reducePow, Int.reduceAdd, Int.reduceSub, Int.reduceNeg, tVirt, tOff, tFld, sFld_eq, tMake_eq, rTupOf, iStr, rNe_str, rEq_str, rEq_bl, tRaise1, tFmt, tJs, tCallS, WE, wKeep_eq, reduceCtorEq, false_and, and_false, exists_false, or_false, false_or, tIsN, tNotN, decide_true, decide_false, tDictN, tDGet]
    refine ⟨_, rd e02 own_kind, sz_of (by decide), new_of fun tp H3 ntp e3 htp => ?_⟩
    simp only [tSeq, tIfS, tOr, tAnd, tNot, tB, tTest, tCB, tCall, tCons, tVar, tNil, tC, tRet, tRetN, tNext, tAsg, gName, tDrop, tOp, tUn, tAug, ipI, tPar, tIf, tAndV, tOrV, tNotV, tChain, tNever, rI0, rI, rU, L2.start, cxK, List.map_cons, List.map_nil, List.length_cons, List.length_nil, Nat.reduceAdd, Nat.reduceSub, List.replicate, List.cons_append, List.nil_append, List.append_nil, List.set_cons_zero, List.set_cons_succ, List.getElem?_cons_zero, List.getElem?_cons_succ, Option.some.injEq, V.int.injEq, V.bl.injEq, exists_eq_left', exists_eq_left, exists_and_left, tFor_eq, iRng1, iRng2, iRng3, iList, iEnum, iZip, iTup, tLst_eq, tTup_eq, rCat_eq, rCatS, rSum, rAppend_eq, rListOf, rSlL_eq, tSl, tNoPart, tPart, tLc_eq, tBM, rIxL, rIxT, min3_eq, rEq_int, rNe_int, min_if, max_if, and_assoc, V.ref.injEq, V.str.injEq, List.cons.injEq, and_true, true_and, ↓reduceIte, Bool.false_eq_true, Bool.not_true, Bool.not_false, Int.reduceToNat, Int.reducePow, Int.reduceAdd, Int.reduceSub, Int.reduceNeg, tVirt, tOff, tFld, sFld_eq, tMake_eq, rTupOf, iStr, rNe_str, rEq_str, rEq_bl, tRaise1, tFmt, tJs, tCallS, WE, wKeep_eq, reduceCtorEq, false_and, and_false, exists_false, or_false, false_or, tIsN, tNotN, decide_true, decide_false, tDictN, rIn]
    have go3 : ∀ sl H', Ex H1 H' → H' sl = some (.lst (L3 d.kd)) → N1 [some (.ref a), some (.int draw), some (.ref p), some (.ref sl), none, none, none, none] H' := by
      intro s3 H4 e14 hs3
      have e04 := e1.trans e14
      rw [← hN1]
      clear hN1
      refine cut_eq fun N1 hN1 => ?_
      simp only [tSeq, tIfS, tOr, tAnd, tNot, tB, tTest, tCB, tCall, tCons, tVar, tNil, tC, tRet, tRetN, tNext, tAsg, gName, tDrop, tOp, tUn, tAug, ipI, tPar, tIf, tAndV, tOrV, tNotV, tChain, tNever, rI0, rI, rU, L2.start, cxK, List.map_cons, List.map_nil, List.length_cons, List.length_nil, Nat.reduceAdd, Nat.reduceSub, List.replicate, List.cons_append, List.nil_append, List.append_nil, List.set_cons_zero, List.set_cons_succ, List.getElem?_cons_zero, List.getElem?_cons_succ, Option.some.injEq, V.int.injEq, V.bl.injEq, exists_eq_left', exists_eq_left, exists_and_left, tFor_eq, iRng1, iRng2, iRng3, iList, iEnum, iZip, iTup, tLst_eq, tTup_eq, rCat_eq, rCatS, rSum, rAppend_eq, rListOf, rSlL_eq, tSl, tNoPart, tPart, tLc_eq, tBM, rIxL, rIxT, min3_eq, rEq_int, rNe_int, min_if, max_if, and_assoc, V.ref.injEq, V.str.injEq, List.cons.injEq, and_true, true_and, ↓reduceIte, Bool.false_eq_true, Bool.not_true, Bool.not_false, Int.reduceToNat, Int.reducePow, Int.reduceAdd, Int.reduceSub, Int.reduceNeg, tVirt, tOff, tFld, sFld_eq, tMake_eq, rTupOf, iStr, rNe_str, rEq_str, rEq_bl, tRaise1, tFmt, tJs, tCallS, WE, wKeep_eq, reduceCtorEq, false_and, and_false, exists_false, or_false, false_or, tIsN, tNotN, decide_true, decide_false, tDictN, tDGet]
      have go4 : ∀ sl H', Ex H1 H' → H' sl = some (.lst (L4 d.kd)) → N1 [some (.ref a), some (.int draw), some (.ref p), some (.ref sl), none, none, none, none] H' := by
        intro s4 H5 e15 hs4
        have e05 := e1.trans e15
        rw [← hN1]
        clear hN1
        refine cut_eq fun N1 hN1 => ?_
        simp only [tSeq, tIfS, tOr, tAnd, tNot, tB, tTest, tCB, tCall, tCons, tVar, tNil, tC, tRet, tRetN, tNext, tAsg, gName, tDrop, tOp, tUn, tAug, ipI, tPar, tIf, tAndV, tOrV, tNotV, tChain, tNever, rI0, rI, rU, L2.start, cxK, List.map_cons, List.map_nil, List.length_cons, List.length_nil, Nat.reduceAdd, Nat.reduceSub, List.replicate, List.cons_append, List.nil_append, List.append_nil, List.set_cons_zero, List.set_cons_succ, List.getElem?_cons_zero, List.getElem?_cons_succ, Option.some.injEq, V.int.injEq, V.bl.injEq, exists_eq_left', exists_eq_left, exists_and_left, tFor_eq, iRng1, iRng2, iRng3, iList, iEnum, iZip, iTup, tLst_eq, tTup_eq, rCat_eq, rCatS, rSum, rAppend_eq, rListOf, rSlL_eq, tSl, tNoPart, tPart, tLc_eq, tBM, rIxL, rIxT, min3_eq, rEq_int, rNe_int, min_if, max_if, and_assoc, V.ref.injEq, V.str.injEq, List.cons.injEq, and_true, true_and, ↓reduceIte, Bool.false_eq_true, Bool.not_true, Bool.not_false, Int.reduceToNat, Int.reducePow, Int.reduceAdd, Int.reduceSub, Int.reduceNeg, tVirt, tOff, tFld, sFld_eq, tMake_eq, rTupOf, iStr, rNe_str, rEq_str, rEq_bl, tRaise1, tFmt, tJs, tCallS, WE, wKeep_eq, reduceCtorEq, false_and, and_false, exists_false, or_false, false_or, tIsN, tNotN, decide_true, decide_false, tDictN, tDGet]
        refine ⟨_, rd e05 own_kind, sz_of (by decide), new_of fun tp H6 ntp e6 htp => ?_⟩
        simp only [tSeq, tIfS, tOr, tAnd, tNot, tB, tTest, tCB, tCall, tCons, tVar, tNil, tC, tRet, tRetN, tNext, tAsg, gName, tDrop, tOp, tUn, tAug, ipI, tPar, tIf, tAndV, tOrV, tNotV, tChain, tNever, rI0, rI, rU, L2.start, cxK, List.map_cons, List.map_nil, List.length_cons, List.length_nil, Nat.reduceAdd, Nat.reduceSub, List.replicate, List.cons_append, List.nil_append, List.append_nil, List.set_cons_zero, List.set_cons_succ, List.getElem?_cons_zero, List.getElem?_cons_succ, Option.some.injEq, V.int.injEq, V.bl.injEq, exists_eq_left', exists_eq_left, exists_and_left, tFor_eq, iRng1, iRng2, iRng3, iList, iEnum, iZip, iTup, tLst_eq, tTup_eq, rCat_eq, rCatS, rSum, rAppend_eq, rListOf, rSlL_eq, tSl, tNoPart, tPart, tLc_eq, tBM, rIxL, rIxT, min3_eq, rEq_int, rNe_int, min_if, max_if, and_assoc, V.ref.injEq, V.str.injEq, List.cons.injEq, and_true, true_and, ↓reduceIte, Bool.false_eq_true, Bool.not_true, Bool.not_false, Int.reduceToNat, Int.reducePow, Int.reduceAdd, Int.reduceSub, Int.reduceNeg, tVirt, tOff, tFld, sFld_eq, tMake_eq, rTupOf, iStr, rNe_str, rEq_str, rEq_bl, tRaise1, tFmt, tJs, tCallS, WE, wKeep_eq, reduceCtorEq, false_and, and_false, exists_false, or_false, false_or, tIsN, tNotN, decide_true, decide_false, tDictN, rIn]
        have go5 : ∀ sl H', Ex H1 H' → H' sl = some (.lst (L5 d.kd)) → N1 [some (.ref a), some (.int draw), some (.ref p), some (.ref sl), none, none, none, none] H' := by
          intro s5 H7 e17 hs5
          have e07 := e1.trans e17
          rw [← hN1]
          clear hN1
          refine cut_eq fun N1 hN1 => ?_
          simp only [tSeq, tIfS, tOr, tAnd, tNot, tB, tTest, tCB, tCall, tCons, tVar, tNil, tC, tRet, tRetN, tNext, tAsg, gName, tDrop, tOp, tUn, tAug, ipI, tPar, tIf, tAndV, tOrV, tNotV, tChain, tNever, rI0, rI, rU, L2.start, cxK, List.map_cons, List.map_nil, List.length_cons, List.length_nil, Nat.reduceAdd, Nat.reduceSub, List.replicate, List.cons_append, List.nil_append, List.append_nil, List.set_cons_zero, List.set_cons_succ, List.getElem?_cons_zero, List.getElem?_cons_succ, Option.some.injEq, V.int.injEq, V.bl.injEq, exists_eq_left', exists_eq_left, exists_and_left, tFor_eq, iRng1, iRng2, iRng3, iList, iEnum, iZip, iTup, tLst_eq, tTup_eq, rCat_eq, rCatS, rSum, rAppend_eq, rListOf, rSlL_eq, tSl, tNoPart, tPart, tLc_eq, tBM, rIxL, rIxT, min3_eq, rEq_int, rNe_int, min_if, max_if, and_assoc, V.ref.injEq, V.str.injEq, List.cons.injEq, and_true, true_and, ↓reduceIte, Bool.false_eq_true, Bool.not_true, Bool.not_false, Int.reduceToNat, Int.reducePow, Int.reduceAdd, Int.reduceSub, Int.reduceNeg, tVirt, tOff, tFld, sFld_eq, tMake_eq, rTupOf, iStr, rNe_str, rEq_str, rEq_bl, tRaise1, tFmt, tJs, tCallS, WE, wKeep_eq, reduceCtorEq, false_and, and_false, exists_false, or_false, false_or, tIsN, tNotN, decide_true, decide_false, tDictN]
          have len := L5_len d.kd
          refine ⟨_, .inl (sq_of hs5), show (0 : Int) < ((L5 d.kd).length : Int) by omega, ?_⟩
          have i0 := Int.emod_nonneg draw (show ((L5 d.kd).length : Int) ≠ 0 by omega)
          have i1 := Int.emod_lt_of_pos draw (show (0 : Int) < ((L5 d.kd).length : Int) by omega)
          obtain ⟨wd, ewd, hwd⟩ := L5_at d.kd i0 i1
          refine ⟨_, sq_of hs5, _, ewd, ?_⟩
          rw [← hN1]
          clear hN1 ewd
          refine cut_eq fun N1 hN1 => ?_
          simp only [tSeq, tIfS, tOr, tAnd, tNot, tB, tTest, tCB, tCall, tCons, tVar, tNil, tC, tRet, tRetN, tNext, tAsg, gName, tDrop, tOp, tUn, tAug, ipI, tPar, tIf, tAndV, tOrV, tNotV, tChain, tNever, rI0, rI, rU, L2.start, cxK, List.map_cons, List.map_nil, List.length_cons, List.length_nil, Nat.reduceAdd, Nat.reduceSub, List.replicate, List.cons_append, List.nil_append, List.append_nil, List.set_cons_zero, List.set_cons_succ, List.getElem?_cons_zero, List.getElem?_cons_succ, Option.some.injEq, V.int.injEq, V.bl.injEq, exists_eq_left', exists_eq_left, exists_and_left, tFor_eq, iRng1, iRng2, iRng3, iList, iEnum, iZip, iTup, tLst_eq, tTup_eq, rCat_eq, rCatS, rSum, rAppend_eq, rListOf, rSlL_eq, tSl, tNoPart, tPart, tLc_eq, tBM, rIxL, rIxT, min3_eq, rEq_int, rNe_int, min_if, max_if, and_assoc, V.ref.injEq, V.str.injEq, List.cons.injEq, and_true, true_and, ↓reduceIte, Bool.false_eq_true, Bool.not_true, Bool.not_false, Int.reduceToNat, Int.reducePow, Int.reduceAdd, Int.reduceSub, Int.reduceNeg, tVirt, tOff, tFld, sFld_eq, tMake_eq, rTupOf, iStr, rNe_str, rEq_str, rEq_bl, tRaise1, tFmt, tJs, tCallS, WE, wKeep_eq, reduceCtorEq, false_and, and_false, exists_false, or_false, false_or, tIsN, tNotN, decide_true, decide_false, tDictN, tDisp_eq, tPairs, tDGet]
          refine new_of fun b0 H8 nb0 e8 hb0 => ⟨_, rd (e07.trans e8) own_greatest, _, rfl, cpw, cpw, hb0, [(Sum.inr "least", .int (d.greatest + 1)), (Sum.inr "greatest", .int 1000000001), (Sum.inr "pace", .int 0), (Sum.inr "gain", .int 1000000001), (Sum.inr "lane", .int 10)], rfl, show (5 : Nat) ≤ 15 by decide, chg_of fun H9 k9 h9 => ?_⟩
          replace h9 : H9 b0 = some (.dK [(Sum.inr "least", .int (d.greatest + 1)), (Sum.inr "greatest", .int 1000000001), (Sum.inr "pace", .int 0), (Sum.inr "gain", .int 1000000001), (Sum.inr "lane", .int 10)]) := h9
          have nb1 : H1 b0 = none := fresh_back e17 nb0
          have e19 : Ex H1 H9 := ex_chg (e17.trans e8) nb1 k9
          clear k9 hb0
          rw [← hN1]
          clear hN1
          refine cut_eq fun N1 hN1 => ?_
          simp only [tSeq, tIfS, tOr, tAnd, tNot, tB, tTest, tCB, tCall, tCons, tVar, tNil, tC, tRet, tRetN, tNext, tAsg, gName, tDrop, tOp, tUn, tAug, ipI, tPar, tIf, tAndV, tOrV, tNotV, tChain, tNever, rI0, rI, rU, L2.start, cxK, List.map_cons, List.map_nil, List.length_cons, List.length_nil, Nat.reduceAdd, Nat.reduceSub, List.replicate, List.cons_append, List.nil_append, List.append_nil, List.set_cons_zero, List.set_cons_succ, List.getElem?_cons_zero, List.getElem?_cons_succ, Option.some.injEq, V.int.injEq, V.bl.injEq, exists_eq_left', exists_eq_left, exists_and_left, tFor_eq, iRng1, iRng2, iRng3, iList, iEnum, iZip, iTup, tLst_eq, tTup_eq, rCat_eq, rCatS, rSum, rAppend_eq, rListOf, rSlL_eq, tSl, tNoPart, tPart, tLc_eq, tBM, rIxL, rIxT, min3_eq, rEq_int, rNe_int, min_if, max_if, and_assoc, V.ref.injEq, V.str.injEq, List.cons.injEq, and_true, true_and, ↓reduceIte, Bool.false_eq_true, Bool.not_true, Bool.not_false, Int.reduceToNat, Int.reducePow, Int.reduceAdd, Int.reduceSub, Int.reduceNeg, tVirt, tOff, tFld, sFld_eq, tMake_eq, rTupOf, iStr, rNe_str, rEq_str, rEq_bl, tRaise1, tFmt, tJs, tCallS, WE, wKeep_eq, reduceCtorEq, false_and, and_false, exists_false, or_false, false_or, tIsN, tNotN, decide_true, decide_false, tDictN, tDisp_eq, tPairs, tDGet, rDUpd]
          refine ⟨.inr (.inr (.inl ⟨rfl, .inl ⟨_, h9⟩⟩)), new_of fun b1 H10 nb10 e10 hb1 => ⟨_, rd (e1.trans (e19.trans e10)) own_least, _, rfl, cpw, cpw6, hb1, [(Sum.inr "place", .int (d.least - 1)), (Sum.inr "at", .int (-1000000001)), (Sum.inr "wide", .int 1000001), (Sum.inr "tall", .int 0)], rfl, show (4 : Nat) ≤ 15 by decide, chg_of fun H11 k11 h11 => ?_⟩⟩
          have n01 : b0 ≠ b1 := fun z => by rw [← z, h9] at nb10; cases nb10
          have e111 : Ex H1 H11 := ex_chg (e19.trans e10) (fresh_back e19 nb10) k11
          have h11b : H11 b0 = _ := (k11 b0 n01).trans (e10 _ _ h9)
          refine ⟨n01, _, h11b, _, h11, sz_of (show (5 : Nat) + 4 ≤ 100000 by decide), chg_of fun H12 k12 h12 => ?_⟩
          have e12 : Ex H1 H12 := ex_chg e111 nb1 k12
          replace h12 : H12 b0 = some (.dK (badL d)) := h12
          have e012 := e1.trans e12
          clear k12 h11b k11 h11
          rw [← hN1]
          clear hN1
          refine cut_eq fun N1 hN1 => ?_
          simp only [tSeq, tIfS, tOr, tAnd, tNot, tB, tTest, tCB, tCall, tCons, tVar, tNil, tC, tRet, tRetN, tNext, tAsg, gName, tDrop, tOp, tUn, tAug, ipI, tPar, tIf, tAndV, tOrV, tNotV, tChain, tNever, rI0, rI, rU, L2.start, cxK, List.map_cons, List.map_nil, List.length_cons, List.length_nil, Nat.reduceAdd, Nat.reduceSub, List.replicate, List.cons_append, List.nil_append, List.append_nil, List.set_cons_zero, List.set_cons_succ, List.getElem?_cons_zero, List.getElem?_cons_succ, Option.some.injEq, V.int.injEq, V.bl.injEq, exists_eq_left', exists_eq_left, exists_and_left, tFor_eq, iRng1, iRng2, iRng3, iList, iEnum, iZip, iTup, tLst_eq, tTup_eq, rCat_eq, rCatS, rSum, rAppend_eq, rListOf, rSlL_eq, tSl, tNoPart, tPart, tLc_eq, tBM, rIxL, rIxT, min3_eq, rEq_int, rNe_int, min_if, max_if, and_assoc, V.ref.injEq, V.str.injEq, List.cons.injEq, and_true, true_and, ↓reduceIte, Bool.false_eq_true, Bool.not_true, Bool.not_false, Int.reduceToNat, Int.reducePow, Int.reduceAdd, Int.reduceSub, Int.reduceNeg, tVirt, tOff, tFld, sFld_eq, tMake_eq, rTupOf, iStr, rNe_str, rEq_str, rEq_bl, tRaise1, tFmt, tJs, tCallS, WE, wKeep_eq, reduceCtorEq, false_and, and_false, exists_false, or_false, false_or, tIsN, tNotN, decide_true, decide_false, tDictN]
          refine ⟨sz_of (by decide), new_of fun t1 G1 m1 f1 ht1 => ⟨sz_of (by decide), new_of fun t2 G2 m2 f2 ht2 => ⟨cpw6, sz_of (by decide), new_of fun t3 G3 m3 f3 ht3 => ⟨sz_of (by decide), new_of fun t4 G4 m4 f4 ht4 => ⟨sz_of (by decide), new_of fun t5 G5 m5 f5 ht5 => ⟨sz_of (by decide), new_of fun t6 G6 m6 f6 ht6 => ⟨sz_of (by decide), new_of fun t7 G7 m7 f7 ht7 => ⟨sz_of (by decide), new_of fun t8 G8 m8 f8 ht8 => ⟨cdw (by decide) (by decide), by decide, _, sq_of ht8, ?_⟩⟩⟩⟩⟩⟩⟩⟩⟩
          have x6 := f7.trans f8
          have x5 := f6.trans x6
          have x4 := f5.trans x5
          have x3 := f4.trans x4
          have x2 := f3.trans x3
          have x1 := f2.trans x2
          have e1G : Ex H1 G8 := e12.trans (f1.trans x1)
          have hbG : G8 b0 = some (.dK (badL d)) := (f1.trans x1) _ _ h12
          obtain ⟨sh, esh, wsh, ssh⟩ : ∃ sh, atI [V.ref t1, V.ref t2, V.ref t3, V.ref t4, V.ref t5, V.ref t6, V.ref t7] (draw / 50 % 7) = some sh ∧ WallIs G8 sh none ∧ Sv' G8 sh := by
            have c : draw / 50 % 7 = 0 ∨ draw / 50 % 7 = 1 ∨ draw / 50 % 7 = 2 ∨ draw / 50 % 7 = 3 ∨ draw / 50 % 7 = 4 ∨ draw / 50 % 7 = 5 ∨ draw / 50 % 7 = 6 := by omega
            rcases c with c | c | c | c | c | c | c <;> rw [c]
            · exact ⟨_, rfl, no_wall (x1 _ _ ht1) (by decide) (by decide) (by decide), _, .tup (x1 _ _ ht1)⟩
            · exact ⟨_, rfl, no_wall (x2 _ _ ht2) (by decide) (by decide) (by decide), _, .tup (x2 _ _ ht2)⟩
            · exact ⟨_, rfl, no_wall (x3 _ _ ht3) (by decide) (by decide) (by decide), _, .tup (x3 _ _ ht3)⟩
            · exact ⟨_, rfl, no_wall (x4 _ _ ht4) (by decide) (by decide) (by decide), _, .tup (x4 _ _ ht4)⟩
            · exact ⟨_, rfl, .inr ⟨_, .lst (x5 _ _ ht5), by decide, rfl⟩, _, .lst (x5 _ _ ht5)⟩
            · exact ⟨_, rfl, no_wall (x6 _ _ ht6) (by decide) (by decide) (by decide), _, .tup (x6 _ _ ht6)⟩
            · exact ⟨_, rfl, no_wall (f8 _ _ ht7) (by decide) (by decide) (by decide), _, .tup (f8 _ _ ht7)⟩
          refine ⟨_, esh, ?_⟩
          clear esh ht1 ht2 ht3 ht4 ht5 ht6 ht7 ht8 x1 x2 x3 x4 x5 x6 f1 f2 f3 f4 f5 f6 f7 f8
          rw [← hN1]
          clear hN1
          refine cut_eq fun N1 hN1 => ?_
          simp only [tSeq, tIfS, tOr, tAnd, tNot, tB, tTest, tCB, tCall, tCons, tVar, tNil, tC, tRet, tRetN, tNext, tAsg, gName, tDrop, tOp, tUn, tAug, ipI, tPar, tIf, tAndV, tOrV, tNotV, tChain, tNever, rI0, rI, rU, L2.start, cxK, List.map_cons, List.map_nil, List.length_cons, List.length_nil, Nat.reduceAdd, Nat.reduceSub, List.replicate, List.cons_append, List.nil_append, List.append_nil, List.set_cons_zero, List.set_cons_succ, List.getElem?_cons_zero, List.getElem?_cons_succ, Option.some.injEq, V.int.injEq, V.bl.injEq, exists_eq_left', exists_eq_left, exists_and_left, tFor_eq, iRng1, iRng2, iRng3, iList, iEnum, iZip, iTup, tLst_eq, tTup_eq, rCat_eq, rCatS, rSum, rAppend_eq, rListOf, rSlL_eq, tSl, tNoPart, tPart, tLc_eq, tBM, rIxL, rIxT, min3_eq, rEq_int, rNe_int, min_if, max_if, and_assoc, V.ref.injEq, V.str.injEq, List.cons.injEq, and_true, true_and, ↓reduceIte, Bool.false_eq_true, Bool.not_true, Bool.not_false, Int.reduceToNat, Int.reducePow, Int.reduceAdd, Int.reduceSub, Int.reduceNeg, tVirt, tOff, tFld, sFld_eq, tMake_eq, rTupOf, iStr, rNe_str, rEq_str, rEq_bl, tRaise1, tFmt, tJs, tCallS, WE, wKeep_eq, reduceCtorEq, false_and, and_false, exists_false, or_false, false_or, tIsN, tNotN, decide_true, decide_false, tDictN, tDGet, tDGet1, tDGet2]
          have e0G : Ex H G8 := e1.trans e1G
          have xl : xs.length ≤ 4 := by rw [tw.1]; exact g.k4
          refine ⟨.inl ⟨_, .inl hbG⟩, _, rd e0G own_walls, sz_of (by decide), new_of fun q1 G1 n1 f1 hq1 => ⟨_, rfl, _, sq_of ((e0G.trans f1) _ _ hw), _, sq_of hq1, sz_of (by show xs.length + 1 ≤ _; omega), new_of fun q2 G2 n2 f2 hq2 => ⟨_, .inl ⟨_, Sum.inr (wdS wd), .inl ((f1.trans f2) _ _ hbG), rfl, rfl⟩, .inl ⟨_, .inl ((e0G.trans (f1.trans f2)) _ _ ho)⟩, _, rd (e0G.trans (f1.trans f2)) own_at_wd, sz_of (by decide), new_of fun q3 G3 n3 f3 hq3 => ⟨cpw40, sz_of (by decide), new_of fun q4 G4 n4 f4 hq4 => ?_⟩⟩⟩⟩
          have f04 := (f1.trans f2).trans (f3.trans f4)
          have e14G := e1G.trans f04
          have e04G := e1.trans e14G
          rw [← hN1]
          clear hN1
          refine cut_eq fun N1 hN1 => ?_
          have go6 : ∀ sl G ys, Ex H1 G → G sl = some (.lst ys) → (∀ i : Int, 0 ≤ i → i < 6 → ∃ v r, atI ys i = some v ∧ Sv' G v ∧ WallsIs G (selV wd .walls v (.ref wa)) r ∧ (mOk (selV wd .least v (.int d.least)) (selV wd .greatest v (.int d.greatest)) (selV wd .pace v (.int d.pace)) (selV wd .gain v (.int d.gain)) (selV wd .place v (.int d.place)) && tOk d.kd (selV wd .lane v (.int d.lane)) (selV wd .at_ v (.int d.at_)) (selV wd .wide v (.int d.wide)) (selV wd .tall v (.int d.tall)) r) = false) → N1 [some (.ref a), some (.int draw), some (.ref p), some (.ref s5), some (.str (wdS wd)), some (.ref b0), some sh, some (.ref sl)] G := by
            intro sl G ys e1G hsl ok6
            rw [← hN1]
            clear hN1
            refine cut_eq fun N1 hN1 => ?_
            obtain ⟨v, r, hv, sv, wi, no⟩ := ok6 (draw / 400 % 6) (by omega) (by omega)
            simp only [tSeq, tIfS, tOr, tAnd, tNot, tB, tTest, tCB, tCall, tCons, tVar, tNil, tC, tRet, tRetN, tNext, tAsg, gName, tDrop, tOp, tUn, tAug, ipI, tPar, tIf, tAndV, tOrV, tNotV, tChain, tNever, rI0, rI, rU, L2.start, cxK, List.map_cons, List.map_nil, List.length_cons, List.length_nil, Nat.reduceAdd, Nat.reduceSub, List.replicate, List.cons_append, List.nil_append, List.append_nil, List.set_cons_zero, List.set_cons_succ, List.getElem?_cons_zero, List.getElem?_cons_succ, Option.some.injEq, V.int.injEq, V.bl.injEq, exists_eq_left', exists_eq_left, exists_and_left, tFor_eq, iRng1, iRng2, iRng3, iList, iEnum, iZip, iTup, tLst_eq, tTup_eq, rCat_eq, rCatS, rSum, rAppend_eq, rListOf, rSlL_eq, tSl, tNoPart, tPart, tLc_eq, tBM, rIxL, rIxT, min3_eq, rEq_int, rNe_int, min_if, max_if, and_assoc, V.ref.injEq, V.str.injEq, List.cons.injEq, and_true, true_and, ↓reduceIte, Bool.false_eq_true, Bool.not_true, Bool.not_false, Int.reduceToNat, Int.reducePow, Int.reduceAdd, Int.reduceSub, Int.reduceNeg, tVirt, tOff, tFld, sFld_eq, tMake_eq, rTupOf, iStr, rNe_str, rEq_str, rEq_bl, tRaise1, tFmt, tJs, tCallS, WE, wKeep_eq, reduceCtorEq, false_and, and_false, exists_false, or_false, false_or, tIsN, tNotN, decide_true, decide_false, tDictN, sDPut]
            refine ⟨cdw (by decide) (by decide), by decide, _, sq_of hsl, _, hv, ?_⟩
            refine dput_chg (e1G _ _ h1) (show (12 : Nat) < 100000 by decide) put_odd fun G2 k2 h2 => ?_
            have eG2 : Ex H G2 := ex_chg (e1.trans e1G) np k2
            have ls : Ls G G2 := ls_chg (e1G _ _ h1) k2
            rw [← hN1]
            clear hN1
            refine cut_eq fun N1 hN1 => ?_
            have go7 : ∀ n G3, Ex H G3 → Ls G2 G3 → G3 p = some (.dK (ownP d wa wd v n)) → Sv' G3 n → (n = .str d.name ∨ (nameV n = false ∧ ((∃ z, n = .str z ∧ PyData.strOk z = true) ∨ n = .non ∨ n = .int 5 ∨ ∃ l, n = .ref l ∧ G3 l = some (.lst [.str "a"])))) → N1 [some (.ref a), some (.int draw), some (.ref p), some (.ref s5), some (.str (wdS wd)), some (.ref b0), some sh, some (.ref sl)] G3 := by
              intro n G3 e3 l3 h3 sn alt
              rw [← hN1]
              simp only [tSeq, tIfS, tOr, tAnd, tNot, tB, tTest, tCB, tCall, tCons, tVar, tNil, tC, tRet, tRetN, tNext, tAsg, gName, tDrop, tOp, tUn, tAug, ipI, tPar, tIf, tAndV, tOrV, tNotV, tChain, tNever, rI0, rI, rU, L2.start, cxK, List.map_cons, List.map_nil, List.length_cons, List.length_nil, Nat.reduceAdd, Nat.reduceSub, List.replicate, List.cons_append, List.nil_append, List.append_nil, List.set_cons_zero, List.set_cons_succ, List.getElem?_cons_zero, List.getElem?_cons_succ, Option.some.injEq, V.int.injEq, V.bl.injEq, exists_eq_left', exists_eq_left, exists_and_left, tFor_eq, iRng1, iRng2, iRng3, iList, iEnum, iZip, iTup, tLst_eq, tTup_eq, rCat_eq, rCatS, rSum, rAppend_eq, rListOf, rSlL_eq, tSl, tNoPart, tPart, tLc_eq, tBM, rIxL, rIxT, min3_eq, rEq_int, rNe_int, min_if, max_if, and_assoc, V.ref.injEq, V.str.injEq, List.cons.injEq, and_true, true_and, ↓reduceIte, Bool.false_eq_true, Bool.not_true, Bool.not_false, Int.reduceToNat, Int.reducePow, Int.reduceAdd, Int.reduceSub, Int.reduceNeg, tVirt, tOff, tFld, sFld_eq, tMake_eq, rTupOf, iStr, rNe_str, rEq_str, rEq_bl, tRaise1, tFmt, tJs, tCallS, WE, wKeep_eq, reduceCtorEq, false_and, and_false, exists_false, or_false, false_or, tIsN, tNotN, decide_true, decide_false, tDictN]
              exact q p n wd v r G3 np e3 h3 sn (sv.mono (ls.trans l3)) (wi.mono (ls.trans l3)) no alt
            simp only [tSeq, tIfS, tOr, tAnd, tNot, tB, tTest, tCB, tCall, tCons, tVar, tNil, tC, tRet, tRetN, tNext, tAsg, gName, tDrop, tOp, tUn, tAug, ipI, tPar, tIf, tAndV, tOrV, tNotV, tChain, tNever, rI0, rI, rU, L2.start, cxK, List.map_cons, List.map_nil, List.length_cons, List.length_nil, Nat.reduceAdd, Nat.reduceSub, List.replicate, List.cons_append, List.nil_append, List.append_nil, List.set_cons_zero, List.set_cons_succ, List.getElem?_cons_zero, List.getElem?_cons_succ, Option.some.injEq, V.int.injEq, V.bl.injEq, exists_eq_left', exists_eq_left, exists_and_left, tFor_eq, iRng1, iRng2, iRng3, iList, iEnum, iZip, iTup, tLst_eq, tTup_eq, rCat_eq, rCatS, rSum, rAppend_eq, rListOf, rSlL_eq, tSl, tNoPart, tPart, tLc_eq, tBM, rIxL, rIxT, min3_eq, rEq_int, rNe_int, min_if, max_if, and_assoc, V.ref.injEq, V.str.injEq, List.cons.injEq, and_true, true_and, ↓reduceIte, Bool.false_eq_true, Bool.not_true, Bool.not_false, Int.reduceToNat, Int.reducePow, Int.reduceAdd, Int.reduceSub, Int.reduceNeg, tVirt, tOff, tFld, sFld_eq, tMake_eq, rTupOf, iStr, rNe_str, rEq_str, rEq_bl, tRaise1, tFmt, tJs, tCallS, WE, wKeep_eq, reduceCtorEq, false_and, and_false, exists_false, or_false, false_or, tIsN, tNotN, decide_true, decide_false, tDictN, sDPut]
            refine ⟨cdw (by decide) (by decide), by decide, ?_⟩
            by_cases cn : draw / 2400 % 3 = 1
            · refine ifT (by rw [cn]; rfl) ?_
              refine ⟨sz_of (by decide), new_of fun la G3 nla f3 hla => ⟨sz_of (by decide), new_of fun ln G4 nln f4 hln => ⟨cdw (by decide) (by decide), by decide, _, sq_of hln, ?_⟩⟩⟩
              have h4 := (f3.trans f4) _ _ h2
              have hla4 := f4 _ _ hla
              have e4 := eG2.trans (f3.trans f4)
              have lp : la ≠ p := fun z => by rw [z, h4] at hla4; cases hla4
              have nx : ∀ x1, nameV x1 = false → Sv' G4 x1 → ((∃ z, x1 = .str z ∧ PyData.strOk z = true) ∨ x1 = .non ∨ x1 = .int 5 ∨ x1 = .ref la) → ∃ x, DPut G4 p (.str "name") x1 x ∧ N1 [some (.ref a), some (.int draw), some (.ref p), some (.ref s5), some (.str (wdS wd)), some (.ref b0), some sh, some (.ref sl)] x := by
                intro x1 nv sx alt
                refine dput_chg h4 (show (12 : Nat) < 100000 by decide) put_name fun G5 k5 h5 => ?_
                have ls5 : Ls G4 G5 := ls_chg h4 k5
                refine go7 x1 G5 (ex_chg e4 np k5) ((Ls.of (f3.trans f4)).trans ls5) h5 (sx.mono ls5) (.inr ⟨nv, ?_⟩)
                rcases alt with h | h | h | h
                · exact .inl h
                · exact .inr (.inl h)
                · exact .inr (.inr (.inl h))
                · exact .inr (.inr (.inr ⟨la, h, ls5.1 _ _ hla4⟩))
              have c : draw / 7200 % 8 = 0 ∨ draw / 7200 % 8 = 1 ∨ draw / 7200 % 8 = 2 ∨ draw / 7200 % 8 = 3 ∨ draw / 7200 % 8 = 4 ∨ draw / 7200 % 8 = 5 ∨ draw / 7200 % 8 = 6 ∨ draw / 7200 % 8 = 7 := by omega
              rcases c with c | c | c | c | c | c | c | c <;> rw [c]
              · exact ⟨_, rfl, nx _ (by decide +kernel) ⟨_, .str _ (by decide +kernel)⟩ (.inl ⟨_, rfl, by decide +kernel⟩)⟩
              · exact ⟨_, rfl, nx _ (by decide +kernel) ⟨_, .str _ (by decide +kernel)⟩ (.inl ⟨_, rfl, by decide +kernel⟩)⟩
              · exact ⟨_, rfl, nx _ (by decide +kernel) ⟨_, .str _ (by decide +kernel)⟩ (.inl ⟨_, rfl, by decide +kernel⟩)⟩
              · exact ⟨_, rfl, nx _ (by decide +kernel) ⟨_, .str _ (by decide +kernel)⟩ (.inl ⟨_, rfl, by decide +kernel⟩)⟩
              · exact ⟨_, rfl, nx _ rfl ⟨_, .non⟩ (.inr (.inl rfl))⟩
              · exact ⟨_, rfl, nx _ rfl ⟨_, .int _⟩ (.inr (.inr (.inl rfl)))⟩
              · exact ⟨_, rfl, nx _ rfl ⟨_, .lst hla4⟩ (.inr (.inr (.inr rfl)))⟩
              · exact ⟨_, rfl, nx _ (by decide +kernel) ⟨_, .str _ (by decide +kernel)⟩ (.inl ⟨_, rfl, by decide +kernel⟩)⟩
            · refine ifF (by simp [cn]) (go7 _ G2 eG2 ⟨fun _ _ h => h, fun _ _ h => h⟩ h2 ⟨_, .str _ (Nat.le_trans g.nl (by decide))⟩ (.inl rfl))
          simp only [tSeq, tIfS, tOr, tAnd, tNot, tB, tTest, tCB, tCall, tCons, tVar, tNil, tC, tRet, tRetN, tNext, tAsg, gName, tDrop, tOp, tUn, tAug, ipI, tPar, tIf, tAndV, tOrV, tNotV, tChain, tNever, rI0, rI, rU, L2.start, cxK, List.map_cons, List.map_nil, List.length_cons, List.length_nil, Nat.reduceAdd, Nat.reduceSub, List.replicate, List.cons_append, List.nil_append, List.append_nil, List.set_cons_zero, List.set_cons_succ, List.getElem?_cons_zero, List.getElem?_cons_succ, Option.some.injEq, V.int.injEq, V.bl.injEq, exists_eq_left', exists_eq_left, exists_and_left, tFor_eq, iRng1, iRng2, iRng3, iList, iEnum, iZip, iTup, tLst_eq, tTup_eq, rCat_eq, rCatS, rSum, rAppend_eq, rListOf, rSlL_eq, tSl, tNoPart, tPart, tLc_eq, tBM, rIxL, rIxT, min3_eq, rEq_int, rNe_int, min_if, max_if, and_assoc, V.ref.injEq, V.str.injEq, List.cons.injEq, and_true, true_and, ↓reduceIte, Bool.false_eq_true, Bool.not_true, Bool.not_false, Int.reduceToNat, Int.reducePow, Int.reduceAdd, Int.reduceSub, Int.reduceNeg, tVirt, tOff, tFld, sFld_eq, tMake_eq, rTupOf, iStr, rNe_str, rEq_str, rEq_bl, tRaise1, tFmt, tJs, tCallS, WE, wKeep_eq, reduceCtorEq, false_and, and_false, exists_false, or_false, false_or, tIsN, tNotN, decide_true, decide_false, tDictN]
          rw [wd_walls]
          by_cases cw : wd = .walls
          · refine ifT (decide_eq_true cw) ?_
            simp only [tSeq, tIfS, tOr, tAnd, tNot, tB, tTest, tCB, tCall, tCons, tVar, tNil, tC, tRet, tRetN, tNext, tAsg, gName, tDrop, tOp, tUn, tAug, ipI, tPar, tIf, tAndV, tOrV, tNotV, tChain, tNever, rI0, rI, rU, L2.start, cxK, List.map_cons, List.map_nil, List.length_cons, List.length_nil, Nat.reduceAdd, Nat.reduceSub, List.replicate, List.cons_append, List.nil_append, List.append_nil, List.set_cons_zero, List.set_cons_succ, List.getElem?_cons_zero, List.getElem?_cons_succ, Option.some.injEq, V.int.injEq, V.bl.injEq, exists_eq_left', exists_eq_left, exists_and_left, tFor_eq, iRng1, iRng2, iRng3, iList, iEnum, iZip, iTup, tLst_eq, tTup_eq, rCat_eq, rCatS, rSum, rAppend_eq, rListOf, rSlL_eq, tSl, tNoPart, tPart, tLc_eq, tBM, rIxL, rIxT, min3_eq, rEq_int, rNe_int, min_if, max_if, and_assoc, V.ref.injEq, V.str.injEq, List.cons.injEq, and_true, true_and, ↓reduceIte, Bool.false_eq_true, Bool.not_true, Bool.not_false, Int.reduceToNat, Int.reducePow, Int.reduceAdd, Int.reduceSub, Int.reduceNeg, tVirt, tOff, tFld, sFld_eq, tMake_eq, rTupOf, iStr, rNe_str, rEq_str, rEq_bl, tRaise1, tFmt, tJs, tCallS, WE, wKeep_eq, reduceCtorEq, false_and, and_false, exists_false, or_false, false_or, tIsN, tNotN, decide_true, decide_false, tDictN, tDGet]
            refine ⟨_, rd e04G own_walls, _, rfl, _, sq_of (e04G _ _ hw), new_of fun c1 J1 y1 j1 hc1 => ⟨sz_of (by decide), new_of fun c2 J2 y2 j2 hc2 => ⟨_, sq_of (j2 _ _ hc1), _, sq_of hc2, sz_of (by have := cutV_length xs none (some 3); show (cutV xs none (some 3)).length + 1 ≤ _; omega), new_of fun c3 J3 y3 j3 hc3 => ⟨sz_of (by decide), new_of fun c4 J4 y4 j4 hc4 => ?_⟩⟩⟩⟩
            have z4 := e04G.trans ((j1.trans j2).trans (j3.trans j4))
            refine ⟨_, rd z4 own_walls, _, rfl, _, .inl ⟨sq_of (z4 _ _ hw), new_of fun c5 J5 y5 j5 hc5 => ⟨sz_of (by decide), new_of fun c6 J6 y6 j6 hc6 => ⟨sz_of (by decide), new_of fun c7 J7 y7 j7 hc7 => ?_⟩⟩⟩⟩
            refine ⟨c7, 5, _, rfl, rfl, hc7, by decide, by decide, sz_of (show (1 : Nat) * 5 ≤ 100000 by decide), new_of fun c8 J8 y8 j8 hc8 => ⟨sz_of (by decide), new_of fun c9 J9 y9 j9 hc9 => ?_⟩⟩
            have z79 := j8.trans j9
            have z69 := j7.trans z79
            have z59 := j6.trans z69
            have z49 := j5.trans z59
            have z39 := j4.trans z49
            have z03 := (j1.trans j2).trans j3
            have z9 := z03.trans z39
            refine go6 c9 J9 _ (e14G.trans z9) hc9 fun i h0 h6 => ?_
            subst cw
            have kf : d.kd = .floor := by
              cases e : d.kd with
              | floor => rfl
              | _ => rw [e] at hwd; cases hwd
            have no : ∀ v : V, (mOk (selV .walls .least v (.int d.least)) (selV .walls .greatest v (.int d.greatest)) (selV .walls .pace v (.int d.pace)) (selV .walls .gain v (.int d.gain)) (selV .walls .place v (.int d.place)) && tOk d.kd (selV .walls .lane v (.int d.lane)) (selV .walls .at_ v (.int d.at_)) (selV .walls .wide v (.int d.wide)) (selV .walls .tall v (.int d.tall)) none) = false := fun v => by
              rw [kf]
              refine and_f2 ?_
              show (_ && false) = false
              exact Bool.and_false _
            have c : i = 0 ∨ i = 1 ∨ i = 2 ∨ i = 3 ∨ i = 4 ∨ i = 5 := by omega
            rcases c with rfl | rfl | rfl | rfl | rfl | rfl
            · refine ⟨_, none, rfl, ⟨_, .lst (z39 _ _ hc3)⟩, .inr ⟨c3, _, (d.walls.take 3).map some ++ [none], rfl, z39 _ _ hc3, ?_, ?_, ?_, .inl ⟨?_, rfl⟩⟩, no _⟩
              · rw [cut3, List.length_append, List.length_take]
                show min 3 xs.length + 1 ≤ 1000
                omega
              · rw [cut3, List.length_append, List.length_append, List.length_map, List.length_take, List.length_take, tw.1]
                rfl
              · intro i y o g1 g2
                rw [cut3] at g1
                rw [List.getElem?_append] at g1 g2
                rw [List.length_take] at g1
                rw [List.length_map, List.length_take, ← tw.1] at g2
                by_cases ci : i < min 3 xs.length
                · rw [if_pos ci] at g1 g2
                  rw [List.getElem?_take_of_lt (by omega)] at g1
                  rw [List.getElem?_map, List.getElem?_take_of_lt (by omega)] at g2
                  obtain ⟨wl, g3, rfl⟩ := Option.map_eq_some_iff.mp g2
                  obtain ⟨b, rfl, hb⟩ := tw.2 i y wl g1 g3
                  refine .inl ⟨b, wlV wl, rfl, (e04G.trans z9) _ _ hb, by show 3 ≤ 100; decide, fun z hz => pl_sv ?_, wallV_of (g.ok wl (List.mem_of_getElem? g3))⟩
                  simp only [wlV, List.mem_cons, List.not_mem_nil, or_false] at hz
                  rcases hz with rfl | rfl | rfl <;> rfl
                · rw [if_neg ci] at g1 g2
                  match hk : i - min 3 xs.length, g1, g2 with
                  | 0, g1, g2 =>
                    cases g1
                    cases g2
                    exact wsh.mono (.of (f04.trans z9))
                  | n + 1, g1, g2 => cases g1
              · unfold goodWs
                rw [List.all_append]
                simp
            · exact ⟨_, none, rfl, ⟨_, .lst (z49 _ _ hc4)⟩, .inr ⟨c4, _, [], rfl, z49 _ _ hc4, Nat.zero_le _, rfl, (fun i y o g1 g2 => by cases g1), .inl ⟨rfl, rfl⟩⟩, no _⟩
            · exact ⟨_, none, rfl, ⟨_, .tup (z59 _ _ hc5)⟩, .inl ⟨_, .tup (z59 _ _ hc5), by decide, rfl⟩, no _⟩
            · exact ⟨_, none, rfl, ⟨_, .non⟩, .inl ⟨_, .non, by decide, rfl⟩, no _⟩
            · refine ⟨_, none, rfl, ⟨_, .lst (j9 _ _ hc8)⟩, .inr ⟨c8, _, List.replicate 5 (some (0, 1, 1)), rfl, j9 _ _ hc8, by show (5 : Nat) ≤ 1000; decide, rfl, ?_, .inl ⟨by decide, rfl⟩⟩, no _⟩
              intro i y o g1 g2
              have g1 : (List.replicate 5 (V.ref c6))[i]? = some y := g1
              rw [List.getElem?_replicate] at g1 g2
              split at g1
              · rename_i li
                rw [if_pos li] at g2
                cases g1
                cases g2
                exact .inl ⟨c6, _, rfl, z69 _ _ hc6, by show (3 : Nat) ≤ 100; decide, fun y hy => pl_sv (List.all_eq_true.mp (show [V.int 0, V.int 1, V.int 1].all plV = true from rfl) y hy), by decide⟩
              · cases g1
            · exact ⟨_, none, rfl, ⟨_, .int _⟩, .inl ⟨_, .int _, by decide, rfl⟩, no _⟩
          · refine ifF (decide_eq_false cw) (go6 q4 G4 _ e14G hq4 fun i h0 h6 => ?_)
            have ew : ∀ v, selV wd .walls v (.ref wa) = .ref wa := fun v => if_neg cw
            have wG : WallsIs G4 (.ref wa) (some d.walls) := walls_is (e04G _ _ hw) (tw.mono e04G) g.k0 g.k4 g.ok
            have c : i = 0 ∨ i = 1 ∨ i = 2 ∨ i = 3 ∨ i = 4 ∨ i = 5 := by omega
            rcases c with rfl | rfl | rfl | rfl | rfl | rfl
            · refine ⟨_, some d.walls, rfl, ?_, ?_, ?_⟩
              · rw [bad_at cw]; exact ⟨_, .int _⟩
              · rw [ew]; exact wG
              · exact spoils (wa := wa) g hwd cw fun i e => by rw [bad_at cw] at e; cases e; exact bad_out g cw
            · exact ⟨_, some d.walls, rfl, ⟨_, .non⟩, by rw [ew]; exact wG, spoils (wa := wa) g hwd cw fun i e => by cases e⟩
            · exact ⟨_, some d.walls, rfl, ⟨_, .bl _⟩, by rw [ew]; exact wG, spoils (wa := wa) g hwd cw fun i e => by cases e⟩
            · exact ⟨_, some d.walls, rfl, ⟨_, .str _ (by decide +kernel)⟩, by rw [ew]; exact wG, spoils (wa := wa) g hwd cw fun i e => by cases e⟩
            · exact ⟨_, some d.walls, rfl, ⟨_, .lst (f4 _ _ hq3)⟩, by rw [ew]; exact wG, spoils (wa := wa) g hwd cw fun i e => by cases e⟩
            · exact ⟨_, some d.walls, rfl, ⟨_, .int _⟩, by rw [ew]; exact wG, spoils (wa := wa) g hwd cw fun i e => by cases e; exact .inl (lo_big g cw)⟩
        refine ⟨_, .inr (st_of htp), rfl, rfl, ?_⟩
        rw [in_tall]
        have l5t : ∀ {z}, (decide (d.kd = .line) || decide (d.kd = .wagon)) = z → L5 d.kd = if z = true then L4 d.kd ++ [.str "tall"] else L4 d.kd := fun {z} e => by
          subst e
          cases d.kd <;> rfl
        cases cz : (decide (d.kd = .line) || decide (d.kd = .wagon)) with
        | true =>
          have l5 : L5 d.kd = L4 d.kd ++ [.str "tall"] := l5t cz
          have len4 : (L4 d.kd).length + 1 ≤ 9 := by
            have := (L5_len d.kd).2
            rw [l5, List.length_append] at this
            exact this
          refine ifT rfl ⟨sz_of (by decide), new_of fun q1 G1 nq1 f1 hq1 => ⟨_, sq_of ((e6.trans f1) _ _ hs4), _, sq_of hq1, sz_of (by show (L4 d.kd).length + 1 ≤ _; omega), new_of fun q2 G2 nq2 f2 hq2 => go5 q2 G2 (((e15.trans e6).trans f1).trans f2) (by rw [hq2, l5])⟩⟩
        | false =>
          have l5 : L5 d.kd = L4 d.kd := l5t cz
          exact ifF rfl (go5 s4 H6 (e15.trans e6) (by rw [e6 _ _ hs4, l5]))
      have len3 : (L3 d.kd).length + 1 ≤ 8 := by cases d.kd <;> decide
      refine ⟨_, rd e04 own_kind, ?_⟩
      simp only [tSeq, tIfS, tOr, tAnd, tNot, tB, tTest, tCB, tCall, tCons, tVar, tNil, tC, tRet, tRetN, tNext, tAsg, gName, tDrop, tOp, tUn, tAug, ipI, tPar, tIf, tAndV, tOrV, tNotV, tChain, tNever, rI0, rI, rU, L2.start, cxK, List.map_cons, List.map_nil, List.length_cons, List.length_nil, Nat.reduceAdd, Nat.reduceSub, List.replicate, List.cons_append, List.nil_append, List.append_nil, List.set_cons_zero, List.set_cons_succ, List.getElem?_cons_zero, List.getElem?_cons_succ, Option.some.injEq, V.int.injEq, V.bl.injEq, exists_eq_left', exists_eq_left, exists_and_left, tFor_eq, iRng1, iRng2, iRng3, iList, iEnum, iZip, iTup, tLst_eq, tTup_eq, rCat_eq, rCatS, rSum, rAppend_eq, rListOf, rSlL_eq, tSl, tNoPart, tPart, tLc_eq, tBM, rIxL, rIxT, min3_eq, rEq_int, rNe_int, min_if, max_if, and_assoc, V.ref.injEq, V.str.injEq, List.cons.injEq, and_true, true_and, ↓reduceIte, Bool.false_eq_true, Bool.not_true, Bool.not_false, Int.reduceToNat, Int.reducePow, Int.reduceAdd, Int.reduceSub, Int.reduceNeg, tVirt, tOff, tFld, sFld_eq, tMake_eq, rTupOf, iStr, rNe_str, rEq_str, rEq_bl, tRaise1, tFmt, tJs, tCallS, WE, wKeep_eq, reduceCtorEq, false_and, and_false, exists_false, or_false, false_or, tIsN, tNotN, decide_true, decide_false, tDictN]
      rw [show ("floor" : Str) = kdS .floor from rfl, kdS_inj]
      by_cases cf : d.kd = .floor
      · refine ifT (decide_eq_true cf) ⟨sz_of (by decide), new_of fun q1 G1 nq1 f1 hq1 => ⟨_, sq_of (f1 _ _ hs3), _, sq_of hq1, sz_of (by show (L3 d.kd).length + 1 ≤ _; omega), new_of fun q2 G2 nq2 f2 hq2 => go4 q2 G2 ((e14.trans f1).trans f2) (by rw [hq2, cf]; rfl)⟩⟩
      · have l4 : L4 d.kd = L3 d.kd ++ [.str "wide"] := by
          cases e : d.kd with
          | floor => exact absurd e cf
          | _ => rfl
        refine ifF (decide_eq_false cf) ⟨sz_of (by decide), new_of fun q1 G1 nq1 f1 hq1 => ⟨_, sq_of (f1 _ _ hs3), _, sq_of hq1, sz_of (by show (L3 d.kd).length + 1 ≤ _; omega), new_of fun q2 G2 nq2 f2 hq2 => go4 q2 G2 ((e14.trans f1).trans f2) (by rw [hq2, l4])⟩⟩
    refine ⟨_, .inr (st_of htp), rfl, rfl, ?_⟩
    rw [in_at]
    have l3t : ∀ {z}, (decide (d.kd = .line) || decide (d.kd = .trap)) = z → L3 d.kd = if z = true then L0 ++ [.str "at"] else L0 := fun {z} e => by
      subst e
      cases d.kd <;> rfl
    cases cz : (decide (d.kd = .line) || decide (d.kd = .trap)) with
    | true =>
      have l3 : L3 d.kd = L0 ++ [.str "at"] := l3t cz
      refine ifT rfl ⟨sz_of (by decide), new_of fun q1 G1 nq1 f1 hq1 => ⟨_, sq_of ((e3.trans f1) _ _ hs1), _, sq_of hq1, sz_of (by decide), new_of fun q2 G2 nq2 f2 hq2 => go3 q2 G2 (((e2.trans e3).trans f1).trans f2) (by rw [hq2, l3]; rfl)⟩⟩
    | false =>
      have l3 : L3 d.kd = L0 := l3t cz
      exact ifF rfl (go3 s1 H3 (e2.trans e3) (by rw [e3 _ _ hs1, l3]; rfl))
end
end FW

set_option Elab.async false
set_option linter.all false
set_option maxRecDepth 100000
set_option maxHeartbeats 4000000
namespace FW
open PySem PySem.Spec PyProof.Rows L2 Evt
section
variable {P : Program} {w : World} {K : PySem.W.Frag} {mg : Str → Option Value} {base : Heap} {cl : Nat → Addr}
theorem shaped_flat {v : V} (h : flatOk v = true) : SeqAt.shaped (flatD v) = true := by
  obtain ⟨h1, h2, _⟩ := lay_flat h
  unfold SeqAt.shaped
  rw [h1, h2]
  rfl
def sp__law_refused (T : Addr) : Sp := fun vs H Q _ => ∃ (a wa : Addr) (d : Md) (draw : Int), vs = [.ref a, .int draw] ∧ IsO H a wa d ∧ GoodD d ∧ PyData.strOk d.name = true ∧ GxR.TabG H T ∧ RetV (.bl true) H Q
theorem ok__law_refused (B : Bt mg cl) {T : Addr} (EE : Exs K mg cl) (F__law_spoilt : Fn P w K mg base "_law_spoilt" ["_law_own", "_law_draw_here"] CX0 1 sp__law_spoilt) (F__law_machine : Fn P w K mg base "_law_machine" ["_law_own"] (L2.CX P w) 8 (sp__law_machine cl T (cl 2) (cl 1))) (F__law_classes : Fn P w K mg base "_law_classes" ["_law_caught"] CX0 1 (sp__law_classes (cl 1) (cl 2))) {f : Addr} {fd : FuncData} (F : Fun K "_law_refused" "_law_refused" s__law_refused f fd) : FnOk P w K mg base CX0 9 f fd ["_law_own", "_law_draw_here"] (sp__law_refused T) := by
  refine F.ok sc__law_refused (fun vs H Q E h => ?_) (fun cdv A outer s H vs Q E hr h => ?_)
  · obtain ⟨a, wa, d, draw, rfl, _⟩ := h
    rfl
  · obtain ⟨a, wa, d, draw, rfl, io, g, so, tg, q⟩ := h
    refine ⟨_, (pss_cons (ps_set (i := 2) sc__law_refused.nd rfl (.inl rfl) (pe_fn F__law_spoilt (hr.mono (by decide)) (pa_cons (pv 0) (pa_cons (pv 1) pa_nil))))
      (pss_cons (ps_set (i := 3) sc__law_refused.nd rfl (.inl rfl) pe_non)
      (pss_cons (ps_try_keep (i := 4) (j := 3) (tb := _) rfl rfl rfl sc__law_refused.nd rfl rfl rfl rfl (.inl rfl) ⟨rfl, by decide, .inl B.c_StageError⟩ (fun W pn xe tk _ =>
        (pss_one (ps_expr (pe_fnS F__law_machine (hr.mono (by decide)) tk (pa_cons (pv 2) pa_nil))))))
      (pss_one (ps_ret (pe_cmpR op_eq (pe_fn F__law_classes (hr.mono (by decide)) (pa_cons (pv 3) pa_nil)) (pe_ifExp (pt_cmpR (k_eqD (K := K) rfl hr.units) (pe_dget (hu_of hr) (pv 2) pe_str (fun _ _ => rfl)) (pe_dget (hu_of hr) (pv 0) pe_str (fun _ _ => rfl)) (nomark _)) pe_str pe_str) (nomark _))))))), ?_⟩
    obtain ⟨ho, xs, hw, tw⟩ := id io
    have rd : ∀ {H' : Hp} {z : Str} {v : V}, Ex H H' → valV (ownV d wa) (Sum.inr z) = some v → DGet H' a (.str z) (some v) := fun {H' z v} e y => .inl ⟨_, Sum.inr z, .inl (e _ _ ho), rfl, y.symm⟩
    refine cut_eq fun N1 hN1 => ?_
    simp only [tSeq, tIfS, tOr, tAnd, tNot, tB, tTest, tCB, tCall, tCons, tVar, tNil, tC, tRet, tRetN, tNext, tAsg, gName, tDrop, tOp, tUn, tAug, ipI, tPar, tIf, tAndV, tOrV, tNotV, tChain, tNever, rI0, rI, rU, L2.start, cxK, List.map_cons, List.map_nil, List.length_cons, List.length_nil, Nat.reduceAdd, Nat.reduceSub, List.replicate, List.cons_append, List.nil_append, List.append_nil, List.set_cons_zero, List.set_cons_succ, List.getElem?_cons_zero, List.getElem?_cons_succ, Option.some.injEq, V.int.injEq, V.bl.injEq, exists_eq_left', exists_eq_left, exists_and_left, tFor_eq, iRng1, iRng2, iRng3, iList, iEnum, iZip, iTup, tLst_eq, tTup_eq, rCat_eq, rCatS, rSum, rAppend_eq, rListOf, rSlL_eq, tSl, tNoPart, tPart, tLc_eq, tBM, rIxL, rIxT, min3_eq, rEq_int, rNe_int, min_if, max_if, and_assoc, V.ref.injEq, V.str.injEq, List.cons.injEq, and_true, true_and, ↓reduceIte, Bool.false_eq_true, Bool.not_true, Bool.not_false, Int.reduceToNat, Int.reducePow, Int.reduceAdd, Int.reduceSub, Int.reduceNeg, tVirt, tOff, tFld, sFld_eq, tMake_eq, rTupOf, iStr, rNe_str, rEq_str, rEq_bl, tRaise1, tFmt, tJs, tCallS, WE, wKeep_eq, reduceCtorEq, false_and, and_false, exists_false, or_false, false_or, tIsN, tNotN, decide_true, decide_false, tDictN]
    refine ⟨a, wa, d, draw, rfl, io, g, fun p n wd v r H1 np e1 hp sn sv wi no alt => ?_⟩
    rw [← hN1]
    clear hN1
    refine cut_eq fun N1 hN1 => ?_
    simp only [tSeq, tIfS, tOr, tAnd, tNot, tB, tTest, tCB, tCall, tCons, tVar, tNil, tC, tRet, tRetN, tNext, tAsg, gName, tDrop, tOp, tUn, tAug, ipI, tPar, tIf, tAndV, tOrV, tNotV, tChain, tNever, rI0, rI, rU, L2.start, cxK, List.map_cons, List.map_nil, List.length_cons, List.length_nil, Nat.reduceAdd, Nat.reduceSub, List.replicate, List.cons_append, List.nil_append, List.append_nil, List.set_cons_zero, List.set_cons_succ, List.getElem?_cons_zero, List.getElem?_cons_succ, Option.some.injEq, V.int.injEq, V.bl.injEq, exists_eq_left', exists_eq_left, exists_and_left, tFor_eq, iRng1, iRng2, iRng3, iList, iEnum, iZip, iTup, tLst_eq, tTup_eq, rCat_eq, rCatS, rSum, rAppend_eq, rListOf, rSlL_eq, tSl, tNoPart, tPart, tLc_eq, tBM, rIxL, rIxT, min3_eq, rEq_int, rNe_int, min_if, max_if, and_assoc, V.ref.injEq, V.str.injEq, List.cons.injEq, and_true, true_and, ↓reduceIte, Bool.false_eq_true, Bool.not_true, Bool.not_false, Int.reduceToNat, Int.reducePow, Int.reduceAdd, Int.reduceSub, Int.reduceNeg, tVirt, tOff, tFld, sFld_eq, tMake_eq, rTupOf, iStr, rNe_str, rEq_str, rEq_bl, tRaise1, tFmt, tJs, tCallS, WE, wKeep_eq, reduceCtorEq, false_and, and_false, exists_false, or_false, false_or, tIsN, tNotN, decide_true, decide_false, tDictN]
    rw [← hN1]
    clear hN1
    refine cut_eq fun N1 hN1 => ?_
    simp only [tSeq, tIfS, tOr, tAnd, tNot, tB, tTest, tCB, tCall, tCons, tVar, tNil, tC, tRet, tRetN, tNext, tAsg, gName, tDrop, tOp, tUn, tAug, ipI, tPar, tIf, tAndV, tOrV, tNotV, tChain, tNever, rI0, rI, rU, L2.start, cxK, List.map_cons, List.map_nil, List.length_cons, List.length_nil, Nat.reduceAdd, Nat.reduceSub, List.replicate, List.cons_append, List.nil_append, List.append_nil, List.set_cons_zero, List.set_cons_succ, List.getElem?_cons_zero, List.getElem?_cons_succ, Option.some.injEq, V.int.injEq, V.bl.injEq, exists_eq_left', exists_eq_left, exists_and_left, tFor_eq, iRng1, iRng2, iRng3, iList, iEnum, iZip, iTup, tLst_eq, tTup_eq, rCat_eq, rCatS, rSum, rAppend_eq, rListOf, rSlL_eq, tSl, tNoPart, tPart, tLc_eq, tBM, rIxL, rIxT, min3_eq, rEq_int, rNe_int, min_if, max_if, and_assoc, V.ref.injEq, V.str.injEq, List.cons.injEq, and_true, true_and, ↓reduceIte, Bool.false_eq_true, Bool.not_true, Bool.not_false, Int.reduceToNat, Int.reducePow, Int.reduceAdd, Int.reduceSub, Int.reduceNeg, tVirt, tOff, tFld, sFld_eq, tMake_eq, rTupOf, iStr, rNe_str, rEq_str, rEq_bl, tRaise1, tFmt, tJs, tCallS, WE, wKeep_eq, reduceCtorEq, false_and, and_false, exists_false, or_false, false_or, tIsN, tNotN, decide_true, decide_false, tDictN]
    have ss : ∀ {w : Wd} {i : Int}, Sv' H1 (selV wd w v (.int i)) := fun {w i} => by
      unfold selV
      split
      · exact sv
      · exact ⟨_, .int _⟩
    have rdo : ∀ {H' : Hp}, Ex H1 H' → DGet H' p (.str "name") (some n) := fun {H'} e => .inl ⟨_, Sum.inr "name", .inl (e _ _ hp), rfl, rfl⟩
    refine ⟨p, n, _, _, _, _, _, d.kd, _, _, _, _, _, r, rfl, hp, sn, ss, ss, ss, ss, ss, ss, ss, ss, ss, wi, e1.tab tg, fun nf H2 e2 => ?_, fun nt _ H2 e2 => ?_, fun _ ok => ?_⟩
    · simp only [tSeq, tIfS, tOr, tAnd, tNot, tB, tTest, tCB, tCall, tCons, tVar, tNil, tC, tRet, tRetN, tNext, tAsg, gName, tDrop, tOp, tUn, tAug, ipI, tPar, tIf, tAndV, tOrV, tNotV, tChain, tNever, rI0, rI, rU, L2.start, cxK, List.map_cons, List.map_nil, List.length_cons, List.length_nil, Nat.reduceAdd, Nat.reduceSub, List.replicate, List.cons_append, List.nil_append, List.append_nil, List.set_cons_zero, List.set_cons_succ, List.getElem?_cons_zero, List.getElem?_cons_succ, Option.some.injEq, V.int.injEq, V.bl.injEq, exists_eq_left', exists_eq_left, exists_and_left, tFor_eq, iRng1, iRng2, iRng3, iList, iEnum, iZip, iTup, tLst_eq, tTup_eq, rCat_eq, rCatS, rSum, rAppend_eq, rListOf, rSlL_eq, tSl, tNoPart, tPart, tLc_eq, tBM, rIxL, rIxT, min3_eq, rEq_int, rNe_int, min_if, max_if, and_assoc, V.ref.injEq, V.str.injEq, List.cons.injEq, and_true, true_and, ↓reduceIte, Bool.false_eq_true, Bool.not_true, Bool.not_false, Int.reduceToNat, Int.reducePow, Int.reduceAdd, Int.reduceSub, Int.reduceNeg, tVirt, tOff, tFld, sFld_eq, tMake_eq, rTupOf, iStr, rNe_str, rEq_str, rEq_bl, tRaise1, tFmt, tJs, tCallS, WE, wKeep_eq, reduceCtorEq, false_and, and_false, exists_false, or_false, false_or, tIsN, tNotN, decide_true, decide_false, tDictN]
      refine ⟨EE.BadName.em, newD_of fun c H3 nc e3 h3 => ?_⟩
      rw [← hN1]
      clear hN1
      simp only [tSeq, tIfS, tOr, tAnd, tNot, tB, tTest, tCB, tCall, tCons, tVar, tNil, tC, tRet, tRetN, tNext, tAsg, gName, tDrop, tOp, tUn, tAug, ipI, tPar, tIf, tAndV, tOrV, tNotV, tChain, tNever, rI0, rI, rU, L2.start, cxK, List.map_cons, List.map_nil, List.length_cons, List.length_nil, Nat.reduceAdd, Nat.reduceSub, List.replicate, List.cons_append, List.nil_append, List.append_nil, List.set_cons_zero, List.set_cons_succ, List.getElem?_cons_zero, List.getElem?_cons_succ, Option.some.injEq, V.int.injEq, V.bl.injEq, exists_eq_left', exists_eq_left, exists_and_left, tFor_eq, iRng1, iRng2, iRng3, iList, iEnum, iZip, iTup, tLst_eq, tTup_eq, rCat_eq, rCatS, rSum, rAppend_eq, rListOf, rSlL_eq, tSl, tNoPart, tPart, tLc_eq, tBM, rIxL, rIxT, min3_eq, rEq_int, rNe_int, min_if, max_if, and_assoc, V.ref.injEq, V.str.injEq, List.cons.injEq, and_true, true_and, ↓reduceIte, Bool.false_eq_true, Bool.not_true, Bool.not_false, Int.reduceToNat, Int.reducePow, Int.reduceAdd, Int.reduceSub, Int.reduceNeg, tVirt, tOff, tFld, sFld_eq, tMake_eq, rTupOf, iStr, rNe_str, rEq_str, rEq_bl, tRaise1, tFmt, tJs, tCallS, WE, wKeep_eq, reduceCtorEq, false_and, and_false, exists_false, or_false, false_or, tIsN, tNotN, decide_true, decide_false, tDictN, tDGet]
      refine ⟨c, _, _, rfl, h3, .inr ⟨rfl, rfl⟩, fun H4 e4 => ⟨_, rdo (e2.trans (e3.trans e4)), _, rd (e1.trans (e2.trans (e3.trans e4))) own_name, ?_⟩⟩
      have e14 := e2.trans (e3.trans e4)
      have done : ∀ {b : Bool}, b = false → (fun x H' => ∃ k, x = V.bl k ∧ if k = true then rEq (V.str (Str.ofString "name ")) (V.str (Str.ofString "number ")) H' Q else rEq (V.str (Str.ofString "name ")) (V.str (Str.ofString "name ")) H' Q) (V.bl b) H4 := fun {b} e => ⟨_, rfl, ifF e (by
        rw [rEq_str, decide_eq_true rfl]
        exact q H4 (e1.trans e14))⟩
      rcases alt with rfl | ⟨_, ⟨z, rfl, sz⟩ | rfl | rfl | ⟨l, rfl, hl⟩⟩
      · rw [g.nm] at nf
        cases nf
      · refine ⟨.str z, .str d.name, .str z, .str _, shaped_flat (v := .str z) sz, shaped_flat (v := .str d.name) so, done ?_⟩
        rw [PyData.eqv]
        refine beq_eq_false_iff_ne.mpr fun e => ?_
        rw [e, g.nm] at nf
        cases nf
      · exact ⟨.none, .str d.name, .non, .str _, rfl, shaped_flat (v := .str d.name) so, done rfl⟩
      · exact ⟨.int 5, .str d.name, .int _, .str _, rfl, shaped_flat (v := .str d.name) so, done rfl⟩
      · exact ⟨.list [.str "a"], .str d.name, .lst (sq_of (e14 _ _ hl)) (.cons (.str _) .nil), .str _, by decide +kernel, shaped_flat (v := .str d.name) so, done rfl⟩
    · simp only [tSeq, tIfS, tOr, tAnd, tNot, tB, tTest, tCB, tCall, tCons, tVar, tNil, tC, tRet, tRetN, tNext, tAsg, gName, tDrop, tOp, tUn, tAug, ipI, tPar, tIf, tAndV, tOrV, tNotV, tChain, tNever, rI0, rI, rU, L2.start, cxK, List.map_cons, List.map_nil, List.length_cons, List.length_nil, Nat.reduceAdd, Nat.reduceSub, List.replicate, List.cons_append, List.nil_append, List.append_nil, List.set_cons_zero, List.set_cons_succ, List.getElem?_cons_zero, List.getElem?_cons_succ, Option.some.injEq, V.int.injEq, V.bl.injEq, exists_eq_left', exists_eq_left, exists_and_left, tFor_eq, iRng1, iRng2, iRng3, iList, iEnum, iZip, iTup, tLst_eq, tTup_eq, rCat_eq, rCatS, rSum, rAppend_eq, rListOf, rSlL_eq, tSl, tNoPart, tPart, tLc_eq, tBM, rIxL, rIxT, min3_eq, rEq_int, rNe_int, min_if, max_if, and_assoc, V.ref.injEq, V.str.injEq, List.cons.injEq, and_true, true_and, ↓reduceIte, Bool.false_eq_true, Bool.not_true, Bool.not_false, Int.reduceToNat, Int.reducePow, Int.reduceAdd, Int.reduceSub, Int.reduceNeg, tVirt, tOff, tFld, sFld_eq, tMake_eq, rTupOf, iStr, rNe_str, rEq_str, rEq_bl, tRaise1, tFmt, tJs, tCallS, WE, wKeep_eq, reduceCtorEq, false_and, and_false, exists_false, or_false, false_or, tIsN, tNotN, decide_true, decide_false, tDictN]
      refine ⟨EE.BadNumber.em, newD_of fun c H3 nc e3 h3 => ?_⟩
      rw [← hN1]
      clear hN1
      simp only [tSeq, tIfS, tOr, tAnd, tNot, tB, tTest, tCB, tCall, tCons, tVar, tNil, tC, tRet, tRetN, tNext, tAsg, gName, tDrop, tOp, tUn, tAug, ipI, tPar, tIf, tAndV, tOrV, tNotV, tChain, tNever, rI0, rI, rU, L2.start, cxK, List.map_cons, List.map_nil, List.length_cons, List.length_nil, Nat.reduceAdd, Nat.reduceSub, List.replicate, List.cons_append, List.nil_append, List.append_nil, List.set_cons_zero, List.set_cons_succ, List.getElem?_cons_zero, List.getElem?_cons_succ, Option.some.injEq, V.int.injEq, V.bl.injEq, exists_eq_left', exists_eq_left, exists_and_left, tFor_eq, iRng1, iRng2, iRng3, iList, iEnum, iZip, iTup, tLst_eq, tTup_eq, rCat_eq, rCatS, rSum, rAppend_eq, rListOf, rSlL_eq, tSl, tNoPart, tPart, tLc_eq, tBM, rIxL, rIxT, min3_eq, rEq_int, rNe_int, min_if, max_if, and_assoc, V.ref.injEq, V.str.injEq, List.cons.injEq, and_true, true_and, ↓reduceIte, Bool.false_eq_true, Bool.not_true, Bool.not_false, Int.reduceToNat, Int.reducePow, Int.reduceAdd, Int.reduceSub, Int.reduceNeg, tVirt, tOff, tFld, sFld_eq, tMake_eq, rTupOf, iStr, rNe_str, rEq_str, rEq_bl, tRaise1, tFmt, tJs, tCallS, WE, wKeep_eq, reduceCtorEq, false_and, and_false, exists_false, or_false, false_or, tIsN, tNotN, decide_true, decide_false, tDictN, tDGet]
      refine ⟨c, _, _, rfl, h3, .inl ⟨rfl, rfl⟩, fun H4 e4 => ⟨_, rdo (e2.trans (e3.trans e4)), _, rd (e1.trans (e2.trans (e3.trans e4))) own_name, ?_⟩⟩
      have e14 := e2.trans (e3.trans e4)
      rcases alt with rfl | ⟨nf, _⟩
      · refine ⟨.str d.name, .str d.name, .str _, .str _, shaped_flat (v := .str d.name) so, shaped_flat (v := .str d.name) so, _, rfl, ifT (by rw [PyData.eqv]; exact beq_self_eq_true _) ?_⟩
        rw [rEq_str, decide_eq_true rfl]
        exact q H4 (e1.trans e14)
      · rw [nf] at nt
        cases nt
    · rw [no] at ok
      cases ok
end
end FW

set_option Elab.async false
set_option linter.all false
set_option maxRecDepth 100000
set_option maxHeartbeats 4000000
namespace FW
open PySem PySem.Spec PyProof.Rows L2 Evt
section
variable {P : Program} {w : World} {K : PySem.W.Frag} {mg : Str → Option Value} {base : Heap} {cl : Nat → Addr}
theorem good_mOk {d : Md} (g : GoodD d) : mOk (.int d.least) (.int d.greatest) (.int d.pace) (.int d.gain) (.int d.place) = true := by
  have y : ∀ {i l m : Int}, l ≤ i → i ≤ m → wholeV (.int i) l m = true := fun {i l m} h1 h2 => by
    show (decide (l ≤ i) && decide (i ≤ m)) = true
    rw [decide_eq_true h1, decide_eq_true h2]
    rfl
  have := g.lg
  have := g.g1
  have := g.l0
  show (wholeV (.int d.least) (-1000000000) 1000000000 && wholeV (.int d.greatest) d.least 1000000000 && (wholeV (.int d.pace) 1 1000000000 && wholeV (.int d.gain) 1 1000000000) && wholeV (.int d.place) d.least d.greatest) = true
  rw [y (by omega) (by omega), y (by omega) (by omega), y g.p0 g.p1, y g.a0 g.a1, y g.b0 g.b1]
  rfl
theorem good_tOk {d : Md} (g : GoodD d) : tOk d.kd (.int d.lane) (.int d.at_) (.int d.wide) (.int d.tall) (some d.walls) = true := by
  have y : ∀ {i l m : Int}, l ≤ i → i ≤ m → wholeV (.int i) l m = true := fun {i l m} h1 h2 => by
    show (decide (l ≤ i) && decide (i ≤ m)) = true
    rw [decide_eq_true h1, decide_eq_true h2]
    rfl
  unfold tOk tLine tWagon tTrap
  cases d.kd <;> simp [y g.n0 g.n9, y g.t0 g.t1, y g.w0 g.w1, y g.h0 g.h1]
theorem tailW_M {d : Md} {t : Addr} : tailW d.kd (.int d.lane) (.int d.at_) (.int d.wide) (.int d.tall) t = tailM d t := by
  unfold tailW tailM
  cases d.kd <;> rfl
def spLaw (K : PySem.W.Frag) (T : Addr) : Sp := fun vs H Q _ => ∃ (a : Addr) (ns : List Int), vs = [.ref a] ∧ SqL K H a (ns.map V.int) ∧ ns.length ≤ 63 ∧ GxR.TabG H T ∧ ∀ H', Q (.bl true) H'
theorem ok_law (B : Bt mg cl) {T : Addr} (F__law_spread : Fn P w K mg base "_law_spread" ["_law_cell", "_law_k"] CX0 1 sp__law_spread) (F__law_drawn : Fn P w K mg base "_law_drawn" ["_law_draw_here", "_law_k"] CX0 2 sp__law_drawn) (F__law_machine : Fn P w K mg base "_law_machine" ["_law_own"] (L2.CX P w) 8 (sp__law_machine cl T (cl 2) (cl 1))) (F__law_told_right : Fn P w K mg base "_law_told_right" ["_law_machine_here", "_law_own"] CX0 8 (sp__law_told_right cl)) (F__law_boxes_right : Fn P w K mg base "_law_boxes_right" ["_law_machine_here", "_law_own", "_law_draw_here"] CX0 9 (sp__law_boxes_right cl)) (F__law_refused : Fn P w K mg base "_law_refused" ["_law_own", "_law_draw_here"] CX0 9 (sp__law_refused T)) {f : Addr} {fd : FuncData} (F : Fun K "law" "law" s_law f fd) : FnOk P w K mg base CX0 10 f fd ["_law_script"] (spLaw K T) := by
  refine F.ok sc_law (fun vs H Q E h => ?_) (fun cdv A outer s H vs Q E hr h => ?_)
  · obtain ⟨a, ns, rfl, _⟩ := h
    rfl
  · obtain ⟨a, ns, rfl, hS, hlen, tg, q⟩ := h
    refine ⟨_, (pss_cons (ps_for PassesOwn.never rfl (pi_enum (by rfl) B.b_enumerate (pa_cons (pe_op (k_catS (K := K) rfl) (pe_slice (k_sll (K := K) rfl) (pv 0) po_none (po_some pe_int)) (pe_lst (pa_cons pe_int (pa_cons pe_int (pa_cons pe_int (pa_cons pe_int pa_nil)))))) pa_nil)) (k_pgt (K := K) (n := 2) rfl rfl (pgs_cons (pg_name (i := 1) sc_law.nd rfl (.inl rfl)) (pgs_cons (pg_name (i := 2) sc_law.nd rfl (.inl rfl)) pgs_nil)))
        (pss_cons (ps_set (i := 3) sc_law.nd rfl (.inl rfl) (pe_fn F__law_spread (hr.mono (by decide)) (pa_cons (pv 2) (pa_cons (pv 1) pa_nil))))
      (pss_cons (ps_set (i := 4) sc_law.nd rfl (.inl rfl) (pe_fn F__law_drawn (hr.mono (by decide)) (pa_cons (pv 3) (pa_cons (pe_op op_fdivW (pv 3) pe_int) pa_nil))))
      (pss_cons (ps_set (i := 5) sc_law.nd rfl (.inl rfl) (pe_callTy call_dictD (by rfl) B.b_dict (by decide +kernel) (pa_cons (pv 4) pa_nil)))
      (pss_cons (ps_dput (hu_of hr) (pv 5) pe_str (pe_callTy (k_listof2 (K := K) rfl) (by rfl) B.b_list (by decide +kernel) (pa_cons (pe_dget (hu_of hr) (pv 4) pe_str (fun _ _ => rfl)) pa_nil)) (by rfl))
      (pss_cons (ps_set (i := 6) sc_law.nd rfl (.inl rfl) (pe_fnX (E := E0) F__law_machine (hr.mono (by decide)) (passes_call takes0 (fun _ _ _ _ h => h)) (pa_cons (pv 5) pa_nil)))
      (pss_cons (ps_expr (pe_bm0 PySem.F.plainAttrs_list PySem.F.slot_list_clear PySem.F.type_list_clear mt_clear (pe_dget (hu_of hr) (pv 5) pe_str (fun _ _ => rfl))))
      (pss_cons (ps_if (PW.pt (pw_or (pt_not (pt_val (pe_fn F__law_told_right (hr.mono (by decide)) (pa_cons (pv 6) (pa_cons (pv 4) pa_nil))))) (pw_or1 (pt_not (pt_val (pe_fn F__law_boxes_right (hr.mono (by decide)) (pa_cons (pv 6) (pa_cons (pv 4) (pa_cons (pe_op op_fdivW (pv 3) pe_int) pa_nil)))))))))
        (pss_one (ps_ret pe_bl))
        pss_nil)
      (pss_one (ps_if (pt_not (pt_val (pe_fn F__law_refused (hr.mono (by decide)) (pa_cons (pv 4) (pa_cons (pe_op op_fdivW (pv 3) pe_int) pa_nil)))))
        (pss_one (ps_ret pe_bl))
        pss_nil))))))))))
      (pss_one (ps_ret pe_bl))), ?_⟩
    refine cut_eq fun N1 hN1 => ?_
    simp only [tSeq, tIfS, tOr, tAnd, tNot, tB, tTest, tCB, tCall, tCons, tVar, tNil, tC, tRet, tRetN, tNext, tAsg, gName, tDrop, tOp, tUn, tAug, ipI, tPar, tIf, tAndV, tOrV, tNotV, tChain, tNever, rI0, rI, rU, L2.start, cxK, List.map_cons, List.map_nil, List.length_cons, List.length_nil, Nat.reduceAdd, Nat.reduceSub, List.replicate, List.cons_append, List.nil_append, List.append_nil, List.set_cons_zero, List.set_cons_succ, List.getElem?_cons_zero, List.getElem?_cons_succ, Option.some.injEq, V.int.injEq, V.bl.injEq, exists_eq_left', exists_eq_left, exists_and_left, tFor_eq, iRng1, iRng2, iRng3, iList, iEnum, iZip, iTup, tLst_eq, tTup_eq, rCat_eq, rCatS, rSum, rAppend_eq, rListOf, rSlL_eq, tSl, tNoPart, tPart, tLc_eq, tBM, rIxL, rIxT, min3_eq, rEq_int, rNe_int, min_if, max_if, and_assoc, V.ref.injEq, V.str.injEq, List.cons.injEq, and_true, true_and, ↓reduceIte, Bool.false_eq_true, Bool.not_true, Bool.not_false, Int.reduceToNat, Int.reducePow, Int.reduceAdd, Int.reduceSub, Int.reduceNeg, tVirt, tOff, tFld, sFld_eq, tMake_eq, rTupOf, iStr, rNe_str, rEq_str, rEq_bl, tRaise1, tFmt, tJs, tCallS, WE, wKeep_eq, reduceCtorEq, false_and, and_false, exists_false, or_false, false_or, tIsN, tNotN, decide_true, decide_false, tDictN]
    refine ⟨_, hS, new_of fun l1 H1 n1 e1 h1 => ⟨sz_of (by decide), new_of fun l2 H2 n2 e2 h2 => ⟨_, sq_of (e2 _ _ h1), _, sq_of h2, ?_, new_of fun l3 H3 n3 e3 h3 => ⟨_, sq_of h3, ?_⟩⟩⟩⟩
    · have := cutV_length (ns.map V.int) none (some 60)
      rw [List.length_map] at this
      exact sz_of (by simp only [List.length_cons, List.length_nil]; omega)
    have e03 := (e1.trans e2).trans e3
    have len3 : (cutV (ns.map V.int) none (some 60) ++ [V.int 5, V.int 6, V.int 7, V.int 8]).length ≤ 67 := by
      have := cutV_length (ns.map V.int) none (some 60)
      rw [List.length_map] at this
      rw [List.length_append]
      simp only [List.length_cons, List.length_nil]
      omega
    have allI : ∀ x ∈ cutV (ns.map V.int) none (some 60) ++ [V.int 5, V.int 6, V.int 7, V.int 8], ∃ i, x = V.int i := fun x hx => by
      rcases List.mem_append.mp hx with hx | hx
      · obtain ⟨i, _, rfl⟩ := List.mem_map.mp (List.mem_of_mem_drop (List.mem_of_mem_take hx))
        exact ⟨i, rfl⟩
      · simp only [List.mem_cons, List.not_mem_nil, or_false] at hx
        rcases hx with rfl | rfl | rfl | rfl <;> exact ⟨_, rfl⟩
    generalize cutV (ns.map V.int) none (some 60) ++ [V.int 5, V.int 6, V.int 7, V.int 8] = xs at h3 len3 allI
    obtain ⟨Pv, hPv⟩ : ∃ Pv : Nat → L2.St → Hp → Prop, ∀ k σ H', Pv k σ H' ↔ (∃ o1 o2 o3 o4 o5 o6, σ = [some (.ref a), o1, o2, o3, o4, o5, o6]) ∧ Ex H3 H' := ⟨_, fun _ _ _ => Iff.rfl⟩
    refine loop_enum (xs := xs) Pv ((hPv _ _ _).mpr ⟨⟨_, _, _, _, _, _, rfl⟩, Ex.refl _⟩) (fun i σ H' hp => ?_) ?_ ?_
    · obtain ⟨_, e⟩ := (hPv _ _ _).mp hp
      exact sq_of (e _ _ h3)
    · intro i x σ H4 T3 H5 hx hp nT e5 hT
      obtain ⟨⟨o1, o2, o3, o4, o5, o6, rfl⟩, e4⟩ := (hPv _ _ _).mp hp
      obtain ⟨cell, rfl⟩ := allI x (List.mem_of_getElem? hx)
      have il : i < xs.length := (List.getElem?_eq_some_iff.mp hx).1
      have e35 := e4.trans e5
      refine ⟨T3, _, rfl, st_of hT, rfl, ?_⟩
      simp only [gCons, gNil, gName, List.cons.injEq, and_assoc, exists_eq_left', exists_eq_left, exists_and_left, List.set_cons_zero, List.set_cons_succ, and_true, true_and]
      refine cut_eq fun N2 hN2 => ?_
      simp only [tSeq, tIfS, tOr, tAnd, tNot, tB, tTest, tCB, tCall, tCons, tVar, tNil, tC, tRet, tRetN, tNext, tAsg, gName, tDrop, tOp, tUn, tAug, ipI, tPar, tIf, tAndV, tOrV, tNotV, tChain, tNever, rI0, rI, rU, L2.start, cxK, List.map_cons, List.map_nil, List.length_cons, List.length_nil, Nat.reduceAdd, Nat.reduceSub, List.replicate, List.cons_append, List.nil_append, List.append_nil, List.set_cons_zero, List.set_cons_succ, List.getElem?_cons_zero, List.getElem?_cons_succ, Option.some.injEq, V.int.injEq, V.bl.injEq, exists_eq_left', exists_eq_left, exists_and_left, tFor_eq, iRng1, iRng2, iRng3, iList, iEnum, iZip, iTup, tLst_eq, tTup_eq, rCat_eq, rCatS, rSum, rAppend_eq, rListOf, rSlL_eq, tSl, tNoPart, tPart, tLc_eq, tBM, rIxL, rIxT, min3_eq, rEq_int, rNe_int, min_if, max_if, and_assoc, V.ref.injEq, V.str.injEq, List.cons.injEq, and_true, true_and, ↓reduceIte, Bool.false_eq_true, Bool.not_true, Bool.not_false, Int.reduceToNat, Int.reducePow, Int.reduceAdd, Int.reduceSub, Int.reduceNeg, tVirt, tOff, tFld, sFld_eq, tMake_eq, rTupOf, iStr, rNe_str, rEq_str, rEq_bl, tRaise1, tFmt, tJs, tCallS, WE, wKeep_eq, reduceCtorEq, false_and, and_false, exists_false, or_false, false_or, tIsN, tNotN, decide_true, decide_false, tDictN]
      refine ⟨_, _, rfl, by omega, by omega, fun draw dr0 dr1 => ?_⟩
      rw [← hN2]
      clear hN2
      refine cut_eq fun N2 hN2 => ?_
      simp only [tSeq, tIfS, tOr, tAnd, tNot, tB, tTest, tCB, tCall, tCons, tVar, tNil, tC, tRet, tRetN, tNext, tAsg, gName, tDrop, tOp, tUn, tAug, ipI, tPar, tIf, tAndV, tOrV, tNotV, tChain, tNever, rI0, rI, rU, L2.start, cxK, List.map_cons, List.map_nil, List.length_cons, List.length_nil, Nat.reduceAdd, Nat.reduceSub, List.replicate, List.cons_append, List.nil_append, List.append_nil, List.set_cons_zero, List.set_cons_succ, List.getElem?_cons_zero, List.getElem?_cons_succ, Option.some.injEq, V.int.injEq, V.bl.injEq, exists_eq_left', exists_eq_left, exists_and_left, tFor_eq, iRng1, iRng2, iRng3, iList, iEnum, iZip, iTup, tLst_eq, tTup_eq, rCat_eq, rCatS, rSum, rAppend_eq, rListOf, rSlL_eq, tSl, tNoPart, tPart, tLc_eq, tBM, rIxL, rIxT, min3_eq, rEq_int, rNe_int, min_if, max_if, and_assoc, V.ref.injEq, V.str.injEq, List.cons.injEq, and_true, true_and, ↓reduceIte, Bool.false_eq_true, Bool.not_true, Bool.not_false, Int.reduceToNat, Int.reducePow, Int.reduceAdd, Int.reduceSub, Int.reduceNeg, tVirt, tOff, tFld, sFld_eq, tMake_eq, rTupOf, iStr, rNe_str, rEq_str, rEq_bl, tRaise1, tFmt, tJs, tCallS, WE, wKeep_eq, reduceCtorEq, false_and, and_false, exists_false, or_false, false_or, tIsN, tNotN, decide_true, decide_false, tDictN]
      refine ⟨cdw (by decide) (by decide), _, _, rfl, dr0, dr1, fun p wa d H6 np e6 io g so => ?_⟩
      have e36 := e35.trans e6
      obtain ⟨ho, ws, hw, tw⟩ := id io
      rw [← hN2]
      clear hN2
      refine cut_eq fun N2 hN2 => ?_
      simp only [tSeq, tIfS, tOr, tAnd, tNot, tB, tTest, tCB, tCall, tCons, tVar, tNil, tC, tRet, tRetN, tNext, tAsg, gName, tDrop, tOp, tUn, tAug, ipI, tPar, tIf, tAndV, tOrV, tNotV, tChain, tNever, rI0, rI, rU, L2.start, cxK, List.map_cons, List.map_nil, List.length_cons, List.length_nil, Nat.reduceAdd, Nat.reduceSub, List.replicate, List.cons_append, List.nil_append, List.append_nil, List.set_cons_zero, List.set_cons_succ, List.getElem?_cons_zero, List.getElem?_cons_succ, Option.some.injEq, V.int.injEq, V.bl.injEq, exists_eq_left', exists_eq_left, exists_and_left, tFor_eq, iRng1, iRng2, iRng3, iList, iEnum, iZip, iTup, tLst_eq, tTup_eq, rCat_eq, rCatS, rSum, rAppend_eq, rListOf, rSlL_eq, tSl, tNoPart, tPart, tLc_eq, tBM, rIxL, rIxT, min3_eq, rEq_int, rNe_int, min_if, max_if, and_assoc, V.ref.injEq, V.str.injEq, List.cons.injEq, and_true, true_and, ↓reduceIte, Bool.false_eq_true, Bool.not_true, Bool.not_false, Int.reduceToNat, Int.reducePow, Int.reduceAdd, Int.reduceSub, Int.reduceNeg, tVirt, tOff, tFld, sFld_eq, tMake_eq, rTupOf, iStr, rNe_str, rEq_str, rEq_bl, tRaise1, tFmt, tJs, tCallS, WE, wKeep_eq, reduceCtorEq, false_and, and_false, exists_false, or_false, false_or, tIsN, tNotN, decide_true, decide_false, tDictN]
      refine ⟨_, .inl ho, fun hd nhd => ?_⟩
      obtain ⟨H7, eH7⟩ : ∃ H7, H7 = upd H6 hd (.dK (ownV d wa)) := ⟨_, rfl⟩
      have e7 : Ex H6 H7 := by rw [eH7]; exact Ex.new nhd
      have h7 : H7 hd = some (.dK (ownV d wa)) := by rw [eH7]; exact upd_same
      rw [← eH7, ← hN2]
      clear hN2 eH7
      refine cut_eq fun N2 hN2 => ?_
      simp only [tSeq, tIfS, tOr, tAnd, tNot, tB, tTest, tCB, tCall, tCons, tVar, tNil, tC, tRet, tRetN, tNext, tAsg, gName, tDrop, tOp, tUn, tAug, ipI, tPar, tIf, tAndV, tOrV, tNotV, tChain, tNever, rI0, rI, rU, L2.start, cxK, List.map_cons, List.map_nil, List.length_cons, List.length_nil, Nat.reduceAdd, Nat.reduceSub, List.replicate, List.cons_append, List.nil_append, List.append_nil, List.set_cons_zero, List.set_cons_succ, List.getElem?_cons_zero, List.getElem?_cons_succ, Option.some.injEq, V.int.injEq, V.bl.injEq, exists_eq_left', exists_eq_left, exists_and_left, tFor_eq, iRng1, iRng2, iRng3, iList, iEnum, iZip, iTup, tLst_eq, tTup_eq, rCat_eq, rCatS, rSum, rAppend_eq, rListOf, rSlL_eq, tSl, tNoPart, tPart, tLc_eq, tBM, rIxL, rIxT, min3_eq, rEq_int, rNe_int, min_if, max_if, and_assoc, V.ref.injEq, V.str.injEq, List.cons.injEq, and_true, true_and, ↓reduceIte, Bool.false_eq_true, Bool.not_true, Bool.not_false, Int.reduceToNat, Int.reducePow, Int.reduceAdd, Int.reduceSub, Int.reduceNeg, tVirt, tOff, tFld, sFld_eq, tMake_eq, rTupOf, iStr, rNe_str, rEq_str, rEq_bl, tRaise1, tFmt, tJs, tCallS, WE, wKeep_eq, reduceCtorEq, false_and, and_false, exists_false, or_false, false_or, tIsN, tNotN, decide_true, decide_false, tDictN, sDPut, tDGet]
      have nhd3 : H3 hd = none := fresh_back e36 nhd
      refine ⟨_, .inl ⟨_, Sum.inr "walls", .inl (e7 _ _ ho), rfl, rfl⟩, _, rfl, _, .inl (sq_of (e7 _ _ hw)), new_of fun lw H8 nlw e8 hlw => ?_⟩
      refine dput_chg (e8 _ _ h7) (show (12 : Nat) < 100000 by decide) (kvs' := ownV d lw) rfl fun H9 k9 h9 => ?_
      have e69 : Ex H6 H9 := ex_chg (e7.trans e8) nhd k9
      have nlw6 : H6 lw = none := fresh_back e7 nlw
      have lwh : lw ≠ hd := fun z => by rw [z, h7] at nlw; cases nlw
      have hlw9 : H9 lw = some (.lst ws) := (k9 lw lwh).trans hlw
      rw [← hN2]
      clear hN2 k9
      refine cut_eq fun N2 hN2 => ?_
      simp only [tSeq, tIfS, tOr, tAnd, tNot, tB, tTest, tCB, tCall, tCons, tVar, tNil, tC, tRet, tRetN, tNext, tAsg, gName, tDrop, tOp, tUn, tAug, ipI, tPar, tIf, tAndV, tOrV, tNotV, tChain, tNever, rI0, rI, rU, L2.start, cxK, List.map_cons, List.map_nil, List.length_cons, List.length_nil, Nat.reduceAdd, Nat.reduceSub, List.replicate, List.cons_append, List.nil_append, List.append_nil, List.set_cons_zero, List.set_cons_succ, List.getElem?_cons_zero, List.getElem?_cons_succ, Option.some.injEq, V.int.injEq, V.bl.injEq, exists_eq_left', exists_eq_left, exists_and_left, tFor_eq, iRng1, iRng2, iRng3, iList, iEnum, iZip, iTup, tLst_eq, tTup_eq, rCat_eq, rCatS, rSum, rAppend_eq, rListOf, rSlL_eq, tSl, tNoPart, tPart, tLc_eq, tBM, rIxL, rIxT, min3_eq, rEq_int, rNe_int, min_if, max_if, and_assoc, V.ref.injEq, V.str.injEq, List.cons.injEq, and_true, true_and, ↓reduceIte, Bool.false_eq_true, Bool.not_true, Bool.not_false, Int.reduceToNat, Int.reducePow, Int.reduceAdd, Int.reduceSub, Int.reduceNeg, tVirt, tOff, tFld, sFld_eq, tMake_eq, rTupOf, iStr, rNe_str, rEq_str, rEq_bl, tRaise1, tFmt, tJs, tCallS, WE, wKeep_eq, reduceCtorEq, false_and, and_false, exists_false, or_false, false_or, tIsN, tNotN, decide_true, decide_false, tDictN]
      have e39 := e36.trans e69
      have nm : ∀ {R : Prop}, nameV (.str d.name) = false → R := fun z => by rw [g.nm] at z; cases z
      have okm : (mOk (.int d.least) (.int d.greatest) (.int d.pace) (.int d.gain) (.int d.place) && tOk d.kd (.int d.lane) (.int d.at_) (.int d.wide) (.int d.tall) (some d.walls)) = true := by
        rw [good_mOk g, good_tOk g]
        rfl
      refine ⟨hd, _, _, _, _, _, _, d.kd, _, _, _, _, _, some d.walls, rfl, h9, ⟨_, .str _ (Nat.le_trans g.nl (by decide))⟩, ⟨_, .int _⟩, ⟨_, .int _⟩, ⟨_, .int _⟩, ⟨_, .int _⟩, ⟨_, .int _⟩, ⟨_, .int _⟩, ⟨_, .int _⟩, ⟨_, .int _⟩, ⟨_, .int _⟩, walls_is hlw9 (tw.mono e69) g.k0 g.k4 g.ok, (e03.trans e39).tab tg, fun z => nm z, (fun _ z => by rw [okm] at z; cases z), fun _ _ x dx t H10 nx e10 hx hf => ?_⟩
      rw [← hN2]
      clear hN2
      refine cut_eq fun N2 hN2 => ?_
      have hlw10 := e10 _ _ hlw9
      have h10 := e10 _ _ h9
      simp only [tSeq, tIfS, tOr, tAnd, tNot, tB, tTest, tCB, tCall, tCons, tVar, tNil, tC, tRet, tRetN, tNext, tAsg, gName, tDrop, tOp, tUn, tAug, ipI, tPar, tIf, tAndV, tOrV, tNotV, tChain, tNever, rI0, rI, rU, L2.start, cxK, List.map_cons, List.map_nil, List.length_cons, List.length_nil, Nat.reduceAdd, Nat.reduceSub, List.replicate, List.cons_append, List.nil_append, List.append_nil, List.set_cons_zero, List.set_cons_succ, List.getElem?_cons_zero, List.getElem?_cons_succ, Option.some.injEq, V.int.injEq, V.bl.injEq, exists_eq_left', exists_eq_left, exists_and_left, tFor_eq, iRng1, iRng2, iRng3, iList, iEnum, iZip, iTup, tLst_eq, tTup_eq, rCat_eq, rCatS, rSum, rAppend_eq, rListOf, rSlL_eq, tSl, tNoPart, tPart, tLc_eq, tBM, rIxL, rIxT, min3_eq, rEq_int, rNe_int, min_if, max_if, and_assoc, V.ref.injEq, V.str.injEq, List.cons.injEq, and_true, true_and, ↓reduceIte, Bool.false_eq_true, Bool.not_true, Bool.not_false, Int.reduceToNat, Int.reducePow, Int.reduceAdd, Int.reduceSub, Int.reduceNeg, tVirt, tOff, tFld, sFld_eq, tMake_eq, rTupOf, iStr, rNe_str, rEq_str, rEq_bl, tRaise1, tFmt, tJs, tCallS, WE, wKeep_eq, reduceCtorEq, false_and, and_false, exists_false, or_false, false_or, tIsN, tNotN, decide_true, decide_false, tDictN, tBM0, tDGet, rClear]
      refine ⟨_, .inl ⟨_, Sum.inr "walls", .inl h10, rfl, rfl⟩, .inl ⟨rfl, _, sq_of hlw10⟩, _, rfl, _, hlw10, ?_⟩
      obtain ⟨H11, eH⟩ : ∃ H11, H11 = upd H10 lw (.lst []) := ⟨_, rfl⟩
      have k11 : ∀ b, b ≠ lw → H11 b = H10 b := fun b hb => by rw [eH]; exact upd_ne hb
      rw [← eH]
      clear eH
      have e611 : Ex H6 H11 := ex_chg (e69.trans e10) nlw6 k11
      have e311 := e36.trans e611
      have kt : ∀ {b : Addr} {o : HO}, H10 b = some o → (∀ l, o ≠ .lst l) → H11 b = some o := fun {b o} hb no => (k11 b fun z => by
        rw [z, hlw10] at hb
        cases hb
        exact no _ rfl).trans hb
      have im : IsM cl H11 x d := by
        refine ⟨dx, t, ?_, fun z => ?_⟩
        · rw [← tailW_M]
          exact kt hx fun l z => by cases z
        · obtain ⟨w2, ys, r1, r2, r3⟩ := hf z
          cases r1
          refine ⟨ys, kt r2 (fun l z => by cases z), r3.1, fun i y w g1 g2 => ?_⟩
          obtain ⟨b, q1, q2⟩ := r3.2 i y w g1 g2
          exact ⟨b, q1, kt q2 fun l z => by cases z⟩
      clear kt k11
      have io11 := io.mono e611
      rw [← hN2]
      clear hN2
      refine cut_eq fun N2 hN2 => ?_
      simp only [tSeq, tIfS, tOr, tAnd, tNot, tB, tTest, tCB, tCall, tCons, tVar, tNil, tC, tRet, tRetN, tNext, tAsg, gName, tDrop, tOp, tUn, tAug, ipI, tPar, tIf, tAndV, tOrV, tNotV, tChain, tNever, rI0, rI, rU, L2.start, cxK, List.map_cons, List.map_nil, List.length_cons, List.length_nil, Nat.reduceAdd, Nat.reduceSub, List.replicate, List.cons_append, List.nil_append, List.append_nil, List.set_cons_zero, List.set_cons_succ, List.getElem?_cons_zero, List.getElem?_cons_succ, Option.some.injEq, V.int.injEq, V.bl.injEq, exists_eq_left', exists_eq_left, exists_and_left, tFor_eq, iRng1, iRng2, iRng3, iList, iEnum, iZip, iTup, tLst_eq, tTup_eq, rCat_eq, rCatS, rSum, rAppend_eq, rListOf, rSlL_eq, tSl, tNoPart, tPart, tLc_eq, tBM, rIxL, rIxT, min3_eq, rEq_int, rNe_int, min_if, max_if, and_assoc, V.ref.injEq, V.str.injEq, List.cons.injEq, and_true, true_and, ↓reduceIte, Bool.false_eq_true, Bool.not_true, Bool.not_false, Int.reduceToNat, Int.reducePow, Int.reduceAdd, Int.reduceSub, Int.reduceNeg, tVirt, tOff, tFld, sFld_eq, tMake_eq, rTupOf, iStr, rNe_str, rEq_str, rEq_bl, tRaise1, tFmt, tJs, tCallS, WE, wKeep_eq, reduceCtorEq, false_and, and_false, exists_false, or_false, false_or, tIsN, tNotN, decide_true, decide_false, tDictN]
      refine ⟨x, p, wa, d, rfl, im, io11, g, so, fun H12 e12 => ⟨_, rfl, ifF rfl ⟨cdw (by decide) (by decide), x, p, wa, d, _, rfl, im.mono e12, io11.mono e12, g, fun H13 e13 => ⟨_, rfl, ifF rfl ?_⟩⟩⟩⟩
      rw [← hN2]
      clear hN2
      have e1113 := e12.trans e13
      simp only [tSeq, tIfS, tOr, tAnd, tNot, tB, tTest, tCB, tCall, tCons, tVar, tNil, tC, tRet, tRetN, tNext, tAsg, gName, tDrop, tOp, tUn, tAug, ipI, tPar, tIf, tAndV, tOrV, tNotV, tChain, tNever, rI0, rI, rU, L2.start, cxK, List.map_cons, List.map_nil, List.length_cons, List.length_nil, Nat.reduceAdd, Nat.reduceSub, List.replicate, List.cons_append, List.nil_append, List.append_nil, List.set_cons_zero, List.set_cons_succ, List.getElem?_cons_zero, List.getElem?_cons_succ, Option.some.injEq, V.int.injEq, V.bl.injEq, exists_eq_left', exists_eq_left, exists_and_left, tFor_eq, iRng1, iRng2, iRng3, iList, iEnum, iZip, iTup, tLst_eq, tTup_eq, rCat_eq, rCatS, rSum, rAppend_eq, rListOf, rSlL_eq, tSl, tNoPart, tPart, tLc_eq, tBM, rIxL, rIxT, min3_eq, rEq_int, rNe_int, min_if, max_if, and_assoc, V.ref.injEq, V.str.injEq, List.cons.injEq, and_true, true_and, ↓reduceIte, Bool.false_eq_true, Bool.not_true, Bool.not_false, Int.reduceToNat, Int.reducePow, Int.reduceAdd, Int.reduceSub, Int.reduceNeg, tVirt, tOff, tFld, sFld_eq, tMake_eq, rTupOf, iStr, rNe_str, rEq_str, rEq_bl, tRaise1, tFmt, tJs, tCallS, WE, wKeep_eq, reduceCtorEq, false_and, and_false, exists_false, or_false, false_or, tIsN, tNotN, decide_true, decide_false, tDictN]
      refine ⟨cdw (by decide) (by decide), p, wa, d, _, rfl, io11.mono e1113, g, so, (e03.trans (e311.trans e1113)).tab tg, fun H14 e14 => ⟨_, rfl, ifF rfl ?_⟩⟩
      exact (hPv _ _ _).mpr ⟨⟨_, _, _, _, _, _, rfl⟩, (e311.trans e1113).trans e14⟩
    · intro σ H2 hp
      obtain ⟨⟨o1, o2, o3, o4, o5, o6, rfl⟩, e⟩ := (hPv _ _ _).mp hp
      show N1 _ H2
      rw [← hN1]
      clear hN1
      simp only [tSeq, tIfS, tOr, tAnd, tNot, tB, tTest, tCB, tCall, tCons, tVar, tNil, tC, tRet, tRetN, tNext, tAsg, gName, tDrop, tOp, tUn, tAug, ipI, tPar, tIf, tAndV, tOrV, tNotV, tChain, tNever, rI0, rI, rU, L2.start, cxK, List.map_cons, List.map_nil, List.length_cons, List.length_nil, Nat.reduceAdd, Nat.reduceSub, List.replicate, List.cons_append, List.nil_append, List.append_nil, List.set_cons_zero, List.set_cons_succ, List.getElem?_cons_zero, List.getElem?_cons_succ, Option.some.injEq, V.int.injEq, V.bl.injEq, exists_eq_left', exists_eq_left, exists_and_left, tFor_eq, iRng1, iRng2, iRng3, iList, iEnum, iZip, iTup, tLst_eq, tTup_eq, rCat_eq, rCatS, rSum, rAppend_eq, rListOf, rSlL_eq, tSl, tNoPart, tPart, tLc_eq, tBM, rIxL, rIxT, min3_eq, rEq_int, rNe_int, min_if, max_if, and_assoc, V.ref.injEq, V.str.injEq, List.cons.injEq, and_true, true_and, ↓reduceIte, Bool.false_eq_true, Bool.not_true, Bool.not_false, Int.reduceToNat, Int.reducePow, Int.reduceAdd, Int.reduceSub, Int.reduceNeg, tVirt, tOff, tFld, sFld_eq, tMake_eq, rTupOf, iStr, rNe_str, rEq_str, rEq_bl, tRaise1, tFmt, tJs, tCallS, WE, wKeep_eq, reduceCtorEq, false_and, and_false, exists_false, or_false, false_or, tIsN, tNotN, decide_true, decide_false, tDictN]
      exact q H2
end
end FW

set_option Elab.async false
set_option linter.all false
set_option maxRecDepth 100000
set_option maxHeartbeats 0
/-! ### the head's facts: a hook that sees the statics too -/
namespace He
open PySem PySem.Spec PyProof.Rows L2
def refsF (g : Addr → Option Obj) (as : List Addr) : List Addr := as.flatMap fun a => match g a with
  | some o => refsO o
  | none => []
/-- what is reached in n steps, level by level -/
def asF (g : Addr → Option Obj) : Nat → List Addr → List Addr
  | 0, l => l
  | n + 1, l => l ++ asF g n (refsF g l)
def frS (g : Addr → Option Obj) (n : Nat) : PySem.W.Frag := frT g (asF g n [mainGlobals] ++ [cStatics])
/-- a def's code object is one with a table, the table is empty and no part of K -/
def emptyAt (g : Addr → Option Obj) (K : PySem.W.Frag) (q : Addr × Addr) : Bool := PySem.W.codeHdIn K q.1 q.2 && (g q.2).any emptyTab
/-- all that the head tells: the facts of fa, the defs of fn, the Bools of bs, the tables of tf -/
structure SaysS (fa : List Fa) (fn : List DefD) (tf : List Defn) (bs : List (PySem.W.Frag → Bool)) (h : Heap) (K : PySem.W.Frag) : Prop where
  d : SaysD fa fn K
  more : (bs.all fun f => f K) = true
  tab : ∀ p ∈ tf, PySem.W.codeHdIn K (cT K p).1 (cT K p).2 = true ∧ K.lookup (cT K p).2 = none ∧ h.get? (cT K p).2 = some (PySem.W.tabObj #[])
abbrev AlS : Type := AlD × Bool
def obsS (n : Nat) (fa : List Fa) (fn : List DefD) (tf : List Defn) (bs : List (PySem.W.Frag → Bool)) (g : Addr → Option Obj) : AlS := (obsD fa fn (frS g n), (bs.all fun f => f (frS g n)) && tf.all fun p => emptyAt g (frS g n) (cT (frS g n) p))
theorem emptyAt_ok {h : Heap} {n : Nat} {q : Addr × Addr} (e : emptyAt h.get? (frS h.get? n) q = true) : PySem.W.codeHdIn (frS h.get? n) q.1 q.2 = true ∧ (frS h.get? n).lookup q.2 = none ∧ h.get? q.2 = some (PySem.W.tabObj #[]) := by
  obtain ⟨e1, e2⟩ := ba e
  cases ho : h.get? q.2 with
  | none => rw [ho] at e2; cases e2
  | some o =>
    rw [ho] at e2
    exact ⟨e1, frT_none ho e2, congrArg some (emptyTab_eq e2)⟩
def hookS (n : Nat) (fa : List Fa) (fn : List DefD) (tf : List Defn) (bs : List (PySem.W.Frag → Bool)) : PySem.W.Hook where
  α := AlS
  obs s := obsS n fa fn tf bs s.heap.get?
  val _ := (valD fn, true)
  says _ h := ∃ K : PySem.W.Frag, K.In h ∧ SaysS fa fn tf bs h K
  of _ s e := by
    have e2 := congrArg Prod.snd e
    obtain ⟨b1, b2⟩ := ba e2
    exact ⟨frS s.heap.get? n, frT_in, congrArg Prod.fst e, b1, fun p hp => emptyAt_ok (List.all_eq_true.mp b2 p hp)⟩
  keeps _ _ _ y k := by
    obtain ⟨K, i, s⟩ := y
    exact ⟨K, i.keeps k, s.d, s.more, fun p hp => let t := s.tab p hp; ⟨t.1, t.2.1, k _ _ t.2.2⟩⟩
theorem obsS_eq {n : Nat} {fa : List Fa} {fn : List DefD} {tf : List Defn} {bs : List (PySem.W.Frag → Bool)} {g : Addr → Option Obj} {s : Shared} (h : ∀ a, g a = s.heap.get? a) : obsS n fa fn tf bs g = (hookS n fa fn tf bs).obs s := congrArg (obsS n fa fn tf bs) (funext h)
theorem SaysS.exAt {fa : List Fa} {fn : List DefD} {tf : List Defn} {bs : List (PySem.W.Frag → Bool)} {h : Heap} {K : PySem.W.Frag} (c : SaysS fa fn tf bs h K) (i : Nat) {f : PySem.W.Frag → Bool} (e : bs[i]? = some f) : f K = true := List.all_eq_true.mp c.more f (List.mem_of_getElem? e)
def subB (K : PySem.W.Frag) (x y : Str) (b : Bool) : Bool := decide (PySem.W.subIn K (.ref (ga K x)) (.ref (ga K y)) = some b)
def kitB1 (K : PySem.W.Frag) (x y : Str) (b : Bool) : Bool := decide (PySem.W.kitOne K (.ref (ga K x)) (.ref (ga K y)) = some b)
def kitBs (K : PySem.W.Frag) (x : Str) (ys : List Str) (b : Bool) : Bool := decide (PySem.W.kitAny K (.ref (ga K x)) (ys.map fun y => .ref (ga K y)) = some b)
/-- an exception class of one's own -/
def excB (K : PySem.W.Frag) (x s : Str) : Bool := (Fa.exc x).ok K && ((Fa.exm x s true).ok K && (eqO (PySem.W.findIn K (.ref (ga K x)) "__getattribute__") (some (some (.builtin "BaseException.__getattribute__"))) && (eqO (PySem.W.findIn K (.ref (ga K x)) "__getattr__") (some none) && (PySem.W.hasDictIn K (ga K x) &&
  (eqO (PySem.W.findIn K (.ref (ga K x)) "__class__") (some (some (.builtin "object.__class__"))) && (eqO (PySem.W.specialIn K (.builtin "object.__class__") "__get__") (some (some (.builtin "getset_descriptor.__get__"))) && (decide (PySem.W.takesIn K (.builtin "object.__class__") = some true) && (decide (PySem.W.mroIn K (ga K x) (.type "object") = some true) && decide (PySem.W.kitOne K (.ref (ga K x)) (.type "ValueError") = some true)))))))))
theorem excB_ok {K : PySem.W.Frag} {h : Heap} {mg : Str → Option Value} {x s : Str} (g : mg x = some (.ref (ga K x))) (e : excB K x s = true) : Ex1 K mg (ga K x) (ga K s) x ∧ PySem.W.kitOne K (.ref (ga K x)) (.type "ValueError") = some true := by
  obtain ⟨c1, e⟩ := ba e
  obtain ⟨c2, e⟩ := ba e
  obtain ⟨c3, e⟩ := ba e
  obtain ⟨c4, e⟩ := ba e
  obtain ⟨c5, e⟩ := ba e
  obtain ⟨c6, e⟩ := ba e
  obtain ⟨c7, e⟩ := ba e
  obtain ⟨c8, e⟩ := ba e
  obtain ⟨c9, c10⟩ := ba e
  obtain ⟨d1, d2, d3, d4⟩ := exc_ok c1
  exact ⟨⟨g, d1, d2, d3, d4, ⟨eqO_ok c3, eqO_ok c4, d3, c5, eqO_ok c6, eqO_ok c7, of_decide_eq_true c8, of_decide_eq_true c9⟩, exm_ok c2⟩, of_decide_eq_true c10⟩
/-- an instance's class as isinstance sees it -/
def insB (K : PySem.W.Frag) (x : Str) : Bool := eqO (PySem.W.findIn K (.ref (ga K x)) "__class__") (some (some (.builtin "object.__class__"))) && (eqO (PySem.W.specialIn K (.builtin "object.__class__") "__get__") (some (some (.builtin "getset_descriptor.__get__"))) && (decide (PySem.W.takesIn K (.builtin "object.__class__") = some true) && decide (PySem.W.mroIn K (ga K x) (.type "object") = some true)))
theorem insB_ok {K : PySem.W.Frag} {x : Str} (c : Cls K (ga K x)) (e : insB K x = true) {H : Hp} {a dx : Addr} {fs : List (Str × V)} (ha : H a = some (.ins (ga K x) dx fs)) : TyX K H (.ref a) (.ref (ga K x)) := by
  obtain ⟨c1, e⟩ := ba e
  obtain ⟨c2, e⟩ := ba e
  obtain ⟨c3, c4⟩ := ba e
  exact .base (.ins ha c (eqO_ok c1) (eqO_ok c2) (of_decide_eq_true c3) (of_decide_eq_true c4))
/-- a def read off a class -/
def offB (K : PySem.W.Frag) (x m : Str) : Bool := PySem.W.readsIn K (ga K x) (.type "type") && (eqO (PySem.W.specialIn K (.ref (ga K x)) "__getattribute__") (some (some (.builtin "type.__getattribute__"))) && ((match PySem.W.findCls K (.ref (ga K x)) (.type "type") m with
  | some (.val (.ref a)) => decide (a = ma K (ga K x) m)
  | _ => false) && PySem.W.keepIn K (.ref (ma K (ga K x) m))))
theorem offB_ok {P : Program} {w : World} {K : PySem.W.Frag} {mg : Str → Option Value} {base : Heap} {CX : CXT} {k : Nat} {x m : Str} {ps : List Str} {sp : Sp} {fd : FuncData} (e : offB K x m = true) (F : FnOk P w K mg base CX k (ma K (ga K x) m) fd ps sp) (b : Binds K fd ps []) : Off P w K mg base CX k (ga K x) m ps sp := by
  obtain ⟨c1, e⟩ := ba e
  obtain ⟨c2, e⟩ := ba e
  obtain ⟨c3, c4⟩ := ba e
  refine ⟨c1, eqO_ok c2, _, fd, ?_, c4, F, b⟩
  split at c3
  · rename_i a q
    rw [q, of_decide_eq_true c3]
  · cases c3
theorem FunD.to {K : PySem.W.Frag} {x q : Str} {st : Stmt} {kws : List (Str × V)} {f : Addr} {fd : FuncData} (F : FunD K x q (defArgs st) (defBody st) (defScope st) [] kws f fd) : Fun K x q st f fd := by
  obtain ⟨oc, od, dV, kV, doc, pm, an, cdv, ct, osl, rfl, lk, hcd, hD, hK⟩ := F.ex
  rcases hD with ⟨_, rfl⟩ | ⟨e, _⟩
  · exact ⟨⟨oc, od, kV, doc, pm, an, cdv, ct, osl, rfl, lk, hcd⟩, F.kp⟩
  · exact absurd rfl e
theorem FunD.toT {K : PySem.W.Frag} {x q : Str} {st : Stmt} {kws : List (Str × V)} {p : Defn} {fd : FuncData} (F : FunD K x q (defArgs st) (defBody st) (defScope st) [] kws (fAd K p) fd) : FunT K x q st (fAd K p) fd (cT K p).1 := by
  obtain ⟨oc, od, dV, kV, doc, pm, an, cdv, ct, osl, rfl, lk, hcd, hD, hK⟩ := F.ex
  rcases hD with ⟨_, rfl⟩ | ⟨e, _⟩
  · obtain ⟨c, rfl⟩ := codeIn_ref hcd
    have ec : codeOf K p = c := codeOf_eq lk rfl
    show FunT K x q st (fAd K p) _ (codeOf K p)
    rw [ec]
    exact ⟨⟨oc, od, kV, doc, pm, an, ct, osl, rfl, lk, hcd⟩, F.kp⟩
  · exact absurd rfl e
theorem subst_ma {K : PySem.W.Frag} {C D m : Str} (e : decide (ma K (ga K C) m = ma K (ga K D) m) = true) : ma K (ga K C) m = ma K (ga K D) m := of_decide_eq_true e
end He
/-! ### methods that ask super(): their cell, their code object's file -/
namespace He
open PySem PySem.Spec PyProof.Rows L2
structure SupD where
  at_ : Defn
  name : Str
  qual : Str
  st : Stmt
  owner : Str
  file : Str
abbrev SuW : Type := Option (Str × Str × Arguments × FuncBody × Scope × Addr × Addr)
def suW (K : PySem.W.Frag) (p : Defn) : SuW := match K.lookup (fAd K p) with
  | some ⟨_, _, .func fd, _⟩ => some (fd.name, fd.qualname, fd.params, fd.body, fd.scope, fd.globals, fd.builtins)
  | _ => none
def SupD.val (d : SupD) : SuW := some (d.name, d.qual, defArgs d.st, .stmts (defBody d.st), defScope d.st, mainGlobals, builtinsNs)
def cellB (K : PySem.W.Frag) (cc D : Addr) : Bool := match K.lookup cc with
  | some ⟨_, _, .cell (some (.ref e)), _⟩ => decide (e = D)
  | _ => false
theorem cellB_ok {K : PySem.W.Frag} {cc D : Addr} (h : cellB K cc D = true) : ∃ (cl : Value) (cld : Option Addr) (csl : Array (Option Value)), K.lookup cc = some ⟨cl, cld, .cell (some (.ref D)), csl⟩ := by
  unfold cellB at h
  split at h
  · rename_i q
    rw [of_decide_eq_true h] at q
    exact ⟨_, _, _, q⟩
  · cases h
def fileB (K : PySem.W.Frag) (c : Addr) (file : Str) : Bool := match K.lookup c with
  | some ⟨_, _, .fields vs, _⟩ => (match (vs[2]? : Option Value) with
    | some (.str z _) => decide (z = file)
    | _ => false)
  | _ => false
theorem fileB_ok {K : PySem.W.Frag} {c : Addr} {file : Str} (h : fileB K c file = true) : ∃ (ccl : Value) (cdd : Option Addr) (vs : Array Value) (ccs : Array (Option Value)) (tf : Tok), K.lookup c = some ⟨ccl, cdd, .fields vs, ccs⟩ ∧ vs[2]? = some (.str file tf) := by
  unfold fileB at h
  split at h
  · rename_i q
    split at h
    · rename_i q2
      rw [of_decide_eq_true h] at q2
      exact ⟨_, _, _, _, _, q, q2⟩
    · cases h
  · cases h
def supC (K : PySem.W.Frag) (owner file qual : Str) (clo : List (Str × Addr)) (dfl code : Value) : Bool := match clo, dfl, code with
  | [(x, cc)], .none, .ref c => decide (x = "__class__") && (cellB K cc (ga K owner) && (fileB K c file && PySem.W.codeIn K (.ref c) qual))
  | _, _, _ => false
def SupD.ok (K : PySem.W.Frag) (d : SupD) : Bool := (match K.lookup (fAd K d.at_) with
  | some ⟨_, _, .func fd, _⟩ => supC K d.owner d.file d.qual fd.closure fd.defaults fd.code
  | _ => false) && (PySem.W.clsIn K (ga K d.owner)).isSome
theorem SupD.sup {K : PySem.W.Frag} {d : SupD} (e : suW K d.at_ = d.val) (c : d.ok K = true) : ∃ fd c cc, SupF K d.name d.qual d.st (fAd K d.at_) fd c cc (ga K d.owner) d.file := by
  obtain ⟨c1, c2⟩ := ba c
  unfold suW at e
  cases q : K.lookup (fAd K d.at_) with
  | none =>
    rw [q] at e
    cases e
  | some o =>
    obtain ⟨oc, od, dt, osl⟩ := o
    rw [q] at c1 e
    cases dt with
    | func fd =>
      obtain ⟨n1, n2, n3, n4, n5, n6, n7, n8, n9, n10, n11, n12, n13, n14, n15⟩ := fd
      have e2 : (some (n1, n2, n3, n4, n5, n6, n15) : SuW) = some (d.name, d.qual, defArgs d.st, .stmts (defBody d.st), defScope d.st, mainGlobals, builtinsNs) := e
      simp only [Option.some.injEq, Prod.mk.injEq] at e2
      obtain ⟨h1, h2, h3, h4, h5, h6, h8⟩ := e2
      subst h1 h2 h3 h4 h5 h6 h8
      have c3 : supC K d.owner d.file d.qual n7 n8 n13 = true := c1
      unfold supC at c3
      split at c3
      · obtain ⟨k1, k2⟩ := ba c3
        obtain ⟨k3, k4⟩ := ba k2
        obtain ⟨k5, k6⟩ := ba k4
        have k1 := of_decide_eq_true k1
        subst k1
        exact ⟨_, _, _, ⟨_, _, _, _, _, _, _, _, rfl, q⟩, fileB_ok k5, k6, cellB_ok k3, Option.isSome_iff_exists.mp c2⟩
      · cases c3
    | _ => cases e
def refsP (o : Obj) : List Addr := refsO o ++ match o.data with
  | .func fd => fd.closure.map fun q => q.2
  | _ => []
def refsPF (g : Addr → Option Obj) (as : List Addr) : List Addr := as.flatMap fun a => match g a with
  | some o => refsP o
  | none => []
def asP (g : Addr → Option Obj) : Nat → List Addr → List Addr
  | 0, l => l
  | n + 1, l => l ++ asP g n (refsPF g l)
def frP (g : Addr → Option Obj) (n : Nat) : PySem.W.Frag := frT g (asP g n [mainGlobals] ++ [cStatics])
structure SaysP (fa : List Fa) (fn : List DefD) (su : List SupD) (tf : List Defn) (bs : List (PySem.W.Frag → Bool)) (h : Heap) (K : PySem.W.Frag) : Prop where
  s : SaysS fa fn tf bs h K
  sup : ∀ d ∈ su, ∃ fd c cc, SupF K d.name d.qual d.st (fAd K d.at_) fd c cc (ga K d.owner) d.file
abbrev AlP : Type := AlS × List SuW
def obsP (n : Nat) (fa : List Fa) (fn : List DefD) (su : List SupD) (tf : List Defn) (bs : List (PySem.W.Frag → Bool)) (g : Addr → Option Obj) : AlP := ((obsD fa fn (frP g n), (bs.all fun f => f (frP g n)) && ((tf.all fun p => emptyAt g (frP g n) (cT (frP g n) p)) && su.all fun d => d.ok (frP g n))), su.map fun d => suW (frP g n) d.at_)
theorem emptyAt_okP {h : Heap} {n : Nat} {q : Addr × Addr} (e : emptyAt h.get? (frP h.get? n) q = true) : PySem.W.codeHdIn (frP h.get? n) q.1 q.2 = true ∧ (frP h.get? n).lookup q.2 = none ∧ h.get? q.2 = some (PySem.W.tabObj #[]) := by
  obtain ⟨e1, e2⟩ := ba e
  cases ho : h.get? q.2 with
  | none => rw [ho] at e2; cases e2
  | some o =>
    rw [ho] at e2
    exact ⟨e1, frT_none ho e2, congrArg some (emptyTab_eq e2)⟩
theorem map_at {α β : Type} {f g : α → β} : ∀ {l : List α}, l.map f = l.map g → ∀ a ∈ l, f a = g a
  | [], _, a, h => by cases h
  | b :: l, e, a, h => by
    have e1 : f b :: l.map f = g b :: l.map g := e
    injection e1 with e2 e3
    cases h with
    | head => exact e2
    | tail _ h => exact map_at e3 a h
def hookP (n : Nat) (fa : List Fa) (fn : List DefD) (su : List SupD) (tf : List Defn) (bs : List (PySem.W.Frag → Bool)) : PySem.W.Hook where
  α := AlP
  obs s := obsP n fa fn su tf bs s.heap.get?
  val _ := ((valD fn, true), su.map SupD.val)
  says _ h := ∃ K : PySem.W.Frag, K.In h ∧ SaysP fa fn su tf bs h K
  of _ s e := by
    have e1 := congrArg Prod.fst e
    have e2 := congrArg Prod.snd e1
    obtain ⟨b1, b2⟩ := ba e2
    obtain ⟨b3, b4⟩ := ba b2
    exact ⟨frP s.heap.get? n, frT_in, ⟨congrArg Prod.fst e1, b1, fun p hp => emptyAt_okP (List.all_eq_true.mp b3 p hp)⟩, fun d hd => SupD.sup (map_at (congrArg Prod.snd e) d hd) (List.all_eq_true.mp b4 d hd)⟩
  keeps _ _ _ y k := by
    obtain ⟨K, i, s, u⟩ := y
    exact ⟨K, i.keeps k, ⟨s.d, s.more, fun p hp => let t := s.tab p hp; ⟨t.1, t.2.1, k _ _ t.2.2⟩⟩, u⟩
theorem obsP_eq {n : Nat} {fa : List Fa} {fn : List DefD} {su : List SupD} {tf : List Defn} {bs : List (PySem.W.Frag → Bool)} {g : Addr → Option Obj} {s : Shared} (h : ∀ a, g a = s.heap.get? a) : obsP n fa fn su tf bs g = (hookP n fa fn su tf bs).obs s := congrArg (obsP n fa fn su tf bs) (funext h)
end He
namespace FW
open PySem PySem.Spec PyProof.Rows L2
def d_Floor_kind : He.DefD := ⟨("Floor", some "kind"), "kind", "Floor.kind", defArgs s_Floor_kind, defBody s_Floor_kind, defScope s_Floor_kind, [], []⟩
def d_Floor_lane : He.DefD := ⟨("Floor", some "lane"), "lane", "Floor.lane", defArgs s_Floor_lane, defBody s_Floor_lane, defScope s_Floor_lane, [], []⟩
def d_Floor_offset : He.DefD := ⟨("Floor", some "offset"), "offset", "Floor.offset", defArgs s_Floor_offset, defBody s_Floor_offset, defScope s_Floor_offset, [], []⟩
def d_Floor_swept : He.DefD := ⟨("Floor", some "swept"), "swept", "Floor.swept", defArgs s_Floor_swept, defBody s_Floor_swept, defScope s_Floor_swept, [], []⟩
def d_Floor_wide : He.DefD := ⟨("Floor", some "wide"), "wide", "Floor.wide", defArgs s_Floor_wide, defBody s_Floor_wide, defScope s_Floor_wide, [], []⟩
def d_Line_kind : He.DefD := ⟨("Line", some "kind"), "kind", "Line.kind", defArgs s_Line_kind, defBody s_Line_kind, defScope s_Line_kind, [], []⟩
def d_Line_lane : He.DefD := ⟨("Line", some "lane"), "lane", "Line.lane", defArgs s_Line_lane, defBody s_Line_lane, defScope s_Line_lane, [], []⟩
def d_Line_offset : He.DefD := ⟨("Line", some "offset"), "offset", "Line.offset", defArgs s_Line_offset, defBody s_Line_offset, defScope s_Line_offset, [], []⟩
def d_Line_swept : He.DefD := ⟨("Line", some "swept"), "swept", "Line.swept", defArgs s_Line_swept, defBody s_Line_swept, defScope s_Line_swept, [], []⟩
def d_Line_wide : He.DefD := ⟨("Line", some "wide"), "wide", "Line.wide", defArgs s_Line_wide, defBody s_Line_wide, defScope s_Line_wide, [], []⟩
def d_Trap_kind : He.DefD := ⟨("Trap", some "kind"), "kind", "Trap.kind", defArgs s_Trap_kind, defBody s_Trap_kind, defScope s_Trap_kind, [], []⟩
def d_Trap_lane : He.DefD := ⟨("Trap", some "lane"), "lane", "Trap.lane", defArgs s_Trap_lane, defBody s_Trap_lane, defScope s_Trap_lane, [], []⟩
def d_Trap_offset : He.DefD := ⟨("Trap", some "offset"), "offset", "Trap.offset", defArgs s_Trap_offset, defBody s_Trap_offset, defScope s_Trap_offset, [], []⟩
def d_Trap_swept : He.DefD := ⟨("Trap", some "swept"), "swept", "Trap.swept", defArgs s_Trap_swept, defBody s_Trap_swept, defScope s_Trap_swept, [], []⟩
def d_Trap_wide : He.DefD := ⟨("Trap", some "wide"), "wide", "Trap.wide", defArgs s_Trap_wide, defBody s_Trap_wide, defScope s_Trap_wide, [], []⟩
def d_Wagon_kind : He.DefD := ⟨("Wagon", some "kind"), "kind", "Wagon.kind", defArgs s_Wagon_kind, defBody s_Wagon_kind, defScope s_Wagon_kind, [], []⟩
def d_Wagon_lane : He.DefD := ⟨("Wagon", some "lane"), "lane", "Wagon.lane", defArgs s_Wagon_lane, defBody s_Wagon_lane, defScope s_Wagon_lane, [], []⟩
def d_Wagon_offset : He.DefD := ⟨("Wagon", some "offset"), "offset", "Wagon.offset", defArgs s_Wagon_offset, defBody s_Wagon_offset, defScope s_Wagon_offset, [], []⟩
def d_Wagon_swept : He.DefD := ⟨("Wagon", some "swept"), "swept", "Wagon.swept", defArgs s_Wagon_swept, defBody s_Wagon_swept, defScope s_Wagon_swept, [], []⟩
def d_Wagon_wide : He.DefD := ⟨("Wagon", some "wide"), "wide", "Wagon.wide", defArgs s_Wagon_wide, defBody s_Wagon_wide, defScope s_Wagon_wide, [], []⟩
def d__law_classes : He.DefD := ⟨("_law_classes", none), "_law_classes", "_law_classes", defArgs s__law_classes, defBody s__law_classes, defScope s__law_classes, [], []⟩
def d__law_spoilt : He.DefD := ⟨("_law_spoilt", none), "_law_spoilt", "_law_spoilt", defArgs s__law_spoilt, defBody s__law_spoilt, defScope s__law_spoilt, [], []⟩
def d__law_spread : He.DefD := ⟨("_law_spread", none), "_law_spread", "_law_spread", defArgs s__law_spread, defBody s__law_spread, defScope s__law_spread, [], []⟩
def d__law_tail : He.DefD := ⟨("_law_tail", none), "_law_tail", "_law_tail", defArgs s__law_tail, defBody s__law_tail, defScope s__law_tail, [], []⟩
def d__law_takes : He.DefD := ⟨("_law_takes", none), "_law_takes", "_law_takes", defArgs s__law_takes, defBody s__law_takes, defScope s__law_takes, [], []⟩
def d_is_whole : He.DefD := ⟨("is_whole", none), "is_whole", "is_whole", defArgs s_is_whole, defBody s_is_whole, defScope s_is_whole, [], []⟩
def d_Machine_words : He.DefD := ⟨("Machine", some "words"), "words", "Machine.words", defArgs s_Machine_words, defBody s_Machine_words, defScope s_Machine_words, [], []⟩
def d__law_drawn : He.DefD := ⟨("_law_drawn", none), "_law_drawn", "_law_drawn", defArgs s__law_drawn, defBody s__law_drawn, defScope s__law_drawn, [], []⟩
def d_need_whole : He.DefD := ⟨("need_whole", none), "need_whole", "need_whole", defArgs s_need_whole, defBody s_need_whole, defScope s_need_whole, [], []⟩
def d_Floor_words : He.SupD := ⟨("Floor", some "words"), "words", "Floor.words", s_Floor_words, "Floor", "/claim/cut.py"⟩
def d_Line_words : He.SupD := ⟨("Line", some "words"), "words", "Line.words", s_Line_words, "Line", "/claim/cut.py"⟩
def d_Machine_need_within : He.DefD := ⟨("Machine", some "need_within"), "need_within", "Machine.need_within", defArgs s_Machine_need_within, defBody s_Machine_need_within, defScope s_Machine_need_within, [], []⟩
def d_Trap_words : He.SupD := ⟨("Trap", some "words"), "words", "Trap.words", s_Trap_words, "Trap", "/claim/cut.py"⟩
def d_Wagon_words : He.SupD := ⟨("Wagon", some "words"), "words", "Wagon.words", s_Wagon_words, "Wagon", "/claim/cut.py"⟩
def d_is_name : He.DefD := ⟨("is_name", none), "is_name", "is_name", defArgs s_is_name, defBody s_is_name, defScope s_is_name, [], []⟩
def d_need_drive : He.DefD := ⟨("need_drive", none), "need_drive", "need_drive", defArgs s_need_drive, defBody s_need_drive, defScope s_need_drive, [], []⟩
def d_need_lane : He.DefD := ⟨("need_lane", none), "need_lane", "need_lane", defArgs s_need_lane, defBody s_need_lane, defScope s_need_lane, [], []⟩
def d_need_place : He.DefD := ⟨("need_place", none), "need_place", "need_place", defArgs s_need_place, defBody s_need_place, defScope s_need_place, [], []⟩
def d_need_size : He.DefD := ⟨("need_size", none), "need_size", "need_size", defArgs s_need_size, defBody s_need_size, defScope s_need_size, [], []⟩
def d_Floor_taken : He.DefD := ⟨("Floor", some "taken"), "taken", "Floor.taken", defArgs s_Floor_taken, defBody s_Floor_taken, defScope s_Floor_taken, [], []⟩
def d_Line_taken : He.DefD := ⟨("Line", some "taken"), "taken", "Line.taken", defArgs s_Line_taken, defBody s_Line_taken, defScope s_Line_taken, [], []⟩
def d_Trap_taken : He.DefD := ⟨("Trap", some "taken"), "taken", "Trap.taken", defArgs s_Trap_taken, defBody s_Trap_taken, defScope s_Trap_taken, [], []⟩
def d_Wagon_taken : He.DefD := ⟨("Wagon", some "taken"), "taken", "Wagon.taken", defArgs s_Wagon_taken, defBody s_Wagon_taken, defScope s_Wagon_taken, [], []⟩
def d_copied_wall : He.DefD := ⟨("copied_wall", none), "copied_wall", "copied_wall", defArgs s_copied_wall, defBody s_copied_wall, defScope s_copied_wall, [], []⟩
def d_Floor_boxes : He.DefD := ⟨("Floor", some "boxes"), "boxes", "Floor.boxes", defArgs s_Floor_boxes, defBody s_Floor_boxes, defScope s_Floor_boxes, [], []⟩
def d_Line_boxes : He.DefD := ⟨("Line", some "boxes"), "boxes", "Line.boxes", defArgs s_Line_boxes, defBody s_Line_boxes, defScope s_Line_boxes, [], []⟩
def d_Machine___init__ : He.DefD := ⟨("Machine", some "__init__"), "__init__", "Machine.__init__", defArgs s_Machine___init__, defBody s_Machine___init__, defScope s_Machine___init__, [], []⟩
def d_Trap_boxes : He.DefD := ⟨("Trap", some "boxes"), "boxes", "Trap.boxes", defArgs s_Trap_boxes, defBody s_Trap_boxes, defScope s_Trap_boxes, [], []⟩
def d_Wagon_boxes : He.DefD := ⟨("Wagon", some "boxes"), "boxes", "Wagon.boxes", defArgs s_Wagon_boxes, defBody s_Wagon_boxes, defScope s_Wagon_boxes, [], []⟩
def d_copied_walls : He.DefD := ⟨("copied_walls", none), "copied_walls", "copied_walls", defArgs s_copied_walls, defBody s_copied_walls, defScope s_copied_walls, [], []⟩
def d_Floor___init__ : He.DefD := ⟨("Floor", some "__init__"), "__init__", "Floor.__init__", defArgs s_Floor___init__, defBody s_Floor___init__, defScope s_Floor___init__, [], []⟩
def d_Line___init__ : He.DefD := ⟨("Line", some "__init__"), "__init__", "Line.__init__", defArgs s_Line___init__, defBody s_Line___init__, defScope s_Line___init__, [], []⟩
def d_Trap___init__ : He.DefD := ⟨("Trap", some "__init__"), "__init__", "Trap.__init__", defArgs s_Trap___init__, defBody s_Trap___init__, defScope s_Trap___init__, [], []⟩
def d_Wagon___init__ : He.DefD := ⟨("Wagon", some "__init__"), "__init__", "Wagon.__init__", defArgs s_Wagon___init__, defBody s_Wagon___init__, defScope s_Wagon___init__, [], []⟩
def d__law_machine : He.DefD := ⟨("_law_machine", none), "_law_machine", "_law_machine", defArgs s__law_machine, defBody s__law_machine, defScope s__law_machine, [], []⟩
def d__law_place_refused : He.DefD := ⟨("_law_place_refused", none), "_law_place_refused", "_law_place_refused", defArgs s__law_place_refused, defBody s__law_place_refused, defScope s__law_place_refused, [], []⟩
def d__law_told_right : He.DefD := ⟨("_law_told_right", none), "_law_told_right", "_law_told_right", defArgs s__law_told_right, defBody s__law_told_right, defScope s__law_told_right, [], []⟩
def d__law_boxes_right : He.DefD := ⟨("_law_boxes_right", none), "_law_boxes_right", "_law_boxes_right", defArgs s__law_boxes_right, defBody s__law_boxes_right, defScope s__law_boxes_right, [], []⟩
def d__law_refused : He.DefD := ⟨("_law_refused", none), "_law_refused", "_law_refused", defArgs s__law_refused, defBody s__law_refused, defScope s__law_refused, [], []⟩
def d_law : He.DefD := ⟨("law", none), "law", "law", defArgs s_law, defBody s_law, defScope s_law, [], []⟩
def hfn_0 : List (He.DefD) := [d_Floor_kind, d_Floor_lane, d_Floor_offset, d_Floor_swept, d_Floor_wide, d_Line_kind, d_Line_lane, d_Line_offset, d_Line_swept, d_Line_wide, d_Trap_kind, d_Trap_lane, d_Trap_offset, d_Trap_swept, d_Trap_wide, d_Wagon_kind, d_Wagon_lane, d_Wagon_offset, d_Wagon_swept, d_Wagon_wide, d__law_classes, d__law_spoilt, d__law_spread, d__law_tail, d__law_takes, d_is_whole, d_Machine_words, d__law_drawn, d_need_whole, d_Machine_need_within]
def hfn_1 : List (He.DefD) := [d_is_name, d_need_drive, d_need_lane, d_need_place, d_need_size, d_Floor_taken, d_Line_taken, d_Trap_taken, d_Wagon_taken, d_copied_wall, d_Floor_boxes, d_Line_boxes, d_Machine___init__, d_Trap_boxes, d_Wagon_boxes, d_copied_walls, d_Floor___init__, d_Line___init__, d_Trap___init__, d_Wagon___init__, d__law_machine, d__law_place_refused, d__law_told_right, d__law_boxes_right, d__law_refused, d_law]
def hfn : List (He.DefD) := hfn_0 ++ hfn_1
def hsu_0 : List (He.SupD) := [d_Floor_words, d_Line_words, d_Trap_words, d_Wagon_words]
def hsu : List (He.SupD) := hsu_0
def hfa_0 : List (He.Fa) := [.glo "_law_classes", .glo "_law_spoilt", .glo "_law_spread", .glo "_law_tail", .glo "_law_takes", .glo "is_whole", .glo "_law_drawn", .glo "need_whole", .glo "is_name", .glo "need_drive", .glo "need_lane", .glo "need_place", .glo "need_size", .glo "copied_wall", .glo "copied_walls", .glo "_law_machine", .glo "_law_place_refused", .glo "_law_told_right", .glo "_law_boxes_right", .glo "_law_refused", .glo "law", .glo "StageError", .glo "BadNumber", .glo "BadName", .glo "BadStage", .glo "BadSheet", .glo "TooLong", .glo "Busy", .glo "TooNear", .glo "Stopped"]
def hfa_1 : List (He.Fa) := [.glo "NotStopped", .glo "Moving", .glo "NoCue", .glo "BadRow", .glo "Machine", .glo "Line", .glo "Wagon", .glo "Trap", .glo "Floor", .free "isinstance", .free "int", .free "bool", .free "str", .free "list", .free "dict", .free "tuple", .free "len", .free "range", .free "min", .free "max", .free "abs", .free "all", .free "enumerate", .free "super", .free "ValueError", .int "MOST_PACE" 1000000000, .int "FARTHEST" 1000000000, .int "LAST_LANE" 9, .int "MOST_OFFSET" 719, .int "MOST_SIZE" 1000000]
def hfa_2 : List (He.Fa) := [.int "MOST_WALLS" 4, .int "LONGEST_NAME" 8, .cls "Line", .noat "Line" "name", .noat "Line" "least", .noat "Line" "greatest", .noat "Line" "pace", .noat "Line" "gain", .noat "Line" "place", .noat "Line" "lane_told", .noat "Line" "at_told", .noat "Line" "wide_told", .noat "Line" "tall_told", .noat "Line" "walls", .meth "Line" "kind", .meth "Line" "lane", .meth "Line" "wide", .meth "Line" "offset", .meth "Line" "boxes", .meth "Line" "taken", .meth "Line" "swept", .meth "Line" "need_within", .meth "Line" "words", .mkr "Line", .cls "Wagon", .noat "Wagon" "name", .noat "Wagon" "least", .noat "Wagon" "greatest", .noat "Wagon" "pace", .noat "Wagon" "gain"]
def hfa_3 : List (He.Fa) := [.noat "Wagon" "place", .noat "Wagon" "lane_told", .noat "Wagon" "at_told", .noat "Wagon" "wide_told", .noat "Wagon" "tall_told", .noat "Wagon" "walls", .meth "Wagon" "kind", .meth "Wagon" "lane", .meth "Wagon" "wide", .meth "Wagon" "offset", .meth "Wagon" "boxes", .meth "Wagon" "taken", .meth "Wagon" "swept", .meth "Wagon" "need_within", .meth "Wagon" "words", .mkr "Wagon", .cls "Trap", .noat "Trap" "name", .noat "Trap" "least", .noat "Trap" "greatest", .noat "Trap" "pace", .noat "Trap" "gain", .noat "Trap" "place", .noat "Trap" "lane_told", .noat "Trap" "at_told", .noat "Trap" "wide_told", .noat "Trap" "tall_told", .noat "Trap" "walls", .meth "Trap" "kind", .meth "Trap" "lane"]
def hfa_4 : List (He.Fa) := [.meth "Trap" "wide", .meth "Trap" "offset", .meth "Trap" "boxes", .meth "Trap" "taken", .meth "Trap" "swept", .meth "Trap" "need_within", .meth "Trap" "words", .mkr "Trap", .cls "Floor", .noat "Floor" "name", .noat "Floor" "least", .noat "Floor" "greatest", .noat "Floor" "pace", .noat "Floor" "gain", .noat "Floor" "place", .noat "Floor" "lane_told", .noat "Floor" "at_told", .noat "Floor" "wide_told", .noat "Floor" "tall_told", .noat "Floor" "walls", .meth "Floor" "kind", .meth "Floor" "lane", .meth "Floor" "wide", .meth "Floor" "offset", .meth "Floor" "boxes", .meth "Floor" "taken", .meth "Floor" "swept", .meth "Floor" "need_within", .meth "Floor" "words", .mkr "Floor"]
def hfa : List (He.Fa) := hfa_0 ++ hfa_1 ++ hfa_2 ++ hfa_3 ++ hfa_4
def hex_0 : List (PySem.W.Frag → Bool) := [fun K => He.excB K "BadNumber" "StageError", fun K => He.kitB1 K "BadNumber" "BadNumber" true, fun K => He.kitB1 K "BadNumber" "BadName" false, fun K => He.kitB1 K "BadNumber" "BadStage" false, fun K => He.kitBs K "BadNumber" ["BadSheet", "TooLong", "Busy", "Stopped", "NotStopped", "Moving", "NoCue", "BadRow"] false, fun K => He.excB K "BadName" "StageError", fun K => He.kitB1 K "BadName" "BadNumber" false, fun K => He.kitB1 K "BadName" "BadName" true, fun K => He.kitB1 K "BadName" "BadStage" false, fun K => He.kitBs K "BadName" ["BadSheet", "TooLong", "Busy", "Stopped", "NotStopped", "Moving", "NoCue", "BadRow"] false, fun K => He.excB K "BadStage" "StageError", fun K => He.kitB1 K "BadStage" "BadNumber" false, fun K => He.kitB1 K "BadStage" "BadName" false, fun K => He.kitB1 K "BadStage" "BadStage" true, fun K => He.kitBs K "BadStage" ["BadSheet", "TooLong", "Busy", "Stopped", "NotStopped", "Moving", "NoCue", "BadRow"] false, fun K => He.kitB1 K "BadNumber" "TooNear" false, fun K => He.kitB1 K "BadName" "TooNear" false, fun K => He.kitB1 K "Line" "Line" true, fun K => He.kitB1 K "Line" "Wagon" false, fun K => He.kitB1 K "Line" "Trap" false, fun K => He.kitB1 K "Line" "Floor" false, fun K => He.kitB1 K "Wagon" "Line" false, fun K => He.kitB1 K "Wagon" "Wagon" true, fun K => He.kitB1 K "Wagon" "Trap" false, fun K => He.kitB1 K "Wagon" "Floor" false, fun K => He.kitB1 K "Trap" "Line" false, fun K => He.kitB1 K "Trap" "Wagon" false, fun K => He.kitB1 K "Trap" "Trap" true, fun K => He.kitB1 K "Trap" "Floor" false, fun K => He.kitB1 K "Floor" "Line" false]
def hex_1 : List (PySem.W.Frag → Bool) := [fun K => He.kitB1 K "Floor" "Wagon" false, fun K => He.kitB1 K "Floor" "Trap" false, fun K => He.kitB1 K "Floor" "Floor" true, fun K => He.kitB1 K "Line" "Machine" true, fun K => He.kitB1 K "Wagon" "Machine" true, fun K => He.kitB1 K "Trap" "Machine" true, fun K => He.kitB1 K "Floor" "Machine" true, fun K => He.insB K "Line", fun K => He.insB K "Wagon", fun K => He.insB K "Trap", fun K => He.insB K "Floor", fun K => He.offB K "Machine" "__init__", fun K => decide (He.ma K (He.ga K "Line") "need_within" = He.ma K (He.ga K "Machine") "need_within"), fun K => decide (He.ma K (He.ga K "Wagon") "need_within" = He.ma K (He.ga K "Machine") "need_within"), fun K => decide (He.ma K (He.ga K "Trap") "need_within" = He.ma K (He.ga K "Machine") "need_within"), fun K => decide (He.ma K (He.ga K "Floor") "need_within" = He.ma K (He.ga K "Machine") "need_within"), fun K => decide (PySem.W.mroIn K (He.ga K "Line") (.ref (He.ga K "Line")) = some true), fun K => He.eqO (PySem.W.ks_superIn K (He.ga K "Line") (He.ga K "Line") "words") (some (some (.ref (He.ma K (He.ga K "Machine") "words")))), fun K => PySem.W.fnIn K (He.ma K (He.ga K "Machine") "words"), fun K => decide (PySem.W.typeIn K (.ref (He.ma K (He.ga K "Machine") "words")) = some (.type "function")), fun K => He.eqO (PySem.W.nsIn K cStatics "thirdparty.any") (some none), fun K => decide (PySem.W.mroIn K (He.ga K "Wagon") (.ref (He.ga K "Wagon")) = some true), fun K => He.eqO (PySem.W.ks_superIn K (He.ga K "Wagon") (He.ga K "Wagon") "words") (some (some (.ref (He.ma K (He.ga K "Machine") "words")))), fun K => decide (PySem.W.mroIn K (He.ga K "Trap") (.ref (He.ga K "Trap")) = some true), fun K => He.eqO (PySem.W.ks_superIn K (He.ga K "Trap") (He.ga K "Trap") "words") (some (some (.ref (He.ma K (He.ga K "Machine") "words")))), fun K => decide (PySem.W.mroIn K (He.ga K "Floor") (.ref (He.ga K "Floor")) = some true), fun K => He.eqO (PySem.W.ks_superIn K (He.ga K "Floor") (He.ga K "Floor") "words") (some (some (.ref (He.ma K (He.ga K "Machine") "words"))))]
def hex : List (PySem.W.Frag → Bool) := hex_0 ++ hex_1
def htf : List He.Defn := [("is_name", none)]
def hloose_0 : List (Str) := ["StageError", "BadNumber", "BadName", "BadStage", "BadSheet", "TooLong", "Busy", "TooNear", "Stopped", "NotStopped", "Moving", "NoCue", "BadRow", "MOST_PACE", "is_whole", "need_whole", "need_drive", "FARTHEST", "LAST_LANE", "MOST_OFFSET", "MOST_SIZE", "MOST_WALLS", "LONGEST_NAME", "is_name", "need_lane", "need_place", "need_size", "copied_walls", "copied_wall", "Machine"]
def hloose_1 : List (Str) := ["Line", "Wagon", "Trap", "Floor", "_law_draw", "_law_spread", "_law_takes", "_law_machine", "_law_classes", "_law_drawn", "_law_tail", "_law_told_right", "_law_boxes_right", "_law_place_refused", "_law_spoilt", "_law_refused"]
def hloose : List (Str) := hloose_0 ++ hloose_1
abbrev R : PySem.W.OpenRow := PySem.W.OpenLaw.row PySem.Challenge.rw_flywright_k04_machines_and_boxes
abbrev hk : PySem.W.Hook := He.hookP 4 hfa hfn hsu htf hex
def hob (s : PySem.W.SharedT) : He.AlP := He.obsP 4 hfa hfn hsu htf hex (HandSHeadRun.getT s)
theorem hob_eq (s : PySem.W.SharedT) : hob s = hk.obs s.abs := He.obsP_eq (HandSHeadRun.getT_eq s)
theorem run (w : World) : HandSHeadRun.RunEq R (PySem.W.view R.prog [50]) hk hob 12000 hloose w := by
  intro os
  kernel_rfl
end FW

set_option Elab.async false
set_option linter.all false
set_option maxRecDepth 100000
set_option maxHeartbeats 4000000
namespace FW
open PySem PySem.Spec PyProof.Rows L2 Evt
def clN : Nat → Str
  | 0 => "StageError"
  | 1 => "BadNumber"
  | 2 => "BadName"
  | 3 => "BadStage"
  | 4 => "BadSheet"
  | 5 => "TooLong"
  | 6 => "Busy"
  | 7 => "TooNear"
  | 8 => "Stopped"
  | 9 => "NotStopped"
  | 10 => "Moving"
  | 11 => "NoCue"
  | 12 => "BadRow"
  | 13 => "Machine"
  | 14 => "Line"
  | 15 => "Wagon"
  | 16 => "Trap"
  | 17 => "Floor"
  | _ => ""
theorem all_mk {l : PySem.W.OpenLaw} {w : World} {K : PySem.W.Frag} {h : Heap} {mg : Str → Option Value} {fa : Addr} (X : K.In h) (G : h.Ns mainGlobals mg) (hfm : mg "law" = some (.ref fa)) (cP : He.SaysP hfa hfn hsu htf hex h K) (hfl : ((l.prog.main.file : Str) == ("/claim/cut.py" : Str)) = true) (htp : (l.prog.main.scope.names.lookup ("super" : Str)).isSome = false) : LamX.LawAtS l w K CX0 10 63 "_law_script" mg fa h := by
  have c := cP.s
  obtain ⟨cl, hcl⟩ : ∃ cl : Nat → Addr, cl = fun i => He.ga K (clN i) := ⟨_, rfl⟩
  have j0 : cl 0 = He.ga K "StageError" := by rw [hcl]; rfl
  have j1 : cl 1 = He.ga K "BadNumber" := by rw [hcl]; rfl
  have j2 : cl 2 = He.ga K "BadName" := by rw [hcl]; rfl
  have j3 : cl 3 = He.ga K "BadStage" := by rw [hcl]; rfl
  have j4 : cl 4 = He.ga K "BadSheet" := by rw [hcl]; rfl
  have j5 : cl 5 = He.ga K "TooLong" := by rw [hcl]; rfl
  have j6 : cl 6 = He.ga K "Busy" := by rw [hcl]; rfl
  have j7 : cl 7 = He.ga K "TooNear" := by rw [hcl]; rfl
  have j8 : cl 8 = He.ga K "Stopped" := by rw [hcl]; rfl
  have j9 : cl 9 = He.ga K "NotStopped" := by rw [hcl]; rfl
  have j10 : cl 10 = He.ga K "Moving" := by rw [hcl]; rfl
  have j11 : cl 11 = He.ga K "NoCue" := by rw [hcl]; rfl
  have j12 : cl 12 = He.ga K "BadRow" := by rw [hcl]; rfl
  have j13 : cl 13 = He.ga K "Machine" := by rw [hcl]; rfl
  have j14 : cl 14 = He.ga K "Line" := by rw [hcl]; rfl
  have j15 : cl 15 = He.ga K "Wagon" := by rw [hcl]; rfl
  have j16 : cl 16 = He.ga K "Trap" := by rw [hcl]; rfl
  have j17 : cl 17 = He.ga K "Floor" := by rw [hcl]; rfl
  clear hcl
  have q_StageError : mg "StageError" = some (.ref (cl 0)) := by rw [j0]; exact He.glo_ok X G (c.d.fact 21 (f := .glo "StageError") rfl)
  have q_BadNumber : mg "BadNumber" = some (.ref (cl 1)) := by rw [j1]; exact He.glo_ok X G (c.d.fact 22 (f := .glo "BadNumber") rfl)
  have q_BadName : mg "BadName" = some (.ref (cl 2)) := by rw [j2]; exact He.glo_ok X G (c.d.fact 23 (f := .glo "BadName") rfl)
  have q_BadStage : mg "BadStage" = some (.ref (cl 3)) := by rw [j3]; exact He.glo_ok X G (c.d.fact 24 (f := .glo "BadStage") rfl)
  have q_BadSheet : mg "BadSheet" = some (.ref (cl 4)) := by rw [j4]; exact He.glo_ok X G (c.d.fact 25 (f := .glo "BadSheet") rfl)
  have q_TooLong : mg "TooLong" = some (.ref (cl 5)) := by rw [j5]; exact He.glo_ok X G (c.d.fact 26 (f := .glo "TooLong") rfl)
  have q_Busy : mg "Busy" = some (.ref (cl 6)) := by rw [j6]; exact He.glo_ok X G (c.d.fact 27 (f := .glo "Busy") rfl)
  have q_TooNear : mg "TooNear" = some (.ref (cl 7)) := by rw [j7]; exact He.glo_ok X G (c.d.fact 28 (f := .glo "TooNear") rfl)
  have q_Stopped : mg "Stopped" = some (.ref (cl 8)) := by rw [j8]; exact He.glo_ok X G (c.d.fact 29 (f := .glo "Stopped") rfl)
  have q_NotStopped : mg "NotStopped" = some (.ref (cl 9)) := by rw [j9]; exact He.glo_ok X G (c.d.fact 30 (f := .glo "NotStopped") rfl)
  have q_Moving : mg "Moving" = some (.ref (cl 10)) := by rw [j10]; exact He.glo_ok X G (c.d.fact 31 (f := .glo "Moving") rfl)
  have q_NoCue : mg "NoCue" = some (.ref (cl 11)) := by rw [j11]; exact He.glo_ok X G (c.d.fact 32 (f := .glo "NoCue") rfl)
  have q_BadRow : mg "BadRow" = some (.ref (cl 12)) := by rw [j12]; exact He.glo_ok X G (c.d.fact 33 (f := .glo "BadRow") rfl)
  have q_Machine : mg "Machine" = some (.ref (cl 13)) := by rw [j13]; exact He.glo_ok X G (c.d.fact 34 (f := .glo "Machine") rfl)
  have q_Line : mg "Line" = some (.ref (cl 14)) := by rw [j14]; exact He.glo_ok X G (c.d.fact 35 (f := .glo "Line") rfl)
  have q_Wagon : mg "Wagon" = some (.ref (cl 15)) := by rw [j15]; exact He.glo_ok X G (c.d.fact 36 (f := .glo "Wagon") rfl)
  have q_Trap : mg "Trap" = some (.ref (cl 16)) := by rw [j16]; exact He.glo_ok X G (c.d.fact 37 (f := .glo "Trap") rfl)
  have q_Floor : mg "Floor" = some (.ref (cl 17)) := by rw [j17]; exact He.glo_ok X G (c.d.fact 38 (f := .glo "Floor") rfl)
  have B : Bt mg cl := ⟨q_StageError, q_BadNumber, q_BadName, q_BadStage, q_BadSheet, q_TooLong, q_Busy, q_TooNear, q_Stopped, q_NotStopped, q_Moving, q_NoCue, q_BadRow, q_Machine, q_Line, q_Wagon, q_Trap, q_Floor, He.free_ok X G (c.d.fact 39 (f := .free "isinstance") rfl), He.free_ok X G (c.d.fact 40 (f := .free "int") rfl), He.free_ok X G (c.d.fact 41 (f := .free "bool") rfl), He.free_ok X G (c.d.fact 42 (f := .free "str") rfl), He.free_ok X G (c.d.fact 43 (f := .free "list") rfl), He.free_ok X G (c.d.fact 44 (f := .free "dict") rfl), He.free_ok X G (c.d.fact 45 (f := .free "tuple") rfl), He.free_ok X G (c.d.fact 46 (f := .free "len") rfl), He.free_ok X G (c.d.fact 47 (f := .free "range") rfl), He.free_ok X G (c.d.fact 48 (f := .free "min") rfl), He.free_ok X G (c.d.fact 49 (f := .free "max") rfl), He.free_ok X G (c.d.fact 50 (f := .free "abs") rfl), He.free_ok X G (c.d.fact 51 (f := .free "all") rfl), He.free_ok X G (c.d.fact 52 (f := .free "enumerate") rfl), He.free_ok X G (c.d.fact 53 (f := .free "super") rfl), He.free_ok X G (c.d.fact 54 (f := .free "ValueError") rfl), He.int_ok X G (c.d.fact 55 (f := .int "MOST_PACE" 1000000000) rfl), He.int_ok X G (c.d.fact 56 (f := .int "FARTHEST" 1000000000) rfl), He.int_ok X G (c.d.fact 57 (f := .int "LAST_LANE" 9) rfl), He.int_ok X G (c.d.fact 58 (f := .int "MOST_OFFSET" 719) rfl), He.int_ok X G (c.d.fact 59 (f := .int "MOST_SIZE" 1000000) rfl), He.int_ok X G (c.d.fact 60 (f := .int "MOST_WALLS" 4) rfl), He.int_ok X G (c.d.fact 61 (f := .int "LONGEST_NAME" 8) rfl)⟩
  have ex_BadNumber : Ex1 K mg (cl 1) (cl 0) "BadNumber" ∧ PySem.W.kitOne K (.ref (cl 1)) (.type "ValueError") = some true := by rw [j1, j0]; exact He.excB_ok (h := h) (He.glo_ok X G (c.d.fact 22 (f := .glo "BadNumber") rfl)) (c.exAt 0 (f := fun K => He.excB K "BadNumber" "StageError") rfl)
  have ex_BadName : Ex1 K mg (cl 2) (cl 0) "BadName" ∧ PySem.W.kitOne K (.ref (cl 2)) (.type "ValueError") = some true := by rw [j2, j0]; exact He.excB_ok (h := h) (He.glo_ok X G (c.d.fact 23 (f := .glo "BadName") rfl)) (c.exAt 5 (f := fun K => He.excB K "BadName" "StageError") rfl)
  have ex_BadStage : Ex1 K mg (cl 3) (cl 0) "BadStage" ∧ PySem.W.kitOne K (.ref (cl 3)) (.type "ValueError") = some true := by rw [j3, j0]; exact He.excB_ok (h := h) (He.glo_ok X G (c.d.fact 24 (f := .glo "BadStage") rfl)) (c.exAt 10 (f := fun K => He.excB K "BadStage" "StageError") rfl)
  have EE : Exs K mg cl := ⟨ex_BadNumber.1, ex_BadNumber.2, (by rw [j1, j4, j5, j6, j8, j9, j10, j11, j12]; exact of_decide_eq_true (c.exAt 4 (f := fun K => He.kitBs K "BadNumber" ["BadSheet", "TooLong", "Busy", "Stopped", "NotStopped", "Moving", "NoCue", "BadRow"] false) rfl)), (by rw [j1]; exact of_decide_eq_true (c.exAt 1 (f := fun K => He.kitB1 K "BadNumber" "BadNumber" true) rfl)), (by rw [j1, j2]; exact of_decide_eq_true (c.exAt 2 (f := fun K => He.kitB1 K "BadNumber" "BadName" false) rfl)), (by rw [j1, j3]; exact of_decide_eq_true (c.exAt 3 (f := fun K => He.kitB1 K "BadNumber" "BadStage" false) rfl)), ex_BadName.1, ex_BadName.2, (by rw [j2, j4, j5, j6, j8, j9, j10, j11, j12]; exact of_decide_eq_true (c.exAt 9 (f := fun K => He.kitBs K "BadName" ["BadSheet", "TooLong", "Busy", "Stopped", "NotStopped", "Moving", "NoCue", "BadRow"] false) rfl)), (by rw [j2, j1]; exact of_decide_eq_true (c.exAt 6 (f := fun K => He.kitB1 K "BadName" "BadNumber" false) rfl)), (by rw [j2]; exact of_decide_eq_true (c.exAt 7 (f := fun K => He.kitB1 K "BadName" "BadName" true) rfl)), (by rw [j2, j3]; exact of_decide_eq_true (c.exAt 8 (f := fun K => He.kitB1 K "BadName" "BadStage" false) rfl)), ex_BadStage.1, ex_BadStage.2, (by rw [j3, j4, j5, j6, j8, j9, j10, j11, j12]; exact of_decide_eq_true (c.exAt 14 (f := fun K => He.kitBs K "BadStage" ["BadSheet", "TooLong", "Busy", "Stopped", "NotStopped", "Moving", "NoCue", "BadRow"] false) rfl)), (by rw [j3, j1]; exact of_decide_eq_true (c.exAt 11 (f := fun K => He.kitB1 K "BadStage" "BadNumber" false) rfl)), (by rw [j3, j2]; exact of_decide_eq_true (c.exAt 12 (f := fun K => He.kitB1 K "BadStage" "BadName" false) rfl)), (by rw [j3]; exact of_decide_eq_true (c.exAt 13 (f := fun K => He.kitB1 K "BadStage" "BadStage" true) rfl))⟩
  have c_Line : Cls K (cl 14) := by rw [j14]; exact He.cls_ok (c.d.fact 62 (f := .cls "Line") rfl)
  have c_Wagon : Cls K (cl 15) := by rw [j15]; exact He.cls_ok (c.d.fact 84 (f := .cls "Wagon") rfl)
  have c_Trap : Cls K (cl 16) := by rw [j16]; exact He.cls_ok (c.d.fact 106 (f := .cls "Trap") rfl)
  have c_Floor : Cls K (cl 17) := by rw [j17]; exact He.cls_ok (c.d.fact 128 (f := .cls "Floor") rfl)
  have MM : ∀ C ∈ cs4 cl, MC K C := fun C hC => by
    simp only [cs4, List.mem_cons, List.not_mem_nil, or_false] at hC
    rcases hC with rfl | rfl | rfl | rfl
    · exact ⟨c_Line, (by rw [j14]; exact He.noat_ok (c.d.fact 63 (f := .noat "Line" "name") rfl)), (by rw [j14]; exact He.noat_ok (c.d.fact 64 (f := .noat "Line" "least") rfl)), (by rw [j14]; exact He.noat_ok (c.d.fact 65 (f := .noat "Line" "greatest") rfl)), (by rw [j14]; exact He.noat_ok (c.d.fact 66 (f := .noat "Line" "pace") rfl)), (by rw [j14]; exact He.noat_ok (c.d.fact 67 (f := .noat "Line" "gain") rfl)), (by rw [j14]; exact He.noat_ok (c.d.fact 68 (f := .noat "Line" "place") rfl)), (by rw [j14]; exact He.noat_ok (c.d.fact 69 (f := .noat "Line" "lane_told") rfl)), (by rw [j14]; exact He.noat_ok (c.d.fact 70 (f := .noat "Line" "at_told") rfl)), (by rw [j14]; exact He.noat_ok (c.d.fact 71 (f := .noat "Line" "wide_told") rfl)), (by rw [j14]; exact He.noat_ok (c.d.fact 72 (f := .noat "Line" "tall_told") rfl)), (by rw [j14]; exact He.noat_ok (c.d.fact 73 (f := .noat "Line" "walls") rfl))⟩
    · exact ⟨c_Wagon, (by rw [j15]; exact He.noat_ok (c.d.fact 85 (f := .noat "Wagon" "name") rfl)), (by rw [j15]; exact He.noat_ok (c.d.fact 86 (f := .noat "Wagon" "least") rfl)), (by rw [j15]; exact He.noat_ok (c.d.fact 87 (f := .noat "Wagon" "greatest") rfl)), (by rw [j15]; exact He.noat_ok (c.d.fact 88 (f := .noat "Wagon" "pace") rfl)), (by rw [j15]; exact He.noat_ok (c.d.fact 89 (f := .noat "Wagon" "gain") rfl)), (by rw [j15]; exact He.noat_ok (c.d.fact 90 (f := .noat "Wagon" "place") rfl)), (by rw [j15]; exact He.noat_ok (c.d.fact 91 (f := .noat "Wagon" "lane_told") rfl)), (by rw [j15]; exact He.noat_ok (c.d.fact 92 (f := .noat "Wagon" "at_told") rfl)), (by rw [j15]; exact He.noat_ok (c.d.fact 93 (f := .noat "Wagon" "wide_told") rfl)), (by rw [j15]; exact He.noat_ok (c.d.fact 94 (f := .noat "Wagon" "tall_told") rfl)), (by rw [j15]; exact He.noat_ok (c.d.fact 95 (f := .noat "Wagon" "walls") rfl))⟩
    · exact ⟨c_Trap, (by rw [j16]; exact He.noat_ok (c.d.fact 107 (f := .noat "Trap" "name") rfl)), (by rw [j16]; exact He.noat_ok (c.d.fact 108 (f := .noat "Trap" "least") rfl)), (by rw [j16]; exact He.noat_ok (c.d.fact 109 (f := .noat "Trap" "greatest") rfl)), (by rw [j16]; exact He.noat_ok (c.d.fact 110 (f := .noat "Trap" "pace") rfl)), (by rw [j16]; exact He.noat_ok (c.d.fact 111 (f := .noat "Trap" "gain") rfl)), (by rw [j16]; exact He.noat_ok (c.d.fact 112 (f := .noat "Trap" "place") rfl)), (by rw [j16]; exact He.noat_ok (c.d.fact 113 (f := .noat "Trap" "lane_told") rfl)), (by rw [j16]; exact He.noat_ok (c.d.fact 114 (f := .noat "Trap" "at_told") rfl)), (by rw [j16]; exact He.noat_ok (c.d.fact 115 (f := .noat "Trap" "wide_told") rfl)), (by rw [j16]; exact He.noat_ok (c.d.fact 116 (f := .noat "Trap" "tall_told") rfl)), (by rw [j16]; exact He.noat_ok (c.d.fact 117 (f := .noat "Trap" "walls") rfl))⟩
    · exact ⟨c_Floor, (by rw [j17]; exact He.noat_ok (c.d.fact 129 (f := .noat "Floor" "name") rfl)), (by rw [j17]; exact He.noat_ok (c.d.fact 130 (f := .noat "Floor" "least") rfl)), (by rw [j17]; exact He.noat_ok (c.d.fact 131 (f := .noat "Floor" "greatest") rfl)), (by rw [j17]; exact He.noat_ok (c.d.fact 132 (f := .noat "Floor" "pace") rfl)), (by rw [j17]; exact He.noat_ok (c.d.fact 133 (f := .noat "Floor" "gain") rfl)), (by rw [j17]; exact He.noat_ok (c.d.fact 134 (f := .noat "Floor" "place") rfl)), (by rw [j17]; exact He.noat_ok (c.d.fact 135 (f := .noat "Floor" "lane_told") rfl)), (by rw [j17]; exact He.noat_ok (c.d.fact 136 (f := .noat "Floor" "at_told") rfl)), (by rw [j17]; exact He.noat_ok (c.d.fact 137 (f := .noat "Floor" "wide_told") rfl)), (by rw [j17]; exact He.noat_ok (c.d.fact 138 (f := .noat "Floor" "tall_told") rfl)), (by rw [j17]; exact He.noat_ok (c.d.fact 139 (f := .noat "Floor" "walls") rfl))⟩
  have EN : Exn K cl := ⟨(by rw [j1, j7]; exact of_decide_eq_true (c.exAt 15 (f := fun K => He.kitB1 K "BadNumber" "TooNear" false) rfl)), (by rw [j2, j7]; exact of_decide_eq_true (c.exAt 16 (f := fun K => He.kitB1 K "BadName" "TooNear" false) rfl))⟩
  have ty_Line : ∀ {H : Hp} {a dx : Addr} {fs : List (Str × V)}, H a = some (.ins (cl 14) dx fs) → TyX K H (.ref a) (.ref (cl 14)) := by rw [j14]; exact fun ha => He.insB_ok (He.cls_ok (c.d.fact 62 (f := .cls "Line") rfl)) (c.exAt 37 (f := fun K => He.insB K "Line") rfl) ha
  have k1_Line_Line : PySem.W.kitOne K (.ref (cl 14)) (.ref (cl 14)) = some true := by rw [j14]; exact of_decide_eq_true (c.exAt 17 (f := fun K => He.kitB1 K "Line" "Line" true) rfl)
  have k1_Line_Wagon : PySem.W.kitOne K (.ref (cl 14)) (.ref (cl 15)) = some false := by rw [j14, j15]; exact of_decide_eq_true (c.exAt 18 (f := fun K => He.kitB1 K "Line" "Wagon" false) rfl)
  have k1_Line_Trap : PySem.W.kitOne K (.ref (cl 14)) (.ref (cl 16)) = some false := by rw [j14, j16]; exact of_decide_eq_true (c.exAt 19 (f := fun K => He.kitB1 K "Line" "Trap" false) rfl)
  have k1_Line_Floor : PySem.W.kitOne K (.ref (cl 14)) (.ref (cl 17)) = some false := by rw [j14, j17]; exact of_decide_eq_true (c.exAt 20 (f := fun K => He.kitB1 K "Line" "Floor" false) rfl)
  have km_Line : PySem.W.kitOne K (.ref (cl 14)) (.ref (cl 13)) = some true := by rw [j14, j13]; exact of_decide_eq_true (c.exAt 33 (f := fun K => He.kitB1 K "Line" "Machine" true) rfl)
  have ty_Wagon : ∀ {H : Hp} {a dx : Addr} {fs : List (Str × V)}, H a = some (.ins (cl 15) dx fs) → TyX K H (.ref a) (.ref (cl 15)) := by rw [j15]; exact fun ha => He.insB_ok (He.cls_ok (c.d.fact 84 (f := .cls "Wagon") rfl)) (c.exAt 38 (f := fun K => He.insB K "Wagon") rfl) ha
  have k1_Wagon_Line : PySem.W.kitOne K (.ref (cl 15)) (.ref (cl 14)) = some false := by rw [j15, j14]; exact of_decide_eq_true (c.exAt 21 (f := fun K => He.kitB1 K "Wagon" "Line" false) rfl)
  have k1_Wagon_Wagon : PySem.W.kitOne K (.ref (cl 15)) (.ref (cl 15)) = some true := by rw [j15]; exact of_decide_eq_true (c.exAt 22 (f := fun K => He.kitB1 K "Wagon" "Wagon" true) rfl)
  have k1_Wagon_Trap : PySem.W.kitOne K (.ref (cl 15)) (.ref (cl 16)) = some false := by rw [j15, j16]; exact of_decide_eq_true (c.exAt 23 (f := fun K => He.kitB1 K "Wagon" "Trap" false) rfl)
  have k1_Wagon_Floor : PySem.W.kitOne K (.ref (cl 15)) (.ref (cl 17)) = some false := by rw [j15, j17]; exact of_decide_eq_true (c.exAt 24 (f := fun K => He.kitB1 K "Wagon" "Floor" false) rfl)
  have km_Wagon : PySem.W.kitOne K (.ref (cl 15)) (.ref (cl 13)) = some true := by rw [j15, j13]; exact of_decide_eq_true (c.exAt 34 (f := fun K => He.kitB1 K "Wagon" "Machine" true) rfl)
  have ty_Trap : ∀ {H : Hp} {a dx : Addr} {fs : List (Str × V)}, H a = some (.ins (cl 16) dx fs) → TyX K H (.ref a) (.ref (cl 16)) := by rw [j16]; exact fun ha => He.insB_ok (He.cls_ok (c.d.fact 106 (f := .cls "Trap") rfl)) (c.exAt 39 (f := fun K => He.insB K "Trap") rfl) ha
  have k1_Trap_Line : PySem.W.kitOne K (.ref (cl 16)) (.ref (cl 14)) = some false := by rw [j16, j14]; exact of_decide_eq_true (c.exAt 25 (f := fun K => He.kitB1 K "Trap" "Line" false) rfl)
  have k1_Trap_Wagon : PySem.W.kitOne K (.ref (cl 16)) (.ref (cl 15)) = some false := by rw [j16, j15]; exact of_decide_eq_true (c.exAt 26 (f := fun K => He.kitB1 K "Trap" "Wagon" false) rfl)
  have k1_Trap_Trap : PySem.W.kitOne K (.ref (cl 16)) (.ref (cl 16)) = some true := by rw [j16]; exact of_decide_eq_true (c.exAt 27 (f := fun K => He.kitB1 K "Trap" "Trap" true) rfl)
  have k1_Trap_Floor : PySem.W.kitOne K (.ref (cl 16)) (.ref (cl 17)) = some false := by rw [j16, j17]; exact of_decide_eq_true (c.exAt 28 (f := fun K => He.kitB1 K "Trap" "Floor" false) rfl)
  have km_Trap : PySem.W.kitOne K (.ref (cl 16)) (.ref (cl 13)) = some true := by rw [j16, j13]; exact of_decide_eq_true (c.exAt 35 (f := fun K => He.kitB1 K "Trap" "Machine" true) rfl)
  have ty_Floor : ∀ {H : Hp} {a dx : Addr} {fs : List (Str × V)}, H a = some (.ins (cl 17) dx fs) → TyX K H (.ref a) (.ref (cl 17)) := by rw [j17]; exact fun ha => He.insB_ok (He.cls_ok (c.d.fact 128 (f := .cls "Floor") rfl)) (c.exAt 40 (f := fun K => He.insB K "Floor") rfl) ha
  have k1_Floor_Line : PySem.W.kitOne K (.ref (cl 17)) (.ref (cl 14)) = some false := by rw [j17, j14]; exact of_decide_eq_true (c.exAt 29 (f := fun K => He.kitB1 K "Floor" "Line" false) rfl)
  have k1_Floor_Wagon : PySem.W.kitOne K (.ref (cl 17)) (.ref (cl 15)) = some false := by rw [j17, j15]; exact of_decide_eq_true (c.exAt 30 (f := fun K => He.kitB1 K "Floor" "Wagon" false) rfl)
  have k1_Floor_Trap : PySem.W.kitOne K (.ref (cl 17)) (.ref (cl 16)) = some false := by rw [j17, j16]; exact of_decide_eq_true (c.exAt 31 (f := fun K => He.kitB1 K "Floor" "Trap" false) rfl)
  have k1_Floor_Floor : PySem.W.kitOne K (.ref (cl 17)) (.ref (cl 17)) = some true := by rw [j17]; exact of_decide_eq_true (c.exAt 32 (f := fun K => He.kitB1 K "Floor" "Floor" true) rfl)
  have km_Floor : PySem.W.kitOne K (.ref (cl 17)) (.ref (cl 13)) = some true := by rw [j17, j13]; exact of_decide_eq_true (c.exAt 36 (f := fun K => He.kitB1 K "Floor" "Machine" true) rfl)
  have II : IK K cl := ⟨fun k => by
    cases k
    · exact ty_Line
    · exact ty_Wagon
    · exact ty_Trap
    · exact ty_Floor, fun k k' => by
    cases k <;> cases k'
    · exact k1_Line_Line
    · exact k1_Line_Wagon
    · exact k1_Line_Trap
    · exact k1_Line_Floor
    · exact k1_Wagon_Line
    · exact k1_Wagon_Wagon
    · exact k1_Wagon_Trap
    · exact k1_Wagon_Floor
    · exact k1_Trap_Line
    · exact k1_Trap_Wagon
    · exact k1_Trap_Trap
    · exact k1_Trap_Floor
    · exact k1_Floor_Line
    · exact k1_Floor_Wagon
    · exact k1_Floor_Trap
    · exact k1_Floor_Floor, fun k => by
    cases k
    · exact km_Line
    · exact km_Wagon
    · exact km_Trap
    · exact km_Floor⟩
  have SU : Sup l.prog K "/claim/cut.py" := ⟨hfl, htp, He.eqO_ok (c.exAt 50 (f := fun K => He.eqO (PySem.W.nsIn K cStatics "thirdparty.any") (some none)) rfl)⟩
  obtain ⟨fd_law, FD'_law⟩ := c.d.def_ 55 (d := d_law) rfl
  have FD_law : FunD K "law" "law" (defArgs s_law) (defBody s_law) (defScope s_law) [] [] (He.ga K "law") fd_law := FD'_law
  clear FD'_law
  have b_law := FD_law.bindsN (ps := ["_law_script"]) fun _ _ _ _ _ _ us hl => match us, hl with | [_], _ => rfl
  have e := hfm.symm.trans (He.glo_ok X G (c.d.fact 20 (f := .glo "law") rfl))
  cases e
  refine ⟨fd_law, htf.map (He.cT K), spLaw K (He.cT K ("is_name", none)).2, fun p hp => ?_, fun p hp => ?_, fun p hp => ?_, fun s v => FD_law.bindsA (ps := ["_law_script"]) (fun _ _ _ _ _ _ us hl => match us, hl with | [_], _ => rfl) s [v] rfl, fun H a ns hl _ hT hS => ⟨a, ns, rfl, hS, hl, ⟨#[], hT (He.cT K ("is_name", none)) (List.mem_map.mpr ⟨_, by unfold htf; simp, rfl⟩), trivial⟩, fun _ => rfl⟩, fun base _ _ TB => ?_⟩
  · obtain ⟨p, hp2, rfl⟩ := List.mem_map.mp hp
    exact (c.tab _ hp2).2.2
  · obtain ⟨p, hp2, rfl⟩ := List.mem_map.mp hp
    exact (c.tab _ hp2).2.1
  · obtain ⟨p, hp2, rfl⟩ := List.mem_map.mp hp
    exact PySem.W.codeHd_of_K X (c.tab _ hp2).1
  have TB_is_name : GxR.TabB base mg (He.cT K ("is_name", none)).1 (He.cT K ("is_name", none)).2 := let t := TB (He.cT K ("is_name", none)) (List.mem_map.mpr ⟨_, by unfold htf; simp, rfl⟩); ⟨t.code, t.bm, t.gP⟩
  obtain ⟨fd__law_spread, FD'__law_spread⟩ := c.d.def_ 22 (d := d__law_spread) rfl
  have FD__law_spread : FunD K "_law_spread" "_law_spread" (defArgs s__law_spread) (defBody s__law_spread) (defScope s__law_spread) [] [] (He.ga K "_law_spread") fd__law_spread := FD'__law_spread
  clear FD'__law_spread
  have b__law_spread := FD__law_spread.bindsN (ps := ["_law_cell", "_law_k"]) fun _ _ _ _ _ _ us hl => match us, hl with | [_, _], _ => rfl
  have F__law_spread : Fn l.prog w K mg base "_law_spread" ["_law_cell", "_law_k"] CX0 1 _ := ⟨_, _, ok__law_spread B (He.FunD.to FD__law_spread), He.glo_ok X G (c.d.fact 2 (f := .glo "_law_spread") rfl), FD__law_spread.kp, b__law_spread⟩
  obtain ⟨fd__law_drawn, FD'__law_drawn⟩ := c.d.def_ 27 (d := d__law_drawn) rfl
  have FD__law_drawn : FunD K "_law_drawn" "_law_drawn" (defArgs s__law_drawn) (defBody s__law_drawn) (defScope s__law_drawn) [] [] (He.ga K "_law_drawn") fd__law_drawn := FD'__law_drawn
  clear FD'__law_drawn
  have b__law_drawn := FD__law_drawn.bindsN (ps := ["_law_draw_here", "_law_k"]) fun _ _ _ _ _ _ us hl => match us, hl with | [_, _], _ => rfl
  have F__law_drawn : Fn l.prog w K mg base "_law_drawn" ["_law_draw_here", "_law_k"] CX0 2 _ := ⟨_, _, ok__law_drawn B F__law_spread (He.FunD.to FD__law_drawn), He.glo_ok X G (c.d.fact 6 (f := .glo "_law_drawn") rfl), FD__law_drawn.kp, b__law_drawn⟩
  obtain ⟨fd__law_machine, FD'__law_machine⟩ := c.d.def_ 50 (d := d__law_machine) rfl
  have FD__law_machine : FunD K "_law_machine" "_law_machine" (defArgs s__law_machine) (defBody s__law_machine) (defScope s__law_machine) [] [] (He.ga K "_law_machine") fd__law_machine := FD'__law_machine
  clear FD'__law_machine
  have b__law_machine := FD__law_machine.bindsN (ps := ["_law_own"]) fun _ _ _ _ _ _ us hl => match us, hl with | [_], _ => rfl
  obtain ⟨fd_Line___init__, FD'_Line___init__⟩ := c.d.def_ 47 (d := d_Line___init__) rfl
  have FD_Line___init__ : FunD K "__init__" "Line.__init__" (defArgs s_Line___init__) (defBody s_Line___init__) (defScope s_Line___init__) [] [] (He.ma K (He.ga K "Line") "__init__") fd_Line___init__ := FD'_Line___init__
  clear FD'_Line___init__
  have b_Line___init__ := FD_Line___init__.bindsN (ps := ["self", "name", "least", "greatest", "pace", "gain", "place", "lane", "at", "wide", "tall"]) fun _ _ _ _ _ _ us hl => match us, hl with | [_, _, _, _, _, _, _, _, _, _, _], _ => rfl
  obtain ⟨fd_Machine___init__, FD'_Machine___init__⟩ := c.d.def_ 42 (d := d_Machine___init__) rfl
  have FD_Machine___init__ : FunD K "__init__" "Machine.__init__" (defArgs s_Machine___init__) (defBody s_Machine___init__) (defScope s_Machine___init__) [] [] (He.ma K (He.ga K "Machine") "__init__") fd_Machine___init__ := FD'_Machine___init__
  clear FD'_Machine___init__
  have b_Machine___init__ := FD_Machine___init__.bindsN (ps := ["self", "name", "least", "greatest", "pace", "gain", "place"]) fun _ _ _ _ _ _ us hl => match us, hl with | [_, _, _, _, _, _, _], _ => rfl
  obtain ⟨fd_is_name, FD'_is_name⟩ := c.d.def_ 30 (d := d_is_name) rfl
  have FD_is_name : FunD K "is_name" "is_name" (defArgs s_is_name) (defBody s_is_name) (defScope s_is_name) [] [] (He.ga K "is_name") fd_is_name := FD'_is_name
  clear FD'_is_name
  have b_is_name := FD_is_name.bindsN (ps := ["thing"]) fun _ _ _ _ _ _ us hl => match us, hl with | [_], _ => rfl
  have FT_is_name := He.FunD.toT (p := ("is_name", none)) FD_is_name
  have F_is_name : Fn l.prog w K mg base "is_name" ["thing"] CX0 3 _ := ⟨_, _, ok_is_name B TB_is_name FT_is_name, He.glo_ok X G (c.d.fact 8 (f := .glo "is_name") rfl), FD_is_name.kp, b_is_name⟩
  obtain ⟨fd_need_place, FD'_need_place⟩ := c.d.def_ 33 (d := d_need_place) rfl
  have FD_need_place : FunD K "need_place" "need_place" (defArgs s_need_place) (defBody s_need_place) (defScope s_need_place) [] [] (He.ga K "need_place") fd_need_place := FD'_need_place
  clear FD'_need_place
  have b_need_place := FD_need_place.bindsN (ps := ["place", "what"]) fun _ _ _ _ _ _ us hl => match us, hl with | [_, _], _ => rfl
  obtain ⟨fd_need_whole, FD'_need_whole⟩ := c.d.def_ 28 (d := d_need_whole) rfl
  have FD_need_whole : FunD K "need_whole" "need_whole" (defArgs s_need_whole) (defBody s_need_whole) (defScope s_need_whole) [] [] (He.ga K "need_whole") fd_need_whole := FD'_need_whole
  clear FD'_need_whole
  have b_need_whole := FD_need_whole.bindsN (ps := ["thing", "least", "most", "what"]) fun _ _ _ _ _ _ us hl => match us, hl with | [_, _, _, _], _ => rfl
  obtain ⟨fd_is_whole, FD'_is_whole⟩ := c.d.def_ 25 (d := d_is_whole) rfl
  have FD_is_whole : FunD K "is_whole" "is_whole" (defArgs s_is_whole) (defBody s_is_whole) (defScope s_is_whole) [] [] (He.ga K "is_whole") fd_is_whole := FD'_is_whole
  clear FD'_is_whole
  have b_is_whole := FD_is_whole.bindsN (ps := ["thing", "least", "most"]) fun _ _ _ _ _ _ us hl => match us, hl with | [_, _, _], _ => rfl
  have F_is_whole : Fn l.prog w K mg base "is_whole" ["thing", "least", "most"] CX0 1 _ := ⟨_, _, ok_is_whole B (He.FunD.to FD_is_whole), He.glo_ok X G (c.d.fact 5 (f := .glo "is_whole") rfl), FD_is_whole.kp, b_is_whole⟩
  have F_need_whole : Fn l.prog w K mg base "need_whole" ["thing", "least", "most", "what"] (L2.CX l.prog w) 2 _ := ⟨_, _, ok_need_whole B EE F_is_whole (He.FunD.to FD_need_whole), He.glo_ok X G (c.d.fact 7 (f := .glo "need_whole") rfl), FD_need_whole.kp, b_need_whole⟩
  have F_need_place : Fn l.prog w K mg base "need_place" ["place", "what"] (L2.CX l.prog w) 3 _ := ⟨_, _, ok_need_place B F_need_whole (He.FunD.to FD_need_place), He.glo_ok X G (c.d.fact 11 (f := .glo "need_place") rfl), FD_need_place.kp, b_need_place⟩
  obtain ⟨fd_need_drive, FD'_need_drive⟩ := c.d.def_ 31 (d := d_need_drive) rfl
  have FD_need_drive : FunD K "need_drive" "need_drive" (defArgs s_need_drive) (defBody s_need_drive) (defScope s_need_drive) [] [] (He.ga K "need_drive") fd_need_drive := FD'_need_drive
  clear FD'_need_drive
  have b_need_drive := FD_need_drive.bindsN (ps := ["pace", "gain"]) fun _ _ _ _ _ _ us hl => match us, hl with | [_, _], _ => rfl
  have F_need_drive : Fn l.prog w K mg base "need_drive" ["pace", "gain"] (L2.CX l.prog w) 3 _ := ⟨_, _, ok_need_drive B F_need_whole (He.FunD.to FD_need_drive), He.glo_ok X G (c.d.fact 9 (f := .glo "need_drive") rfl), FD_need_drive.kp, b_need_drive⟩
  have O_Machine_init : Off l.prog w K mg base (L2.CX l.prog w) 5 (cl 13) "__init__" ["self", "name", "least", "greatest", "pace", "gain", "place"] (sp_Machine_init K (He.cT K ("is_name", none)).2 (cl 2) (cl 1) (cs4 cl)) := by rw [j13]; exact He.offB_ok (c.exAt 41 (f := fun K => He.offB K "Machine" "__init__") rfl) (ok_Machine_init B EE MM F_is_name F_need_place F_need_whole F_need_drive (He.FunD.to FD_Machine___init__)) b_Machine___init__
  obtain ⟨fd_need_lane, FD'_need_lane⟩ := c.d.def_ 32 (d := d_need_lane) rfl
  have FD_need_lane : FunD K "need_lane" "need_lane" (defArgs s_need_lane) (defBody s_need_lane) (defScope s_need_lane) [] [] (He.ga K "need_lane") fd_need_lane := FD'_need_lane
  clear FD'_need_lane
  have b_need_lane := FD_need_lane.bindsN (ps := ["lane"]) fun _ _ _ _ _ _ us hl => match us, hl with | [_], _ => rfl
  have F_need_lane : Fn l.prog w K mg base "need_lane" ["lane"] (L2.CX l.prog w) 3 _ := ⟨_, _, ok_need_lane B F_need_whole (He.FunD.to FD_need_lane), He.glo_ok X G (c.d.fact 10 (f := .glo "need_lane") rfl), FD_need_lane.kp, b_need_lane⟩
  obtain ⟨fd_need_size, FD'_need_size⟩ := c.d.def_ 34 (d := d_need_size) rfl
  have FD_need_size : FunD K "need_size" "need_size" (defArgs s_need_size) (defBody s_need_size) (defScope s_need_size) [] [] (He.ga K "need_size") fd_need_size := FD'_need_size
  clear FD'_need_size
  have b_need_size := FD_need_size.bindsN (ps := ["size", "what"]) fun _ _ _ _ _ _ us hl => match us, hl with | [_, _], _ => rfl
  have F_need_size : Fn l.prog w K mg base "need_size" ["size", "what"] (L2.CX l.prog w) 3 _ := ⟨_, _, ok_need_size B F_need_whole (He.FunD.to FD_need_size), He.glo_ok X G (c.d.fact 12 (f := .glo "need_size") rfl), FD_need_size.kp, b_need_size⟩
  have M_Line : MakeF l.prog w K mg base (L2.CX l.prog w) 6 (cl 14) _ fd_Line___init__ ["self", "name", "least", "greatest", "pace", "gain", "place", "lane", "at", "wide", "tall"] _ := ⟨by rw [j14]; exact He.mkr_ok (c.d.fact 83 (f := .mkr "Line") rfl), ok_Line_init B MM O_Machine_init F_need_lane F_need_place F_need_size (He.FunD.to FD_Line___init__), b_Line___init__⟩
  obtain ⟨fd_Wagon___init__, FD'_Wagon___init__⟩ := c.d.def_ 49 (d := d_Wagon___init__) rfl
  have FD_Wagon___init__ : FunD K "__init__" "Wagon.__init__" (defArgs s_Wagon___init__) (defBody s_Wagon___init__) (defScope s_Wagon___init__) [] [] (He.ma K (He.ga K "Wagon") "__init__") fd_Wagon___init__ := FD'_Wagon___init__
  clear FD'_Wagon___init__
  have b_Wagon___init__ := FD_Wagon___init__.bindsN (ps := ["self", "name", "least", "greatest", "pace", "gain", "place", "lane", "wide", "tall"]) fun _ _ _ _ _ _ us hl => match us, hl with | [_, _, _, _, _, _, _, _, _, _], _ => rfl
  have M_Wagon : MakeF l.prog w K mg base (L2.CX l.prog w) 6 (cl 15) _ fd_Wagon___init__ ["self", "name", "least", "greatest", "pace", "gain", "place", "lane", "wide", "tall"] _ := ⟨by rw [j15]; exact He.mkr_ok (c.d.fact 105 (f := .mkr "Wagon") rfl), ok_Wagon_init B MM O_Machine_init F_need_lane F_need_size (He.FunD.to FD_Wagon___init__), b_Wagon___init__⟩
  obtain ⟨fd_Trap___init__, FD'_Trap___init__⟩ := c.d.def_ 48 (d := d_Trap___init__) rfl
  have FD_Trap___init__ : FunD K "__init__" "Trap.__init__" (defArgs s_Trap___init__) (defBody s_Trap___init__) (defScope s_Trap___init__) [] [] (He.ma K (He.ga K "Trap") "__init__") fd_Trap___init__ := FD'_Trap___init__
  clear FD'_Trap___init__
  have b_Trap___init__ := FD_Trap___init__.bindsN (ps := ["self", "name", "least", "greatest", "pace", "gain", "place", "lane", "at", "wide"]) fun _ _ _ _ _ _ us hl => match us, hl with | [_, _, _, _, _, _, _, _, _, _], _ => rfl
  have M_Trap : MakeF l.prog w K mg base (L2.CX l.prog w) 6 (cl 16) _ fd_Trap___init__ ["self", "name", "least", "greatest", "pace", "gain", "place", "lane", "at", "wide"] _ := ⟨by rw [j16]; exact He.mkr_ok (c.d.fact 127 (f := .mkr "Trap") rfl), ok_Trap_init B MM O_Machine_init F_need_lane F_need_place F_need_size (He.FunD.to FD_Trap___init__), b_Trap___init__⟩
  obtain ⟨fd_Floor___init__, FD'_Floor___init__⟩ := c.d.def_ 46 (d := d_Floor___init__) rfl
  have FD_Floor___init__ : FunD K "__init__" "Floor.__init__" (defArgs s_Floor___init__) (defBody s_Floor___init__) (defScope s_Floor___init__) [] [] (He.ma K (He.ga K "Floor") "__init__") fd_Floor___init__ := FD'_Floor___init__
  clear FD'_Floor___init__
  have b_Floor___init__ := FD_Floor___init__.bindsN (ps := ["self", "name", "least", "greatest", "pace", "gain", "place", "lane", "walls"]) fun _ _ _ _ _ _ us hl => match us, hl with | [_, _, _, _, _, _, _, _, _], _ => rfl
  obtain ⟨fd_copied_walls, FD'_copied_walls⟩ := c.d.def_ 45 (d := d_copied_walls) rfl
  have FD_copied_walls : FunD K "copied_walls" "copied_walls" (defArgs s_copied_walls) (defBody s_copied_walls) (defScope s_copied_walls) [] [] (He.ga K "copied_walls") fd_copied_walls := FD'_copied_walls
  clear FD'_copied_walls
  have b_copied_walls := FD_copied_walls.bindsN (ps := ["walls"]) fun _ _ _ _ _ _ us hl => match us, hl with | [_], _ => rfl
  obtain ⟨fd_copied_wall, FD'_copied_wall⟩ := c.d.def_ 39 (d := d_copied_wall) rfl
  have FD_copied_wall : FunD K "copied_wall" "copied_wall" (defArgs s_copied_wall) (defBody s_copied_wall) (defScope s_copied_wall) [] [] (He.ga K "copied_wall") fd_copied_wall := FD'_copied_wall
  clear FD'_copied_wall
  have b_copied_wall := FD_copied_wall.bindsN (ps := ["wall"]) fun _ _ _ _ _ _ us hl => match us, hl with | [_], _ => rfl
  have F_copied_wall : Fn l.prog w K mg base "copied_wall" ["wall"] (L2.CX l.prog w) 4 _ := ⟨_, _, ok_copied_wall B EE F_need_whole F_need_size (He.FunD.to FD_copied_wall), He.glo_ok X G (c.d.fact 13 (f := .glo "copied_wall") rfl), FD_copied_wall.kp, b_copied_wall⟩
  have F_copied_walls : Fn l.prog w K mg base "copied_walls" ["walls"] (L2.CX l.prog w) 5 _ := ⟨_, _, ok_copied_walls B EE F_copied_wall (He.FunD.to FD_copied_walls), He.glo_ok X G (c.d.fact 14 (f := .glo "copied_walls") rfl), FD_copied_walls.kp, b_copied_walls⟩
  have M_Floor : MakeF l.prog w K mg base (L2.CX l.prog w) 6 (cl 17) _ fd_Floor___init__ ["self", "name", "least", "greatest", "pace", "gain", "place", "lane", "walls"] _ := ⟨by rw [j17]; exact He.mkr_ok (c.d.fact 149 (f := .mkr "Floor") rfl), ok_Floor_init B MM O_Machine_init F_need_lane F_copied_walls (He.FunD.to FD_Floor___init__), b_Floor___init__⟩
  have F__law_machine : Fn l.prog w K mg base "_law_machine" ["_law_own"] (L2.CX l.prog w) 8 _ := ⟨_, _, ok__law_machine B M_Line M_Wagon M_Trap M_Floor (He.FunD.to FD__law_machine), He.glo_ok X G (c.d.fact 15 (f := .glo "_law_machine") rfl), FD__law_machine.kp, b__law_machine⟩
  obtain ⟨fd__law_told_right, FD'__law_told_right⟩ := c.d.def_ 52 (d := d__law_told_right) rfl
  have FD__law_told_right : FunD K "_law_told_right" "_law_told_right" (defArgs s__law_told_right) (defBody s__law_told_right) (defScope s__law_told_right) [] [] (He.ga K "_law_told_right") fd__law_told_right := FD'__law_told_right
  clear FD'__law_told_right
  have b__law_told_right := FD__law_told_right.bindsN (ps := ["_law_machine_here", "_law_own"]) fun _ _ _ _ _ _ us hl => match us, hl with | [_, _], _ => rfl
  obtain ⟨fd__law_tail, FD'__law_tail⟩ := c.d.def_ 23 (d := d__law_tail) rfl
  have FD__law_tail : FunD K "_law_tail" "_law_tail" (defArgs s__law_tail) (defBody s__law_tail) (defScope s__law_tail) [] [] (He.ga K "_law_tail") fd__law_tail := FD'__law_tail
  clear FD'__law_tail
  have b__law_tail := FD__law_tail.bindsN (ps := ["_law_own"]) fun _ _ _ _ _ _ us hl => match us, hl with | [_], _ => rfl
  have F__law_tail : Fn l.prog w K mg base "_law_tail" ["_law_own"] CX0 1 _ := ⟨_, _, ok__law_tail B (He.FunD.to FD__law_tail), He.glo_ok X G (c.d.fact 3 (f := .glo "_law_tail") rfl), FD__law_tail.kp, b__law_tail⟩
  obtain ⟨fd_Line_kind, FD'_Line_kind⟩ := c.d.def_ 5 (d := d_Line_kind) rfl
  have FD_Line_kind : FunD K "kind" "Line.kind" (defArgs s_Line_kind) (defBody s_Line_kind) (defScope s_Line_kind) [] [] (He.ma K (He.ga K "Line") "kind") fd_Line_kind := FD'_Line_kind
  clear FD'_Line_kind
  have b_Line_kind := FD_Line_kind.bindsN (ps := ["self"]) fun _ _ _ _ _ _ us hl => match us, hl with | [_], _ => rfl
  obtain ⟨fd_Wagon_kind, FD'_Wagon_kind⟩ := c.d.def_ 15 (d := d_Wagon_kind) rfl
  have FD_Wagon_kind : FunD K "kind" "Wagon.kind" (defArgs s_Wagon_kind) (defBody s_Wagon_kind) (defScope s_Wagon_kind) [] [] (He.ma K (He.ga K "Wagon") "kind") fd_Wagon_kind := FD'_Wagon_kind
  clear FD'_Wagon_kind
  have b_Wagon_kind := FD_Wagon_kind.bindsN (ps := ["self"]) fun _ _ _ _ _ _ us hl => match us, hl with | [_], _ => rfl
  obtain ⟨fd_Trap_kind, FD'_Trap_kind⟩ := c.d.def_ 10 (d := d_Trap_kind) rfl
  have FD_Trap_kind : FunD K "kind" "Trap.kind" (defArgs s_Trap_kind) (defBody s_Trap_kind) (defScope s_Trap_kind) [] [] (He.ma K (He.ga K "Trap") "kind") fd_Trap_kind := FD'_Trap_kind
  clear FD'_Trap_kind
  have b_Trap_kind := FD_Trap_kind.bindsN (ps := ["self"]) fun _ _ _ _ _ _ us hl => match us, hl with | [_], _ => rfl
  obtain ⟨fd_Floor_kind, FD'_Floor_kind⟩ := c.d.def_ 0 (d := d_Floor_kind) rfl
  have FD_Floor_kind : FunD K "kind" "Floor.kind" (defArgs s_Floor_kind) (defBody s_Floor_kind) (defScope s_Floor_kind) [] [] (He.ma K (He.ga K "Floor") "kind") fd_Floor_kind := FD'_Floor_kind
  clear FD'_Floor_kind
  have b_Floor_kind := FD_Floor_kind.bindsN (ps := ["self"]) fun _ _ _ _ _ _ us hl => match us, hl with | [_], _ => rfl
  have V_kind : Virt l.prog w K mg base CX0 1 "kind" ["self"] (ck4 cl) (sp_kind cl) := fun C hC => by
    simp only [ck4, List.mem_cons, List.not_mem_nil, or_false] at hC
    rcases hC with rfl | rfl | rfl | rfl
    · exact ⟨c_Line, _, _, (by rw [j14]; exact He.meth_ok (c.d.fact 74 (f := .meth "Line" "kind") rfl)), ok_Line_kind B (He.FunD.to FD_Line_kind), b_Line_kind⟩
    · exact ⟨c_Wagon, _, _, (by rw [j15]; exact He.meth_ok (c.d.fact 96 (f := .meth "Wagon" "kind") rfl)), ok_Wagon_kind B (He.FunD.to FD_Wagon_kind), b_Wagon_kind⟩
    · exact ⟨c_Trap, _, _, (by rw [j16]; exact He.meth_ok (c.d.fact 118 (f := .meth "Trap" "kind") rfl)), ok_Trap_kind B (He.FunD.to FD_Trap_kind), b_Trap_kind⟩
    · exact ⟨c_Floor, _, _, (by rw [j17]; exact He.meth_ok (c.d.fact 140 (f := .meth "Floor" "kind") rfl)), ok_Floor_kind B (He.FunD.to FD_Floor_kind), b_Floor_kind⟩
  obtain ⟨fd_Line_lane, FD'_Line_lane⟩ := c.d.def_ 6 (d := d_Line_lane) rfl
  have FD_Line_lane : FunD K "lane" "Line.lane" (defArgs s_Line_lane) (defBody s_Line_lane) (defScope s_Line_lane) [] [] (He.ma K (He.ga K "Line") "lane") fd_Line_lane := FD'_Line_lane
  clear FD'_Line_lane
  have b_Line_lane := FD_Line_lane.bindsN (ps := ["self"]) fun _ _ _ _ _ _ us hl => match us, hl with | [_], _ => rfl
  obtain ⟨fd_Wagon_lane, FD'_Wagon_lane⟩ := c.d.def_ 16 (d := d_Wagon_lane) rfl
  have FD_Wagon_lane : FunD K "lane" "Wagon.lane" (defArgs s_Wagon_lane) (defBody s_Wagon_lane) (defScope s_Wagon_lane) [] [] (He.ma K (He.ga K "Wagon") "lane") fd_Wagon_lane := FD'_Wagon_lane
  clear FD'_Wagon_lane
  have b_Wagon_lane := FD_Wagon_lane.bindsN (ps := ["self"]) fun _ _ _ _ _ _ us hl => match us, hl with | [_], _ => rfl
  obtain ⟨fd_Trap_lane, FD'_Trap_lane⟩ := c.d.def_ 11 (d := d_Trap_lane) rfl
  have FD_Trap_lane : FunD K "lane" "Trap.lane" (defArgs s_Trap_lane) (defBody s_Trap_lane) (defScope s_Trap_lane) [] [] (He.ma K (He.ga K "Trap") "lane") fd_Trap_lane := FD'_Trap_lane
  clear FD'_Trap_lane
  have b_Trap_lane := FD_Trap_lane.bindsN (ps := ["self"]) fun _ _ _ _ _ _ us hl => match us, hl with | [_], _ => rfl
  obtain ⟨fd_Floor_lane, FD'_Floor_lane⟩ := c.d.def_ 1 (d := d_Floor_lane) rfl
  have FD_Floor_lane : FunD K "lane" "Floor.lane" (defArgs s_Floor_lane) (defBody s_Floor_lane) (defScope s_Floor_lane) [] [] (He.ma K (He.ga K "Floor") "lane") fd_Floor_lane := FD'_Floor_lane
  clear FD'_Floor_lane
  have b_Floor_lane := FD_Floor_lane.bindsN (ps := ["self"]) fun _ _ _ _ _ _ us hl => match us, hl with | [_], _ => rfl
  have V_lane : Virt l.prog w K mg base CX0 1 "lane" ["self"] (ck4 cl) (sp_lane cl) := fun C hC => by
    simp only [ck4, List.mem_cons, List.not_mem_nil, or_false] at hC
    rcases hC with rfl | rfl | rfl | rfl
    · exact ⟨c_Line, _, _, (by rw [j14]; exact He.meth_ok (c.d.fact 75 (f := .meth "Line" "lane") rfl)), ok_Line_lane B MM (He.FunD.to FD_Line_lane), b_Line_lane⟩
    · exact ⟨c_Wagon, _, _, (by rw [j15]; exact He.meth_ok (c.d.fact 97 (f := .meth "Wagon" "lane") rfl)), ok_Wagon_lane B MM (He.FunD.to FD_Wagon_lane), b_Wagon_lane⟩
    · exact ⟨c_Trap, _, _, (by rw [j16]; exact He.meth_ok (c.d.fact 119 (f := .meth "Trap" "lane") rfl)), ok_Trap_lane B MM (He.FunD.to FD_Trap_lane), b_Trap_lane⟩
    · exact ⟨c_Floor, _, _, (by rw [j17]; exact He.meth_ok (c.d.fact 141 (f := .meth "Floor" "lane") rfl)), ok_Floor_lane B MM (He.FunD.to FD_Floor_lane), b_Floor_lane⟩
  obtain ⟨fd_Line_wide, FD'_Line_wide⟩ := c.d.def_ 9 (d := d_Line_wide) rfl
  have FD_Line_wide : FunD K "wide" "Line.wide" (defArgs s_Line_wide) (defBody s_Line_wide) (defScope s_Line_wide) [] [] (He.ma K (He.ga K "Line") "wide") fd_Line_wide := FD'_Line_wide
  clear FD'_Line_wide
  have b_Line_wide := FD_Line_wide.bindsN (ps := ["self"]) fun _ _ _ _ _ _ us hl => match us, hl with | [_], _ => rfl
  obtain ⟨fd_Wagon_wide, FD'_Wagon_wide⟩ := c.d.def_ 19 (d := d_Wagon_wide) rfl
  have FD_Wagon_wide : FunD K "wide" "Wagon.wide" (defArgs s_Wagon_wide) (defBody s_Wagon_wide) (defScope s_Wagon_wide) [] [] (He.ma K (He.ga K "Wagon") "wide") fd_Wagon_wide := FD'_Wagon_wide
  clear FD'_Wagon_wide
  have b_Wagon_wide := FD_Wagon_wide.bindsN (ps := ["self"]) fun _ _ _ _ _ _ us hl => match us, hl with | [_], _ => rfl
  obtain ⟨fd_Trap_wide, FD'_Trap_wide⟩ := c.d.def_ 14 (d := d_Trap_wide) rfl
  have FD_Trap_wide : FunD K "wide" "Trap.wide" (defArgs s_Trap_wide) (defBody s_Trap_wide) (defScope s_Trap_wide) [] [] (He.ma K (He.ga K "Trap") "wide") fd_Trap_wide := FD'_Trap_wide
  clear FD'_Trap_wide
  have b_Trap_wide := FD_Trap_wide.bindsN (ps := ["self"]) fun _ _ _ _ _ _ us hl => match us, hl with | [_], _ => rfl
  obtain ⟨fd_Floor_wide, FD'_Floor_wide⟩ := c.d.def_ 4 (d := d_Floor_wide) rfl
  have FD_Floor_wide : FunD K "wide" "Floor.wide" (defArgs s_Floor_wide) (defBody s_Floor_wide) (defScope s_Floor_wide) [] [] (He.ma K (He.ga K "Floor") "wide") fd_Floor_wide := FD'_Floor_wide
  clear FD'_Floor_wide
  have b_Floor_wide := FD_Floor_wide.bindsN (ps := ["self"]) fun _ _ _ _ _ _ us hl => match us, hl with | [_], _ => rfl
  have V_wide : Virt l.prog w K mg base CX0 1 "wide" ["self"] (ck4 cl) (sp_wide cl) := fun C hC => by
    simp only [ck4, List.mem_cons, List.not_mem_nil, or_false] at hC
    rcases hC with rfl | rfl | rfl | rfl
    · exact ⟨c_Line, _, _, (by rw [j14]; exact He.meth_ok (c.d.fact 76 (f := .meth "Line" "wide") rfl)), ok_Line_wide B MM (He.FunD.to FD_Line_wide), b_Line_wide⟩
    · exact ⟨c_Wagon, _, _, (by rw [j15]; exact He.meth_ok (c.d.fact 98 (f := .meth "Wagon" "wide") rfl)), ok_Wagon_wide B MM (He.FunD.to FD_Wagon_wide), b_Wagon_wide⟩
    · exact ⟨c_Trap, _, _, (by rw [j16]; exact He.meth_ok (c.d.fact 120 (f := .meth "Trap" "wide") rfl)), ok_Trap_wide B MM (He.FunD.to FD_Trap_wide), b_Trap_wide⟩
    · exact ⟨c_Floor, _, _, (by rw [j17]; exact He.meth_ok (c.d.fact 142 (f := .meth "Floor" "wide") rfl)), ok_Floor_wide B MM (He.FunD.to FD_Floor_wide), b_Floor_wide⟩
  obtain ⟨fd_Line_offset, FD'_Line_offset⟩ := c.d.def_ 7 (d := d_Line_offset) rfl
  have FD_Line_offset : FunD K "offset" "Line.offset" (defArgs s_Line_offset) (defBody s_Line_offset) (defScope s_Line_offset) [] [] (He.ma K (He.ga K "Line") "offset") fd_Line_offset := FD'_Line_offset
  clear FD'_Line_offset
  have b_Line_offset := FD_Line_offset.bindsN (ps := ["self"]) fun _ _ _ _ _ _ us hl => match us, hl with | [_], _ => rfl
  obtain ⟨fd_Wagon_offset, FD'_Wagon_offset⟩ := c.d.def_ 17 (d := d_Wagon_offset) rfl
  have FD_Wagon_offset : FunD K "offset" "Wagon.offset" (defArgs s_Wagon_offset) (defBody s_Wagon_offset) (defScope s_Wagon_offset) [] [] (He.ma K (He.ga K "Wagon") "offset") fd_Wagon_offset := FD'_Wagon_offset
  clear FD'_Wagon_offset
  have b_Wagon_offset := FD_Wagon_offset.bindsN (ps := ["self"]) fun _ _ _ _ _ _ us hl => match us, hl with | [_], _ => rfl
  obtain ⟨fd_Trap_offset, FD'_Trap_offset⟩ := c.d.def_ 12 (d := d_Trap_offset) rfl
  have FD_Trap_offset : FunD K "offset" "Trap.offset" (defArgs s_Trap_offset) (defBody s_Trap_offset) (defScope s_Trap_offset) [] [] (He.ma K (He.ga K "Trap") "offset") fd_Trap_offset := FD'_Trap_offset
  clear FD'_Trap_offset
  have b_Trap_offset := FD_Trap_offset.bindsN (ps := ["self"]) fun _ _ _ _ _ _ us hl => match us, hl with | [_], _ => rfl
  obtain ⟨fd_Floor_offset, FD'_Floor_offset⟩ := c.d.def_ 2 (d := d_Floor_offset) rfl
  have FD_Floor_offset : FunD K "offset" "Floor.offset" (defArgs s_Floor_offset) (defBody s_Floor_offset) (defScope s_Floor_offset) [] [] (He.ma K (He.ga K "Floor") "offset") fd_Floor_offset := FD'_Floor_offset
  clear FD'_Floor_offset
  have b_Floor_offset := FD_Floor_offset.bindsN (ps := ["self"]) fun _ _ _ _ _ _ us hl => match us, hl with | [_], _ => rfl
  have V_offset : Virt l.prog w K mg base CX0 1 "offset" ["self"] (ck4 cl) (sp_offset cl) := fun C hC => by
    simp only [ck4, List.mem_cons, List.not_mem_nil, or_false] at hC
    rcases hC with rfl | rfl | rfl | rfl
    · exact ⟨c_Line, _, _, (by rw [j14]; exact He.meth_ok (c.d.fact 77 (f := .meth "Line" "offset") rfl)), ok_Line_offset B (He.FunD.to FD_Line_offset), b_Line_offset⟩
    · exact ⟨c_Wagon, _, _, (by rw [j15]; exact He.meth_ok (c.d.fact 99 (f := .meth "Wagon" "offset") rfl)), ok_Wagon_offset B (He.FunD.to FD_Wagon_offset), b_Wagon_offset⟩
    · exact ⟨c_Trap, _, _, (by rw [j16]; exact He.meth_ok (c.d.fact 121 (f := .meth "Trap" "offset") rfl)), ok_Trap_offset B (He.FunD.to FD_Trap_offset), b_Trap_offset⟩
    · exact ⟨c_Floor, _, _, (by rw [j17]; exact He.meth_ok (c.d.fact 143 (f := .meth "Floor" "offset") rfl)), ok_Floor_offset B MM (He.FunD.to FD_Floor_offset), b_Floor_offset⟩
  obtain ⟨fd_Line_words, co_Line_words, cc_Line_words, SF'_Line_words⟩ := cP.sup d_Line_words (by unfold hsu hsu_0; simp)
  have SF_Line_words : SupF K "words" "Line.words" s_Line_words (He.ma K (He.ga K "Line") "words") fd_Line_words co_Line_words cc_Line_words (He.ga K "Line") "/claim/cut.py" := SF'_Line_words
  clear SF'_Line_words
  have b_Line_words := SF_Line_words.binds (ps := ["self"]) fun _ _ _ _ _ us hl => match us, hl with | [_], _ => rfl
  obtain ⟨fd_Machine_words, FD'_Machine_words⟩ := c.d.def_ 26 (d := d_Machine_words) rfl
  have FD_Machine_words : FunD K "words" "Machine.words" (defArgs s_Machine_words) (defBody s_Machine_words) (defScope s_Machine_words) [] [] (He.ma K (He.ga K "Machine") "words") fd_Machine_words := FD'_Machine_words
  clear FD'_Machine_words
  have b_Machine_words := FD_Machine_words.bindsN (ps := ["self"]) fun _ _ _ _ _ _ us hl => match us, hl with | [_], _ => rfl
  obtain ⟨fd_Wagon_words, co_Wagon_words, cc_Wagon_words, SF'_Wagon_words⟩ := cP.sup d_Wagon_words (by unfold hsu hsu_0; simp)
  have SF_Wagon_words : SupF K "words" "Wagon.words" s_Wagon_words (He.ma K (He.ga K "Wagon") "words") fd_Wagon_words co_Wagon_words cc_Wagon_words (He.ga K "Wagon") "/claim/cut.py" := SF'_Wagon_words
  clear SF'_Wagon_words
  have b_Wagon_words := SF_Wagon_words.binds (ps := ["self"]) fun _ _ _ _ _ us hl => match us, hl with | [_], _ => rfl
  obtain ⟨fd_Trap_words, co_Trap_words, cc_Trap_words, SF'_Trap_words⟩ := cP.sup d_Trap_words (by unfold hsu hsu_0; simp)
  have SF_Trap_words : SupF K "words" "Trap.words" s_Trap_words (He.ma K (He.ga K "Trap") "words") fd_Trap_words co_Trap_words cc_Trap_words (He.ga K "Trap") "/claim/cut.py" := SF'_Trap_words
  clear SF'_Trap_words
  have b_Trap_words := SF_Trap_words.binds (ps := ["self"]) fun _ _ _ _ _ us hl => match us, hl with | [_], _ => rfl
  obtain ⟨fd_Floor_words, co_Floor_words, cc_Floor_words, SF'_Floor_words⟩ := cP.sup d_Floor_words (by unfold hsu hsu_0; simp)
  have SF_Floor_words : SupF K "words" "Floor.words" s_Floor_words (He.ma K (He.ga K "Floor") "words") fd_Floor_words co_Floor_words cc_Floor_words (He.ga K "Floor") "/claim/cut.py" := SF'_Floor_words
  clear SF'_Floor_words
  have b_Floor_words := SF_Floor_words.binds (ps := ["self"]) fun _ _ _ _ _ us hl => match us, hl with | [_], _ => rfl
  have V_words : Virt l.prog w K mg base CX0 3 "words" ["self"] (ck4 cl) (sp_words cl) := fun C hC => by
    simp only [ck4, List.mem_cons, List.not_mem_nil, or_false] at hC
    rcases hC with rfl | rfl | rfl | rfl
    · exact ⟨c_Line, _, _, (by rw [j14]; exact He.meth_ok (c.d.fact 82 (f := .meth "Line" "words") rfl)), ok_Line_words B MM (ok_Machine_words B MM V_kind (He.FunD.to FD_Machine_words)) b_Machine_words (c.exAt 48 (f := fun K => PySem.W.fnIn K (He.ma K (He.ga K "Machine") "words")) rfl) (of_decide_eq_true (c.exAt 49 (f := fun K => decide (PySem.W.typeIn K (.ref (He.ma K (He.ga K "Machine") "words")) = some (.type "function"))) rfl)) SF_Line_words SU (by rw [j14]; exact of_decide_eq_true (c.exAt 46 (f := fun K => decide (PySem.W.mroIn K (He.ga K "Line") (.ref (He.ga K "Line")) = some true)) rfl)) (by rw [j14]; exact He.eqO_ok (c.exAt 47 (f := fun K => He.eqO (PySem.W.ks_superIn K (He.ga K "Line") (He.ga K "Line") "words") (some (some (.ref (He.ma K (He.ga K "Machine") "words"))))) rfl)), b_Line_words⟩
    · exact ⟨c_Wagon, _, _, (by rw [j15]; exact He.meth_ok (c.d.fact 104 (f := .meth "Wagon" "words") rfl)), ok_Wagon_words B MM (ok_Machine_words B MM V_kind (He.FunD.to FD_Machine_words)) b_Machine_words (c.exAt 48 (f := fun K => PySem.W.fnIn K (He.ma K (He.ga K "Machine") "words")) rfl) (of_decide_eq_true (c.exAt 49 (f := fun K => decide (PySem.W.typeIn K (.ref (He.ma K (He.ga K "Machine") "words")) = some (.type "function"))) rfl)) SF_Wagon_words SU (by rw [j15]; exact of_decide_eq_true (c.exAt 51 (f := fun K => decide (PySem.W.mroIn K (He.ga K "Wagon") (.ref (He.ga K "Wagon")) = some true)) rfl)) (by rw [j15]; exact He.eqO_ok (c.exAt 52 (f := fun K => He.eqO (PySem.W.ks_superIn K (He.ga K "Wagon") (He.ga K "Wagon") "words") (some (some (.ref (He.ma K (He.ga K "Machine") "words"))))) rfl)), b_Wagon_words⟩
    · exact ⟨c_Trap, _, _, (by rw [j16]; exact He.meth_ok (c.d.fact 126 (f := .meth "Trap" "words") rfl)), ok_Trap_words B MM (ok_Machine_words B MM V_kind (He.FunD.to FD_Machine_words)) b_Machine_words (c.exAt 48 (f := fun K => PySem.W.fnIn K (He.ma K (He.ga K "Machine") "words")) rfl) (of_decide_eq_true (c.exAt 49 (f := fun K => decide (PySem.W.typeIn K (.ref (He.ma K (He.ga K "Machine") "words")) = some (.type "function"))) rfl)) SF_Trap_words SU (by rw [j16]; exact of_decide_eq_true (c.exAt 53 (f := fun K => decide (PySem.W.mroIn K (He.ga K "Trap") (.ref (He.ga K "Trap")) = some true)) rfl)) (by rw [j16]; exact He.eqO_ok (c.exAt 54 (f := fun K => He.eqO (PySem.W.ks_superIn K (He.ga K "Trap") (He.ga K "Trap") "words") (some (some (.ref (He.ma K (He.ga K "Machine") "words"))))) rfl)), b_Trap_words⟩
    · exact ⟨c_Floor, _, _, (by rw [j17]; exact He.meth_ok (c.d.fact 148 (f := .meth "Floor" "words") rfl)), ok_Floor_words B MM (ok_Machine_words B MM V_kind (He.FunD.to FD_Machine_words)) b_Machine_words (c.exAt 48 (f := fun K => PySem.W.fnIn K (He.ma K (He.ga K "Machine") "words")) rfl) (of_decide_eq_true (c.exAt 49 (f := fun K => decide (PySem.W.typeIn K (.ref (He.ma K (He.ga K "Machine") "words")) = some (.type "function"))) rfl)) SF_Floor_words SU (by rw [j17]; exact of_decide_eq_true (c.exAt 55 (f := fun K => decide (PySem.W.mroIn K (He.ga K "Floor") (.ref (He.ga K "Floor")) = some true)) rfl)) (by rw [j17]; exact He.eqO_ok (c.exAt 56 (f := fun K => He.eqO (PySem.W.ks_superIn K (He.ga K "Floor") (He.ga K "Floor") "words") (some (some (.ref (He.ma K (He.ga K "Machine") "words"))))) rfl)), b_Floor_words⟩
  have F__law_told_right : Fn l.prog w K mg base "_law_told_right" ["_law_machine_here", "_law_own"] CX0 8 _ := ⟨_, _, ok__law_told_right B MM II F__law_tail V_kind V_lane V_wide V_offset V_words (He.FunD.to FD__law_told_right), He.glo_ok X G (c.d.fact 17 (f := .glo "_law_told_right") rfl), FD__law_told_right.kp, b__law_told_right⟩
  obtain ⟨fd__law_boxes_right, FD'__law_boxes_right⟩ := c.d.def_ 53 (d := d__law_boxes_right) rfl
  have FD__law_boxes_right : FunD K "_law_boxes_right" "_law_boxes_right" (defArgs s__law_boxes_right) (defBody s__law_boxes_right) (defScope s__law_boxes_right) [] [] (He.ga K "_law_boxes_right") fd__law_boxes_right := FD'__law_boxes_right
  clear FD'__law_boxes_right
  have b__law_boxes_right := FD__law_boxes_right.bindsN (ps := ["_law_machine_here", "_law_own", "_law_draw_here"]) fun _ _ _ _ _ _ us hl => match us, hl with | [_, _, _], _ => rfl
  obtain ⟨fd__law_takes, FD'__law_takes⟩ := c.d.def_ 24 (d := d__law_takes) rfl
  have FD__law_takes : FunD K "_law_takes" "_law_takes" (defArgs s__law_takes) (defBody s__law_takes) (defScope s__law_takes) [] [] (He.ga K "_law_takes") fd__law_takes := FD'__law_takes
  clear FD'__law_takes
  have b__law_takes := FD__law_takes.bindsN (ps := ["_law_own", "_law_low", "_law_high"]) fun _ _ _ _ _ _ us hl => match us, hl with | [_, _, _], _ => rfl
  have F__law_takes : Fn l.prog w K mg base "_law_takes" ["_law_own", "_law_low", "_law_high"] CX0 1 _ := ⟨_, _, ok__law_takes B (He.FunD.to FD__law_takes), He.glo_ok X G (c.d.fact 4 (f := .glo "_law_takes") rfl), FD__law_takes.kp, b__law_takes⟩
  obtain ⟨fd__law_place_refused, FD'__law_place_refused⟩ := c.d.def_ 51 (d := d__law_place_refused) rfl
  have FD__law_place_refused : FunD K "_law_place_refused" "_law_place_refused" (defArgs s__law_place_refused) (defBody s__law_place_refused) (defScope s__law_place_refused) [] [] (He.ga K "_law_place_refused") fd__law_place_refused := FD'__law_place_refused
  clear FD'__law_place_refused
  have b__law_place_refused := FD__law_place_refused.bindsN (ps := ["_law_machine_here", "_law_place", "_law_good"]) fun _ _ _ _ _ _ us hl => match us, hl with | [_, _, _], _ => rfl
  obtain ⟨fd__law_classes, FD'__law_classes⟩ := c.d.def_ 20 (d := d__law_classes) rfl
  have FD__law_classes : FunD K "_law_classes" "_law_classes" (defArgs s__law_classes) (defBody s__law_classes) (defScope s__law_classes) [] [] (He.ga K "_law_classes") fd__law_classes := FD'__law_classes
  clear FD'__law_classes
  have b__law_classes := FD__law_classes.bindsN (ps := ["_law_caught"]) fun _ _ _ _ _ _ us hl => match us, hl with | [_], _ => rfl
  have F__law_classes : Fn l.prog w K mg base "_law_classes" ["_law_caught"] CX0 1 _ := ⟨_, _, ok__law_classes B EE EN (He.FunD.to FD__law_classes), He.glo_ok X G (c.d.fact 0 (f := .glo "_law_classes") rfl), FD__law_classes.kp, b__law_classes⟩
  obtain ⟨fd_Line_boxes, FD'_Line_boxes⟩ := c.d.def_ 41 (d := d_Line_boxes) rfl
  have FD_Line_boxes : FunD K "boxes" "Line.boxes" (defArgs s_Line_boxes) (defBody s_Line_boxes) (defScope s_Line_boxes) [] [] (He.ma K (He.ga K "Line") "boxes") fd_Line_boxes := FD'_Line_boxes
  clear FD'_Line_boxes
  have b_Line_boxes := FD_Line_boxes.bindsN (ps := ["self", "place"]) fun _ _ _ _ _ _ us hl => match us, hl with | [_, _], _ => rfl
  obtain ⟨fd_Line_taken, FD'_Line_taken⟩ := c.d.def_ 36 (d := d_Line_taken) rfl
  have FD_Line_taken : FunD K "taken" "Line.taken" (defArgs s_Line_taken) (defBody s_Line_taken) (defScope s_Line_taken) [] [] (He.ma K (He.ga K "Line") "taken") fd_Line_taken := FD'_Line_taken
  clear FD'_Line_taken
  have b_Line_taken := FD_Line_taken.bindsN (ps := ["self", "ahead", "place"]) fun _ _ _ _ _ _ us hl => match us, hl with | [_, _, _], _ => rfl
  obtain ⟨fd_Machine_need_within, FD'_Machine_need_within⟩ := c.d.def_ 29 (d := d_Machine_need_within) rfl
  have FD_Machine_need_within : FunD K "need_within" "Machine.need_within" (defArgs s_Machine_need_within) (defBody s_Machine_need_within) (defScope s_Machine_need_within) [] [] (He.ma K (He.ga K "Machine") "need_within") fd_Machine_need_within := FD'_Machine_need_within
  clear FD'_Machine_need_within
  have b_Machine_need_within := FD_Machine_need_within.bindsN (ps := ["self", "place"]) fun _ _ _ _ _ _ us hl => match us, hl with | [_, _], _ => rfl
  have V_need_within : Virt l.prog w K mg base (L2.CX l.prog w) 3 "need_within" ["self", "place"] (ck4 cl) (sp_need_within K cl (cl 1)) := fun C hC => by
    simp only [ck4, List.mem_cons, List.not_mem_nil, or_false] at hC
    rcases hC with rfl | rfl | rfl | rfl
    · exact ⟨c_Line, _, _, (by rw [j14, ← He.subst_ma (c.exAt 42 (f := fun K => decide (He.ma K (He.ga K "Line") "need_within" = He.ma K (He.ga K "Machine") "need_within")) rfl)]; exact He.meth_ok (c.d.fact 81 (f := .meth "Line" "need_within") rfl)), ok_Machine_need_within (k := .line) B MM F_need_whole (He.FunD.to FD_Machine_need_within), b_Machine_need_within⟩
    · exact ⟨c_Wagon, _, _, (by rw [j15, ← He.subst_ma (c.exAt 43 (f := fun K => decide (He.ma K (He.ga K "Wagon") "need_within" = He.ma K (He.ga K "Machine") "need_within")) rfl)]; exact He.meth_ok (c.d.fact 103 (f := .meth "Wagon" "need_within") rfl)), ok_Machine_need_within (k := .wagon) B MM F_need_whole (He.FunD.to FD_Machine_need_within), b_Machine_need_within⟩
    · exact ⟨c_Trap, _, _, (by rw [j16, ← He.subst_ma (c.exAt 44 (f := fun K => decide (He.ma K (He.ga K "Trap") "need_within" = He.ma K (He.ga K "Machine") "need_within")) rfl)]; exact He.meth_ok (c.d.fact 125 (f := .meth "Trap" "need_within") rfl)), ok_Machine_need_within (k := .trap) B MM F_need_whole (He.FunD.to FD_Machine_need_within), b_Machine_need_within⟩
    · exact ⟨c_Floor, _, _, (by rw [j17, ← He.subst_ma (c.exAt 45 (f := fun K => decide (He.ma K (He.ga K "Floor") "need_within" = He.ma K (He.ga K "Machine") "need_within")) rfl)]; exact He.meth_ok (c.d.fact 147 (f := .meth "Floor" "need_within") rfl)), ok_Machine_need_within (k := .floor) B MM F_need_whole (He.FunD.to FD_Machine_need_within), b_Machine_need_within⟩
  obtain ⟨fd_Line_swept, FD'_Line_swept⟩ := c.d.def_ 8 (d := d_Line_swept) rfl
  have FD_Line_swept : FunD K "swept" "Line.swept" (defArgs s_Line_swept) (defBody s_Line_swept) (defScope s_Line_swept) [] [] (He.ma K (He.ga K "Line") "swept") fd_Line_swept := FD'_Line_swept
  clear FD'_Line_swept
  have b_Line_swept := FD_Line_swept.bindsN (ps := ["self", "ahead", "place"]) fun _ _ _ _ _ _ us hl => match us, hl with | [_, _, _], _ => rfl
  obtain ⟨fd_Wagon_swept, FD'_Wagon_swept⟩ := c.d.def_ 18 (d := d_Wagon_swept) rfl
  have FD_Wagon_swept : FunD K "swept" "Wagon.swept" (defArgs s_Wagon_swept) (defBody s_Wagon_swept) (defScope s_Wagon_swept) [] [] (He.ma K (He.ga K "Wagon") "swept") fd_Wagon_swept := FD'_Wagon_swept
  clear FD'_Wagon_swept
  have b_Wagon_swept := FD_Wagon_swept.bindsN (ps := ["self", "ahead", "place"]) fun _ _ _ _ _ _ us hl => match us, hl with | [_, _, _], _ => rfl
  obtain ⟨fd_Trap_swept, FD'_Trap_swept⟩ := c.d.def_ 13 (d := d_Trap_swept) rfl
  have FD_Trap_swept : FunD K "swept" "Trap.swept" (defArgs s_Trap_swept) (defBody s_Trap_swept) (defScope s_Trap_swept) [] [] (He.ma K (He.ga K "Trap") "swept") fd_Trap_swept := FD'_Trap_swept
  clear FD'_Trap_swept
  have b_Trap_swept := FD_Trap_swept.bindsN (ps := ["self", "ahead", "place"]) fun _ _ _ _ _ _ us hl => match us, hl with | [_, _, _], _ => rfl
  obtain ⟨fd_Floor_swept, FD'_Floor_swept⟩ := c.d.def_ 3 (d := d_Floor_swept) rfl
  have FD_Floor_swept : FunD K "swept" "Floor.swept" (defArgs s_Floor_swept) (defBody s_Floor_swept) (defScope s_Floor_swept) [] [] (He.ma K (He.ga K "Floor") "swept") fd_Floor_swept := FD'_Floor_swept
  clear FD'_Floor_swept
  have b_Floor_swept := FD_Floor_swept.bindsN (ps := ["self", "ahead", "place"]) fun _ _ _ _ _ _ us hl => match us, hl with | [_, _, _], _ => rfl
  have V_swept : Virt l.prog w K mg base CX0 1 "swept" ["self", "ahead", "place"] (ck4 cl) (sp_swept cl) := fun C hC => by
    simp only [ck4, List.mem_cons, List.not_mem_nil, or_false] at hC
    rcases hC with rfl | rfl | rfl | rfl
    · exact ⟨c_Line, _, _, (by rw [j14]; exact He.meth_ok (c.d.fact 80 (f := .meth "Line" "swept") rfl)), ok_Line_swept B MM (He.FunD.to FD_Line_swept), b_Line_swept⟩
    · exact ⟨c_Wagon, _, _, (by rw [j15]; exact He.meth_ok (c.d.fact 102 (f := .meth "Wagon" "swept") rfl)), ok_Wagon_swept B MM (He.FunD.to FD_Wagon_swept), b_Wagon_swept⟩
    · exact ⟨c_Trap, _, _, (by rw [j16]; exact He.meth_ok (c.d.fact 124 (f := .meth "Trap" "swept") rfl)), ok_Trap_swept B MM (He.FunD.to FD_Trap_swept), b_Trap_swept⟩
    · exact ⟨c_Floor, _, _, (by rw [j17]; exact He.meth_ok (c.d.fact 146 (f := .meth "Floor" "swept") rfl)), ok_Floor_swept B MM (He.FunD.to FD_Floor_swept), b_Floor_swept⟩
  obtain ⟨fd_Wagon_taken, FD'_Wagon_taken⟩ := c.d.def_ 38 (d := d_Wagon_taken) rfl
  have FD_Wagon_taken : FunD K "taken" "Wagon.taken" (defArgs s_Wagon_taken) (defBody s_Wagon_taken) (defScope s_Wagon_taken) [] [] (He.ma K (He.ga K "Wagon") "taken") fd_Wagon_taken := FD'_Wagon_taken
  clear FD'_Wagon_taken
  have b_Wagon_taken := FD_Wagon_taken.bindsN (ps := ["self", "ahead", "place"]) fun _ _ _ _ _ _ us hl => match us, hl with | [_, _, _], _ => rfl
  obtain ⟨fd_Trap_taken, FD'_Trap_taken⟩ := c.d.def_ 37 (d := d_Trap_taken) rfl
  have FD_Trap_taken : FunD K "taken" "Trap.taken" (defArgs s_Trap_taken) (defBody s_Trap_taken) (defScope s_Trap_taken) [] [] (He.ma K (He.ga K "Trap") "taken") fd_Trap_taken := FD'_Trap_taken
  clear FD'_Trap_taken
  have b_Trap_taken := FD_Trap_taken.bindsN (ps := ["self", "ahead", "place"]) fun _ _ _ _ _ _ us hl => match us, hl with | [_, _, _], _ => rfl
  obtain ⟨fd_Floor_taken, FD'_Floor_taken⟩ := c.d.def_ 35 (d := d_Floor_taken) rfl
  have FD_Floor_taken : FunD K "taken" "Floor.taken" (defArgs s_Floor_taken) (defBody s_Floor_taken) (defScope s_Floor_taken) [] [] (He.ma K (He.ga K "Floor") "taken") fd_Floor_taken := FD'_Floor_taken
  clear FD'_Floor_taken
  have b_Floor_taken := FD_Floor_taken.bindsN (ps := ["self", "ahead", "place"]) fun _ _ _ _ _ _ us hl => match us, hl with | [_, _, _], _ => rfl
  have V_taken : Virt l.prog w K mg base (L2.CX l.prog w) 4 "taken" ["self", "ahead", "place"] (ck4 cl) (sp_taken K cl (cl 1)) := fun C hC => by
    simp only [ck4, List.mem_cons, List.not_mem_nil, or_false] at hC
    rcases hC with rfl | rfl | rfl | rfl
    · exact ⟨c_Line, _, _, (by rw [j14]; exact He.meth_ok (c.d.fact 79 (f := .meth "Line" "taken") rfl)), ok_Line_taken B MM V_need_within V_swept (He.FunD.to FD_Line_taken), b_Line_taken⟩
    · exact ⟨c_Wagon, _, _, (by rw [j15]; exact He.meth_ok (c.d.fact 101 (f := .meth "Wagon" "taken") rfl)), ok_Wagon_taken B MM V_need_within V_swept (He.FunD.to FD_Wagon_taken), b_Wagon_taken⟩
    · exact ⟨c_Trap, _, _, (by rw [j16]; exact He.meth_ok (c.d.fact 123 (f := .meth "Trap" "taken") rfl)), ok_Trap_taken B MM V_need_within V_swept (He.FunD.to FD_Trap_taken), b_Trap_taken⟩
    · exact ⟨c_Floor, _, _, (by rw [j17]; exact He.meth_ok (c.d.fact 145 (f := .meth "Floor" "taken") rfl)), ok_Floor_taken B MM V_need_within V_swept (He.FunD.to FD_Floor_taken), b_Floor_taken⟩
  obtain ⟨fd_Wagon_boxes, FD'_Wagon_boxes⟩ := c.d.def_ 44 (d := d_Wagon_boxes) rfl
  have FD_Wagon_boxes : FunD K "boxes" "Wagon.boxes" (defArgs s_Wagon_boxes) (defBody s_Wagon_boxes) (defScope s_Wagon_boxes) [] [] (He.ma K (He.ga K "Wagon") "boxes") fd_Wagon_boxes := FD'_Wagon_boxes
  clear FD'_Wagon_boxes
  have b_Wagon_boxes := FD_Wagon_boxes.bindsN (ps := ["self", "place"]) fun _ _ _ _ _ _ us hl => match us, hl with | [_, _], _ => rfl
  obtain ⟨fd_Trap_boxes, FD'_Trap_boxes⟩ := c.d.def_ 43 (d := d_Trap_boxes) rfl
  have FD_Trap_boxes : FunD K "boxes" "Trap.boxes" (defArgs s_Trap_boxes) (defBody s_Trap_boxes) (defScope s_Trap_boxes) [] [] (He.ma K (He.ga K "Trap") "boxes") fd_Trap_boxes := FD'_Trap_boxes
  clear FD'_Trap_boxes
  have b_Trap_boxes := FD_Trap_boxes.bindsN (ps := ["self", "place"]) fun _ _ _ _ _ _ us hl => match us, hl with | [_, _], _ => rfl
  obtain ⟨fd_Floor_boxes, FD'_Floor_boxes⟩ := c.d.def_ 40 (d := d_Floor_boxes) rfl
  have FD_Floor_boxes : FunD K "boxes" "Floor.boxes" (defArgs s_Floor_boxes) (defBody s_Floor_boxes) (defScope s_Floor_boxes) [] [] (He.ma K (He.ga K "Floor") "boxes") fd_Floor_boxes := FD'_Floor_boxes
  clear FD'_Floor_boxes
  have b_Floor_boxes := FD_Floor_boxes.bindsN (ps := ["self", "place"]) fun _ _ _ _ _ _ us hl => match us, hl with | [_, _], _ => rfl
  have V_boxes : Virt l.prog w K mg base (L2.CX l.prog w) 5 "boxes" ["self", "place"] (ck4 cl) (sp_boxes K cl (cl 1)) := fun C hC => by
    simp only [ck4, List.mem_cons, List.not_mem_nil, or_false] at hC
    rcases hC with rfl | rfl | rfl | rfl
    · exact ⟨c_Line, _, _, (by rw [j14]; exact He.meth_ok (c.d.fact 78 (f := .meth "Line" "boxes") rfl)), ok_Line_boxes B V_taken (He.FunD.to FD_Line_boxes), b_Line_boxes⟩
    · exact ⟨c_Wagon, _, _, (by rw [j15]; exact He.meth_ok (c.d.fact 100 (f := .meth "Wagon" "boxes") rfl)), ok_Wagon_boxes B V_taken (He.FunD.to FD_Wagon_boxes), b_Wagon_boxes⟩
    · exact ⟨c_Trap, _, _, (by rw [j16]; exact He.meth_ok (c.d.fact 122 (f := .meth "Trap" "boxes") rfl)), ok_Trap_boxes B V_taken (He.FunD.to FD_Trap_boxes), b_Trap_boxes⟩
    · exact ⟨c_Floor, _, _, (by rw [j17]; exact He.meth_ok (c.d.fact 144 (f := .meth "Floor" "boxes") rfl)), ok_Floor_boxes B V_taken (He.FunD.to FD_Floor_boxes), b_Floor_boxes⟩
  have F__law_place_refused : Fn l.prog w K mg base "_law_place_refused" ["_law_machine_here", "_law_place", "_law_good"] CX0 8 _ := ⟨_, _, ok__law_place_refused B EE F__law_classes V_boxes V_taken (He.FunD.to FD__law_place_refused), He.glo_ok X G (c.d.fact 16 (f := .glo "_law_place_refused") rfl), FD__law_place_refused.kp, b__law_place_refused⟩
  have F__law_boxes_right : Fn l.prog w K mg base "_law_boxes_right" ["_law_machine_here", "_law_own", "_law_draw_here"] CX0 9 _ := ⟨_, _, ok__law_boxes_right B F__law_takes F__law_place_refused V_boxes V_taken (He.FunD.to FD__law_boxes_right), He.glo_ok X G (c.d.fact 18 (f := .glo "_law_boxes_right") rfl), FD__law_boxes_right.kp, b__law_boxes_right⟩
  obtain ⟨fd__law_refused, FD'__law_refused⟩ := c.d.def_ 54 (d := d__law_refused) rfl
  have FD__law_refused : FunD K "_law_refused" "_law_refused" (defArgs s__law_refused) (defBody s__law_refused) (defScope s__law_refused) [] [] (He.ga K "_law_refused") fd__law_refused := FD'__law_refused
  clear FD'__law_refused
  have b__law_refused := FD__law_refused.bindsN (ps := ["_law_own", "_law_draw_here"]) fun _ _ _ _ _ _ us hl => match us, hl with | [_, _], _ => rfl
  obtain ⟨fd__law_spoilt, FD'__law_spoilt⟩ := c.d.def_ 21 (d := d__law_spoilt) rfl
  have FD__law_spoilt : FunD K "_law_spoilt" "_law_spoilt" (defArgs s__law_spoilt) (defBody s__law_spoilt) (defScope s__law_spoilt) [] [] (He.ga K "_law_spoilt") fd__law_spoilt := FD'__law_spoilt
  clear FD'__law_spoilt
  have b__law_spoilt := FD__law_spoilt.bindsN (ps := ["_law_own", "_law_draw_here"]) fun _ _ _ _ _ _ us hl => match us, hl with | [_, _], _ => rfl
  have F__law_spoilt : Fn l.prog w K mg base "_law_spoilt" ["_law_own", "_law_draw_here"] CX0 1 _ := ⟨_, _, ok__law_spoilt B (He.FunD.to FD__law_spoilt), He.glo_ok X G (c.d.fact 1 (f := .glo "_law_spoilt") rfl), FD__law_spoilt.kp, b__law_spoilt⟩
  have F__law_refused : Fn l.prog w K mg base "_law_refused" ["_law_own", "_law_draw_here"] CX0 9 _ := ⟨_, _, ok__law_refused B EE F__law_spoilt F__law_machine F__law_classes (He.FunD.to FD__law_refused), He.glo_ok X G (c.d.fact 19 (f := .glo "_law_refused") rfl), FD__law_refused.kp, b__law_refused⟩
  exact ok_law B F__law_spread F__law_drawn F__law_machine F__law_told_right F__law_boxes_right F__law_refused (He.FunD.to FD_law)
end FW
open PySem PySem.W PySem.Calls PyProof.Rows
set_option maxHeartbeats 0 in
theorem PySem.Challenge.cw_flywright_k04_machines_and_boxes_holds : PySem.Challenge.rw_flywright_k04_machines_and_boxes.Holds := by
  w_on; o_law
  refine HandSHeadRun.head_any (r := OpenLaw.row PySem.Challenge.rw_flywright_k04_machines_and_boxes) (q := view (OpenLaw.row PySem.Challenge.rw_flywright_k04_machines_and_boxes).prog [50]) (H := FW.hk) (ob := FW.hob) (M := 12000) (loose := FW.hloose) (d := HandSHeadRun.topDef (OpenLaw.row PySem.Challenge.rw_flywright_k04_machines_and_boxes).prog 50) (kwd := []) FW.hob_eq (by kernel_rfl) (fun s => by kernel_rfl) FW.run (by kernel_rfl) (by kernel_rfl) (by kernel_rfl) (by rfl) (by first | assumption | decide +kernel) (by decide +kernel) ⟨rfl, rfl, rfl, rfl, rfl, by decide +kernel⟩ ?hw ?hc
  case hw => w_witness2
  case hc =>
    refine LamX.walk_ofTsE (l := PySem.Challenge.rw_flywright_k04_machines_and_boxes) (n := 63) (k := 10) (x := "_law_script") (CX := fun _ => L2.CX0) rfl (by decide) (by kernel_rfl) ⟨rfl, by decide, by decide⟩ ?F (fun _ _ _ _ _ z => z)
    intro w mg fa h Y G hmg0
    obtain ⟨K, KX, c⟩ := Y
    have hmg : mg ("law" : PySem.Str) = some (.ref fa) := by
      have e : (HandSHeadRun.topDef (OpenLaw.row PySem.Challenge.rw_flywright_k04_machines_and_boxes).prog 50).name = ("law" : PySem.Str) := by kernel_rfl
      rw [← e]
      exact hmg0
    exact ⟨K, KX, FW.all_mk KX G hmg c (by decide +kernel) (by decide +kernel)⟩

