import PyProof.Rows.All
import Wide.All
import OpenK.AllK
import Wide.FinOn
import PySem.Challenge.RW_flywright_k01_reach_and_braked
import HandS.ForMost
import HandS.Evl
import HandS.Wide
import HandS.Flt
import HandS.IsInst
import HandS.Walk
import HandS.Exc
import HandS.ExcOwn
import HandS.ExcIs
import HandS.RaiseMore
import HandS.FStr
import HandS.WordsExc
import HandS.GenOver
import HandS.AnyAll
import HandS.EndTab
import HandS.Conv
import PyProof.GenCompD
import PyProof.ConsumeS
import PyProof.SumAnyB
import PyProof.GenQ
set_option Elab.async false
set_option linter.all false
set_option maxRecDepth 100000
set_option maxHeartbeats 4000000
/-! ### generator expressions handed to any, all, sum: their own frame as a context of the hand layer -/
namespace L2
open PySem PySem.Spec PyProof.Rows GenW
/-- the context of a generator expression's frame: made at s, its iterator's objects at fp; B: its around; pn: the generator's object -/
abbrev Cx.gx (X : Cx) (s : Shared) (H : Hp) (ge : Env) (B : Around) (fp : List Addr) (pn : List (Addr × Obj)) : Cx :=
  { X with s_0 := s, H_0 := H, env := ge, outer := X.stack, stack := ge :: X.stack, A := B, ex := fp, fn := fun _ => false, pn := pn, xe := fun _ _ => False }
theorem gx_start {X : Cx} {pins hp pn : List (Addr × Obj)} {σ : St} {H : Hp} {s s' : Shared} {scope : Scope} {own : List (Str × Nat)} {fp : List Addr} {B : Around} {code : Value} {m : Str → Option Value} {ge : Env}
    (I : Inv X pins σ H s) (ok : BlkOk X.N X.env.scope scope own) (hcell : ∀ y ∈ scope.names, y.2 ≠ .cell) (hN : X.N.Nodup) (hfp : ∀ b ∈ fp, FpOk X pins H b ∧ b < s.heap.objs.size)
    (hB : B.frames = some (ge :: X.stack)) (hBh : B.handled = none) (hge : ge = genEnv scope (cloFrom X.env.cells scope.names []) s.heap.objs.size code builtinsNs X.env)
    (os : s'.os = s.os) (bare : AllBare s'.gens) (kp : ∀ b o, s.heap.get? b = some o → s'.heap.get? b = some o) (hn : s'.heap.Ns s.heap.objs.size m)
    (hpin : ∀ p ∈ pn ++ hp, s'.heap.get? p.1 = some p.2 ∧ H p.1 = none ∧ p.1 ≠ s.heap.objs.size ∧ p.1 ∉ frs X.stack ∧ ∀ v, p.2.data ≠ .cell v) :
    Inv (X.gx s H ge B fp pn) hp (wipe σ (own.map (·.2))) H s' := by
  have gf : ∀ y ∈ scope.names, y.2 = .free → ∃ c, X.env.cells.lookup y.1 = some c := fun y hy e => (ok.free y hy e).elim (fun k => I.ok.has _ (.inl k)) (fun k => I.ok.has _ (.inr k))
  have hL : ge.locals = s.heap.objs.size := by rw [hge]; rfl
  have hcl : ge.cells = cloFrom X.env.cells scope.names [] := by rw [hge]; rfl
  have hsc : ge.scope = scope := by rw [hge]; rfl
  have cm : ∀ {y c}, ge.cells.lookup y = some c → X.env.cells.lookup y = some c ∧ c < s.heap.objs.size := fun {y c} e => by
    rw [hcl] at e
    rcases cloFrom_mem (PySem.mem_of_lookup e) with hm | ⟨h1, rfl⟩
    · cases hm
    · obtain ⟨c, hc⟩ := gf _ h1 rfl
      rw [hc]
      exact ⟨rfl, (I.cell _ _ hc).elim fun _ z => z.lt⟩
  have look : ∀ {y}, scope.names.lookup y = some .free → ∃ c, ge.cells.lookup y = some c ∧ X.env.cells.lookup y = some c := fun {y} hl => by
    obtain ⟨c', e'⟩ := mem_lookup (cloFrom_has (cells := X.env.cells) (acc := []) (PySem.mem_of_lookup hl))
    rw [← hcl] at e'
    exact ⟨c', e', (cm e').1⟩
  have okG : (X.gx s H ge B fp pn).Ok := by
    refine ⟨I.ok.mod, by show ge.scope.kind = _; rw [hsc]; exact ok.kind, by show ge.globals = _; rw [hge]; exact I.ok.glob, by show ge.builtins = _; rw [hge]; rfl, Nat.le_of_eq hL.symm,
      fun y z c e1 e2 => I.ok.inj y z c (cm e1).1 (cm e2).1, fun y hy => ?_, fun y c z e => absurd z Bool.false_ne_true, fun _ => hBh, hB, .inr ⟨rfl, by show ge.frame = _; rw [hge]; rfl⟩,
      fun b hb => ⟨by show b ≠ ge.locals; rw [hL]; exact Nat.ne_of_lt (hfp b hb).2, fun y c e z => (hfp b hb).1.2.2.2.2.1 y c (cm e).1 z⟩, I.bs, Nat.le_trans I.ok.bsz I.sz, fun b o e hb => ?_, fun b hb z => ?_, I.stack, I.stkFree⟩
    · have hy : scope.names.lookup y = some .cell ∨ scope.names.lookup y = some .free := by rw [← hsc]; exact hy
      rcases hy with hy | hy
      · exact absurd rfl (hcell _ (PySem.mem_of_lookup hy))
      · obtain ⟨c, e, _⟩ := look hy
        exact ⟨c, e⟩
    · rcases (hfp b hb).1.2.2.2.1 with z | z
      · exact I.ok.noex b o e z
      · exact absurd (Nat.lt_of_lt_of_le (Heap.lt_size e) (Nat.le_trans I.ok.bsz z)) (Nat.lt_irrefl _)
    · rcases List.mem_cons.mp (I.stkSub b z) with z | z
      · exact (hfp b hb).1.2.1 z
      · exact (hfp b hb).1.2.2.1 z
  refine ⟨okG, os, bare, Un.kept kp, ⟨m, by show Heap.Ns _ ge.locals _; rw [hL]; exact hn, fun i y av e1 e2 e3 => ?_⟩, fun y c e => ?_, by show H ge.locals = none; rw [hL]; exact I.hok.fresh (Nat.le_refl _), fun y c e => I.freeC y c (cm e).1,
    fun p hp => by show _ ∧ _ ∧ p.1 ≠ ge.locals ∧ _; rw [hL]; exact hpin p hp, I.hok.kept kp, by rw [wipe_length]; exact I.len⟩
  · obtain ⟨e2, hne⟩ := wipe_some e2
    have no : ∀ k, scope.names.lookup y = some k → ¬ (k = .local ∨ k = .cell) := fun k e hh => by
      rcases ok.own _ (PySem.mem_of_lookup e) hh with e' | e'
      · obtain ⟨p, hp, hpy⟩ := List.mem_map.mp e'
        have e3 := ok.ix p hp
        rw [show p.1 = y from hpy] at e3
        exact hne (List.mem_map.mpr ⟨p, hp, nodup_ix hN e3 e1⟩)
      · exact e' (List.mem_of_getElem? e1)
    have e3 : Vis scope y := by rw [← hsc]; exact e3
    have hfr : scope.names.lookup y = some .free := by
      rcases e3 with e3 | e3 | e3
      · exact absurd (.inl rfl) (no _ e3)
      · exact absurd (.inr rfl) (no _ e3)
      · exact e3
    have fr := ok.free _ (PySem.mem_of_lookup hfr) rfl
    obtain ⟨m1, hn1, hl⟩ := I.loc
    obtain ⟨w, r, q⟩ := hl i y av e1 e2 (fr.elim (fun k => .inr (.inl k)) (fun k => .inr (.inr k)))
    refine ⟨w, r, .inr ⟨.inr (by show ge.scope.names.lookup y = _; rw [hsc]; exact hfr), ?_⟩⟩
    obtain ⟨c, h1, h2⟩ := look hfr
    rcases q with ⟨k, _⟩ | ⟨_, c', e', z⟩
    · have k : X.env.scope.names.lookup y = some .local := k
      rcases fr with k' | k' <;> rw [show X.env.scope.names.lookup y = _ from k'] at k <;> cases k
    · rw [h2] at e'; cases e'
      exact ⟨c, h1, z.keeps kp⟩
  · obtain ⟨w, z⟩ := I.cell y c (cm e).1
    exact ⟨w, z.keeps kp⟩

/-! ### what passes between the generator and its consumer -/
/-- the generator sleeps: only its consumer's own objects, at Ss, change -/
structure Nap (Ss : List Addr) (s s' : Shared) : Prop where
  os : s'.os = s.os
  bare : AllBare s'.gens
  keep : ∀ b o, b ∉ Ss → s.heap.get? b = some o → s'.heap.get? b = some o
  own : ∀ S ∈ Ss, ∃ o, s'.heap.get? S = some o ∧ ∀ v, o.data ≠ .cell v
def SameAt (Ss : List Addr) (H : Hp) (s s' : Shared) : Prop := ∀ S ∈ Ss, H S = none ∧ ∀ o, s.heap.get? S = some o → s'.heap.get? S = some o
/-- an item y is handed out; c: what the consumer has so far (Ck: as it stands in the state), step: what it wants of an item, k: what it may go on with -/
def GxY (X : Cx) (pins : List (Addr × Obj)) (σ : St) {C : Type} (Ss : List Addr) (Ck : C → Shared → Prop) (step : C → V → Hp → (C → Prop) → Prop) (a : Addr) (g : Nat) : Protocol := fun n s₀ v s1 kap =>
  ∃ c y H k, Ck c s₀ ∧ RelV y v ∧ Inv X pins σ H s1 ∧ s1.heap.IsGen a g ∧ SameAt Ss H s₀ s1 ∧ step c y H k ∧ ∀ c' s2, Nap Ss s1 s2 → Ck c' s2 → k c' → kap (.send .none) s2
def GxE (X : Cx) (pins : List (Addr × Obj)) (σ : St) {C : Type} (Ss : List Addr) (Ck : C → Shared → Prop) (fin : C → Hp → Prop) : Nat → Shared → Shared → Prop := fun n s₀ s1 =>
  ∃ c H, Ck c s₀ ∧ Inv X pins σ H s1 ∧ SameAt Ss H s₀ s1 ∧ fin c H
/-- the end of a run -/
abbrev GxEnd (P : Nat → Shared → Shared → Prop) : GenEnd := fun n s₀ r s₁ => r = .ok .next ∧ P n s₀ s₁
/-- woken again -/
theorem Inv.awake {X : Cx} {σ : St} {H : Hp} {s₀ s s' : Shared} {Ss : List Addr} {ip : List (Addr × Obj)} (I : Inv X (pinsAt Ss s₀.heap ++ ip) σ H s) (h0 : ∀ S ∈ Ss, ∃ o, s₀.heap.get? S = some o)
    (hS : ∀ S ∈ Ss, X.s_0.heap.objs.size ≤ S ∧ S ≠ X.env.locals ∧ (∀ x c, X.env.cells.lookup x = some c → c ≠ S) ∧ ∀ p ∈ X.pn ++ ip, p.1 ≠ S) (z : Nap Ss s s') : Inv X (pinsAt Ss s'.heap ++ ip) σ H s' := by
  have I0 : Inv X ip σ H s := I.pins_of fun p hp => I.pin p (List.mem_append_right _ (List.mem_append_right _ hp))
  have at0 : ∀ S ∈ Ss, H S = none ∧ S ∉ X.fs := fun S h => by
    obtain ⟨o, e⟩ := h0 S h
    obtain ⟨_, h2, _, h4, _⟩ := I.pin (S, o) (List.mem_append_right _ (List.mem_append_left _ (mem_pinsAt h e)))
    exact ⟨h2, h4⟩
  have nt : ∀ b u, H b = some u → b ∉ Ss := fun b u q hb => by rw [(at0 b hb).1] at q; cases q
  have un : Un (frs X.stack) Ss H H s.heap s'.heap := ⟨fun b o q n _ hx => z.keep b o hx q, fun b o q n _ hx => ⟨o.slots, z.keep b o hx q⟩, fun _ _ _ n _ => n, fun b o q hx => ⟨o, z.keep b o hx q⟩, fun _ _ q => q, fun _ _ _ q => q, fun b ps q => ⟨#[], by rw [q]; simp⟩⟩
  have hok : HOk X.prog X.w H s'.heap := fun b u q => (I0.hok b u q).stay (fun c v hc y => z.keep c v (by
    rcases hc with y | y
    · rw [y]; exact nt b u q
    · exact nt c _ y) y) (fun _ y => y) fun _ _ y => y
  have J : Inv X ip σ H s' := I0.call' z.os un hok z.bare fun b hb => ⟨.inr (hS b hb).1, (hS b hb).2.1, (hS b hb).2.2.1, (hS b hb).2.2.2⟩
  refine J.pins_of fun p hp => ?_
  rcases List.mem_append.mp hp with hp | hp
  · obtain ⟨hb, e⟩ := of_pinsAt hp
    obtain ⟨o, e', d⟩ := z.own p.1 hb
    rw [e] at e'; cases e'
    exact ⟨e, (at0 _ hb).1, (hS _ hb).2.1, (at0 _ hb).2, d⟩
  · exact J.pin p (List.mem_append_right _ hp)

/-- the turns of a generator expression of one clause, from the turn i on: n is above the measure -/
theorem gx_loop {X : Cx} {pins : List (Addr × Obj)} {σ : St} {H3 : Hp} {s3 : Shared} {C : Type} {Ss : List Addr} {Ck : C → Shared → Prop} {fin : C → Hp → Prop} {step : C → V → Hp → (C → Prop) → Prop} {a : Addr} {g : Nat} {go : Obj}
    {elt tg iter : Expr} {scope : Scope} {pos : Pos} {own : List (Str × Nat)} {fp : List Addr} {it : Addr} {tn : Nat → Heap → Prop} {J : It} {ge : Env} {B0 B : Around} {gg : TG} {te : TE} {W : Nat → Nat → C → Hp → Prop}
    (hc : X.calm = true) (hco : ge.scope.isCoroutine = false) (I3 : Inv X pins σ H3 s3) (f3 : ∀ b ∈ fp, FpOk X pins H3 b) (T : Turn X.prog X.w X.K tg J fp it tn) (hgo : ∀ h : Heap, h.get? a = some go → h.IsGen a g) (ha : a ∉ fp)
    (hov : B0.over (.compLoop (.GeneratorExp elt [⟨tg, iter, [], 0⟩] scope pos) 0 (.ref it) .none ge) [] = B)
    (pg : PG (X.gx s3 H3 ge B fp [(a, go)]) tg gg) (pe : PE (X.gx s3 H3 ge B fp [(a, go)]) elt te)
    (hSs : ∀ S ∈ Ss, s3.heap.objs.size ≤ S ∧ S ≠ ge.locals ∧ (∀ x c, ge.cells.lookup x = some c → c ≠ S) ∧ S ∉ fp ∧ a ≠ S)
    (turn : ∀ i m c H, W i m c H → (J.stop i H ∧ fin c H) ∨ (J.go i H ∧ ∃ Nx : C → Hp → Prop, (∀ c' H', Nx c' H' → ∃ m', m' < m ∧ W (i + 1) m' c' H') ∧ ∀ x H', J.yld i H x H' → gg x (wipe σ (own.map (·.2))) H' fun σ2 H2 =>
      wipe σ2 (own.map (·.2)) = wipe σ (own.map (·.2)) ∧ te σ2 H2 fun y H4 => step c y H4 fun c' => Nx c' H4)) :
    ∀ (n m i : Nat) (c : C) (s₀ s : Shared) (H : Hp), m < n → W i m c H → Ck c s₀ → Inv (X.gx s3 H3 ge B fp [(a, go)]) (pinsAt Ss s₀.heap) (wipe σ (own.map (·.2))) H s → tn i s.heap → (∀ b ∈ fp, H b = none) → (∀ S ∈ Ss, ∃ o, s₀.heap.get? S = some o) →
      Seg (model X.prog X.w) B0 (GxEnd (GxE X pins σ Ss Ck fin)) (GxY X pins σ Ss Ck step a g) n s₀ (.compLoop (.GeneratorExp elt [⟨tg, iter, [], 0⟩] scope pos) 0 (.ref it) .none ge)
        ((model X.prog X.w).den (.compLoop (.GeneratorExp elt [⟨tg, iter, [], 0⟩] scope pos) 0 (.ref it) .none ge)) [] s := by
  -- what stands outside
  have out : ∀ {hp : List (Addr × Obj)} {σ' : St} {H' : Hp} {s' : Shared}, Inv (X.gx s3 H3 ge B fp [(a, go)]) hp σ' H' s' → Inv X pins σ H' s' ∧ s'.heap.IsGen a g := fun {hp σ' H' s'} I' =>
    ⟨I3.call' (ch := fp) I'.os I'.base I'.hok I'.bare fun b hb => ⟨(f3 b hb).2.2.2.1, (f3 b hb).2.1, (f3 b hb).2.2.2.2.1, (f3 b hb).2.2.2.2.2⟩, hgo _ (I'.pin (a, go) (List.mem_append_left _ List.mem_cons_self)).1⟩
  have stat : ∀ {hp : List (Addr × Obj)} {σ' : St} {H' : Hp} {s' : Shared} (s₀ : Shared), hp = pinsAt Ss s₀.heap → Inv (X.gx s3 H3 ge B fp [(a, go)]) hp σ' H' s' → (∀ b ∈ fp, H' b = none) → ∀ b ∈ fp, FpOk (X.gx s3 H3 ge B fp [(a, go)]) hp H' b := fun {hp σ' H' s'} s₀ e I' hn b hb =>
    ⟨hn b hb, (I'.ok.exf b hb).1, I'.ok.exfs b hb, .inl hb, fun x c e => (I'.ok.exf b hb).2 x c e, fun p hp' z => by
      rcases List.mem_append.mp hp' with q | q
      · rw [List.mem_singleton.mp q] at z
        exact ha (by rw [show a = b from z]; exact hb)
      · rw [e] at q
        exact (hSs p.1 (of_pinsAt q).1).2.2.2.1 (by rw [z]; exact hb)⟩
  intro n
  induction n with
  | zero => intro m i c s₀ s H hm; exact absurd hm (Nat.not_lt_zero _)
  | succ n ih =>
    intro m i c s₀ s H hm hw hck I5 st5 n5 h0
    show Seg _ B0 _ _ _ s₀ _ ((compTurn (.GeneratorExp elt [⟨tg, iter, [], 0⟩] scope pos) 0 (.ref it) .none ge).onRaise (leaving ge)) [] s
    rw [compTurn_gen, Sem.onRaise_eq_wrap]
    refine seg_bind_wrap (wpAny_standAt ?_)
    have same : ∀ {ip : List (Addr × Obj)} {σ' : St} {H' : Hp} {s' : Shared}, Inv (X.gx s3 H3 ge B fp [(a, go)]) (pinsAt Ss s₀.heap ++ ip) σ' H' s' → SameAt Ss H' s₀ s' := fun {ip σ' H' s'} I' S hS =>
      ⟨(h0 S hS).elim fun o e => (I'.pin (S, o) (List.mem_append_right _ (List.mem_append_left _ (mem_pinsAt hS e)))).2.1, fun o e => (I'.pin (S, o) (List.mem_append_right _ (List.mem_append_left _ (mem_pinsAt hS e)))).1⟩
    rcases turn i m c H hw with ⟨stop, qq⟩ | ⟨gone, Nx, hNx, stp⟩
    · refine seg_bind_wrap ?_
      rw [hov]
      refine thnF (T.done (X.gx s3 H3 ge B fp [(a, go)]) rfl rfl rfl hc i _ s _ H (fun _ _ => False) I5 (stat s₀ rfl I5 n5) st5 stop) fun r s6 ⟨hr, I6⟩ => ?_
      subst hr
      exact seg_end (.ok .next) ⟨rfl, c, H, hck, (out I6).1, same (ip := []) (by rw [List.append_nil]; exact I6), qq⟩
    · refine seg_bind_wrap ?_
      rw [hov]
      refine thnF (T.item (X.gx s3 H3 ge B fp [(a, go)]) rfl rfl rfl hc i _ s _ H (fun _ _ => False) I5 (stat s₀ rfl I5 n5) st5 gone) fun r s6 ⟨u, hr, h6⟩ => ?_
      subst hr
      refine seg_bind_wrap ?_
      rw [hov]
      refine thnF h6 fun _ s7 ⟨x, H7, I7, r7, y7, st7, n7⟩ => ?_
      have I7' := I7.pinned (stat s₀ rfl I7 n7) (T.obj _ _ st7)
      refine seg_bind_wrap ?_
      rw [hov]
      refine thnF (pg.run _ s7 _ H7 x u _ I7' r7 (stp x H7 y7)) fun _ s8 ⟨σ8, H8, I8, hw8, q8⟩ => ?_
      refine seg_bind_wrap (wpAny_tests_nil ?_)
      rw [if_pos rfl]
      have hy : ∀ v, yieldOut ge v = yieldValue v := fun v => by simp only [yieldOut, hco, Bool.false_eq_true, if_false]
      simp only [hy]
      rw [Sem.bind_eq_wrap', Sem.bind_eq_wrap', Sem.wrap_wrap, Sem.wrap_wrap]
      refine seg_wrap ?_
      rw [hov]
      refine thnF (pe.run _ s8 σ8 H8 _ I8 q8) fun v s9 ⟨y, H9, I9, r9, q9⟩ => ?_
      refine seg_at (seg_yield rfl rfl rfl ⟨c, y, H9, _, hck, r9, (out I9).1, (out I9).2, same I9, q9, fun c' s10 nap ck' nx => ?_⟩)
      obtain ⟨m', hm', w'⟩ := hNx c' H9 nx
      have I10 := I9.awake h0 (fun S hS => ⟨(hSs S hS).1, (hSs S hS).2.1, (hSs S hS).2.2.1, fun p hp z => by
        rcases List.mem_append.mp hp with q | q
        · rw [List.mem_singleton.mp q] at z
          exact (hSs S hS).2.2.2.2 z
        · exact (hSs S hS).2.2.2.1 (by rw [← z]; exact (of_pinsAt q).1)⟩) nap
      have pin' : ∀ b ∈ fp, ∀ o, s7.heap.get? b = some o → s10.heap.get? b = some o ∧ H9 b = none := fun b hb o e =>
        let z := I10.pin (b, o) (List.mem_append_right _ (List.mem_append_right _ (mem_pinsAt hb e)))
        ⟨z.1, z.2.1⟩
      refine seg_again rfl (ih m' (i + 1) c' s10 s10 H9 (by omega) w' ck' ((I10.unpinned).weak (by rw [← hw8, wipe_length]) fun j v e => by rw [← hw8] at e; exact (wipe_some e).1) (T.keep _ _ _ st7 fun b hb o e => (pin' b hb o e).1) (fun b hb => ?_) fun S hS => ?_)
      · obtain ⟨o, e, _⟩ := T.obj _ _ st7 b hb
        exact (pin' b hb o e).2
      · obtain ⟨o, e, _⟩ := nap.own S hS
        exact ⟨o, e⟩
end L2
namespace L2
open PySem PySem.Spec PyProof.Rows GenW
theorem Inv.calm' {X : Cx} {pins : List (Addr × Obj)} {σ : St} {H : Hp} {s s' : Shared} (I : Inv X pins σ H s) (os : s'.os = s.os) (bare : AllBare s'.gens) (kp : ∀ b o, s.heap.get? b = some o → s'.heap.get? b = some o) : Inv X pins σ H s' :=
  I.call' (ch := []) os (Un.kept kp) (I.hok.kept kp) bare fun b hb => absurd hb (by simp)
/-- the consumer's turns, from the first one on -/
def GxI {C : Type} (J : It) (gg : TG) (te : TE) (vs : List Nat) (σ : St) (H0 : Hp) (c0 : C) (fin : C → Hp → Prop) (step : C → V → Hp → (C → Prop) → Prop) : Prop :=
  ∃ W : Nat → Nat → C → Hp → Prop, (∃ m, W 0 m c0 H0) ∧ ∀ i m c H, W i m c H → (J.stop i H ∧ fin c H) ∨ (J.go i H ∧ ∃ Nx : C → Hp → Prop, (∀ c' H', Nx c' H' → ∃ m', m' < m ∧ W (i + 1) m' c' H') ∧
    ∀ x H', J.yld i H x H' → gg x (wipe σ vs) H' fun σ2 H2 => wipe σ2 vs = wipe σ vs ∧ te σ2 H2 fun y H4 => step c y H4 fun c' => Nx c' H4)
/-- at a stands a generator that has not begun -/
def GxMade (X : Cx) (pins : List (Addr × Obj)) (σ : St) (elt tg iter : Expr) (scope : Scope) (pos : Pos) (Rr : It → Hp → Prop) (a : Addr) (s5 : Shared) : Prop :=
  ∃ (g : Nat) (go : Obj) (it : Addr) (fp : List Addr) (tn : Nat → Heap → Prop) (J : It) (H2 : Hp) (s4 : Shared) (code : Value) (m : Str → Option Value),
    Inv X pins σ H2 s4 ∧ (∀ b ∈ fp, FpOk X pins H2 b ∧ b < s4.heap.objs.size) ∧ Turn X.prog X.w X.K tg J fp it tn ∧ tn 0 s4.heap ∧ Rr J H2 ∧ (∀ h : Heap, h.get? a = some go → h.IsGen a g) ∧ (∀ v, go.data ≠ .cell v) ∧
    s5.heap.get? a = some go ∧ s4.heap.objs.size < a ∧ s5.gens[g]? = some (.fresh (.compStart (.GeneratorExp elt [⟨tg, iter, [], 0⟩] scope pos) 0 (.ref it) .none (genEnv scope (cloFrom X.env.cells scope.names []) s4.heap.objs.size code builtinsNs X.env))) ∧
    s5.os = s4.os ∧ AllBare s5.gens ∧ (∀ b o, s4.heap.get? b = some o → s5.heap.get? b = some o) ∧ s5.heap.Ns s4.heap.objs.size m
/-- a generator expression's scope: .0 the walked thing; no cells of its own -/
structure GxS (scope : Scope) : Prop where
  co : scope.isCoroutine = false
  cell : ∀ y ∈ scope.names, y.2 ≠ .cell
  dot : scope.names.lookup (".0" : Str) = some NameKind.local
def gxC (scope : Scope) : Bool := (!scope.isCoroutine) && (scope.names.all fun y => match y.2 with | .cell => false | _ => true) && decide (scope.names.lookup (".0" : Str) = some NameKind.local)
theorem gxS_by {scope : Scope} (h : gxC scope = true) : GxS scope := by
  unfold gxC at h
  simp only [Bool.and_eq_true, List.all_eq_true, decide_eq_true_eq, Bool.not_eq_true'] at h
  refine ⟨h.1.1, fun y hy e => ?_, h.2⟩
  have q := h.1.2 y hy
  rw [e] at q
  cases q
theorem gx_eval {X : Cx} {pins : List (Addr × Obj)} {σ : St} {H : Hp} {s : Shared} {k : Nat} {c P : Addr} {elt tg iter : Expr} {scope : Scope} {gpos : Pos} {own : List (Str × Nat)} {wi : TI} {Rr : It → Hp → Prop} {Q' : Value → Shared → Prop}
    (hr : Room k X.A) (TB : GxR.TabB X.base X.mg c P) (hcode : X.env.code = .ref c) (ok : BlkOk X.N X.env.scope scope own) (S : GxS scope) (hi : PI X tg iter wi) (hs : ∀ v, genFold iter X.env v = pure v)
    (I : Inv X pins σ H s) (h : wi σ H fun J H1 => GxR.TabG H1 P ∧ ∀ H2, GxR.Tabbed P H1 H2 → Rr J H2) (hQ : ∀ a s5, GxMade X pins σ elt tg iter scope gpos Rr a s5 → Q' (.ref a) s5) :
    wpAny (model X.prog X.w) X.A (eval (.GeneratorExp elt [⟨tg, iter, [], 0⟩] scope gpos) X.env) Q' X.xe s := by
  have gf : ∀ y ∈ scope.names, y.2 = .free → ∃ c, X.env.cells.lookup y.1 = some c := fun y hy e => (ok.free y hy e).elim (fun k => I.ok.has _ (.inl k)) (fun k => I.ok.has _ (.inr k))
  refine wpAny_GeneratorExp_make S.co (closure_ok gf) S.cell S.dot ok.kind (by have := hr.dp; omega) (thn (hi.run pins s σ H _ I h) fun xv s1 hx => thn hx fun itv s2 h2 => ?_) hs
  obtain ⟨it, fp, tn, J, H1, e, I2, T, st2, f2, ⟨ps, hP, ht⟩, q⟩ := h2
  subst e
  have hPs : s2.heap.get? P = some { cls := .none, data := .fields ps } := I2.hok P _ hP
  have cd : PySem.W.CodeHd s2.heap c P := TB.code.keeps I2.bk
  have nP : ∀ b ∈ fp, b ≠ P := fun b hb z => by
    have := (f2 b hb).1
    rw [z, hP] at this
    cases this
  have lt2 : ∀ b ∈ fp, b < s2.heap.objs.size := fun b hb => by
    obtain ⟨o, e, _⟩ := T.obj _ _ st2 b hb
    exact Heap.lt_size e
  refine ⟨I2.nolimit, ?_⟩
  have cont : ∀ (code : Value) (h3 : Heap) (tk : Nat) (H2 : Hp), GxR.Tabbed P H1 H2 → Inv X pins σ H2 { s2 with heap := h3, toks := tk } → (∀ b o, b ≠ P → s2.heap.get? b = some o → h3.get? b = some o) → s2.heap.objs.size ≤ h3.objs.size →
      wpAny (model X.prog X.w) X.A (builtinsFor X.env.globals X.env.builtins) (fun bi s₄ => ∀ h', h'.Ns s₄.heap.objs.size (fun y => if y = ".0" then some (.ref it) else none) → Heap.SameBut s₄.heap.objs.size (s₄.heap.push { cls := .type "frame", data := .dict #[] }) h' →
        Q' (.ref h'.objs.size) { s₄ with
          gens := s₄.gens.push (.fresh (.compStart (.GeneratorExp elt [⟨tg, iter, [], 0⟩] scope gpos) 0 (.ref it) .none (genEnv scope (cloFrom X.env.cells scope.names []) s₄.heap.objs.size code bi X.env))), toks := s₄.toks + 1 + 1 + 1,
          heap := h'.push { cls := .type "generator", data := .fields #[.int s₄.gens.size 0, .str "<genexpr>" (s₄.toks + 1), .str (X.env.qual ++ "<genexpr>") (s₄.toks + 1 + 1)] } }) X.xe { s2 with heap := h3, toks := tk } := by
    intro code h3 tk H2 hT J3 k3 sz3
    obtain ⟨bm, ob, e1, e2, e3, e4, e5, e6, e7, e8⟩ := TB.bm
    refine wpAny_builtinsFor (m := X.mg) (by rw [J3.ok.glob]; exact J3.mod.glob.keeps J3.bk) e1 e2 (J3.bk _ _ e5) e6 e7 e8 fun h' hn' hs' => ?_
    have sz' : h'.objs.size = h3.objs.size + 1 := by rw [hs'.1, Heap.size_push]
    have kp' : ∀ b o, h3.get? b = some o → h'.get? b = some o := fun b o e => hs'.extBut b o (Nat.ne_of_lt (Heap.lt_size e)) (Heap.get?_push_of_some _ e)
    refine hQ _ _ ⟨s2.gens.size, _, it, fp, tn, J, H2, { s2 with heap := h3, toks := tk }, code, _, J3, fun b hb => ⟨⟨?_, (f2 b hb).2⟩, Nat.lt_of_lt_of_le (lt2 b hb) sz3⟩, T, T.keep _ _ _ st2 fun b hb o e => k3 b o (nP b hb) e, q H2 hT,
      fun h e => ⟨_, _, _, e, rfl, rfl, rfl⟩, fun v z => (by cases z), Heap.get?_push_size _ rfl, ?_, Array.getElem?_push_size .., rfl, AllBare.push I2.bare rfl, fun b o e => Heap.get?_push_of_some _ (kp' b o e), hn'.push _⟩
    · rw [hT.2 b (nP b hb)]
      exact (f2 b hb).1
    · show h3.objs.size < h'.objs.size
      omega
  cases hf : codeAmong gpos ps.toList with
  | none =>
    refine wpAny_genexprCodeX hcode (cd.code hPs ht) (cd.tab hPs) hf fun c' h' tk hx hge hlt hco' _ htab' _ => ?_
    obtain ⟨o1, vs, f1, tf, fl, tg', inF, tx, tt, op, _, _, _, _, _, _, _, _, _, htr, _⟩ := hco'
    have JJ := GxR.inv_tab (h' := h') (g' := s2.gens) (d' := s2.drawn) (t' := tk) I2 hP (fun b o hb e => hx b o hb e) htab'.2 I2.bare
    exact cont _ h' tk _ ⟨⟨_, upd_same, htr⟩, fun b hb => upd_ne hb⟩ JJ (fun b o hb e => hx b o hb e) (Nat.le_trans hge (Nat.le_of_lt hlt))
  | some cv => exact wpAny_genexprCode_hit hcode (cd.code hPs ht) hf (cont cv s2.heap s2.toks H1 ⟨⟨ps, hP, ht⟩, fun _ _ => rfl⟩ I2 (fun _ _ _ e => e) (Nat.le_refl _))
end L2
namespace L2
open PySem PySem.Spec PyProof.Rows GenW
/-- the generator may be woken for the first time -/
theorem gx_goes {X : Cx} {pins : List (Addr × Obj)} {σ : St} {k : Nat} {C : Type} {Ck : C → Shared → Prop} {fin : C → Hp → Prop} {step : C → V → Hp → (C → Prop) → Prop} {elt tg iter : Expr} {scope : Scope} {gpos : Pos} {own : List (Str × Nat)} {gg : TG} {te : TE} {a : Addr} {s5 : Shared} {c0 : C} {B0 : Around}
    (hr : Room (k + 1) B0) (hB0 : B0.frames = X.A.frames) (hc : X.calm = true) (hN : X.N.Nodup) (ok : BlkOk X.N X.env.scope scope own) (S : GxS scope)
    (hg : ∀ (s : Shared) (H : Hp) (L : Addr) (cl : List (Str × Addr)) (cv : Value) (B : Around) (fp : List Addr) (pn : List (Addr × Obj)), Room k B → PG (X.gx s H (genEnv scope cl L cv builtinsNs X.env) B fp pn) tg gg)
    (he : ∀ (s : Shared) (H : Hp) (L : Addr) (cl : List (Str × Addr)) (cv : Value) (B : Around) (fp : List Addr) (pn : List (Addr × Obj)), Room k B → PE (X.gx s H (genEnv scope cl L cv builtinsNs X.env) B fp pn) elt te)
    (M : GxMade X pins σ elt tg iter scope gpos (fun J H2 => GxI J gg te (own.map (·.2)) σ H2 c0 fin step) a s5) :
    ∃ g H2, s5.heap.IsGen a g ∧ Inv X pins σ H2 s5 ∧ a < s5.heap.objs.size ∧ ∃ gs n, s5.gens[g]? = some gs ∧ ∀ (Ss : List Addr) (s6 : Shared), (∀ S ∈ Ss, s5.heap.objs.size ≤ S) → (∀ b o, s5.heap.get? b = some o → s6.heap.get? b = some o) → (∀ S ∈ Ss, ∃ o, s6.heap.get? S = some o ∧ ∀ v, o.data ≠ .cell v) →
      s6.os = s5.os → AllBare s6.gens → Ck c0 s6 → gs.Goes (model X.prog X.w) B0 (GxEnd (GxE X pins σ Ss Ck fin)) (GxY X pins σ Ss Ck step a g) n (.send .none) s6 := by
  obtain ⟨g, go, it, fp, tn, J, H2, s4, code, m, I4, f4, T, st4, ⟨W, ⟨m0, w0⟩, turn⟩, hgo, hgc, ea, la, hgs, os5, ba5, k45, ns5⟩ := M
  have J5 : Inv X pins σ H2 s5 := I4.calm' os5 ba5 k45
  refine ⟨g, H2, hgo _ ea, J5, Heap.lt_size ea, _, m0 + 1, hgs, fun Ss s6 hSs k56 own6 os6 ba6 ck => ⟨rfl, ?_⟩⟩
  generalize hge : genEnv scope (cloFrom X.env.cells scope.names []) s4.heap.objs.size code builtinsNs X.env = ge
  have hL : ge.locals = s4.heap.objs.size := by rw [← hge]; rfl
  have hcl : ge.cells = cloFrom X.env.cells scope.names [] := by rw [← hge]; rfl
  have lt45 : s4.heap.objs.size ≤ s5.heap.objs.size := Nat.le_of_lt (Nat.lt_trans la (Heap.lt_size ea))
  have fr : (B0.over (.compLoop (.GeneratorExp elt [⟨tg, iter, [], 0⟩] scope gpos) 0 (.ref it) .none ge) []).frames = some (ge :: X.stack) := by
    show pushEnvs [ge] (pushEnvs [] B0.frames) = _
    rw [hB0, I4.ok.frames]
    rfl
  have rm : Room k (B0.over (.compLoop (.GeneratorExp elt [⟨tg, iter, [], 0⟩] scope gpos) 0 (.ref it) .none ge) []) := hr.deeper ge
  have aft : a ∉ fp := fun z => absurd (Nat.lt_trans (f4 a z).2 la) (Nat.lt_irrefl _)
  have ccl : ∀ x c, ge.cells.lookup x = some c → c < s4.heap.objs.size := fun x c e => by
    rw [hcl] at e
    rcases cloFrom_mem (PySem.mem_of_lookup e) with hm | ⟨h1, rfl⟩
    · cases hm
    · obtain ⟨c, hc⟩ := (ok.free _ h1 rfl).elim (fun k => I4.ok.has _ (.inl k)) (fun k => I4.ok.has _ (.inr k))
      rw [hc]
      exact (I4.cell _ _ hc).elim fun _ z => z.lt
  have young : ∀ b, s4.heap.objs.size < b → H2 b = none ∧ b ≠ s4.heap.objs.size ∧ b ∉ frs X.stack := fun b hb => by
    refine ⟨I4.hok.fresh (Nat.le_of_lt hb), Nat.ne_of_gt hb, fun z => ?_⟩
    rcases List.mem_cons.mp (I4.stkSub b z) with z | z
    · rw [z] at hb
      exact absurd (Nat.lt_trans hb I4.lt) (Nat.lt_irrefl _)
    · exact I4.nofs (Nat.le_of_lt hb) z
  have I6 : Inv (X.gx s4 H2 ge (B0.over (.compLoop (.GeneratorExp elt [⟨tg, iter, [], 0⟩] scope gpos) 0 (.ref it) .none ge) []) fp [(a, go)]) (pinsAt Ss s6.heap) (wipe σ (own.map (·.2))) H2 s6 := by
    refine gx_start (m := m) I4 ok S.cell hN f4 fr rm.hd hge.symm (os6.trans os5) ba6 (fun b o e => k56 b o (k45 b o e)) (ns5.keeps k56) fun p hp => ?_
    rcases List.mem_append.mp hp with z | z
    · rw [List.mem_singleton.mp z]
      obtain ⟨y1, y2, y3⟩ := young a la
      exact ⟨k56 _ _ ea, y1, y2, y3, hgc⟩
    · obtain ⟨hb, e⟩ := of_pinsAt z
      obtain ⟨o, e', d⟩ := own6 _ hb
      rw [e] at e'; cases e'
      obtain ⟨y1, y2, y3⟩ := young p.1 (Nat.lt_of_lt_of_le (Nat.lt_trans la (Heap.lt_size ea)) (hSs _ hb))
      exact ⟨e, y1, y2, y3, d⟩
  have hco : ge.scope.isCoroutine = false := by rw [← hge]; exact S.co
  have loop := gx_loop (own := own) (elt := elt) (iter := iter) (scope := scope) (pos := gpos) (Ss := Ss) (Ck := Ck) (pins := pins) (B0 := B0) hc hco I4 (fun b hb => (f4 b hb).1) T hgo aft rfl (by rw [← hge]; exact hg _ _ _ _ _ _ _ _ (by rw [hge]; exact rm)) (by rw [← hge]; exact he _ _ _ _ _ _ _ _ (by rw [hge]; exact rm))
    (fun S hS => by
      have q := Nat.lt_of_lt_of_le (Heap.lt_size ea) (hSs S hS)
      refine ⟨Nat.le_of_lt (Nat.lt_trans la q), by rw [hL]; exact Nat.ne_of_gt (Nat.lt_trans la q), fun x c e z => ?_, fun z => ?_, Nat.ne_of_lt q⟩
      · have := ccl x c e
        rw [z] at this
        exact absurd (Nat.lt_trans this (Nat.lt_trans la q)) (Nat.lt_irrefl _)
      · exact absurd (Nat.lt_trans (f4 S z).2 (Nat.lt_trans la q)) (Nat.lt_irrefl _)) turn (m0 + 1) m0 0 c0 s6 s6 H2 (Nat.lt_succ_self _) w0 ck I6 (T.keep _ _ _ st4 fun b _ o e => k56 b o (k45 b o e)) (fun b hb => (f4 b hb).1.1) fun S hS => (own6 S hS).elim fun o e => ⟨o, e.1⟩
  show Seg _ B0 _ _ _ s6 _ ((compStart (.GeneratorExp elt [⟨tg, iter, [], 0⟩] scope gpos) 0 (.ref it) .none ge).onRaise (leaving ge)) [] s6
  unfold compStart; rw [Sem.onRaise_eq_wrap]
  show Seg _ B0 _ _ _ s6 _ ((ask >>= _).wrap _ _ _ _) [] s6
  refine seg_bind_wrap (wpAny_askSetting ?_); split
  · exact seg_again rfl loop
  · refine seg_bind_wrap (wpAny_rule ?_)
    first
      | exact seg_bind_wrap (wpAny_standAt (seg_bind_wrap (T.self _ 0 s6 _ _ (T.keep _ _ _ st4 fun b _ o e => k56 b o (k45 b o e)) (seg_again rfl loop))))
      | (show Seg _ B0 _ _ _ s6 _ ((standAt iter.pos >>= _).wrap _ _ _ _) [] s6; exact seg_bind_wrap (wpAny_standAt (seg_bind_wrap (T.self _ 0 s6 _ _ (T.keep _ _ _ st4 fun b _ o e => k56 b o (k45 b o e)) (seg_again rfl loop)))))
theorem allBare_set {s : Shared} {g : Nat} {x : GenState} (h : AllBare s.gens) (hx : x.bare = true) : AllBare (s.setGen g x).gens := fun y hy => by
  have hy : y ∈ s.gens.setIfInBounds g x := hy
  rcases Array.mem_or_eq_of_mem_setIfInBounds hy with z | z
  · exact h y z
  · rw [z]; exact hx
theorem setGen_got {s : Shared} {g : Nat} {x : GenState} (h : g < s.gens.size) : (s.setGen g x).gens[g]? = some x := by
  show (s.gens.setIfInBounds g x)[g]? = some x
  simp [h]
theorem nap0 {s s' : Shared} (h1 : s'.os = s.os) (h2 : AllBare s'.gens) (h3 : s'.heap = s.heap) : Nap [] s s' := ⟨h1, h2, fun b o _ e => by rw [h3]; exact e, fun S hS => absurd hS (by simp)⟩
def stepAny (Q : VK) : Unit → V → Hp → (Unit → Prop) → Prop := fun _ y H k => ∃ b, y = .bl b ∧ if b = true then Q (.bl true) H else k ()
def stepAll (Q : VK) : Unit → V → Hp → (Unit → Prop) → Prop := fun _ y H k => ∃ b, y = .bl b ∧ if b = true then k () else Q (.bl false) H
def stepSum : Int → V → Hp → (Int → Prop) → Prop := fun c y H k => ∃ i, y = .int i ∧ k (c + i)
section
variable {X : Cx} {pins : List (Addr × Obj)} {σ : St} {Q : VK} {A : Around} {a : Addr} {g : Nat}
theorem any_run (hh : A.handled = none) (hd : A.depth < recursionLimit) : ∀ (n : Nat) (s : Shared), s.heap.IsGen a g → s.heap.NoLimit →
    (∃ gs, s.gens[g]? = some gs ∧ gs.Goes (model X.prog X.w) A.in1.in1 (GxEnd (GxE X pins σ [] (fun (_ : Unit) _ => True) fun _ H => Q (.bl false) H)) (GxY X pins σ [] (fun (_ : Unit) _ => True) (stepAny Q) a g) n (.send .none) (s.setGen g .running)) →
    codeAny (model X.prog X.w) A (.builtin "any.loop" ⟨[.ref a], []⟩) (fun r s' => ∃ b H, r = .ok (.ret (.bool b)) ∧ Inv X pins σ H s' ∧ Q (.bl b) H) s := by
  intro n
  induction n with
  | zero =>
    rintro s hg hl ⟨gs, hgs, hgo⟩
    refine codeAny_builtin F.entry_any_loop ?_; rw [Around.under_plainId F.plain_any_loop _]; show wpAny _ A.in1 (pyNext (.ref a) >>= _) _ _ s; refine wpAny_bind (wpAny_pyNext_genexpQ (A := A.in1) hh hl hd hg hgs hgo (fun v s1 gs' hb hv => ?_) fun s1 hp h' hk => ?_)
    · obtain ⟨c, y, H, k, _, rv, J, hg1, _, ⟨b, rfl, q⟩, wake⟩ := hv
      obtain rfl : v = .bool b := rv
      refine wpAny_bind (wpAny_holding (wpAny_truthy_bool (wpAny_bind (wpAny_letGo ?_))))
      cases b with
      | true => exact wpAny_bind (wpAny_rule (wpAny_pure ⟨true, H, rfl, J.calm' rfl (allBare_set J.bare hb) fun _ _ e => e, q⟩))
      | false => exact (wake () s1 (nap0 rfl J.bare rfl) trivial q).elim
    · obtain ⟨c, H, _, J, _, q⟩ := hp
      exact wpAny_bind (wpAny_rule (wpAny_pure ⟨false, H, rfl, J.calm' rfl (allBare_set (s := s1) J.bare rfl) hk, q⟩))
  | succ n ih =>
    rintro s hg hl ⟨gs, hgs, hgo⟩
    have hgl : g < s.gens.size := (Array.getElem?_eq_some_iff.mp hgs).1
    refine codeAny_builtin F.entry_any_loop ?_; rw [Around.under_plainId F.plain_any_loop _]; show wpAny _ A.in1 (pyNext (.ref a) >>= _) _ _ s; refine wpAny_bind (wpAny_gsz (n := g + 1) hgl (wpAny_pyNext_genexpQ (A := A.in1) hh hl hd hg hgs hgo (fun v s1 gs' hb hv hsz => ?_) fun s1 hp h' hk hsz => ?_))
    · obtain ⟨c, y, H, k, _, rv, J, hg1, _, ⟨b, rfl, q⟩, wake⟩ := hv
      obtain rfl : v = .bool b := rv
      refine wpAny_bind (wpAny_holding (wpAny_truthy_bool (wpAny_bind (wpAny_letGo ?_))))
      cases b with
      | true => exact wpAny_bind (wpAny_rule (wpAny_pure ⟨true, H, rfl, J.calm' rfl (allBare_set J.bare hb) fun _ _ e => e, q⟩))
      | false =>
        have hsz' : g < s1.gens.size := by rw [setGen_size] at hsz; exact hsz
        exact wpAny_pure ⟨plainId_quiet F.plain_any_loop _, ih (s1.setGen g gs') hg1 J.nolimit ⟨gs', setGen_got hsz', wake () _ (nap0 rfl (allBare_set (s := s1.setGen g gs') (allBare_set J.bare hb) rfl) rfl) trivial q⟩⟩
    · obtain ⟨c, H, _, J, _, q⟩ := hp
      exact wpAny_bind (wpAny_rule (wpAny_pure ⟨false, H, rfl, J.calm' rfl (allBare_set (s := s1) J.bare rfl) hk, q⟩))
end
end L2
namespace L2
open PySem PySem.Spec PyProof.Rows GenW
section
variable {X : Cx} {pins : List (Addr × Obj)} {σ : St} {Q : VK} {A : Around} {a : Addr} {g : Nat}
theorem all_run (hh : A.handled = none) (hd : A.depth < recursionLimit) : ∀ (n : Nat) (s : Shared), s.heap.IsGen a g → s.heap.NoLimit →
    (∃ gs, s.gens[g]? = some gs ∧ gs.Goes (model X.prog X.w) A.in1.in1 (GxEnd (GxE X pins σ [] (fun (_ : Unit) _ => True) fun _ H => Q (.bl true) H)) (GxY X pins σ [] (fun (_ : Unit) _ => True) (stepAll Q) a g) n (.send .none) (s.setGen g .running)) →
    codeAny (model X.prog X.w) A (.builtin "all.loop" ⟨[.ref a], []⟩) (fun r s' => ∃ b H, r = .ok (.ret (.bool b)) ∧ Inv X pins σ H s' ∧ Q (.bl b) H) s := by
  intro n
  induction n with
  | zero =>
    rintro s hg hl ⟨gs, hgs, hgo⟩
    refine codeAny_builtin F.entry_all_loop ?_; rw [Around.under_plainId F.plain_all_loop _]; show wpAny _ A.in1 (pyNext (.ref a) >>= _) _ _ s; refine wpAny_bind (wpAny_pyNext_genexpQ (A := A.in1) hh hl hd hg hgs hgo (fun v s1 gs' hb hv => ?_) fun s1 hp h' hk => ?_)
    · obtain ⟨c, y, H, k, _, rv, J, hg1, _, ⟨b, rfl, q⟩, wake⟩ := hv
      obtain rfl : v = .bool b := rv
      refine wpAny_bind (wpAny_holding (wpAny_truthy_bool (wpAny_bind (wpAny_letGo ?_))))
      cases b with
      | false => exact wpAny_bind (wpAny_rule (wpAny_pure ⟨false, H, rfl, J.calm' rfl (allBare_set J.bare hb) fun _ _ e => e, q⟩))
      | true => exact (wake () s1 (nap0 rfl J.bare rfl) trivial q).elim
    · obtain ⟨c, H, _, J, _, q⟩ := hp
      exact wpAny_bind (wpAny_rule (wpAny_pure ⟨true, H, rfl, J.calm' rfl (allBare_set (s := s1) J.bare rfl) hk, q⟩))
  | succ n ih =>
    rintro s hg hl ⟨gs, hgs, hgo⟩
    have hgl : g < s.gens.size := (Array.getElem?_eq_some_iff.mp hgs).1
    refine codeAny_builtin F.entry_all_loop ?_; rw [Around.under_plainId F.plain_all_loop _]; show wpAny _ A.in1 (pyNext (.ref a) >>= _) _ _ s; refine wpAny_bind (wpAny_gsz (n := g + 1) hgl (wpAny_pyNext_genexpQ (A := A.in1) hh hl hd hg hgs hgo (fun v s1 gs' hb hv hsz => ?_) fun s1 hp h' hk hsz => ?_))
    · obtain ⟨c, y, H, k, _, rv, J, hg1, _, ⟨b, rfl, q⟩, wake⟩ := hv
      obtain rfl : v = .bool b := rv
      refine wpAny_bind (wpAny_holding (wpAny_truthy_bool (wpAny_bind (wpAny_letGo ?_))))
      cases b with
      | false => exact wpAny_bind (wpAny_rule (wpAny_pure ⟨false, H, rfl, J.calm' rfl (allBare_set J.bare hb) fun _ _ e => e, q⟩))
      | true =>
        have hsz' : g < s1.gens.size := by rw [setGen_size] at hsz; exact hsz
        exact wpAny_pure ⟨plainId_quiet F.plain_all_loop _, ih (s1.setGen g gs') hg1 J.nolimit ⟨gs', setGen_got hsz', wake () _ (nap0 rfl (allBare_set (s := s1.setGen g gs') (allBare_set J.bare hb) rfl) rfl) trivial q⟩⟩
    · obtain ⟨c, H, _, J, _, q⟩ := hp
      exact wpAny_bind (wpAny_rule (wpAny_pure ⟨true, H, rfl, J.calm' rfl (allBare_set (s := s1) J.bare rfl) hk, q⟩))

/-- the sum so far, in the consumer's own list at S -/
def SumAt (S : Addr) (c : Int) (s : Shared) : Prop := ∃ (t : Tok) (n : Nat), s.heap.get? S = some { cls := .type "list", dict := none, data := .seq #[.int c t] n, slots := #[] }
theorem sum_run {S : Addr} (hh : A.handled = none) (hd : A.depth < recursionLimit) (hSa : S ≠ a) (hSc : S ≠ cStatics) (hf : ∀ H', H' S = none → FpOk X pins H' S) : ∀ (n : Nat) (s : Shared) (c : Int) (st : Int), (st = 0 ∨ st = 2) → s.heap.IsGen a g → s.heap.NoLimit → SumAt S c s →
    (∃ gs, s.gens[g]? = some gs ∧ gs.Goes (model X.prog X.w) A.in1.in1 (GxEnd (GxE X pins σ [S] (SumAt S) fun c H => Q (.int c) H)) (GxY X pins σ [S] (SumAt S) stepSum a g) n (.send .none) (s.setGen g .running)) →
    codeAny (model X.prog X.w) A (.builtin "sum.loop" ⟨[.ref a, .ref S, rawInt st, rawInt 0], []⟩) (fun r s' => ∃ i t H, r = .ok (.ret (.int i t)) ∧ Inv X pins σ H s' ∧ Q (.int i) H) s := by
  have sat : ∀ {c c' : Int} {s s' : Shared}, s'.heap = s.heap → SumAt S c s → SumAt S c' s' → c' = c := fun {c c' s s'} e h h' => by
    obtain ⟨t, n, e1⟩ := h
    obtain ⟨t', n', e2⟩ := h'
    rw [e, e1] at e2
    cases e2
    rfl
  intro n
  induction n with
  | zero =>
    rintro s c st hst hg hl hS ⟨gs, hgs, hgo⟩
    obtain ⟨tA, cc, eS⟩ := id hS
    refine codeAny_builtin F.entry_sum_loop ?_; rw [Around.under_plainId F.plain_sum_loop _]; show wpAny _ A.in1 (seqItems? (.ref S) >>= _) _ _ s; refine wpAny_bind (wpAny_seqItems eS rfl ?_)
    show wpAny _ A.in1 (tryCatch (pyNext (.ref a)) _ >>= _) _ _ s; refine wpAny_bind (wpAny_tryCatch (wpAny_pyNext_genexpQ (A := A.in1) hh hl hd hg hgs hgo (fun v s1 gs' hb hv => ?_) fun s1 hp h' hk => ?_))
    · obtain ⟨c', y, H, k, hck, rv, J, hg1, sm, ⟨i, rfl, q⟩, wake⟩ := hv
      have sc : c' = c := sat rfl hS hck
      subst sc
      obtain ⟨hn, sm⟩ := sm S List.mem_cons_self
      have eS1 := sm _ eS
      refine (wake (c' + i) { s1 with heap := s1.heap.update S (Obj.mapSeq fun _ => #[.int (c' + i) 0]) } ⟨rfl, J.bare, fun b o hb e => ?_, fun S' hS' => ?_⟩ ⟨0, _, Heap.get?_update_self _ eS1 rfl⟩ q).elim
      · exact (Heap.get?_update_other _ _ (fun z : S = b => hb (by rw [z]; exact List.mem_cons_self))).trans e
      · rw [List.mem_singleton.mp hS']
        exact ⟨_, Heap.get?_update_self _ eS1 rfl, fun v z => by cases z⟩
    · obtain ⟨c', H, hck, J, _, q⟩ := hp
      have sc : c' = c := sat rfl hS hck
      subst sc
      exact wpAny_pure ⟨c', tA, H, rfl, J.calm' rfl (allBare_set (s := s1) J.bare rfl) hk, q⟩
  | succ n ih =>
    rintro s c st hst hg hl hS ⟨gs, hgs, hgo⟩
    obtain ⟨tA, cc, eS⟩ := id hS
    have hgl : g < s.gens.size := (Array.getElem?_eq_some_iff.mp hgs).1
    refine codeAny_builtin F.entry_sum_loop ?_; rw [Around.under_plainId F.plain_sum_loop _]; show wpAny _ A.in1 (seqItems? (.ref S) >>= _) _ _ s; refine wpAny_bind (wpAny_seqItems eS rfl ?_)
    show wpAny _ A.in1 (tryCatch (pyNext (.ref a)) _ >>= _) _ _ s; refine wpAny_bind (wpAny_tryCatch (wpAny_gsz (n := g + 1) hgl (wpAny_pyNext_genexpQ (A := A.in1) hh hl hd hg hgs hgo (fun v s1 gs' hb hv hsz => ?_) fun s1 hp h' hk hsz => ?_)))
    · obtain ⟨c', y, H, k, hck, rv, J, hg1, sm, ⟨i, rfl, q⟩, wake⟩ := hv
      have sc : c' = c := sat rfl hS hck
      subst sc
      obtain ⟨hn, sm⟩ := sm S List.mem_cons_self
      have eS1 := sm _ eS
      obtain ⟨t, rfl⟩ : ∃ t, v = .int i t := rv
      have hsz' : g < s1.gens.size := by rw [setGen_size] at hsz; exact hsz
      have fin : ∀ (h' : Heap) (tk : Nat) (st' : Int), (st' = 0 ∨ st' = 2) → (∀ b o, b ≠ S → s1.heap.get? b = some o → h'.get? b = some o) → SumAt S (c' + i) { s1.setGen g gs' with heap := h', toks := tk } →
          codeAny (model X.prog X.w) A (.builtin "sum.loop" ⟨[.ref a, .ref S, rawInt st', rawInt 0], []⟩) (fun r s' => ∃ i t H, r = .ok (.ret (.int i t)) ∧ Inv X pins σ H s' ∧ Q (.int i) H) { s1.setGen g gs' with heap := h', toks := tk } := fun h' tk st' hs2 k2 sm2 => by
        obtain ⟨f0, f1, f2, f3, f4, f5⟩ := hf H hn
        have J2 : Inv X pins σ H { s1.setGen g gs' with heap := h', toks := tk } := (J.calm' (s' := s1.setGen g gs') rfl (allBare_set J.bare hb) fun _ _ e => e).turned (t' := tk) k2 f0 f1 f3 f4 f5
        refine ih _ (c' + i) st' hs2 ?_ J2.nolimit sm2 ⟨gs', setGen_got hsz', wake (c' + i) _ ⟨rfl, allBare_set (s := { s1.setGen g gs' with heap := h', toks := tk }) (allBare_set J.bare hb) rfl, fun b o hb e => k2 b o (fun z => hb (by rw [z]; exact List.mem_cons_self)) e, fun S' hS' => ?_⟩ sm2 q⟩
        · obtain ⟨o, nm, qn, ho, r⟩ := hg1
          exact ⟨o, nm, qn, k2 a o (Ne.symm hSa) ho, r⟩
        · obtain ⟨t2, n2, e2⟩ := sm2
          rw [List.mem_singleton.mp hS']
          exact ⟨_, e2, fun v z => by cases z⟩
      have other : ∀ (h : Heap) (f : Obj → Obj) (b : Addr) (o : Obj), b ≠ S → h.get? b = some o → (h.update S f).get? b = some o := fun h f b o hb e => (Heap.get?_update_other _ _ (Ne.symm hb)).trans e
      rcases hst with rfl | rfl
      · show wpAny _ A.in1 (if (_ : Bool) = true then (mkInt (c' + i) >>= _) else _) _ _ _
        split
        · refine wpAny_bind (wpAny_mkInt ?_); show wpAny _ A.in1 (updateSeq S (fun _ => #[.int (c' + i) s1.toks]) >>= _) _ _ _
          refine wpAny_bind (wpAny_updateSeq eS1 rfl (wpAny_pure ⟨plainId_quiet F.plain_sum_loop _, fin _ _ 0 (.inl rfl) (fun b o hb e => other _ _ b o hb e) ⟨_, _, Heap.get?_update_self _ eS1 rfl⟩⟩))
        · refine wpAny_bind (wpAny_rule (wpAny_bind (wpAny_attempt (wpAny_holding (wpAny_add_int ?_))))); show wpAny _ A.in1 (updateSeq S (fun _ => #[.int (c' + i) s1.toks]) >>= _) _ _ _
          have eS2 := Heap.get?_update_self (Obj.mapSeq fun _ => #[Value.int (c' + i) s1.toks]) eS1 rfl
          refine wpAny_bind (wpAny_updateSeq eS1 rfl (wpAny_bind (wpAny_letGo (wpAny_bind (wpAny_updateSeq eS2 rfl (wpAny_pure ⟨plainId_quiet F.plain_sum_loop _, fin _ _ 2 (.inr rfl) (fun b o hb e => other _ _ b o hb (other _ _ b o hb e)) ⟨_, _, Heap.get?_update_self _ eS2 rfl⟩⟩))))))
      · show wpAny _ A.in1 ((holding [Value.int i t] (binaryOp .Add (.int c' tA) (.int i t))).attempt >>= _) _ _ _
        refine wpAny_bind (wpAny_attempt (wpAny_holding (wpAny_add_int ?_))); show wpAny _ A.in1 (updateSeq S (fun _ => #[.int (c' + i) s1.toks]) >>= _) _ _ _
        have eS2 := Heap.get?_update_self (Obj.mapSeq fun _ => #[Value.int (c' + i) s1.toks]) eS1 rfl
        refine wpAny_bind (wpAny_updateSeq eS1 rfl (wpAny_bind (wpAny_letGo (wpAny_bind (wpAny_updateSeq eS2 rfl (wpAny_pure ⟨plainId_quiet F.plain_sum_loop _, fin _ _ 2 (.inr rfl) (fun b o hb e => other _ _ b o hb (other _ _ b o hb e)) ⟨_, _, Heap.get?_update_self _ eS2 rfl⟩⟩))))))
    · obtain ⟨c', H, hck, J, _, q⟩ := hp
      have sc : c' = c := sat rfl hS hck
      subst sc
      exact wpAny_pure ⟨c', tA, H, rfl, J.calm' rfl (allBare_set (s := s1) J.bare rfl) hk, q⟩
end
end L2
namespace L2
open PySem PySem.Spec PyProof.Rows GenW
/-- any(..), all(..), sum(..) of a generator expression of one clause; P: the table of the def's code object -/
def tAnyG (P : Addr) (wi : TI) (gg : TG) (te : TE) (vs : List Nat) : TE := fun σ H Q => wi σ H fun J H1 => GxR.TabG H1 P ∧ ∀ H2, GxR.Tabbed P H1 H2 → GxI J gg te vs σ H2 () (fun _ H' => Q (.bl false) H') (stepAny Q)
def tAllG (P : Addr) (wi : TI) (gg : TG) (te : TE) (vs : List Nat) : TE := fun σ H Q => wi σ H fun J H1 => GxR.TabG H1 P ∧ ∀ H2, GxR.Tabbed P H1 H2 → GxI J gg te vs σ H2 () (fun _ H' => Q (.bl true) H') (stepAll Q)
def tSumG (P : Addr) (wi : TI) (gg : TG) (te : TE) (vs : List Nat) : TE := fun σ H Q => wi σ H fun J H1 => GxR.TabG H1 P ∧ ∀ H2, GxR.Tabbed P H1 H2 → GxI J gg te vs σ H2 (0 : Int) (fun c H' => Q (.int c) H') stepSum
section
variable {X : Cx} {k : Nat} {c P : Addr} {elt tg iter : Expr} {scope : Scope} {gpos p pos : Pos} {own : List (Str × Nat)} {wi : TI} {gg : TG} {te : TE}
theorem pe_anyG (hr : Room (k + 2) X.A) (hc : X.calm = true) (hN : X.N.Nodup) (TB : GxR.TabB X.base X.mg c P) (hcode : X.env.code = .ref c) (hm : X.mg "any" = none) (ok : BlkOk X.N X.env.scope scope own) (S : GxS scope) (hi : PI X tg iter wi)
    (hg : ∀ (s : Shared) (H : Hp) (L : Addr) (cl : List (Str × Addr)) (cv : Value) (B : Around) (fp : List Addr) (pn : List (Addr × Obj)), Room k B → PG (X.gx s H (genEnv scope cl L cv builtinsNs X.env) B fp pn) tg gg)
    (he : ∀ (s : Shared) (H : Hp) (L : Addr) (cl : List (Str × Addr)) (cv : Value) (B : Around) (fp : List Addr) (pn : List (Addr × Obj)), Room k B → PE (X.gx s H (genEnv scope cl L cv builtinsNs X.env) B fp pn) elt te)
    (hgl : Gl X "any" := by rfl) (hs : ∀ v, genFold iter X.env v = pure v := by intro _; rfl)
    (hst : starEach [.GeneratorExp elt [⟨tg, iter, [], 0⟩] scope gpos] X.env = (false, eval (.GeneratorExp elt [⟨tg, iter, [], 0⟩] scope gpos) X.env) :: starEach [] X.env := by rfl) :
    PE X (.Call (.Name "any" p) [.GeneratorExp elt [⟨tg, iter, [], 0⟩] scope gpos] [] pos) (tAnyG P wi gg te (own.map (·.2))) := by
  refine ⟨fun pins s σ H Q I h => wpAny_Call_Name_kw (ld_blt I hgl hm boot_any (PyProof.Rows.callWith_builtin1 ?_ hst (by rfl)))⟩
  rw [hst]
  show wpAny _ _ (spliced ((false, eval (.GeneratorExp elt [⟨tg, iter, [], 0⟩] scope gpos) X.env) :: backTo pos (starEach [] X.env))) _ _ s
  refine Calls.spliced_cons (gx_eval hr TB hcode ok S hi hs I h fun a s5 M => Calls.spliced_nil ?_)
  obtain ⟨g, H2, hg5, I5, la, gs, n, hgs, goes⟩ := gx_goes (Ck := fun (_ : Unit) _ => True) (B0 := X.A.in1.in1) ⟨hr.hd, by have := hr.dp; show X.A.depth + 3 * (k + 1) + 5 < _; omega, by have := hr.un; show X.A.units + 1 + 1 + 16 * (k + 1) + 200 < _; omega⟩ rfl hc hN ok S hg he M
  refine call_function_tree F.kind_any F.plain_any F.entry_any (F.args_any1 _) ?_
  unfold Builtin.«any»; refine wpAny_bind (m := oneArg "any" _) (wpAny_pure (wpAny_bind (wpAny_pyIter_gen hg5 (wpAny_pure ⟨plainId_quiet F.plain_any_loop _, codeAny_mono (any_run (Q := Q) hr.hd (by have := hr.dp; omega) n s5 hg5 I5.nolimit ⟨gs, hgs, goes [] _ (fun _ z => absurd z (by simp)) (fun _ _ e => e) (fun _ z => absurd z (by simp)) rfl (allBare_set I5.bare rfl) trivial⟩) fun r s' ⟨b, H', e, J, q⟩ => ?_⟩))))
  subst e
  exact ⟨.bl b, H', J, rfl, q⟩
theorem pe_allG (hr : Room (k + 2) X.A) (hc : X.calm = true) (hN : X.N.Nodup) (TB : GxR.TabB X.base X.mg c P) (hcode : X.env.code = .ref c) (hm : X.mg "all" = none) (ok : BlkOk X.N X.env.scope scope own) (S : GxS scope) (hi : PI X tg iter wi)
    (hg : ∀ (s : Shared) (H : Hp) (L : Addr) (cl : List (Str × Addr)) (cv : Value) (B : Around) (fp : List Addr) (pn : List (Addr × Obj)), Room k B → PG (X.gx s H (genEnv scope cl L cv builtinsNs X.env) B fp pn) tg gg)
    (he : ∀ (s : Shared) (H : Hp) (L : Addr) (cl : List (Str × Addr)) (cv : Value) (B : Around) (fp : List Addr) (pn : List (Addr × Obj)), Room k B → PE (X.gx s H (genEnv scope cl L cv builtinsNs X.env) B fp pn) elt te)
    (hgl : Gl X "all" := by rfl) (hb : bootBuiltins "all" = some (.builtin "all") := by rfl) (hs : ∀ v, genFold iter X.env v = pure v := by intro _; rfl)
    (hst : starEach [.GeneratorExp elt [⟨tg, iter, [], 0⟩] scope gpos] X.env = (false, eval (.GeneratorExp elt [⟨tg, iter, [], 0⟩] scope gpos) X.env) :: starEach [] X.env := by rfl) :
    PE X (.Call (.Name "all" p) [.GeneratorExp elt [⟨tg, iter, [], 0⟩] scope gpos] [] pos) (tAllG P wi gg te (own.map (·.2))) := by
  refine ⟨fun pins s σ H Q I h => wpAny_Call_Name_kw (ld_blt I hgl hm hb (PyProof.Rows.callWith_builtin1 ?_ hst (by rfl)))⟩
  rw [hst]
  show wpAny _ _ (spliced ((false, eval (.GeneratorExp elt [⟨tg, iter, [], 0⟩] scope gpos) X.env) :: backTo pos (starEach [] X.env))) _ _ s
  refine Calls.spliced_cons (gx_eval hr TB hcode ok S hi hs I h fun a s5 M => Calls.spliced_nil ?_)
  obtain ⟨g, H2, hg5, I5, la, gs, n, hgs, goes⟩ := gx_goes (Ck := fun (_ : Unit) _ => True) (B0 := X.A.in1.in1) ⟨hr.hd, by have := hr.dp; show X.A.depth + 3 * (k + 1) + 5 < _; omega, by have := hr.un; show X.A.units + 1 + 1 + 16 * (k + 1) + 200 < _; omega⟩ rfl hc hN ok S hg he M
  refine call_function_tree F.kind_all F.plain_all F.entry_all (F.args_all1 _) ?_
  unfold Builtin.«all»; refine wpAny_bind (m := oneArg "all" _) (wpAny_pure (wpAny_bind (wpAny_pyIter_gen hg5 (wpAny_pure ⟨plainId_quiet F.plain_all_loop _, codeAny_mono (all_run (Q := Q) hr.hd (by have := hr.dp; omega) n s5 hg5 I5.nolimit ⟨gs, hgs, goes [] _ (fun _ z => absurd z (by simp)) (fun _ _ e => e) (fun _ z => absurd z (by simp)) rfl (allBare_set I5.bare rfl) trivial⟩) fun r s' ⟨b, H', e, J, q⟩ => ?_⟩))))
  subst e
  exact ⟨.bl b, H', J, rfl, q⟩
theorem pe_sumG (hr : Room (k + 2) X.A) (hc : X.calm = true) (hN : X.N.Nodup) (TB : GxR.TabB X.base X.mg c P) (hcode : X.env.code = .ref c) (hm : X.mg "sum" = none) (ok : BlkOk X.N X.env.scope scope own) (S : GxS scope) (hi : PI X tg iter wi)
    (hg : ∀ (s : Shared) (H : Hp) (L : Addr) (cl : List (Str × Addr)) (cv : Value) (B : Around) (fp : List Addr) (pn : List (Addr × Obj)), Room k B → PG (X.gx s H (genEnv scope cl L cv builtinsNs X.env) B fp pn) tg gg)
    (he : ∀ (s : Shared) (H : Hp) (L : Addr) (cl : List (Str × Addr)) (cv : Value) (B : Around) (fp : List Addr) (pn : List (Addr × Obj)), Room k B → PE (X.gx s H (genEnv scope cl L cv builtinsNs X.env) B fp pn) elt te)
    (hgl : Gl X "sum" := by rfl) (hb : bootBuiltins "sum" = some (.builtin "sum") := by rfl) (hs : ∀ v, genFold iter X.env v = pure v := by intro _; rfl)
    (hst : starEach [.GeneratorExp elt [⟨tg, iter, [], 0⟩] scope gpos] X.env = (false, eval (.GeneratorExp elt [⟨tg, iter, [], 0⟩] scope gpos) X.env) :: starEach [] X.env := by rfl) :
    PE X (.Call (.Name "sum" p) [.GeneratorExp elt [⟨tg, iter, [], 0⟩] scope gpos] [] pos) (tSumG P wi gg te (own.map (·.2))) := by
  refine ⟨fun pins s σ H Q I h => wpAny_Call_Name_kw (ld_blt I hgl hm hb (PyProof.Rows.callWith_builtin1 ?_ hst (by rfl)))⟩
  rw [hst]
  show wpAny _ _ (spliced ((false, eval (.GeneratorExp elt [⟨tg, iter, [], 0⟩] scope gpos) X.env) :: backTo pos (starEach [] X.env))) _ _ s
  refine Calls.spliced_cons (gx_eval hr TB hcode ok S hi hs I h fun a s5 M => Calls.spliced_nil ?_)
  obtain ⟨g, H2, hg5, I5, la, gs, n, hgs, goes⟩ := gx_goes (Ck := SumAt s5.heap.objs.size) (B0 := X.A.in1.in1) ⟨hr.hd, by have := hr.dp; show X.A.depth + 3 * (k + 1) + 5 < _; omega, by have := hr.un; show X.A.units + 1 + 1 + 16 * (k + 1) + 200 < _; omega⟩ rfl hc hN ok S hg he M
  have hcl : cStatics < s5.heap.objs.size := let ⟨_, hn, _⟩ := I5.nolimit; hn.lt
  refine call_function_tree F.kind_sum F.plain_sum F.entry_sum (F.args_sum1 _) ?_
  unfold Builtin.«sum»; simp only [List.length_cons, List.length_nil]; rw [if_neg (by decide)]
  refine wpAny_bind (wpAny_of_eq (show Builtin.Builtins.bindParams "sum" ["start"] 0 { } = pure [none] from rfl) (wpAny_bind (wpAny_pyIter_gen hg5 (wpAny_bind (wpAny_mkInt (wpAny_bind (wpAny_pure ?_)))))))
  simp only [List.forIn_cons, List.forIn_nil]
  refine wpAny_bind (wpAny_bind (wpAny_bind (wpAny_isInstance (T := "int") (b := false) (typeIs_int _ _ _) PySem.sub_int_str ?_))); simp only [Bool.false_eq_true, if_false]
  refine wpAny_pure (wpAny_bind (wpAny_bind (wpAny_isInstance (T := "int") (b := false) (typeIs_int _ _ _) PySem.sub_int_bytes ?_))); simp only [Bool.false_eq_true, if_false]
  refine wpAny_pure (wpAny_bind (wpAny_bind (wpAny_isInstance (T := "int") (b := false) (typeIs_int _ _ _) PySem.sub_int_bytearray ?_))); simp only [Bool.false_eq_true, if_false]
  refine wpAny_pure (wpAny_pure (wpAny_bind (wpAny_newObj_type ?_)))
  have I6 := fun (o : Obj) (tk : Nat) => I5.calm' (s' := { s5 with heap := s5.heap.push o, toks := tk }) rfl I5.bare fun _ _ e => Heap.get?_push_of_some _ e
  refine wpAny_pure ⟨plainId_quiet F.plain_sum_loop _, codeAny_mono (sum_run (Q := Q) (S := s5.heap.objs.size) hr.hd (by have := hr.dp; omega) (Nat.ne_of_gt la) (Nat.ne_of_gt hcl) (fun H' z => I5.fpOk (Nat.le_refl _) z) n _ 0 0 (.inl rfl) (hg5.keeps fun _ _ e => Heap.get?_push_of_some _ e) (I6 _ _).nolimit ⟨_, _, Heap.get?_push_size _ rfl⟩
    ⟨gs, hgs, goes [s5.heap.objs.size] _ (fun S z => Nat.le_of_eq (List.mem_singleton.mp z).symm) (fun _ _ e => Heap.get?_push_of_some _ e) (fun S z => ?_) rfl (allBare_set (s := { s5 with heap := _ }) I5.bare rfl) ⟨_, _, Heap.get?_push_size _ rfl⟩⟩) fun r s' ⟨i, t, H', e, J, q⟩ => ?_⟩
  · rw [List.mem_singleton.mp z]
    exact ⟨_, Heap.get?_push_size _ rfl, fun v z => by cases z⟩
  · subst e
    exact ⟨.int i, H', J, ⟨t, rfl⟩, q⟩
end
end L2
/-! ### all that is known stays, but tables of code objects, which grow -/
namespace Evt
open PySem L2
def ExO (o : HO) (x : Option HO) : Prop := match o with
  | .tbl ps => ∃ qs, x = some (.tbl qs) ∧ (TriplesOk ps.toList → TriplesOk qs.toList)
  | o => x = some o
def Ex (H H' : Hp) : Prop := ∀ a o, H a = some o → ExO o (H' a)
theorem exo_same (o : HO) : ExO o (some o) := by
  cases o with
  | tbl ps => exact ⟨ps, rfl, fun h => h⟩
  | _ => rfl
theorem exo_of {o : HO} {x : Option HO} (h : x = some o) : ExO o x := h ▸ exo_same o
theorem Ex.refl (G : Hp) : Ex G G := fun a o e => exo_of e
theorem Ex.trans {G1 G2 G3 : Hp} (a : Ex G1 G2) (b : Ex G2 G3) : Ex G1 G3 := fun x o h => by
  have h1 := a x o h
  cases o with
  | tbl ps =>
    obtain ⟨qs, e, t⟩ := h1
    obtain ⟨rs, e2, t2⟩ := b x _ e
    exact ⟨rs, e2, fun z => t2 (t z)⟩
  | _ => exact b x _ h1
theorem exo_some {o : HO} {x : Option HO} (h : ExO o x) : ∃ u, x = some u := by
  cases o with
  | tbl ps =>
    obtain ⟨qs, e, _⟩ := h
    exact ⟨_, e⟩
  | _ => exact ⟨_, h⟩
theorem Ex.new {G : Hp} {p : Addr} {o : HO} (h : G p = none) : Ex G (upd G p o) := fun a u e => exo_of (by rw [upd_ne (ne_of_none e h)]; exact e)
theorem Ex.mut {G G' : Hp} {p : Addr} {o : HO} (e : Ex G G') (h : G p = none) : Ex G (upd G' p o) := fun a u ha => by
  have q := e a u ha
  rw [upd_ne (ne_of_none ha h)]
  exact q
theorem fresh_back {G G' : Hp} {p : Addr} (e : Ex G G') (h : G' p = none) : G p = none := by
  cases q : G p with
  | none => rfl
  | some o =>
    obtain ⟨u, z⟩ := exo_some (e p o q)
    rw [z] at h
    cases h
theorem ex_chg {H H' H'' : Hp} {l : Addr} (e : Ex H H') (hl : H l = none) (k : ∀ a, a ≠ l → H'' a = H' a) : Ex H H'' := fun a o h => by
  have q := e a o h
  rw [k a (ne_of_none h hl)]
  exact q
theorem ex_l {K : PySem.W.Frag} {H H' : Hp} {a : Addr} {xs : List V} (e : Ex H H') (h : SqL K H a xs) : SqL K H' a xs := by
  rcases h with (h | ⟨o, h⟩) | h
  · exact .inl (.inl (e a _ h))
  · exact .inl (.inr ⟨o, e a _ h⟩)
  · exact .inr h
theorem sq_of {K : PySem.W.Frag} {G : Hp} {a : Addr} {xs : List V} (h : G a = some (.lst xs)) : SqL K G a xs := .inl (.inl h)
theorem st_of {K : PySem.W.Frag} {G : Hp} {a : Addr} {xs : List V} (h : G a = some (.tup xs)) : SqT K G a xs := .inl (.inl h)
theorem sz_of {n : Nat} : n ≤ 100000 → n ≤ sizeLine := fun h => Nat.le_trans h (by decide)
theorem sz_lt {n : Nat} : n < 100000 → n < sizeLine := fun h => Nat.lt_of_lt_of_le h (by decide)
def RetL (xs : List V) (G : Hp) (Q : VK) : Prop := ∀ p G2, G p = none → Ex G G2 → G2 p = some (.lst xs) → Q (.ref p) G2
def RetV (v : V) (G : Hp) (Q : VK) : Prop := ∀ G2, Ex G G2 → Q v G2
theorem Ex.tab {H H' : Hp} {P : Addr} (e : Ex H H') (h : GxR.TabG H P) : GxR.TabG H' P := by
  obtain ⟨ps, h1, h2⟩ := h
  obtain ⟨qs, e1, e2⟩ := e P _ h1
  exact ⟨qs, e1, e2 h2⟩
theorem ex_tabbed {H H' : Hp} {P : Addr} (h : GxR.TabG H P) (t : GxR.Tabbed P H H') : Ex H H' := fun a o e => by
  by_cases z : a = P
  · subst z
    obtain ⟨ps, h1, h2⟩ := h
    rw [h1] at e
    cases e
    obtain ⟨qs, g1, g2⟩ := t.1
    exact ⟨qs, g1, fun _ => g2⟩
  · rw [t.2 a z]
    exact exo_of e
end Evt
namespace FW
/-- the sum of f 0 .. f (n - 1) -/
def S (f : Nat → Int) : Nat → Int
  | 0 => 0
  | n + 1 => S f n + f n
def tri : Nat → Int
  | 0 => 0
  | n + 1 => tri n + ((n : Int) + 1)
theorem S_le {f g : Nat → Int} : ∀ {n : Nat}, (∀ i, i < n → f i ≤ g i) → S f n ≤ S g n
  | 0, _ => Int.le_refl _
  | n + 1, h => by
    have h1 := S_le (n := n) (fun i hi => h i (by omega))
    have h2 := h n (by omega)
    show S f n + f n ≤ S g n + g n
    omega
theorem S_congr {f g : Nat → Int} {n : Nat} (h : ∀ i, i < n → f i = g i) : S f n = S g n :=
  Int.le_antisymm (S_le fun i hi => Int.le_of_eq (h i hi)) (S_le fun i hi => Int.le_of_eq (h i hi).symm)
theorem S_first (f : Nat → Int) : ∀ n : Nat, S f (n + 1) = f 0 + S (fun i => f (i + 1)) n
  | 0 => by
    show 0 + f 0 = f 0 + 0
    omega
  | n + 1 => by
    have h := S_first f n
    show S f (n + 1) + f (n + 1) = f 0 + (S (fun i => f (i + 1)) n + f (n + 1))
    omega
theorem S_ones : ∀ n : Nat, S (fun _ => 1) n = n
  | 0 => rfl
  | n + 1 => by
    have h := S_ones n
    show S (fun _ => 1) n + 1 = ((n + 1 : Nat) : Int)
    omega
theorem tri_two : ∀ n : Nat, 2 * tri n = (n : Int) * ((n : Int) + 1)
  | 0 => rfl
  | n + 1 => by
    have h := tri_two n
    show 2 * (tri n + ((n : Int) + 1)) = ((n + 1 : Nat) : Int) * (((n + 1 : Nat) : Int) + 1)
    have e1 : ((n + 1 : Nat) : Int) = (n : Int) + 1 := by omega
    rw [e1, Int.mul_add, h]
    generalize (n : Int) = z
    have e2 : (z + 1) * (z + 1 + 1) = z * (z + 1) + (z + 1) + (z + 1) := by
      simp only [Int.add_mul, Int.mul_add]
      omega
    rw [e2]
    omega
theorem tri_sq (n : Nat) : tri n + tri (n + 1) = ((n : Int) + 1) * ((n : Int) + 1) := by
  have h := tri_two n
  show tri n + (tri n + ((n : Int) + 1)) = _
  generalize (n : Int) = z at *
  have e : (z + 1) * (z + 1) = z * (z + 1) + (z + 1) := by
    simp only [Int.add_mul, Int.mul_add]
    omega
  omega
theorem tri_nn : ∀ n : Nat, 0 ≤ tri n
  | 0 => Int.le_refl _
  | n + 1 => by
    have h := tri_nn n
    show 0 ≤ tri n + ((n : Int) + 1)
    omega
/-- G (n - 0) + G (n - 1) + .. + G 1 -/
theorem S_down (G : Int) : ∀ n : Nat, S (fun i => G * ((n : Int) - (i : Int))) n = G * tri n
  | 0 => by
    show (0 : Int) = G * 0
    omega
  | n + 1 => by
    have h := S_down G n
    rw [S_first]
    have e : S (fun i => G * (((n + 1 : Nat) : Int) - ((i + 1 : Nat) : Int))) n = S (fun i => G * ((n : Int) - (i : Int))) n := S_congr fun i _ => by
      have e1 : ((n + 1 : Nat) : Int) - ((i + 1 : Nat) : Int) = (n : Int) - (i : Int) := by omega
      rw [e1]
    rw [e, h]
    show G * (((n + 1 : Nat) : Int) - ((0 : Nat) : Int)) + G * tri n = G * (tri n + ((n : Int) + 1))
    have e2 : ((n + 1 : Nat) : Int) - ((0 : Nat) : Int) = (n : Int) + 1 := by omega
    rw [e2, Int.mul_add G (tri n)]
    omega
/-- (x - G) + (x - 2 G) + .. + (x - n G) -/
theorem S_fall (G x : Int) : ∀ n : Nat, S (fun i => x - G * ((i : Int) + 1)) n = x * (n : Int) - G * tri n
  | 0 => by
    show (0 : Int) = x * ((0 : Nat) : Int) - G * 0
    simp
  | n + 1 => by
    have h := S_fall G x n
    show S (fun i => x - G * ((i : Int) + 1)) n + (x - G * ((n : Int) + 1)) = x * ((n + 1 : Nat) : Int) - G * (tri n + ((n : Int) + 1))
    have e1 : ((n + 1 : Nat) : Int) = (n : Int) + 1 := by omega
    rw [h, e1, Int.mul_add G (tri n), Int.mul_add x]
    omega

/-- the greatest sum of m steps behind a step s -/
def top (P G s : Int) (m i : Nat) : Int := min (min P (s + G * ((i : Int) + 1))) (G * ((m : Int) - (i : Int)))
def U (P G s : Int) (m : Nat) : Int := S (top P G s m) m
section
variable {P G s L : Int}
theorem pos_mul {a b : Int} (ha : 1 ≤ a) (hb : 1 ≤ b) : 1 ≤ a * b := by
  have h : 0 < a * b := Int.mul_pos (by omega) (by omega)
  omega
theorem U_ge (hP : 1 ≤ P) (hG : 1 ≤ G) (hs : 0 ≤ s) (m : Nat) : (m : Int) ≤ U P G s m := by
  rw [← S_ones m]
  refine S_le fun i hi => ?_
  have h1 : 1 ≤ G * ((i : Int) + 1) := pos_mul hG (by omega)
  have h2 : 1 ≤ G * ((m : Int) - (i : Int)) := pos_mul hG (by omega)
  unfold top
  omega
theorem U_le_tri (m : Nat) : U P G s m ≤ G * tri m := by
  rw [← S_down G m]
  refine S_le fun i _ => ?_
  unfold top
  omega
/-- what holds with m steps to go, behind a step s, L still to be gone -/
structure Go (P G s : Int) (m : Nat) (L : Int) : Prop where
  s0 : 0 ≤ s
  sP : s ≤ P
  most : L ≤ U P G s m
  fewest : ∀ b, m = b + 1 → U P G s b < L
  least : s * (m : Int) - G * tri m ≤ L
def next (P G s : Int) (b : Nat) (L : Int) : Int := min (min P (s + G)) ((L + G * tri b) / ((b : Int) + 1))
structure Good (P G s : Int) (b : Nat) (L x : Int) : Prop where
  x1 : 1 ≤ x
  xP : x ≤ P
  up : x ≤ s + G
  down : s - G ≤ x
  end_ : x ≤ G * ((b : Int) + 1)
  great : x = P ∨ x = s + G ∨ L < (x + 1) * ((b : Int) + 1) - G * tri b
  go : Go P G x b (L - x)
theorem le_of_mul {a b c : Int} (hc : 0 < c) (h : a * c ≤ b * c) : a ≤ b := Int.le_of_mul_le_mul_right h hc
theorem next_good (hP : 1 ≤ P) (hG : 1 ≤ G) {b : Nat} (I : Go P G s (b + 1) L) : Good P G s b L (next P G s b L) := by
  obtain ⟨s0, sP, most, fewest, least⟩ := I
  have few := fewest b rfl
  have hm : (0 : Int) < (b : Int) + 1 := by omega
  have q1 : (L + G * tri b) / ((b : Int) + 1) * ((b : Int) + 1) ≤ L + G * tri b := Int.ediv_mul_le _ (by omega)
  have q2 : L + G * tri b < ((L + G * tri b) / ((b : Int) + 1) + 1) * ((b : Int) + 1) := Int.lt_ediv_add_one_mul_self _ hm
  have qge : ∀ z : Int, z * ((b : Int) + 1) ≤ L + G * tri b → z ≤ (L + G * tri b) / ((b : Int) + 1) := fun z hz => (Int.le_ediv_iff_mul_le hm).mpr hz
  have hx : next P G s b L = min (min P (s + G)) ((L + G * tri b) / ((b : Int) + 1)) := rfl
  generalize (L + G * tri b) / ((b : Int) + 1) = q at *
  generalize next P G s b L = x at *
  have xq : x ≤ q := by omega
  have xP : x ≤ P := by omega
  have xs : x ≤ s + G := by omega
  have eT : tri (b + 1) = tri b + ((b : Int) + 1) := rfl
  have GT : G * tri (b + 1) = G * tri b + G * ((b : Int) + 1) := by rw [eT, Int.mul_add]
  have tnn := tri_nn b
  have Gt : 0 ≤ G * tri b := Int.mul_nonneg (by omega) tnn
  have xm : x * ((b : Int) + 1) ≤ L + G * tri b := Int.le_trans (Int.mul_le_mul_of_nonneg_right xq (by omega)) q1
  have ub := U_ge hP hG s0 b
  have lo1 : 1 ≤ q := qge 1 (by omega)
  have x1 : 1 ≤ x := by omega
  have cb : ((b + 1 : Nat) : Int) = (b : Int) + 1 := by omega
  rw [cb] at least
  have lo2 : s - G ≤ q := qge _ (by
    rw [Int.sub_mul]
    rw [GT] at least
    omega)
  have uT : U P G s (b + 1) ≤ G * tri (b + 1) := U_le_tri _
  have sq := tri_sq b
  have Gsq : G * tri b + G * tri (b + 1) = G * ((b : Int) + 1) * ((b : Int) + 1) := by
    rw [← Int.mul_add, sq, Int.mul_assoc]
  have xe : x ≤ G * ((b : Int) + 1) := le_of_mul hm (by omega)
  have xb : x * ((b : Int) + 1) = x * (b : Int) + x := by rw [Int.mul_add, Int.mul_one]
  refine ⟨x1, xP, xs, by omega, xe, ?_, ?_⟩
  · by_cases h1 : x = P
    · exact .inl h1
    · by_cases h2 : x = s + G
      · exact .inr (.inl h2)
      · have e : x = q := by omega
        subst e
        exact .inr (.inr (by omega))
  · refine ⟨by omega, xP, ?_, ?_, by omega⟩
    · by_cases h : x = P ∨ x = s + G
      · -- the first two
        have e1 : U P G s (b + 1) = top P G s (b + 1) 0 + S (fun i => top P G s (b + 1) (i + 1)) b := S_first _ _
        have e2 : top P G s (b + 1) 0 ≤ x := by
          unfold top
          have : s + G * (((0 : Nat) : Int) + 1) = s + G := by simp
          omega
        have e3 : S (fun i => top P G s (b + 1) (i + 1)) b ≤ U P G x b := S_le fun i hi => by
          unfold top
          have c1 : ((b + 1 : Nat) : Int) - ((i + 1 : Nat) : Int) = (b : Int) - (i : Int) := by omega
          have c2 : ((i + 1 : Nat) : Int) + 1 = ((i : Int) + 1) + 1 := by omega
          rw [c1, c2, Int.mul_add G ((i : Int) + 1) 1, Int.mul_one]
          have p1 : 1 ≤ G * ((i : Int) + 1) := pos_mul hG (by omega)
          omega
        omega
      · have e : x = q := by omega
        subst e
        have ex : (x + 1) * ((b : Int) + 1) = x * (b : Int) + x + ((b : Int) + 1) := by
          rw [Int.add_mul, Int.one_mul, xb]
        by_cases hl : x = G * ((b : Int) + 1)
        · have e1 : G * tri b ≤ U P G x b := by
            rw [← S_down G b]
            refine S_le fun i hi => ?_
            unfold top
            have m1 : G * ((b : Int) - (i : Int)) ≤ G * ((b : Int) + 1) := Int.mul_le_mul_of_nonneg_left (by omega) (by omega)
            have p1 : 1 ≤ G * ((i : Int) + 1) := pos_mul hG (by omega)
            omega
          omega
        · have e1 : (x + 1) * (b : Int) - G * tri b ≤ U P G x b := by
            rw [← S_fall G (x + 1) b]
            refine S_le fun i hi => ?_
            unfold top
            have p1 : 1 ≤ G * ((i : Int) + 1) := pos_mul hG (by omega)
            have c : G * ((b : Int) - (i : Int)) = G * ((b : Int) + 1) - G * ((i : Int) + 1) := by
              rw [← Int.mul_sub]
              congr 1
              omega
            omega
          rw [Int.add_mul, Int.one_mul] at e1
          omega
    · intro c hc
      subst hc
      have cb2 : ((c + 1 : Nat) : Int) = (c : Int) + 1 := by omega
      have xc : x * ((c + 1 : Nat) : Int) = x * ((c : Int) + 1) := by rw [cb2]
      by_cases hl : x ≤ G * ((c : Int) + 1)
      · have e1 : U P G s (c + 1) = top P G s (c + 1) 0 + S (fun i => top P G s (c + 1) (i + 1)) c := S_first _ _
        have e2 : x ≤ top P G s (c + 1) 0 := by
          unfold top
          have c1 : s + G * (((0 : Nat) : Int) + 1) = s + G := by simp
          have c2 : ((c + 1 : Nat) : Int) - ((0 : Nat) : Int) = (c : Int) + 1 := by omega
          rw [c1, c2]
          omega
        have e3 : U P G x c ≤ S (fun i => top P G s (c + 1) (i + 1)) c := S_le fun i hi => by
          unfold top
          have c1 : ((c + 1 : Nat) : Int) - ((i + 1 : Nat) : Int) = (c : Int) - (i : Int) := by omega
          have c2 : ((i + 1 : Nat) : Int) + 1 = ((i : Int) + 1) + 1 := by omega
          rw [c1, c2, Int.mul_add G ((i : Int) + 1) 1, Int.mul_one]
          omega
        omega
      · have u2 : U P G x c ≤ G * tri c := U_le_tri _
        have sq2 := tri_sq c
        have Gsq2 : G * tri c + G * tri (c + 1) = G * ((c : Int) + 1) * ((c : Int) + 1) := by
          rw [← Int.mul_add, sq2, Int.mul_assoc]
        have xl : (G * ((c : Int) + 1) + 1) * ((c : Int) + 1) ≤ x * ((c : Int) + 1) := Int.mul_le_mul_of_nonneg_right (by omega) (by omega)
        rw [Int.add_mul, Int.one_mul] at xl
        omega
/-- the row of steps -/
def row (P G : Int) : Nat → Int → Int → List Int
  | 0, _, _ => []
  | b + 1, s, L => next P G s b L :: row P G b (next P G s b L) (L - next P G s b L)
theorem row_len : ∀ (m : Nat) (s L : Int), (row P G m s L).length = m
  | 0, _, _ => rfl
  | b + 1, s, L => by
    show (row P G b _ _).length + 1 = b + 1
    rw [row_len b]
theorem Go.zero (I : Go P G s 0 L) : L = 0 := by
  have h1 := I.most
  have h2 := I.least
  have e1 : U P G s 0 = 0 := rfl
  have e2 : s * ((0 : Nat) : Int) - G * tri 0 = 0 := by
    show s * 0 - G * 0 = 0
    omega
  omega
theorem row_sum (hP : 1 ≤ P) (hG : 1 ≤ G) : ∀ (m : Nat) (s L : Int), Go P G s m L → (row P G m s L).sum = L
  | 0, s, L, I => by
    rw [I.zero]
    rfl
  | b + 1, s, L, I => by
    have g := next_good hP hG I
    have ih := row_sum hP hG b _ _ g.go
    show (next P G s b L :: row P G b _ _).sum = L
    rw [List.sum_cons, ih]
    omega
/-! ### the reach -/
/-- by the middle: f 1, f 1, f 2, f 2, .. -/
theorem S_mid : ∀ (n : Nat) (f : Nat → Int), S (fun i => f (min (i + 1) (n - i))) n = S (fun j => f ((j + 2) / 2)) n
  | 0, _ => rfl
  | 1, f => rfl
  | n + 2, f => by
    have ih := S_mid n (fun k => f (k + 1))
    have e1 : S (fun i => f (min (i + 1) (n + 2 - i))) (n + 2) = f 1 + S (fun i => f (min (i + 1) (n - i) + 1)) n + f 1 := by
      show S (fun i => f (min (i + 1) (n + 2 - i))) (n + 1) + f (min (n + 1 + 1) (n + 2 - (n + 1))) = _
      rw [S_first]
      have a1 : min (n + 1 + 1) (n + 2 - (n + 1)) = 1 := by omega
      have a2 : min (0 + 1) (n + 2 - 0) = 1 := by omega
      rw [a1, a2]
      have a3 : S (fun i => f (min (i + 1 + 1) (n + 2 - (i + 1)))) n = S (fun i => f (min (i + 1) (n - i) + 1)) n := S_congr fun i hi => by
        congr 1
        omega
      rw [a3]
    have e2 : S (fun j => f ((j + 2) / 2)) (n + 2) = f 1 + (f 1 + S (fun j => f ((j + 2) / 2 + 1)) n) := by
      rw [S_first, S_first]
      have a3 : S (fun i => f ((i + 1 + 1 + 2) / 2)) n = S (fun j => f ((j + 2) / 2 + 1)) n := S_congr fun i hi => by
        congr 1
        omega
      rw [a3]
    rw [e1, e2, ih]
    omega
/-- what one more step adds -/
def added (P G : Int) (j : Nat) : Int := min P (G * (((j : Int) + 1) / 2))
theorem U_reach (P G : Int) (hP : 0 ≤ P) (hG : 0 ≤ G) (n : Nat) : U P G 0 n = S (added P G) (n + 1) := by
  rw [S_first]
  have a0 : added P G 0 = 0 := by
    unfold added
    show min P (G * ((0 + 1) / 2)) = 0
    have : ((0 : Int) + 1) / 2 = 0 := by decide
    rw [this]
    omega
  rw [a0, Int.zero_add]
  have e1 : U P G 0 n = S (fun i => (fun k : Nat => min P (G * (k : Int))) (min (i + 1) (n - i))) n := S_congr fun i hi => by
    unfold top
    show min (min P (0 + G * ((i : Int) + 1))) (G * ((n : Int) - (i : Int))) = min P (G * ((min (i + 1) (n - i) : Nat) : Int))
    by_cases h : i + 1 ≤ n - i
    · have c : min (i + 1) (n - i) = i + 1 := by omega
      have m1 : G * ((i : Int) + 1) ≤ G * ((n : Int) - (i : Int)) := Int.mul_le_mul_of_nonneg_left (by omega) hG
      rw [c]
      have c2 : ((i + 1 : Nat) : Int) = (i : Int) + 1 := by omega
      rw [c2]
      omega
    · have c : min (i + 1) (n - i) = n - i := by omega
      have m1 : G * ((n : Int) - (i : Int)) ≤ G * ((i : Int) + 1) := Int.mul_le_mul_of_nonneg_left (by omega) hG
      rw [c]
      have c2 : ((n - i : Nat) : Int) = (n : Int) - (i : Int) := by omega
      rw [c2]
      omega
  rw [e1]
  refine (S_mid n (fun k : Nat => min P (G * (k : Int)))).trans ?_
  refine S_congr fun i _ => ?_
  unfold added
  show min P (G * (((i + 2) / 2 : Nat) : Int)) = min P (G * ((((i + 1 : Nat) : Int) + 1) / 2))
  have c : (((i + 2) / 2 : Nat) : Int) = (((i + 1 : Nat) : Int) + 1) / 2 := by omega
  rw [c]
theorem go_start (hP : 1 ≤ P) (hG : 1 ≤ G) {n : Nat} {d : Int} (hd : 0 ≤ d) (h1 : d ≤ U P G 0 n) (h2 : ∀ b, n = b + 1 → U P G 0 b < d) : Go P G 0 n d := by
  refine ⟨Int.le_refl _, by omega, h1, h2, ?_⟩
  have t := Int.mul_nonneg (show (0 : Int) ≤ G by omega) (tri_nn n)
  rw [Int.zero_mul]
  omega
end
end FW
/-! ### the layer of this hand: own defs by one fact each, constants of the top, the law's end with the loose names -/
namespace L2
open PySem PySem.Spec PyProof.Rows
/-- the def of the top called x keeps the promise sp -/
def Fn (P : Program) (w : World) (K : PySem.W.Frag) (mg : Str → Option Value) (base : Heap) (x : Str) (ps : List Str) (CX : CXT) (k : Nat) (sp : Sp) : Prop :=
  ∃ (f : Addr) (fd : FuncData), FnOk P w K mg base CX k f fd ps sp ∧ mg x = some (.ref f) ∧ PySem.W.keepIn K (.ref f) = true ∧ Binds K fd ps []
section
variable {X : Cx} {k : Nat} {ps : List Str} {sp : Sp} {x : Str} {p pos : Pos} {e : Expr} {es : List Expr} {t : TA} {ps : List Str}
theorem pe_fn (F : Fn X.prog X.w X.K X.mg X.base x ps CX0 k sp) (hr : Room k X.A) (ha : PA X (e :: es) t) (hg : Gl X x := by rfl) (hdb : (x == ("__debug__" : Str)) = false := by decide)
    (he : starEach (e :: es) X.env = (false, eval e X.env) :: starEach es X.env := by rfl) (hpl : (backTo pos (starEach es X.env)).any (·.1) = false := by rfl) :
    PE X (.Call (.Name x p) (e :: es) [] pos) (tCall sp [] E0 t) := by
  obtain ⟨f, fd, h1, h2, h3, h4⟩ := F
  exact pe_call h1 hr hg h2 h3 h4 .nil pass0 ha hdb he hpl
theorem pe_gint {i : Int} (h : ∃ t, X.mg x = some (.int i t)) (hg : Gl X x := by rfl) (hd : (x == ("__debug__" : Str)) = false := by decide) : PE X (.Name x pos) (tC (.int i)) := by
  obtain ⟨t, e⟩ := h
  exact pe_glob hg e ⟨_, rfl⟩ hd
end
theorem walk_ofX {l : PySem.W.OpenLaw} {n k : Nat} {q : Program} {loose : List Str} {XP : (Str → Option Value) → Heap → Prop} {YP : World → Heap → Prop} {d : DefRec} {K : Params → PySem.W.Frag} {sp : PySem.W.Frag → Sp} {x : Str}
    (hn : l.most = some n) (hn2 : n ≤ sizeLine) (hdf : d.params.defaults = []) (hr : Room k callerA)
    (hY : ∀ (w : World) (h : Heap), YP w h → (K w.params).In h)
    (F : ∀ (w : World) (mg : Str → Option Value) (fa : Addr) (h : Heap), (K w.params).In h → h.Ns mainGlobals mg → XP mg h → mg d.name = some (.ref fa) →
      ∃ fd : FuncData, (∀ (s : Shared) (u : Value), BindsTo s fd ⟨[u], []⟩ [(x, u)]) ∧
        ∀ base : Heap, (K w.params).In base → base.Ns mainGlobals mg → FnOk l.prog w (K w.params) mg base CX0 k fa fd [x] (sp (K w.params)))
    (hsp : ∀ (K : PySem.W.Frag) (H : Hp) (a : Addr) (ns : List Int), ns.length ≤ n → Only H → SqL K H a (ns.map V.int) → sp K [.ref a] H (fun v _ => v = .bl true) fun _ _ _ => False) :
    PySem.W.WalkO q loose XP YP l.row.toRowW d [] (fun f vs => PySem.call f vs) := by
  refine Att.attach_call hn hdf fun w s₀ s₁ mg mb fa o pm cd doc a vs ns G Y ho hd hcd hmg hobj hints hlen hg => ?_
  have KX := hY w _ Y
  obtain ⟨fd, hb, hF⟩ := F w mg fa _ KX G.T.g G.X hmg
  exact law_call KX G.T.g G.T.b G.T.builtins G.T.nolimit hg hobj hints (Nat.le_trans hlen hn2) hr hF hb (fun H hO hS => hsp (K w.params) H a ns hlen hO hS) fun H e s' z => z
theorem loose_int {lv : List (Str × PySem.W.WData)} {mg : Str → Option Value} {h : Heap} {q : Program} (X : PySem.W.XL q lv mg h) {x : Str} {i : Int} (hm : (x, PySem.W.WData.int i) ∈ lv) : ∃ t, mg x = some (.int i t) := by
  obtain ⟨v, e, r⟩ := X.2.val _ hm
  cases r
  exact ⟨_, e⟩
end L2
/-! ### readings, by what they come to -/
namespace L2
open PySem PySem.Spec PyProof.Rows Evt
theorem ex_upd {H : Hp} {p : Addr} {o : HO} (h : H p = none) : Ex H (upd H p o) := Ex.new h
theorem ifT {c : Bool} {A B : Prop} (hc : c = true) (h : A) : if c = true then A else B := by
  rw [if_pos hc]
  exact h
theorem ifF {c : Bool} {A B : Prop} (hc : c = false) (h : B) : if c = true then A else B := by
  rw [hc, if_neg Bool.false_ne_true]
  exact h
theorem cxK {CX : CXT} {P : Program} {w : World} {K : PySem.W.Frag} {mg : Str → Option Value} {base : Heap} {N : List Str} {q : Str} {sc : Scope} {f : Addr} {cdv : Value} {A : Around} {outer : List Env} {s : Shared} {H : Hp} {E : XK} :
    (cxOf CX P w K mg base N q sc f cdv A outer s H E).K = K := rfl
theorem isi_ty {K : PySem.W.Frag} {H : Hp} {x : V} {s n : String} {b : Bool} {Q : VK} (ht : TyX K H x (.type s)) (hk : kitB s n = some b) (q : Q (.bl b) H) : rIsi K [x, .ty n] H Q :=
  ⟨x, .ty n, .type s, .type n, b, rfl, .ty n, ht, kit_ty hk, q⟩
theorem isi_int {K : PySem.W.Frag} {H : Hp} {i : Int} {n : String} {b : Bool} {Q : VK} (hk : kitB "int" n = some b) (q : Q (.bl b) H) : rIsi K [.int i, .ty n] H Q := isi_ty (.base (.int i)) hk q
theorem min_if (a b : Int) : (if b < a then b else a) = min a b := by omega
theorem max_if (a b : Int) : (if b > a then b else a) = max a b := by omega
theorem min3_nu (a b c : Int) : nuMin3 (.int a) (.int b) (.int c) = some (.int (min (min a b) c)) := by
  unfold nuMin3 nuMin2 nuLt nuCB
  show (some (if decide (b < a) = true then V.int b else V.int a)).bind _ = _
  by_cases h : b < a
  · rw [decide_eq_true h, if_pos rfl, show min a b = b by omega]
    show some (if decide (c < b) = true then V.int c else V.int b) = _
    by_cases h2 : c < b
    · rw [decide_eq_true h2, if_pos rfl, show min b c = c by omega]
    · rw [decide_eq_false h2, if_neg Bool.false_ne_true, show min b c = b by omega]
  · rw [decide_eq_false h, if_neg Bool.false_ne_true, show min a b = a by omega]
    show some (if decide (c < a) = true then V.int c else V.int a) = _
    by_cases h2 : c < a
    · rw [decide_eq_true h2, if_pos rfl, show min a c = c by omega]
    · rw [decide_eq_false h2, if_neg Bool.false_ne_true, show min a c = a by omega]
theorem min3_eq {a b c : Int} {H : Hp} {Q : VK} : rNuC3 nuMin3 [.int a, .int b, .int c] H Q = Q (.int (min (min a b) c)) H := by
  refine propext ⟨fun h => ?_, fun q => ⟨_, _, _, _, rfl, min3_nu a b c, q⟩⟩
  obtain ⟨x, y, z, v, e, e2, q⟩ := h
  cases e
  rw [min3_nu] at e2
  cases e2
  exact q
theorem rEq_int {a b : Int} {H : Hp} {Q : VK} : rEq (.int a) (.int b) H Q = Q (.bl (decide (a = b))) H := by
  have e : decide (V.int a = V.int b) = decide (a = b) := by simp
  refine propext ⟨fun h => ?_, fun q => ⟨rfl, ?_⟩⟩
  · have h2 := h.2
    rw [e] at h2
    exact h2
  · rw [e]
    exact q
theorem rNe_int {a b : Int} {H : Hp} {Q : VK} : rNe (.int a) (.int b) H Q = Q (.bl (!decide (a = b))) H := by
  have e : decide (V.int a = V.int b) = decide (a = b) := by simp
  refine propext ⟨fun h => ?_, fun q => ⟨rfl, ?_⟩⟩
  · have h2 := h.2
    rw [e] at h2
    exact h2
  · rw [e]
    exact q
theorem cdw {i j : Int} (h : 0 < j) (h2 : j < 2 ^ 100) : CDivW i j := wide_div (b := 100) h (by omega) (by decide) (by decide)
theorem cmw {i j : Int} {a b : Nat} (hi : i.natAbs < 2 ^ a) (hj : j.natAbs < 2 ^ b) (h0 : 0 < a) (h1 : 0 < b) (h : a + b ≤ 1000000) : CMulW i j := wide_mul hi hj h0 h1 h
end L2
namespace L2
open PySem PySem.Spec PyProof.Rows Evt
/-- a loop over J -/
def LoopI (J : It) (g : TG) (tb : TS) (D : Ends) (σ : St) (H1 : Hp) : Prop := ∃ W : Nat → Nat → St → Hp → Prop, (∃ m, W 0 m σ H1) ∧ ∀ i m σ H, W i m σ H →
  (J.stop i H ∧ D.nx σ H) ∨ (J.go i H ∧ ∃ N : St → Hp → Prop, (∀ σ' H', N σ' H' → ∃ m', m' < m ∧ W (i + 1) m' σ' H') ∧ ∀ x H', J.yld i H x H' → g x σ H' fun σ2 H2 => tb { D with nx := N, ct := N, bk := D.nx } σ2 H2)
theorem tFor_eq {wi : TI} {g : TG} {tb : TS} {D : Ends} {σ : St} {H : Hp} : tFor wi g tb D σ H = wi σ H fun J H1 => LoopI J g tb D σ H1 := rfl
/-- a new object -/
def New (H : Hp) (o : HO) (R : Addr → Hp → Prop) : Prop := ∀ p, H p = none → R p (upd H p o)
theorem new_of {H : Hp} {o : HO} {R : Addr → Hp → Prop} (h : ∀ p H', H p = none → Ex H H' → H' p = some o → R p H') : New H o R := fun p np => h p _ np (Ex.new np) upd_same
/-- an object changes -/
def Chg (H : Hp) (l : Addr) (o : HO) (R : Hp → Prop) : Prop := R (upd H l o)
theorem chg_of {H : Hp} {l : Addr} {o : HO} {R : Hp → Prop} (h : ∀ H', (∀ a, a ≠ l → H' a = H a) → H' l = some o → R H') : Chg H l o R := h _ (fun _ ha => upd_ne ha) upd_same
theorem tLst_eq {t : TA} {σ : St} {H : Hp} {Q : VK} : tLst t σ H Q = t σ H fun xs H1 => xs.length ≤ sizeLine ∧ New H1 (.lst xs) fun p H2 => Q (.ref p) H2 := rfl
theorem tTup_eq {t : TA} {σ : St} {H : Hp} {Q : VK} : tTup t σ H Q = t σ H fun xs H1 => xs.length ≤ sizeLine ∧ New H1 (.tup xs) fun p H2 => Q (.ref p) H2 := rfl
theorem rCat_eq {x y : V} {H : Hp} {Q : VK} : rCat x y H Q = ∃ l b xs zs, x = .ref l ∧ y = .ref b ∧ H l = some (.lst xs) ∧ H b = some (.lst zs) ∧ xs.length + zs.length ≤ sizeLine ∧ New H (.lst (xs ++ zs)) fun p H2 => Q (.ref p) H2 := rfl
theorem rAppend_eq {x : V} {vs : List V} {H : Hp} {Q : VK} : rAppend x vs H Q = ∃ l xs y, x = .ref l ∧ vs = [y] ∧ H l = some (.lst xs) ∧ xs.length < sizeLine ∧ Chg H l (.lst (xs ++ [y])) fun H2 => Q .non H2 := rfl
/-- a comprehension over J, its list at Dl -/
def LcI (J : It) (g : TG) (tt : TT) (te : TE) (vs : List Nat) (σ : St) (H1 : Hp) (D : Addr) (Q : VK) : Prop := ∃ W : Nat → Nat → Hp → Prop, (∃ m, W 0 m (upd H1 D (.lst []))) ∧ ∀ i m H, W i m H →
  (J.stop i H ∧ Q (.ref D) H) ∨ (J.go i H ∧ ∃ Nx : Hp → Prop, (∀ H', Nx H' → ∃ m', m' < m ∧ W (i + 1) m' H') ∧ ∀ x H', J.yld i H x H' → g x (wipe σ vs) H' fun σ2 H2 => wipe σ2 vs = wipe σ vs ∧ tt σ2 H2 fun b H3 =>
    if b = true then te σ2 H3 fun y H4 => ∃ acc, H4 D = some (.lst acc) ∧ acc.length < sizeLine ∧ Nx (upd H4 D (.lst (acc ++ [y]))) else Nx H3)
theorem tLc_eq {wi : TI} {g : TG} {tt : TT} {te : TE} {vs : List Nat} {σ : St} {H : Hp} {Q : VK} : tLc wi g tt te vs σ H Q = wi σ H fun J H1 => ∀ D, H1 D = none → LcI J g tt te vs σ H1 D Q := rfl
section
variable {K : PySem.W.Frag} {a b : Addr} {xs ys : List V} {g : TG} {tb : TS} {D : Ends} {σ : St} {H : Hp}
theorem loop_range {lo : Int} {n : Nat} (Pv : Nat → St → Hp → Prop) (h0 : Pv 0 σ H) (hs : ∀ i σ H, i < n → Pv i σ H → g (.int (lo + i)) σ H fun σ2 H2 => tb { D with nx := Pv (i + 1), ct := Pv (i + 1), bk := D.nx } σ2 H2) (hd : ∀ σ H, Pv n σ H → D.nx σ H) :
    LoopI (Itr lo n) g tb D σ H := for_it walk_range Pv h0 (fun _ _ _ _ _ => trivial) (fun i x σ H H' hi p y => by obtain ⟨rfl, rfl⟩ := y; exact hs i σ _ hi p) hd
theorem loop_rangeC {lo c : Int} {n : Nat} (Pv : Nat → St → Hp → Prop) (h0 : Pv 0 σ H) (hs : ∀ i σ H, i < n → Pv i σ H → g (.int (lo + (i : Nat) * c)) σ H fun σ2 H2 => tb { D with nx := Pv (i + 1), ct := Pv (i + 1), bk := D.nx } σ2 H2) (hd : ∀ σ H, Pv n σ H → D.nx σ H) :
    LoopI (Itc lo c n) g tb D σ H := for_it walk_rangeC Pv h0 (fun _ _ _ _ _ => trivial) (fun i x σ H H' hi p y => by obtain ⟨rfl, rfl⟩ := y; exact hs i σ _ hi p) hd
theorem loop_list (Pv : Nat → St → Hp → Prop) (h0 : Pv 0 σ H) (hl : ∀ i σ H, Pv i σ H → SqL K H a xs) (hs : ∀ i x σ H, xs[i]? = some x → Pv i σ H → g x σ H fun σ2 H2 => tb { D with nx := Pv (i + 1), ct := Pv (i + 1), bk := D.nx } σ2 H2) (hd : ∀ σ H, Pv xs.length σ H → D.nx σ H) :
    LoopI (Itl K a) g tb D σ H := for_it (walk_list (xs := xs)) Pv h0 (fun i σ H _ p => hl i σ H p) (fun i x σ H H' hi p y => by obtain ⟨rfl, e⟩ := y; exact hs i x σ _ e p) hd
/-- the pair is a new tuple at T -/
theorem loop_enum (Pv : Nat → St → Hp → Prop) (h0 : Pv 0 σ H) (hl : ∀ i σ H, Pv i σ H → SqL K H a xs)
    (hs : ∀ i x σ H T H', xs[i]? = some x → Pv i σ H → H T = none → Ex H H' → H' T = some (.tup [.int (i : Nat), x]) → g (.ref T) σ H' fun σ2 H2 => tb { D with nx := Pv (i + 1), ct := Pv (i + 1), bk := D.nx } σ2 H2) (hd : ∀ σ H, Pv xs.length σ H → D.nx σ H) :
    LoopI (Ite K a) g tb D σ H := for_it (walk_enum (xs := xs)) Pv h0 (fun i σ H _ p => hl i σ H p) (fun i v σ H H' hi p y => by
      obtain ⟨T, x, y, rfl, nT, rfl, e1, e2⟩ := y
      cases e1
      exact hs i y σ H T _ e2 p nT (Ex.new nT) upd_same) hd
theorem loop_zip {n : Nat} (hn : n = min xs.length ys.length) (Pv : Nat → St → Hp → Prop) (h0 : Pv 0 σ H) (hl : ∀ i σ H, Pv i σ H → SqL K H a xs ∧ SqL K H b ys)
    (hs : ∀ i x y σ H T H', xs[i]? = some x → ys[i]? = some y → Pv i σ H → H T = none → Ex H H' → H' T = some (.tup [x, y]) → g (.ref T) σ H' fun σ2 H2 => tb { D with nx := Pv (i + 1), ct := Pv (i + 1), bk := D.nx } σ2 H2) (hd : ∀ σ H, Pv n σ H → D.nx σ H) :
    LoopI (Itz K a b) g tb D σ H := for_it (walk_zip hn) Pv h0 (fun i σ H _ p => hl i σ H p) (fun i v σ H H' hi p y => by
      obtain ⟨T, x, y, rfl, nT, rfl, e1, e2⟩ := y
      exact hs i x y σ H T _ e1 e2 p nT (Ex.new nT) upd_same) hd
/-- a comprehension's turns give what f says of each turn (none: passed over) -/
def gives (f : Nat → Option V) : Nat → List V
  | 0 => []
  | n + 1 => gives f n ++ (f n).toList
theorem gives_len (f : Nat → Option V) : ∀ n, (gives f n).length ≤ n
  | 0 => Nat.le_refl _
  | n + 1 => by
    have h := gives_len f n
    show (gives f n ++ (f n).toList).length ≤ n + 1
    rw [List.length_append]
    cases f n with
    | none => exact Nat.le_succ_of_le h
    | some v => exact Nat.succ_le_succ h
/-- the turn's item is laid; the turn is passed over -/
def Put (H : Hp) (Dl : Addr) (f : Nat → Option V) (i : Nat) (y : V) (H4 : Hp) : Prop := ∃ acc, H4 Dl = some (.lst acc) ∧ acc.length < sizeLine ∧ (Ex H (upd H4 Dl (.lst (acc ++ [y]))) ∧ upd H4 Dl (.lst (acc ++ [y])) Dl = some (.lst (gives f (i + 1))))
def Skip (H : Hp) (Dl : Addr) (f : Nat → Option V) (i : Nat) (H3 : Hp) : Prop := Ex H H3 ∧ H3 Dl = some (.lst (gives f (i + 1)))
theorem put_of {f : Nat → Option V} {i : Nat} {y : V} {H4 : Hp} {Dl : Addr} (hD : H Dl = none) (e : Ex H H4) (h4 : H4 Dl = some (.lst (gives f i))) (hi : i < sizeLine) (ef : f i = some y) : Put H Dl f i y H4 := by
  refine ⟨gives f i, h4, Nat.lt_of_le_of_lt (gives_len f i) hi, Ex.mut e hD, ?_⟩
  show upd H4 Dl _ Dl = some (.lst (gives f i ++ (f i).toList))
  rw [upd_same, ef]
  rfl
theorem skip_of {f : Nat → Option V} {i : Nat} {H3 : Hp} {Dl : Addr} (e : Ex H H3) (h3 : H3 Dl = some (.lst (gives f i))) (ef : f i = none) : Skip H Dl f i H3 := by
  refine ⟨e, ?_⟩
  show H3 Dl = some (.lst (gives f i ++ (f i).toList))
  rw [ef, h3]
  show _ = some (HO.lst (gives f i ++ []))
  rw [List.append_nil]
theorem lc_gives {J : It} {n : Nat} {G : Hp → Prop} {Y : Nat → Hp → V → Hp → Prop} (w : Walk J n G Y) {tt : TT} {te : TE} {vs : List Nat} {Q : VK} {Dl : Addr} (f : Nat → Option V) (hD : H Dl = none) (hG : ∀ H', Ex H H' → G H')
    (hs : ∀ i x H0 H', i < n → Ex H H0 → H0 Dl = some (.lst (gives f i)) → Y i H0 x H' → g x (wipe σ vs) H' fun σ2 H2 => wipe σ2 vs = wipe σ vs ∧ tt σ2 H2 fun b H3 => if b = true then te σ2 H3 fun y H4 => Put H Dl f i y H4 else Skip H Dl f i H3)
    (hd : ∀ H', Ex H H' → H' Dl = some (.lst (gives f n)) → Q (.ref Dl) H') : LcI J g tt te vs σ H Dl Q :=
  lc_it w (fun i H' => Ex H H' ∧ H' Dl = some (.lst (gives f i))) ⟨Ex.new hD, upd_same⟩ (fun i H' _ p => hG H' p.1) (fun i x H0 H' hi p y => hs i x H0 H' hi p.1 p.2 y) (fun H' p => hd H' p.1 p.2)
theorem gives_map (v : Nat → V) : ∀ n, gives (fun i => some (v i)) n = (List.range n).map v
  | 0 => rfl
  | n + 1 => by
    have h := gives_map v n
    show gives _ n ++ [v n] = _
    rw [h, List.range_succ, List.map_append]
    rfl
theorem gives_nil {f : Nat → Option V} : ∀ n, (∀ i, i < n → f i = none) → gives f n = []
  | 0, _ => rfl
  | n + 1, h => by
    show gives f n ++ (f n).toList = []
    rw [gives_nil n fun i hi => h i (by omega), h n (by omega)]
    rfl
end
end L2
namespace L2
open PySem PySem.Spec PyProof.Rows Evt
section
variable {X : Cx}
/-- xs + ys, of any lists (also the script) -/
def rCatS (K : PySem.W.Frag) : R2 := fun x y H Q => ∃ l b xs zs, x = .ref l ∧ y = .ref b ∧ SqL K H l xs ∧ SqL K H b zs ∧ xs.length + zs.length ≤ sizeLine ∧ New H (.lst (xs ++ zs)) fun p H2 => Q (.ref p) H2
theorem op_catS : OpR X (binaryOp .Add) (rCatS X.K) := by
  intro pins s σ H x y v u Q I rx ry h
  obtain ⟨l, b, xs, zs, rfl, rfl, hH, hB, hz, q⟩ := h
  cases rx
  cases ry
  obtain ⟨its, r, ⟨⟨cls, dd, data, sl⟩, n, ho, hc, hdd, hd⟩, _⟩ := I.list hH
  obtain ⟨its2, r2, ⟨⟨cls2, dd2, data2, sl2⟩, n2, ho2, hc2, hdd2, hd2⟩, _⟩ := I.list hB
  have l1 := r.length
  have l2 := r2.length
  simp only at hc hd hc2 hd2
  subst hc hd hc2 hd2
  have e : its.toArray ++ its2.toArray = (its ++ its2).toArray := by simp
  refine concat_meets ⟨_, ho, rfl⟩ ⟨_, ho2, rfl⟩ noFill_list_add seq_list_add PySem.F.slot_list_add PySem.F.entry_list_add (PySem.F.args_list_add_2 _ _) (list_addW l b its.toArray its2.toArray n n2 dd dd2 sl sl2 (by rw [List.size_toArray, List.size_toArray]; omega)) ⟨ho, ho2, ?_⟩
  rw [e]
  exact ⟨.ref _, _, I.lnew (t' := s.toks) (r.append r2) (by rw [List.length_append]; omega), rfl, q _ I.fresh⟩
end
theorem sum_S (f : Nat → Int) : ∀ n, ((List.range n).map f).sum = FW.S f n
  | 0 => rfl
  | n + 1 => by
    have h := sum_S f n
    rw [List.range_succ, List.map_append, List.sum_append, h]
    show FW.S f n + ([f n] : List Int).sum = FW.S f n + f n
    rw [List.sum_cons, List.sum_nil]
    omega
/-- an item of a written list at a drawn place -/
theorem at_mem {xs : List V} {i : Int} (h0 : 0 ≤ i) (h1 : i < (xs.length : Int)) : ∃ v, v ∈ xs ∧ atI xs i = some v := by
  have hj : i.toNat < xs.length := by omega
  exact ⟨xs[i.toNat], List.getElem_mem hj, at_of (j := i.toNat) (by omega) (List.getElem?_eq_getElem hj)⟩
end L2
namespace L2
open PySem PySem.Spec PyProof.Rows Evt
/-! ### lists of ints compared -/
theorem dp_ints {K : PySem.W.Frag} {H : Hp} : ∀ ns : List Int, DpAll K H (ns.map V.int) (ns.map PyData.int)
  | [] => .nil
  | n :: r => .cons (.int n) (dp_ints r)
theorem eqv_ints : ∀ xs ys : List Int, PyData.eqvAll (xs.map PyData.int) (ys.map PyData.int) = decide (xs = ys)
  | [], [] => rfl
  | [], _ :: _ => rfl
  | _ :: _, [] => rfl
  | x :: xs, y :: ys => by
    show (x == y && PyData.eqvAll (xs.map PyData.int) (ys.map PyData.int)) = _
    rw [eqv_ints xs ys]
    by_cases h : x = y
    · subst h
      by_cases h2 : xs = ys
      · subst h2
        simp
      · simp [h2]
    · have e : (x == y) = false := by simpa using h
      rw [e]
      simp [h]
theorem depth_ints : ∀ ns : List Int, PyData.depthAll (ns.map PyData.int) ≤ 1
  | [] => by simp [PyData.depthAll]
  | n :: r => by
    have h := depth_ints r
    simp only [List.map_cons, PyData.depthAll, PyData.depth]
    omega
theorem lay_ints : ∀ ns : List Int, PyData.canLayAll0 (ns.map PyData.int) = true
  | [] => rfl
  | n :: r => by
    have h := lay_ints r
    simp only [List.map_cons, PyData.canLayAll0, PyData.canLay0, h, Bool.and_self]
theorem shaped_ints (ns : List Int) : SeqAt.shaped (.list (ns.map PyData.int)) = true := by
  have h := depth_ints ns
  unfold SeqAt.shaped
  rw [Bool.and_eq_true]
  refine ⟨?_, decide_eq_true ?_⟩
  · simp only [PyData.canLay0]
    exact lay_ints ns
  · simp only [PyData.depth]
    omega
theorem neD_ints {K : PySem.W.Frag} {H : Hp} {a b : Addr} {xs ys : List Int} {Q : VK} (ha : SqL K H a (xs.map V.int)) (hb : SqL K H b (ys.map V.int)) (q : Q (.bl (!decide (xs = ys))) H) : rNeD K (.ref a) (.ref b) H Q := by
  refine ⟨_, _, .lst ha (dp_ints xs), .lst hb (dp_ints ys), shaped_ints xs, shaped_ints ys, ?_⟩
  show Q (.bl (!PyData.eqvAll _ _)) H
  rw [eqv_ints]
  exact q
theorem eqD_ints {K : PySem.W.Frag} {H : Hp} {a b : Addr} {xs ys : List Int} {Q : VK} (ha : SqL K H a (xs.map V.int)) (hb : SqL K H b (ys.map V.int)) (q : Q (.bl (decide (xs = ys))) H) : rEqD K (.ref a) (.ref b) H Q := by
  refine ⟨_, _, .lst ha (dp_ints xs), .lst hb (dp_ints ys), shaped_ints xs, shaped_ints ys, ?_⟩
  show Q (.bl (PyData.eqvAll _ _)) H
  rw [eqv_ints]
  exact q
end L2
namespace L2
open PySem PySem.Spec PyProof.Rows Evt
/-! ### the rules that name the written part, K told -/
section
variable {X : Cx} {K : PySem.W.Frag}
theorem k_isi (hK : X.K = K) : CallR X (.builtin "isinstance") (rIsi K) := hK ▸ call_isi
theorem k_isiT (hK : X.K = K) : CallR X (.builtin "isinstance") (rIsiT K) := hK ▸ call_isiT
theorem k_len (hK : X.K = K) : CallR X (.builtin "len") (fun xs H Q => ∃ p ys, xs = [.ref p] ∧ (SqL K H p ys ∨ SqT K H p ys) ∧ Q (.int ys.length) H) := hK ▸ call_len_seq
theorem k_sum (hK : X.K = K) (hc : X.calm = true) : CallR X (.builtin "sum") (rSum K) := hK ▸ cr_sum hc
theorem k_max (hK : X.K = K) (hc : X.calm = true) : CallR X (.builtin "max") (rMax K) := hK ▸ cr_max hc
theorem k_ixl (hK : X.K = K) : IxR X (rIxL K) := hK ▸ ix_list
theorem k_ixt (hK : X.K = K) : IxR X (rIxT K) := hK ▸ ix_tup
theorem k_catS (hK : X.K = K) : OpR X (binaryOp .Add) (rCatS K) := hK ▸ op_catS
theorem k_eqD (hK : X.K = K) (hu : X.A.units + 64 < cLine) : OpR X (compareOp .Eq) (rEqD K) := hK ▸ op_eqD hu
theorem k_neD (hK : X.K = K) (hu : X.A.units + 64 < cLine) : OpR X (compareOp .NotEq) (rNeD K) := hK ▸ op_neD hu
theorem k_listof (hK : X.K = K) : CallR X (.type "list") (fun xs H Q => ∃ p ys, xs = [.ref p] ∧ (SqL K H p ys ∨ SqT K H p ys) ∧ ∀ l, H l = none → Q (.ref l) (upd H l (.lst ys))) := hK ▸ call_list_of
theorem k_sll (hK : X.K = K) : SlR X (rSlL K) := hK ▸ sl_list
theorem k_pil {tg l : Expr} {tl : TE} (hK : X.K = K) (hl : PE X l tl) : PI X tg l (iList K tl) := hK ▸ pi_list hl
theorem k_pit {tg l : Expr} {tl : TE} (hK : X.K = K) (hl : PE X l tl) : PI X tg l (iTup K tl) := hK ▸ pi_tup hl
theorem k_pgt {es : List Expr} {k : Nat} {t : TGs} {n : Nat} {pos : Pos} (hK : X.K = K) (hc : X.calm = true) (h : PGs X es t) (hn : (assignEach es X.env).length = n := by rfl) (hst : (assignEach es X.env).findIdx? (·.1) = none := by rfl) : PG X (.Tuple es k pos) (gTup K n t) :=
  hK ▸ pg_tup hc h hn hst
end
def rListOf (K : PySem.W.Frag) : List V → Hp → VK → Prop := fun xs H Q => ∃ p ys, xs = [.ref p] ∧ (SqL K H p ys ∨ SqT K H p ys) ∧ New H (.lst ys) fun l H2 => Q (.ref l) H2
theorem k_listof2 {X : Cx} {K : PySem.W.Frag} (hK : X.K = K) : CallR X (.type "list") (rListOf K) := k_listof hK
theorem rSlL_eq {K : PySem.W.Frag} {x : V} {lo hi : Option Int} {H : Hp} {Q : VK} : rSlL K x lo hi H Q = ∃ a xs, x = .ref a ∧ SqL K H a xs ∧ New H (.lst (cutV xs lo hi)) fun p H2 => Q (.ref p) H2 := rfl
end L2
/-! ### defs that hold generator expressions; the law's end with tables and loose names; list(range(a, b, c)) -/
namespace L2
open PySem PySem.Spec PyProof.Rows
/-- as Fun, the code object told -/
structure FunT (K : PySem.W.Frag) (x qual : Str) (st : Stmt) (f : Addr) (fd : FuncData) (c : Addr) : Prop where
  ex : ∃ (oc : Value) (od : Option Addr) (kV doc pm : Value) (an : Option Addr) (ct : Value) (sl : Array (Option Value)), fd = PySem.W.fnOf x qual (defArgs st) (defBody st) (defScope st) .none kV doc pm an (.ref c) ct ∧ K.lookup f = some ⟨oc, od, .func fd, sl⟩ ∧ PySem.W.codeIn K (.ref c) qual = true
  kp : PySem.W.keepIn K (.ref f) = true
theorem FunT.to {K : PySem.W.Frag} {x qual : Str} {st : Stmt} {f : Addr} {fd : FuncData} {c : Addr} (F : FunT K x qual st f fd c) : Fun K x qual st f fd := by
  obtain ⟨oc, od, kV, doc, pm, an, ct, sl, h1, h2, h3⟩ := F.ex
  exact ⟨⟨oc, od, kV, doc, pm, an, _, ct, sl, h1, h2, h3⟩, F.kp⟩
section
variable {P : Program} {w : World} {K : PySem.W.Frag} {mg : Str → Option Value} {base : Heap} {x qual : Str} {st : Stmt} {f : Addr} {fd : FuncData} {N ps : List Str} {k : Nat} {sp : Sp} {c : Addr}
theorem FunT.okX (F : FunT K x qual st f fd c) (S : FnScope N ps (defScope st)) (len : ∀ vs H Q E, sp vs H Q E → vs.length = ps.length)
    (hb : ∀ (A : Around) (outer : List Env) (s : Shared) (H : Hp) (vs : List V) (Q : VK) (E : XK), Room k (A.deeper (envOfC qual (defScope st) s.heap.objs.size f (.ref c))) → sp vs H Q E →
      ∃ t, PSs (cxOf (L2.CX P w) P w K mg base N qual (defScope st) f (.ref c) A outer s H E) (defBody st) t ∧ t { nx := fun _ H' => Q .non H', rt := Q } (start N vs) H) : FnOk P w K mg base (L2.CX P w) (k + 1) f fd ps sp := by
  obtain ⟨oc, od, kV, doc, pm, an, ct, sl, rfl, h2, h3⟩ := F.ex
  exact fn_of h2 h3 S len fun A outer s H vs Q E hr hsp => hb A outer s H vs Q E hr hsp
theorem FunT.ok (F : FunT K x qual st f fd c) (S : FnScope N ps (defScope st)) (len : ∀ vs H Q E, sp vs H Q E → vs.length = ps.length)
    (hb : ∀ (A : Around) (outer : List Env) (s : Shared) (H : Hp) (vs : List V) (Q : VK) (E : XK), Room k (A.deeper (envOfC qual (defScope st) s.heap.objs.size f (.ref c))) → sp vs H Q E →
      ∃ t, PSs (cxOf CX0 P w K mg base N qual (defScope st) f (.ref c) A outer s H E).nox (defBody st) t ∧ t { nx := fun _ H' => Q .non H', rt := Q } (start N vs) H) : FnOk P w K mg base CX0 (k + 1) f fd ps sp := by
  obtain ⟨oc, od, kV, doc, pm, an, ct, sl, rfl, h2, h3⟩ := F.ex
  refine fn_of h2 h3 S len fun A outer s H vs Q E hr hsp => ?_
  obtain ⟨t, h, q⟩ := hb A outer s H vs Q E hr hsp
  exact ⟨t, h.nox, q⟩
end
theorem tab_in {K : PySem.W.Frag} {x : Str} {f c P : Addr} {oc e : Value} {od dd : Option Addr} {sl sl' : Array (Option Value)} {fd : FuncData} {vs : Array Value} (h1 : PySem.W.nsIn K mainGlobals x = some (some (.ref f))) (h2 : K.lookup f = some ⟨oc, od, .func fd, sl⟩) (h3 : fd.code = .ref c)
    (h4 : K.lookup c = some ⟨e, dd, .fields vs, sl'⟩) (h5 : vs[11]? = some (.ref P)) : PySem.W.tabIn K x = some (c, P) := by
  show (match PySem.W.nsIn K mainGlobals x with | _ => _) = _
  unfold PySem.W.tabIn
  rw [h1]
  show (match K.lookup f with | _ => _) = _
  rw [h2]
  show (match fd.code with | _ => _) = _
  rw [h3]
  show (match K.lookup c with | _ => _) = _
  rw [h4]
  show (match (vs[11]? : Option Value) with | _ => _) = _
  rw [h5]
open PySem.W in
theorem walk_ofTX {l : OpenLaw} {n k : Nat} {q : Program} {loose : List Str} {XP : (Str → Option Value) → Heap → Prop} {YP : World → Heap → Prop} {d : DefRec} {K : Params → Frag} {x : Str}
    (hn : l.most = some n) (hn2 : n ≤ sizeLine) (hdf : d.params.defaults = []) (hr : Room k callerA) (hY : ∀ (w : World) (h : Heap), YP w h → (K w.params).In h)
    (F : ∀ (w : World) (mg : Str → Option Value) (fa : Addr) (h : Heap), (K w.params).In h → h.Ns mainGlobals mg → XP mg h → (∀ (y : Str) (c P : Addr), ((recsOf q).find? (fun e => e.name == y)).isSome = true → tabIn (K w.params) y = some (c, P) → CodeHd h c P ∧ h.get? P = some (tabObj #[])) →
      mg d.name = some (.ref fa) → LamX.LawAtS l w (K w.params) CX0 k n x mg fa h) :
    WalkO q loose XP YP l.row.toRowW d [] (fun f vs => PySem.call f vs) := by
  refine Att.attach_callB hn hdf fun w s₀ s₁ mg mb fa o pm cd doc a vs ns G Y ho hd hcd hmg hobj hints hlen hbits hg => ?_
  have KX := hY w _ Y
  obtain ⟨fd, cs, sp, hT, nT, C, hb, hsp, hF⟩ := F w mg fa _ KX G.T.g G.X (fun y c P hs ht => by
    obtain ⟨e, he⟩ := Option.isSome_iff_exists.mp hs
    exact tab_of G.T KX he ht) hmg
  exact LamX.law_callTs KX G.T.g G.T.b G.T.builtins G.T.nolimit hg hT nT C G.T.bmain hobj hints (Nat.le_trans hlen hn2) hr hF hb (fun H hH hS => hsp H a ns hlen hbits hH hS) fun H e s' z => z
/-! ### list(range(a, b, c)) -/
def rgC (i c : Int) (n : Nat) : List V := (List.range n).map fun k => V.int (i + (k : Nat) * c)
def tLstR3 (ta : TA) : TE := fun σ H Q => ta σ H fun vs H1 => ∃ (i j c : Int) (n : Nat), vs = [.int i, .int j, .int c] ∧ RgC i j c n ∧ n ≤ 1000000 ∧ New H1 (.lst (rgC i c n)) fun p H2 => Q (.ref p) H2
theorem pe_listRg3 {X : Cx} {a b c : Expr} {ta : TA} {p pos p2 pos2 : Pos} (hc : X.calm = true) (hg : Gl X "list") (hm : X.mg "list" = none) (hg2 : Gl X "range") (hm2 : X.mg "range" = none) (ha : PA X [a, b, c] ta)
    (hs : starEach [a, b, c] X.env = (false, eval a X.env) :: starEach [b, c] X.env := by rfl) (hpl : (backTo pos2 (starEach [b, c] X.env)).any (·.1) = false := by rfl)
    (na : starEach [.Call (.Name "range" p2) [a, b, c] [] pos2] X.env = (false, eval (.Call (.Name "range" p2) [a, b, c] [] pos2) X.env) :: starEach [] X.env := by rfl) :
    PE X (.Call (.Name "list" p) [.Call (.Name "range" p2) [a, b, c] [] pos2] [] pos) (tLstR3 ta) := by
  refine ⟨fun pins s σ H Q I h => Call_ (ld_blt I hg hm boot_list (PyProof.Rows.callWith_type1 (args_cons (Call_ (ld_blt I hg2 hm2 boot_range (PyProof.Rows.callWith_type1 (thn (ha.run pos2 pins s σ H _ I h) fun us s1 ⟨vs, H1, I1, r1, q1⟩ => ?_) hs hpl))) na) na))⟩
  obtain ⟨i, j, k, n, e, ⟨c0, c1, c2, c3⟩, hn, q⟩ := q1
  subst e
  cases r1 with | cons r rr => cases rr with | cons r' rr => cases rr with | cons r'' rr =>
    cases rr
    obtain ⟨t, rfl⟩ := r
    obtain ⟨t', rfl⟩ := r'
    obtain ⟨t'', rfl⟩ := r''
    refine call_range_3 c0 (args_nil ?_) (.inl (PyProof.noPylong_small c1))
    have I2 : Inv X pins σ H1 { s1 with heap := s1.heap.push { cls := .type "range", data := .fields #[.int i t, .int j t', .int k t''] } } := I1.kept (t' := s1.toks) fun b o e => Heap.get?_push_of_some _ e
    refine call_list_range (n := n) (I1.ok.hd hc) (IsRange.new ..) c2 c3 (by omega) fun h' tk acc c' hk e' hi => ?_
    refine ⟨.ref _, upd H1 _ (.lst (rgC i k n)), I2.laid hk (Nat.le_refl _) (show ObjOk X.prog X.w _ _ _ (.lst (rgC i k n)) from ⟨?_, acc.toList, c', ?_, ?_⟩), rfl, q _ (I2.hok.fresh (Nat.le_refl _))⟩
    · unfold rgC
      rw [List.length_map, List.length_range, sizeLine_eq]
      omega
    · have e : acc.toList.length = n := by rw [Array.length_toList]; exact hi.1
      unfold rgC
      rw [← e]
      refine vals_of_get acc.toList _ fun j u hj => ?_
      obtain ⟨t, rfl⟩ := hi.2 j u (by rw [← hj, Array.getElem?_toList])
      exact ⟨t, rfl⟩
    · rw [Array.toArray_toList]; exact e'
/-! ### a generator expression's turns by an invariant -/
theorem gx_it {C : Type} {J : It} {n : Nat} {G : Hp → Prop} {Y : Nat → Hp → V → Hp → Prop} (w : Walk J n G Y) {gg : TG} {te : TE} {vs : List Nat} {σ : St} {H0 : Hp} {c0 : C} {fin : C → Hp → Prop} {step : C → V → Hp → (C → Prop) → Prop} (Pv : Nat → C → Hp → Prop) (h0 : Pv 0 c0 H0) (hG : ∀ i c H, i ≤ n → Pv i c H → G H)
    (hs : ∀ i x c H H', i < n → Pv i c H → Y i H x H' → gg x (wipe σ vs) H' fun σ2 H2 => wipe σ2 vs = wipe σ vs ∧ te σ2 H2 fun y H4 => step c y H4 fun c' => Pv (i + 1) c' H4) (hd : ∀ c H, Pv n c H → fin c H) : GxI J gg te vs σ H0 c0 fin step := by
  refine ⟨fun i m c H => m = n - i ∧ i ≤ n ∧ Pv i c H, ⟨n, rfl, Nat.zero_le _, h0⟩, ?_⟩
  rintro i m c H ⟨rfl, hi, p⟩
  have q := hG i c H hi p
  by_cases hlt : i < n
  · exact .inr ⟨w.goes i H hlt q, Pv (i + 1), fun c' H' p' => ⟨n - (i + 1), by omega, rfl, hlt, p'⟩, fun x H' y => hs i x c H H' hlt p (w.yields i H x H' hlt q y)⟩
  · have e : i = n := by omega
    subst e
    exact .inl ⟨w.stops H q, hd c H p⟩
end L2
/-! ### an exception that is caught and kept by a name -/
namespace L2
open PySem PySem.Spec PyProof.Rows Evt
/-- a caught exception of the class cls (its own dict d), at a -/
def ExK (cls : Value) (d : Option Addr) (a : Addr) : HO := .ext fun h => ∃ (oe : Obj) (vs : Array Value), h.get? a = some oe ∧ Zc cls d oe ∧ oe.data = .fields vs
theorem exK_ok {P : Program} {w : World} {H : Hp} {h : Heap} {a : Addr} {cls : Value} {d : Option Addr} {oe : Obj} {vs : Array Value} (e : h.get? a = some oe) (z : Zc cls d oe) (q : oe.data = .fields vs) : ObjOk P w H h a (ExK cls d a) :=
  ⟨⟨oe, vs, e, z, q⟩, ⟨oe, e⟩, fun _ _ k1 k2 => by
    obtain ⟨o, v, g, r⟩ := k1
    exact ⟨o, v, k2 o g, r⟩⟩
section
variable {X : Cx} {pins : List (Addr × Obj)} {σ : St} {H : Hp} {s : Shared}
/-- what stands in the heap untracked, and is no older than the def's entry, may be tracked -/
theorem Inv.track {a : Addr} {oe : Obj} {o : HO} {vs : Array Value} (J : Inv X pins σ H s) (ha : s.heap.get? a = some oe) (hd : oe.data = .fields vs) (na : H a = none) (nL : a ≠ X.env.locals) (n0 : X.s_0.heap.get? a = none) (hp : ∀ p ∈ X.pn ++ pins, p.1 ≠ a)
    (ho : ObjOk X.prog X.w (upd H a o) s.heap a o) : Inv X pins σ (upd H a o) s := by
  have old : ∀ b u, H b = some u → b ≠ a := fun b u e => ne_of_none e na
  have ent : ∀ b u, X.s_0.heap.get? b = some u → b ≠ a := fun b u e z => by
    rw [z, n0] at e
    exact nomatch e
  have U := J.base
  constructor
  · exact J.ok
  · exact J.os
  · exact J.bare
  · refine ⟨U.keep, U.slot, ?_, U.there, ?_, ?_, ?_⟩
    · intro b u e n hx
      rw [upd_ne (ent b u e)]
      exact U.free b u e n hx
    · intro b xs e
      have q := U.tups b xs e
      rw [upd_ne (old _ _ q), q]
    · intro b u v e
      have q := U.frzs b u v e
      rw [upd_ne (old _ _ q), q]
    · intro b ps e
      obtain ⟨m, q⟩ := U.tbls b ps e
      exact ⟨m, by rw [upd_ne (old _ _ q), q]⟩
  · exact J.loc
  · exact J.cell
  · rw [upd_ne (Ne.symm nL)]
    exact J.free
  · intro x c e
    have nc : c ≠ a := fun z => by
      obtain ⟨v, oc, q1, q2⟩ := J.cell x c e
      rw [z, ha] at q1
      cases q1
      rw [hd] at q2
      exact nomatch q2
    rw [upd_ne nc]
    exact J.freeC x c e
  · intro p h
    obtain ⟨q1, q2, q3⟩ := J.pin p h
    exact ⟨q1, by rw [upd_ne (hp p h)]; exact q2, q3⟩
  · intro b u e
    by_cases hb : b = a
    · rw [hb, upd_same] at e
      cases e
      rw [hb]
      exact ho
    · rw [upd_ne hb] at e
      exact (J.hok b u e).stay (fun _ _ _ q => q) (fun c q => by rw [upd_ne (old _ _ q)]; exact q) fun c xs q => by rw [upd_ne (old _ _ q)]; exact q
  · exact J.len
/-- the wish of «except c as n: y = n» (n in slot i, y in slot j): behind it y is the exception, tracked -/
def wKeep (K : PySem.W.Frag) (c : Value) (i j : Nat) (D : Ends) : WX := fun cls d σ H =>
  PySem.W.exmOne K cls c = some true ∧ ∀ a, H a = none → D.nx (((σ.set i (some (.ref a))).set j (some (.ref a))).set i none) (upd H a (ExK cls d a))
theorem ps_try_keep {x n y : Str} {c : Value} {i j : Nat} {body : List Stmt} {np p1 p2 p3 pos pos' : Pos} {tb : WX → TS} (hs : X.stack = X.env :: X.outer) (hf : X.env.frame = some X.env.locals) (hex : X.ex = []) (hN : X.N.Nodup) (hi : X.N[i]? = some n) (hj : X.N[j]? = some y)
    (kn : X.env.kindOf n = some .local) (ky : X.env.scope.names.lookup y = some .local) (vn : Vis X.env.scope n) (hc : Names X x c)
    (hb : ∀ (W : WX) (pn : List (Addr × Obj)) (xe : Value → Shared → Prop), Takes (X.tr pn xe) W → PassesOwn (model X.prog X.w) X.A X.env xe → PSs (X.tr pn xe) body (tb W))
    (sw : swapsWith (.Name n p2) (some (.Name y p1)) p3.line X.env = pure false := by rfl) (dn : (n == ("__debug__" : Str)) = false := by decide) (cn : (n == ("__classdict__" : Str)) = false := by decide) :
    PS X (.Try body [.ExceptHandler (some (.Name x np)) (some n) [.Assign [.Name y p1] (.Name n p2) p3] pos'] [] [] pos) (fun D σ H => tb (wKeep X.K c i j D) D σ H) := by
  constructor
  intro pins s σ H D I h
  have ok := I.ok
  have fr : X.A.frames = some (X.env :: X.outer) := ok.frames.trans (congrArg some hs)
  apply wpAny_Try_except
  refine wpAny_mono ((hb (wKeep X.K c i j D) (X.pn ++ pins) (fun e s₁ => wpAny (model X.prog X.w) X.A (noteFrame e X.env) (fun _ s₂ => wpAny (model X.prog X.w) X.A (setFlight e none)
    (fun _ s₃ => wpAny (model X.prog X.w) X.A (handleBy e X.env [.ExceptHandler (some (.Name x np)) (some n) [.Assign [.Name y p1] (.Name n p2) p3] pos']) (SP X pins D) X.xe s₃) X.xe s₂) X.xe s₁) ?hca PassesOwn.looking).run [] s σ H D (I.toTry _) h) (fun f s1 hsp => ?fin) (fun _ _ z => z)
  case hca =>
    rintro u s' ⟨a, B, sI, pq, σ', H', cls, d, rfl, J', nb, up, sky, na, os, ag, match_, then_⟩
    have J : Inv X pins σ' H' sI := J'.ofTry ok
    rw [show (X.tr (X.pn ++ pins) _).stack = X.env :: X.outer from hs] at sky
    refine Sky.land Zc.steady fr hf sky fun h3 fl3 up3 => ?_
    have J3 : Inv X pins σ' H' { s' with heap := h3 } := J.landed nb fl3.1 (up.trans up3) os ag
    obtain ⟨oe3, vs3, he3, hz3, hd3⟩ := fl3.there
    have nfr : a ∉ frs (X.env :: X.outer) := fun hm => by
      obtain ⟨_, o', e', hnf⟩ := fl3.2.2.1.mem hm
      rw [he3] at e'
      cases e'
      exact hnf _ hd3
    have nL : a ≠ X.env.locals := fun z => nfr (List.mem_filterMap.mpr ⟨X.env, List.mem_cons_self, by rw [hf, z]⟩)
    have nF : a ∉ X.fs := fun hm => by
      obtain ⟨e, he, q⟩ := List.mem_filterMap.mp hm
      exact nfr (List.mem_filterMap.mpr ⟨e, List.mem_cons_of_mem _ he, q⟩)
    have nI : sI.heap.get? a = none := by
      cases q : sI.heap.get? a with
      | none => rfl
      | some o => exact nomatch (fl3.2.1.symm.trans (nb a o q (by rw [hs]; exact nfr)))
    have n0 : X.s_0.heap.get? a = none := by
      cases q : X.s_0.heap.get? a with
      | none => rfl
      | some o =>
        obtain ⟨o', q'⟩ := J.base.there a o q (by rw [hex]; exact fun z => nomatch z)
        exact nomatch (nI.symm.trans q')
    have S3 := J3.suite he3 hd3 na nL nF
    refine wpAny_handleBy_cons (codeAny_handlers_test ?_) (fun q => nomatch q)
    have LT : PySem.W.Looks (model X.prog X.w) h3 (typeOf (.ref a)) cls := fun A Q E s k q => wpAny_typeOf_ref (k _ _ he3) (hz3.1.symm ▸ q)
    have LM := PySem.W.exm_one (M := model X.prog X.w) J3.kIn LT match_
    have named : ∀ {Q : Value → Shared → Prop} {E : Value → Shared → Prop}, Q c { s' with heap := h3 } → wpAny (model X.prog X.w) (X.A.mark (some (.ref a))) (eval (.Name x np) X.env) Q E { s' with heap := h3 } := by
      intro Q E q
      rcases hc with ⟨hg, hdbg, hm | ⟨hm, hv, hnn⟩⟩
      · exact ld_glob (X := X.suite a ((a, oe3) :: (X.pn ++ pins))) S3 hg hm q hdbg -- the clause's class
      · exact ld_blt (X := X.suite a ((a, oe3) :: (X.pn ++ pins))) S3 hg hm hv q hnn hdbg -- ..
    refine named (LM.here (codeAny_handlers_suite_as (HandSPX.lands_againZ fl3 fun h4 fl4 up4 => ?_)))
    have J4 : Inv X pins σ' H' { s' with heap := h4 } := J.landed nb fl4.1 ((up.trans up3).trans up4) os ag
    obtain ⟨oe, vs, he, hz, hd⟩ := fl4.there
    have S4 := J4.suite he hd na nL nF
    refine store_ok (X := X.suite a ((a, oe) :: (X.pn ++ pins))) (v := .ref a) S4 hN hi (.inl kn) rfl (fun s5 S5 => ?_) (.inr kn)
    have st : PSs (X.suite a ((a, oe) :: (X.pn ++ pins))) [.Assign [.Name y p1] (.Name n p2) p3] (tAsg (tVar i) (gName j)) := pss_one (ps_set (X := X.suite a ((a, oe) :: (X.pn ++ pins))) hN hj (.inl ky) (pe_var hi vn dn cn) sw (.inr ky))
    have li : i < σ'.length := by
      rw [J.len]
      exact (List.getElem?_eq_some_iff.mp hi).1
    refine wpAny_mono (st.run [] s5 _ H' { nx := fun σ6 H6 => σ6 = (σ'.set i (some (.ref a))).set j (some (.ref a)) ∧ H6 = H', rt := fun _ _ => False, bk := fun _ _ => False, ct := fun _ _ => False } S5 ⟨.ref a, List.getElem?_set_self li, rfl, rfl⟩) (fun f s6 hsp => ?_) (fun _ _ z => z.elim)
    cases f with
    | next =>
      obtain ⟨σ6, H6, S6, rfl, rfl⟩ := hsp
      have S7 : Inv X ((a, oe) :: pins) ((σ'.set i (some (.ref a))).set j (some (.ref a))) H6 s6 :=
        ⟨ok, S6.os, S6.bare, S6.base, S6.loc, S6.cell, S6.free, S6.freeC, fun p hp => S6.pin p (by
          rcases List.mem_append.mp hp with q | q
          · exact List.mem_append_left _ (List.mem_cons_of_mem _ (List.mem_append_left _ q))
          · rcases List.mem_cons.mp q with q | q
            · exact List.mem_append_left _ (List.mem_cons.mpr (.inl q))
            · exact List.mem_append_left _ (List.mem_cons_of_mem _ (List.mem_append_right _ q))), S6.hok, S6.len⟩
      refine gone_ok S7 hN hi kn fun s8 J8 => ?_
      obtain ⟨g1, g2, _⟩ := J8.pin (a, oe) (List.mem_append_right _ List.mem_cons_self)
      have J9 : Inv X pins (((σ'.set i (some (.ref a))).set j (some (.ref a))).set i none) H6 s8 := J8.pins_of fun p hp => J8.pin p (List.mem_append_right _ (List.mem_cons_of_mem _ hp))
      refine ⟨_, _, J9.track g1 hd g2 nL n0 (fun p hp z => ?_) (exK_ok g1 hz hd), then_ a na⟩
      have q := (J.pin p hp).1
      rw [z, nI] at q
      exact nomatch q
    | ret u =>
      obtain ⟨_, _, _, _, _, z⟩ := hsp
      exact z.elim
    | brk =>
      obtain ⟨_, _, _, z⟩ := hsp
      exact z.elim
    | cont =>
      obtain ⟨_, _, _, z⟩ := hsp
      exact z.elim
  case fin =>
    cases f with
    | next =>
      obtain ⟨σ', H', K', q⟩ := hsp
      exact wpAny_execs_nil ⟨σ', H', K'.ofTry ok, q⟩
    | ret u =>
      obtain ⟨v, σ', H', K', r, q⟩ := hsp
      exact ⟨v, σ', H', K'.ofTry ok, r, q⟩
    | brk =>
      obtain ⟨σ', H', K', q⟩ := hsp
      exact ⟨σ', H', K'.ofTry ok, q⟩
    | cont =>
      obtain ⟨σ', H', K', q⟩ := hsp
      exact ⟨σ', H', K'.ofTry ok, q⟩
end
/-! ### isinstance of it -/
inductive TyY (K : PySem.W.Frag) (H : Hp) : V → Value → Prop where
  | base {x : V} {t : Value} (h : TyX K H x t) : TyY K H x t
  | exc {a D : Addr} (e : H a = some (ExK (.ref D) none a)) (C : ExcC K D) : TyY K H (.ref a) (.ref D)
section
variable {X : Cx} {pins : List (Addr × Obj)} {σ : St} {H : Hp} {s : Shared}
theorem kit_y {x : V} {u t : Value} (I : Inv X pins σ H s) (rx : RelV x u) (ty : TyY X.K H x t) : ∃ P : Heap → Prop, PySem.W.KitX X.K u t P ∧ P s.heap ∧ u ≠ .builtin "__main__.__loader__#opaque" := by
  cases ty with
  | base h => exact kit_of I rx h
  | @exc a D e C =>
    cases (show u = Value.ref a from rx)
    obtain ⟨⟨oe, vs, ho, hz, hd⟩, _⟩ := (show ObjOk X.prog X.w H s.heap a (ExK (.ref D) none a) from I.hok a _ e)
    obtain ⟨oc, od, oda, osl⟩ := oe
    obtain ⟨z1, z2⟩ := hz
    dsimp only at z1 z2 hd
    subst z1 z2 hd
    exact ⟨_, PySem.W.handS_kitx_exc C.hg C.hk C.hs C.hd C.ha C.hn C.ht C.hm, ⟨ho, rfl, rfl, trivial⟩, fun z => nomatch z⟩
def rIsY (K : PySem.W.Frag) : List V → Hp → VK → Prop := fun xs H Q => ∃ (x c : V) (t u : Value) (b : Bool), xs = [x, c] ∧ ClsV c u ∧ TyY K H x t ∧ PySem.W.kitOne K t u = some b ∧ Q (.bl b) H
def rIsYT (K : PySem.W.Frag) : List V → Hp → VK → Prop := fun xs H Q => ∃ (x : V) (tp : Addr) (cs : List V) (t : Value) (us : List Value) (b : Bool), xs = [x, .ref tp] ∧ H tp = some (.tup cs) ∧ Paired ClsV cs us ∧ TyY K H x t ∧ PySem.W.kitAny K t us = some b ∧ Q (.bl b) H
theorem k_isY {K : PySem.W.Frag} (hK : X.K = K) : CallR X (.builtin "isinstance") (rIsY K) := by
  subst hK
  intro pins s σ H xs us Q I r h
  obtain ⟨x, c, t, u, b, rfl, k, ty, e, q⟩ := h
  obtain ⟨u1, u2, rfl, r1, r2⟩ := vals2 r
  cases k.eq r2
  obtain ⟨P, Z, p, hx⟩ := kit_y I r1 ty
  exact PySem.W.kia_one Z I.kIn p e hx fun tk => ⟨.bl b, H, I.tok tk, rfl, q⟩
theorem k_isYT {K : PySem.W.Frag} (hK : X.K = K) : CallR X (.builtin "isinstance") (rIsYT K) := by
  subst hK
  intro pins s σ H xs us Q I r h
  obtain ⟨x, tp, cs, t, ws, b, rfl, hT, k, ty, e, q⟩ := h
  obtain ⟨u1, u2, rfl, r1, r2⟩ := vals2 r
  cases (show u2 = Value.ref tp from r2)
  obtain ⟨P, Z, p, hx⟩ := kit_y I r1 ty
  obtain ⟨_, its, rv, ⟨oc, od, dt, sl⟩, h1, h2, n, h3⟩ := (show ObjOk X.prog X.w H s.heap tp (.tup cs) from I.hok tp _ hT)
  cases ClsV.all k rv
  dsimp only at h2 h3
  subst h2 h3
  exact PySem.W.kia_tup Z I.kIn p h1 e hx fun tk => ⟨.bl b, H, I.tok tk, rfl, q⟩
end
theorem isy {K : PySem.W.Frag} {H : Hp} {x : V} {t : Value} {n : String} {b : Bool} {Q : VK} (ht : TyY K H x t) (hk : PySem.W.kitOne K t (.type n) = some b) (q : Q (.bl b) H) : rIsY K [x, .ty n] H Q := ⟨x, .ty n, t, .type n, b, rfl, .ty n, ht, hk, q⟩
theorem isyC {K : PySem.W.Frag} {H : Hp} {x : V} {t : Value} {C : Addr} {b : Bool} {Q : VK} (ht : TyY K H x t) (hk : PySem.W.kitOne K t (.ref C) = some b) (q : Q (.bl b) H) : rIsY K [x, .ref C] H Q := ⟨x, .ref C, t, .ref C, b, rfl, .own C, ht, hk, q⟩
end L2
namespace L2
open PySem PySem.Spec PyProof.Rows Evt
/-! ### own exceptions: facts of a class, raise, calls that may raise -/
/-- the class at C, called x, over the class at S, without a method of its own -/
structure Ex1 (K : PySem.W.Frag) (mg : Str → Option Value) (C S : Addr) (x : Str) : Prop where
  g : mg x = some (.ref C)
  xin : PySem.W.excIn K C [.type "ValueError", .type "Exception", .type "BaseException", .type "object"] "ValueError.__new__" = true
  kp : PySem.W.keepIn K (.ref C) = true
  sb : PySem.W.subIn K (.ref C) (.type "BaseException") = some true
  ty : PySem.W.typeIn K (.ref C) = some (.type "type")
  ec : ExcC K C
  em : PySem.W.exmOne K (.ref C) (.ref S) = some true
section
variable {X : Cx} {k : Nat} {ps : List Str} {sp : Sp} {x : Str} {p pos pos2 : Pos} {e : Expr} {es : List Expr} {t : TA} {E : XK} {W : WX} {C S : Addr} {te : TE}
theorem pe_fnX (F : Fn X.prog X.w X.K X.mg X.base x ps (L2.CX X.prog X.w) k sp) (hr : Room k X.A) (hx : Passes (L2.CX X.prog X.w) X E) (ha : PA X (e :: es) t) (hg : Gl X x := by rfl) (hdb : (x == ("__debug__" : Str)) = false := by decide)
    (he : starEach (e :: es) X.env = (false, eval e X.env) :: starEach es X.env := by rfl) (hpl : (backTo pos (starEach es X.env)).any (·.1) = false := by rfl) :
    PE X (.Call (.Name x p) (e :: es) [] pos) (tCall sp [] E t) := by
  obtain ⟨f, fd, h1, h2, h3, h4⟩ := F
  exact pe_call h1 hr hg h2 h3 h4 .nil hx ha hdb he hpl
theorem pe_fnS (F : Fn X.prog X.w X.K X.mg X.base x ps (L2.CX X.prog X.w) k sp) (hr : Room k X.A) (tk : Takes X W) (ha : PA X (e :: es) t) (hg : Gl X x := by rfl) (hdb : (x == ("__debug__" : Str)) = false := by decide)
    (he : starEach (e :: es) X.env = (false, eval e X.env) :: starEach es X.env := by rfl) (hpl : (backTo pos (starEach es X.env)).any (·.1) = false := by rfl) :
    PE X (.Call (.Name x p) (e :: es) [] pos) (tCallS sp (WE W) t) := by
  obtain ⟨f, fd, h1, h2, h3, h4⟩ := F
  exact pe_callS h1 hr hg h2 h3 h4 (fun σ => passAt tk σ) ha hdb he hpl
/-- raise C(e) -/
def tRaise1 (C : Addr) (W : WX) (te : TE) : TS := fun _ σ H => te σ H fun _ H1 => W (.ref C) none σ H1
theorem ps_raise1 (hc : X.calm = true) (T : Ex1 X.K X.mg C S x) (tk : Takes X W) (he : PE X e te) (hg : Gl X x := by rfl) (hs : starEach [e] X.env = (false, eval e X.env) :: starEach [] X.env := by rfl) (hdb : (x == ("__debug__" : Str)) = false := by decide) :
    PS X (.Raise (some (.Call (.Name x p) [e] [] pos)) none pos2) (tRaise1 C W te) := ps_raise hc tk (SkE.pmk_own1 PySem.F.excBase_ValueError T.xin T.g T.kp (raises_own T.sb T.ty) hg he hs hdb)
end
def NewD (H : Hp) (o : Addr → HO) (R : Addr → Hp → Prop) : Prop := ∀ p, H p = none → R p (upd H p (o p))
theorem newD_of {H : Hp} {o : Addr → HO} {R : Addr → Hp → Prop} (h : ∀ p H', H p = none → Ex H H' → H' p = some (o p) → R p H') : NewD H o R := fun p np => h p _ np (Ex.new np) upd_same
theorem wKeep_eq {K : PySem.W.Frag} {c : Value} {i j : Nat} {D : Ends} {cls : Value} {d : Option Addr} {σ : St} {H : Hp} :
    wKeep K c i j D cls d σ H = (PySem.W.exmOne K cls c = some true ∧ NewD H (ExK cls d) fun a H1 => D.nx (((σ.set i (some (.ref a))).set j (some (.ref a))).set i none) H1) := rfl
theorem str_len (a b : Str) : (a ++ b).length = a.length + b.length := PySem.Str.length_append a b
theorem int_len {i : Int} (h : i.natAbs < 2 ^ 1000) : i.natAbs.log2 < 1920 ∧ (Str.ofString (toString i)).length ≤ 2000 := by
  have hl : i.natAbs.log2 < 1000 := by
    by_cases z : i.natAbs = 0
    · rw [z]
      decide
    · exact (Nat.log2_lt z).mpr h
  refine ⟨by omega, ?_⟩
  have q := int_text_length_le (a := i) (k := 1000) (by decide) hl
  rw [PySem.ofString_length]
  omega
end L2
namespace L2
open PySem PySem.Spec PyProof.Rows Evt
theorem isy_ty {K : PySem.W.Frag} {H : Hp} {x : V} {s n : String} {b : Bool} {Q : VK} (ht : TyX K H x (.type s)) (hk : kitB s n = some b) (q : Q (.bl b) H) : rIsY K [x, .ty n] H Q := isy (.base ht) (kit_ty hk) q
theorem isy_int {K : PySem.W.Frag} {H : Hp} {i : Int} {n : String} {b : Bool} {Q : VK} (hk : kitB "int" n = some b) (q : Q (.bl b) H) : rIsY K [.int i, .ty n] H Q := isy_ty (.base (.int i)) hk q
theorem str_empty : Str.empty.length = 0 := rfl
theorem rNe_str {a b : Str} {H : Hp} {Q : VK} : rNe (.str a) (.str b) H Q = Q (.bl (!decide (a = b))) H := by
  have e : decide (V.str a = V.str b) = decide (a = b) := by simp
  refine propext ⟨fun h => ?_, fun q => ⟨rfl, ?_⟩⟩
  · have h2 := h.2
    rw [e] at h2
    exact h2
  · rw [e]
    exact q
theorem rEq_str {a b : Str} {H : Hp} {Q : VK} : rEq (.str a) (.str b) H Q = Q (.bl (decide (a = b))) H := by
  have e : decide (V.str a = V.str b) = decide (a = b) := by simp
  refine propext ⟨fun h => ?_, fun q => ⟨rfl, ?_⟩⟩
  · have h2 := h.2
    rw [e] at h2
    exact h2
  · rw [e]
    exact q
theorem rEq_bl {a b : Bool} {H : Hp} {Q : VK} : rEq (.bl a) (.bl b) H Q = Q (.bl (decide (a = b))) H := by
  have e : decide (V.bl a = V.bl b) = decide (a = b) := by simp
  refine propext ⟨fun h => ?_, fun q => ⟨rfl, ?_⟩⟩
  · have h2 := h.2
    rw [e] at h2
    exact h2
  · rw [e]
    exact q
end L2
namespace L2
open PySem PySem.Spec PyProof.Rows Evt
def tDictN : TE := fun _ H Q => New H (.dK []) fun p H2 => Q (.ref p) H2
theorem pe_dnewN {X : Cx} {pos : Pos} : PE X (.Dict [] [] pos) tDictN := pe_dnewK
theorem tyx_mono {K : PySem.W.Frag} {H H' : Hp} {x : V} {t : Value} (e : Ex H H') (h : TyX K H x t) : TyX K H' x t := by
  cases h with
  | base h =>
    cases h with
    | non => exact .base .non
    | bl b => exact .base (.bl b)
    | int i => exact .base (.int i)
    | str z => exact .base (.str z)
    | flt z => exact .base (.flt z)
    | lst q => exact .base (.lst (e _ _ q))
    | frz q => exact .base (.frz (e _ _ q))
    | tup q => exact .base (.tup (e _ _ q))
    | dK q => exact .base (.dK (e _ _ q))
    | dT q => exact .base (.dT (e _ _ q))
    | ins q c1 c2 c3 c4 c5 => exact .base (.ins (e _ _ q) c1 c2 c3 c4 c5)
  | byt b => exact .byt b
  | set q => exact .set (e _ _ q)
  | kList q c => exact .kList q c
  | kTuple q c => exact .kTuple q c
  | kDict q c => exact .kDict q c
  | fTuple q => exact .fTuple (e _ _ q)
  | fDict q => exact .fDict (e _ _ q)
end L2
namespace L2
open PySem PySem.Spec PyProof.Rows Evt
/-- one statement at a time -/
theorem cut_eq {t u : TS} {D : Ends} {σ : St} {H : Hp} (h : ∀ N, u D = N → t { D with nx := N } σ H) : tSeq t u D σ H := h _ rfl
theorem asg_eq {te : TE} {g : TG} {D : Ends} {σ : St} {H : Hp} (h : ∀ N : VK, (fun x H1 => g x σ H1 D.nx) = N → te σ H N) : tAsg te g D σ H := h _ rfl
theorem ret_eq {te : TE} {D : Ends} {σ : St} {H : Hp} (h : ∀ N : VK, D.rt = N → te σ H N) : tRet te D σ H := h _ rfl
end L2
namespace L2
open PySem PySem.Spec PyProof.Rows Evt
section
variable {K : PySem.W.Frag} {t : Value} {C : Addr} {b : Bool}
theorem kitCls_own (h1 : PySem.W.isClsIn K C = true) (h2 : PySem.W.typeIn K (.ref C) = some (.type "type")) (h3 : PySem.W.subIn K t (.ref C) = some b) : PySem.W.kitCls K t (.ref C) = some b := by
  have e : ((PySem.W.clsIn K C).isSome && PySem.W.typeIn K (.ref C) == some (.type "type")) = true := by
    have h1' : (PySem.W.clsIn K C).isSome = true := h1
    rw [h1', h2]
    rfl
  show (if _ then _ else _) = _
  rw [if_pos e]
  exact h3
theorem kitOne_own (self : PySem.W.subIn K t t = some true) (h1 : PySem.W.isClsIn K C = true) (h2 : PySem.W.typeIn K (.ref C) = some (.type "type")) (h3 : PySem.W.subIn K t (.ref C) = some b) : PySem.W.kitOne K t (.ref C) = some b := by
  unfold PySem.W.kitOne
  by_cases h : (t == Value.ref C) = true
  · have e : t = .ref C := beq_iff_eq.mp h
    rw [if_pos h]
    rw [← e, self] at h3
    exact h3
  · rw [if_neg h]
    exact kitCls_own h1 h2 h3
theorem kitOne_ty {n : String} {D : Addr} (hm : PySem.W.kitMeta n = true) (h3 : PySem.W.subIn K (.ref D) (.type n) = some b) : PySem.W.kitOne K (.ref D) (.type n) = some b := by
  unfold PySem.W.kitOne
  rw [if_neg (by intro q; exact nomatch (beq_iff_eq.mp q))]
  show (if _ then _ else _) = _
  rw [if_pos hm]
  exact h3
theorem exm_own (h0 : PySem.W.subIn K (.ref C) (.type "BaseException") = some true) (h1 : PySem.W.isClsIn K C = true) (h2 : PySem.W.typeIn K (.ref C) = some (.type "type")) (h3 : PySem.W.subIn K t (.ref C) = some b) : PySem.W.exmOne K t (.ref C) = some b := by
  unfold PySem.W.exmOne
  rw [h0, if_pos (by rfl)]
  exact kitCls_own h1 h2 h3
theorem kitAny_no {cs : List Value} (h : ∀ c ∈ cs, PySem.W.kitOne K t c = some false) : PySem.W.kitAny K t cs = some false := by
  induction cs with
  | nil => rfl
  | cons c r ih => exact kitAny_cons (h c List.mem_cons_self) (fun _ => ih fun d hd => h d (List.mem_cons_of_mem _ hd)) (fun z => nomatch z)
end
end L2
namespace FW
open PySem PySem.Spec PyProof.Rows L2
def topS (i : Nat) : Stmt := PySem.Challenge.pw_flywright_k01_reach_and_braked.main.body.getD i (.Pass ⟨0, 0, 0, 0⟩)
abbrev s_is_whole : Stmt := topS 17
theorem sc_is_whole : FnScope ["thing", "least", "most"] ["thing", "least", "most"] (defScope s_is_whole) := ⟨rfl, rfl, rfl, by decide +kernel, rfl, by decide +kernel, by decide +kernel⟩
abbrev s_need_whole : Stmt := topS 18
theorem sc_need_whole : FnScope ["thing", "least", "most", "what"] ["thing", "least", "most", "what"] (defScope s_need_whole) := ⟨rfl, rfl, rfl, by decide +kernel, rfl, by decide +kernel, by decide +kernel⟩
abbrev s_need_drive : Stmt := topS 19
theorem sc_need_drive : FnScope ["pace", "gain"] ["pace", "gain"] (defScope s_need_drive) := ⟨rfl, rfl, rfl, by decide +kernel, rfl, by decide +kernel, by decide +kernel⟩
abbrev s_reach : Stmt := topS 20
theorem sc_reach : FnScope ["many", "pace", "gain", "each"] ["many", "pace", "gain"] (defScope s_reach) := ⟨rfl, rfl, rfl, by decide +kernel, rfl, by decide +kernel, by decide +kernel⟩
abbrev s_braked : Stmt := topS 21
theorem sc_braked : FnScope ["step", "gain"] ["step", "gain"] (defScope s_braked) := ⟨rfl, rfl, rfl, by decide +kernel, rfl, by decide +kernel, by decide +kernel⟩
abbrev s_added_reach : Stmt := topS 22
theorem sc_added_reach : FnScope ["many", "pace", "gain"] ["many", "pace", "gain"] (defScope s_added_reach) := ⟨rfl, rfl, rfl, by decide +kernel, rfl, by decide +kernel, by decide +kernel⟩
abbrev s__law_wide : Stmt := topS 24
theorem sc__law_wide : FnScope ["_law_cell", "_law_k"] ["_law_cell", "_law_k"] (defScope s__law_wide) := ⟨rfl, rfl, rfl, by decide +kernel, rfl, by decide +kernel, by decide +kernel⟩
abbrev s__law_rate : Stmt := topS 25
theorem sc__law_rate : FnScope ["_law_number", "_law_most"] ["_law_number"] (defScope s__law_rate) := ⟨rfl, rfl, rfl, by decide +kernel, rfl, by decide +kernel, by decide +kernel⟩
abbrev s__law_reach : Stmt := topS 26
theorem sc__law_reach : FnScope ["_law_many", "_law_pace", "_law_gain", "_law_k"] ["_law_many", "_law_pace", "_law_gain"] (defScope s__law_reach) := ⟨rfl, rfl, rfl, by decide +kernel, rfl, by decide +kernel, by decide +kernel⟩
abbrev s__law_class : Stmt := topS 27
theorem sc__law_class : FnScope ["_law_e", "_law_told", "_law_others"] ["_law_e"] (defScope s__law_class) := ⟨rfl, rfl, rfl, by decide +kernel, rfl, by decide +kernel, by decide +kernel⟩
abbrev s__law_said : Stmt := topS 28
theorem sc__law_said : FnScope ["_law_way", "_law_one", "_law_other", "_law_third", "_law_caught", "_law_found", "_law_e"] ["_law_way", "_law_one", "_law_other", "_law_third"] (defScope s__law_said) := ⟨rfl, rfl, rfl, by decide +kernel, rfl, by decide +kernel, by decide +kernel⟩
abbrev s__law_fallen : Stmt := topS 29
theorem sc__law_fallen : FnScope ["_law_step", "_law_gain", "_law_found"] ["_law_step", "_law_gain"] (defScope s__law_fallen) := ⟨rfl, rfl, rfl, by decide +kernel, rfl, by decide +kernel, by decide +kernel⟩
abbrev s__law_odd : Stmt := topS 30
theorem sc__law_odd : FnScope ["_law_number", "_law_most", "_law_far", "_law_some"] ["_law_number", "_law_most"] (defScope s__law_odd) := ⟨rfl, rfl, rfl, by decide +kernel, rfl, by decide +kernel, by decide +kernel⟩
abbrev s__law_refused : Stmt := topS 31
theorem sc__law_refused : FnScope ["_law_number", "_law_many", "_law_pace", "_law_gain", "_law_odd_here", "_law_refused_here", "_law_rows", "_law_row"] ["_law_number", "_law_many", "_law_pace", "_law_gain"] (defScope s__law_refused) := ⟨rfl, rfl, rfl, by decide +kernel, rfl, by decide +kernel, by decide +kernel⟩
abbrev s__law_is_whole_right : Stmt := topS 32
theorem sc__law_is_whole_right : FnScope ["_law_number", "_law_least", "_law_most", "_law_thing", "_law_due", "_law_found"] ["_law_number"] (defScope s__law_is_whole_right) := ⟨rfl, rfl, rfl, by decide +kernel, rfl, by decide +kernel, by decide +kernel⟩
abbrev s__law_right : Stmt := topS 33
theorem sc__law_right : FnScope ["_law_number", "_law_more", "_law_pace", "_law_gain", "_law_many", "_law_found", "_law_some", "_law_step", "_law_due", "_law_said_here"] ["_law_number", "_law_more"] (defScope s__law_right) := ⟨rfl, rfl, rfl, by decide +kernel, rfl, by decide +kernel, by decide +kernel⟩
abbrev s_law : Stmt := topS 34
theorem sc_law : FnScope ["_law_script", "_law_k", "_law_cell"] ["_law_script"] (defScope s_law) := ⟨rfl, rfl, rfl, by decide +kernel, rfl, by decide +kernel, by decide +kernel⟩
structure Bt (mg : Str → Option Value) (cl : Nat → Addr) : Prop where
  c_StageError : mg "StageError" = some (.ref (cl 0))
  c_BadNumber : mg "BadNumber" = some (.ref (cl 1))
  c_BadName : mg "BadName" = some (.ref (cl 2))
  c_BadStage : mg "BadStage" = some (.ref (cl 3))
  c_BadSheet : mg "BadSheet" = some (.ref (cl 4))
  c_TooLong : mg "TooLong" = some (.ref (cl 5))
  c_Busy : mg "Busy" = some (.ref (cl 6))
  c_TooNear : mg "TooNear" = some (.ref (cl 7))
  c_Stopped : mg "Stopped" = some (.ref (cl 8))
  c_NotStopped : mg "NotStopped" = some (.ref (cl 9))
  c_Moving : mg "Moving" = some (.ref (cl 10))
  c_NoCue : mg "NoCue" = some (.ref (cl 11))
  c_BadRow : mg "BadRow" = some (.ref (cl 12))
  b_isinstance : mg "isinstance" = none
  b_int : mg "int" = none
  b_bool : mg "bool" = none
  b_range : mg "range" = none
  b_min : mg "min" = none
  b_sum : mg "sum" = none
  b_len : mg "len" = none
  b_list : mg "list" = none
  b_enumerate : mg "enumerate" = none
  b_ValueError : mg "ValueError" = none
  g_MOST_STEPS : ∃ t, mg "MOST_STEPS" = some (.int 200 t)
  g_MOST_PACE : ∃ t, mg "MOST_PACE" = some (.int 1000000000 t)
/-- what the written part says of the exceptions that are raised -/
structure Exs (K : PySem.W.Frag) (mg : Str → Option Value) (cl : Nat → Addr) : Prop where
  BadNumber : Ex1 K mg (cl 1) (cl 0) "BadNumber"
  v_BadNumber : PySem.W.kitOne K (.ref (cl 1)) (.type "ValueError") = some true
  o0_BadNumber : PySem.W.kitAny K (.ref (cl 1)) [.ref (cl 2), .ref (cl 12), .ref (cl 4), .ref (cl 3), .ref (cl 6), .ref (cl 10)] = some false
  o1_BadNumber : PySem.W.kitAny K (.ref (cl 1)) [.ref (cl 11), .ref (cl 9), .ref (cl 8), .ref (cl 7)] = some false
  k_BadNumber_BadNumber : PySem.W.kitOne K (.ref (cl 1)) (.ref (cl 1)) = some true
  k_BadNumber_TooLong : PySem.W.kitOne K (.ref (cl 1)) (.ref (cl 5)) = some false
  TooLong : Ex1 K mg (cl 5) (cl 0) "TooLong"
  v_TooLong : PySem.W.kitOne K (.ref (cl 5)) (.type "ValueError") = some true
  o0_TooLong : PySem.W.kitAny K (.ref (cl 5)) [.ref (cl 2), .ref (cl 12), .ref (cl 4), .ref (cl 3), .ref (cl 6), .ref (cl 10)] = some false
  o1_TooLong : PySem.W.kitAny K (.ref (cl 5)) [.ref (cl 11), .ref (cl 9), .ref (cl 8), .ref (cl 7)] = some false
  k_TooLong_BadNumber : PySem.W.kitOne K (.ref (cl 5)) (.ref (cl 1)) = some false
  k_TooLong_TooLong : PySem.W.kitOne K (.ref (cl 5)) (.ref (cl 5)) = some true
end FW

set_option Elab.async false
set_option linter.all false
set_option maxRecDepth 100000
set_option maxHeartbeats 4000000
namespace FW
open PySem PySem.Spec PyProof.Rows L2 Evt
section
variable {P : Program} {w : World} {K : PySem.W.Frag} {mg : Str → Option Value} {base : Heap} {cl : Nat → Addr}
/-- a thing of which it is told whether it is an int -/
def Known (K : PySem.W.Frag) (H : Hp) (x : V) : Prop := (∃ a, x = .int a) ∨ (∃ b, x = .bl b) ∨ ∃ s, TyX K H x (.type s) ∧ kitB s "int" = some false
def wholeV (x : V) (l m : Int) : Bool := match x with
  | .int a => decide (l ≤ a) && decide (a ≤ m)
  | _ => false
theorem whole_no {K : PySem.W.Frag} {H : Hp} {x : V} {s : String} {l m : Int} (ht : TyX K H x (.type s)) (hk : kitB s "int" = some false) : wholeV x l m = false := by
  cases x with
  | int a =>
    cases ht with
    | base h =>
      cases h
      exact absurd hk (by decide +kernel)
  | _ => rfl
def sp_is_whole (K : PySem.W.Frag) : Sp := fun vs H Q _ => ∃ (x : V) (l m : Int), vs = [x, .int l, .int m] ∧ Known K H x ∧ Q (.bl (wholeV x l m)) H
theorem ok_is_whole (B : Bt mg cl) {f : Addr} {fd : FuncData} (F : Fun K "is_whole" "is_whole" s_is_whole f fd) : FnOk P w K mg base CX0 1 f fd ["thing", "least", "most"] (sp_is_whole K) := by
  refine F.ok sc_is_whole (fun vs H Q E h => ?_) (fun cdv A outer s H vs Q E hr h => ?_)
  · obtain ⟨x, l, m, rfl, _⟩ := h
    rfl
  · obtain ⟨x, l, m, rfl, kn, q⟩ := h
    refine ⟨_, (pss_cons (ps_if (PW.pt (pw_or (pt_not (pt_val (pe_callB (k_isY (K := K) rfl) (by rfl) B.b_isinstance (by decide +kernel) (pa_cons (pv 0) (pa_cons (pe_bltn (v := .ty "int") (by rfl) B.b_int (by decide +kernel) rfl) pa_nil))))) (pw_or1 (pt_val (pe_callB (k_isY (K := K) rfl) (by rfl) B.b_isinstance (by decide +kernel) (pa_cons (pv 0) (pa_cons (pe_bltn (v := .ty "bool") (by rfl) B.b_bool (by decide +kernel) rfl) pa_nil)))))))
        (pss_one (ps_ret pe_bl))
        pss_nil)
      (pss_one (ps_ret (pe_chain op_le op_le (pv 1) (pv 0) (pv 2))))), ?_⟩
    simp only [tSeq, tIfS, tOr, tAnd, tNot, tB, tTest, tCB, tCall, tCons, tVar, tNil, tC, tRet, tRetN, tNext, tAsg, gName, tDrop, tOp, tUn, tAug, ipI, tPar, tIf, tAndV, tOrV, tNotV, tChain, tNever, rI0, rI, rU, L2.start, cxK, List.map_cons, List.map_nil, List.length_cons, List.length_nil, Nat.reduceAdd, Nat.reduceSub, List.replicate, List.cons_append, List.nil_append, List.append_nil, List.set_cons_zero, List.set_cons_succ, List.getElem?_cons_zero, List.getElem?_cons_succ, Option.some.injEq, V.int.injEq, V.bl.injEq, exists_eq_left', exists_eq_left, exists_and_left, tFor_eq, iRng1, iRng2, iRng3, iList, iEnum, iZip, iTup, tLst_eq, tTup_eq, rCat_eq, rCatS, rSum, rAppend_eq, rListOf, rSlL_eq, tSl, tNoPart, tPart, tLc_eq, tBM, rIxL, rIxT, min3_eq, rEq_int, rNe_int, min_if, max_if, and_assoc, V.ref.injEq, V.str.injEq, List.cons.injEq, and_true, true_and, ↓reduceIte, Bool.false_eq_true, Bool.not_true, Bool.not_false, Int.reduceToNat, Int.reducePow, Int.reduceAdd, Int.reduceSub, Int.reduceNeg, rNe_str, rEq_str, rEq_bl, tRaise1, tFmt, tJs, tCallS, WE, wKeep_eq, reduceCtorEq, false_and, and_false, exists_false, or_false, false_or, tIsN, tNotN, decide_true, decide_false, tDictN]
    rcases kn with ⟨a, rfl⟩ | ⟨b, rfl⟩ | ⟨s, ht, hk⟩
    · refine isy_int (b := true) (by decide +kernel) ⟨_, rfl, ?_⟩
      refine ifF rfl (isy_int (b := false) (by decide +kernel) ⟨_, rfl, ?_⟩)
      refine ifF rfl ?_
      have e : wholeV (.int a) l m = (decide (l ≤ a) && decide (a ≤ m)) := rfl
      rw [e] at q
      by_cases h1 : l ≤ a
      · rw [decide_eq_true h1, Bool.true_and] at q
        exact ⟨_, rfl, ifT (decide_eq_true h1) ⟨_, rfl, q⟩⟩
      · rw [decide_eq_false h1, Bool.false_and] at q
        exact ⟨_, rfl, ifF (decide_eq_false h1) q⟩
    · refine isy_ty (.base (.bl b)) (b := true) (by decide +kernel) ⟨_, rfl, ?_⟩
      refine ifF rfl (isy_ty (.base (.bl b)) (b := true) (by decide +kernel) ⟨_, rfl, ?_⟩)
      exact ifT rfl q
    · rw [whole_no ht hk] at q
      refine isy_ty ht hk ⟨_, rfl, ?_⟩
      exact ifT rfl q
/-- BadNumber of what isn't within -/
def sp_need_whole (K : PySem.W.Frag) (C : Addr) : Sp := fun vs H Q E => ∃ (x : V) (l m : Int) (t : Str), vs = [x, .int l, .int m, .str t] ∧ Known K H x ∧ l.natAbs < 2 ^ 1000 ∧ m.natAbs < 2 ^ 1000 ∧ t.length ≤ 1000 ∧ (wholeV x l m = true → Q .non H) ∧ (wholeV x l m = false → E (.ref C) none H)
theorem ok_need_whole (B : Bt mg cl) (EE : Exs K mg cl) (F_is_whole : Fn P w K mg base "is_whole" ["thing", "least", "most"] CX0 1 (sp_is_whole K)) {f : Addr} {fd : FuncData} (F : Fun K "need_whole" "need_whole" s_need_whole f fd) : FnOk P w K mg base (L2.CX P w) 2 f fd ["thing", "least", "most", "what"] (sp_need_whole K (cl 1)) := by
  refine F.okX sc_need_whole (fun vs H Q E h => ?_) (fun cdv A outer s H vs Q E hr h => ?_)
  · obtain ⟨x, l, m, t, rfl, _⟩ := h
    rfl
  · obtain ⟨x, l, m, t, rfl, kn, hl, hm, ht, q, q2⟩ := h
    refine ⟨_, (pss_one (ps_if (pt_not (pt_val (pe_fn F_is_whole (hr.mono (by decide)) (pa_cons (pv 0) (pa_cons (pv 1) (pa_cons (pv 2) pa_nil))))))
        (pss_one (ps_raise1 rfl EE.BadNumber (takes_of rfl rfl rfl rfl) (pe_joined (.cons pe_str (.cons (pe_fmt (pv 3)) (.cons pe_str (.cons (pe_fmt (pv 1)) (.cons pe_str (.cons (pe_fmt (pv 2)) .nil)))))))))
        pss_nil)), ?_⟩
    simp only [tSeq, tIfS, tOr, tAnd, tNot, tB, tTest, tCB, tCall, tCons, tVar, tNil, tC, tRet, tRetN, tNext, tAsg, gName, tDrop, tOp, tUn, tAug, ipI, tPar, tIf, tAndV, tOrV, tNotV, tChain, tNever, rI0, rI, rU, L2.start, cxK, List.map_cons, List.map_nil, List.length_cons, List.length_nil, Nat.reduceAdd, Nat.reduceSub, List.replicate, List.cons_append, List.nil_append, List.append_nil, List.set_cons_zero, List.set_cons_succ, List.getElem?_cons_zero, List.getElem?_cons_succ, Option.some.injEq, V.int.injEq, V.bl.injEq, exists_eq_left', exists_eq_left, exists_and_left, tFor_eq, iRng1, iRng2, iRng3, iList, iEnum, iZip, iTup, tLst_eq, tTup_eq, rCat_eq, rCatS, rSum, rAppend_eq, rListOf, rSlL_eq, tSl, tNoPart, tPart, tLc_eq, tBM, rIxL, rIxT, min3_eq, rEq_int, rNe_int, min_if, max_if, and_assoc, V.ref.injEq, V.str.injEq, List.cons.injEq, and_true, true_and, ↓reduceIte, Bool.false_eq_true, Bool.not_true, Bool.not_false, Int.reduceToNat, Int.reducePow, Int.reduceAdd, Int.reduceSub, Int.reduceNeg, rNe_str, rEq_str, rEq_bl, tRaise1, tFmt, tJs, tCallS, WE, wKeep_eq, reduceCtorEq, false_and, and_false, exists_false, or_false, false_or, tIsN, tNotN, decide_true, decide_false, tDictN]
    refine ⟨_, _, _, rfl, kn, _, rfl, ?_⟩
    cases e : wholeV x l m with
    | true => exact ifF rfl (q e)
    | false =>
      obtain ⟨l1, l2⟩ := int_len hl
      obtain ⟨m1, m2⟩ := int_len hm
      have c1 : (Str.ofString "the ").length ≤ 100 := by decide +kernel
      have c2 : (Str.ofString " must be a whole number from ").length ≤ 100 := by decide +kernel
      have c3 : (Str.ofString " to ").length ≤ 100 := by decide +kernel
      refine ifT rfl ?_
      simp only [str_len, str_empty]
      exact ⟨sz_of (by omega), sz_of (by omega), sz_of (by omega), sz_of (by omega), l1, sz_of (by omega), sz_of (by omega), m1, sz_of (by omega), q2 e⟩
def sp_need_drive (K : PySem.W.Frag) (C : Addr) : Sp := fun vs H Q E => ∃ (y z : V), vs = [y, z] ∧ Known K H y ∧ Known K H z ∧ (wholeV y 1 1000000000 = true → wholeV z 1 1000000000 = true → Q .non H) ∧ (wholeV y 1 1000000000 = false ∨ wholeV z 1 1000000000 = false → E (.ref C) none H)
theorem ok_need_drive (B : Bt mg cl) (F_need_whole : Fn P w K mg base "need_whole" ["thing", "least", "most", "what"] (L2.CX P w) 2 (sp_need_whole K (cl 1))) {f : Addr} {fd : FuncData} (F : Fun K "need_drive" "need_drive" s_need_drive f fd) : FnOk P w K mg base (L2.CX P w) 3 f fd ["pace", "gain"] (sp_need_drive K (cl 1)) := by
  refine F.okX sc_need_drive (fun vs H Q E h => ?_) (fun cdv A outer s H vs Q E hr h => ?_)
  · obtain ⟨p, g, rfl, _⟩ := h
    rfl
  · obtain ⟨y, z, rfl, ky, kz, q, q2⟩ := h
    refine ⟨_, (pss_cons (ps_expr (pe_fnX F_need_whole (hr.mono (by decide)) (passes_call (takes_of rfl rfl rfl rfl) (fun _ _ _ _ h => h)) (pa_cons (pv 0) (pa_cons pe_int (pa_cons (pe_gint B.g_MOST_PACE) (pa_cons pe_str pa_nil))))))
      (pss_one (ps_expr (pe_fnX F_need_whole (hr.mono (by decide)) (passes_call (takes_of rfl rfl rfl rfl) (fun _ _ _ _ h => h)) (pa_cons (pv 1) (pa_cons pe_int (pa_cons (pe_gint B.g_MOST_PACE) (pa_cons pe_str pa_nil)))))))), ?_⟩
    simp only [tSeq, tIfS, tOr, tAnd, tNot, tB, tTest, tCB, tCall, tCons, tVar, tNil, tC, tRet, tRetN, tNext, tAsg, gName, tDrop, tOp, tUn, tAug, ipI, tPar, tIf, tAndV, tOrV, tNotV, tChain, tNever, rI0, rI, rU, L2.start, cxK, List.map_cons, List.map_nil, List.length_cons, List.length_nil, Nat.reduceAdd, Nat.reduceSub, List.replicate, List.cons_append, List.nil_append, List.append_nil, List.set_cons_zero, List.set_cons_succ, List.getElem?_cons_zero, List.getElem?_cons_succ, Option.some.injEq, V.int.injEq, V.bl.injEq, exists_eq_left', exists_eq_left, exists_and_left, tFor_eq, iRng1, iRng2, iRng3, iList, iEnum, iZip, iTup, tLst_eq, tTup_eq, rCat_eq, rCatS, rSum, rAppend_eq, rListOf, rSlL_eq, tSl, tNoPart, tPart, tLc_eq, tBM, rIxL, rIxT, min3_eq, rEq_int, rNe_int, min_if, max_if, and_assoc, V.ref.injEq, V.str.injEq, List.cons.injEq, and_true, true_and, ↓reduceIte, Bool.false_eq_true, Bool.not_true, Bool.not_false, Int.reduceToNat, Int.reducePow, Int.reduceAdd, Int.reduceSub, Int.reduceNeg, rNe_str, rEq_str, rEq_bl, tRaise1, tFmt, tJs, tCallS, WE, wKeep_eq, reduceCtorEq, false_and, and_false, exists_false, or_false, false_or, tIsN, tNotN, decide_true, decide_false, tDictN]
    refine ⟨_, _, _, _, rfl, ky, by decide, by decide, by decide, fun e => ⟨_, _, _, _, rfl, kz, by decide, by decide, by decide, fun e2 => q e e2, fun e2 => q2 (.inr e2)⟩, fun e => q2 (.inl e)⟩
/-! ### the steps -/
def sp_added_reach : Sp := fun vs H Q _ => ∃ (j : Nat) (p g : Int), vs = [.int j, .int p, .int g] ∧ 1 ≤ g ∧ g ≤ 1000000000 ∧ Q (.int (added p g j)) H
theorem ok_added_reach (B : Bt mg cl) {f : Addr} {fd : FuncData} (F : Fun K "added_reach" "added_reach" s_added_reach f fd) : FnOk P w K mg base CX0 1 f fd ["many", "pace", "gain"] sp_added_reach := by
  refine F.ok sc_added_reach (fun vs H Q E h => ?_) (fun cdv A outer s H vs Q E hr h => ?_)
  · obtain ⟨j, p, g, rfl, _⟩ := h
    rfl
  · obtain ⟨j, p, g, rfl, h1, h2, q⟩ := h
    refine ⟨_, (pss_one (ps_ret (pe_callB (call_min2 rfl) (by rfl) B.b_min (by decide +kernel) (pa_cons (pv 1) (pa_cons (pe_op op_mul (pv 2) (pe_op op_fdivW (pe_op op_add (pv 0) pe_int) pe_int)) pa_nil))))), ?_⟩
    simp only [tSeq, tIfS, tOr, tAnd, tNot, tB, tTest, tCB, tCall, tCons, tVar, tNil, tC, tRet, tRetN, tNext, tAsg, gName, tDrop, tOp, tUn, tAug, ipI, tPar, tIf, tAndV, tOrV, tNotV, tChain, tNever, rI0, rI, rU, L2.start, cxK, List.map_cons, List.map_nil, List.length_cons, List.length_nil, Nat.reduceAdd, Nat.reduceSub, List.replicate, List.cons_append, List.nil_append, List.append_nil, List.set_cons_zero, List.set_cons_succ, List.getElem?_cons_zero, List.getElem?_cons_succ, Option.some.injEq, V.int.injEq, V.bl.injEq, exists_eq_left', exists_eq_left, exists_and_left, tFor_eq, iRng1, iRng2, iRng3, iList, iEnum, iZip, iTup, tLst_eq, tTup_eq, rCat_eq, rCatS, rSum, rAppend_eq, rListOf, rSlL_eq, tSl, tNoPart, tPart, tLc_eq, tBM, rIxL, rIxT, min3_eq, rEq_int, rNe_int, min_if, max_if, and_assoc, V.ref.injEq, V.str.injEq, List.cons.injEq, and_true, true_and, ↓reduceIte, Bool.false_eq_true, Bool.not_true, Bool.not_false, Int.reduceToNat, Int.reducePow, Int.reduceAdd, Int.reduceSub, Int.reduceNeg, rNe_str, rEq_str, rEq_bl, tRaise1, tFmt, tJs, tCallS, WE, wKeep_eq, reduceCtorEq, false_and, and_false, exists_false, or_false, false_or, tIsN, tNotN, decide_true, decide_false, tDictN]
    refine ⟨cdw (by decide) (by decide), .inl ⟨by omega, by omega⟩, ?_⟩
    exact q
theorem whole_int {x : V} {l m : Int} (h : wholeV x l m = true) : ∃ a, x = .int a ∧ l ≤ a ∧ a ≤ m := by
  cases x with
  | int a =>
    have h : (decide (l ≤ a) && decide (a ≤ m)) = true := h
    rw [Bool.and_eq_true] at h
    exact ⟨a, rfl, of_decide_eq_true h.1, of_decide_eq_true h.2⟩
  | _ => cases h

def sp_reach (K : PySem.W.Frag) (C T : Addr) : Sp := fun vs H Q E => ∃ (x y z : V), vs = [x, y, z] ∧ Known K H x ∧ Known K H y ∧ Known K H z ∧ GxR.TabG H T ∧ ((wholeV x 0 200 && wholeV y 1 1000000000 && wholeV z 1 1000000000) = false → E (.ref C) none H) ∧
  ∀ (m : Nat) (p g : Int), x = .int m → y = .int p → z = .int g → m ≤ 200 → 1 ≤ p → p ≤ 1000000000 → 1 ≤ g → g ≤ 1000000000 → RetV (.int (U p g 0 m)) H Q
theorem ok_reach (B : Bt mg cl) (F_need_whole : Fn P w K mg base "need_whole" ["thing", "least", "most", "what"] (L2.CX P w) 2 (sp_need_whole K (cl 1))) (F_need_drive : Fn P w K mg base "need_drive" ["pace", "gain"] (L2.CX P w) 3 (sp_need_drive K (cl 1))) (F_added_reach : Fn P w K mg base "added_reach" ["many", "pace", "gain"] CX0 1 sp_added_reach) {f c T : Addr} {fd : FuncData} (TB : GxR.TabB base mg c T) (F : FunT K "reach" "reach" s_reach f fd c) : FnOk P w K mg base (L2.CX P w) 4 f fd ["many", "pace", "gain"] (sp_reach K (cl 1) T) := by
  refine F.okX sc_reach (fun vs H Q E h => ?_) (fun A outer s H vs Q E hr h => ?_)
  · obtain ⟨x, y, z, rfl, _⟩ := h
    rfl
  · obtain ⟨x, y, z, rfl, kx, ky, kz, tg, bad, good⟩ := h
    refine ⟨_, (pss_cons (ps_expr (pe_fnX F_need_whole (hr.mono (by decide)) (passes_call (takes_of rfl rfl rfl rfl) (fun _ _ _ _ h => h)) (pa_cons (pv 0) (pa_cons pe_int (pa_cons (pe_gint B.g_MOST_STEPS) (pa_cons pe_str pa_nil))))))
      (pss_cons (ps_expr (pe_fnX F_need_drive (hr.mono (by decide)) (passes_call (takes_of rfl rfl rfl rfl) (fun _ _ _ _ h => h)) (pa_cons (pv 1) (pa_cons (pv 2) pa_nil))))
      (pss_one (ps_ret (pe_sumG (k := 1) (own := [("each", 3)]) (gg := gName 3) (hr.mono (by decide)) rfl sc_reach.nd TB rfl B.b_sum (blkOk_by (own := [("each", 3)]) (N := ["many", "pace", "gain", "each"]) (sc := defScope s_reach) (by decide +kernel)) (gxS_by (by decide +kernel)) (pi_range1 (by rfl) B.b_range (pa_cons (pe_op op_add (pv 0) pe_int) pa_nil)) (fun _ _ _ _ _ _ _ _ _ => (pg_name (i := 3) sc_reach.nd rfl (.inl rfl))) (fun _ _ _ _ _ _ _ _ hr => (pe_fn F_added_reach (hr.mono (by decide)) (pa_cons (pv 3) (pa_cons (pv 1) (pa_cons (pv 2) pa_nil)))))))))), ?_⟩
    simp only [tSeq, tIfS, tOr, tAnd, tNot, tB, tTest, tCB, tCall, tCons, tVar, tNil, tC, tRet, tRetN, tNext, tAsg, gName, tDrop, tOp, tUn, tAug, ipI, tPar, tIf, tAndV, tOrV, tNotV, tChain, tNever, rI0, rI, rU, L2.start, cxK, List.map_cons, List.map_nil, List.length_cons, List.length_nil, Nat.reduceAdd, Nat.reduceSub, List.replicate, List.cons_append, List.nil_append, List.append_nil, List.set_cons_zero, List.set_cons_succ, List.getElem?_cons_zero, List.getElem?_cons_succ, Option.some.injEq, V.int.injEq, V.bl.injEq, exists_eq_left', exists_eq_left, exists_and_left, tFor_eq, iRng1, iRng2, iRng3, iList, iEnum, iZip, iTup, tLst_eq, tTup_eq, rCat_eq, rCatS, rSum, rAppend_eq, rListOf, rSlL_eq, tSl, tNoPart, tPart, tLc_eq, tBM, rIxL, rIxT, min3_eq, rEq_int, rNe_int, min_if, max_if, and_assoc, V.ref.injEq, V.str.injEq, List.cons.injEq, and_true, true_and, ↓reduceIte, Bool.false_eq_true, Bool.not_true, Bool.not_false, Int.reduceToNat, Int.reducePow, Int.reduceAdd, Int.reduceSub, Int.reduceNeg, rNe_str, rEq_str, rEq_bl, tRaise1, tFmt, tJs, tCallS, WE, wKeep_eq, reduceCtorEq, false_and, and_false, exists_false, or_false, false_or, tIsN, tNotN, decide_true, decide_false, tDictN, tSumG]
    refine ⟨_, _, _, _, rfl, kx, by decide, by decide, by decide, fun ex => ?_, fun ex => bad (by rw [ex]; rfl)⟩
    refine ⟨_, _, rfl, ky, kz, fun ey ez => ?_, fun e => bad (by rcases e with e | e <;> rw [e] <;> simp)⟩
    obtain ⟨d, rfl, d0, d1⟩ := whole_int ex
    obtain ⟨p, rfl, p1, p2⟩ := whole_int ey
    obtain ⟨g, rfl, g1, g2⟩ := whole_int ez
    obtain ⟨m, rfl⟩ : ∃ m : Nat, d = (m : Int) := ⟨d.toNat, by omega⟩
    have q := good m p g rfl rfl rfl (by omega) p1 p2 g1 g2
    refine ⟨_, rfl, by omega, by omega, tg, fun H2 tb => ?_⟩
    have x2 : Ex H H2 := ex_tabbed tg tb
    obtain ⟨Pv, hPv⟩ : ∃ Pv : Nat → Int → Hp → Prop, ∀ i c H', Pv i c H' ↔ Ex H H' ∧ c = S (added p g) i := ⟨_, fun _ _ _ => Iff.rfl⟩
    refine gx_it walk_range Pv ((hPv _ _ _).mpr ⟨x2, rfl⟩) (fun _ _ _ _ _ => trivial) ?_ ?_
    · rintro i x c H3 H' hi hp ⟨rfl, rfl⟩
      obtain ⟨e3, rfl⟩ := (hPv _ _ _).mp hp
      simp only [tSeq, tIfS, tOr, tAnd, tNot, tB, tTest, tCB, tCall, tCons, tVar, tNil, tC, tRet, tRetN, tNext, tAsg, gName, tDrop, tOp, tUn, tAug, ipI, tPar, tIf, tAndV, tOrV, tNotV, tChain, tNever, rI0, rI, rU, L2.start, cxK, List.map_cons, List.map_nil, List.length_cons, List.length_nil, Nat.reduceAdd, Nat.reduceSub, List.replicate, List.cons_append, List.nil_append, List.append_nil, List.set_cons_zero, List.set_cons_succ, List.getElem?_cons_zero, List.getElem?_cons_succ, Option.some.injEq, V.int.injEq, V.bl.injEq, exists_eq_left', exists_eq_left, exists_and_left, tFor_eq, iRng1, iRng2, iRng3, iList, iEnum, iZip, iTup, tLst_eq, tTup_eq, rCat_eq, rCatS, rSum, rAppend_eq, rListOf, rSlL_eq, tSl, tNoPart, tPart, tLc_eq, tBM, rIxL, rIxT, min3_eq, rEq_int, rNe_int, min_if, max_if, and_assoc, V.ref.injEq, V.str.injEq, List.cons.injEq, and_true, true_and, ↓reduceIte, Bool.false_eq_true, Bool.not_true, Bool.not_false, Int.reduceToNat, Int.reducePow, Int.reduceAdd, Int.reduceSub, Int.reduceNeg, rNe_str, rEq_str, rEq_bl, tRaise1, tFmt, tJs, tCallS, WE, wKeep_eq, reduceCtorEq, false_and, and_false, exists_false, or_false, false_or, tIsN, tNotN, decide_true, decide_false, tDictN, wipe]
      refine ⟨i, p, g, by simp, g1, g2, ?_⟩
      exact ⟨_, rfl, (hPv _ _ _).mpr ⟨e3, rfl⟩⟩
    · intro c H3 hp
      obtain ⟨e3, rfl⟩ := (hPv _ _ _).mp hp
      have e : S (added p g) (((m : Int) + 1).toNat) = U p g 0 m := by
        rw [show ((m : Int) + 1).toNat = m + 1 by omega]
        exact (U_reach p g (by omega) (by omega) m).symm
      rw [e]
      exact q H3 e3
/-! ### behind a stop -/
/-- how many steps there are behind a step s -/
def nf (s g : Int) : Nat := if 0 < s - g then ((s - g - 1) / g).toNat + 1 else 0
theorem nf_lt {s g : Int} (hg : 1 ≤ g) (i : Nat) : i < nf s g ↔ g < s - (i : Int) * g := by
  unfold nf
  by_cases h : 0 < s - g
  · rw [if_pos h]
    have q0 : 0 ≤ (s - g - 1) / g := Int.ediv_nonneg (by omega) (by omega)
    have key : (i : Int) ≤ (s - g - 1) / g ↔ (i : Int) * g ≤ s - g - 1 := Int.le_ediv_iff_mul_le (by omega)
    constructor
    · intro h1
      have := key.mp (by omega)
      omega
    · intro h1
      have := key.mpr (by omega)
      omega
  · rw [if_neg h]
    constructor
    · intro h1
      omega
    · intro h1
      have : 0 ≤ (i : Int) * g := Int.mul_nonneg (by omega) (by omega)
      omega
def fallen (s g : Int) (n : Nat) : List Int := (List.range n).map fun (k : Nat) => s - g - (k : Int) * g
theorem fallen_succ (s g : Int) (n : Nat) : fallen s g (n + 1) = fallen s g n ++ [s - g - (n : Int) * g] := by
  unfold fallen
  rw [List.range_succ, List.map_append]
  rfl
theorem fallen_len (s g : Int) (n : Nat) : (fallen s g n).length = n := by
  unfold fallen
  rw [List.length_map, List.length_range]
theorem nf_200 {s g : Int} (hg : 1 ≤ g) : nf s g ≤ 200 ↔ s ≤ g * 201 := by
  have h := nf_lt (s := s) hg 200
  have e : ((200 : Nat) : Int) * g = g * 200 := by
    rw [Int.mul_comm]
    rfl
  omega
theorem rgC_nf {s g : Int} (g1 : 1 ≤ g) (g2 : g ≤ 1000000000) (s0 : 0 ≤ s) (s1 : s ≤ 1000000000) : RgC (s - g) 0 (-g) (nf s g) := by
  have hz : Builtin.Range.rangeSize (s - g) 0 (-g) = (nf s g : Int) := by
    unfold Builtin.Range.rangeSize nf
    rw [if_neg (by omega)]
    by_cases h : 0 < s - g
    · have q0 : 0 ≤ (s - g - 1) / g := Int.ediv_nonneg (by omega) (by omega)
      rw [if_pos h, if_pos h, Int.neg_neg, Int.sub_zero]
      omega
    · rw [if_neg h, if_neg h]
      rfl
  refine ⟨by omega, by omega, ?_, hz⟩
  have up : (nf s g : Int) * g ≤ s := by
    by_cases z : nf s g = 0
    · rw [z]
      omega
    · have := (nf_lt (s := s) g1 (nf s g - 1)).mp (by omega)
      have e : ((nf s g - 1 : Nat) : Int) = (nf s g : Int) - 1 := by omega
      rw [e, Int.sub_mul] at this
      omega
  have lo : 0 ≤ (nf s g : Int) * g := Int.mul_nonneg (by omega) (by omega)
  have ng : (nf s g : Int) ≤ 2000000000 := by
    have : (nf s g : Int) * 1 ≤ (nf s g : Int) * g := Int.mul_le_mul_of_nonneg_left g1 (by omega)
    omega
  unfold Builtin.Range.small
  rw [hz]
  simp only [Builtin.Range.rangeFitsLong, Bool.and_eq_true, Bool.or_eq_true, decide_eq_true_eq, beq_iff_eq]
  refine ⟨⟨⟨⟨⟨by omega, by omega⟩, by decide, by decide⟩, by omega, by omega⟩, by omega, by omega⟩, .inr ?_⟩
  rw [if_neg (by omega), Bool.and_eq_true, decide_eq_true_eq, decide_eq_true_eq]
  omega
theorem rgC_fallen (s g : Int) (n : Nat) : rgC (s - g) (-g) n = (fallen s g n).map V.int := by
  unfold rgC fallen
  rw [List.map_map]
  refine List.map_congr_left fun k _ => ?_
  show V.int _ = V.int _
  rw [Int.mul_neg]
  rfl
def sp_braked (K : PySem.W.Frag) (C D : Addr) : Sp := fun vs H Q E => ∃ (x z : V), vs = [x, z] ∧ Known K H x ∧ Known K H z ∧ ((wholeV x 0 1000000000 && wholeV z 1 1000000000) = false → E (.ref C) none H) ∧
  ∀ s g : Int, x = .int s → z = .int g → 0 ≤ s → s ≤ 1000000000 → 1 ≤ g → g ≤ 1000000000 → (200 < nf s g → E (.ref D) none H) ∧ (nf s g ≤ 200 → RetL ((fallen s g (nf s g)).map V.int) H Q)
theorem ok_braked (B : Bt mg cl) (EE : Exs K mg cl) (F_need_whole : Fn P w K mg base "need_whole" ["thing", "least", "most", "what"] (L2.CX P w) 2 (sp_need_whole K (cl 1))) {f : Addr} {fd : FuncData} (F : Fun K "braked" "braked" s_braked f fd) : FnOk P w K mg base (L2.CX P w) 3 f fd ["step", "gain"] (sp_braked K (cl 1) (cl 5)) := by
  refine F.okX sc_braked (fun vs H Q E h => ?_) (fun cdv A outer s H vs Q E hr h => ?_)
  · obtain ⟨x, z, rfl, _⟩ := h
    rfl
  · obtain ⟨x, z, rfl, kx, kz, bad, good⟩ := h
    refine ⟨_, (pss_cons (ps_expr (pe_fnX F_need_whole (hr.mono (by decide)) (passes_call (takes_of rfl rfl rfl rfl) (fun _ _ _ _ h => h)) (pa_cons (pv 0) (pa_cons pe_int (pa_cons (pe_gint B.g_MOST_PACE) (pa_cons pe_str pa_nil))))))
      (pss_cons (ps_expr (pe_fnX F_need_whole (hr.mono (by decide)) (passes_call (takes_of rfl rfl rfl rfl) (fun _ _ _ _ h => h)) (pa_cons (pv 1) (pa_cons pe_int (pa_cons (pe_gint B.g_MOST_PACE) (pa_cons pe_str pa_nil))))))
      (pss_cons (ps_if (pt_cmpR op_gt (pv 0) (pe_op op_mul (pv 1) (pe_op op_add (pe_gint B.g_MOST_STEPS) pe_int)) (nomark _))
        (pss_one (ps_raise1 rfl EE.TooLong (takes_of rfl rfl rfl rfl) (pe_joined (.cons pe_str (.cons (pe_fmt (pe_gint B.g_MOST_STEPS)) (.cons pe_str .nil))))))
        pss_nil)
      (pss_one (ps_ret (pe_listRg3 rfl (by rfl) B.b_list (by rfl) B.b_range (pa_cons (pe_op op_sub (pv 0) (pv 1)) (pa_cons pe_int (pa_cons (pe_un un_neg (pv 1)) pa_nil))))))))), ?_⟩
    simp only [tSeq, tIfS, tOr, tAnd, tNot, tB, tTest, tCB, tCall, tCons, tVar, tNil, tC, tRet, tRetN, tNext, tAsg, gName, tDrop, tOp, tUn, tAug, ipI, tPar, tIf, tAndV, tOrV, tNotV, tChain, tNever, rI0, rI, rU, L2.start, cxK, List.map_cons, List.map_nil, List.length_cons, List.length_nil, Nat.reduceAdd, Nat.reduceSub, List.replicate, List.cons_append, List.nil_append, List.append_nil, List.set_cons_zero, List.set_cons_succ, List.getElem?_cons_zero, List.getElem?_cons_succ, Option.some.injEq, V.int.injEq, V.bl.injEq, exists_eq_left', exists_eq_left, exists_and_left, tFor_eq, iRng1, iRng2, iRng3, iList, iEnum, iZip, iTup, tLst_eq, tTup_eq, rCat_eq, rCatS, rSum, rAppend_eq, rListOf, rSlL_eq, tSl, tNoPart, tPart, tLc_eq, tBM, rIxL, rIxT, min3_eq, rEq_int, rNe_int, min_if, max_if, and_assoc, V.ref.injEq, V.str.injEq, List.cons.injEq, and_true, true_and, ↓reduceIte, Bool.false_eq_true, Bool.not_true, Bool.not_false, Int.reduceToNat, Int.reducePow, Int.reduceAdd, Int.reduceSub, Int.reduceNeg, rNe_str, rEq_str, rEq_bl, tRaise1, tFmt, tJs, tCallS, WE, wKeep_eq, reduceCtorEq, false_and, and_false, exists_false, or_false, false_or, tIsN, tNotN, decide_true, decide_false, tDictN, tLstR3]
    refine ⟨_, _, _, _, rfl, kx, by decide, by decide, by decide, fun ex => ?_, fun ex => bad (by rw [ex]; rfl)⟩
    refine ⟨_, _, _, _, rfl, kz, by decide, by decide, by decide, fun ez => ?_, fun ez => bad (by rw [ez]; simp)⟩
    obtain ⟨s, rfl, s0, s1⟩ := whole_int ex
    obtain ⟨g, rfl, g1, g2⟩ := whole_int ez
    obtain ⟨long, q⟩ := good s g rfl rfl s0 s1 g1 g2
    have e2 := nf_200 (s := s) g1
    refine ⟨_, rfl, .inl ⟨by omega, by omega⟩, _, rfl, ?_⟩
    by_cases h : g * 201 < s
    · obtain ⟨l1, l2⟩ := int_len (i := 200) (by decide)
      have c1 : (Str.ofString "more than ").length ≤ 100 := by decide +kernel
      have c2 : (Str.ofString " steps behind a stop").length ≤ 100 := by decide +kernel
      refine ifT (decide_eq_true h) ?_
      simp only [str_len, str_empty]
      exact ⟨sz_of (by omega), l1, sz_of (by omega), sz_of (by omega), long (by omega)⟩
    · refine ifF (decide_eq_false h) ?_
      refine ⟨_, rfl, _, rfl, _, rfl, nf s g, rgC_nf g1 g2 s0 s1, by omega, new_of fun l H1 nl e1 hl => q (by omega) l H1 nl e1 ?_⟩
      rw [hl, rgC_fallen]
end
end FW

set_option Elab.async false
set_option linter.all false
set_option maxRecDepth 100000
set_option maxHeartbeats 4000000
namespace FW
open PySem PySem.Spec PyProof.Rows L2 Evt
section
variable {P : Program} {w : World} {K : PySem.W.Frag} {mg : Str → Option Value} {base : Heap} {cl : Nat → Addr}
/-! ### the law's draws -/
def sp__law_wide : Sp := fun vs H Q _ => ∃ (c : Int) (k : Nat), vs = [.int c, .int k] ∧ k ≤ 2000 ∧ ∀ n : Int, 0 ≤ n → Q (.int n) H
theorem nat_lt {i : Int} {a : Nat} (h0 : 0 ≤ i) (h : i < 2 ^ a) : i.natAbs < 2 ^ a := by
  have e : ((2 ^ a : Nat) : Int) = (2 : Int) ^ a := by rw [Int.natCast_pow]; rfl
  omega
theorem ok__law_wide (B : Bt mg cl) {f : Addr} {fd : FuncData} (F : Fun K "_law_wide" "_law_wide" s__law_wide f fd) : FnOk P w K mg base CX0 1 f fd ["_law_cell", "_law_k"] sp__law_wide := by
  refine F.ok sc__law_wide (fun vs H Q E h => ?_) (fun cdv A outer s H vs Q E hr h => ?_)
  · obtain ⟨c, k, rfl, _⟩ := h
    rfl
  · obtain ⟨c, k, rfl, hk, q⟩ := h
    refine ⟨_, (pss_cons (ps_set (i := 0) sc__law_wide.nd rfl (.inl rfl) (pe_op op_mulW (pe_op op_add (pe_op op_add (pe_op op_add (pe_op op_mod (pv 0) (pe_op op_pow pe_int pe_int)) (pe_op op_mulW (pe_op op_mulW pe_int (pv 1)) (pv 1))) (pe_op op_mulW pe_int (pv 1))) pe_int) pe_int))
      (pss_one (ps_ret (pe_op op_fdivW (pe_op op_mod (pe_op op_mulW (pv 0) (pv 0)) pe_int) (pe_op op_pow pe_int pe_int))))), ?_⟩
    simp only [tSeq, tIfS, tOr, tAnd, tNot, tB, tTest, tCB, tCall, tCons, tVar, tNil, tC, tRet, tRetN, tNext, tAsg, gName, tDrop, tOp, tUn, tAug, ipI, tPar, tIf, tAndV, tOrV, tNotV, tChain, tNever, rI0, rI, rU, L2.start, cxK, List.map_cons, List.map_nil, List.length_cons, List.length_nil, Nat.reduceAdd, Nat.reduceSub, List.replicate, List.cons_append, List.nil_append, List.append_nil, List.set_cons_zero, List.set_cons_succ, List.getElem?_cons_zero, List.getElem?_cons_succ, Option.some.injEq, V.int.injEq, V.bl.injEq, exists_eq_left', exists_eq_left, exists_and_left, tFor_eq, iRng1, iRng2, iRng3, iList, iEnum, iZip, iTup, tLst_eq, tTup_eq, rCat_eq, rCatS, rSum, rAppend_eq, rListOf, rSlL_eq, tSl, tNoPart, tPart, tLc_eq, tBM, rIxL, rIxT, min3_eq, rEq_int, rNe_int, min_if, max_if, and_assoc, V.ref.injEq, V.str.injEq, List.cons.injEq, and_true, true_and, ↓reduceIte, Bool.false_eq_true, Bool.not_true, Bool.not_false, Int.reduceToNat, Int.reducePow, Int.reduceAdd, Int.reduceSub, Int.reduceNeg, rNe_str, rEq_str, rEq_bl, tRaise1, tFmt, tJs, tCallS, WE, wKeep_eq, reduceCtorEq, false_and, and_false, exists_false, or_false, false_or, tIsN, tNotN, decide_true, decide_false, tDictN]
    have k1 : (k : Int).natAbs < 2 ^ 11 := by omega
    have z1 : (104729 * (k : Int)).natAbs < 2 ^ 17 * 2 ^ 11 := by omega
    have m0 : 0 ≤ c % 1000000000000000000000000000000000000000000000000000000000000 := Int.emod_nonneg _ (by decide)
    have m1 : c % 1000000000000000000000000000000000000000000000000000000000000 < 1000000000000000000000000000000000000000000000000000000000000 := Int.emod_lt_of_pos _ (by decide)
    have sq : 0 ≤ 104729 * (k : Int) * (k : Int) := Int.mul_nonneg (by omega) (by omega)
    have sq1 : 104729 * (k : Int) * (k : Int) ≤ 104729 * 2000 * 2000 := Int.mul_le_mul (by omega) (by omega) (by omega) (by omega)
    generalize c % 1000000000000000000000000000000000000000000000000000000000000 = r at *
    generalize e2 : 104729 * (k : Int) * (k : Int) = y at *
    have z2 : (r + y + 7919 * (k : Int) + 3).natAbs < 2 ^ 201 := nat_lt (by omega) (by omega)
    have z3 : ((r + y + 7919 * (k : Int) + 3) * 2862933555777941757).natAbs < 2 ^ 270 := nat_lt (by omega) (by omega)
    refine ⟨⟨by decide, by decide, by decide⟩, by decide, cmw (a := 17) (b := 11) (by decide) k1 (by decide) (by decide) (by decide), cmw (a := 28) (b := 11) (by omega) k1 (by decide) (by decide) (by decide), cmw (a := 17) (b := 11) (by decide) k1 (by decide) (by decide) (by decide),
      cmw (a := 201) (b := 64) z2 (by decide) (by decide) (by decide) (by decide), cmw z3 z3 (by decide) (by decide) (by decide), by decide, ⟨by decide, by decide, by decide⟩, cdw (by decide) (by decide), ?_⟩
    exact q _ (Int.ediv_nonneg (Int.emod_nonneg _ (by decide)) (by decide))
def Rate (r : Int) : Prop := 1 ≤ r ∧ r ≤ 1000000000
def sp__law_rate : Sp := fun vs H Q _ => ∃ (n : Int), vs = [.int n] ∧ 0 ≤ n ∧ ∀ (r : Int) H', Rate r → Ex H H' → Q (.int r) H'
theorem ok__law_rate (B : Bt mg cl) {f : Addr} {fd : FuncData} (F : Fun K "_law_rate" "_law_rate" s__law_rate f fd) : FnOk P w K mg base CX0 1 f fd ["_law_number"] sp__law_rate := by
  refine F.ok sc__law_rate (fun vs H Q E h => ?_) (fun cdv A outer s H vs Q E hr h => ?_)
  · obtain ⟨n, rfl, _⟩ := h
    rfl
  · obtain ⟨n, rfl, hn, q⟩ := h
    refine ⟨_, (pss_cons (ps_set (i := 1) sc__law_rate.nd rfl (.inl rfl) (pe_op op_pow pe_int pe_int))
      (pss_one (ps_ret (pe_ix (k_ixl (K := K) rfl) (pe_lst (pa_cons (pe_op op_add pe_int (pe_op op_mod (pe_op op_fdivW (pv 0) pe_int) pe_int)) (pa_cons (pe_op op_add pe_int (pe_op op_mod (pe_op op_fdivW (pv 0) pe_int) pe_int)) (pa_cons (pe_op op_add pe_int (pe_op op_mod (pe_op op_fdivW (pv 0) pe_int) (pv 1))) (pa_cons (pv 1) (pa_cons pe_int (pa_cons pe_int (pa_cons pe_int (pa_cons pe_int pa_nil))))))))) (pe_op op_mod (pv 0) pe_int) (fun _ _ => rfl))))), ?_⟩
    simp only [tSeq, tIfS, tOr, tAnd, tNot, tB, tTest, tCB, tCall, tCons, tVar, tNil, tC, tRet, tRetN, tNext, tAsg, gName, tDrop, tOp, tUn, tAug, ipI, tPar, tIf, tAndV, tOrV, tNotV, tChain, tNever, rI0, rI, rU, L2.start, cxK, List.map_cons, List.map_nil, List.length_cons, List.length_nil, Nat.reduceAdd, Nat.reduceSub, List.replicate, List.cons_append, List.nil_append, List.append_nil, List.set_cons_zero, List.set_cons_succ, List.getElem?_cons_zero, List.getElem?_cons_succ, Option.some.injEq, V.int.injEq, V.bl.injEq, exists_eq_left', exists_eq_left, exists_and_left, tFor_eq, iRng1, iRng2, iRng3, iList, iEnum, iZip, iTup, tLst_eq, tTup_eq, rCat_eq, rCatS, rSum, rAppend_eq, rListOf, rSlL_eq, tSl, tNoPart, tPart, tLc_eq, tBM, rIxL, rIxT, min3_eq, rEq_int, rNe_int, min_if, max_if, and_assoc, V.ref.injEq, V.str.injEq, List.cons.injEq, and_true, true_and, ↓reduceIte, Bool.false_eq_true, Bool.not_true, Bool.not_false, Int.reduceToNat, Int.reducePow, Int.reduceAdd, Int.reduceSub, Int.reduceNeg, rNe_str, rEq_str, rEq_bl, tRaise1, tFmt, tJs, tCallS, WE, wKeep_eq, reduceCtorEq, false_and, and_false, exists_false, or_false, false_or, tIsN, tNotN, decide_true, decide_false, tDictN]
    refine ⟨⟨by decide, by decide, by decide⟩, cdw (by decide) (by decide), by decide, cdw (by decide) (by decide), by decide, cdw (by decide) (by decide), by decide, sz_of (by decide), new_of fun p H1 np e hp => ⟨by decide, _, sq_of hp, ?_⟩⟩
    obtain ⟨v, hv, ha⟩ := at_mem (xs := [V.int (1 + n / 8 % 9), V.int (1 + n / 8 % 1000), V.int (1 + n / 8 % 1000000000), V.int 1000000000, V.int 1, V.int 2, V.int 7, V.int 3]) (i := n % 8) (by omega) (by show n % 8 < 8; omega)
    have hr : ∃ r, v = .int r ∧ Rate r := by
      simp only [List.mem_cons, List.not_mem_nil, or_false] at hv
      rcases hv with rfl | rfl | rfl | rfl | rfl | rfl | rfl | rfl <;> exact ⟨_, rfl, by unfold Rate; omega⟩
    obtain ⟨r, rfl, hr⟩ := hr
    exact ⟨_, ha, q r H1 hr e⟩
def sp__law_reach : Sp := fun vs H Q _ => ∃ (m : Nat) (p g : Int), vs = [.int m, .int p, .int g] ∧ m ≤ 1000 ∧ 1 ≤ g ∧ g ≤ 1000000000 ∧ RetV (.int (U p g 0 m)) H Q
theorem ok__law_reach (B : Bt mg cl) {f : Addr} {fd : FuncData} (F : Fun K "_law_reach" "_law_reach" s__law_reach f fd) : FnOk P w K mg base CX0 1 f fd ["_law_many", "_law_pace", "_law_gain"] sp__law_reach := by
  refine F.ok sc__law_reach (fun vs H Q E h => ?_) (fun cdv A outer s H vs Q E hr h => ?_)
  · obtain ⟨m, p, g, rfl, _⟩ := h
    rfl
  · obtain ⟨m, p, g, rfl, hm, h1, h2, q⟩ := h
    refine ⟨_, (pss_one (ps_ret (pe_callB (k_sum (K := K) rfl (by rfl)) (by rfl) B.b_sum (by decide +kernel) (pa_cons (pe_lc (own := [("_law_k", 3)]) (g := gName 3) (tt := tYes) (by rfl) sc__law_reach.nd (pi_range1 (by rfl) B.b_range (pa_cons (pv 0) pa_nil)) (blkOk_by (own := [("_law_k", 3)]) (N := ["_law_many", "_law_pace", "_law_gain", "_law_k"]) (sc := defScope s__law_reach) (by decide +kernel)) (fun _ _ _ _ _ => (pg_name (i := 3) sc__law_reach.nd rfl (.inl rfl))) (fun _ _ _ _ _ => pts_nil) (fun _ _ _ _ _ => (pe_callB (call_min3Nu rfl) (by rfl) B.b_min (by decide +kernel) (pa_cons (pv 1) (pa_cons (pe_op op_mul (pv 2) (pe_op op_add (pv 3) pe_int)) (pa_cons (pe_op op_mul (pv 2) (pe_op op_sub (pv 0) (pv 3))) pa_nil)))))) pa_nil)))), ?_⟩
    simp only [tSeq, tIfS, tOr, tAnd, tNot, tB, tTest, tCB, tCall, tCons, tVar, tNil, tC, tRet, tRetN, tNext, tAsg, gName, tDrop, tOp, tUn, tAug, ipI, tPar, tIf, tAndV, tOrV, tNotV, tChain, tNever, rI0, rI, rU, L2.start, cxK, List.map_cons, List.map_nil, List.length_cons, List.length_nil, Nat.reduceAdd, Nat.reduceSub, List.replicate, List.cons_append, List.nil_append, List.append_nil, List.set_cons_zero, List.set_cons_succ, List.getElem?_cons_zero, List.getElem?_cons_succ, Option.some.injEq, V.int.injEq, V.bl.injEq, exists_eq_left', exists_eq_left, exists_and_left, tFor_eq, iRng1, iRng2, iRng3, iList, iEnum, iZip, iTup, tLst_eq, tTup_eq, rCat_eq, rCatS, rSum, rAppend_eq, rListOf, rSlL_eq, tSl, tNoPart, tPart, tLc_eq, tBM, rIxL, rIxT, min3_eq, rEq_int, rNe_int, min_if, max_if, and_assoc, V.ref.injEq, V.str.injEq, List.cons.injEq, and_true, true_and, ↓reduceIte, Bool.false_eq_true, Bool.not_true, Bool.not_false, Int.reduceToNat, Int.reducePow, Int.reduceAdd, Int.reduceSub, Int.reduceNeg, rNe_str, rEq_str, rEq_bl, tRaise1, tFmt, tJs, tCallS, WE, wKeep_eq, reduceCtorEq, false_and, and_false, exists_false, or_false, false_or, tIsN, tNotN, decide_true, decide_false, tDictN]
    refine ⟨by omega, by omega, fun Dl hD => lc_gives walk_range (fun k => some (.int (top p g 0 m k))) hD (fun _ _ => trivial) ?_ ?_⟩
    · rintro i x H0 H' hi e0 hl ⟨rfl, rfl⟩
      simp only [tSeq, tIfS, tOr, tAnd, tNot, tB, tTest, tCB, tCall, tCons, tVar, tNil, tC, tRet, tRetN, tNext, tAsg, gName, tDrop, tOp, tUn, tAug, ipI, tPar, tIf, tAndV, tOrV, tNotV, tChain, tNever, rI0, rI, rU, L2.start, cxK, List.map_cons, List.map_nil, List.length_cons, List.length_nil, Nat.reduceAdd, Nat.reduceSub, List.replicate, List.cons_append, List.nil_append, List.append_nil, List.set_cons_zero, List.set_cons_succ, List.getElem?_cons_zero, List.getElem?_cons_succ, Option.some.injEq, V.int.injEq, V.bl.injEq, exists_eq_left', exists_eq_left, exists_and_left, tFor_eq, iRng1, iRng2, iRng3, iList, iEnum, iZip, iTup, tLst_eq, tTup_eq, rCat_eq, rCatS, rSum, rAppend_eq, rListOf, rSlL_eq, tSl, tNoPart, tPart, tLc_eq, tBM, rIxL, rIxT, min3_eq, rEq_int, rNe_int, min_if, max_if, and_assoc, V.ref.injEq, V.str.injEq, List.cons.injEq, and_true, true_and, ↓reduceIte, Bool.false_eq_true, Bool.not_true, Bool.not_false, Int.reduceToNat, Int.reducePow, Int.reduceAdd, Int.reduceSub, Int.reduceNeg, rNe_str, rEq_str, rEq_bl, tRaise1, tFmt, tJs, tCallS, WE, wKeep_eq, reduceCtorEq, false_and, and_false, exists_false, or_false, false_or, tIsN, tNotN, decide_true, decide_false, tDictN, wipe, tYes]
      refine ⟨.inl ⟨by omega, by omega⟩, .inl ⟨by omega, by omega⟩, put_of hD e0 hl (sz_lt (by omega)) ?_⟩
      unfold top
      simp only [Int.zero_add]
    · intro H' e h
      rw [gives_map] at h
      have e2 : (List.range (m : Int).toNat).map (fun k => V.int (top p g 0 m k)) = ((List.range m).map (top p g 0 m)).map V.int := by
        rw [List.map_map]
        rfl
      rw [e2] at h
      refine ⟨_, rfl, _, sq_of h, ?_⟩
      rw [sum_S]
      exact q H' e
theorem get_int {ns : List Int} {i : Nat} {x : V} (h : (ns.map V.int)[i]? = some x) : ∃ z, ns[i]? = some z ∧ x = .int z := by
  rw [List.getElem?_map] at h
  cases e : ns[i]? with
  | none =>
    rw [e] at h
    cases h
  | some z =>
    rw [e] at h
    exact ⟨z, rfl, (Option.some.inj h).symm⟩
theorem known_mono {H H' : Hp} {x : V} (e : Ex H H') (h : Known K H x) : Known K H' x := by
  rcases h with h | h | ⟨s, h1, h2⟩
  · exact .inl h
  · exact .inr (.inl h)
  · exact .inr (.inr ⟨s, tyx_mono e h1, h2⟩)
/-- no whole number from 0 to m -/
structure Odd (K : PySem.W.Frag) (H : Hp) (m : Int) (v : V) : Prop where
  known : Known K H v
  no : ∀ l, 0 ≤ l → wholeV v l m = false
theorem odd_int {H : Hp} {m a : Int} (h : a < 0 ∨ m < a) : Odd K H m (.int a) := ⟨.inl ⟨a, rfl⟩, fun l hl => by
  show (decide (l ≤ a) && decide (a ≤ m)) = false
  rw [Bool.and_eq_false_iff]
  rcases h with h | h
  · exact .inl (decide_eq_false (by omega))
  · exact .inr (decide_eq_false (by omega))⟩
theorem odd_ty {H : Hp} {m : Int} {v : V} {s : String} (ht : TyX K H v (.type s)) (hk : kitB s "int" = some false) : Odd K H m v := ⟨.inr (.inr ⟨s, ht, hk⟩), fun l _ => whole_no ht hk⟩
def sp__law_odd (K : PySem.W.Frag) : Sp := fun vs H Q _ => ∃ (n m : Int), vs = [.int n, .int m] ∧ 0 ≤ n ∧ 1 ≤ m ∧ m ≤ 1000000000000 ∧ ∀ (v : V) H', Ex H H' → Odd K H' m v → Q v H'
theorem ok__law_odd (B : Bt mg cl) {f : Addr} {fd : FuncData} (F : Fun K "_law_odd" "_law_odd" s__law_odd f fd) : FnOk P w K mg base CX0 1 f fd ["_law_number", "_law_most"] (sp__law_odd K) := by
  refine F.ok sc__law_odd (fun vs H Q E h => ?_) (fun cdv A outer s H vs Q E hr h => ?_)
  · obtain ⟨n, m, rfl, _⟩ := h
    rfl
  · obtain ⟨n, m, rfl, hn, m1, m2, q⟩ := h
    refine ⟨_, (pss_cons (ps_set (i := 2) sc__law_odd.nd rfl (.inl rfl) (pe_op op_mod (pe_op op_fdivW (pv 0) pe_int) (pe_op op_pow pe_int pe_int)))
      (pss_cons (ps_set (i := 3) sc__law_odd.nd rfl (.inl rfl) (pe_lst (pa_cons pe_non (pa_cons pe_bl (pa_cons pe_bl (pa_cons (pe_un un_neg pe_int) (pa_cons (pe_op op_add (pv 1) pe_int) (pa_cons (pe_op op_add (pe_op op_add (pv 1) pe_int) (pv 2)) (pa_cons (pe_op op_sub (pe_un un_neg pe_int) (pv 2)) (pa_cons pe_str (pa_cons (pe_lst (pa_cons pe_int pa_nil)) (pa_cons (pe_tup (pa_cons pe_int pa_nil)) (pa_cons pe_dnewN (pa_cons (pe_op op_add (pe_op op_mul (pv 1) (pe_op op_pow pe_int pe_int)) pe_int) pa_nil))))))))))))))
      (pss_one (ps_ret (pe_ix (k_ixl (K := K) rfl) (pe_op (k_catS (K := K) rfl) (pv 3) (pe_lst (pa_cons pe_str (pa_cons pe_str (pa_cons (pe_lst pa_nil) (pa_cons (pe_tup pa_nil) pa_nil)))))) (pe_op op_mod (pv 0) pe_int) (fun _ _ => rfl)))))), ?_⟩
    refine cut_eq fun N1 hN1 => ?_
    simp only [tSeq, tIfS, tOr, tAnd, tNot, tB, tTest, tCB, tCall, tCons, tVar, tNil, tC, tRet, tRetN, tNext, tAsg, gName, tDrop, tOp, tUn, tAug, ipI, tPar, tIf, tAndV, tOrV, tNotV, tChain, tNever, rI0, rI, rU, L2.start, cxK, List.map_cons, List.map_nil, List.length_cons, List.length_nil, Nat.reduceAdd, Nat.reduceSub, List.replicate, List.cons_append, List.nil_append, List.append_nil, List.set_cons_zero, List.set_cons_succ, List.getElem?_cons_zero, List.getElem?_cons_succ, Option.some.injEq, V.int.injEq, V.bl.injEq, exists_eq_left', exists_eq_left, exists_and_left, tFor_eq, iRng1, iRng2, iRng3, iList, iEnum, iZip, iTup, tLst_eq, tTup_eq, rCat_eq, rCatS, rSum, rAppend_eq, rListOf, rSlL_eq, tSl, tNoPart, tPart, tLc_eq, tBM, rIxL, rIxT, min3_eq, rEq_int, rNe_int, min_if, max_if, and_assoc, V.ref.injEq, V.str.injEq, List.cons.injEq, and_true, true_and, ↓reduceIte, Bool.false_eq_true, Bool.not_true, Bool.not_false, Int.reduceToNat, Int.reducePow, Int.reduceAdd, Int.reduceSub, Int.reduceNeg, rNe_str, rEq_str, rEq_bl, tRaise1, tFmt, tJs, tCallS, WE, wKeep_eq, reduceCtorEq, false_and, and_false, exists_false, or_false, false_or, tIsN, tNotN, decide_true, decide_false, tDictN]
    refine ⟨cdw (by decide) (by decide), ⟨by decide, by decide, by decide⟩, by decide, ?_⟩
    rw [← hN1]
    have f0 : 0 ≤ n / 16 % 1000000000000 := Int.emod_nonneg _ (by decide)
    generalize n / 16 % 1000000000000 = far at *
    clear hN1
    refine cut_eq fun N2 hN2 => ?_
    simp only [tSeq, tIfS, tOr, tAnd, tNot, tB, tTest, tCB, tCall, tCons, tVar, tNil, tC, tRet, tRetN, tNext, tAsg, gName, tDrop, tOp, tUn, tAug, ipI, tPar, tIf, tAndV, tOrV, tNotV, tChain, tNever, rI0, rI, rU, L2.start, cxK, List.map_cons, List.map_nil, List.length_cons, List.length_nil, Nat.reduceAdd, Nat.reduceSub, List.replicate, List.cons_append, List.nil_append, List.append_nil, List.set_cons_zero, List.set_cons_succ, List.getElem?_cons_zero, List.getElem?_cons_succ, Option.some.injEq, V.int.injEq, V.bl.injEq, exists_eq_left', exists_eq_left, exists_and_left, tFor_eq, iRng1, iRng2, iRng3, iList, iEnum, iZip, iTup, tLst_eq, tTup_eq, rCat_eq, rCatS, rSum, rAppend_eq, rListOf, rSlL_eq, tSl, tNoPart, tPart, tLc_eq, tBM, rIxL, rIxT, min3_eq, rEq_int, rNe_int, min_if, max_if, and_assoc, V.ref.injEq, V.str.injEq, List.cons.injEq, and_true, true_and, ↓reduceIte, Bool.false_eq_true, Bool.not_true, Bool.not_false, Int.reduceToNat, Int.reducePow, Int.reduceAdd, Int.reduceSub, Int.reduceNeg, rNe_str, rEq_str, rEq_bl, tRaise1, tFmt, tJs, tCallS, WE, wKeep_eq, reduceCtorEq, false_and, and_false, exists_false, or_false, false_or, tIsN, tNotN, decide_true, decide_false, tDictN]
    refine ⟨sz_of (by decide), new_of fun p1 H1 n1 e1 h1 => ⟨sz_of (by decide), new_of fun p2 H2 n2 e2 h2 => new_of fun p3 H3 n3 e3 h3 => ?_⟩⟩
    refine ⟨⟨by decide, by decide, by decide⟩, .inl ⟨by omega, by omega⟩, sz_of (by decide), new_of fun p4 H4 n4 e4 h4 => ?_⟩
    rw [← hN2]
    clear hN2
    refine ret_eq fun N3 hN3 => ?_
    simp only [tSeq, tIfS, tOr, tAnd, tNot, tB, tTest, tCB, tCall, tCons, tVar, tNil, tC, tRet, tRetN, tNext, tAsg, gName, tDrop, tOp, tUn, tAug, ipI, tPar, tIf, tAndV, tOrV, tNotV, tChain, tNever, rI0, rI, rU, L2.start, cxK, List.map_cons, List.map_nil, List.length_cons, List.length_nil, Nat.reduceAdd, Nat.reduceSub, List.replicate, List.cons_append, List.nil_append, List.append_nil, List.set_cons_zero, List.set_cons_succ, List.getElem?_cons_zero, List.getElem?_cons_succ, Option.some.injEq, V.int.injEq, V.bl.injEq, exists_eq_left', exists_eq_left, exists_and_left, tFor_eq, iRng1, iRng2, iRng3, iList, iEnum, iZip, iTup, tLst_eq, tTup_eq, rCat_eq, rCatS, rSum, rAppend_eq, rListOf, rSlL_eq, tSl, tNoPart, tPart, tLc_eq, tBM, rIxL, rIxT, min3_eq, rEq_int, rNe_int, min_if, max_if, and_assoc, V.ref.injEq, V.str.injEq, List.cons.injEq, and_true, true_and, ↓reduceIte, Bool.false_eq_true, Bool.not_true, Bool.not_false, Int.reduceToNat, Int.reducePow, Int.reduceAdd, Int.reduceSub, Int.reduceNeg, rNe_str, rEq_str, rEq_bl, tRaise1, tFmt, tJs, tCallS, WE, wKeep_eq, reduceCtorEq, false_and, and_false, exists_false, or_false, false_or, tIsN, tNotN, decide_true, decide_false, tDictN]
    refine ⟨Nat.zero_le _, new_of fun p5 H5 n5 e5 h5 => ⟨Nat.zero_le _, new_of fun p6 H6 n6 e6 h6 => ⟨sz_of (by decide), new_of fun p7 H7 n7 e7 h7 => ?_⟩⟩⟩
    refine ⟨_, sq_of (e7 _ _ (e6 _ _ (e5 _ _ h4))), _, sq_of h7, sz_of (by simp), new_of fun p8 H8 n8 e8 h8 => ⟨by decide, _, sq_of h8, ?_⟩⟩
    rw [← hN3]
    obtain ⟨v, hv, ha⟩ := at_mem (xs := [V.non, V.bl true, V.bl false, V.int (-1), V.int (m + 1), V.int (m + 1 + far), V.int (-1 - far), V.str (Str.ofString "1"), V.ref p1, V.ref p2, V.ref p3, V.int (m * 100000000000000000000 + 1), V.str (Str.ofString ""), V.str (Str.ofString "one"), V.ref p5, V.ref p6]) (i := n % 16) (by omega) (by show n % 16 < 16; omega)
    refine ⟨v, ha, q v H8 ((((((((e1.trans e2).trans e3).trans e4).trans e5).trans e6).trans e7).trans e8)) ?_⟩
    have x8 : Ex H4 H8 := ((e5.trans e6).trans e7).trans e8
    simp only [List.mem_cons, List.not_mem_nil, or_false] at hv
    rcases hv with rfl | rfl | rfl | rfl | rfl | rfl | rfl | rfl | rfl | rfl | rfl | rfl | rfl | rfl | rfl | rfl
    · exact odd_ty (.base .non) (by decide +kernel)
    · exact ⟨.inr (.inl ⟨_, rfl⟩), fun _ _ => rfl⟩
    · exact ⟨.inr (.inl ⟨_, rfl⟩), fun _ _ => rfl⟩
    · exact odd_int (by omega)
    · exact odd_int (by omega)
    · exact odd_int (by omega)
    · exact odd_int (by omega)
    · exact odd_ty (.base (.str _)) (by decide +kernel)
    · exact odd_ty (.base (.lst (x8 _ _ (e4 _ _ (e3 _ _ (e2 _ _ h1)))))) (by decide +kernel)
    · exact odd_ty (.base (.tup (x8 _ _ (e4 _ _ (e3 _ _ h2))))) (by decide +kernel)
    · exact odd_ty (.base (.dK (x8 _ _ (e4 _ _ h3)))) (by decide +kernel)
    · exact odd_int (by omega)
    · exact odd_ty (.base (.str _)) (by decide +kernel)
    · exact odd_ty (.base (.str _)) (by decide +kernel)
    · exact odd_ty (.base (.lst (e8 _ _ (e7 _ _ (e6 _ _ h5))))) (by decide +kernel)
    · exact odd_ty (.base (.tup (e8 _ _ (e7 _ _ h6)))) (by decide +kernel)

/-! ### what is caught, and what is said -/
def RetT (xs : List V) (G : Hp) (Q : VK) : Prop := ∀ p G2, G p = none → Ex G G2 → G2 p = some (.tup xs) → Q (.ref p) G2
def sp__law_class (A1 A2 : Addr) : Sp := fun vs H Q _ => ∃ (a C : Addr) (t : Str), vs = [.ref a] ∧ H a = some (ExK (.ref C) none a) ∧ ((C = A1 ∧ t = "number") ∨ (C = A2 ∧ t = "long")) ∧ RetV (.str t) H Q
theorem ok__law_class (B : Bt mg cl) (EE : Exs K mg cl) {f : Addr} {fd : FuncData} (F : Fun K "_law_class" "_law_class" s__law_class f fd) : FnOk P w K mg base CX0 1 f fd ["_law_e"] (sp__law_class (cl 1) (cl 5)) := by
  refine F.ok sc__law_class (fun vs H Q E h => ?_) (fun cdv A outer s H vs Q E hr h => ?_)
  · obtain ⟨a, C, t, rfl, _⟩ := h
    rfl
  · obtain ⟨a, C, t, rfl, ha, c, q⟩ := h
    refine ⟨_, (pss_cons (ps_set (i := 1) sc__law_class.nd rfl (.inl rfl) (pe_lst (pa_cons (pe_callB (k_isY (K := K) rfl) (by rfl) B.b_isinstance (by decide +kernel) (pa_cons (pv 0) (pa_cons (pe_glob (v := .ref _) (by rfl) B.c_BadNumber rfl) pa_nil))) (pa_cons (pe_callB (k_isY (K := K) rfl) (by rfl) B.b_isinstance (by decide +kernel) (pa_cons (pv 0) (pa_cons (pe_glob (v := .ref _) (by rfl) B.c_TooLong rfl) pa_nil))) pa_nil))))
      (pss_cons (ps_set (i := 2) sc__law_class.nd rfl (.inl rfl) (pe_callB (k_isYT (K := K) rfl) (by rfl) B.b_isinstance (by decide +kernel) (pa_cons (pv 0) (pa_cons (pe_tup (pa_cons (pe_glob (v := .ref _) (by rfl) B.c_BadName rfl) (pa_cons (pe_glob (v := .ref _) (by rfl) B.c_BadRow rfl) (pa_cons (pe_glob (v := .ref _) (by rfl) B.c_BadSheet rfl) (pa_cons (pe_glob (v := .ref _) (by rfl) B.c_BadStage rfl) (pa_cons (pe_glob (v := .ref _) (by rfl) B.c_Busy rfl) (pa_cons (pe_glob (v := .ref _) (by rfl) B.c_Moving rfl) pa_nil))))))) pa_nil))))
      (pss_cons (ps_set (i := 2) sc__law_class.nd rfl (.inl rfl) (pe_or (pv 2) (pe_one (pe_callB (k_isYT (K := K) rfl) (by rfl) B.b_isinstance (by decide +kernel) (pa_cons (pv 0) (pa_cons (pe_tup (pa_cons (pe_glob (v := .ref _) (by rfl) B.c_NoCue rfl) (pa_cons (pe_glob (v := .ref _) (by rfl) B.c_NotStopped rfl) (pa_cons (pe_glob (v := .ref _) (by rfl) B.c_Stopped rfl) (pa_cons (pe_glob (v := .ref _) (by rfl) B.c_TooNear rfl) pa_nil))))) pa_nil))))))
      (pss_cons (ps_if (PW.pt (pw_or (pt_val (pv 2)) (pw_or (pt_not (pt_val (pe_callB (k_isY (K := K) rfl) (by rfl) B.b_isinstance (by decide +kernel) (pa_cons (pv 0) (pa_cons (pe_bltn (v := .ty "ValueError") (by rfl) B.b_ValueError (by decide +kernel) rfl) pa_nil))))) (pw_or1 (pt_cmpR op_eq (pe_ix (k_ixl (K := K) rfl) (pv 1) pe_int (fun _ _ => rfl)) (pe_ix (k_ixl (K := K) rfl) (pv 1) pe_int (fun _ _ => rfl)) (nomark _))))))
        (pss_one (ps_ret pe_str))
        pss_nil)
      (pss_one (ps_ret (pe_ifExp (pt_val (pe_ix (k_ixl (K := K) rfl) (pv 1) pe_int (fun _ _ => rfl))) pe_str pe_str))))))), ?_⟩
    rcases c with ⟨rfl, rfl⟩ | ⟨rfl, rfl⟩
    · simp only [tSeq, tIfS, tOr, tAnd, tNot, tB, tTest, tCB, tCall, tCons, tVar, tNil, tC, tRet, tRetN, tNext, tAsg, gName, tDrop, tOp, tUn, tAug, ipI, tPar, tIf, tAndV, tOrV, tNotV, tChain, tNever, rI0, rI, rU, L2.start, cxK, List.map_cons, List.map_nil, List.length_cons, List.length_nil, Nat.reduceAdd, Nat.reduceSub, List.replicate, List.cons_append, List.nil_append, List.append_nil, List.set_cons_zero, List.set_cons_succ, List.getElem?_cons_zero, List.getElem?_cons_succ, Option.some.injEq, V.int.injEq, V.bl.injEq, exists_eq_left', exists_eq_left, exists_and_left, tFor_eq, iRng1, iRng2, iRng3, iList, iEnum, iZip, iTup, tLst_eq, tTup_eq, rCat_eq, rCatS, rSum, rAppend_eq, rListOf, rSlL_eq, tSl, tNoPart, tPart, tLc_eq, tBM, rIxL, rIxT, min3_eq, rEq_int, rNe_int, min_if, max_if, and_assoc, V.ref.injEq, V.str.injEq, List.cons.injEq, and_true, true_and, ↓reduceIte, Bool.false_eq_true, Bool.not_true, Bool.not_false, Int.reduceToNat, Int.reducePow, Int.reduceAdd, Int.reduceSub, Int.reduceNeg, rNe_str, rEq_str, rEq_bl, tRaise1, tFmt, tJs, tCallS, WE, wKeep_eq, reduceCtorEq, false_and, and_false, exists_false, or_false, false_or, tIsN, tNotN, decide_true, decide_false, tDictN]
      have ty : TyY K H (.ref a) (.ref (cl 1)) := .exc ha EE.BadNumber.ec
      refine isyC ty EE.k_BadNumber_BadNumber (isyC ty EE.k_BadNumber_TooLong ⟨sz_of (by simp), new_of fun p1 H1 n1 e1 h1 => ?_⟩)
      refine ⟨sz_of (by decide), new_of fun p2 H2 n2 e2 h2 => ⟨_, _, _, .ref (cl 1), _, false, rfl, h2, .cons (.own _) (.cons (.own _) (.cons (.own _) (.cons (.own _) (.cons (.own _) (.cons (.own _) .nil))))), .exc (e2 _ _ (e1 _ _ ha)) EE.BadNumber.ec, EE.o0_BadNumber, _, rfl, ifF rfl ?_⟩⟩
      refine ⟨sz_of (by decide), new_of fun p3 H3 n3 e3 h3 => ⟨_, _, _, .ref (cl 1), _, false, rfl, h3, .cons (.own _) (.cons (.own _) (.cons (.own _) (.cons (.own _) .nil))), .exc (e3 _ _ (e2 _ _ (e1 _ _ ha))) EE.BadNumber.ec, EE.o1_BadNumber, ?_⟩⟩
      have ty3 : TyY K H3 (.ref a) (.ref (cl 1)) := .exc (e3 _ _ (e2 _ _ (e1 _ _ ha))) EE.BadNumber.ec
      have w1 := e3 _ _ (e2 _ _ h1)
      refine ⟨_, rfl, ifF rfl (isy ty3 EE.v_BadNumber ⟨_, rfl, ifF rfl ⟨_, sq_of w1, _, rfl, _, sq_of w1, _, rfl, ?_⟩⟩)⟩
      show rEq _ _ _ _
      rw [rEq_bl]
      exact ⟨_, rfl, ifF (by decide) ⟨_, sq_of w1, _, rfl, _, rfl, ifT rfl (q H3 ((e1.trans e2).trans e3))⟩⟩
    · simp only [tSeq, tIfS, tOr, tAnd, tNot, tB, tTest, tCB, tCall, tCons, tVar, tNil, tC, tRet, tRetN, tNext, tAsg, gName, tDrop, tOp, tUn, tAug, ipI, tPar, tIf, tAndV, tOrV, tNotV, tChain, tNever, rI0, rI, rU, L2.start, cxK, List.map_cons, List.map_nil, List.length_cons, List.length_nil, Nat.reduceAdd, Nat.reduceSub, List.replicate, List.cons_append, List.nil_append, List.append_nil, List.set_cons_zero, List.set_cons_succ, List.getElem?_cons_zero, List.getElem?_cons_succ, Option.some.injEq, V.int.injEq, V.bl.injEq, exists_eq_left', exists_eq_left, exists_and_left, tFor_eq, iRng1, iRng2, iRng3, iList, iEnum, iZip, iTup, tLst_eq, tTup_eq, rCat_eq, rCatS, rSum, rAppend_eq, rListOf, rSlL_eq, tSl, tNoPart, tPart, tLc_eq, tBM, rIxL, rIxT, min3_eq, rEq_int, rNe_int, min_if, max_if, and_assoc, V.ref.injEq, V.str.injEq, List.cons.injEq, and_true, true_and, ↓reduceIte, Bool.false_eq_true, Bool.not_true, Bool.not_false, Int.reduceToNat, Int.reducePow, Int.reduceAdd, Int.reduceSub, Int.reduceNeg, rNe_str, rEq_str, rEq_bl, tRaise1, tFmt, tJs, tCallS, WE, wKeep_eq, reduceCtorEq, false_and, and_false, exists_false, or_false, false_or, tIsN, tNotN, decide_true, decide_false, tDictN]
      have ty : TyY K H (.ref a) (.ref (cl 5)) := .exc ha EE.TooLong.ec
      refine isyC ty EE.k_TooLong_BadNumber (isyC ty EE.k_TooLong_TooLong ⟨sz_of (by simp), new_of fun p1 H1 n1 e1 h1 => ?_⟩)
      refine ⟨sz_of (by decide), new_of fun p2 H2 n2 e2 h2 => ⟨_, _, _, .ref (cl 5), _, false, rfl, h2, .cons (.own _) (.cons (.own _) (.cons (.own _) (.cons (.own _) (.cons (.own _) (.cons (.own _) .nil))))), .exc (e2 _ _ (e1 _ _ ha)) EE.TooLong.ec, EE.o0_TooLong, _, rfl, ifF rfl ?_⟩⟩
      refine ⟨sz_of (by decide), new_of fun p3 H3 n3 e3 h3 => ⟨_, _, _, .ref (cl 5), _, false, rfl, h3, .cons (.own _) (.cons (.own _) (.cons (.own _) (.cons (.own _) .nil))), .exc (e3 _ _ (e2 _ _ (e1 _ _ ha))) EE.TooLong.ec, EE.o1_TooLong, ?_⟩⟩
      have ty3 : TyY K H3 (.ref a) (.ref (cl 5)) := .exc (e3 _ _ (e2 _ _ (e1 _ _ ha))) EE.TooLong.ec
      have w1 := e3 _ _ (e2 _ _ h1)
      refine ⟨_, rfl, ifF rfl (isy ty3 EE.v_TooLong ⟨_, rfl, ifF rfl ⟨_, sq_of w1, _, rfl, _, sq_of w1, _, rfl, ?_⟩⟩)⟩
      show rEq _ _ _ _
      rw [rEq_bl]
      exact ⟨_, rfl, ifF (by decide) ⟨_, sq_of w1, _, rfl, _, rfl, ifF rfl (q H3 ((e1.trans e2).trans e3))⟩⟩

def sp__law_fallen : Sp := fun vs H Q _ => ∃ (s g : Int), vs = [.int s, .int g] ∧ 1 ≤ g ∧ RetL ((fallen s g (min (nf s g) 202)).map V.int) H Q
theorem ok__law_fallen (B : Bt mg cl) {f : Addr} {fd : FuncData} (F : Fun K "_law_fallen" "_law_fallen" s__law_fallen f fd) : FnOk P w K mg base CX0 1 f fd ["_law_step", "_law_gain"] sp__law_fallen := by
  refine F.ok sc__law_fallen (fun vs H Q E h => ?_) (fun cdv A outer s H vs Q E hr h => ?_)
  · obtain ⟨s, g, rfl, _⟩ := h
    rfl
  · obtain ⟨s, g, rfl, g1, q⟩ := h
    refine ⟨_, (pss_cons (ps_set (i := 2) sc__law_fallen.nd rfl (.inl rfl) (pe_lst pa_nil))
      (pss_cons (ps_while PassesOwn.never (PW.pt (pw_and (pt_cmpR op_gt (pv 0) (pv 1) (nomark _)) (pw_and1 (pt_cmpR op_lt (pe_callB (k_len (K := K) rfl) (by rfl) B.b_len (by decide +kernel) (pa_cons (pv 2) pa_nil)) pe_int (nomark _)))))
        (pss_cons (ps_set (i := 0) sc__law_fallen.nd rfl (.inl rfl) (pe_op op_sub (pv 0) (pv 1)))
      (pss_one (ps_expr (pe_bm PySem.F.plainAttrs_list PySem.F.slot_list_append PySem.F.type_list_append mt_append (pv 2) (pa_cons (pv 0) pa_nil))))))
      (pss_one (ps_ret (pv 2))))), ?_⟩
    simp only [tSeq, tIfS, tOr, tAnd, tNot, tB, tTest, tCB, tCall, tCons, tVar, tNil, tC, tRet, tRetN, tNext, tAsg, gName, tDrop, tOp, tUn, tAug, ipI, tPar, tIf, tAndV, tOrV, tNotV, tChain, tNever, rI0, rI, rU, L2.start, cxK, List.map_cons, List.map_nil, List.length_cons, List.length_nil, Nat.reduceAdd, Nat.reduceSub, List.replicate, List.cons_append, List.nil_append, List.append_nil, List.set_cons_zero, List.set_cons_succ, List.getElem?_cons_zero, List.getElem?_cons_succ, Option.some.injEq, V.int.injEq, V.bl.injEq, exists_eq_left', exists_eq_left, exists_and_left, tFor_eq, iRng1, iRng2, iRng3, iList, iEnum, iZip, iTup, tLst_eq, tTup_eq, rCat_eq, rCatS, rSum, rAppend_eq, rListOf, rSlL_eq, tSl, tNoPart, tPart, tLc_eq, tBM, rIxL, rIxT, min3_eq, rEq_int, rNe_int, min_if, max_if, and_assoc, V.ref.injEq, V.str.injEq, List.cons.injEq, and_true, true_and, ↓reduceIte, Bool.false_eq_true, Bool.not_true, Bool.not_false, Int.reduceToNat, Int.reducePow, Int.reduceAdd, Int.reduceSub, Int.reduceNeg, rNe_str, rEq_str, rEq_bl, tRaise1, tFmt, tJs, tCallS, WE, wKeep_eq, reduceCtorEq, false_and, and_false, exists_false, or_false, false_or, tIsN, tNotN, decide_true, decide_false, tDictN]
    refine ⟨Nat.zero_le _, new_of fun l H1 nl e1 hl => ?_⟩
    obtain ⟨Pv, hPv⟩ : ∃ Pv : Nat → L2.St → Hp → Prop, ∀ m σ H', Pv m σ H' ↔ ∃ i : Nat, m + i = min (nf s g) 202 ∧ σ = [some (.int (s - (i : Int) * g)), some (.int g), some (.ref l)] ∧ Ex H H' ∧ H' l = some (.lst ((fallen s g i).map V.int)) := ⟨_, fun _ _ _ => Iff.rfl⟩
    refine ⟨Pv, ⟨min (nf s g) 202, (hPv _ _ _).mpr ⟨0, rfl, by simp, e1, hl⟩⟩, fun m σ H2 hp => ?_⟩
    obtain ⟨i, hi, rfl, e2, h2⟩ := (hPv _ _ _).mp hp
    simp only [tSeq, tIfS, tOr, tAnd, tNot, tB, tTest, tCB, tCall, tCons, tVar, tNil, tC, tRet, tRetN, tNext, tAsg, gName, tDrop, tOp, tUn, tAug, ipI, tPar, tIf, tAndV, tOrV, tNotV, tChain, tNever, rI0, rI, rU, L2.start, cxK, List.map_cons, List.map_nil, List.length_cons, List.length_nil, Nat.reduceAdd, Nat.reduceSub, List.replicate, List.cons_append, List.nil_append, List.append_nil, List.set_cons_zero, List.set_cons_succ, List.getElem?_cons_zero, List.getElem?_cons_succ, Option.some.injEq, V.int.injEq, V.bl.injEq, exists_eq_left', exists_eq_left, exists_and_left, tFor_eq, iRng1, iRng2, iRng3, iList, iEnum, iZip, iTup, tLst_eq, tTup_eq, rCat_eq, rCatS, rSum, rAppend_eq, rListOf, rSlL_eq, tSl, tNoPart, tPart, tLc_eq, tBM, rIxL, rIxT, min3_eq, rEq_int, rNe_int, min_if, max_if, and_assoc, V.ref.injEq, V.str.injEq, List.cons.injEq, and_true, true_and, ↓reduceIte, Bool.false_eq_true, Bool.not_true, Bool.not_false, Int.reduceToNat, Int.reducePow, Int.reduceAdd, Int.reduceSub, Int.reduceNeg, rNe_str, rEq_str, rEq_bl, tRaise1, tFmt, tJs, tCallS, WE, wKeep_eq, reduceCtorEq, false_and, and_false, exists_false, or_false, false_or, tIsN, tNotN, decide_true, decide_false, tDictN]
    by_cases c1 : g < s - (i : Int) * g
    · have c2 := (nf_lt (s := s) g1 i).mpr c1
      refine ifT (decide_eq_true c1) ⟨_, .inl (sq_of h2), ?_⟩
      rw [List.length_map, fallen_len]
      by_cases c3 : i < 202
      · refine ifT (decide_eq_true (by omega)) ⟨fun σ' H' => Pv (m - 1) σ' H', fun σ' H' h => ⟨m - 1, by omega, h⟩, .inl ⟨rfl, _, sq_of h2⟩, _, h2, ?_, chg_of fun H3 k3 h3 => ?_⟩
        · rw [List.length_map, fallen_len]
          exact sz_lt (by omega)
        · refine (hPv _ _ _).mpr ⟨i + 1, by omega, ?_, ex_chg e2 nl k3, ?_⟩
          · have z : s - ((i + 1 : Nat) : Int) * g = s - (i : Int) * g - g := by
              rw [show ((i + 1 : Nat) : Int) = (i : Int) + 1 by omega, Int.add_mul]
              omega
            rw [z]
          · rw [h3, fallen_succ, List.map_append, show s - g - (i : Int) * g = s - (i : Int) * g - g by omega]
            rfl
      · refine ifF (decide_eq_false (by omega)) (q l H2 nl e2 ?_)
        rw [h2, show min (nf s g) 202 = i by omega]
    · have c2 := (nf_lt (s := s) g1 i)
      refine ifF (decide_eq_false c1) (q l H2 nl e2 ?_)
      rw [h2, show min (nf s g) 202 = i by omega]
def sp__law_said (K : PySem.W.Frag) (T : Addr) : Sp := fun vs H Q _ => ∃ (w : Int) (x y z : V), vs = [.int w, x, y, z] ∧ Known K H x ∧ Known K H y ∧ GxR.TabG H T ∧
  ((w = 0 ∧ Known K H z ∧ (wholeV x 0 200 && wholeV y 1 1000000000 && wholeV z 1 1000000000) = false ∧ RetT [.str "refused", .str "number"] H Q) ∨
   (w = 1 ∧ (wholeV x 0 1000000000 && wholeV y 1 1000000000) = false ∧ RetT [.str "refused", .str "number"] H Q) ∨
   (w = 1 ∧ ∃ s g : Int, x = .int s ∧ y = .int g ∧ 0 ≤ s ∧ s ≤ 1000000000 ∧ 1 ≤ g ∧ g ≤ 1000000000 ∧ (200 < nf s g → RetT [.str "refused", .str "long"] H Q) ∧
     (nf s g ≤ 200 → ∀ l p G2, H l = none → H p = none → Ex H G2 → G2 l = some (.lst ((fallen s g (nf s g)).map V.int)) → G2 p = some (.tup [.str "told", .ref l]) → Q (.ref p) G2)))
theorem ok__law_said (B : Bt mg cl) (EE : Exs K mg cl) {T : Addr} (F_reach : Fn P w K mg base "reach" ["many", "pace", "gain"] (L2.CX P w) 4 (sp_reach K (cl 1) T)) (F_braked : Fn P w K mg base "braked" ["step", "gain"] (L2.CX P w) 3 (sp_braked K (cl 1) (cl 5))) (F__law_class : Fn P w K mg base "_law_class" ["_law_e"] CX0 1 (sp__law_class (cl 1) (cl 5))) {f : Addr} {fd : FuncData} (F : Fun K "_law_said" "_law_said" s__law_said f fd) : FnOk P w K mg base CX0 5 f fd ["_law_way", "_law_one", "_law_other", "_law_third"] (sp__law_said K T) := by
  refine F.ok sc__law_said (fun vs H Q E h => ?_) (fun cdv A outer s H vs Q E hr h => ?_)
  · obtain ⟨w, x, y, z, rfl, _⟩ := h
    rfl
  · obtain ⟨w, x, y, z, rfl, kx, ky, tg, c⟩ := h
    refine ⟨_, (pss_cons (ps_set (i := 4) sc__law_said.nd rfl (.inl rfl) pe_non)
      (pss_cons (ps_set (i := 5) sc__law_said.nd rfl (.inl rfl) pe_non)
      (pss_cons (ps_try_keep (i := 6) (j := 4) (tb := _) rfl rfl rfl sc__law_said.nd rfl rfl rfl rfl (.inl rfl) ⟨rfl, by decide, .inl B.c_StageError⟩ (fun W pn xe tk _ =>
        (pss_one (ps_if (pt_cmpR op_eq (pv 0) pe_int (nomark _))
        (pss_one (ps_set (i := 5) sc__law_said.nd rfl (.inl rfl) (pe_fnS F_reach (hr.mono (by decide)) tk (pa_cons (pv 1) (pa_cons (pv 2) (pa_cons (pv 3) pa_nil))))))
        (pss_one (ps_set (i := 5) sc__law_said.nd rfl (.inl rfl) (pe_fnS F_braked (hr.mono (by decide)) tk (pa_cons (pv 1) (pa_cons (pv 2) pa_nil)))))))))
      (pss_one (ps_ret (pe_ifExp (pt_cmpR op_notN (pv 4) pe_non (nomark _)) (pe_tup (pa_cons pe_str (pa_cons (pe_fn F__law_class (hr.mono (by decide)) (pa_cons (pv 4) pa_nil)) pa_nil))) (pe_tup (pa_cons pe_str (pa_cons (pv 5) pa_nil))))))))), ?_⟩
    rcases c with ⟨rfl, kz, bad, q⟩ | ⟨rfl, bad, q⟩ | ⟨rfl, s, g, rfl, rfl, s0, s1, g1, g2, long, told⟩
    · simp only [tSeq, tIfS, tOr, tAnd, tNot, tB, tTest, tCB, tCall, tCons, tVar, tNil, tC, tRet, tRetN, tNext, tAsg, gName, tDrop, tOp, tUn, tAug, ipI, tPar, tIf, tAndV, tOrV, tNotV, tChain, tNever, rI0, rI, rU, L2.start, cxK, List.map_cons, List.map_nil, List.length_cons, List.length_nil, Nat.reduceAdd, Nat.reduceSub, List.replicate, List.cons_append, List.nil_append, List.append_nil, List.set_cons_zero, List.set_cons_succ, List.getElem?_cons_zero, List.getElem?_cons_succ, Option.some.injEq, V.int.injEq, V.bl.injEq, exists_eq_left', exists_eq_left, exists_and_left, tFor_eq, iRng1, iRng2, iRng3, iList, iEnum, iZip, iTup, tLst_eq, tTup_eq, rCat_eq, rCatS, rSum, rAppend_eq, rListOf, rSlL_eq, tSl, tNoPart, tPart, tLc_eq, tBM, rIxL, rIxT, min3_eq, rEq_int, rNe_int, min_if, max_if, and_assoc, V.ref.injEq, V.str.injEq, List.cons.injEq, and_true, true_and, ↓reduceIte, Bool.false_eq_true, Bool.not_true, Bool.not_false, Int.reduceToNat, Int.reducePow, Int.reduceAdd, Int.reduceSub, Int.reduceNeg, rNe_str, rEq_str, rEq_bl, tRaise1, tFmt, tJs, tCallS, WE, wKeep_eq, reduceCtorEq, false_and, and_false, exists_false, or_false, false_or, tIsN, tNotN, decide_true, decide_false, tDictN]
      refine ⟨x, y, z, rfl, kx, ky, kz, tg, fun _ => ?_, fun m p g ex ey ez hm p1 p2 g1 g2 => ?_⟩
      · simp only [tSeq, tIfS, tOr, tAnd, tNot, tB, tTest, tCB, tCall, tCons, tVar, tNil, tC, tRet, tRetN, tNext, tAsg, gName, tDrop, tOp, tUn, tAug, ipI, tPar, tIf, tAndV, tOrV, tNotV, tChain, tNever, rI0, rI, rU, L2.start, cxK, List.map_cons, List.map_nil, List.length_cons, List.length_nil, Nat.reduceAdd, Nat.reduceSub, List.replicate, List.cons_append, List.nil_append, List.append_nil, List.set_cons_zero, List.set_cons_succ, List.getElem?_cons_zero, List.getElem?_cons_succ, Option.some.injEq, V.int.injEq, V.bl.injEq, exists_eq_left', exists_eq_left, exists_and_left, tFor_eq, iRng1, iRng2, iRng3, iList, iEnum, iZip, iTup, tLst_eq, tTup_eq, rCat_eq, rCatS, rSum, rAppend_eq, rListOf, rSlL_eq, tSl, tNoPart, tPart, tLc_eq, tBM, rIxL, rIxT, min3_eq, rEq_int, rNe_int, min_if, max_if, and_assoc, V.ref.injEq, V.str.injEq, List.cons.injEq, and_true, true_and, ↓reduceIte, Bool.false_eq_true, Bool.not_true, Bool.not_false, Int.reduceToNat, Int.reducePow, Int.reduceAdd, Int.reduceSub, Int.reduceNeg, rNe_str, rEq_str, rEq_bl, tRaise1, tFmt, tJs, tCallS, WE, wKeep_eq, reduceCtorEq, false_and, and_false, exists_false, or_false, false_or, tIsN, tNotN, decide_true, decide_false, tDictN]
        refine ⟨EE.BadNumber.em, newD_of fun a H1 na e1 h1 => ⟨a, _, _, rfl, h1, .inl ⟨rfl, rfl⟩, fun H2 e2 => ⟨sz_of (by decide), new_of fun p H3 np e3 hp => ?_⟩⟩⟩
        exact q p H3 (fresh_back (e1.trans e2) np) ((e1.trans e2).trans e3) hp
      · subst ex ey ez
        have hm' : (m : Int) ≤ 200 := by omega
        exact absurd bad (by simp [wholeV, hm', p1, p2, g1, g2])
    · simp only [tSeq, tIfS, tOr, tAnd, tNot, tB, tTest, tCB, tCall, tCons, tVar, tNil, tC, tRet, tRetN, tNext, tAsg, gName, tDrop, tOp, tUn, tAug, ipI, tPar, tIf, tAndV, tOrV, tNotV, tChain, tNever, rI0, rI, rU, L2.start, cxK, List.map_cons, List.map_nil, List.length_cons, List.length_nil, Nat.reduceAdd, Nat.reduceSub, List.replicate, List.cons_append, List.nil_append, List.append_nil, List.set_cons_zero, List.set_cons_succ, List.getElem?_cons_zero, List.getElem?_cons_succ, Option.some.injEq, V.int.injEq, V.bl.injEq, exists_eq_left', exists_eq_left, exists_and_left, tFor_eq, iRng1, iRng2, iRng3, iList, iEnum, iZip, iTup, tLst_eq, tTup_eq, rCat_eq, rCatS, rSum, rAppend_eq, rListOf, rSlL_eq, tSl, tNoPart, tPart, tLc_eq, tBM, rIxL, rIxT, min3_eq, rEq_int, rNe_int, min_if, max_if, and_assoc, V.ref.injEq, V.str.injEq, List.cons.injEq, and_true, true_and, ↓reduceIte, Bool.false_eq_true, Bool.not_true, Bool.not_false, Int.reduceToNat, Int.reducePow, Int.reduceAdd, Int.reduceSub, Int.reduceNeg, rNe_str, rEq_str, rEq_bl, tRaise1, tFmt, tJs, tCallS, WE, wKeep_eq, reduceCtorEq, false_and, and_false, exists_false, or_false, false_or, tIsN, tNotN, decide_true, decide_false, tDictN]
      refine ifF (by decide) ⟨x, y, rfl, kx, ky, fun _ => ?_, fun s g ex ey s0 s1 g1 g2 => ?_⟩
      · simp only [tSeq, tIfS, tOr, tAnd, tNot, tB, tTest, tCB, tCall, tCons, tVar, tNil, tC, tRet, tRetN, tNext, tAsg, gName, tDrop, tOp, tUn, tAug, ipI, tPar, tIf, tAndV, tOrV, tNotV, tChain, tNever, rI0, rI, rU, L2.start, cxK, List.map_cons, List.map_nil, List.length_cons, List.length_nil, Nat.reduceAdd, Nat.reduceSub, List.replicate, List.cons_append, List.nil_append, List.append_nil, List.set_cons_zero, List.set_cons_succ, List.getElem?_cons_zero, List.getElem?_cons_succ, Option.some.injEq, V.int.injEq, V.bl.injEq, exists_eq_left', exists_eq_left, exists_and_left, tFor_eq, iRng1, iRng2, iRng3, iList, iEnum, iZip, iTup, tLst_eq, tTup_eq, rCat_eq, rCatS, rSum, rAppend_eq, rListOf, rSlL_eq, tSl, tNoPart, tPart, tLc_eq, tBM, rIxL, rIxT, min3_eq, rEq_int, rNe_int, min_if, max_if, and_assoc, V.ref.injEq, V.str.injEq, List.cons.injEq, and_true, true_and, ↓reduceIte, Bool.false_eq_true, Bool.not_true, Bool.not_false, Int.reduceToNat, Int.reducePow, Int.reduceAdd, Int.reduceSub, Int.reduceNeg, rNe_str, rEq_str, rEq_bl, tRaise1, tFmt, tJs, tCallS, WE, wKeep_eq, reduceCtorEq, false_and, and_false, exists_false, or_false, false_or, tIsN, tNotN, decide_true, decide_false, tDictN]
        refine ⟨EE.BadNumber.em, newD_of fun a H1 na e1 h1 => ⟨a, _, _, rfl, h1, .inl ⟨rfl, rfl⟩, fun H2 e2 => ⟨sz_of (by decide), new_of fun p H3 np e3 hp => ?_⟩⟩⟩
        exact q p H3 (fresh_back (e1.trans e2) np) ((e1.trans e2).trans e3) hp
      · subst ex ey
        exact absurd bad (by simp [wholeV, s0, s1, g1, g2])
    · simp only [tSeq, tIfS, tOr, tAnd, tNot, tB, tTest, tCB, tCall, tCons, tVar, tNil, tC, tRet, tRetN, tNext, tAsg, gName, tDrop, tOp, tUn, tAug, ipI, tPar, tIf, tAndV, tOrV, tNotV, tChain, tNever, rI0, rI, rU, L2.start, cxK, List.map_cons, List.map_nil, List.length_cons, List.length_nil, Nat.reduceAdd, Nat.reduceSub, List.replicate, List.cons_append, List.nil_append, List.append_nil, List.set_cons_zero, List.set_cons_succ, List.getElem?_cons_zero, List.getElem?_cons_succ, Option.some.injEq, V.int.injEq, V.bl.injEq, exists_eq_left', exists_eq_left, exists_and_left, tFor_eq, iRng1, iRng2, iRng3, iList, iEnum, iZip, iTup, tLst_eq, tTup_eq, rCat_eq, rCatS, rSum, rAppend_eq, rListOf, rSlL_eq, tSl, tNoPart, tPart, tLc_eq, tBM, rIxL, rIxT, min3_eq, rEq_int, rNe_int, min_if, max_if, and_assoc, V.ref.injEq, V.str.injEq, List.cons.injEq, and_true, true_and, ↓reduceIte, Bool.false_eq_true, Bool.not_true, Bool.not_false, Int.reduceToNat, Int.reducePow, Int.reduceAdd, Int.reduceSub, Int.reduceNeg, rNe_str, rEq_str, rEq_bl, tRaise1, tFmt, tJs, tCallS, WE, wKeep_eq, reduceCtorEq, false_and, and_false, exists_false, or_false, false_or, tIsN, tNotN, decide_true, decide_false, tDictN]
      refine ifF (by decide) ⟨_, _, rfl, kx, ky, fun bad => ?_, fun s' g' ex ey _ _ _ _ => ?_⟩
      · exact absurd bad (by simp [wholeV, s0, s1, g1, g2])
      · cases ex
        cases ey
        refine ⟨fun far => ?_, fun near l H1 nl e1 hl => ?_⟩
        · have q := long far
          simp only [tSeq, tIfS, tOr, tAnd, tNot, tB, tTest, tCB, tCall, tCons, tVar, tNil, tC, tRet, tRetN, tNext, tAsg, gName, tDrop, tOp, tUn, tAug, ipI, tPar, tIf, tAndV, tOrV, tNotV, tChain, tNever, rI0, rI, rU, L2.start, cxK, List.map_cons, List.map_nil, List.length_cons, List.length_nil, Nat.reduceAdd, Nat.reduceSub, List.replicate, List.cons_append, List.nil_append, List.append_nil, List.set_cons_zero, List.set_cons_succ, List.getElem?_cons_zero, List.getElem?_cons_succ, Option.some.injEq, V.int.injEq, V.bl.injEq, exists_eq_left', exists_eq_left, exists_and_left, tFor_eq, iRng1, iRng2, iRng3, iList, iEnum, iZip, iTup, tLst_eq, tTup_eq, rCat_eq, rCatS, rSum, rAppend_eq, rListOf, rSlL_eq, tSl, tNoPart, tPart, tLc_eq, tBM, rIxL, rIxT, min3_eq, rEq_int, rNe_int, min_if, max_if, and_assoc, V.ref.injEq, V.str.injEq, List.cons.injEq, and_true, true_and, ↓reduceIte, Bool.false_eq_true, Bool.not_true, Bool.not_false, Int.reduceToNat, Int.reducePow, Int.reduceAdd, Int.reduceSub, Int.reduceNeg, rNe_str, rEq_str, rEq_bl, tRaise1, tFmt, tJs, tCallS, WE, wKeep_eq, reduceCtorEq, false_and, and_false, exists_false, or_false, false_or, tIsN, tNotN, decide_true, decide_false, tDictN]
          refine ⟨EE.TooLong.em, newD_of fun a H1 na e1 h1 => ⟨a, _, _, rfl, h1, .inr ⟨rfl, rfl⟩, fun H2 e2 => ⟨sz_of (by decide), new_of fun p H3 np e3 hp => ?_⟩⟩⟩
          exact q p H3 (fresh_back (e1.trans e2) np) ((e1.trans e2).trans e3) hp
        · simp only [tSeq, tIfS, tOr, tAnd, tNot, tB, tTest, tCB, tCall, tCons, tVar, tNil, tC, tRet, tRetN, tNext, tAsg, gName, tDrop, tOp, tUn, tAug, ipI, tPar, tIf, tAndV, tOrV, tNotV, tChain, tNever, rI0, rI, rU, L2.start, cxK, List.map_cons, List.map_nil, List.length_cons, List.length_nil, Nat.reduceAdd, Nat.reduceSub, List.replicate, List.cons_append, List.nil_append, List.append_nil, List.set_cons_zero, List.set_cons_succ, List.getElem?_cons_zero, List.getElem?_cons_succ, Option.some.injEq, V.int.injEq, V.bl.injEq, exists_eq_left', exists_eq_left, exists_and_left, tFor_eq, iRng1, iRng2, iRng3, iList, iEnum, iZip, iTup, tLst_eq, tTup_eq, rCat_eq, rCatS, rSum, rAppend_eq, rListOf, rSlL_eq, tSl, tNoPart, tPart, tLc_eq, tBM, rIxL, rIxT, min3_eq, rEq_int, rNe_int, min_if, max_if, and_assoc, V.ref.injEq, V.str.injEq, List.cons.injEq, and_true, true_and, ↓reduceIte, Bool.false_eq_true, Bool.not_true, Bool.not_false, Int.reduceToNat, Int.reducePow, Int.reduceAdd, Int.reduceSub, Int.reduceNeg, rNe_str, rEq_str, rEq_bl, tRaise1, tFmt, tJs, tCallS, WE, wKeep_eq, reduceCtorEq, false_and, and_false, exists_false, or_false, false_or, tIsN, tNotN, decide_true, decide_false, tDictN]
          refine ⟨sz_of (by decide), new_of fun p H2 np e2 hp => told near l p H2 nl (fresh_back e1 np) (e1.trans e2) (e2 _ _ hl) hp⟩
end
end FW

set_option Elab.async false
set_option linter.all false
set_option maxRecDepth 100000
set_option maxHeartbeats 4000000
namespace FW
open PySem PySem.Spec PyProof.Rows L2 Evt
section
variable {P : Program} {w : World} {K : PySem.W.Frag} {mg : Str → Option Value} {base : Heap} {cl : Nat → Addr}
/-! ### pairs compared -/
theorem ne_ss {H : Hp} {a b : Addr} {s t : Str} {Q : VK} (o1 : PyData.strOk s = true) (o2 : PyData.strOk t = true) (ha : H a = some (.tup [.str s, .str t])) (hb : H b = some (.tup [.str s, .str t])) (q : Q (.bl false) H) : rNeD K (.ref a) (.ref b) H Q := by
  refine ⟨.tuple [.str s, .str t], .tuple [.str s, .str t], .tup (st_of ha) (.cons (.str _) (.cons (.str _) .nil)), .tup (st_of hb) (.cons (.str _) (.cons (.str _) .nil)), ?_, ?_, ?_⟩
  · simp [SeqAt.shaped, PyData.canLay0, PyData.canLayAll0, PyData.depth, PyData.depthAll, o1, o2]
  · simp [SeqAt.shaped, PyData.canLay0, PyData.canLayAll0, PyData.depth, PyData.depthAll, o1, o2]
  have e : PyData.eqv (.tuple [.str s, .str t]) (.tuple [.str s, .str t]) = true := by simp [PyData.eqv, PyData.eqvAll]
  rw [e]
  exact q
theorem shaped_told {s : Str} (o1 : PyData.strOk s = true) (ns : List Int) : SeqAt.shaped (.tuple [.str s, .list (ns.map PyData.int)]) = true := by
  have h := depth_ints ns
  unfold SeqAt.shaped
  rw [Bool.and_eq_true]
  refine ⟨?_, decide_eq_true ?_⟩
  · simp [PyData.canLay0, PyData.canLayAll0, lay_ints ns, o1]
  · simp only [PyData.depth, PyData.depthAll]
    omega
theorem ne_sl {H : Hp} {a b l m : Addr} {s : Str} {ns : List Int} {Q : VK} (o1 : PyData.strOk s = true) (ha : H a = some (.tup [.str s, .ref l])) (hb : H b = some (.tup [.str s, .ref m])) (hl : H l = some (.lst (ns.map V.int))) (hm : H m = some (.lst (ns.map V.int))) (q : Q (.bl false) H) : rNeD K (.ref a) (.ref b) H Q := by
  refine ⟨.tuple [.str s, .list (ns.map PyData.int)], .tuple [.str s, .list (ns.map PyData.int)], .tup (st_of ha) (.cons (.str _) (.cons (.lst (sq_of hl) (dp_ints ns)) .nil)), .tup (st_of hb) (.cons (.str _) (.cons (.lst (sq_of hm) (dp_ints ns)) .nil)), shaped_told o1 ns, shaped_told o1 ns, ?_⟩
  have e : PyData.eqv (.tuple [.str s, .list (ns.map PyData.int)]) (.tuple [.str s, .list (ns.map PyData.int)]) = true := by simp [PyData.eqv, PyData.eqvAll, eqv_ints]
  rw [e]
  exact q
def sp__law_is_whole_right : Sp := fun vs H Q _ => ∃ (n : Int), vs = [.int n] ∧ 0 ≤ n ∧ RetV (.bl true) H Q
theorem ok__law_is_whole_right (B : Bt mg cl) (F_is_whole : Fn P w K mg base "is_whole" ["thing", "least", "most"] CX0 1 (sp_is_whole K)) {f : Addr} {fd : FuncData} (F : Fun K "_law_is_whole_right" "_law_is_whole_right" s__law_is_whole_right f fd) : FnOk P w K mg base CX0 2 f fd ["_law_number"] sp__law_is_whole_right := by
  refine F.ok sc__law_is_whole_right (fun vs H Q E h => ?_) (fun cdv A outer s H vs Q E hr h => ?_)
  · obtain ⟨n, rfl, _⟩ := h
    rfl
  · obtain ⟨n, rfl, hn, q⟩ := h
    refine ⟨_, (pss_cons (ps_par (i := 1) (j := 2) (by rfl) sc__law_is_whole_right.nd rfl rfl (by decide) rfl rfl (pa_cons (pe_op op_sub (pe_op op_mod (pv 0) pe_int) pe_int) (pa_cons (pe_op op_mod (pe_op op_fdivW (pv 0) pe_int) pe_int) pa_nil)) (by rfl))
      (pss_cons (ps_set (i := 3) sc__law_is_whole_right.nd rfl (.inl rfl) (pe_ix (k_ixl (K := K) rfl) (pe_lst (pa_cons (pe_op op_sub (pe_op op_mod (pe_op op_fdivW (pv 0) pe_int) pe_int) pe_int) (pa_cons pe_non (pa_cons pe_bl (pa_cons pe_str (pa_cons (pe_lst (pa_cons pe_int pa_nil)) (pa_cons pe_bl (pa_cons (pv 1) (pa_cons (pv 2) (pa_cons (pe_op op_add (pv 2) pe_int) (pa_cons (pe_op op_sub (pv 1) pe_int) pa_nil))))))))))) (pe_op op_mod (pe_op op_fdivW (pv 0) pe_int) pe_int) (fun _ _ => rfl)))
      (pss_cons (ps_set (i := 4) sc__law_is_whole_right.nd rfl (.inl rfl) (pe_and (pe_callB (k_isY (K := K) rfl) (by rfl) B.b_isinstance (by decide +kernel) (pa_cons (pv 3) (pa_cons (pe_bltn (v := .ty "int") (by rfl) B.b_int (by decide +kernel) rfl) pa_nil))) (pe_and (pe_not (pe_callB (k_isY (K := K) rfl) (by rfl) B.b_isinstance (by decide +kernel) (pa_cons (pv 3) (pa_cons (pe_bltn (v := .ty "bool") (by rfl) B.b_bool (by decide +kernel) rfl) pa_nil)))) (pe_one (pe_chain op_le op_le (pv 1) (pv 3) (pv 2))))))
      (pss_cons (ps_set (i := 5) sc__law_is_whole_right.nd rfl (.inl rfl) (pe_fn F_is_whole (hr.mono (by decide)) (pa_cons (pv 3) (pa_cons (pv 1) (pa_cons (pv 2) pa_nil)))))
      (pss_one (ps_ret (pe_and (pe_callB (k_isY (K := K) rfl) (by rfl) B.b_isinstance (by decide +kernel) (pa_cons (pv 5) (pa_cons (pe_bltn (v := .ty "bool") (by rfl) B.b_bool (by decide +kernel) rfl) pa_nil))) (pe_one (pe_cmpR op_eq (pv 5) (pv 4) (nomark _)))))))))), ?_⟩
    refine cut_eq fun N1 hN1 => ?_
    simp only [tSeq, tIfS, tOr, tAnd, tNot, tB, tTest, tCB, tCall, tCons, tVar, tNil, tC, tRet, tRetN, tNext, tAsg, gName, tDrop, tOp, tUn, tAug, ipI, tPar, tIf, tAndV, tOrV, tNotV, tChain, tNever, rI0, rI, rU, L2.start, cxK, List.map_cons, List.map_nil, List.length_cons, List.length_nil, Nat.reduceAdd, Nat.reduceSub, List.replicate, List.cons_append, List.nil_append, List.append_nil, List.set_cons_zero, List.set_cons_succ, List.getElem?_cons_zero, List.getElem?_cons_succ, Option.some.injEq, V.int.injEq, V.bl.injEq, exists_eq_left', exists_eq_left, exists_and_left, tFor_eq, iRng1, iRng2, iRng3, iList, iEnum, iZip, iTup, tLst_eq, tTup_eq, rCat_eq, rCatS, rSum, rAppend_eq, rListOf, rSlL_eq, tSl, tNoPart, tPart, tLc_eq, tBM, rIxL, rIxT, min3_eq, rEq_int, rNe_int, min_if, max_if, and_assoc, V.ref.injEq, V.str.injEq, List.cons.injEq, and_true, true_and, ↓reduceIte, Bool.false_eq_true, Bool.not_true, Bool.not_false, Int.reduceToNat, Int.reducePow, Int.reduceAdd, Int.reduceSub, Int.reduceNeg, rNe_str, rEq_str, rEq_bl, tRaise1, tFmt, tJs, tCallS, WE, wKeep_eq, reduceCtorEq, false_and, and_false, exists_false, or_false, false_or, tIsN, tNotN, decide_true, decide_false, tDictN]
    refine ⟨by decide, cdw (by decide) (by decide), by decide, ?_⟩
    rw [← hN1]
    clear hN1
    generalize n % 7 - 3 = l
    generalize n / 7 % 9 = m
    refine cut_eq fun N1 hN1 => ?_
    simp only [tSeq, tIfS, tOr, tAnd, tNot, tB, tTest, tCB, tCall, tCons, tVar, tNil, tC, tRet, tRetN, tNext, tAsg, gName, tDrop, tOp, tUn, tAug, ipI, tPar, tIf, tAndV, tOrV, tNotV, tChain, tNever, rI0, rI, rU, L2.start, cxK, List.map_cons, List.map_nil, List.length_cons, List.length_nil, Nat.reduceAdd, Nat.reduceSub, List.replicate, List.cons_append, List.nil_append, List.append_nil, List.set_cons_zero, List.set_cons_succ, List.getElem?_cons_zero, List.getElem?_cons_succ, Option.some.injEq, V.int.injEq, V.bl.injEq, exists_eq_left', exists_eq_left, exists_and_left, tFor_eq, iRng1, iRng2, iRng3, iList, iEnum, iZip, iTup, tLst_eq, tTup_eq, rCat_eq, rCatS, rSum, rAppend_eq, rListOf, rSlL_eq, tSl, tNoPart, tPart, tLc_eq, tBM, rIxL, rIxT, min3_eq, rEq_int, rNe_int, min_if, max_if, and_assoc, V.ref.injEq, V.str.injEq, List.cons.injEq, and_true, true_and, ↓reduceIte, Bool.false_eq_true, Bool.not_true, Bool.not_false, Int.reduceToNat, Int.reducePow, Int.reduceAdd, Int.reduceSub, Int.reduceNeg, rNe_str, rEq_str, rEq_bl, tRaise1, tFmt, tJs, tCallS, WE, wKeep_eq, reduceCtorEq, false_and, and_false, exists_false, or_false, false_or, tIsN, tNotN, decide_true, decide_false, tDictN]
    refine ⟨cdw (by decide) (by decide), by decide, sz_of (by decide), new_of fun p1 H1 n1 e1 h1 => ⟨sz_of (by decide), new_of fun p2 H2 n2 e2 h2 => ⟨cdw (by decide) (by decide), by decide, _, sq_of h2, ?_⟩⟩⟩
    obtain ⟨v, hv, ha⟩ := at_mem (xs := [V.int (n / 63 % 13 - 4), V.non, V.bl true, V.str (Str.ofString "1"), V.ref p1, V.bl false, V.int l, V.int m, V.int (m + 1), V.int (l - 1)]) (i := n / 900 % 10) (by omega) (by show n / 900 % 10 < 10; omega)
    have kn : Known K H2 v := by
      simp only [List.mem_cons, List.not_mem_nil, or_false] at hv
      rcases hv with rfl | rfl | rfl | rfl | rfl | rfl | rfl | rfl | rfl | rfl
      · exact .inl ⟨_, rfl⟩
      · exact .inr (.inr ⟨_, .base .non, by decide +kernel⟩)
      · exact .inr (.inl ⟨_, rfl⟩)
      · exact .inr (.inr ⟨_, .base (.str _), by decide +kernel⟩)
      · exact .inr (.inr ⟨_, .base (.lst (e2 _ _ h1)), by decide +kernel⟩)
      · exact .inr (.inl ⟨_, rfl⟩)
      · exact .inl ⟨_, rfl⟩
      · exact .inl ⟨_, rfl⟩
      · exact .inl ⟨_, rfl⟩
      · exact .inl ⟨_, rfl⟩
    refine ⟨v, ha, ?_⟩
    rw [← hN1]
    clear hN1 hv ha
    refine cut_eq fun N1 hN1 => ?_
    have nxt : N1 [some (V.int n), some (V.int l), some (V.int m), some v, some (V.bl (wholeV v l m)), none] H2 := by
      rw [← hN1]
      simp only [tSeq, tIfS, tOr, tAnd, tNot, tB, tTest, tCB, tCall, tCons, tVar, tNil, tC, tRet, tRetN, tNext, tAsg, gName, tDrop, tOp, tUn, tAug, ipI, tPar, tIf, tAndV, tOrV, tNotV, tChain, tNever, rI0, rI, rU, L2.start, cxK, List.map_cons, List.map_nil, List.length_cons, List.length_nil, Nat.reduceAdd, Nat.reduceSub, List.replicate, List.cons_append, List.nil_append, List.append_nil, List.set_cons_zero, List.set_cons_succ, List.getElem?_cons_zero, List.getElem?_cons_succ, Option.some.injEq, V.int.injEq, V.bl.injEq, exists_eq_left', exists_eq_left, exists_and_left, tFor_eq, iRng1, iRng2, iRng3, iList, iEnum, iZip, iTup, tLst_eq, tTup_eq, rCat_eq, rCatS, rSum, rAppend_eq, rListOf, rSlL_eq, tSl, tNoPart, tPart, tLc_eq, tBM, rIxL, rIxT, min3_eq, rEq_int, rNe_int, min_if, max_if, and_assoc, V.ref.injEq, V.str.injEq, List.cons.injEq, and_true, true_and, ↓reduceIte, Bool.false_eq_true, Bool.not_true, Bool.not_false, Int.reduceToNat, Int.reducePow, Int.reduceAdd, Int.reduceSub, Int.reduceNeg, rNe_str, rEq_str, rEq_bl, tRaise1, tFmt, tJs, tCallS, WE, wKeep_eq, reduceCtorEq, false_and, and_false, exists_false, or_false, false_or, tIsN, tNotN, decide_true, decide_false, tDictN]
      refine ⟨_, _, _, rfl, kn, isy_ty (.base (.bl _)) (b := true) (by decide +kernel) ⟨_, rfl, ifT rfl ?_⟩⟩
      rw [rEq_bl, decide_eq_true rfl]
      exact q H2 (e1.trans e2)
    clear hN1
    simp only [tSeq, tIfS, tOr, tAnd, tNot, tB, tTest, tCB, tCall, tCons, tVar, tNil, tC, tRet, tRetN, tNext, tAsg, gName, tDrop, tOp, tUn, tAug, ipI, tPar, tIf, tAndV, tOrV, tNotV, tChain, tNever, rI0, rI, rU, L2.start, cxK, List.map_cons, List.map_nil, List.length_cons, List.length_nil, Nat.reduceAdd, Nat.reduceSub, List.replicate, List.cons_append, List.nil_append, List.append_nil, List.set_cons_zero, List.set_cons_succ, List.getElem?_cons_zero, List.getElem?_cons_succ, Option.some.injEq, V.int.injEq, V.bl.injEq, exists_eq_left', exists_eq_left, exists_and_left, tFor_eq, iRng1, iRng2, iRng3, iList, iEnum, iZip, iTup, tLst_eq, tTup_eq, rCat_eq, rCatS, rSum, rAppend_eq, rListOf, rSlL_eq, tSl, tNoPart, tPart, tLc_eq, tBM, rIxL, rIxT, min3_eq, rEq_int, rNe_int, min_if, max_if, and_assoc, V.ref.injEq, V.str.injEq, List.cons.injEq, and_true, true_and, ↓reduceIte, Bool.false_eq_true, Bool.not_true, Bool.not_false, Int.reduceToNat, Int.reducePow, Int.reduceAdd, Int.reduceSub, Int.reduceNeg, rNe_str, rEq_str, rEq_bl, tRaise1, tFmt, tJs, tCallS, WE, wKeep_eq, reduceCtorEq, false_and, and_false, exists_false, or_false, false_or, tIsN, tNotN, decide_true, decide_false, tDictN]
    rcases kn with ⟨a, rfl⟩ | ⟨b, rfl⟩ | ⟨s, ht, hk⟩
    · refine isy_int (b := true) (by decide +kernel) ⟨_, rfl, ifT rfl (isy_int (b := false) (by decide +kernel) ⟨_, rfl, ?_⟩)⟩
      have e : wholeV (.int a) l m = (decide (l ≤ a) && decide (a ≤ m)) := rfl
      rw [e] at nxt
      refine ifT rfl ⟨_, rfl, ?_⟩
      by_cases h1 : l ≤ a
      · rw [decide_eq_true h1, Bool.true_and] at nxt
        exact ifT (decide_eq_true h1) ⟨_, rfl, nxt⟩
      · rw [decide_eq_false h1, Bool.false_and] at nxt
        exact ifF (decide_eq_false h1) nxt
    · refine isy_ty (.base (.bl b)) (b := true) (by decide +kernel) ⟨_, rfl, ifT rfl (isy_ty (.base (.bl b)) (b := true) (by decide +kernel) ⟨_, rfl, ?_⟩)⟩
      exact ifF rfl nxt
    · rw [whole_no ht hk] at nxt
      refine isy_ty ht hk ⟨_, rfl, ifF rfl ?_⟩
      exact nxt
/-- a row of _law_refused's: its call is refused with BadNumber -/
def BadRow (K : PySem.W.Frag) (H : Hp) (ws : List V) : Prop := ∃ (w : Int) (x y z : V), ws = [.int w, x, y, z] ∧ Known K H x ∧ Known K H y ∧ ((w = 0 ∧ Known K H z ∧ (wholeV x 0 200 && wholeV y 1 1000000000 && wholeV z 1 1000000000) = false) ∨ (w = 1 ∧ (wholeV x 0 1000000000 && wholeV y 1 1000000000) = false))
def sp__law_refused (T : Addr) : Sp := fun vs H Q _ => ∃ (n : Int) (m : Nat) (p g : Int), vs = [.int n, .int m, .int p, .int g] ∧ 0 ≤ n ∧ GxR.TabG H T ∧ RetV (.bl true) H Q
theorem ok__law_refused (B : Bt mg cl) {T : Addr} (F__law_odd : Fn P w K mg base "_law_odd" ["_law_number", "_law_most"] CX0 1 (sp__law_odd K)) (F__law_said : Fn P w K mg base "_law_said" ["_law_way", "_law_one", "_law_other", "_law_third"] CX0 5 (sp__law_said K T)) {f : Addr} {fd : FuncData} (F : Fun K "_law_refused" "_law_refused" s__law_refused f fd) : FnOk P w K mg base CX0 6 f fd ["_law_number", "_law_many", "_law_pace", "_law_gain"] (sp__law_refused T) := by
  refine F.ok sc__law_refused (fun vs H Q E h => ?_) (fun cdv A outer s H vs Q E hr h => ?_)
  · obtain ⟨n, m, p, g, rfl, _⟩ := h
    rfl
  · obtain ⟨n, m, p, g, rfl, hn, tg, q⟩ := h
    refine ⟨_, (pss_cons (ps_set (i := 4) sc__law_refused.nd rfl (.inl rfl) (pe_fn F__law_odd (hr.mono (by decide)) (pa_cons (pv 0) (pa_cons (pe_op op_pow pe_int pe_int) pa_nil))))
      (pss_cons (ps_set (i := 5) sc__law_refused.nd rfl (.inr rfl) (pe_tup (pa_cons pe_str (pa_cons pe_str pa_nil))))
      (pss_cons (ps_set (i := 6) sc__law_refused.nd rfl (.inl rfl) (pe_lst (pa_cons (pe_tup (pa_cons pe_int (pa_cons (pe_fn F__law_odd (hr.mono (by decide)) (pa_cons (pv 0) (pa_cons pe_int pa_nil))) (pa_cons (pv 2) (pa_cons (pv 3) pa_nil))))) (pa_cons (pe_tup (pa_cons pe_int (pa_cons (pv 1) (pa_cons (pv 4) (pa_cons (pv 3) pa_nil))))) (pa_cons (pe_tup (pa_cons pe_int (pa_cons (pv 1) (pa_cons (pv 2) (pa_cons (pv 4) pa_nil))))) (pa_cons (pe_tup (pa_cons pe_int (pa_cons (pv 4) (pa_cons (pv 3) (pa_cons pe_non pa_nil))))) pa_nil))))))
      (pss_cons (ps_set (i := 6) sc__law_refused.nd rfl (.inl rfl) (pe_op (k_catS (K := K) rfl) (pv 6) (pe_lst (pa_cons (pe_tup (pa_cons pe_int (pa_cons (pv 2) (pa_cons (pv 4) (pa_cons pe_non pa_nil))))) (pa_cons (pe_tup (pa_cons pe_int (pa_cons (pv 1) (pa_cons pe_int (pa_cons (pv 3) pa_nil))))) (pa_cons (pe_tup (pa_cons pe_int (pa_cons (pv 1) (pa_cons (pv 2) (pa_cons pe_int pa_nil))))) (pa_cons (pe_tup (pa_cons pe_int (pa_cons (pv 2) (pa_cons pe_int (pa_cons pe_non pa_nil))))) pa_nil)))))))
      (pss_one (ps_ret (pe_cmpR (k_eqD (K := K) rfl hr.units) (pe_lc (own := [("_law_row", 7)]) (g := gName 7) (by rfl) sc__law_refused.nd (k_pil (K := K) rfl (pv 6)) (blkOk_by (own := [("_law_row", 7)]) (N := ["_law_number", "_law_many", "_law_pace", "_law_gain", "_law_odd_here", "_law_refused_here", "_law_rows", "_law_row"]) (sc := defScope s__law_refused) (by decide +kernel)) (fun _ _ _ _ _ => (pg_name (i := 7) sc__law_refused.nd rfl (.inl rfl))) (fun _ _ _ _ _ => (pts_one (pt_cmpR (k_neD (K := K) rfl hr.units) (pe_fn F__law_said (hr.mono (by decide)) (pa_cons (pe_ix (k_ixt (K := K) rfl) (pv 7) pe_int (fun _ _ => rfl)) (pa_cons (pe_ix (k_ixt (K := K) rfl) (pv 7) pe_int (fun _ _ => rfl)) (pa_cons (pe_ix (k_ixt (K := K) rfl) (pv 7) pe_int (fun _ _ => rfl)) (pa_cons (pe_ix (k_ixt (K := K) rfl) (pv 7) pe_int (fun _ _ => rfl)) pa_nil))))) (pv 5) (nomark _)))) (fun _ _ _ _ _ => (pv 7))) (pe_lst pa_nil) (nomark _)))))))), ?_⟩
    refine cut_eq fun N1 hN1 => ?_
    simp only [tSeq, tIfS, tOr, tAnd, tNot, tB, tTest, tCB, tCall, tCons, tVar, tNil, tC, tRet, tRetN, tNext, tAsg, gName, tDrop, tOp, tUn, tAug, ipI, tPar, tIf, tAndV, tOrV, tNotV, tChain, tNever, rI0, rI, rU, L2.start, cxK, List.map_cons, List.map_nil, List.length_cons, List.length_nil, Nat.reduceAdd, Nat.reduceSub, List.replicate, List.cons_append, List.nil_append, List.append_nil, List.set_cons_zero, List.set_cons_succ, List.getElem?_cons_zero, List.getElem?_cons_succ, Option.some.injEq, V.int.injEq, V.bl.injEq, exists_eq_left', exists_eq_left, exists_and_left, tFor_eq, iRng1, iRng2, iRng3, iList, iEnum, iZip, iTup, tLst_eq, tTup_eq, rCat_eq, rCatS, rSum, rAppend_eq, rListOf, rSlL_eq, tSl, tNoPart, tPart, tLc_eq, tBM, rIxL, rIxT, min3_eq, rEq_int, rNe_int, min_if, max_if, and_assoc, V.ref.injEq, V.str.injEq, List.cons.injEq, and_true, true_and, ↓reduceIte, Bool.false_eq_true, Bool.not_true, Bool.not_false, Int.reduceToNat, Int.reducePow, Int.reduceAdd, Int.reduceSub, Int.reduceNeg, rNe_str, rEq_str, rEq_bl, tRaise1, tFmt, tJs, tCallS, WE, wKeep_eq, reduceCtorEq, false_and, and_false, exists_false, or_false, false_or, tIsN, tNotN, decide_true, decide_false, tDictN]
    refine ⟨⟨by decide, by decide, by decide⟩, n, 1000000000, rfl, hn, by decide, by decide, fun o1 H1 e1 od1 => ?_⟩
    show N1 [some (V.int n), some (V.int m), some (V.int p), some (V.int g), some o1, none, none, none] H1
    rw [← hN1]
    clear hN1
    refine cut_eq fun N1 hN1 => ?_
    simp only [tSeq, tIfS, tOr, tAnd, tNot, tB, tTest, tCB, tCall, tCons, tVar, tNil, tC, tRet, tRetN, tNext, tAsg, gName, tDrop, tOp, tUn, tAug, ipI, tPar, tIf, tAndV, tOrV, tNotV, tChain, tNever, rI0, rI, rU, L2.start, cxK, List.map_cons, List.map_nil, List.length_cons, List.length_nil, Nat.reduceAdd, Nat.reduceSub, List.replicate, List.cons_append, List.nil_append, List.append_nil, List.set_cons_zero, List.set_cons_succ, List.getElem?_cons_zero, List.getElem?_cons_succ, Option.some.injEq, V.int.injEq, V.bl.injEq, exists_eq_left', exists_eq_left, exists_and_left, tFor_eq, iRng1, iRng2, iRng3, iList, iEnum, iZip, iTup, tLst_eq, tTup_eq, rCat_eq, rCatS, rSum, rAppend_eq, rListOf, rSlL_eq, tSl, tNoPart, tPart, tLc_eq, tBM, rIxL, rIxT, min3_eq, rEq_int, rNe_int, min_if, max_if, and_assoc, V.ref.injEq, V.str.injEq, List.cons.injEq, and_true, true_and, ↓reduceIte, Bool.false_eq_true, Bool.not_true, Bool.not_false, Int.reduceToNat, Int.reducePow, Int.reduceAdd, Int.reduceSub, Int.reduceNeg, rNe_str, rEq_str, rEq_bl, tRaise1, tFmt, tJs, tCallS, WE, wKeep_eq, reduceCtorEq, false_and, and_false, exists_false, or_false, false_or, tIsN, tNotN, decide_true, decide_false, tDictN]
    refine ⟨sz_of (by decide), new_of fun r0 H2 nr e2 hr0 => ?_⟩
    rw [← hN1]
    clear hN1
    refine cut_eq fun N1 hN1 => ?_
    simp only [tSeq, tIfS, tOr, tAnd, tNot, tB, tTest, tCB, tCall, tCons, tVar, tNil, tC, tRet, tRetN, tNext, tAsg, gName, tDrop, tOp, tUn, tAug, ipI, tPar, tIf, tAndV, tOrV, tNotV, tChain, tNever, rI0, rI, rU, L2.start, cxK, List.map_cons, List.map_nil, List.length_cons, List.length_nil, Nat.reduceAdd, Nat.reduceSub, List.replicate, List.cons_append, List.nil_append, List.append_nil, List.set_cons_zero, List.set_cons_succ, List.getElem?_cons_zero, List.getElem?_cons_succ, Option.some.injEq, V.int.injEq, V.bl.injEq, exists_eq_left', exists_eq_left, exists_and_left, tFor_eq, iRng1, iRng2, iRng3, iList, iEnum, iZip, iTup, tLst_eq, tTup_eq, rCat_eq, rCatS, rSum, rAppend_eq, rListOf, rSlL_eq, tSl, tNoPart, tPart, tLc_eq, tBM, rIxL, rIxT, min3_eq, rEq_int, rNe_int, min_if, max_if, and_assoc, V.ref.injEq, V.str.injEq, List.cons.injEq, and_true, true_and, ↓reduceIte, Bool.false_eq_true, Bool.not_true, Bool.not_false, Int.reduceToNat, Int.reducePow, Int.reduceAdd, Int.reduceSub, Int.reduceNeg, rNe_str, rEq_str, rEq_bl, tRaise1, tFmt, tJs, tCallS, WE, wKeep_eq, reduceCtorEq, false_and, and_false, exists_false, or_false, false_or, tIsN, tNotN, decide_true, decide_false, tDictN]
    refine ⟨n, 200, rfl, hn, by decide, by decide, fun o2 H3 e3 od2 => ?_⟩
    refine ⟨sz_of (by simp), new_of fun t1 K1 _ f1 w1 => ⟨sz_of (by simp), new_of fun t2 K2 _ f2 w2 => ⟨sz_of (by simp), new_of fun t3 K3 _ f3 w3 => ⟨sz_of (by simp), new_of fun t4 K4 _ f4 w4 => ⟨sz_of (by simp), new_of fun l5 K5 _ f5 w5 => ?_⟩⟩⟩⟩⟩
    show N1 [some (V.int n), some (V.int m), some (V.int p), some (V.int g), some o1, some (V.ref r0), some (V.ref l5), none] K5
    rw [← hN1]
    clear hN1
    refine cut_eq fun N1 hN1 => ?_
    simp only [tSeq, tIfS, tOr, tAnd, tNot, tB, tTest, tCB, tCall, tCons, tVar, tNil, tC, tRet, tRetN, tNext, tAsg, gName, tDrop, tOp, tUn, tAug, ipI, tPar, tIf, tAndV, tOrV, tNotV, tChain, tNever, rI0, rI, rU, L2.start, cxK, List.map_cons, List.map_nil, List.length_cons, List.length_nil, Nat.reduceAdd, Nat.reduceSub, List.replicate, List.cons_append, List.nil_append, List.append_nil, List.set_cons_zero, List.set_cons_succ, List.getElem?_cons_zero, List.getElem?_cons_succ, Option.some.injEq, V.int.injEq, V.bl.injEq, exists_eq_left', exists_eq_left, exists_and_left, tFor_eq, iRng1, iRng2, iRng3, iList, iEnum, iZip, iTup, tLst_eq, tTup_eq, rCat_eq, rCatS, rSum, rAppend_eq, rListOf, rSlL_eq, tSl, tNoPart, tPart, tLc_eq, tBM, rIxL, rIxT, min3_eq, rEq_int, rNe_int, min_if, max_if, and_assoc, V.ref.injEq, V.str.injEq, List.cons.injEq, and_true, true_and, ↓reduceIte, Bool.false_eq_true, Bool.not_true, Bool.not_false, Int.reduceToNat, Int.reducePow, Int.reduceAdd, Int.reduceSub, Int.reduceNeg, rNe_str, rEq_str, rEq_bl, tRaise1, tFmt, tJs, tCallS, WE, wKeep_eq, reduceCtorEq, false_and, and_false, exists_false, or_false, false_or, tIsN, tNotN, decide_true, decide_false, tDictN]
    refine ⟨sz_of (by simp), new_of fun t6 K6 _ f6 w6 => ⟨sz_of (by simp), new_of fun t7 K7 _ f7 w7 => ⟨sz_of (by simp), new_of fun t8 K8 _ f8 w8 => ⟨sz_of (by simp), new_of fun t9 K9 _ f9 w9 => ⟨sz_of (by simp), new_of fun lA KA _ fA wA => ?_⟩⟩⟩⟩⟩
    have y5 : Ex K5 KA := (((f6.trans f7).trans f8).trans f9).trans fA
    refine ⟨_, sq_of (y5 _ _ w5), _, sq_of wA, sz_of (by simp), new_of fun lB KB nB fB wB => ?_⟩
    rw [← hN1]
    clear hN1
    have y4 : Ex K4 KB := (f5.trans y5).trans fB
    have y3 : Ex H3 KB := (((f1.trans f2).trans f3).trans f4).trans y4
    have kb : ∀ z : Int, Known K KB (.int z) := fun z => .inl ⟨z, rfl⟩
    have k1 : Known K KB o1 := known_mono ((e2.trans e3).trans y3) od1.known
    have k2 : Known K KB o2 := known_mono y3 od2.known
    have n0 : wholeV o1 0 1000000000 = false := od1.no 0 (by decide)
    have n1 : wholeV o1 1 1000000000 = false := od1.no 1 (by decide)
    have n2 : wholeV o2 0 200 = false := od2.no 0 (by decide)
    have rows : ∀ x ∈ [V.ref t1, V.ref t2, V.ref t3, V.ref t4] ++ [V.ref t6, V.ref t7, V.ref t8, V.ref t9], ∃ (t : Addr) (ws : List V), x = .ref t ∧ KB t = some (.tup ws) ∧ BadRow K KB ws := by
      intro x hx
      simp only [List.cons_append, List.nil_append, List.mem_cons, List.not_mem_nil, or_false] at hx
      rcases hx with rfl | rfl | rfl | rfl | rfl | rfl | rfl | rfl
      · exact ⟨t1, _, rfl, y4 _ _ (f4 _ _ (f3 _ _ (f2 _ _ w1))), 0, _, _, _, rfl, k2, kb p, .inl ⟨rfl, kb g, by rw [n2]; rfl⟩⟩
      · exact ⟨t2, _, rfl, y4 _ _ (f4 _ _ (f3 _ _ w2)), 0, _, _, _, rfl, kb m, k1, .inl ⟨rfl, kb g, by rw [n1]; simp⟩⟩
      · exact ⟨t3, _, rfl, y4 _ _ (f4 _ _ w3), 0, _, _, _, rfl, kb m, kb p, .inl ⟨rfl, k1, by rw [n1]; simp⟩⟩
      · exact ⟨t4, _, rfl, y4 _ _ w4, 1, _, _, _, rfl, k1, kb g, .inr ⟨rfl, by rw [n0]; rfl⟩⟩
      · exact ⟨t6, _, rfl, fB _ _ (fA _ _ (f9 _ _ (f8 _ _ (f7 _ _ w6)))), 1, _, _, _, rfl, kb p, k1, .inr ⟨rfl, by rw [n1]; simp⟩⟩
      · exact ⟨t7, _, rfl, fB _ _ (fA _ _ (f9 _ _ (f8 _ _ w7))), 0, _, _, _, rfl, kb m, kb 0, .inl ⟨rfl, kb g, by simp [wholeV]⟩⟩
      · exact ⟨t8, _, rfl, fB _ _ (fA _ _ (f9 _ _ w8)), 0, _, _, _, rfl, kb m, kb p, .inl ⟨rfl, kb 0, by simp [wholeV]⟩⟩
      · exact ⟨t9, _, rfl, fB _ _ (fA _ _ w9), 1, _, _, _, rfl, kb p, kb 0, .inr ⟨rfl, by simp [wholeV]⟩⟩
    have xB : Ex H2 KB := e3.trans y3
    have tB : GxR.TabG KB T := ((e1.trans e2).trans xB).tab tg
    have rB := xB _ _ hr0
    have hB : Ex H KB := (e1.trans e2).trans xB
    generalize [V.ref t1, V.ref t2, V.ref t3, V.ref t4] ++ [V.ref t6, V.ref t7, V.ref t8, V.ref t9] = xs at *
    simp only [tSeq, tIfS, tOr, tAnd, tNot, tB, tTest, tCB, tCall, tCons, tVar, tNil, tC, tRet, tRetN, tNext, tAsg, gName, tDrop, tOp, tUn, tAug, ipI, tPar, tIf, tAndV, tOrV, tNotV, tChain, tNever, rI0, rI, rU, L2.start, cxK, List.map_cons, List.map_nil, List.length_cons, List.length_nil, Nat.reduceAdd, Nat.reduceSub, List.replicate, List.cons_append, List.nil_append, List.append_nil, List.set_cons_zero, List.set_cons_succ, List.getElem?_cons_zero, List.getElem?_cons_succ, Option.some.injEq, V.int.injEq, V.bl.injEq, exists_eq_left', exists_eq_left, exists_and_left, tFor_eq, iRng1, iRng2, iRng3, iList, iEnum, iZip, iTup, tLst_eq, tTup_eq, rCat_eq, rCatS, rSum, rAppend_eq, rListOf, rSlL_eq, tSl, tNoPart, tPart, tLc_eq, tBM, rIxL, rIxT, min3_eq, rEq_int, rNe_int, min_if, max_if, and_assoc, V.ref.injEq, V.str.injEq, List.cons.injEq, and_true, true_and, ↓reduceIte, Bool.false_eq_true, Bool.not_true, Bool.not_false, Int.reduceToNat, Int.reducePow, Int.reduceAdd, Int.reduceSub, Int.reduceNeg, rNe_str, rEq_str, rEq_bl, tRaise1, tFmt, tJs, tCallS, WE, wKeep_eq, reduceCtorEq, false_and, and_false, exists_false, or_false, false_or, tIsN, tNotN, decide_true, decide_false, tDictN]
    refine ⟨⟨_, sq_of wB⟩, fun Dl hD => lc_gives (walk_list (xs := xs)) (fun _ => none) hD (fun H' e => sq_of (e _ _ wB)) ?_ ?_⟩
    · rintro i x H0 H' hi e0 h0 ⟨rfl, hx⟩
      obtain ⟨t, ws, rfl, ht, w, a, b, c, rfl, ka, kb, alt⟩ := rows x (List.mem_of_getElem? hx)
      simp only [tSeq, tIfS, tOr, tAnd, tNot, tB, tTest, tCB, tCall, tCons, tVar, tNil, tC, tRet, tRetN, tNext, tAsg, gName, tDrop, tOp, tUn, tAug, ipI, tPar, tIf, tAndV, tOrV, tNotV, tChain, tNever, rI0, rI, rU, L2.start, cxK, List.map_cons, List.map_nil, List.length_cons, List.length_nil, Nat.reduceAdd, Nat.reduceSub, List.replicate, List.cons_append, List.nil_append, List.append_nil, List.set_cons_zero, List.set_cons_succ, List.getElem?_cons_zero, List.getElem?_cons_succ, Option.some.injEq, V.int.injEq, V.bl.injEq, exists_eq_left', exists_eq_left, exists_and_left, tFor_eq, iRng1, iRng2, iRng3, iList, iEnum, iZip, iTup, tLst_eq, tTup_eq, rCat_eq, rCatS, rSum, rAppend_eq, rListOf, rSlL_eq, tSl, tNoPart, tPart, tLc_eq, tBM, rIxL, rIxT, min3_eq, rEq_int, rNe_int, min_if, max_if, and_assoc, V.ref.injEq, V.str.injEq, List.cons.injEq, and_true, true_and, ↓reduceIte, Bool.false_eq_true, Bool.not_true, Bool.not_false, Int.reduceToNat, Int.reducePow, Int.reduceAdd, Int.reduceSub, Int.reduceNeg, rNe_str, rEq_str, rEq_bl, tRaise1, tFmt, tJs, tCallS, WE, wKeep_eq, reduceCtorEq, false_and, and_false, exists_false, or_false, false_or, tIsN, tNotN, decide_true, decide_false, tDictN, wipe]
      refine ⟨_, st_of (e0 _ _ ht), _, rfl, _, st_of (e0 _ _ ht), _, rfl, _, st_of (e0 _ _ ht), _, rfl, _, st_of (e0 _ _ ht), _, rfl, _, _, _, _, rfl, known_mono e0 ka, known_mono e0 kb, e0.tab tB, ?_⟩
      have fin : RetT [V.str "refused", V.str "number"] H' fun y H4 => rNeD K y (V.ref r0) H4 fun x H5 => ∃ c, x = V.bl c ∧ if c = true then Put KB Dl (fun _ => none) i (V.ref t) H5 else Skip KB Dl (fun _ => none) i H5 := fun p4 H4 n4 e4 h4 =>
        ne_ss (by decide +kernel) (by decide +kernel) h4 (e4 _ _ (e0 _ _ rB)) ⟨_, rfl, ifF rfl (skip_of (e0.trans e4) (e4 _ _ h0) rfl)⟩
      rcases alt with ⟨rfl, kc, bad⟩ | ⟨rfl, bad⟩
      · exact .inl ⟨rfl, known_mono e0 kc, bad, fin⟩
      · exact .inr (.inl ⟨rfl, bad, fin⟩)
    · intro H9 e9 h9
      rw [gives_nil _ (fun _ _ => rfl)] at h9
      refine ⟨Nat.zero_le _, new_of fun l10 H10 n10 e10 h10 => eqD_ints (xs := []) (ys := []) (sq_of (e10 _ _ h9)) (sq_of h10) ?_⟩
      exact q H10 ((hB.trans e9).trans e10)
end
end FW

set_option Elab.async false
set_option linter.all false
set_option maxRecDepth 100000
set_option maxHeartbeats 4000000
namespace FW
open PySem PySem.Spec PyProof.Rows L2 Evt
section
variable {P : Program} {w : World} {K : PySem.W.Frag} {mg : Str → Option Value} {base : Heap} {cl : Nat → Addr}
def sp__law_right (T : Addr) : Sp := fun vs H Q _ => ∃ (n m : Int), vs = [.int n, .int m] ∧ 0 ≤ n ∧ 0 ≤ m ∧ GxR.TabG H T ∧ RetV (.bl true) H Q
theorem ok__law_right (B : Bt mg cl) {T : Addr} (F__law_rate : Fn P w K mg base "_law_rate" ["_law_number"] CX0 1 sp__law_rate) (F_reach : Fn P w K mg base "reach" ["many", "pace", "gain"] (L2.CX P w) 4 (sp_reach K (cl 1) T)) (F_braked : Fn P w K mg base "braked" ["step", "gain"] (L2.CX P w) 3 (sp_braked K (cl 1) (cl 5))) (F__law_reach : Fn P w K mg base "_law_reach" ["_law_many", "_law_pace", "_law_gain"] CX0 1 sp__law_reach) (F__law_fallen : Fn P w K mg base "_law_fallen" ["_law_step", "_law_gain"] CX0 1 sp__law_fallen) (F__law_said : Fn P w K mg base "_law_said" ["_law_way", "_law_one", "_law_other", "_law_third"] CX0 5 (sp__law_said K T)) (F__law_refused : Fn P w K mg base "_law_refused" ["_law_number", "_law_many", "_law_pace", "_law_gain"] CX0 6 (sp__law_refused T)) (F__law_is_whole_right : Fn P w K mg base "_law_is_whole_right" ["_law_number"] CX0 2 sp__law_is_whole_right) {f : Addr} {fd : FuncData} (F : Fun K "_law_right" "_law_right" s__law_right f fd) : FnOk P w K mg base CX0 7 f fd ["_law_number", "_law_more"] (sp__law_right T) := by
  refine F.ok sc__law_right (fun vs H Q E h => ?_) (fun cdv A outer s H vs Q E hr h => ?_)
  · obtain ⟨n, m, rfl, _⟩ := h
    rfl
  · obtain ⟨n, m, rfl, hn, hm, tg, q⟩ := h
    refine ⟨_, (pss_cons (ps_par (i := 2) (j := 3) (by rfl) sc__law_right.nd rfl rfl (by decide) rfl rfl (pa_cons (pe_fn F__law_rate (hr.mono (by decide)) (pa_cons (pv 0) pa_nil)) (pa_cons (pe_fn F__law_rate (hr.mono (by decide)) (pa_cons (pe_op op_fdivW (pv 0) (pe_op op_pow pe_int pe_int)) pa_nil)) pa_nil)) (by rfl))
      (pss_cons (ps_set (i := 4) sc__law_right.nd rfl (.inl rfl) (pe_ix (k_ixl (K := K) rfl) (pe_lst (pa_cons pe_int (pa_cons pe_int (pa_cons pe_int (pa_cons pe_int (pa_cons (pe_op op_mod (pe_op op_fdivW (pv 0) (pe_op op_pow pe_int pe_int)) pe_int) (pa_cons (pe_op op_mod (pe_op op_fdivW (pv 0) (pe_op op_pow pe_int pe_int)) pe_int) (pa_cons pe_int (pa_cons pe_int pa_nil))))))))) (pe_op op_mod (pe_op op_fdivW (pv 0) (pe_op op_pow pe_int pe_int)) pe_int) (fun _ _ => rfl)))
      (pss_cons (ps_set (i := 5) sc__law_right.nd rfl (.inl rfl) (pe_fnX (E := E0) F_reach (hr.mono (by decide)) (passes_call takes0 (fun _ _ _ _ h => h)) (pa_cons (pv 4) (pa_cons (pv 2) (pa_cons (pv 3) pa_nil)))))
      (pss_cons (ps_if (PW.pt (pw_or (pt_not (pt_val (pe_callB (k_isY (K := K) rfl) (by rfl) B.b_isinstance (by decide +kernel) (pa_cons (pv 5) (pa_cons (pe_bltn (v := .ty "int") (by rfl) B.b_int (by decide +kernel) rfl) pa_nil))))) (pw_or (pt_val (pe_callB (k_isY (K := K) rfl) (by rfl) B.b_isinstance (by decide +kernel) (pa_cons (pv 5) (pa_cons (pe_bltn (v := .ty "bool") (by rfl) B.b_bool (by decide +kernel) rfl) pa_nil)))) (pw_or1 (pt_cmpR op_ne (pv 5) (pe_fn F__law_reach (hr.mono (by decide)) (pa_cons (pv 4) (pa_cons (pv 2) (pa_cons (pv 3) pa_nil)))) (nomark _))))))
        (pss_one (ps_ret pe_bl))
        pss_nil)
      (pss_cons (ps_set (i := 6) sc__law_right.nd rfl (.inl rfl) (pe_lst (pa_cons (pv 2) (pa_cons pe_int (pa_cons (pv 3) (pa_cons (pe_op op_add (pv 3) pe_int) (pa_cons (pe_op op_add (pe_op op_mul pe_int (pv 3)) (pe_op op_mod (pv 1) pe_int)) (pa_cons (pe_op op_mod (pv 1) (pe_op op_add (pe_op op_pow pe_int pe_int) pe_int)) pa_nil))))))))
      (pss_cons (ps_set (i := 7) sc__law_right.nd rfl (.inl rfl) (pe_callB (call_min2 rfl) (by rfl) B.b_min (by decide +kernel) (pa_cons (pe_op op_pow pe_int pe_int) (pa_cons (pe_ix (k_ixl (K := K) rfl) (pv 6) (pe_op op_mod (pe_op op_fdivW (pv 1) pe_int) pe_int) (fun _ _ => rfl)) pa_nil))))
      (pss_cons (ps_set (i := 8) sc__law_right.nd rfl (.inl rfl) (pe_fn F__law_fallen (hr.mono (by decide)) (pa_cons (pv 7) (pa_cons (pv 3) pa_nil))))
      (pss_cons (ps_set (i := 9) sc__law_right.nd rfl (.inl rfl) (pe_fn F__law_said (hr.mono (by decide)) (pa_cons pe_int (pa_cons (pv 7) (pa_cons (pv 3) (pa_cons pe_non pa_nil))))))
      (pss_cons (ps_if (pt_cmpR (k_neD (K := K) rfl hr.units) (pv 9) (pe_ifExp (pt_cmpR op_lt (pe_callB (k_len (K := K) rfl) (by rfl) B.b_len (by decide +kernel) (pa_cons (pv 8) pa_nil)) pe_int (nomark _)) (pe_tup (pa_cons pe_str (pa_cons (pv 8) pa_nil))) (pe_tup (pa_cons pe_str (pa_cons pe_str pa_nil)))) (nomark _))
        (pss_one (ps_ret pe_bl))
        pss_nil)
      (pss_cons (ps_if (pt_cmpR op_lt (pe_callB (k_len (K := K) rfl) (by rfl) B.b_len (by decide +kernel) (pa_cons (pv 8) pa_nil)) pe_int (nomark _))
        (pss_cons (ps_expr (pe_bm PySem.F.plainAttrs_list PySem.F.slot_list_append PySem.F.type_list_append mt_append (pe_ix (k_ixt (K := K) rfl) (pv 9) pe_int (fun _ _ => rfl)) (pa_cons pe_int pa_nil)))
      (pss_one (ps_if (pt_cmpR (k_neD (K := K) rfl hr.units) (pe_fnX (E := E0) F_braked (hr.mono (by decide)) (passes_call takes0 (fun _ _ _ _ h => h)) (pa_cons (pv 7) (pa_cons (pv 3) pa_nil))) (pv 8) (nomark _))
        (pss_one (ps_ret pe_bl))
        pss_nil)))
        pss_nil)
      (pss_one (ps_ret (pe_and (pe_fn F__law_refused (hr.mono (by decide)) (pa_cons (pe_op op_fdivW (pv 1) pe_int) (pa_cons (pv 4) (pa_cons (pv 2) (pa_cons (pv 3) pa_nil))))) (pe_one (pe_fn F__law_is_whole_right (hr.mono (by decide)) (pa_cons (pe_op op_fdivW (pv 1) (pe_op op_pow pe_int pe_int)) pa_nil)))))))))))))))), ?_⟩
    refine cut_eq fun N1 hN1 => ?_
    simp only [tSeq, tIfS, tOr, tAnd, tNot, tB, tTest, tCB, tCall, tCons, tVar, tNil, tC, tRet, tRetN, tNext, tAsg, gName, tDrop, tOp, tUn, tAug, ipI, tPar, tIf, tAndV, tOrV, tNotV, tChain, tNever, rI0, rI, rU, L2.start, cxK, List.map_cons, List.map_nil, List.length_cons, List.length_nil, Nat.reduceAdd, Nat.reduceSub, List.replicate, List.cons_append, List.nil_append, List.append_nil, List.set_cons_zero, List.set_cons_succ, List.getElem?_cons_zero, List.getElem?_cons_succ, Option.some.injEq, V.int.injEq, V.bl.injEq, exists_eq_left', exists_eq_left, exists_and_left, tFor_eq, iRng1, iRng2, iRng3, iList, iEnum, iZip, iTup, tLst_eq, tTup_eq, rCat_eq, rCatS, rSum, rAppend_eq, rListOf, rSlL_eq, tSl, tNoPart, tPart, tLc_eq, tBM, rIxL, rIxT, min3_eq, rEq_int, rNe_int, min_if, max_if, and_assoc, V.ref.injEq, V.str.injEq, List.cons.injEq, and_true, true_and, ↓reduceIte, Bool.false_eq_true, Bool.not_true, Bool.not_false, Int.reduceToNat, Int.reducePow, Int.reduceAdd, Int.reduceSub, Int.reduceNeg, rNe_str, rEq_str, rEq_bl, tRaise1, tFmt, tJs, tCallS, WE, wKeep_eq, reduceCtorEq, false_and, and_false, exists_false, or_false, false_or, tIsN, tNotN, decide_true, decide_false, tDictN]
    refine ⟨n, rfl, hn, fun p H1 hp e1 => ⟨⟨by decide, by decide, by decide⟩, cdw (by decide) (by decide), n / 100000000000, rfl, Int.ediv_nonneg hn (by decide), fun g H2 hg e2 => ?_⟩⟩
    have p1 := hp.1
    have p2 := hp.2
    have g1 := hg.1
    have g2 := hg.2
    show N1 [some (V.int n), some (V.int m), some (V.int p), some (V.int g), none, none, none, none, none, none] H2
    rw [← hN1]
    clear hN1
    -- many
    refine cut_eq fun N1 hN1 => asg_eq fun N2 hN2 => ?_
    simp only [tSeq, tIfS, tOr, tAnd, tNot, tB, tTest, tCB, tCall, tCons, tVar, tNil, tC, tRet, tRetN, tNext, tAsg, gName, tDrop, tOp, tUn, tAug, ipI, tPar, tIf, tAndV, tOrV, tNotV, tChain, tNever, rI0, rI, rU, L2.start, cxK, List.map_cons, List.map_nil, List.length_cons, List.length_nil, Nat.reduceAdd, Nat.reduceSub, List.replicate, List.cons_append, List.nil_append, List.append_nil, List.set_cons_zero, List.set_cons_succ, List.getElem?_cons_zero, List.getElem?_cons_succ, Option.some.injEq, V.int.injEq, V.bl.injEq, exists_eq_left', exists_eq_left, exists_and_left, tFor_eq, iRng1, iRng2, iRng3, iList, iEnum, iZip, iTup, tLst_eq, tTup_eq, rCat_eq, rCatS, rSum, rAppend_eq, rListOf, rSlL_eq, tSl, tNoPart, tPart, tLc_eq, tBM, rIxL, rIxT, min3_eq, rEq_int, rNe_int, min_if, max_if, and_assoc, V.ref.injEq, V.str.injEq, List.cons.injEq, and_true, true_and, ↓reduceIte, Bool.false_eq_true, Bool.not_true, Bool.not_false, Int.reduceToNat, Int.reducePow, Int.reduceAdd, Int.reduceSub, Int.reduceNeg, rNe_str, rEq_str, rEq_bl, tRaise1, tFmt, tJs, tCallS, WE, wKeep_eq, reduceCtorEq, false_and, and_false, exists_false, or_false, false_or, tIsN, tNotN, decide_true, decide_false, tDictN]
    refine ⟨⟨by decide, by decide, by decide⟩, cdw (by decide) (by decide), by decide, ⟨by decide, by decide, by decide⟩, cdw (by decide) (by decide), by decide, sz_of (by decide), new_of fun l3 H3 n3 e3 h3 => ⟨⟨by decide, by decide, by decide⟩, cdw (by decide) (by decide), by decide, _, sq_of h3, ?_⟩⟩
    obtain ⟨v, hv, ha⟩ := at_mem (xs := [V.int 0, V.int 1, V.int 2, V.int 3, V.int (n / 100000000000000000000000 % 201), V.int (n / 100000000000000000000000 % 201), V.int 199, V.int 200]) (i := n / 10000000000000000000000 % 8) (by omega) (by show n / 10000000000000000000000 % 8 < 8; omega)
    have hk : ∃ k : Nat, v = .int k ∧ k ≤ 200 := by
      have a0 : 0 ≤ n / 100000000000000000000000 % 201 := Int.emod_nonneg _ (by decide)
      have a1 : n / 100000000000000000000000 % 201 < 201 := Int.emod_lt_of_pos _ (by decide)
      generalize n / 100000000000000000000000 % 201 = r at *
      obtain ⟨r, rfl⟩ : ∃ k : Nat, r = (k : Int) := ⟨r.toNat, by omega⟩
      simp only [List.mem_cons, List.not_mem_nil, or_false] at hv
      rcases hv with rfl | rfl | rfl | rfl | rfl | rfl | rfl | rfl
      · exact ⟨0, rfl, by omega⟩
      · exact ⟨1, rfl, by omega⟩
      · exact ⟨2, rfl, by omega⟩
      · exact ⟨3, rfl, by omega⟩
      · exact ⟨r, rfl, by omega⟩
      · exact ⟨r, rfl, by omega⟩
      · exact ⟨199, rfl, by omega⟩
      · exact ⟨200, rfl, by omega⟩
    obtain ⟨k, rfl, hk⟩ := hk
    refine ⟨_, ha, ?_⟩
    rw [← hN2]
    show N1 [some (V.int n), some (V.int m), some (V.int p), some (V.int g), some (V.int k), none, none, none, none, none] H3
    rw [← hN1]
    clear hN1 hN2 hv ha
    have x3 : Ex H H3 := (e1.trans e2).trans e3
    -- reach
    refine cut_eq fun N1 hN1 => asg_eq fun N2 hN2 => ?_
    simp only [tSeq, tIfS, tOr, tAnd, tNot, tB, tTest, tCB, tCall, tCons, tVar, tNil, tC, tRet, tRetN, tNext, tAsg, gName, tDrop, tOp, tUn, tAug, ipI, tPar, tIf, tAndV, tOrV, tNotV, tChain, tNever, rI0, rI, rU, L2.start, cxK, List.map_cons, List.map_nil, List.length_cons, List.length_nil, Nat.reduceAdd, Nat.reduceSub, List.replicate, List.cons_append, List.nil_append, List.append_nil, List.set_cons_zero, List.set_cons_succ, List.getElem?_cons_zero, List.getElem?_cons_succ, Option.some.injEq, V.int.injEq, V.bl.injEq, exists_eq_left', exists_eq_left, exists_and_left, tFor_eq, iRng1, iRng2, iRng3, iList, iEnum, iZip, iTup, tLst_eq, tTup_eq, rCat_eq, rCatS, rSum, rAppend_eq, rListOf, rSlL_eq, tSl, tNoPart, tPart, tLc_eq, tBM, rIxL, rIxT, min3_eq, rEq_int, rNe_int, min_if, max_if, and_assoc, V.ref.injEq, V.str.injEq, List.cons.injEq, and_true, true_and, ↓reduceIte, Bool.false_eq_true, Bool.not_true, Bool.not_false, Int.reduceToNat, Int.reducePow, Int.reduceAdd, Int.reduceSub, Int.reduceNeg, rNe_str, rEq_str, rEq_bl, tRaise1, tFmt, tJs, tCallS, WE, wKeep_eq, reduceCtorEq, false_and, and_false, exists_false, or_false, false_or, tIsN, tNotN, decide_true, decide_false, tDictN]
    refine ⟨_, _, _, rfl, .inl ⟨_, rfl⟩, .inl ⟨_, rfl⟩, .inl ⟨_, rfl⟩, x3.tab tg, fun bad => ?_, fun m' p' g' em ep eg hm' _ _ _ _ H4 e4 => ?_⟩
    · have hk' : (k : Int) ≤ 200 := by omega
      exact absurd bad (by simp [wholeV, hk', p1, p2, g1, g2])
    cases ep
    cases eg
    have em' : m' = k := by
      have := V.int.inj em
      omega
    subst em'
    clear em
    rw [← hN2]
    show N1 [some (V.int n), some (V.int m), some (V.int p), some (V.int g), some (V.int m'), some (V.int (U p g 0 m')), none, none, none, none] H4
    rw [← hN1]
    clear hN1 hN2
    -- it is told right
    refine cut_eq fun N1 hN1 => ?_
    simp only [tSeq, tIfS, tOr, tAnd, tNot, tB, tTest, tCB, tCall, tCons, tVar, tNil, tC, tRet, tRetN, tNext, tAsg, gName, tDrop, tOp, tUn, tAug, ipI, tPar, tIf, tAndV, tOrV, tNotV, tChain, tNever, rI0, rI, rU, L2.start, cxK, List.map_cons, List.map_nil, List.length_cons, List.length_nil, Nat.reduceAdd, Nat.reduceSub, List.replicate, List.cons_append, List.nil_append, List.append_nil, List.set_cons_zero, List.set_cons_succ, List.getElem?_cons_zero, List.getElem?_cons_succ, Option.some.injEq, V.int.injEq, V.bl.injEq, exists_eq_left', exists_eq_left, exists_and_left, tFor_eq, iRng1, iRng2, iRng3, iList, iEnum, iZip, iTup, tLst_eq, tTup_eq, rCat_eq, rCatS, rSum, rAppend_eq, rListOf, rSlL_eq, tSl, tNoPart, tPart, tLc_eq, tBM, rIxL, rIxT, min3_eq, rEq_int, rNe_int, min_if, max_if, and_assoc, V.ref.injEq, V.str.injEq, List.cons.injEq, and_true, true_and, ↓reduceIte, Bool.false_eq_true, Bool.not_true, Bool.not_false, Int.reduceToNat, Int.reducePow, Int.reduceAdd, Int.reduceSub, Int.reduceNeg, rNe_str, rEq_str, rEq_bl, tRaise1, tFmt, tJs, tCallS, WE, wKeep_eq, reduceCtorEq, false_and, and_false, exists_false, or_false, false_or, tIsN, tNotN, decide_true, decide_false, tDictN]
    refine isy_int (b := true) (by decide +kernel) ⟨_, rfl, ifF rfl (isy_int (b := false) (by decide +kernel) ⟨_, rfl, ifF rfl ⟨_, _, _, rfl, by omega, g1, g2, fun H5 e5 => ?_⟩⟩)⟩
    show rNe _ _ _ _
    rw [rNe_int]
    refine ⟨_, rfl, ifF (by simp) ?_⟩
    rw [← hN1]
    clear hN1
    generalize U p g 0 m' = UU
    -- the step to be stopped
    refine cut_eq fun N1 hN1 => asg_eq fun N2 hN2 => ?_
    simp only [tSeq, tIfS, tOr, tAnd, tNot, tB, tTest, tCB, tCall, tCons, tVar, tNil, tC, tRet, tRetN, tNext, tAsg, gName, tDrop, tOp, tUn, tAug, ipI, tPar, tIf, tAndV, tOrV, tNotV, tChain, tNever, rI0, rI, rU, L2.start, cxK, List.map_cons, List.map_nil, List.length_cons, List.length_nil, Nat.reduceAdd, Nat.reduceSub, List.replicate, List.cons_append, List.nil_append, List.append_nil, List.set_cons_zero, List.set_cons_succ, List.getElem?_cons_zero, List.getElem?_cons_succ, Option.some.injEq, V.int.injEq, V.bl.injEq, exists_eq_left', exists_eq_left, exists_and_left, tFor_eq, iRng1, iRng2, iRng3, iList, iEnum, iZip, iTup, tLst_eq, tTup_eq, rCat_eq, rCatS, rSum, rAppend_eq, rListOf, rSlL_eq, tSl, tNoPart, tPart, tLc_eq, tBM, rIxL, rIxT, min3_eq, rEq_int, rNe_int, min_if, max_if, and_assoc, V.ref.injEq, V.str.injEq, List.cons.injEq, and_true, true_and, ↓reduceIte, Bool.false_eq_true, Bool.not_true, Bool.not_false, Int.reduceToNat, Int.reducePow, Int.reduceAdd, Int.reduceSub, Int.reduceNeg, rNe_str, rEq_str, rEq_bl, tRaise1, tFmt, tJs, tCallS, WE, wKeep_eq, reduceCtorEq, false_and, and_false, exists_false, or_false, false_or, tIsN, tNotN, decide_true, decide_false, tDictN]
    refine ⟨.inl ⟨by omega, by omega⟩, by decide, ⟨by decide, by decide, by decide⟩, by decide, sz_of (by decide), new_of fun l6 H6 n6 e6 h6 => ?_⟩
    rw [← hN2]
    show N1 [some (V.int n), some (V.int m), some (V.int p), some (V.int g), some (V.int m'), some (V.int UU), some (V.ref l6), none, none, none] H6
    rw [← hN1]
    clear hN1 hN2
    refine cut_eq fun N1 hN1 => asg_eq fun N2 hN2 => ?_
    simp only [tSeq, tIfS, tOr, tAnd, tNot, tB, tTest, tCB, tCall, tCons, tVar, tNil, tC, tRet, tRetN, tNext, tAsg, gName, tDrop, tOp, tUn, tAug, ipI, tPar, tIf, tAndV, tOrV, tNotV, tChain, tNever, rI0, rI, rU, L2.start, cxK, List.map_cons, List.map_nil, List.length_cons, List.length_nil, Nat.reduceAdd, Nat.reduceSub, List.replicate, List.cons_append, List.nil_append, List.append_nil, List.set_cons_zero, List.set_cons_succ, List.getElem?_cons_zero, List.getElem?_cons_succ, Option.some.injEq, V.int.injEq, V.bl.injEq, exists_eq_left', exists_eq_left, exists_and_left, tFor_eq, iRng1, iRng2, iRng3, iList, iEnum, iZip, iTup, tLst_eq, tTup_eq, rCat_eq, rCatS, rSum, rAppend_eq, rListOf, rSlL_eq, tSl, tNoPart, tPart, tLc_eq, tBM, rIxL, rIxT, min3_eq, rEq_int, rNe_int, min_if, max_if, and_assoc, V.ref.injEq, V.str.injEq, List.cons.injEq, and_true, true_and, ↓reduceIte, Bool.false_eq_true, Bool.not_true, Bool.not_false, Int.reduceToNat, Int.reducePow, Int.reduceAdd, Int.reduceSub, Int.reduceNeg, rNe_str, rEq_str, rEq_bl, tRaise1, tFmt, tJs, tCallS, WE, wKeep_eq, reduceCtorEq, false_and, and_false, exists_false, or_false, false_or, tIsN, tNotN, decide_true, decide_false, tDictN]
    obtain ⟨v, hv, ha⟩ := at_mem (xs := [V.int p, V.int 0, V.int g, V.int (g + 1), V.int (200 * g + m % 3), V.int (m % 1000000001)]) (i := m / 3 % 6) (by omega) (by show m / 3 % 6 < 6; omega)
    have hs : ∃ s : Int, v = .int s ∧ 0 ≤ s := by
      simp only [List.mem_cons, List.not_mem_nil, or_false] at hv
      rcases hv with rfl | rfl | rfl | rfl | rfl | rfl <;> exact ⟨_, rfl, by omega⟩
    obtain ⟨s', rfl, hs'⟩ := hs
    refine ⟨⟨by decide, by decide, by decide⟩, cdw (by decide) (by decide), by decide, _, sq_of h6, _, ha, _, rfl, ?_⟩
    rw [← hN2]
    show N1 [some (V.int n), some (V.int m), some (V.int p), some (V.int g), some (V.int m'), some (V.int UU), some (V.ref l6), some (V.int (min 1000000000 s')), none, none] H6
    rw [← hN1]
    clear hN1 hN2 hv ha
    have s0 : 0 ≤ min 1000000000 s' := by omega
    have s1 : min 1000000000 s' ≤ 1000000000 := by omega
    generalize min 1000000000 s' = st at *
    -- what is due
    refine cut_eq fun N1 hN1 => asg_eq fun N2 hN2 => ?_
    simp only [tSeq, tIfS, tOr, tAnd, tNot, tB, tTest, tCB, tCall, tCons, tVar, tNil, tC, tRet, tRetN, tNext, tAsg, gName, tDrop, tOp, tUn, tAug, ipI, tPar, tIf, tAndV, tOrV, tNotV, tChain, tNever, rI0, rI, rU, L2.start, cxK, List.map_cons, List.map_nil, List.length_cons, List.length_nil, Nat.reduceAdd, Nat.reduceSub, List.replicate, List.cons_append, List.nil_append, List.append_nil, List.set_cons_zero, List.set_cons_succ, List.getElem?_cons_zero, List.getElem?_cons_succ, Option.some.injEq, V.int.injEq, V.bl.injEq, exists_eq_left', exists_eq_left, exists_and_left, tFor_eq, iRng1, iRng2, iRng3, iList, iEnum, iZip, iTup, tLst_eq, tTup_eq, rCat_eq, rCatS, rSum, rAppend_eq, rListOf, rSlL_eq, tSl, tNoPart, tPart, tLc_eq, tBM, rIxL, rIxT, min3_eq, rEq_int, rNe_int, min_if, max_if, and_assoc, V.ref.injEq, V.str.injEq, List.cons.injEq, and_true, true_and, ↓reduceIte, Bool.false_eq_true, Bool.not_true, Bool.not_false, Int.reduceToNat, Int.reducePow, Int.reduceAdd, Int.reduceSub, Int.reduceNeg, rNe_str, rEq_str, rEq_bl, tRaise1, tFmt, tJs, tCallS, WE, wKeep_eq, reduceCtorEq, false_and, and_false, exists_false, or_false, false_or, tIsN, tNotN, decide_true, decide_false, tDictN]
    refine ⟨_, _, rfl, g1, fun l7 H7 n7 e7 h7 => ?_⟩
    rw [← hN2]
    show N1 [some (V.int n), some (V.int m), some (V.int p), some (V.int g), some (V.int m'), some (V.int UU), some (V.ref l6), some (V.int st), some (V.ref l7), none] H7
    rw [← hN1]
    clear hN1 hN2
    have x7 : Ex H H7 := (((x3.trans e4).trans e5).trans e6).trans e7
    -- the end
    -- what is said
    refine cut_eq fun N1 hN1 => asg_eq fun N2 hN2 => ?_
    simp only [tSeq, tIfS, tOr, tAnd, tNot, tB, tTest, tCB, tCall, tCons, tVar, tNil, tC, tRet, tRetN, tNext, tAsg, gName, tDrop, tOp, tUn, tAug, ipI, tPar, tIf, tAndV, tOrV, tNotV, tChain, tNever, rI0, rI, rU, L2.start, cxK, List.map_cons, List.map_nil, List.length_cons, List.length_nil, Nat.reduceAdd, Nat.reduceSub, List.replicate, List.cons_append, List.nil_append, List.append_nil, List.set_cons_zero, List.set_cons_succ, List.getElem?_cons_zero, List.getElem?_cons_succ, Option.some.injEq, V.int.injEq, V.bl.injEq, exists_eq_left', exists_eq_left, exists_and_left, tFor_eq, iRng1, iRng2, iRng3, iList, iEnum, iZip, iTup, tLst_eq, tTup_eq, rCat_eq, rCatS, rSum, rAppend_eq, rListOf, rSlL_eq, tSl, tNoPart, tPart, tLc_eq, tBM, rIxL, rIxT, min3_eq, rEq_int, rNe_int, min_if, max_if, and_assoc, V.ref.injEq, V.str.injEq, List.cons.injEq, and_true, true_and, ↓reduceIte, Bool.false_eq_true, Bool.not_true, Bool.not_false, Int.reduceToNat, Int.reducePow, Int.reduceAdd, Int.reduceSub, Int.reduceNeg, rNe_str, rEq_str, rEq_bl, tRaise1, tFmt, tJs, tCallS, WE, wKeep_eq, reduceCtorEq, false_and, and_false, exists_false, or_false, false_or, tIsN, tNotN, decide_true, decide_false, tDictN]
    refine ⟨_, _, _, _, rfl, .inl ⟨_, rfl⟩, .inl ⟨_, rfl⟩, x7.tab tg, .inr (.inr ⟨rfl, st, g, rfl, rfl, s0, s1, g1, g2, fun far => ?_, fun near => ?_⟩)⟩
    · intro p8 H8 n8 e8 h8
      rw [← hN2]
      show N1 [some (V.int n), some (V.int m), some (V.int p), some (V.int g), some (V.int m'), some (V.int UU), some (V.ref l6), some (V.int st), some (V.ref l7), some (V.ref p8)] H8
      rw [← hN1]
      clear hN1 hN2
      have h7' := e8 _ _ h7
      have ln : (((fallen st g (min (nf st g) 202)).map V.int).length : Int) = ((min (nf st g) 202 : Nat) : Int) := by rw [List.length_map, fallen_len]
      refine cut_eq fun N1 hN1 => ?_
      simp only [tSeq, tIfS, tOr, tAnd, tNot, tB, tTest, tCB, tCall, tCons, tVar, tNil, tC, tRet, tRetN, tNext, tAsg, gName, tDrop, tOp, tUn, tAug, ipI, tPar, tIf, tAndV, tOrV, tNotV, tChain, tNever, rI0, rI, rU, L2.start, cxK, List.map_cons, List.map_nil, List.length_cons, List.length_nil, Nat.reduceAdd, Nat.reduceSub, List.replicate, List.cons_append, List.nil_append, List.append_nil, List.set_cons_zero, List.set_cons_succ, List.getElem?_cons_zero, List.getElem?_cons_succ, Option.some.injEq, V.int.injEq, V.bl.injEq, exists_eq_left', exists_eq_left, exists_and_left, tFor_eq, iRng1, iRng2, iRng3, iList, iEnum, iZip, iTup, tLst_eq, tTup_eq, rCat_eq, rCatS, rSum, rAppend_eq, rListOf, rSlL_eq, tSl, tNoPart, tPart, tLc_eq, tBM, rIxL, rIxT, min3_eq, rEq_int, rNe_int, min_if, max_if, and_assoc, V.ref.injEq, V.str.injEq, List.cons.injEq, and_true, true_and, ↓reduceIte, Bool.false_eq_true, Bool.not_true, Bool.not_false, Int.reduceToNat, Int.reducePow, Int.reduceAdd, Int.reduceSub, Int.reduceNeg, rNe_str, rEq_str, rEq_bl, tRaise1, tFmt, tJs, tCallS, WE, wKeep_eq, reduceCtorEq, false_and, and_false, exists_false, or_false, false_or, tIsN, tNotN, decide_true, decide_false, tDictN]
      refine ⟨_, .inl (sq_of h7'), ?_⟩
      rw [ln]
      refine ifF (decide_eq_false (by omega)) ⟨sz_of (by decide), new_of fun p9 H9 n9 e9 h9 => ne_ss (by decide +kernel) (by decide +kernel) (e9 _ _ h8) h9 ⟨_, rfl, ifF rfl ?_⟩⟩
      rw [← hN1]
      clear hN1
      have x9 : Ex H H9 := (x7.trans e8).trans e9
      refine cut_eq fun N1 hN1 => ?_
      simp only [tSeq, tIfS, tOr, tAnd, tNot, tB, tTest, tCB, tCall, tCons, tVar, tNil, tC, tRet, tRetN, tNext, tAsg, gName, tDrop, tOp, tUn, tAug, ipI, tPar, tIf, tAndV, tOrV, tNotV, tChain, tNever, rI0, rI, rU, L2.start, cxK, List.map_cons, List.map_nil, List.length_cons, List.length_nil, Nat.reduceAdd, Nat.reduceSub, List.replicate, List.cons_append, List.nil_append, List.append_nil, List.set_cons_zero, List.set_cons_succ, List.getElem?_cons_zero, List.getElem?_cons_succ, Option.some.injEq, V.int.injEq, V.bl.injEq, exists_eq_left', exists_eq_left, exists_and_left, tFor_eq, iRng1, iRng2, iRng3, iList, iEnum, iZip, iTup, tLst_eq, tTup_eq, rCat_eq, rCatS, rSum, rAppend_eq, rListOf, rSlL_eq, tSl, tNoPart, tPart, tLc_eq, tBM, rIxL, rIxT, min3_eq, rEq_int, rNe_int, min_if, max_if, and_assoc, V.ref.injEq, V.str.injEq, List.cons.injEq, and_true, true_and, ↓reduceIte, Bool.false_eq_true, Bool.not_true, Bool.not_false, Int.reduceToNat, Int.reducePow, Int.reduceAdd, Int.reduceSub, Int.reduceNeg, rNe_str, rEq_str, rEq_bl, tRaise1, tFmt, tJs, tCallS, WE, wKeep_eq, reduceCtorEq, false_and, and_false, exists_false, or_false, false_or, tIsN, tNotN, decide_true, decide_false, tDictN]
      refine ⟨_, .inl (sq_of (e9 _ _ h7')), ?_⟩
      rw [ln]
      refine ifF (decide_eq_false (by omega)) ?_
      rw [← hN1]
      clear hN1
      simp only [tSeq, tIfS, tOr, tAnd, tNot, tB, tTest, tCB, tCall, tCons, tVar, tNil, tC, tRet, tRetN, tNext, tAsg, gName, tDrop, tOp, tUn, tAug, ipI, tPar, tIf, tAndV, tOrV, tNotV, tChain, tNever, rI0, rI, rU, L2.start, cxK, List.map_cons, List.map_nil, List.length_cons, List.length_nil, Nat.reduceAdd, Nat.reduceSub, List.replicate, List.cons_append, List.nil_append, List.append_nil, List.set_cons_zero, List.set_cons_succ, List.getElem?_cons_zero, List.getElem?_cons_succ, Option.some.injEq, V.int.injEq, V.bl.injEq, exists_eq_left', exists_eq_left, exists_and_left, tFor_eq, iRng1, iRng2, iRng3, iList, iEnum, iZip, iTup, tLst_eq, tTup_eq, rCat_eq, rCatS, rSum, rAppend_eq, rListOf, rSlL_eq, tSl, tNoPart, tPart, tLc_eq, tBM, rIxL, rIxT, min3_eq, rEq_int, rNe_int, min_if, max_if, and_assoc, V.ref.injEq, V.str.injEq, List.cons.injEq, and_true, true_and, ↓reduceIte, Bool.false_eq_true, Bool.not_true, Bool.not_false, Int.reduceToNat, Int.reducePow, Int.reduceAdd, Int.reduceSub, Int.reduceNeg, rNe_str, rEq_str, rEq_bl, tRaise1, tFmt, tJs, tCallS, WE, wKeep_eq, reduceCtorEq, false_and, and_false, exists_false, or_false, false_or, tIsN, tNotN, decide_true, decide_false, tDictN]
      refine ⟨cdw (by decide) (by decide), _, m', _, _, rfl, Int.ediv_nonneg hm (by decide), x9.tab tg, fun G1 f1 => ?_⟩
      refine ⟨_, rfl, ifT rfl ⟨⟨by decide, by decide, by decide⟩, cdw (by decide) (by decide), _, rfl, Int.ediv_nonneg hm (by decide), fun G2 f2 => q G2 ((x9.trans f1).trans f2)⟩⟩
    · intro l8 p8 H8 nl8 np8 e8 hl8 hp8
      rw [← hN2]
      show N1 [some (V.int n), some (V.int m), some (V.int p), some (V.int g), some (V.int m'), some (V.int UU), some (V.ref l6), some (V.int st), some (V.ref l7), some (V.ref p8)] H8
      rw [← hN1]
      clear hN1 hN2
      have mn : min (nf st g) 202 = nf st g := by omega
      rw [mn] at h7
      have h7' := e8 _ _ h7
      have ln : (((fallen st g (nf st g)).map V.int).length : Int) = (nf st g : Int) := by rw [List.length_map, fallen_len]
      refine cut_eq fun N1 hN1 => ?_
      simp only [tSeq, tIfS, tOr, tAnd, tNot, tB, tTest, tCB, tCall, tCons, tVar, tNil, tC, tRet, tRetN, tNext, tAsg, gName, tDrop, tOp, tUn, tAug, ipI, tPar, tIf, tAndV, tOrV, tNotV, tChain, tNever, rI0, rI, rU, L2.start, cxK, List.map_cons, List.map_nil, List.length_cons, List.length_nil, Nat.reduceAdd, Nat.reduceSub, List.replicate, List.cons_append, List.nil_append, List.append_nil, List.set_cons_zero, List.set_cons_succ, List.getElem?_cons_zero, List.getElem?_cons_succ, Option.some.injEq, V.int.injEq, V.bl.injEq, exists_eq_left', exists_eq_left, exists_and_left, tFor_eq, iRng1, iRng2, iRng3, iList, iEnum, iZip, iTup, tLst_eq, tTup_eq, rCat_eq, rCatS, rSum, rAppend_eq, rListOf, rSlL_eq, tSl, tNoPart, tPart, tLc_eq, tBM, rIxL, rIxT, min3_eq, rEq_int, rNe_int, min_if, max_if, and_assoc, V.ref.injEq, V.str.injEq, List.cons.injEq, and_true, true_and, ↓reduceIte, Bool.false_eq_true, Bool.not_true, Bool.not_false, Int.reduceToNat, Int.reducePow, Int.reduceAdd, Int.reduceSub, Int.reduceNeg, rNe_str, rEq_str, rEq_bl, tRaise1, tFmt, tJs, tCallS, WE, wKeep_eq, reduceCtorEq, false_and, and_false, exists_false, or_false, false_or, tIsN, tNotN, decide_true, decide_false, tDictN]
      refine ⟨_, .inl (sq_of h7'), ?_⟩
      rw [ln]
      refine ifT (decide_eq_true (by omega)) ⟨sz_of (by decide), new_of fun p9 H9 n9 e9 h9 => ne_sl (by decide +kernel) (e9 _ _ hp8) h9 (e9 _ _ hl8) (e9 _ _ h7') ⟨_, rfl, ifF rfl ?_⟩⟩
      rw [← hN1]
      clear hN1
      have y9 : Ex H7 H9 := e8.trans e9
      refine cut_eq fun N1 hN1 => ?_
      simp only [tSeq, tIfS, tOr, tAnd, tNot, tB, tTest, tCB, tCall, tCons, tVar, tNil, tC, tRet, tRetN, tNext, tAsg, gName, tDrop, tOp, tUn, tAug, ipI, tPar, tIf, tAndV, tOrV, tNotV, tChain, tNever, rI0, rI, rU, L2.start, cxK, List.map_cons, List.map_nil, List.length_cons, List.length_nil, Nat.reduceAdd, Nat.reduceSub, List.replicate, List.cons_append, List.nil_append, List.append_nil, List.set_cons_zero, List.set_cons_succ, List.getElem?_cons_zero, List.getElem?_cons_succ, Option.some.injEq, V.int.injEq, V.bl.injEq, exists_eq_left', exists_eq_left, exists_and_left, tFor_eq, iRng1, iRng2, iRng3, iList, iEnum, iZip, iTup, tLst_eq, tTup_eq, rCat_eq, rCatS, rSum, rAppend_eq, rListOf, rSlL_eq, tSl, tNoPart, tPart, tLc_eq, tBM, rIxL, rIxT, min3_eq, rEq_int, rNe_int, min_if, max_if, and_assoc, V.ref.injEq, V.str.injEq, List.cons.injEq, and_true, true_and, ↓reduceIte, Bool.false_eq_true, Bool.not_true, Bool.not_false, Int.reduceToNat, Int.reducePow, Int.reduceAdd, Int.reduceSub, Int.reduceNeg, rNe_str, rEq_str, rEq_bl, tRaise1, tFmt, tJs, tCallS, WE, wKeep_eq, reduceCtorEq, false_and, and_false, exists_false, or_false, false_or, tIsN, tNotN, decide_true, decide_false, tDictN]
      refine ⟨_, .inl (sq_of (e9 _ _ h7')), ?_⟩
      rw [ln]
      refine ifT (decide_eq_true (by omega)) ?_
      have w8 := e9 _ _ hl8
      refine ⟨_, st_of (e9 _ _ hp8), _, rfl, .inl ⟨rfl, _, sq_of w8⟩, _, rfl, _, w8, ?_, chg_of fun HA kA hA => ?_⟩
      · rw [List.length_map, fallen_len]
        exact sz_lt (by omega)
      have yA : Ex H7 HA := ex_chg y9 nl8 kA
      refine ⟨_, _, rfl, .inl ⟨_, rfl⟩, .inl ⟨_, rfl⟩, fun bad => ?_, fun sB gB es eg _ _ _ _ => ?_⟩
      · exact absurd bad (by simp [wholeV, s0, s1, g1, g2])
      cases es
      cases eg
      refine ⟨fun far => absurd far (by omega), fun _ lB HB nB eB hB => neD_ints (sq_of hB) (sq_of (eB _ _ (yA _ _ h7))) ⟨_, rfl, ifF (by simp) ?_⟩⟩
      rw [← hN1]
      clear hN1
      have xB : Ex H HB := (x7.trans yA).trans eB
      simp only [tSeq, tIfS, tOr, tAnd, tNot, tB, tTest, tCB, tCall, tCons, tVar, tNil, tC, tRet, tRetN, tNext, tAsg, gName, tDrop, tOp, tUn, tAug, ipI, tPar, tIf, tAndV, tOrV, tNotV, tChain, tNever, rI0, rI, rU, L2.start, cxK, List.map_cons, List.map_nil, List.length_cons, List.length_nil, Nat.reduceAdd, Nat.reduceSub, List.replicate, List.cons_append, List.nil_append, List.append_nil, List.set_cons_zero, List.set_cons_succ, List.getElem?_cons_zero, List.getElem?_cons_succ, Option.some.injEq, V.int.injEq, V.bl.injEq, exists_eq_left', exists_eq_left, exists_and_left, tFor_eq, iRng1, iRng2, iRng3, iList, iEnum, iZip, iTup, tLst_eq, tTup_eq, rCat_eq, rCatS, rSum, rAppend_eq, rListOf, rSlL_eq, tSl, tNoPart, tPart, tLc_eq, tBM, rIxL, rIxT, min3_eq, rEq_int, rNe_int, min_if, max_if, and_assoc, V.ref.injEq, V.str.injEq, List.cons.injEq, and_true, true_and, ↓reduceIte, Bool.false_eq_true, Bool.not_true, Bool.not_false, Int.reduceToNat, Int.reducePow, Int.reduceAdd, Int.reduceSub, Int.reduceNeg, rNe_str, rEq_str, rEq_bl, tRaise1, tFmt, tJs, tCallS, WE, wKeep_eq, reduceCtorEq, false_and, and_false, exists_false, or_false, false_or, tIsN, tNotN, decide_true, decide_false, tDictN]
      refine ⟨cdw (by decide) (by decide), _, m', _, _, rfl, Int.ediv_nonneg hm (by decide), xB.tab tg, fun G1 f1 => ?_⟩
      refine ⟨_, rfl, ifT rfl ⟨⟨by decide, by decide, by decide⟩, cdw (by decide) (by decide), _, rfl, Int.ediv_nonneg hm (by decide), fun G2 f2 => q G2 ((xB.trans f1).trans f2)⟩⟩
def spLaw (K : PySem.W.Frag) (T : Addr) : Sp := fun vs H Q _ => ∃ (a : Addr) (ns : List Int), vs = [.ref a] ∧ SqL K H a (ns.map V.int) ∧ ns.length ≤ 63 ∧ GxR.TabG H T ∧ ∀ H', Q (.bl true) H'
theorem ok_law (B : Bt mg cl) {T : Addr} (F__law_wide : Fn P w K mg base "_law_wide" ["_law_cell", "_law_k"] CX0 1 sp__law_wide) (F__law_right : Fn P w K mg base "_law_right" ["_law_number", "_law_more"] CX0 7 (sp__law_right T)) {f : Addr} {fd : FuncData} (F : Fun K "law" "law" s_law f fd) : FnOk P w K mg base CX0 8 f fd ["_law_script"] (spLaw K T) := by
  refine F.ok sc_law (fun vs H Q E h => ?_) (fun cdv A outer s H vs Q E hr h => ?_)
  · obtain ⟨a, ns, rfl, _⟩ := h
    rfl
  · obtain ⟨a, ns, rfl, hS, hlen, tg, q⟩ := h
    refine ⟨_, (pss_cons (ps_for PassesOwn.never rfl (pi_enum (by rfl) B.b_enumerate (pa_cons (pe_op (k_catS (K := K) rfl) (pv 0) (pe_lst (pa_cons pe_int pa_nil))) pa_nil)) (k_pgt (K := K) rfl rfl (pgs_cons (pg_name (i := 1) sc_law.nd rfl (.inl rfl)) (pgs_cons (pg_name (i := 2) sc_law.nd rfl (.inl rfl)) pgs_nil)))
        (pss_one (ps_if (pt_not (pt_val (pe_fn F__law_right (hr.mono (by decide)) (pa_cons (pe_fn F__law_wide (hr.mono (by decide)) (pa_cons (pv 2) (pa_cons (pv 1) pa_nil))) (pa_cons (pe_fn F__law_wide (hr.mono (by decide)) (pa_cons (pv 2) (pa_cons (pe_op op_add (pv 1) pe_int) pa_nil))) pa_nil)))))
        (pss_one (ps_ret pe_bl))
        pss_nil)))
      (pss_one (ps_ret pe_bl))), ?_⟩
    simp only [tSeq, tIfS, tOr, tAnd, tNot, tB, tTest, tCB, tCall, tCons, tVar, tNil, tC, tRet, tRetN, tNext, tAsg, gName, tDrop, tOp, tUn, tAug, ipI, tPar, tIf, tAndV, tOrV, tNotV, tChain, tNever, rI0, rI, rU, L2.start, cxK, List.map_cons, List.map_nil, List.length_cons, List.length_nil, Nat.reduceAdd, Nat.reduceSub, List.replicate, List.cons_append, List.nil_append, List.append_nil, List.set_cons_zero, List.set_cons_succ, List.getElem?_cons_zero, List.getElem?_cons_succ, Option.some.injEq, V.int.injEq, V.bl.injEq, exists_eq_left', exists_eq_left, exists_and_left, tFor_eq, iRng1, iRng2, iRng3, iList, iEnum, iZip, iTup, tLst_eq, tTup_eq, rCat_eq, rCatS, rSum, rAppend_eq, rListOf, rSlL_eq, tSl, tNoPart, tPart, tLc_eq, tBM, rIxL, rIxT, min3_eq, rEq_int, rNe_int, min_if, max_if, and_assoc, V.ref.injEq, V.str.injEq, List.cons.injEq, and_true, true_and, ↓reduceIte, Bool.false_eq_true, Bool.not_true, Bool.not_false, Int.reduceToNat, Int.reducePow, Int.reduceAdd, Int.reduceSub, Int.reduceNeg, rNe_str, rEq_str, rEq_bl, tRaise1, tFmt, tJs, tCallS, WE, wKeep_eq, reduceCtorEq, false_and, and_false, exists_false, or_false, false_or, tIsN, tNotN, decide_true, decide_false, tDictN]
    refine ⟨sz_of (by decide), new_of fun l1 H1 n1 e1 h1 => ⟨_, ex_l e1 hS, _, sq_of h1, ?_, new_of fun l2 H2 n2 e2 h2 => ?_⟩⟩
    · exact sz_of (by simp only [List.length_map, List.length_cons, List.length_nil]; omega)
    have z2 : (ns.map V.int ++ [V.int 0]) = (ns ++ [0]).map V.int := by
      rw [List.map_append]
      rfl
    rw [z2] at h2
    obtain ⟨Pv, hPv⟩ : ∃ Pv : Nat → L2.St → Hp → Prop, ∀ i σ H', Pv i σ H' ↔ Ex H2 H' ∧ ∃ (y1 y2 : Option V), σ = [some (.ref a), y1, y2] := ⟨_, fun _ _ _ => Iff.rfl⟩
    refine ⟨_, sq_of h2, loop_enum (xs := (ns ++ [0]).map V.int) Pv ((hPv _ _ _).mpr ⟨Ex.refl _, none, none, rfl⟩) (fun i σ H' hp => ex_l ((hPv _ _ _).mp hp).1 (sq_of h2)) ?_ ?_⟩
    · intro i x σ H0 T H' hx hp nT e hT
      obtain ⟨e0, y1, y2, rfl⟩ := (hPv _ _ _).mp hp
      obtain ⟨z, hz, rfl⟩ := get_int hx
      have hi : i ≤ 63 := by
        have := (List.getElem?_eq_some_iff.mp hz).1
        rw [List.length_append] at this
        simp only [List.length_cons, List.length_nil] at this
        omega
      have x3 : Ex H2 H' := e0.trans e
      refine ⟨T, _, rfl, st_of hT, rfl, ?_⟩
      simp only [tSeq, tIfS, tOr, tAnd, tNot, tB, tTest, tCB, tCall, tCons, tVar, tNil, tC, tRet, tRetN, tNext, tAsg, gName, tDrop, tOp, tUn, tAug, ipI, tPar, tIf, tAndV, tOrV, tNotV, tChain, tNever, rI0, rI, rU, L2.start, cxK, List.map_cons, List.map_nil, List.length_cons, List.length_nil, Nat.reduceAdd, Nat.reduceSub, List.replicate, List.cons_append, List.nil_append, List.append_nil, List.set_cons_zero, List.set_cons_succ, List.getElem?_cons_zero, List.getElem?_cons_succ, Option.some.injEq, V.int.injEq, V.bl.injEq, exists_eq_left', exists_eq_left, exists_and_left, tFor_eq, iRng1, iRng2, iRng3, iList, iEnum, iZip, iTup, tLst_eq, tTup_eq, rCat_eq, rCatS, rSum, rAppend_eq, rListOf, rSlL_eq, tSl, tNoPart, tPart, tLc_eq, tBM, rIxL, rIxT, min3_eq, rEq_int, rNe_int, min_if, max_if, and_assoc, V.ref.injEq, V.str.injEq, List.cons.injEq, and_true, true_and, ↓reduceIte, Bool.false_eq_true, Bool.not_true, Bool.not_false, Int.reduceToNat, Int.reducePow, Int.reduceAdd, Int.reduceSub, Int.reduceNeg, rNe_str, rEq_str, rEq_bl, tRaise1, tFmt, tJs, tCallS, WE, wKeep_eq, reduceCtorEq, false_and, and_false, exists_false, or_false, false_or, tIsN, tNotN, decide_true, decide_false, tDictN, gCons, gNil]
      refine ⟨z, i, rfl, by omega, fun n hn => ⟨z, i + 1000, by rw [show ((i + 1000 : Nat) : Int) = (i : Int) + 1000 by omega], by omega, fun m hm => ⟨n, m, rfl, hn, hm, ((e1.trans e2).trans x3).tab tg, fun H4 e4 => ⟨_, rfl, ifF rfl ((hPv _ _ _).mpr ⟨x3.trans e4, _, _, rfl⟩)⟩⟩⟩⟩
    · intro σ H' hp
      obtain ⟨e0, y1, y2, rfl⟩ := (hPv _ _ _).mp hp
      simp only [tSeq, tIfS, tOr, tAnd, tNot, tB, tTest, tCB, tCall, tCons, tVar, tNil, tC, tRet, tRetN, tNext, tAsg, gName, tDrop, tOp, tUn, tAug, ipI, tPar, tIf, tAndV, tOrV, tNotV, tChain, tNever, rI0, rI, rU, L2.start, cxK, List.map_cons, List.map_nil, List.length_cons, List.length_nil, Nat.reduceAdd, Nat.reduceSub, List.replicate, List.cons_append, List.nil_append, List.append_nil, List.set_cons_zero, List.set_cons_succ, List.getElem?_cons_zero, List.getElem?_cons_succ, Option.some.injEq, V.int.injEq, V.bl.injEq, exists_eq_left', exists_eq_left, exists_and_left, tFor_eq, iRng1, iRng2, iRng3, iList, iEnum, iZip, iTup, tLst_eq, tTup_eq, rCat_eq, rCatS, rSum, rAppend_eq, rListOf, rSlL_eq, tSl, tNoPart, tPart, tLc_eq, tBM, rIxL, rIxT, min3_eq, rEq_int, rNe_int, min_if, max_if, and_assoc, V.ref.injEq, V.str.injEq, List.cons.injEq, and_true, true_and, ↓reduceIte, Bool.false_eq_true, Bool.not_true, Bool.not_false, Int.reduceToNat, Int.reducePow, Int.reduceAdd, Int.reduceSub, Int.reduceNeg, rNe_str, rEq_str, rEq_bl, tRaise1, tFmt, tJs, tCallS, WE, wKeep_eq, reduceCtorEq, false_and, and_false, exists_false, or_false, false_or, tIsN, tNotN, decide_true, decide_false, tDictN]
      exact q H'
end
end FW

set_option Elab.async false
set_option linter.all false
set_option maxRecDepth 100000
set_option maxHeartbeats 4000000
namespace FW
open PySem PySem.Spec PyProof.Rows L2 Evt
theorem all_mk {l : PySem.W.OpenLaw} {w : World} {K : PySem.W.Frag} {h : Heap} {mg : Str → Option Value} {fa f17 f22 f24 f25 f26 f27 f29 f30 f18 f32 f19 f21 f20 f28 f31 f33 f34 cc20 : Addr} (X : K.In h) (G : h.Ns mainGlobals mg) (hfa : mg "law" = some (.ref fa)) (TT20 : ∀ c P, PySem.W.tabIn K "reach" = some (c, P) → PySem.W.CodeHd h c P ∧ h.get? P = some (PySem.W.tabObj #[]))
    {od17 an17 od22 an22 od24 an24 od25 an25 od26 an26 od27 an27 od29 an29 od30 an30 od18 an18 od32 an32 od19 an19 od21 an21 od20 an20 od28 an28 od31 an31 od33 an33 od34 an34 : Option Addr} {sl17 sl22 sl24 sl25 sl26 sl27 sl29 sl30 sl18 sl32 sl19 sl21 sl20 sl28 sl31 sl33 sl34 : Array (Option Value)} {oc17 kV17 dc17 pm17 cd17 ct17 oc22 kV22 dc22 pm22 cd22 ct22 oc24 kV24 dc24 pm24 cd24 ct24 oc25 kV25 dc25 pm25 cd25 ct25 oc26 kV26 dc26 pm26 cd26 ct26 oc27 kV27 dc27 pm27 cd27 ct27 oc29 kV29 dc29 pm29 cd29 ct29 oc30 kV30 dc30 pm30 cd30 ct30 oc18 kV18 dc18 pm18 cd18 ct18 oc32 kV32 dc32 pm32 cd32 ct32 oc19 kV19 dc19 pm19 cd19 ct19 oc21 kV21 dc21 pm21 cd21 ct21 oc20 kV20 dc20 pm20  ct20 oc28 kV28 dc28 pm28 cd28 ct28 oc31 kV31 dc31 pm31 cd31 ct31 oc33 kV33 dc33 pm33 cd33 ct33 oc34 kV34 dc34 pm34 cd34 ct34 : Value}
    (a17 : PySem.W.nsIn K mainGlobals "is_whole" = some (some (.ref f17))) (l17 : K.lookup f17 = some ⟨oc17, od17, .func (PySem.W.fnOf "is_whole" "is_whole" (defArgs s_is_whole) (defBody s_is_whole) (defScope s_is_whole) .none kV17 dc17 pm17 an17 cd17 ct17), sl17⟩) (c17 : PySem.W.codeIn K cd17 "is_whole" = true) (k17 : PySem.W.keepIn K (.ref f17) = true)
    (a22 : PySem.W.nsIn K mainGlobals "added_reach" = some (some (.ref f22))) (l22 : K.lookup f22 = some ⟨oc22, od22, .func (PySem.W.fnOf "added_reach" "added_reach" (defArgs s_added_reach) (defBody s_added_reach) (defScope s_added_reach) .none kV22 dc22 pm22 an22 cd22 ct22), sl22⟩) (c22 : PySem.W.codeIn K cd22 "added_reach" = true) (k22 : PySem.W.keepIn K (.ref f22) = true)
    (a24 : PySem.W.nsIn K mainGlobals "_law_wide" = some (some (.ref f24))) (l24 : K.lookup f24 = some ⟨oc24, od24, .func (PySem.W.fnOf "_law_wide" "_law_wide" (defArgs s__law_wide) (defBody s__law_wide) (defScope s__law_wide) .none kV24 dc24 pm24 an24 cd24 ct24), sl24⟩) (c24 : PySem.W.codeIn K cd24 "_law_wide" = true) (k24 : PySem.W.keepIn K (.ref f24) = true)
    (a25 : PySem.W.nsIn K mainGlobals "_law_rate" = some (some (.ref f25))) (l25 : K.lookup f25 = some ⟨oc25, od25, .func (PySem.W.fnOf "_law_rate" "_law_rate" (defArgs s__law_rate) (defBody s__law_rate) (defScope s__law_rate) .none kV25 dc25 pm25 an25 cd25 ct25), sl25⟩) (c25 : PySem.W.codeIn K cd25 "_law_rate" = true) (k25 : PySem.W.keepIn K (.ref f25) = true)
    (a26 : PySem.W.nsIn K mainGlobals "_law_reach" = some (some (.ref f26))) (l26 : K.lookup f26 = some ⟨oc26, od26, .func (PySem.W.fnOf "_law_reach" "_law_reach" (defArgs s__law_reach) (defBody s__law_reach) (defScope s__law_reach) .none kV26 dc26 pm26 an26 cd26 ct26), sl26⟩) (c26 : PySem.W.codeIn K cd26 "_law_reach" = true) (k26 : PySem.W.keepIn K (.ref f26) = true)
    (a27 : PySem.W.nsIn K mainGlobals "_law_class" = some (some (.ref f27))) (l27 : K.lookup f27 = some ⟨oc27, od27, .func (PySem.W.fnOf "_law_class" "_law_class" (defArgs s__law_class) (defBody s__law_class) (defScope s__law_class) .none kV27 dc27 pm27 an27 cd27 ct27), sl27⟩) (c27 : PySem.W.codeIn K cd27 "_law_class" = true) (k27 : PySem.W.keepIn K (.ref f27) = true)
    (a29 : PySem.W.nsIn K mainGlobals "_law_fallen" = some (some (.ref f29))) (l29 : K.lookup f29 = some ⟨oc29, od29, .func (PySem.W.fnOf "_law_fallen" "_law_fallen" (defArgs s__law_fallen) (defBody s__law_fallen) (defScope s__law_fallen) .none kV29 dc29 pm29 an29 cd29 ct29), sl29⟩) (c29 : PySem.W.codeIn K cd29 "_law_fallen" = true) (k29 : PySem.W.keepIn K (.ref f29) = true)
    (a30 : PySem.W.nsIn K mainGlobals "_law_odd" = some (some (.ref f30))) (l30 : K.lookup f30 = some ⟨oc30, od30, .func (PySem.W.fnOf "_law_odd" "_law_odd" (defArgs s__law_odd) (defBody s__law_odd) (defScope s__law_odd) .none kV30 dc30 pm30 an30 cd30 ct30), sl30⟩) (c30 : PySem.W.codeIn K cd30 "_law_odd" = true) (k30 : PySem.W.keepIn K (.ref f30) = true)
    (a18 : PySem.W.nsIn K mainGlobals "need_whole" = some (some (.ref f18))) (l18 : K.lookup f18 = some ⟨oc18, od18, .func (PySem.W.fnOf "need_whole" "need_whole" (defArgs s_need_whole) (defBody s_need_whole) (defScope s_need_whole) .none kV18 dc18 pm18 an18 cd18 ct18), sl18⟩) (c18 : PySem.W.codeIn K cd18 "need_whole" = true) (k18 : PySem.W.keepIn K (.ref f18) = true)
    (a32 : PySem.W.nsIn K mainGlobals "_law_is_whole_right" = some (some (.ref f32))) (l32 : K.lookup f32 = some ⟨oc32, od32, .func (PySem.W.fnOf "_law_is_whole_right" "_law_is_whole_right" (defArgs s__law_is_whole_right) (defBody s__law_is_whole_right) (defScope s__law_is_whole_right) .none kV32 dc32 pm32 an32 cd32 ct32), sl32⟩) (c32 : PySem.W.codeIn K cd32 "_law_is_whole_right" = true) (k32 : PySem.W.keepIn K (.ref f32) = true)
    (a19 : PySem.W.nsIn K mainGlobals "need_drive" = some (some (.ref f19))) (l19 : K.lookup f19 = some ⟨oc19, od19, .func (PySem.W.fnOf "need_drive" "need_drive" (defArgs s_need_drive) (defBody s_need_drive) (defScope s_need_drive) .none kV19 dc19 pm19 an19 cd19 ct19), sl19⟩) (c19 : PySem.W.codeIn K cd19 "need_drive" = true) (k19 : PySem.W.keepIn K (.ref f19) = true)
    (a21 : PySem.W.nsIn K mainGlobals "braked" = some (some (.ref f21))) (l21 : K.lookup f21 = some ⟨oc21, od21, .func (PySem.W.fnOf "braked" "braked" (defArgs s_braked) (defBody s_braked) (defScope s_braked) .none kV21 dc21 pm21 an21 cd21 ct21), sl21⟩) (c21 : PySem.W.codeIn K cd21 "braked" = true) (k21 : PySem.W.keepIn K (.ref f21) = true)
    (a20 : PySem.W.nsIn K mainGlobals "reach" = some (some (.ref f20))) (l20 : K.lookup f20 = some ⟨oc20, od20, .func (PySem.W.fnOf "reach" "reach" (defArgs s_reach) (defBody s_reach) (defScope s_reach) .none kV20 dc20 pm20 an20 (.ref cc20) ct20), sl20⟩) (c20 : PySem.W.codeIn K (.ref cc20) "reach" = true) (k20 : PySem.W.keepIn K (.ref f20) = true)
    {ec20 : Value} {dd20 : Option Addr} {vc20 : Array Value} {sc20 : Array (Option Value)} {tp20 : Addr} (m20 : K.lookup cc20 = some ⟨ec20, dd20, .fields vc20, sc20⟩) (v20 : vc20[11]? = some (.ref tp20)) (np20 : K.lookup tp20 = none)
    (a28 : PySem.W.nsIn K mainGlobals "_law_said" = some (some (.ref f28))) (l28 : K.lookup f28 = some ⟨oc28, od28, .func (PySem.W.fnOf "_law_said" "_law_said" (defArgs s__law_said) (defBody s__law_said) (defScope s__law_said) .none kV28 dc28 pm28 an28 cd28 ct28), sl28⟩) (c28 : PySem.W.codeIn K cd28 "_law_said" = true) (k28 : PySem.W.keepIn K (.ref f28) = true)
    (a31 : PySem.W.nsIn K mainGlobals "_law_refused" = some (some (.ref f31))) (l31 : K.lookup f31 = some ⟨oc31, od31, .func (PySem.W.fnOf "_law_refused" "_law_refused" (defArgs s__law_refused) (defBody s__law_refused) (defScope s__law_refused) .none kV31 dc31 pm31 an31 cd31 ct31), sl31⟩) (c31 : PySem.W.codeIn K cd31 "_law_refused" = true) (k31 : PySem.W.keepIn K (.ref f31) = true)
    (a33 : PySem.W.nsIn K mainGlobals "_law_right" = some (some (.ref f33))) (l33 : K.lookup f33 = some ⟨oc33, od33, .func (PySem.W.fnOf "_law_right" "_law_right" (defArgs s__law_right) (defBody s__law_right) (defScope s__law_right) .none kV33 dc33 pm33 an33 cd33 ct33), sl33⟩) (c33 : PySem.W.codeIn K cd33 "_law_right" = true) (k33 : PySem.W.keepIn K (.ref f33) = true)
    (a34 : PySem.W.nsIn K mainGlobals "law" = some (some (.ref f34))) (l34 : K.lookup f34 = some ⟨oc34, od34, .func (PySem.W.fnOf "law" "law" (defArgs s_law) (defBody s_law) (defScope s_law) .none kV34 dc34 pm34 an34 cd34 ct34), sl34⟩) (c34 : PySem.W.codeIn K cd34 "law" = true) (k34 : PySem.W.keepIn K (.ref f34) = true)
    (z_isinstance : PySem.W.nsIn K mainGlobals "isinstance" = some none)
    (z_int : PySem.W.nsIn K mainGlobals "int" = some none)
    (z_bool : PySem.W.nsIn K mainGlobals "bool" = some none)
    (z_range : PySem.W.nsIn K mainGlobals "range" = some none)
    (z_min : PySem.W.nsIn K mainGlobals "min" = some none)
    (z_sum : PySem.W.nsIn K mainGlobals "sum" = some none)
    (z_len : PySem.W.nsIn K mainGlobals "len" = some none)
    (z_list : PySem.W.nsIn K mainGlobals "list" = some none)
    (z_enumerate : PySem.W.nsIn K mainGlobals "enumerate" = some none)
    (z_ValueError : PySem.W.nsIn K mainGlobals "ValueError" = some none)
    {C_StageError : Addr} (q_StageError : PySem.W.nsIn K mainGlobals "StageError" = some (some (.ref C_StageError)))
    {C_BadNumber : Addr} (q_BadNumber : PySem.W.nsIn K mainGlobals "BadNumber" = some (some (.ref C_BadNumber)))
    {C_BadName : Addr} (q_BadName : PySem.W.nsIn K mainGlobals "BadName" = some (some (.ref C_BadName)))
    {C_BadStage : Addr} (q_BadStage : PySem.W.nsIn K mainGlobals "BadStage" = some (some (.ref C_BadStage)))
    {C_BadSheet : Addr} (q_BadSheet : PySem.W.nsIn K mainGlobals "BadSheet" = some (some (.ref C_BadSheet)))
    {C_TooLong : Addr} (q_TooLong : PySem.W.nsIn K mainGlobals "TooLong" = some (some (.ref C_TooLong)))
    {C_Busy : Addr} (q_Busy : PySem.W.nsIn K mainGlobals "Busy" = some (some (.ref C_Busy)))
    {C_TooNear : Addr} (q_TooNear : PySem.W.nsIn K mainGlobals "TooNear" = some (some (.ref C_TooNear)))
    {C_Stopped : Addr} (q_Stopped : PySem.W.nsIn K mainGlobals "Stopped" = some (some (.ref C_Stopped)))
    {C_NotStopped : Addr} (q_NotStopped : PySem.W.nsIn K mainGlobals "NotStopped" = some (some (.ref C_NotStopped)))
    {C_Moving : Addr} (q_Moving : PySem.W.nsIn K mainGlobals "Moving" = some (some (.ref C_Moving)))
    {C_NoCue : Addr} (q_NoCue : PySem.W.nsIn K mainGlobals "NoCue" = some (some (.ref C_NoCue)))
    {C_BadRow : Addr} (q_BadRow : PySem.W.nsIn K mainGlobals "BadRow" = some (some (.ref C_BadRow)))
    (i_StageError : PySem.W.isClsIn K C_StageError = true) (y_StageError : PySem.W.typeIn K (.ref C_StageError) = some (.type "type"))
    (i_BadNumber : PySem.W.isClsIn K C_BadNumber = true) (y_BadNumber : PySem.W.typeIn K (.ref C_BadNumber) = some (.type "type"))
    (i_BadName : PySem.W.isClsIn K C_BadName = true) (y_BadName : PySem.W.typeIn K (.ref C_BadName) = some (.type "type"))
    (i_BadStage : PySem.W.isClsIn K C_BadStage = true) (y_BadStage : PySem.W.typeIn K (.ref C_BadStage) = some (.type "type"))
    (i_BadSheet : PySem.W.isClsIn K C_BadSheet = true) (y_BadSheet : PySem.W.typeIn K (.ref C_BadSheet) = some (.type "type"))
    (i_TooLong : PySem.W.isClsIn K C_TooLong = true) (y_TooLong : PySem.W.typeIn K (.ref C_TooLong) = some (.type "type"))
    (i_Busy : PySem.W.isClsIn K C_Busy = true) (y_Busy : PySem.W.typeIn K (.ref C_Busy) = some (.type "type"))
    (i_TooNear : PySem.W.isClsIn K C_TooNear = true) (y_TooNear : PySem.W.typeIn K (.ref C_TooNear) = some (.type "type"))
    (i_Stopped : PySem.W.isClsIn K C_Stopped = true) (y_Stopped : PySem.W.typeIn K (.ref C_Stopped) = some (.type "type"))
    (i_NotStopped : PySem.W.isClsIn K C_NotStopped = true) (y_NotStopped : PySem.W.typeIn K (.ref C_NotStopped) = some (.type "type"))
    (i_Moving : PySem.W.isClsIn K C_Moving = true) (y_Moving : PySem.W.typeIn K (.ref C_Moving) = some (.type "type"))
    (i_NoCue : PySem.W.isClsIn K C_NoCue = true) (y_NoCue : PySem.W.typeIn K (.ref C_NoCue) = some (.type "type"))
    (i_BadRow : PySem.W.isClsIn K C_BadRow = true) (y_BadRow : PySem.W.typeIn K (.ref C_BadRow) = some (.type "type"))
    (sbS : PySem.W.subIn K (.ref C_StageError) (.type "BaseException") = some true)
    (x_BadNumber_xin : PySem.W.excIn K C_BadNumber [.type "ValueError", .type "Exception", .type "BaseException", .type "object"] "ValueError.__new__" = true)
    (x_BadNumber_kp : PySem.W.keepIn K (.ref C_BadNumber) = true)
    (x_BadNumber_sb : PySem.W.subIn K (.ref C_BadNumber) (.type "BaseException") = some true)
    (x_BadNumber_ty : PySem.W.typeIn K (.ref C_BadNumber) = some (.type "type"))
    (x_BadNumber_hg : PySem.W.findIn K (.ref C_BadNumber) "__getattribute__" = some (some (.builtin "BaseException.__getattribute__")))
    (x_BadNumber_hk : PySem.W.findIn K (.ref C_BadNumber) "__getattr__" = some none)
    (x_BadNumber_hd : PySem.W.hasDictIn K C_BadNumber = true)
    (x_BadNumber_ha : PySem.W.findIn K (.ref C_BadNumber) "__class__" = some (some (.builtin "object.__class__")))
    (x_BadNumber_hn : PySem.W.specialIn K (.builtin "object.__class__") "__get__" = some (some (.builtin "getset_descriptor.__get__")))
    (x_BadNumber_ht : PySem.W.takesIn K (.builtin "object.__class__") = some true)
    (x_BadNumber_hm : PySem.W.mroIn K C_BadNumber (.type "object") = some true)
    (x_BadNumber_v : PySem.W.subIn K (.ref C_BadNumber) (.type "ValueError") = some true)
    (x_BadNumber_u_StageError : PySem.W.subIn K (.ref C_BadNumber) (.ref C_StageError) = some true)
    (x_BadNumber_u_BadNumber : PySem.W.subIn K (.ref C_BadNumber) (.ref C_BadNumber) = some true)
    (x_BadNumber_u_BadName : PySem.W.subIn K (.ref C_BadNumber) (.ref C_BadName) = some false)
    (x_BadNumber_u_BadStage : PySem.W.subIn K (.ref C_BadNumber) (.ref C_BadStage) = some false)
    (x_BadNumber_u_BadSheet : PySem.W.subIn K (.ref C_BadNumber) (.ref C_BadSheet) = some false)
    (x_BadNumber_u_TooLong : PySem.W.subIn K (.ref C_BadNumber) (.ref C_TooLong) = some false)
    (x_BadNumber_u_Busy : PySem.W.subIn K (.ref C_BadNumber) (.ref C_Busy) = some false)
    (x_BadNumber_u_TooNear : PySem.W.subIn K (.ref C_BadNumber) (.ref C_TooNear) = some false)
    (x_BadNumber_u_Stopped : PySem.W.subIn K (.ref C_BadNumber) (.ref C_Stopped) = some false)
    (x_BadNumber_u_NotStopped : PySem.W.subIn K (.ref C_BadNumber) (.ref C_NotStopped) = some false)
    (x_BadNumber_u_Moving : PySem.W.subIn K (.ref C_BadNumber) (.ref C_Moving) = some false)
    (x_BadNumber_u_NoCue : PySem.W.subIn K (.ref C_BadNumber) (.ref C_NoCue) = some false)
    (x_BadNumber_u_BadRow : PySem.W.subIn K (.ref C_BadNumber) (.ref C_BadRow) = some false)
    (x_TooLong_xin : PySem.W.excIn K C_TooLong [.type "ValueError", .type "Exception", .type "BaseException", .type "object"] "ValueError.__new__" = true)
    (x_TooLong_kp : PySem.W.keepIn K (.ref C_TooLong) = true)
    (x_TooLong_sb : PySem.W.subIn K (.ref C_TooLong) (.type "BaseException") = some true)
    (x_TooLong_ty : PySem.W.typeIn K (.ref C_TooLong) = some (.type "type"))
    (x_TooLong_hg : PySem.W.findIn K (.ref C_TooLong) "__getattribute__" = some (some (.builtin "BaseException.__getattribute__")))
    (x_TooLong_hk : PySem.W.findIn K (.ref C_TooLong) "__getattr__" = some none)
    (x_TooLong_hd : PySem.W.hasDictIn K C_TooLong = true)
    (x_TooLong_ha : PySem.W.findIn K (.ref C_TooLong) "__class__" = some (some (.builtin "object.__class__")))
    (x_TooLong_hn : PySem.W.specialIn K (.builtin "object.__class__") "__get__" = some (some (.builtin "getset_descriptor.__get__")))
    (x_TooLong_ht : PySem.W.takesIn K (.builtin "object.__class__") = some true)
    (x_TooLong_hm : PySem.W.mroIn K C_TooLong (.type "object") = some true)
    (x_TooLong_v : PySem.W.subIn K (.ref C_TooLong) (.type "ValueError") = some true)
    (x_TooLong_u_StageError : PySem.W.subIn K (.ref C_TooLong) (.ref C_StageError) = some true)
    (x_TooLong_u_BadNumber : PySem.W.subIn K (.ref C_TooLong) (.ref C_BadNumber) = some false)
    (x_TooLong_u_BadName : PySem.W.subIn K (.ref C_TooLong) (.ref C_BadName) = some false)
    (x_TooLong_u_BadStage : PySem.W.subIn K (.ref C_TooLong) (.ref C_BadStage) = some false)
    (x_TooLong_u_BadSheet : PySem.W.subIn K (.ref C_TooLong) (.ref C_BadSheet) = some false)
    (x_TooLong_u_TooLong : PySem.W.subIn K (.ref C_TooLong) (.ref C_TooLong) = some true)
    (x_TooLong_u_Busy : PySem.W.subIn K (.ref C_TooLong) (.ref C_Busy) = some false)
    (x_TooLong_u_TooNear : PySem.W.subIn K (.ref C_TooLong) (.ref C_TooNear) = some false)
    (x_TooLong_u_Stopped : PySem.W.subIn K (.ref C_TooLong) (.ref C_Stopped) = some false)
    (x_TooLong_u_NotStopped : PySem.W.subIn K (.ref C_TooLong) (.ref C_NotStopped) = some false)
    (x_TooLong_u_Moving : PySem.W.subIn K (.ref C_TooLong) (.ref C_Moving) = some false)
    (x_TooLong_u_NoCue : PySem.W.subIn K (.ref C_TooLong) (.ref C_NoCue) = some false)
    (x_TooLong_u_BadRow : PySem.W.subIn K (.ref C_TooLong) (.ref C_BadRow) = some false)
    {t_MOST_STEPS : Tok} (z_MOST_STEPS : PySem.W.nsIn K mainGlobals "MOST_STEPS" = some (some (.int 200 t_MOST_STEPS)))
    (z_MOST_PACE : ∃ t, mg "MOST_PACE" = some (.int 1000000000 t)) :
    LamX.LawAtS l w K CX0 8 63 "_law_script" mg fa h := by
  have e := hfa.symm.trans (PySem.W.mg_of X G a34)
  cases e
  have F17 := fun_mk (st := s_is_whole) l17 c17 k17
  have b17 := F17.binds (ps := ["thing", "least", "most"]) fun _ _ _ _ _ _ us hl => match us, hl with | [_, _, _], _ => rfl
  have F22 := fun_mk (st := s_added_reach) l22 c22 k22
  have b22 := F22.binds (ps := ["many", "pace", "gain"]) fun _ _ _ _ _ _ us hl => match us, hl with | [_, _, _], _ => rfl
  have F24 := fun_mk (st := s__law_wide) l24 c24 k24
  have b24 := F24.binds (ps := ["_law_cell", "_law_k"]) fun _ _ _ _ _ _ us hl => match us, hl with | [_, _], _ => rfl
  have F25 := fun_mk (st := s__law_rate) l25 c25 k25
  have b25 := F25.binds (ps := ["_law_number"]) fun _ _ _ _ _ _ us hl => match us, hl with | [_], _ => rfl
  have F26 := fun_mk (st := s__law_reach) l26 c26 k26
  have b26 := F26.binds (ps := ["_law_many", "_law_pace", "_law_gain"]) fun _ _ _ _ _ _ us hl => match us, hl with | [_, _, _], _ => rfl
  have F27 := fun_mk (st := s__law_class) l27 c27 k27
  have b27 := F27.binds (ps := ["_law_e"]) fun _ _ _ _ _ _ us hl => match us, hl with | [_], _ => rfl
  have F29 := fun_mk (st := s__law_fallen) l29 c29 k29
  have b29 := F29.binds (ps := ["_law_step", "_law_gain"]) fun _ _ _ _ _ _ us hl => match us, hl with | [_, _], _ => rfl
  have F30 := fun_mk (st := s__law_odd) l30 c30 k30
  have b30 := F30.binds (ps := ["_law_number", "_law_most"]) fun _ _ _ _ _ _ us hl => match us, hl with | [_, _], _ => rfl
  have F18 := fun_mk (st := s_need_whole) l18 c18 k18
  have b18 := F18.binds (ps := ["thing", "least", "most", "what"]) fun _ _ _ _ _ _ us hl => match us, hl with | [_, _, _, _], _ => rfl
  have F32 := fun_mk (st := s__law_is_whole_right) l32 c32 k32
  have b32 := F32.binds (ps := ["_law_number"]) fun _ _ _ _ _ _ us hl => match us, hl with | [_], _ => rfl
  have F19 := fun_mk (st := s_need_drive) l19 c19 k19
  have b19 := F19.binds (ps := ["pace", "gain"]) fun _ _ _ _ _ _ us hl => match us, hl with | [_, _], _ => rfl
  have F21 := fun_mk (st := s_braked) l21 c21 k21
  have b21 := F21.binds (ps := ["step", "gain"]) fun _ _ _ _ _ _ us hl => match us, hl with | [_, _], _ => rfl
  have F20 := fun_mk (st := s_reach) l20 c20 k20
  have FT20 : FunT K "reach" "reach" s_reach f20 _ cc20 := ⟨⟨_, _, _, _, _, _, _, _, rfl, l20, c20⟩, k20⟩
  have r20 := TT20 cc20 tp20 (tab_in a20 l20 rfl m20 v20)
  have b20 := F20.binds (ps := ["many", "pace", "gain"]) fun _ _ _ _ _ _ us hl => match us, hl with | [_, _, _], _ => rfl
  have F28 := fun_mk (st := s__law_said) l28 c28 k28
  have b28 := F28.binds (ps := ["_law_way", "_law_one", "_law_other", "_law_third"]) fun _ _ _ _ _ _ us hl => match us, hl with | [_, _, _, _], _ => rfl
  have F31 := fun_mk (st := s__law_refused) l31 c31 k31
  have b31 := F31.binds (ps := ["_law_number", "_law_many", "_law_pace", "_law_gain"]) fun _ _ _ _ _ _ us hl => match us, hl with | [_, _, _, _], _ => rfl
  have F33 := fun_mk (st := s__law_right) l33 c33 k33
  have b33 := F33.binds (ps := ["_law_number", "_law_more"]) fun _ _ _ _ _ _ us hl => match us, hl with | [_, _], _ => rfl
  have F34 := fun_mk (st := s_law) l34 c34 k34
  obtain ⟨cl, hcl⟩ : ∃ cl : Nat → Addr, cl = fun i => [C_StageError, C_BadNumber, C_BadName, C_BadStage, C_BadSheet, C_TooLong, C_Busy, C_TooNear, C_Stopped, C_NotStopped, C_Moving, C_NoCue, C_BadRow].getD i 0 := ⟨_, rfl⟩
  have j0 : cl 0 = C_StageError := by rw [hcl]; rfl
  have j1 : cl 1 = C_BadNumber := by rw [hcl]; rfl
  have j2 : cl 2 = C_BadName := by rw [hcl]; rfl
  have j3 : cl 3 = C_BadStage := by rw [hcl]; rfl
  have j4 : cl 4 = C_BadSheet := by rw [hcl]; rfl
  have j5 : cl 5 = C_TooLong := by rw [hcl]; rfl
  have j6 : cl 6 = C_Busy := by rw [hcl]; rfl
  have j7 : cl 7 = C_TooNear := by rw [hcl]; rfl
  have j8 : cl 8 = C_Stopped := by rw [hcl]; rfl
  have j9 : cl 9 = C_NotStopped := by rw [hcl]; rfl
  have j10 : cl 10 = C_Moving := by rw [hcl]; rfl
  have j11 : cl 11 = C_NoCue := by rw [hcl]; rfl
  have j12 : cl 12 = C_BadRow := by rw [hcl]; rfl
  clear hcl
  subst j0 j1 j2 j3 j4 j5 j6 j7 j8 j9 j10 j11 j12
  have EE : Exs K mg cl := ⟨⟨PySem.W.mg_of X G q_BadNumber, x_BadNumber_xin, x_BadNumber_kp, x_BadNumber_sb, x_BadNumber_ty, ⟨x_BadNumber_hg, x_BadNumber_hk, x_BadNumber_sb, x_BadNumber_hd, x_BadNumber_ha, x_BadNumber_hn, x_BadNumber_ht, x_BadNumber_hm⟩, exm_own sbS i_StageError y_StageError x_BadNumber_u_StageError⟩, kitOne_ty (by decide +kernel) x_BadNumber_v, kitAny_no (fun c hc => by simp only [List.mem_cons, List.not_mem_nil, or_false] at hc; rcases hc with rfl | rfl | rfl | rfl | rfl | rfl; (· exact kitOne_own x_BadNumber_u_BadNumber i_BadName y_BadName x_BadNumber_u_BadName); (· exact kitOne_own x_BadNumber_u_BadNumber i_BadRow y_BadRow x_BadNumber_u_BadRow); (· exact kitOne_own x_BadNumber_u_BadNumber i_BadSheet y_BadSheet x_BadNumber_u_BadSheet); (· exact kitOne_own x_BadNumber_u_BadNumber i_BadStage y_BadStage x_BadNumber_u_BadStage); (· exact kitOne_own x_BadNumber_u_BadNumber i_Busy y_Busy x_BadNumber_u_Busy); (· exact kitOne_own x_BadNumber_u_BadNumber i_Moving y_Moving x_BadNumber_u_Moving)), kitAny_no (fun c hc => by simp only [List.mem_cons, List.not_mem_nil, or_false] at hc; rcases hc with rfl | rfl | rfl | rfl; (· exact kitOne_own x_BadNumber_u_BadNumber i_NoCue y_NoCue x_BadNumber_u_NoCue); (· exact kitOne_own x_BadNumber_u_BadNumber i_NotStopped y_NotStopped x_BadNumber_u_NotStopped); (· exact kitOne_own x_BadNumber_u_BadNumber i_Stopped y_Stopped x_BadNumber_u_Stopped); (· exact kitOne_own x_BadNumber_u_BadNumber i_TooNear y_TooNear x_BadNumber_u_TooNear)), kitOne_own x_BadNumber_u_BadNumber i_BadNumber y_BadNumber x_BadNumber_u_BadNumber, kitOne_own x_BadNumber_u_BadNumber i_TooLong y_TooLong x_BadNumber_u_TooLong, ⟨PySem.W.mg_of X G q_TooLong, x_TooLong_xin, x_TooLong_kp, x_TooLong_sb, x_TooLong_ty, ⟨x_TooLong_hg, x_TooLong_hk, x_TooLong_sb, x_TooLong_hd, x_TooLong_ha, x_TooLong_hn, x_TooLong_ht, x_TooLong_hm⟩, exm_own sbS i_StageError y_StageError x_TooLong_u_StageError⟩, kitOne_ty (by decide +kernel) x_TooLong_v, kitAny_no (fun c hc => by simp only [List.mem_cons, List.not_mem_nil, or_false] at hc; rcases hc with rfl | rfl | rfl | rfl | rfl | rfl; (· exact kitOne_own x_TooLong_u_TooLong i_BadName y_BadName x_TooLong_u_BadName); (· exact kitOne_own x_TooLong_u_TooLong i_BadRow y_BadRow x_TooLong_u_BadRow); (· exact kitOne_own x_TooLong_u_TooLong i_BadSheet y_BadSheet x_TooLong_u_BadSheet); (· exact kitOne_own x_TooLong_u_TooLong i_BadStage y_BadStage x_TooLong_u_BadStage); (· exact kitOne_own x_TooLong_u_TooLong i_Busy y_Busy x_TooLong_u_Busy); (· exact kitOne_own x_TooLong_u_TooLong i_Moving y_Moving x_TooLong_u_Moving)), kitAny_no (fun c hc => by simp only [List.mem_cons, List.not_mem_nil, or_false] at hc; rcases hc with rfl | rfl | rfl | rfl; (· exact kitOne_own x_TooLong_u_TooLong i_NoCue y_NoCue x_TooLong_u_NoCue); (· exact kitOne_own x_TooLong_u_TooLong i_NotStopped y_NotStopped x_TooLong_u_NotStopped); (· exact kitOne_own x_TooLong_u_TooLong i_Stopped y_Stopped x_TooLong_u_Stopped); (· exact kitOne_own x_TooLong_u_TooLong i_TooNear y_TooNear x_TooLong_u_TooNear)), kitOne_own x_TooLong_u_TooLong i_BadNumber y_BadNumber x_TooLong_u_BadNumber, kitOne_own x_TooLong_u_TooLong i_TooLong y_TooLong x_TooLong_u_TooLong⟩
  have B : Bt mg cl := ⟨PySem.W.mg_of X G q_StageError, PySem.W.mg_of X G q_BadNumber, PySem.W.mg_of X G q_BadName, PySem.W.mg_of X G q_BadStage, PySem.W.mg_of X G q_BadSheet, PySem.W.mg_of X G q_TooLong, PySem.W.mg_of X G q_Busy, PySem.W.mg_of X G q_TooNear, PySem.W.mg_of X G q_Stopped, PySem.W.mg_of X G q_NotStopped, PySem.W.mg_of X G q_Moving, PySem.W.mg_of X G q_NoCue, PySem.W.mg_of X G q_BadRow, PySem.W.mg_none_of X G z_isinstance, PySem.W.mg_none_of X G z_int, PySem.W.mg_none_of X G z_bool, PySem.W.mg_none_of X G z_range, PySem.W.mg_none_of X G z_min, PySem.W.mg_none_of X G z_sum, PySem.W.mg_none_of X G z_len, PySem.W.mg_none_of X G z_list, PySem.W.mg_none_of X G z_enumerate, PySem.W.mg_none_of X G z_ValueError, ⟨_, PySem.W.mg_of X G z_MOST_STEPS⟩, z_MOST_PACE⟩
  have cs_mem : ∀ p ∈ [(cc20, tp20)], p = (cc20, tp20) := fun p hp => by simpa using hp
  refine ⟨PySem.W.fnOf "law" "law" (defArgs s_law) (defBody s_law) (defScope s_law) .none kV34 dc34 pm34 an34 cd34 ct34, [(cc20, tp20)], spLaw K tp20, fun p hp => (by rcases cs_mem p hp with rfl; (· exact r20.2)), fun p hp => (by rcases cs_mem p hp with rfl; (· exact np20)), fun p hp => (by rcases cs_mem p hp with rfl; (· exact r20.1)), fun s v => .of_eq rfl, fun H a ns hl _ hT hS => ⟨a, ns, rfl, hS, hl, ⟨#[], hT (cc20, tp20) (by simp), trivial⟩, fun _ => rfl⟩, fun base _ _ TB => ?_⟩
  have TB20 : GxR.TabB base mg cc20 tp20 := let t := TB (cc20, tp20) (by simp); ⟨t.code, t.bm, t.gP⟩
  have F_is_whole : Fn l.prog w K mg base "is_whole" ["thing", "least", "most"] CX0 1 _ := ⟨f17, _, ok_is_whole B  F17, PySem.W.mg_of X G a17, k17, b17⟩
  have F_added_reach : Fn l.prog w K mg base "added_reach" ["many", "pace", "gain"] CX0 1 _ := ⟨f22, _, ok_added_reach B  F22, PySem.W.mg_of X G a22, k22, b22⟩
  have F__law_wide : Fn l.prog w K mg base "_law_wide" ["_law_cell", "_law_k"] CX0 1 _ := ⟨f24, _, ok__law_wide B  F24, PySem.W.mg_of X G a24, k24, b24⟩
  have F__law_rate : Fn l.prog w K mg base "_law_rate" ["_law_number"] CX0 1 _ := ⟨f25, _, ok__law_rate B  F25, PySem.W.mg_of X G a25, k25, b25⟩
  have F__law_reach : Fn l.prog w K mg base "_law_reach" ["_law_many", "_law_pace", "_law_gain"] CX0 1 _ := ⟨f26, _, ok__law_reach B  F26, PySem.W.mg_of X G a26, k26, b26⟩
  have F__law_class : Fn l.prog w K mg base "_law_class" ["_law_e"] CX0 1 _ := ⟨f27, _, ok__law_class B EE  F27, PySem.W.mg_of X G a27, k27, b27⟩
  have F__law_fallen : Fn l.prog w K mg base "_law_fallen" ["_law_step", "_law_gain"] CX0 1 _ := ⟨f29, _, ok__law_fallen B  F29, PySem.W.mg_of X G a29, k29, b29⟩
  have F__law_odd : Fn l.prog w K mg base "_law_odd" ["_law_number", "_law_most"] CX0 1 _ := ⟨f30, _, ok__law_odd B  F30, PySem.W.mg_of X G a30, k30, b30⟩
  have F_need_whole : Fn l.prog w K mg base "need_whole" ["thing", "least", "most", "what"] (L2.CX l.prog w) 2 _ := ⟨f18, _, ok_need_whole B EE F_is_whole F18, PySem.W.mg_of X G a18, k18, b18⟩
  have F__law_is_whole_right : Fn l.prog w K mg base "_law_is_whole_right" ["_law_number"] CX0 2 _ := ⟨f32, _, ok__law_is_whole_right B F_is_whole F32, PySem.W.mg_of X G a32, k32, b32⟩
  have F_need_drive : Fn l.prog w K mg base "need_drive" ["pace", "gain"] (L2.CX l.prog w) 3 _ := ⟨f19, _, ok_need_drive B F_need_whole F19, PySem.W.mg_of X G a19, k19, b19⟩
  have F_braked : Fn l.prog w K mg base "braked" ["step", "gain"] (L2.CX l.prog w) 3 _ := ⟨f21, _, ok_braked B EE F_need_whole F21, PySem.W.mg_of X G a21, k21, b21⟩
  have F_reach : Fn l.prog w K mg base "reach" ["many", "pace", "gain"] (L2.CX l.prog w) 4 _ := ⟨f20, _, ok_reach B F_need_whole F_need_drive F_added_reach TB20 FT20, PySem.W.mg_of X G a20, k20, b20⟩
  have F__law_said : Fn l.prog w K mg base "_law_said" ["_law_way", "_law_one", "_law_other", "_law_third"] CX0 5 _ := ⟨f28, _, ok__law_said B EE F_reach F_braked F__law_class F28, PySem.W.mg_of X G a28, k28, b28⟩
  have F__law_refused : Fn l.prog w K mg base "_law_refused" ["_law_number", "_law_many", "_law_pace", "_law_gain"] CX0 6 _ := ⟨f31, _, ok__law_refused B F__law_odd F__law_said F31, PySem.W.mg_of X G a31, k31, b31⟩
  have F__law_right : Fn l.prog w K mg base "_law_right" ["_law_number", "_law_more"] CX0 7 _ := ⟨f33, _, ok__law_right B F__law_rate F_reach F_braked F__law_reach F__law_fallen F__law_said F__law_refused F__law_is_whole_right F33, PySem.W.mg_of X G a33, k33, b33⟩
  exact ok_law B F__law_wide F__law_right F34
end FW
open PySem PySem.W PyProof.Rows
set_option maxHeartbeats 0 in
theorem PySem.Challenge.cw_flywright_k01_reach_and_braked_holds : PySem.Challenge.rw_flywright_k01_reach_and_braked.Holds := by
  w_on; o_law; k_head; (case hw => w_witness2)
  k_fill
  refine L2.walk_ofTX (l := PySem.Challenge.rw_flywright_k01_reach_and_braked) (n := 63) (k := 8) (x := "_law_script") rfl (by decide) rfl ⟨rfl, by decide, by decide⟩ (fun w h Y => PySem.W.kIn_of Y) ?F
  case F =>
    intro w mg fa h KX G XX TT hmg
    refine' FW.all_mk KX G hmg (fun c P ht => TT "reach" c P (by decide +kernel) ht) ?a17 ?l17 ?c17 ?k17 ?a22 ?l22 ?c22 ?k22 ?a24 ?l24 ?c24 ?k24 ?a25 ?l25 ?c25 ?k25 ?a26 ?l26 ?c26 ?k26 ?a27 ?l27 ?c27 ?k27 ?a29 ?l29 ?c29 ?k29 ?a30 ?l30 ?c30 ?k30 ?a18 ?l18 ?c18 ?k18 ?a32 ?l32 ?c32 ?k32 ?a19 ?l19 ?c19 ?k19 ?a21 ?l21 ?c21 ?k21 ?a20 ?l20 ?c20 ?k20 ?m20 ?v20 ?np20 ?a28 ?l28 ?c28 ?k28 ?a31 ?l31 ?c31 ?k31 ?a33 ?l33 ?c33 ?k33 ?a34 ?l34 ?c34 ?k34 ?z_isinstance ?z_int ?z_bool ?z_range ?z_min ?z_sum ?z_len ?z_list ?z_enumerate ?z_ValueError ?q_StageError ?q_BadNumber ?q_BadName ?q_BadStage ?q_BadSheet ?q_TooLong ?q_Busy ?q_TooNear ?q_Stopped ?q_NotStopped ?q_Moving ?q_NoCue ?q_BadRow ?i_StageError ?y_StageError ?i_BadNumber ?y_BadNumber ?i_BadName ?y_BadName ?i_BadStage ?y_BadStage ?i_BadSheet ?y_BadSheet ?i_TooLong ?y_TooLong ?i_Busy ?y_Busy ?i_TooNear ?y_TooNear ?i_Stopped ?y_Stopped ?i_NotStopped ?y_NotStopped ?i_Moving ?y_Moving ?i_NoCue ?y_NoCue ?i_BadRow ?y_BadRow ?sbS ?x_BadNumber_xin ?x_BadNumber_kp ?x_BadNumber_sb ?x_BadNumber_ty ?x_BadNumber_hg ?x_BadNumber_hk ?x_BadNumber_hd ?x_BadNumber_ha ?x_BadNumber_hn ?x_BadNumber_ht ?x_BadNumber_hm ?x_BadNumber_v ?x_BadNumber_u_StageError ?x_BadNumber_u_BadNumber ?x_BadNumber_u_BadName ?x_BadNumber_u_BadStage ?x_BadNumber_u_BadSheet ?x_BadNumber_u_TooLong ?x_BadNumber_u_Busy ?x_BadNumber_u_TooNear ?x_BadNumber_u_Stopped ?x_BadNumber_u_NotStopped ?x_BadNumber_u_Moving ?x_BadNumber_u_NoCue ?x_BadNumber_u_BadRow ?x_TooLong_xin ?x_TooLong_kp ?x_TooLong_sb ?x_TooLong_ty ?x_TooLong_hg ?x_TooLong_hk ?x_TooLong_hd ?x_TooLong_ha ?x_TooLong_hn ?x_TooLong_ht ?x_TooLong_hm ?x_TooLong_v ?x_TooLong_u_StageError ?x_TooLong_u_BadNumber ?x_TooLong_u_BadName ?x_TooLong_u_BadStage ?x_TooLong_u_BadSheet ?x_TooLong_u_TooLong ?x_TooLong_u_Busy ?x_TooLong_u_TooNear ?x_TooLong_u_Stopped ?x_TooLong_u_NotStopped ?x_TooLong_u_Moving ?x_TooLong_u_NoCue ?x_TooLong_u_BadRow ?z_MOST_STEPS ?z_MOST_PACE
    (case a17 => k_is)
    (case l17 => k_is)
    (case c17 => k_is)
    (case k17 => k_is)
    (case a22 => k_is)
    (case l22 => k_is)
    (case c22 => k_is)
    (case k22 => k_is)
    (case a24 => k_is)
    (case l24 => k_is)
    (case c24 => k_is)
    (case k24 => k_is)
    (case a25 => k_is)
    (case l25 => k_is)
    (case c25 => k_is)
    (case k25 => k_is)
    (case a26 => k_is)
    (case l26 => k_is)
    (case c26 => k_is)
    (case k26 => k_is)
    (case a27 => k_is)
    (case l27 => k_is)
    (case c27 => k_is)
    (case k27 => k_is)
    (case a29 => k_is)
    (case l29 => k_is)
    (case c29 => k_is)
    (case k29 => k_is)
    (case a30 => k_is)
    (case l30 => k_is)
    (case c30 => k_is)
    (case k30 => k_is)
    (case a18 => k_is)
    (case l18 => k_is)
    (case c18 => k_is)
    (case k18 => k_is)
    (case a32 => k_is)
    (case l32 => k_is)
    (case c32 => k_is)
    (case k32 => k_is)
    (case a19 => k_is)
    (case l19 => k_is)
    (case c19 => k_is)
    (case k19 => k_is)
    (case a21 => k_is)
    (case l21 => k_is)
    (case c21 => k_is)
    (case k21 => k_is)
    (case a20 => k_is)
    (case l20 => k_is)
    (case c20 => k_is)
    (case k20 => k_is)
    (case m20 => k_is)
    (case v20 => rfl)
    (case np20 => first | k_is | rfl)
    (case a28 => k_is)
    (case l28 => k_is)
    (case c28 => k_is)
    (case k28 => k_is)
    (case a31 => k_is)
    (case l31 => k_is)
    (case c31 => k_is)
    (case k31 => k_is)
    (case a33 => k_is)
    (case l33 => k_is)
    (case c33 => k_is)
    (case k33 => k_is)
    (case a34 => k_is)
    (case l34 => k_is)
    (case c34 => k_is)
    (case k34 => k_is)
    (case z_isinstance => k_is)
    (case z_int => k_is)
    (case z_bool => k_is)
    (case z_range => k_is)
    (case z_min => k_is)
    (case z_sum => k_is)
    (case z_len => k_is)
    (case z_list => k_is)
    (case z_enumerate => k_is)
    (case z_ValueError => k_is)
    (case q_StageError => k_is)
    (case q_BadNumber => k_is)
    (case q_BadName => k_is)
    (case q_BadStage => k_is)
    (case q_BadSheet => k_is)
    (case q_TooLong => k_is)
    (case q_Busy => k_is)
    (case q_TooNear => k_is)
    (case q_Stopped => k_is)
    (case q_NotStopped => k_is)
    (case q_Moving => k_is)
    (case q_NoCue => k_is)
    (case q_BadRow => k_is)
    (case i_StageError => k_is)
    (case y_StageError => k_is)
    (case i_BadNumber => k_is)
    (case y_BadNumber => k_is)
    (case i_BadName => k_is)
    (case y_BadName => k_is)
    (case i_BadStage => k_is)
    (case y_BadStage => k_is)
    (case i_BadSheet => k_is)
    (case y_BadSheet => k_is)
    (case i_TooLong => k_is)
    (case y_TooLong => k_is)
    (case i_Busy => k_is)
    (case y_Busy => k_is)
    (case i_TooNear => k_is)
    (case y_TooNear => k_is)
    (case i_Stopped => k_is)
    (case y_Stopped => k_is)
    (case i_NotStopped => k_is)
    (case y_NotStopped => k_is)
    (case i_Moving => k_is)
    (case y_Moving => k_is)
    (case i_NoCue => k_is)
    (case y_NoCue => k_is)
    (case i_BadRow => k_is)
    (case y_BadRow => k_is)
    (case sbS => k_is)
    (case x_BadNumber_xin => k_exc)
    (case x_BadNumber_kp => k_is)
    (case x_BadNumber_sb => k_is)
    (case x_BadNumber_ty => k_is)
    (case x_BadNumber_hg => k_is)
    (case x_BadNumber_hk => k_is)
    (case x_BadNumber_hd => k_is)
    (case x_BadNumber_ha => k_is)
    (case x_BadNumber_hn => k_is)
    (case x_BadNumber_ht => k_is)
    (case x_BadNumber_hm => k_is)
    (case x_BadNumber_v => k_is)
    (case x_BadNumber_u_StageError => first | rfl | k_is)
    (case x_BadNumber_u_BadNumber => first | rfl | k_is)
    (case x_BadNumber_u_BadName => first | rfl | k_is)
    (case x_BadNumber_u_BadStage => first | rfl | k_is)
    (case x_BadNumber_u_BadSheet => first | rfl | k_is)
    (case x_BadNumber_u_TooLong => first | rfl | k_is)
    (case x_BadNumber_u_Busy => first | rfl | k_is)
    (case x_BadNumber_u_TooNear => first | rfl | k_is)
    (case x_BadNumber_u_Stopped => first | rfl | k_is)
    (case x_BadNumber_u_NotStopped => first | rfl | k_is)
    (case x_BadNumber_u_Moving => first | rfl | k_is)
    (case x_BadNumber_u_NoCue => first | rfl | k_is)
    (case x_BadNumber_u_BadRow => first | rfl | k_is)
    (case x_TooLong_xin => k_exc)
    (case x_TooLong_kp => k_is)
    (case x_TooLong_sb => k_is)
    (case x_TooLong_ty => k_is)
    (case x_TooLong_hg => k_is)
    (case x_TooLong_hk => k_is)
    (case x_TooLong_hd => k_is)
    (case x_TooLong_ha => k_is)
    (case x_TooLong_hn => k_is)
    (case x_TooLong_ht => k_is)
    (case x_TooLong_hm => k_is)
    (case x_TooLong_v => k_is)
    (case x_TooLong_u_StageError => first | rfl | k_is)
    (case x_TooLong_u_BadNumber => first | rfl | k_is)
    (case x_TooLong_u_BadName => first | rfl | k_is)
    (case x_TooLong_u_BadStage => first | rfl | k_is)
    (case x_TooLong_u_BadSheet => first | rfl | k_is)
    (case x_TooLong_u_TooLong => first | rfl | k_is)
    (case x_TooLong_u_Busy => first | rfl | k_is)
    (case x_TooLong_u_TooNear => first | rfl | k_is)
    (case x_TooLong_u_Stopped => first | rfl | k_is)
    (case x_TooLong_u_NotStopped => first | rfl | k_is)
    (case x_TooLong_u_Moving => first | rfl | k_is)
    (case x_TooLong_u_NoCue => first | rfl | k_is)
    (case x_TooLong_u_BadRow => first | rfl | k_is)
    (case z_MOST_STEPS => k_is)
    (case z_MOST_PACE => exact L2.loose_int XX (by simp))

