import PyProof.Rows.All
import Wide.All
import OpenK.AllK
import Wide.FinOn
import PySem.Challenge.RW_flywright_k02_whole_steps_of_moves
import HandS.ForMost
import HandS.Evl
import HandS.Wide
import HandS.Flt
import HandS.IsInst
import HandS.Walk
set_option Elab.async false
set_option linter.all false
set_option maxRecDepth 100000
set_option maxHeartbeats 4000000
namespace FW
/-- the sum of f 0 .. f (n - 1) -/
def S (f : Nat → Int) : Nat → Int
  | 0 => 0
  | n + 1 => S f n + f n
def tri : Nat → Int
  | 0 => 0
  | n + 1 => tri n + ((n : Int) + 1)
theorem S_le {f g : Nat → Int} : ∀ {n : Nat}, (∀ i, i < n → f i ≤ g i) → S f n ≤ S g n
  | 0, _ => Int.le_refl _
  | n + 1, h => by
    have h1 := S_le (n := n) (fun i hi => h i (by omega))
    have h2 := h n (by omega)
    show S f n + f n ≤ S g n + g n
    omega
theorem S_congr {f g : Nat → Int} {n : Nat} (h : ∀ i, i < n → f i = g i) : S f n = S g n :=
  Int.le_antisymm (S_le fun i hi => Int.le_of_eq (h i hi)) (S_le fun i hi => Int.le_of_eq (h i hi).symm)
theorem S_first (f : Nat → Int) : ∀ n : Nat, S f (n + 1) = f 0 + S (fun i => f (i + 1)) n
  | 0 => by
    show 0 + f 0 = f 0 + 0
    omega
  | n + 1 => by
    have h := S_first f n
    show S f (n + 1) + f (n + 1) = f 0 + (S (fun i => f (i + 1)) n + f (n + 1))
    omega
theorem S_ones : ∀ n : Nat, S (fun _ => 1) n = n
  | 0 => rfl
  | n + 1 => by
    have h := S_ones n
    show S (fun _ => 1) n + 1 = ((n + 1 : Nat) : Int)
    omega
theorem tri_two : ∀ n : Nat, 2 * tri n = (n : Int) * ((n : Int) + 1)
  | 0 => rfl
  | n + 1 => by
    have h := tri_two n
    show 2 * (tri n + ((n : Int) + 1)) = ((n + 1 : Nat) : Int) * (((n + 1 : Nat) : Int) + 1)
    have e1 : ((n + 1 : Nat) : Int) = (n : Int) + 1 := by omega
    rw [e1, Int.mul_add, h]
    generalize (n : Int) = z
    have e2 : (z + 1) * (z + 1 + 1) = z * (z + 1) + (z + 1) + (z + 1) := by
      simp only [Int.add_mul, Int.mul_add]
      omega
    rw [e2]
    omega
theorem tri_sq (n : Nat) : tri n + tri (n + 1) = ((n : Int) + 1) * ((n : Int) + 1) := by
  have h := tri_two n
  show tri n + (tri n + ((n : Int) + 1)) = _
  generalize (n : Int) = z at *
  have e : (z + 1) * (z + 1) = z * (z + 1) + (z + 1) := by
    simp only [Int.add_mul, Int.mul_add]
    omega
  omega
theorem tri_nn : ∀ n : Nat, 0 ≤ tri n
  | 0 => Int.le_refl _
  | n + 1 => by
    have h := tri_nn n
    show 0 ≤ tri n + ((n : Int) + 1)
    omega
/-- G (n - 0) + G (n - 1) + .. + G 1 -/
theorem S_down (G : Int) : ∀ n : Nat, S (fun i => G * ((n : Int) - (i : Int))) n = G * tri n
  | 0 => by
    show (0 : Int) = G * 0
    omega
  | n + 1 => by
    have h := S_down G n
    rw [S_first]
    have e : S (fun i => G * (((n + 1 : Nat) : Int) - ((i + 1 : Nat) : Int))) n = S (fun i => G * ((n : Int) - (i : Int))) n := S_congr fun i _ => by
      have e1 : ((n + 1 : Nat) : Int) - ((i + 1 : Nat) : Int) = (n : Int) - (i : Int) := by omega
      rw [e1]
    rw [e, h]
    show G * (((n + 1 : Nat) : Int) - ((0 : Nat) : Int)) + G * tri n = G * (tri n + ((n : Int) + 1))
    have e2 : ((n + 1 : Nat) : Int) - ((0 : Nat) : Int) = (n : Int) + 1 := by omega
    rw [e2, Int.mul_add G (tri n)]
    omega
/-- (x - G) + (x - 2 G) + .. + (x - n G) -/
theorem S_fall (G x : Int) : ∀ n : Nat, S (fun i => x - G * ((i : Int) + 1)) n = x * (n : Int) - G * tri n
  | 0 => by
    show (0 : Int) = x * ((0 : Nat) : Int) - G * 0
    simp
  | n + 1 => by
    have h := S_fall G x n
    show S (fun i => x - G * ((i : Int) + 1)) n + (x - G * ((n : Int) + 1)) = x * ((n + 1 : Nat) : Int) - G * (tri n + ((n : Int) + 1))
    have e1 : ((n + 1 : Nat) : Int) = (n : Int) + 1 := by omega
    rw [h, e1, Int.mul_add G (tri n), Int.mul_add x]
    omega

/-- the greatest sum of m steps behind a step s -/
def top (P G s : Int) (m i : Nat) : Int := min (min P (s + G * ((i : Int) + 1))) (G * ((m : Int) - (i : Int)))
def U (P G s : Int) (m : Nat) : Int := S (top P G s m) m
section
variable {P G s L : Int}
theorem pos_mul {a b : Int} (ha : 1 ≤ a) (hb : 1 ≤ b) : 1 ≤ a * b := by
  have h : 0 < a * b := Int.mul_pos (by omega) (by omega)
  omega
theorem U_ge (hP : 1 ≤ P) (hG : 1 ≤ G) (hs : 0 ≤ s) (m : Nat) : (m : Int) ≤ U P G s m := by
  rw [← S_ones m]
  refine S_le fun i hi => ?_
  have h1 : 1 ≤ G * ((i : Int) + 1) := pos_mul hG (by omega)
  have h2 : 1 ≤ G * ((m : Int) - (i : Int)) := pos_mul hG (by omega)
  unfold top
  omega
theorem U_le_tri (m : Nat) : U P G s m ≤ G * tri m := by
  rw [← S_down G m]
  refine S_le fun i _ => ?_
  unfold top
  omega
/-- what holds with m steps to go, behind a step s, L still to be gone -/
structure Go (P G s : Int) (m : Nat) (L : Int) : Prop where
  s0 : 0 ≤ s
  sP : s ≤ P
  most : L ≤ U P G s m
  fewest : ∀ b, m = b + 1 → U P G s b < L
  least : s * (m : Int) - G * tri m ≤ L
def next (P G s : Int) (b : Nat) (L : Int) : Int := min (min P (s + G)) ((L + G * tri b) / ((b : Int) + 1))
structure Good (P G s : Int) (b : Nat) (L x : Int) : Prop where
  x1 : 1 ≤ x
  xP : x ≤ P
  up : x ≤ s + G
  down : s - G ≤ x
  end_ : x ≤ G * ((b : Int) + 1)
  great : x = P ∨ x = s + G ∨ L < (x + 1) * ((b : Int) + 1) - G * tri b
  go : Go P G x b (L - x)
theorem le_of_mul {a b c : Int} (hc : 0 < c) (h : a * c ≤ b * c) : a ≤ b := Int.le_of_mul_le_mul_right h hc
theorem next_good (hP : 1 ≤ P) (hG : 1 ≤ G) {b : Nat} (I : Go P G s (b + 1) L) : Good P G s b L (next P G s b L) := by
  obtain ⟨s0, sP, most, fewest, least⟩ := I
  have few := fewest b rfl
  have hm : (0 : Int) < (b : Int) + 1 := by omega
  have q1 : (L + G * tri b) / ((b : Int) + 1) * ((b : Int) + 1) ≤ L + G * tri b := Int.ediv_mul_le _ (by omega)
  have q2 : L + G * tri b < ((L + G * tri b) / ((b : Int) + 1) + 1) * ((b : Int) + 1) := Int.lt_ediv_add_one_mul_self _ hm
  have qge : ∀ z : Int, z * ((b : Int) + 1) ≤ L + G * tri b → z ≤ (L + G * tri b) / ((b : Int) + 1) := fun z hz => (Int.le_ediv_iff_mul_le hm).mpr hz
  have hx : next P G s b L = min (min P (s + G)) ((L + G * tri b) / ((b : Int) + 1)) := rfl
  generalize (L + G * tri b) / ((b : Int) + 1) = q at *
  generalize next P G s b L = x at *
  have xq : x ≤ q := by omega
  have xP : x ≤ P := by omega
  have xs : x ≤ s + G := by omega
  have eT : tri (b + 1) = tri b + ((b : Int) + 1) := rfl
  have GT : G * tri (b + 1) = G * tri b + G * ((b : Int) + 1) := by rw [eT, Int.mul_add]
  have tnn := tri_nn b
  have Gt : 0 ≤ G * tri b := Int.mul_nonneg (by omega) tnn
  have xm : x * ((b : Int) + 1) ≤ L + G * tri b := Int.le_trans (Int.mul_le_mul_of_nonneg_right xq (by omega)) q1
  have ub := U_ge hP hG s0 b
  have lo1 : 1 ≤ q := qge 1 (by omega)
  have x1 : 1 ≤ x := by omega
  have cb : ((b + 1 : Nat) : Int) = (b : Int) + 1 := by omega
  rw [cb] at least
  have lo2 : s - G ≤ q := qge _ (by
    rw [Int.sub_mul]
    rw [GT] at least
    omega)
  have uT : U P G s (b + 1) ≤ G * tri (b + 1) := U_le_tri _
  have sq := tri_sq b
  have Gsq : G * tri b + G * tri (b + 1) = G * ((b : Int) + 1) * ((b : Int) + 1) := by
    rw [← Int.mul_add, sq, Int.mul_assoc]
  have xe : x ≤ G * ((b : Int) + 1) := le_of_mul hm (by omega)
  have xb : x * ((b : Int) + 1) = x * (b : Int) + x := by rw [Int.mul_add, Int.mul_one]
  refine ⟨x1, xP, xs, by omega, xe, ?_, ?_⟩
  · by_cases h1 : x = P
    · exact .inl h1
    · by_cases h2 : x = s + G
      · exact .inr (.inl h2)
      · have e : x = q := by omega
        subst e
        exact .inr (.inr (by omega))
  · refine ⟨by omega, xP, ?_, ?_, by omega⟩
    · by_cases h : x = P ∨ x = s + G
      · -- the first two
        have e1 : U P G s (b + 1) = top P G s (b + 1) 0 + S (fun i => top P G s (b + 1) (i + 1)) b := S_first _ _
        have e2 : top P G s (b + 1) 0 ≤ x := by
          unfold top
          have : s + G * (((0 : Nat) : Int) + 1) = s + G := by simp
          omega
        have e3 : S (fun i => top P G s (b + 1) (i + 1)) b ≤ U P G x b := S_le fun i hi => by
          unfold top
          have c1 : ((b + 1 : Nat) : Int) - ((i + 1 : Nat) : Int) = (b : Int) - (i : Int) := by omega
          have c2 : ((i + 1 : Nat) : Int) + 1 = ((i : Int) + 1) + 1 := by omega
          rw [c1, c2, Int.mul_add G ((i : Int) + 1) 1, Int.mul_one]
          have p1 : 1 ≤ G * ((i : Int) + 1) := pos_mul hG (by omega)
          omega
        omega
      · have e : x = q := by omega
        subst e
        have ex : (x + 1) * ((b : Int) + 1) = x * (b : Int) + x + ((b : Int) + 1) := by
          rw [Int.add_mul, Int.one_mul, xb]
        by_cases hl : x = G * ((b : Int) + 1)
        · have e1 : G * tri b ≤ U P G x b := by
            rw [← S_down G b]
            refine S_le fun i hi => ?_
            unfold top
            have m1 : G * ((b : Int) - (i : Int)) ≤ G * ((b : Int) + 1) := Int.mul_le_mul_of_nonneg_left (by omega) (by omega)
            have p1 : 1 ≤ G * ((i : Int) + 1) := pos_mul hG (by omega)
            omega
          omega
        · have e1 : (x + 1) * (b : Int) - G * tri b ≤ U P G x b := by
            rw [← S_fall G (x + 1) b]
            refine S_le fun i hi => ?_
            unfold top
            have p1 : 1 ≤ G * ((i : Int) + 1) := pos_mul hG (by omega)
            have c : G * ((b : Int) - (i : Int)) = G * ((b : Int) + 1) - G * ((i : Int) + 1) := by
              rw [← Int.mul_sub]
              congr 1
              omega
            omega
          rw [Int.add_mul, Int.one_mul] at e1
          omega
    · intro c hc
      subst hc
      have cb2 : ((c + 1 : Nat) : Int) = (c : Int) + 1 := by omega
      have xc : x * ((c + 1 : Nat) : Int) = x * ((c : Int) + 1) := by rw [cb2]
      by_cases hl : x ≤ G * ((c : Int) + 1)
      · have e1 : U P G s (c + 1) = top P G s (c + 1) 0 + S (fun i => top P G s (c + 1) (i + 1)) c := S_first _ _
        have e2 : x ≤ top P G s (c + 1) 0 := by
          unfold top
          have c1 : s + G * (((0 : Nat) : Int) + 1) = s + G := by simp
          have c2 : ((c + 1 : Nat) : Int) - ((0 : Nat) : Int) = (c : Int) + 1 := by omega
          rw [c1, c2]
          omega
        have e3 : U P G x c ≤ S (fun i => top P G s (c + 1) (i + 1)) c := S_le fun i hi => by
          unfold top
          have c1 : ((c + 1 : Nat) : Int) - ((i + 1 : Nat) : Int) = (c : Int) - (i : Int) := by omega
          have c2 : ((i + 1 : Nat) : Int) + 1 = ((i : Int) + 1) + 1 := by omega
          rw [c1, c2, Int.mul_add G ((i : Int) + 1) 1, Int.mul_one]
          omega
        omega
      · have u2 : U P G x c ≤ G * tri c := U_le_tri _
        have sq2 := tri_sq c
        have Gsq2 : G * tri c + G * tri (c + 1) = G * ((c : Int) + 1) * ((c : Int) + 1) := by
          rw [← Int.mul_add, sq2, Int.mul_assoc]
        have xl : (G * ((c : Int) + 1) + 1) * ((c : Int) + 1) ≤ x * ((c : Int) + 1) := Int.mul_le_mul_of_nonneg_right (by omega) (by omega)
        rw [Int.add_mul, Int.one_mul] at xl
        omega
/-- the row of steps -/
def row (P G : Int) : Nat → Int → Int → List Int
  | 0, _, _ => []
  | b + 1, s, L => next P G s b L :: row P G b (next P G s b L) (L - next P G s b L)
theorem row_len : ∀ (m : Nat) (s L : Int), (row P G m s L).length = m
  | 0, _, _ => rfl
  | b + 1, s, L => by
    show (row P G b _ _).length + 1 = b + 1
    rw [row_len b]
theorem Go.zero (I : Go P G s 0 L) : L = 0 := by
  have h1 := I.most
  have h2 := I.least
  have e1 : U P G s 0 = 0 := rfl
  have e2 : s * ((0 : Nat) : Int) - G * tri 0 = 0 := by
    show s * 0 - G * 0 = 0
    omega
  omega
theorem row_sum (hP : 1 ≤ P) (hG : 1 ≤ G) : ∀ (m : Nat) (s L : Int), Go P G s m L → (row P G m s L).sum = L
  | 0, s, L, I => by
    rw [I.zero]
    rfl
  | b + 1, s, L, I => by
    have g := next_good hP hG I
    have ih := row_sum hP hG b _ _ g.go
    show (next P G s b L :: row P G b _ _).sum = L
    rw [List.sum_cons, ih]
    omega
/-! ### the reach -/
/-- by the middle: f 1, f 1, f 2, f 2, .. -/
theorem S_mid : ∀ (n : Nat) (f : Nat → Int), S (fun i => f (min (i + 1) (n - i))) n = S (fun j => f ((j + 2) / 2)) n
  | 0, _ => rfl
  | 1, f => rfl
  | n + 2, f => by
    have ih := S_mid n (fun k => f (k + 1))
    have e1 : S (fun i => f (min (i + 1) (n + 2 - i))) (n + 2) = f 1 + S (fun i => f (min (i + 1) (n - i) + 1)) n + f 1 := by
      show S (fun i => f (min (i + 1) (n + 2 - i))) (n + 1) + f (min (n + 1 + 1) (n + 2 - (n + 1))) = _
      rw [S_first]
      have a1 : min (n + 1 + 1) (n + 2 - (n + 1)) = 1 := by omega
      have a2 : min (0 + 1) (n + 2 - 0) = 1 := by omega
      rw [a1, a2]
      have a3 : S (fun i => f (min (i + 1 + 1) (n + 2 - (i + 1)))) n = S (fun i => f (min (i + 1) (n - i) + 1)) n := S_congr fun i hi => by
        congr 1
        omega
      rw [a3]
    have e2 : S (fun j => f ((j + 2) / 2)) (n + 2) = f 1 + (f 1 + S (fun j => f ((j + 2) / 2 + 1)) n) := by
      rw [S_first, S_first]
      have a3 : S (fun i => f ((i + 1 + 1 + 2) / 2)) n = S (fun j => f ((j + 2) / 2 + 1)) n := S_congr fun i hi => by
        congr 1
        omega
      rw [a3]
    rw [e1, e2, ih]
    omega
/-- what one more step adds -/
def added (P G : Int) (j : Nat) : Int := min P (G * (((j : Int) + 1) / 2))
theorem U_reach (P G : Int) (hP : 0 ≤ P) (hG : 0 ≤ G) (n : Nat) : U P G 0 n = S (added P G) (n + 1) := by
  rw [S_first]
  have a0 : added P G 0 = 0 := by
    unfold added
    show min P (G * ((0 + 1) / 2)) = 0
    have : ((0 : Int) + 1) / 2 = 0 := by decide
    rw [this]
    omega
  rw [a0, Int.zero_add]
  have e1 : U P G 0 n = S (fun i => (fun k : Nat => min P (G * (k : Int))) (min (i + 1) (n - i))) n := S_congr fun i hi => by
    unfold top
    show min (min P (0 + G * ((i : Int) + 1))) (G * ((n : Int) - (i : Int))) = min P (G * ((min (i + 1) (n - i) : Nat) : Int))
    by_cases h : i + 1 ≤ n - i
    · have c : min (i + 1) (n - i) = i + 1 := by omega
      have m1 : G * ((i : Int) + 1) ≤ G * ((n : Int) - (i : Int)) := Int.mul_le_mul_of_nonneg_left (by omega) hG
      rw [c]
      have c2 : ((i + 1 : Nat) : Int) = (i : Int) + 1 := by omega
      rw [c2]
      omega
    · have c : min (i + 1) (n - i) = n - i := by omega
      have m1 : G * ((n : Int) - (i : Int)) ≤ G * ((i : Int) + 1) := Int.mul_le_mul_of_nonneg_left (by omega) hG
      rw [c]
      have c2 : ((n - i : Nat) : Int) = (n : Int) - (i : Int) := by omega
      rw [c2]
      omega
  rw [e1]
  refine (S_mid n (fun k : Nat => min P (G * (k : Int)))).trans ?_
  refine S_congr fun i _ => ?_
  unfold added
  show min P (G * (((i + 2) / 2 : Nat) : Int)) = min P (G * ((((i + 1 : Nat) : Int) + 1) / 2))
  have c : (((i + 2) / 2 : Nat) : Int) = (((i + 1 : Nat) : Int) + 1) / 2 := by omega
  rw [c]
theorem go_start (hP : 1 ≤ P) (hG : 1 ≤ G) {n : Nat} {d : Int} (hd : 0 ≤ d) (h1 : d ≤ U P G 0 n) (h2 : ∀ b, n = b + 1 → U P G 0 b < d) : Go P G 0 n d := by
  refine ⟨Int.le_refl _, by omega, h1, h2, ?_⟩
  have t := Int.mul_nonneg (show (0 : Int) ≤ G by omega) (tri_nn n)
  rw [Int.zero_mul]
  omega
end
end FW
/-! ### the layer of this hand: own defs by one fact each, constants of the top, the law's end with the loose names -/
namespace L2
open PySem PySem.Spec PyProof.Rows
/-- the def of the top called x keeps the promise sp -/
def Fn (P : Program) (w : World) (K : PySem.W.Frag) (mg : Str → Option Value) (base : Heap) (x : Str) (ps : List Str) (CX : CXT) (k : Nat) (sp : Sp) : Prop :=
  ∃ (f : Addr) (fd : FuncData), FnOk P w K mg base CX k f fd ps sp ∧ mg x = some (.ref f) ∧ PySem.W.keepIn K (.ref f) = true ∧ Binds K fd ps []
section
variable {X : Cx} {k : Nat} {ps : List Str} {sp : Sp} {x : Str} {p pos : Pos} {e : Expr} {es : List Expr} {t : TA} {ps : List Str}
theorem pe_fn (F : Fn X.prog X.w X.K X.mg X.base x ps CX0 k sp) (hr : Room k X.A) (ha : PA X (e :: es) t) (hg : Gl X x := by rfl) (hdb : (x == ("__debug__" : Str)) = false := by decide)
    (he : starEach (e :: es) X.env = (false, eval e X.env) :: starEach es X.env := by rfl) (hpl : (backTo pos (starEach es X.env)).any (·.1) = false := by rfl) :
    PE X (.Call (.Name x p) (e :: es) [] pos) (tCall sp [] E0 t) := by
  obtain ⟨f, fd, h1, h2, h3, h4⟩ := F
  exact pe_call h1 hr hg h2 h3 h4 .nil pass0 ha hdb he hpl
theorem pe_gint {i : Int} (h : ∃ t, X.mg x = some (.int i t)) (hg : Gl X x := by rfl) (hd : (x == ("__debug__" : Str)) = false := by decide) : PE X (.Name x pos) (tC (.int i)) := by
  obtain ⟨t, e⟩ := h
  exact pe_glob hg e ⟨_, rfl⟩ hd
end
theorem walk_ofX {l : PySem.W.OpenLaw} {n k : Nat} {q : Program} {loose : List Str} {XP : (Str → Option Value) → Heap → Prop} {YP : World → Heap → Prop} {d : DefRec} {K : Params → PySem.W.Frag} {sp : PySem.W.Frag → Sp} {x : Str}
    (hn : l.most = some n) (hn2 : n ≤ sizeLine) (hdf : d.params.defaults = []) (hr : Room k callerA)
    (hY : ∀ (w : World) (h : Heap), YP w h → (K w.params).In h)
    (F : ∀ (w : World) (mg : Str → Option Value) (fa : Addr) (h : Heap), (K w.params).In h → h.Ns mainGlobals mg → XP mg h → mg d.name = some (.ref fa) →
      ∃ fd : FuncData, (∀ (s : Shared) (u : Value), BindsTo s fd ⟨[u], []⟩ [(x, u)]) ∧
        ∀ base : Heap, (K w.params).In base → base.Ns mainGlobals mg → FnOk l.prog w (K w.params) mg base CX0 k fa fd [x] (sp (K w.params)))
    (hsp : ∀ (K : PySem.W.Frag) (H : Hp) (a : Addr) (ns : List Int), ns.length ≤ n → Only H → SqL K H a (ns.map V.int) → sp K [.ref a] H (fun v _ => v = .bl true) fun _ _ _ => False) :
    PySem.W.WalkO q loose XP YP l.row.toRowW d [] (fun f vs => PySem.call f vs) := by
  refine Att.attach_call hn hdf fun w s₀ s₁ mg mb fa o pm cd doc a vs ns G Y ho hd hcd hmg hobj hints hlen hg => ?_
  have KX := hY w _ Y
  obtain ⟨fd, hb, hF⟩ := F w mg fa _ KX G.T.g G.X hmg
  exact law_call KX G.T.g G.T.b G.T.builtins G.T.nolimit hg hobj hints (Nat.le_trans hlen hn2) hr hF hb (fun H hO hS => hsp (K w.params) H a ns hlen hO hS) fun H e s' z => z
theorem loose_int {lv : List (Str × PySem.W.WData)} {mg : Str → Option Value} {h : Heap} {q : Program} (X : PySem.W.XL q lv mg h) {x : Str} {i : Int} (hm : (x, PySem.W.WData.int i) ∈ lv) : ∃ t, mg x = some (.int i t) := by
  obtain ⟨v, e, r⟩ := X.2.val _ hm
  cases r
  exact ⟨_, e⟩
end L2
/-! ### readings, by what they come to -/
namespace L2
open PySem PySem.Spec PyProof.Rows Evl
theorem ex_upd {H : Hp} {p : Addr} {o : HO} (h : H p = none) : Ex H (upd H p o) := Ex.new h
theorem ifT {c : Bool} {A B : Prop} (hc : c = true) (h : A) : if c = true then A else B := by
  rw [if_pos hc]
  exact h
theorem ifF {c : Bool} {A B : Prop} (hc : c = false) (h : B) : if c = true then A else B := by
  rw [hc, if_neg Bool.false_ne_true]
  exact h
theorem cxK {CX : CXT} {P : Program} {w : World} {K : PySem.W.Frag} {mg : Str → Option Value} {base : Heap} {N : List Str} {q : Str} {sc : Scope} {f : Addr} {cdv : Value} {A : Around} {outer : List Env} {s : Shared} {H : Hp} {E : XK} :
    (cxOf CX P w K mg base N q sc f cdv A outer s H E).K = K := rfl
theorem isi_ty {K : PySem.W.Frag} {H : Hp} {x : V} {s n : String} {b : Bool} {Q : VK} (ht : TyX K H x (.type s)) (hk : kitB s n = some b) (q : Q (.bl b) H) : rIsi K [x, .ty n] H Q :=
  ⟨x, .ty n, .type s, .type n, b, rfl, .ty n, ht, kit_ty hk, q⟩
theorem isi_int {K : PySem.W.Frag} {H : Hp} {i : Int} {n : String} {b : Bool} {Q : VK} (hk : kitB "int" n = some b) (q : Q (.bl b) H) : rIsi K [.int i, .ty n] H Q := isi_ty (.base (.int i)) hk q
theorem min_if (a b : Int) : (if b < a then b else a) = min a b := by omega
theorem max_if (a b : Int) : (if b > a then b else a) = max a b := by omega
theorem min3_nu (a b c : Int) : nuMin3 (.int a) (.int b) (.int c) = some (.int (min (min a b) c)) := by
  unfold nuMin3 nuMin2 nuLt nuCB
  show (some (if decide (b < a) = true then V.int b else V.int a)).bind _ = _
  by_cases h : b < a
  · rw [decide_eq_true h, if_pos rfl, show min a b = b by omega]
    show some (if decide (c < b) = true then V.int c else V.int b) = _
    by_cases h2 : c < b
    · rw [decide_eq_true h2, if_pos rfl, show min b c = c by omega]
    · rw [decide_eq_false h2, if_neg Bool.false_ne_true, show min b c = b by omega]
  · rw [decide_eq_false h, if_neg Bool.false_ne_true, show min a b = a by omega]
    show some (if decide (c < a) = true then V.int c else V.int a) = _
    by_cases h2 : c < a
    · rw [decide_eq_true h2, if_pos rfl, show min a c = c by omega]
    · rw [decide_eq_false h2, if_neg Bool.false_ne_true, show min a c = a by omega]
theorem min3_eq {a b c : Int} {H : Hp} {Q : VK} : rNuC3 nuMin3 [.int a, .int b, .int c] H Q = Q (.int (min (min a b) c)) H := by
  refine propext ⟨fun h => ?_, fun q => ⟨_, _, _, _, rfl, min3_nu a b c, q⟩⟩
  obtain ⟨x, y, z, v, e, e2, q⟩ := h
  cases e
  rw [min3_nu] at e2
  cases e2
  exact q
theorem rEq_int {a b : Int} {H : Hp} {Q : VK} : rEq (.int a) (.int b) H Q = Q (.bl (decide (a = b))) H := by
  have e : decide (V.int a = V.int b) = decide (a = b) := by simp
  refine propext ⟨fun h => ?_, fun q => ⟨rfl, ?_⟩⟩
  · have h2 := h.2
    rw [e] at h2
    exact h2
  · rw [e]
    exact q
theorem rNe_int {a b : Int} {H : Hp} {Q : VK} : rNe (.int a) (.int b) H Q = Q (.bl (!decide (a = b))) H := by
  have e : decide (V.int a = V.int b) = decide (a = b) := by simp
  refine propext ⟨fun h => ?_, fun q => ⟨rfl, ?_⟩⟩
  · have h2 := h.2
    rw [e] at h2
    exact h2
  · rw [e]
    exact q
theorem ex_chg {H H' H'' : Hp} {l : Addr} (e : Ex H H') (hl : H l = none) (k : ∀ a, a ≠ l → H'' a = H' a) : Ex H H'' := fun a o h => by
  rw [k a (ne_of_none h hl)]
  exact e a o h
theorem cdw {i j : Int} (h : 0 < j) (h2 : j < 2 ^ 100) : CDivW i j := wide_div (b := 100) h (by omega) (by decide) (by decide)
theorem cmw {i j : Int} {a b : Nat} (hi : i.natAbs < 2 ^ a) (hj : j.natAbs < 2 ^ b) (h0 : 0 < a) (h1 : 0 < b) (h : a + b ≤ 1000000) : CMulW i j := wide_mul hi hj h0 h1 h
end L2
namespace L2
open PySem PySem.Spec PyProof.Rows Evl
/-- a loop over J -/
def LoopI (J : It) (g : TG) (tb : TS) (D : Ends) (σ : St) (H1 : Hp) : Prop := ∃ W : Nat → Nat → St → Hp → Prop, (∃ m, W 0 m σ H1) ∧ ∀ i m σ H, W i m σ H →
  (J.stop i H ∧ D.nx σ H) ∨ (J.go i H ∧ ∃ N : St → Hp → Prop, (∀ σ' H', N σ' H' → ∃ m', m' < m ∧ W (i + 1) m' σ' H') ∧ ∀ x H', J.yld i H x H' → g x σ H' fun σ2 H2 => tb { D with nx := N, ct := N, bk := D.nx } σ2 H2)
theorem tFor_eq {wi : TI} {g : TG} {tb : TS} {D : Ends} {σ : St} {H : Hp} : tFor wi g tb D σ H = wi σ H fun J H1 => LoopI J g tb D σ H1 := rfl
/-- a new object -/
def New (H : Hp) (o : HO) (R : Addr → Hp → Prop) : Prop := ∀ p, H p = none → R p (upd H p o)
theorem new_of {H : Hp} {o : HO} {R : Addr → Hp → Prop} (h : ∀ p H', H p = none → Ex H H' → H' p = some o → R p H') : New H o R := fun p np => h p _ np (Ex.new np) upd_same
/-- an object changes -/
def Chg (H : Hp) (l : Addr) (o : HO) (R : Hp → Prop) : Prop := R (upd H l o)
theorem chg_of {H : Hp} {l : Addr} {o : HO} {R : Hp → Prop} (h : ∀ H', (∀ a, a ≠ l → H' a = H a) → H' l = some o → R H') : Chg H l o R := h _ (fun _ ha => upd_ne ha) upd_same
theorem tLst_eq {t : TA} {σ : St} {H : Hp} {Q : VK} : tLst t σ H Q = t σ H fun xs H1 => xs.length ≤ sizeLine ∧ New H1 (.lst xs) fun p H2 => Q (.ref p) H2 := rfl
theorem tTup_eq {t : TA} {σ : St} {H : Hp} {Q : VK} : tTup t σ H Q = t σ H fun xs H1 => xs.length ≤ sizeLine ∧ New H1 (.tup xs) fun p H2 => Q (.ref p) H2 := rfl
theorem rCat_eq {x y : V} {H : Hp} {Q : VK} : rCat x y H Q = ∃ l b xs zs, x = .ref l ∧ y = .ref b ∧ H l = some (.lst xs) ∧ H b = some (.lst zs) ∧ xs.length + zs.length ≤ sizeLine ∧ New H (.lst (xs ++ zs)) fun p H2 => Q (.ref p) H2 := rfl
theorem rAppend_eq {x : V} {vs : List V} {H : Hp} {Q : VK} : rAppend x vs H Q = ∃ l xs y, x = .ref l ∧ vs = [y] ∧ H l = some (.lst xs) ∧ xs.length < sizeLine ∧ Chg H l (.lst (xs ++ [y])) fun H2 => Q .non H2 := rfl
/-- a comprehension over J, its list at Dl -/
def LcI (J : It) (g : TG) (tt : TT) (te : TE) (vs : List Nat) (σ : St) (H1 : Hp) (D : Addr) (Q : VK) : Prop := ∃ W : Nat → Nat → Hp → Prop, (∃ m, W 0 m (upd H1 D (.lst []))) ∧ ∀ i m H, W i m H →
  (J.stop i H ∧ Q (.ref D) H) ∨ (J.go i H ∧ ∃ Nx : Hp → Prop, (∀ H', Nx H' → ∃ m', m' < m ∧ W (i + 1) m' H') ∧ ∀ x H', J.yld i H x H' → g x (wipe σ vs) H' fun σ2 H2 => wipe σ2 vs = wipe σ vs ∧ tt σ2 H2 fun b H3 =>
    if b = true then te σ2 H3 fun y H4 => ∃ acc, H4 D = some (.lst acc) ∧ acc.length < sizeLine ∧ Nx (upd H4 D (.lst (acc ++ [y]))) else Nx H3)
theorem tLc_eq {wi : TI} {g : TG} {tt : TT} {te : TE} {vs : List Nat} {σ : St} {H : Hp} {Q : VK} : tLc wi g tt te vs σ H Q = wi σ H fun J H1 => ∀ D, H1 D = none → LcI J g tt te vs σ H1 D Q := rfl
section
variable {K : PySem.W.Frag} {a b : Addr} {xs ys : List V} {g : TG} {tb : TS} {D : Ends} {σ : St} {H : Hp}
theorem loop_range {lo : Int} {n : Nat} (Pv : Nat → St → Hp → Prop) (h0 : Pv 0 σ H) (hs : ∀ i σ H, i < n → Pv i σ H → g (.int (lo + i)) σ H fun σ2 H2 => tb { D with nx := Pv (i + 1), ct := Pv (i + 1), bk := D.nx } σ2 H2) (hd : ∀ σ H, Pv n σ H → D.nx σ H) :
    LoopI (Itr lo n) g tb D σ H := for_it walk_range Pv h0 (fun _ _ _ _ _ => trivial) (fun i x σ H H' hi p y => by obtain ⟨rfl, rfl⟩ := y; exact hs i σ _ hi p) hd
theorem loop_rangeC {lo c : Int} {n : Nat} (Pv : Nat → St → Hp → Prop) (h0 : Pv 0 σ H) (hs : ∀ i σ H, i < n → Pv i σ H → g (.int (lo + (i : Nat) * c)) σ H fun σ2 H2 => tb { D with nx := Pv (i + 1), ct := Pv (i + 1), bk := D.nx } σ2 H2) (hd : ∀ σ H, Pv n σ H → D.nx σ H) :
    LoopI (Itc lo c n) g tb D σ H := for_it walk_rangeC Pv h0 (fun _ _ _ _ _ => trivial) (fun i x σ H H' hi p y => by obtain ⟨rfl, rfl⟩ := y; exact hs i σ _ hi p) hd
theorem loop_list (Pv : Nat → St → Hp → Prop) (h0 : Pv 0 σ H) (hl : ∀ i σ H, Pv i σ H → SqL K H a xs) (hs : ∀ i x σ H, xs[i]? = some x → Pv i σ H → g x σ H fun σ2 H2 => tb { D with nx := Pv (i + 1), ct := Pv (i + 1), bk := D.nx } σ2 H2) (hd : ∀ σ H, Pv xs.length σ H → D.nx σ H) :
    LoopI (Itl K a) g tb D σ H := for_it (walk_list (xs := xs)) Pv h0 (fun i σ H _ p => hl i σ H p) (fun i x σ H H' hi p y => by obtain ⟨rfl, e⟩ := y; exact hs i x σ _ e p) hd
/-- the pair is a new tuple at T -/
theorem loop_enum (Pv : Nat → St → Hp → Prop) (h0 : Pv 0 σ H) (hl : ∀ i σ H, Pv i σ H → SqL K H a xs)
    (hs : ∀ i x σ H T H', xs[i]? = some x → Pv i σ H → H T = none → Ex H H' → H' T = some (.tup [.int (i : Nat), x]) → g (.ref T) σ H' fun σ2 H2 => tb { D with nx := Pv (i + 1), ct := Pv (i + 1), bk := D.nx } σ2 H2) (hd : ∀ σ H, Pv xs.length σ H → D.nx σ H) :
    LoopI (Ite K a) g tb D σ H := for_it (walk_enum (xs := xs)) Pv h0 (fun i σ H _ p => hl i σ H p) (fun i v σ H H' hi p y => by
      obtain ⟨T, x, y, rfl, nT, rfl, e1, e2⟩ := y
      cases e1
      exact hs i y σ H T _ e2 p nT (Ex.new nT) upd_same) hd
theorem loop_zip {n : Nat} (hn : n = min xs.length ys.length) (Pv : Nat → St → Hp → Prop) (h0 : Pv 0 σ H) (hl : ∀ i σ H, Pv i σ H → SqL K H a xs ∧ SqL K H b ys)
    (hs : ∀ i x y σ H T H', xs[i]? = some x → ys[i]? = some y → Pv i σ H → H T = none → Ex H H' → H' T = some (.tup [x, y]) → g (.ref T) σ H' fun σ2 H2 => tb { D with nx := Pv (i + 1), ct := Pv (i + 1), bk := D.nx } σ2 H2) (hd : ∀ σ H, Pv n σ H → D.nx σ H) :
    LoopI (Itz K a b) g tb D σ H := for_it (walk_zip hn) Pv h0 (fun i σ H _ p => hl i σ H p) (fun i v σ H H' hi p y => by
      obtain ⟨T, x, y, rfl, nT, rfl, e1, e2⟩ := y
      exact hs i x y σ H T _ e1 e2 p nT (Ex.new nT) upd_same) hd
/-- a comprehension's turns give what f says of each turn (none: passed over) -/
def gives (f : Nat → Option V) : Nat → List V
  | 0 => []
  | n + 1 => gives f n ++ (f n).toList
theorem gives_len (f : Nat → Option V) : ∀ n, (gives f n).length ≤ n
  | 0 => Nat.le_refl _
  | n + 1 => by
    have h := gives_len f n
    show (gives f n ++ (f n).toList).length ≤ n + 1
    rw [List.length_append]
    cases f n with
    | none => exact Nat.le_succ_of_le h
    | some v => exact Nat.succ_le_succ h
/-- the turn's item is laid; the turn is passed over -/
def Put (H : Hp) (Dl : Addr) (f : Nat → Option V) (i : Nat) (y : V) (H4 : Hp) : Prop := ∃ acc, H4 Dl = some (.lst acc) ∧ acc.length < sizeLine ∧ (Ex H (upd H4 Dl (.lst (acc ++ [y]))) ∧ upd H4 Dl (.lst (acc ++ [y])) Dl = some (.lst (gives f (i + 1))))
def Skip (H : Hp) (Dl : Addr) (f : Nat → Option V) (i : Nat) (H3 : Hp) : Prop := Ex H H3 ∧ H3 Dl = some (.lst (gives f (i + 1)))
theorem put_of {f : Nat → Option V} {i : Nat} {y : V} {H4 : Hp} {Dl : Addr} (hD : H Dl = none) (e : Ex H H4) (h4 : H4 Dl = some (.lst (gives f i))) (hi : i < sizeLine) (ef : f i = some y) : Put H Dl f i y H4 := by
  refine ⟨gives f i, h4, Nat.lt_of_le_of_lt (gives_len f i) hi, Ex.mut e hD, ?_⟩
  show upd H4 Dl _ Dl = some (.lst (gives f i ++ (f i).toList))
  rw [upd_same, ef]
  rfl
theorem skip_of {f : Nat → Option V} {i : Nat} {H3 : Hp} {Dl : Addr} (e : Ex H H3) (h3 : H3 Dl = some (.lst (gives f i))) (ef : f i = none) : Skip H Dl f i H3 := by
  refine ⟨e, ?_⟩
  show H3 Dl = some (.lst (gives f i ++ (f i).toList))
  rw [ef, h3]
  show _ = some (HO.lst (gives f i ++ []))
  rw [List.append_nil]
theorem lc_gives {J : It} {n : Nat} {G : Hp → Prop} {Y : Nat → Hp → V → Hp → Prop} (w : Walk J n G Y) {tt : TT} {te : TE} {vs : List Nat} {Q : VK} {Dl : Addr} (f : Nat → Option V) (hD : H Dl = none) (hG : ∀ H', Ex H H' → G H')
    (hs : ∀ i x H0 H', i < n → Ex H H0 → H0 Dl = some (.lst (gives f i)) → Y i H0 x H' → g x (wipe σ vs) H' fun σ2 H2 => wipe σ2 vs = wipe σ vs ∧ tt σ2 H2 fun b H3 => if b = true then te σ2 H3 fun y H4 => Put H Dl f i y H4 else Skip H Dl f i H3)
    (hd : ∀ H', Ex H H' → H' Dl = some (.lst (gives f n)) → Q (.ref Dl) H') : LcI J g tt te vs σ H Dl Q :=
  lc_it w (fun i H' => Ex H H' ∧ H' Dl = some (.lst (gives f i))) ⟨Ex.new hD, upd_same⟩ (fun i H' _ p => hG H' p.1) (fun i x H0 H' hi p y => hs i x H0 H' hi p.1 p.2 y) (fun H' p => hd H' p.1 p.2)
theorem gives_map (v : Nat → V) : ∀ n, gives (fun i => some (v i)) n = (List.range n).map v
  | 0 => rfl
  | n + 1 => by
    have h := gives_map v n
    show gives _ n ++ [v n] = _
    rw [h, List.range_succ, List.map_append]
    rfl
theorem gives_nil {f : Nat → Option V} : ∀ n, (∀ i, i < n → f i = none) → gives f n = []
  | 0, _ => rfl
  | n + 1, h => by
    show gives f n ++ (f n).toList = []
    rw [gives_nil n fun i hi => h i (by omega), h n (by omega)]
    rfl
end
end L2
namespace L2
open PySem PySem.Spec PyProof.Rows Evl
section
variable {X : Cx}
/-- xs + ys, of any lists (also the script) -/
def rCatS (K : PySem.W.Frag) : R2 := fun x y H Q => ∃ l b xs zs, x = .ref l ∧ y = .ref b ∧ SqL K H l xs ∧ SqL K H b zs ∧ xs.length + zs.length ≤ sizeLine ∧ New H (.lst (xs ++ zs)) fun p H2 => Q (.ref p) H2
theorem op_catS : OpR X (binaryOp .Add) (rCatS X.K) := by
  intro pins s σ H x y v u Q I rx ry h
  obtain ⟨l, b, xs, zs, rfl, rfl, hH, hB, hz, q⟩ := h
  cases rx
  cases ry
  obtain ⟨its, r, ⟨⟨cls, dd, data, sl⟩, n, ho, hc, hdd, hd⟩, _⟩ := I.list hH
  obtain ⟨its2, r2, ⟨⟨cls2, dd2, data2, sl2⟩, n2, ho2, hc2, hdd2, hd2⟩, _⟩ := I.list hB
  have l1 := r.length
  have l2 := r2.length
  simp only at hc hd hc2 hd2
  subst hc hd hc2 hd2
  have e : its.toArray ++ its2.toArray = (its ++ its2).toArray := by simp
  refine concat_meets ⟨_, ho, rfl⟩ ⟨_, ho2, rfl⟩ noFill_list_add seq_list_add PySem.F.slot_list_add PySem.F.entry_list_add (PySem.F.args_list_add_2 _ _) (list_addW l b its.toArray its2.toArray n n2 dd dd2 sl sl2 (by rw [List.size_toArray, List.size_toArray]; omega)) ⟨ho, ho2, ?_⟩
  rw [e]
  exact ⟨.ref _, _, I.lnew (t' := s.toks) (r.append r2) (by rw [List.length_append]; omega), rfl, q _ I.fresh⟩
end
theorem sum_S (f : Nat → Int) : ∀ n, ((List.range n).map f).sum = FW.S f n
  | 0 => rfl
  | n + 1 => by
    have h := sum_S f n
    rw [List.range_succ, List.map_append, List.sum_append, h]
    show FW.S f n + ([f n] : List Int).sum = FW.S f n + f n
    rw [List.sum_cons, List.sum_nil]
    omega
/-- an item of a written list at a drawn place -/
theorem at_mem {xs : List V} {i : Int} (h0 : 0 ≤ i) (h1 : i < (xs.length : Int)) : ∃ v, v ∈ xs ∧ atI xs i = some v := by
  have hj : i.toNat < xs.length := by omega
  exact ⟨xs[i.toNat], List.getElem_mem hj, at_of (j := i.toNat) (by omega) (List.getElem?_eq_getElem hj)⟩
end L2
namespace L2
open PySem PySem.Spec PyProof.Rows Evl
/-! ### lists of ints compared -/
theorem dp_ints {K : PySem.W.Frag} {H : Hp} : ∀ ns : List Int, DpAll K H (ns.map V.int) (ns.map PyData.int)
  | [] => .nil
  | n :: r => .cons (.int n) (dp_ints r)
theorem eqv_ints : ∀ xs ys : List Int, PyData.eqvAll (xs.map PyData.int) (ys.map PyData.int) = decide (xs = ys)
  | [], [] => rfl
  | [], _ :: _ => rfl
  | _ :: _, [] => rfl
  | x :: xs, y :: ys => by
    show (x == y && PyData.eqvAll (xs.map PyData.int) (ys.map PyData.int)) = _
    rw [eqv_ints xs ys]
    by_cases h : x = y
    · subst h
      by_cases h2 : xs = ys
      · subst h2
        simp
      · simp [h2]
    · have e : (x == y) = false := by simpa using h
      rw [e]
      simp [h]
theorem depth_ints : ∀ ns : List Int, PyData.depthAll (ns.map PyData.int) ≤ 1
  | [] => by simp [PyData.depthAll]
  | n :: r => by
    have h := depth_ints r
    simp only [List.map_cons, PyData.depthAll, PyData.depth]
    omega
theorem lay_ints : ∀ ns : List Int, PyData.canLayAll0 (ns.map PyData.int) = true
  | [] => rfl
  | n :: r => by
    have h := lay_ints r
    simp only [List.map_cons, PyData.canLayAll0, PyData.canLay0, h, Bool.and_self]
theorem shaped_ints (ns : List Int) : SeqAt.shaped (.list (ns.map PyData.int)) = true := by
  have h := depth_ints ns
  unfold SeqAt.shaped
  rw [Bool.and_eq_true]
  refine ⟨?_, decide_eq_true ?_⟩
  · simp only [PyData.canLay0]
    exact lay_ints ns
  · simp only [PyData.depth]
    omega
theorem neD_ints {K : PySem.W.Frag} {H : Hp} {a b : Addr} {xs ys : List Int} {Q : VK} (ha : SqL K H a (xs.map V.int)) (hb : SqL K H b (ys.map V.int)) (q : Q (.bl (!decide (xs = ys))) H) : rNeD K (.ref a) (.ref b) H Q := by
  refine ⟨_, _, .lst ha (dp_ints xs), .lst hb (dp_ints ys), shaped_ints xs, shaped_ints ys, ?_⟩
  show Q (.bl (!PyData.eqvAll _ _)) H
  rw [eqv_ints]
  exact q
theorem eqD_ints {K : PySem.W.Frag} {H : Hp} {a b : Addr} {xs ys : List Int} {Q : VK} (ha : SqL K H a (xs.map V.int)) (hb : SqL K H b (ys.map V.int)) (q : Q (.bl (decide (xs = ys))) H) : rEqD K (.ref a) (.ref b) H Q := by
  refine ⟨_, _, .lst ha (dp_ints xs), .lst hb (dp_ints ys), shaped_ints xs, shaped_ints ys, ?_⟩
  show Q (.bl (PyData.eqvAll _ _)) H
  rw [eqv_ints]
  exact q
end L2
namespace L2
open PySem PySem.Spec PyProof.Rows Evl
/-! ### the rules that name the written part, K told -/
section
variable {X : Cx} {K : PySem.W.Frag}
theorem k_isi (hK : X.K = K) : CallR X (.builtin "isinstance") (rIsi K) := hK ▸ call_isi
theorem k_isiT (hK : X.K = K) : CallR X (.builtin "isinstance") (rIsiT K) := hK ▸ call_isiT
theorem k_len (hK : X.K = K) : CallR X (.builtin "len") (fun xs H Q => ∃ p ys, xs = [.ref p] ∧ (SqL K H p ys ∨ SqT K H p ys) ∧ Q (.int ys.length) H) := hK ▸ call_len_seq
theorem k_sum (hK : X.K = K) (hc : X.calm = true) : CallR X (.builtin "sum") (rSum K) := hK ▸ cr_sum hc
theorem k_max (hK : X.K = K) (hc : X.calm = true) : CallR X (.builtin "max") (rMax K) := hK ▸ cr_max hc
theorem k_ixl (hK : X.K = K) : IxR X (rIxL K) := hK ▸ ix_list
theorem k_ixt (hK : X.K = K) : IxR X (rIxT K) := hK ▸ ix_tup
theorem k_catS (hK : X.K = K) : OpR X (binaryOp .Add) (rCatS K) := hK ▸ op_catS
theorem k_eqD (hK : X.K = K) (hu : X.A.units + 64 < cLine) : OpR X (compareOp .Eq) (rEqD K) := hK ▸ op_eqD hu
theorem k_neD (hK : X.K = K) (hu : X.A.units + 64 < cLine) : OpR X (compareOp .NotEq) (rNeD K) := hK ▸ op_neD hu
theorem k_listof (hK : X.K = K) : CallR X (.type "list") (fun xs H Q => ∃ p ys, xs = [.ref p] ∧ (SqL K H p ys ∨ SqT K H p ys) ∧ ∀ l, H l = none → Q (.ref l) (upd H l (.lst ys))) := hK ▸ call_list_of
theorem k_sll (hK : X.K = K) : SlR X (rSlL K) := hK ▸ sl_list
theorem k_pil {tg l : Expr} {tl : TE} (hK : X.K = K) (hl : PE X l tl) : PI X tg l (iList K tl) := hK ▸ pi_list hl
theorem k_pit {tg l : Expr} {tl : TE} (hK : X.K = K) (hl : PE X l tl) : PI X tg l (iTup K tl) := hK ▸ pi_tup hl
theorem k_pgt {es : List Expr} {k : Nat} {t : TGs} {n : Nat} {pos : Pos} (hK : X.K = K) (hc : X.calm = true) (h : PGs X es t) (hn : (assignEach es X.env).length = n := by rfl) (hst : (assignEach es X.env).findIdx? (·.1) = none := by rfl) : PG X (.Tuple es k pos) (gTup K n t) :=
  hK ▸ pg_tup hc h hn hst
end
def rListOf (K : PySem.W.Frag) : List V → Hp → VK → Prop := fun xs H Q => ∃ p ys, xs = [.ref p] ∧ (SqL K H p ys ∨ SqT K H p ys) ∧ New H (.lst ys) fun l H2 => Q (.ref l) H2
theorem k_listof2 {X : Cx} {K : PySem.W.Frag} (hK : X.K = K) : CallR X (.type "list") (rListOf K) := k_listof hK
theorem rSlL_eq {K : PySem.W.Frag} {x : V} {lo hi : Option Int} {H : Hp} {Q : VK} : rSlL K x lo hi H Q = ∃ a xs, x = .ref a ∧ SqL K H a xs ∧ New H (.lst (cutV xs lo hi)) fun p H2 => Q (.ref p) H2 := rfl
end L2
namespace FW
open PySem PySem.Spec PyProof.Rows L2
def topS (i : Nat) : Stmt := PySem.Challenge.pw_flywright_k02_whole_steps_of_moves.main.body.getD i (.Pass ⟨0, 0, 0, 0⟩)
abbrev s_is_whole : Stmt := topS 8
theorem sc_is_whole : FnScope ["thing", "least", "most"] ["thing", "least", "most"] (defScope s_is_whole) := ⟨rfl, rfl, rfl, by decide +kernel, rfl, by decide +kernel, by decide +kernel⟩
abbrev s_need_whole : Stmt := topS 9
theorem sc_need_whole : FnScope ["thing", "least", "most", "what"] ["thing", "least", "most", "what"] (defScope s_need_whole) := ⟨rfl, rfl, rfl, by decide +kernel, rfl, by decide +kernel, by decide +kernel⟩
abbrev s_need_drive : Stmt := topS 10
theorem sc_need_drive : FnScope ["pace", "gain"] ["pace", "gain"] (defScope s_need_drive) := ⟨rfl, rfl, rfl, by decide +kernel, rfl, by decide +kernel, by decide +kernel⟩
abbrev s_steps_of : Stmt := topS 11
theorem sc_steps_of : FnScope ["distance", "pace", "gain", "many", "steps", "step", "left", "behind"] ["distance", "pace", "gain"] (defScope s_steps_of) := ⟨rfl, rfl, rfl, by decide +kernel, rfl, by decide +kernel, by decide +kernel⟩
abbrev s_added_reach : Stmt := topS 12
theorem sc_added_reach : FnScope ["many", "pace", "gain"] ["many", "pace", "gain"] (defScope s_added_reach) := ⟨rfl, rfl, rfl, by decide +kernel, rfl, by decide +kernel, by decide +kernel⟩
abbrev s_fewest_steps : Stmt := topS 13
theorem sc_fewest_steps : FnScope ["distance", "pace", "gain", "reached", "many"] ["distance", "pace", "gain"] (defScope s_fewest_steps) := ⟨rfl, rfl, rfl, by decide +kernel, rfl, by decide +kernel, by decide +kernel⟩
abbrev s_greatest_step : Stmt := topS 14
theorem sc_greatest_step : FnScope ["ahead", "behind", "left", "pace", "gain", "fallen"] ["ahead", "behind", "left", "pace", "gain"] (defScope s_greatest_step) := ⟨rfl, rfl, rfl, by decide +kernel, rfl, by decide +kernel, by decide +kernel⟩
abbrev s__law_wide : Stmt := topS 16
theorem sc__law_wide : FnScope ["_law_cell", "_law_k"] ["_law_cell", "_law_k"] (defScope s__law_wide) := ⟨rfl, rfl, rfl, by decide +kernel, rfl, by decide +kernel, by decide +kernel⟩
abbrev s__law_rate : Stmt := topS 17
theorem sc__law_rate : FnScope ["_law_number", "_law_most"] ["_law_number"] (defScope s__law_rate) := ⟨rfl, rfl, rfl, by decide +kernel, rfl, by decide +kernel, by decide +kernel⟩
abbrev s__law_reach : Stmt := topS 18
theorem sc__law_reach : FnScope ["_law_many", "_law_pace", "_law_gain", "_law_k"] ["_law_many", "_law_pace", "_law_gain"] (defScope s__law_reach) := ⟨rfl, rfl, rfl, by decide +kernel, rfl, by decide +kernel, by decide +kernel⟩
abbrev s__law_least : Stmt := topS 19
theorem sc__law_least : FnScope ["_law_step", "_law_many", "_law_gain", "_law_found", "_law_k"] ["_law_step", "_law_many", "_law_gain"] (defScope s__law_least) := ⟨rfl, rfl, rfl, by decide +kernel, rfl, by decide +kernel, by decide +kernel⟩
abbrev s__law_distance : Stmt := topS 20
theorem sc__law_distance : FnScope ["_law_number", "_law_pace", "_law_gain", "_law_many", "_law_far", "_law_some"] ["_law_number", "_law_pace", "_law_gain"] (defScope s__law_distance) := ⟨rfl, rfl, rfl, by decide +kernel, rfl, by decide +kernel, by decide +kernel⟩
abbrev s__law_is_greatest : Stmt := topS 21
theorem sc__law_is_greatest : FnScope ["_law_steps", "_law_distance_here", "_law_pace", "_law_gain", "_law_left", "_law_last", "_law_k", "_law_step", "_law_behind", "_law_most"] ["_law_steps", "_law_distance_here", "_law_pace", "_law_gain"] (defScope s__law_is_greatest) := ⟨rfl, rfl, rfl, by decide +kernel, rfl, by decide +kernel, by decide +kernel⟩
abbrev s__law_is_right : Stmt := topS 22
theorem sc__law_is_right : FnScope ["_law_steps", "_law_distance_here", "_law_pace", "_law_gain", "_law_one", "_law_other", "_law_step"] ["_law_steps", "_law_distance_here", "_law_pace", "_law_gain"] (defScope s__law_is_right) := ⟨rfl, rfl, rfl, by decide +kernel, rfl, by decide +kernel, by decide +kernel⟩
abbrev s_law : Stmt := topS 23
theorem sc_law : FnScope ["_law_script", "_law_k", "_law_cell", "_law_number", "_law_pace", "_law_gain", "_law_distance_here", "_law_steps", "_law_kept"] ["_law_script"] (defScope s_law) := ⟨rfl, rfl, rfl, by decide +kernel, rfl, by decide +kernel, by decide +kernel⟩
structure Bt (mg : Str → Option Value) : Prop where
  b_isinstance : mg "isinstance" = none
  b_int : mg "int" = none
  b_bool : mg "bool" = none
  b_range : mg "range" = none
  b_min : mg "min" = none
  b_max : mg "max" = none
  b_sum : mg "sum" = none
  b_len : mg "len" = none
  b_list : mg "list" = none
  b_enumerate : mg "enumerate" = none
  b_zip : mg "zip" = none
  g_MOST_STEPS : ∃ t, mg "MOST_STEPS" = some (.int 200 t)
  g_MOST_PACE : ∃ t, mg "MOST_PACE" = some (.int 1000000000 t)
  g_MOST_DISTANCE : ∃ t, mg "MOST_DISTANCE" = some (.int 1000000000000 t)
end FW

set_option Elab.async false
set_option linter.all false
set_option maxRecDepth 100000
set_option maxHeartbeats 4000000
namespace FW
open PySem PySem.Spec PyProof.Rows L2 Evl
section
variable {P : Program} {w : World} {K : PySem.W.Frag} {mg : Str → Option Value} {base : Heap}
/-- a thing of which it is told whether it is an int -/
def Known (K : PySem.W.Frag) (H : Hp) (x : V) : Prop := (∃ a, x = .int a) ∨ (∃ b, x = .bl b) ∨ ∃ s, TyX K H x (.type s) ∧ kitB s "int" = some false
def wholeV (x : V) (l m : Int) : Bool := match x with
  | .int a => decide (l ≤ a) && decide (a ≤ m)
  | _ => false
theorem whole_no {K : PySem.W.Frag} {H : Hp} {x : V} {s : String} {l m : Int} (ht : TyX K H x (.type s)) (hk : kitB s "int" = some false) : wholeV x l m = false := by
  cases x with
  | int a =>
    cases ht with
    | base h =>
      cases h
      exact absurd hk (by decide +kernel)
  | _ => rfl
def sp_is_whole (K : PySem.W.Frag) : Sp := fun vs H Q _ => ∃ (x : V) (l m : Int), vs = [x, .int l, .int m] ∧ Known K H x ∧ Q (.bl (wholeV x l m)) H
theorem ok_is_whole (B : Bt mg) {f : Addr} {fd : FuncData} (F : Fun K "is_whole" "is_whole" s_is_whole f fd) : FnOk P w K mg base CX0 1 f fd ["thing", "least", "most"] (sp_is_whole K) := by
  refine F.ok sc_is_whole (fun vs H Q E h => ?_) (fun cdv A outer s H vs Q E hr h => ?_)
  · obtain ⟨x, l, m, rfl, _⟩ := h
    rfl
  · obtain ⟨x, l, m, rfl, kn, q⟩ := h
    refine ⟨_, (pss_cons (ps_if (PW.pt (pw_or (pt_not (pt_val (pe_callB (k_isi (K := K) rfl) (by rfl) B.b_isinstance (by decide +kernel) (pa_cons (pv 0) (pa_cons (pe_bltn (v := .ty "int") (by rfl) B.b_int (by decide +kernel) rfl) pa_nil))))) (pw_or1 (pt_val (pe_callB (k_isi (K := K) rfl) (by rfl) B.b_isinstance (by decide +kernel) (pa_cons (pv 0) (pa_cons (pe_bltn (v := .ty "bool") (by rfl) B.b_bool (by decide +kernel) rfl) pa_nil)))))))
        (pss_one (ps_ret pe_bl))
        pss_nil)
      (pss_one (ps_ret (pe_chain op_le op_le (pv 1) (pv 0) (pv 2))))), ?_⟩
    simp only [tSeq, tIfS, tOr, tAnd, tNot, tB, tTest, tCB, tCall, tCons, tVar, tNil, tC, tRet, tRetN, tNext, tAsg, gName, tDrop, tOp, tUn, tAug, ipI, tPar, tIf, tAndV, tOrV, tNotV, tChain, tNever, rI0, rI, rU, L2.start, cxK, List.map_cons, List.map_nil, List.length_cons, List.length_nil, Nat.reduceAdd, Nat.reduceSub, List.replicate, List.cons_append, List.nil_append, List.append_nil, List.set_cons_zero, List.set_cons_succ, List.getElem?_cons_zero, List.getElem?_cons_succ, Option.some.injEq, V.int.injEq, V.bl.injEq, exists_eq_left', exists_eq_left, exists_and_left, tFor_eq, iRng1, iRng2, iRng3, iList, iEnum, iZip, iTup, tLst_eq, tTup_eq, rCat_eq, rCatS, rSum, rAppend_eq, rListOf, rSlL_eq, tSl, tNoPart, tPart, tLc_eq, tBM, rIxL, rIxT, min3_eq, rEq_int, rNe_int, min_if, max_if, and_assoc, V.ref.injEq, V.str.injEq, List.cons.injEq, and_true, true_and, ↓reduceIte, Bool.false_eq_true, Bool.not_true, Bool.not_false, Int.reduceToNat, Int.reducePow, Int.reduceAdd, Int.reduceSub, Int.reduceNeg]
    rcases kn with ⟨a, rfl⟩ | ⟨b, rfl⟩ | ⟨s, ht, hk⟩
    · refine isi_int (b := true) (by decide +kernel) ⟨_, rfl, ?_⟩
      refine ifF rfl (isi_int (b := false) (by decide +kernel) ⟨_, rfl, ?_⟩)
      refine ifF rfl ?_
      have e : wholeV (.int a) l m = (decide (l ≤ a) && decide (a ≤ m)) := rfl
      rw [e] at q
      by_cases h1 : l ≤ a
      · rw [decide_eq_true h1, Bool.true_and] at q
        exact ⟨_, rfl, ifT (decide_eq_true h1) ⟨_, rfl, q⟩⟩
      · rw [decide_eq_false h1, Bool.false_and] at q
        exact ⟨_, rfl, ifF (decide_eq_false h1) q⟩
    · refine isi_ty (.base (.bl b)) (b := true) (by decide +kernel) ⟨_, rfl, ?_⟩
      refine ifF rfl (isi_ty (.base (.bl b)) (b := true) (by decide +kernel) ⟨_, rfl, ?_⟩)
      exact ifT rfl q
    · rw [whole_no ht hk] at q
      refine isi_ty ht hk ⟨_, rfl, ?_⟩
      exact ifT rfl q
/-- only what is good -/
def sp_need_whole : Sp := fun vs H Q _ => ∃ (a l m : Int) (v : V), vs = [.int a, .int l, .int m, v] ∧ l ≤ a ∧ a ≤ m ∧ Q .non H
theorem ok_need_whole (B : Bt mg) (F_is_whole : Fn P w K mg base "is_whole" ["thing", "least", "most"] CX0 1 (sp_is_whole K)) {f : Addr} {fd : FuncData} (F : Fun K "need_whole" "need_whole" s_need_whole f fd) : FnOk P w K mg base CX0 2 f fd ["thing", "least", "most", "what"] sp_need_whole := by
  refine F.ok sc_need_whole (fun vs H Q E h => ?_) (fun cdv A outer s H vs Q E hr h => ?_)
  · obtain ⟨a, l, m, v, rfl, _⟩ := h
    rfl
  · obtain ⟨a, l, m, v, rfl, h1, h2, q⟩ := h
    refine ⟨_, (pss_one (ps_if (pt_not (pt_val (pe_fn F_is_whole (hr.mono (by decide)) (pa_cons (pv 0) (pa_cons (pv 1) (pa_cons (pv 2) pa_nil))))))
        (pss_one ps_never)
        pss_nil)), ?_⟩
    simp only [tSeq, tIfS, tOr, tAnd, tNot, tB, tTest, tCB, tCall, tCons, tVar, tNil, tC, tRet, tRetN, tNext, tAsg, gName, tDrop, tOp, tUn, tAug, ipI, tPar, tIf, tAndV, tOrV, tNotV, tChain, tNever, rI0, rI, rU, L2.start, cxK, List.map_cons, List.map_nil, List.length_cons, List.length_nil, Nat.reduceAdd, Nat.reduceSub, List.replicate, List.cons_append, List.nil_append, List.append_nil, List.set_cons_zero, List.set_cons_succ, List.getElem?_cons_zero, List.getElem?_cons_succ, Option.some.injEq, V.int.injEq, V.bl.injEq, exists_eq_left', exists_eq_left, exists_and_left, tFor_eq, iRng1, iRng2, iRng3, iList, iEnum, iZip, iTup, tLst_eq, tTup_eq, rCat_eq, rCatS, rSum, rAppend_eq, rListOf, rSlL_eq, tSl, tNoPart, tPart, tLc_eq, tBM, rIxL, rIxT, min3_eq, rEq_int, rNe_int, min_if, max_if, and_assoc, V.ref.injEq, V.str.injEq, List.cons.injEq, and_true, true_and, ↓reduceIte, Bool.false_eq_true, Bool.not_true, Bool.not_false, Int.reduceToNat, Int.reducePow, Int.reduceAdd, Int.reduceSub, Int.reduceNeg]
    refine ⟨_, _, _, rfl, .inl ⟨a, rfl⟩, _, rfl, ?_⟩
    have e : wholeV (.int a) l m = true := by
      show (decide (l ≤ a) && decide (a ≤ m)) = true
      rw [decide_eq_true h1, decide_eq_true h2]
      rfl
    rw [e]
    exact ifF rfl q
def sp_need_drive : Sp := fun vs H Q _ => ∃ (p g : Int), vs = [.int p, .int g] ∧ 1 ≤ p ∧ p ≤ 1000000000 ∧ 1 ≤ g ∧ g ≤ 1000000000 ∧ Q .non H
theorem ok_need_drive (B : Bt mg) (F_need_whole : Fn P w K mg base "need_whole" ["thing", "least", "most", "what"] CX0 2 sp_need_whole) {f : Addr} {fd : FuncData} (F : Fun K "need_drive" "need_drive" s_need_drive f fd) : FnOk P w K mg base CX0 3 f fd ["pace", "gain"] sp_need_drive := by
  refine F.ok sc_need_drive (fun vs H Q E h => ?_) (fun cdv A outer s H vs Q E hr h => ?_)
  · obtain ⟨p, g, rfl, _⟩ := h
    rfl
  · obtain ⟨p, g, rfl, h1, h2, h3, h4, q⟩ := h
    refine ⟨_, (pss_cons (ps_expr (pe_fn F_need_whole (hr.mono (by decide)) (pa_cons (pv 0) (pa_cons pe_int (pa_cons (pe_gint B.g_MOST_PACE) (pa_cons pe_str pa_nil))))))
      (pss_one (ps_expr (pe_fn F_need_whole (hr.mono (by decide)) (pa_cons (pv 1) (pa_cons pe_int (pa_cons (pe_gint B.g_MOST_PACE) (pa_cons pe_str pa_nil)))))))), ?_⟩
    simp only [tSeq, tIfS, tOr, tAnd, tNot, tB, tTest, tCB, tCall, tCons, tVar, tNil, tC, tRet, tRetN, tNext, tAsg, gName, tDrop, tOp, tUn, tAug, ipI, tPar, tIf, tAndV, tOrV, tNotV, tChain, tNever, rI0, rI, rU, L2.start, cxK, List.map_cons, List.map_nil, List.length_cons, List.length_nil, Nat.reduceAdd, Nat.reduceSub, List.replicate, List.cons_append, List.nil_append, List.append_nil, List.set_cons_zero, List.set_cons_succ, List.getElem?_cons_zero, List.getElem?_cons_succ, Option.some.injEq, V.int.injEq, V.bl.injEq, exists_eq_left', exists_eq_left, exists_and_left, tFor_eq, iRng1, iRng2, iRng3, iList, iEnum, iZip, iTup, tLst_eq, tTup_eq, rCat_eq, rCatS, rSum, rAppend_eq, rListOf, rSlL_eq, tSl, tNoPart, tPart, tLc_eq, tBM, rIxL, rIxT, min3_eq, rEq_int, rNe_int, min_if, max_if, and_assoc, V.ref.injEq, V.str.injEq, List.cons.injEq, and_true, true_and, ↓reduceIte, Bool.false_eq_true, Bool.not_true, Bool.not_false, Int.reduceToNat, Int.reducePow, Int.reduceAdd, Int.reduceSub, Int.reduceNeg]
    exact ⟨_, _, _, _, rfl, h1, h2, _, _, _, _, rfl, h3, h4, q⟩
/-! ### the steps -/
def sp_added_reach : Sp := fun vs H Q _ => ∃ (j : Nat) (p g : Int), vs = [.int j, .int p, .int g] ∧ 1 ≤ g ∧ g ≤ 1000000000 ∧ Q (.int (added p g j)) H
theorem ok_added_reach (B : Bt mg) {f : Addr} {fd : FuncData} (F : Fun K "added_reach" "added_reach" s_added_reach f fd) : FnOk P w K mg base CX0 1 f fd ["many", "pace", "gain"] sp_added_reach := by
  refine F.ok sc_added_reach (fun vs H Q E h => ?_) (fun cdv A outer s H vs Q E hr h => ?_)
  · obtain ⟨j, p, g, rfl, _⟩ := h
    rfl
  · obtain ⟨j, p, g, rfl, h1, h2, q⟩ := h
    refine ⟨_, (pss_one (ps_ret (pe_callB (call_min2 rfl) (by rfl) B.b_min (by decide +kernel) (pa_cons (pv 1) (pa_cons (pe_op op_mul (pv 2) (pe_op op_fdivW (pe_op op_add (pv 0) pe_int) pe_int)) pa_nil))))), ?_⟩
    simp only [tSeq, tIfS, tOr, tAnd, tNot, tB, tTest, tCB, tCall, tCons, tVar, tNil, tC, tRet, tRetN, tNext, tAsg, gName, tDrop, tOp, tUn, tAug, ipI, tPar, tIf, tAndV, tOrV, tNotV, tChain, tNever, rI0, rI, rU, L2.start, cxK, List.map_cons, List.map_nil, List.length_cons, List.length_nil, Nat.reduceAdd, Nat.reduceSub, List.replicate, List.cons_append, List.nil_append, List.append_nil, List.set_cons_zero, List.set_cons_succ, List.getElem?_cons_zero, List.getElem?_cons_succ, Option.some.injEq, V.int.injEq, V.bl.injEq, exists_eq_left', exists_eq_left, exists_and_left, tFor_eq, iRng1, iRng2, iRng3, iList, iEnum, iZip, iTup, tLst_eq, tTup_eq, rCat_eq, rCatS, rSum, rAppend_eq, rListOf, rSlL_eq, tSl, tNoPart, tPart, tLc_eq, tBM, rIxL, rIxT, min3_eq, rEq_int, rNe_int, min_if, max_if, and_assoc, V.ref.injEq, V.str.injEq, List.cons.injEq, and_true, true_and, ↓reduceIte, Bool.false_eq_true, Bool.not_true, Bool.not_false, Int.reduceToNat, Int.reducePow, Int.reduceAdd, Int.reduceSub, Int.reduceNeg]
    refine ⟨cdw (by decide) (by decide), .inl ⟨by omega, by omega⟩, ?_⟩
    exact q
theorem tri_half (b : Nat) : (b : Int) * ((b : Int) + 1) / 2 = tri b := by
  rw [← tri_two]
  omega
def sp_greatest_step : Sp := fun vs H Q _ => ∃ (s : Int) (b : Nat) (l p g : Int), vs = [.int s, .int b, .int l, .int p, .int g] ∧ b ≤ 200 ∧ 1 ≤ g ∧ g ≤ 1000000000 ∧ Q (.int (next p g s b l)) H
theorem ok_greatest_step (B : Bt mg) {f : Addr} {fd : FuncData} (F : Fun K "greatest_step" "greatest_step" s_greatest_step f fd) : FnOk P w K mg base CX0 1 f fd ["ahead", "behind", "left", "pace", "gain"] sp_greatest_step := by
  refine F.ok sc_greatest_step (fun vs H Q E h => ?_) (fun cdv A outer s H vs Q E hr h => ?_)
  · obtain ⟨s, b, l, p, g, rfl, _⟩ := h
    rfl
  · obtain ⟨s, b, l, p, g, rfl, hb, h1, h2, q⟩ := h
    refine ⟨_, (pss_cons (ps_set (i := 5) sc_greatest_step.nd rfl (.inl rfl) (pe_op op_mul (pv 4) (pe_op op_fdivW (pe_op op_mul (pv 1) (pe_op op_add (pv 1) pe_int)) pe_int)))
      (pss_one (ps_ret (pe_callB (call_min3Nu rfl) (by rfl) B.b_min (by decide +kernel) (pa_cons (pv 3) (pa_cons (pe_op op_add (pv 0) (pv 4)) (pa_cons (pe_op op_fdivW (pe_op op_add (pv 2) (pv 5)) (pe_op op_add (pv 1) pe_int)) pa_nil))))))), ?_⟩
    simp only [tSeq, tIfS, tOr, tAnd, tNot, tB, tTest, tCB, tCall, tCons, tVar, tNil, tC, tRet, tRetN, tNext, tAsg, gName, tDrop, tOp, tUn, tAug, ipI, tPar, tIf, tAndV, tOrV, tNotV, tChain, tNever, rI0, rI, rU, L2.start, cxK, List.map_cons, List.map_nil, List.length_cons, List.length_nil, Nat.reduceAdd, Nat.reduceSub, List.replicate, List.cons_append, List.nil_append, List.append_nil, List.set_cons_zero, List.set_cons_succ, List.getElem?_cons_zero, List.getElem?_cons_succ, Option.some.injEq, V.int.injEq, V.bl.injEq, exists_eq_left', exists_eq_left, exists_and_left, tFor_eq, iRng1, iRng2, iRng3, iList, iEnum, iZip, iTup, tLst_eq, tTup_eq, rCat_eq, rCatS, rSum, rAppend_eq, rListOf, rSlL_eq, tSl, tNoPart, tPart, tLc_eq, tBM, rIxL, rIxT, min3_eq, rEq_int, rNe_int, min_if, max_if, and_assoc, V.ref.injEq, V.str.injEq, List.cons.injEq, and_true, true_and, ↓reduceIte, Bool.false_eq_true, Bool.not_true, Bool.not_false, Int.reduceToNat, Int.reducePow, Int.reduceAdd, Int.reduceSub, Int.reduceNeg]
    refine ⟨.inl ⟨by omega, by omega⟩, cdw (by decide) (by decide), .inl ⟨by omega, by omega⟩, cdw (by omega) (by omega), ?_⟩
    rw [tri_half]
    exact q
/-- the least number of steps -/
structure Few (p g d : Int) (n : Nat) : Prop where
  p1 : 1 ≤ p
  p2 : p ≤ 1000000000
  g1 : 1 ≤ g
  g2 : g ≤ 1000000000
  d0 : 0 ≤ d
  n2 : n ≤ 200
  most : d ≤ U p g 0 n
  few : ∀ b, n = b + 1 → U p g 0 b < d
theorem added_nn {p g : Int} (hp : 0 ≤ p) (hg : 0 ≤ g) (j : Nat) : 0 ≤ added p g j := by
  unfold added
  have : 0 ≤ g * (((j : Int) + 1) / 2) := Int.mul_nonneg hg (by omega)
  omega
theorem U_mono {p g : Int} (hp : 0 ≤ p) (hg : 0 ≤ g) : ∀ {i j : Nat}, i ≤ j → U p g 0 i ≤ U p g 0 j := by
  intro i j h
  induction j with
  | zero =>
    have : i = 0 := by omega
    rw [this]
    exact Int.le_refl _
  | succ j ih =>
    by_cases e : i = j + 1
    · rw [e]
      exact Int.le_refl _
    · have := ih (by omega)
      rw [U_reach p g hp hg (j + 1)]
      rw [U_reach p g hp hg j] at this
      have a := added_nn hp hg (j + 1)
      show _ ≤ S (added p g) (j + 1) + added p g (j + 1)
      omega
def sp_fewest_steps : Sp := fun vs H Q _ => ∃ (d p g : Int) (n : Nat), vs = [.int d, .int p, .int g] ∧ Few p g d n ∧ Q (.int n) H
theorem ok_fewest_steps (B : Bt mg) (F_added_reach : Fn P w K mg base "added_reach" ["many", "pace", "gain"] CX0 1 sp_added_reach) {f : Addr} {fd : FuncData} (F : Fun K "fewest_steps" "fewest_steps" s_fewest_steps f fd) : FnOk P w K mg base CX0 2 f fd ["distance", "pace", "gain"] sp_fewest_steps := by
  refine F.ok sc_fewest_steps (fun vs H Q E h => ?_) (fun cdv A outer s H vs Q E hr h => ?_)
  · obtain ⟨d, p, g, n, rfl, _⟩ := h
    rfl
  · obtain ⟨d, p, g, n, rfl, hn, q⟩ := h
    refine ⟨_, (pss_cons (ps_set (i := 3) sc_fewest_steps.nd rfl (.inl rfl) pe_int)
      (pss_cons (ps_for PassesOwn.never rfl (pi_range1 (by rfl) B.b_range (pa_cons (pe_op op_add (pe_gint B.g_MOST_STEPS) pe_int) pa_nil)) (pg_name (i := 4) sc_fewest_steps.nd rfl (.inl rfl))
        (pss_cons (ps_aug (i := 3) sc_fewest_steps.nd rfl (.inl rfl) (pe_fn F_added_reach (hr.mono (by decide)) (pa_cons (pv 4) (pa_cons (pv 1) (pa_cons (pv 2) pa_nil)))) ip_add)
      (pss_one (ps_if (pt_cmpR op_le (pv 0) (pv 3) (nomark _))
        (pss_one (ps_ret (pv 4)))
        pss_nil))))
      (pss_one ps_never))), ?_⟩
    simp only [tSeq, tIfS, tOr, tAnd, tNot, tB, tTest, tCB, tCall, tCons, tVar, tNil, tC, tRet, tRetN, tNext, tAsg, gName, tDrop, tOp, tUn, tAug, ipI, tPar, tIf, tAndV, tOrV, tNotV, tChain, tNever, rI0, rI, rU, L2.start, cxK, List.map_cons, List.map_nil, List.length_cons, List.length_nil, Nat.reduceAdd, Nat.reduceSub, List.replicate, List.cons_append, List.nil_append, List.append_nil, List.set_cons_zero, List.set_cons_succ, List.getElem?_cons_zero, List.getElem?_cons_succ, Option.some.injEq, V.int.injEq, V.bl.injEq, exists_eq_left', exists_eq_left, exists_and_left, tFor_eq, iRng1, iRng2, iRng3, iList, iEnum, iZip, iTup, tLst_eq, tTup_eq, rCat_eq, rCatS, rSum, rAppend_eq, rListOf, rSlL_eq, tSl, tNoPart, tPart, tLc_eq, tBM, rIxL, rIxT, min3_eq, rEq_int, rNe_int, min_if, max_if, and_assoc, V.ref.injEq, V.str.injEq, List.cons.injEq, and_true, true_and, ↓reduceIte, Bool.false_eq_true, Bool.not_true, Bool.not_false, Int.reduceToNat, Int.reducePow, Int.reduceAdd, Int.reduceSub, Int.reduceNeg]
    obtain ⟨Pv, hPv⟩ : ∃ Pv : Nat → L2.St → Hp → Prop, ∀ i σ H', Pv i σ H' ↔ H' = H ∧ i ≤ n ∧ ∃ y, σ = [some (.int d), some (.int p), some (.int g), some (.int (S (added p g) i)), y] := ⟨_, fun _ _ _ => Iff.rfl⟩
    refine ⟨by decide, by decide, loop_range Pv ((hPv _ _ _).mpr ⟨rfl, Nat.zero_le _, none, rfl⟩) ?_ ?_⟩
    · intro i σ H' hi hp
      obtain ⟨rfl, hin, y, rfl⟩ := (hPv _ _ _).mp hp
      simp only [tSeq, tIfS, tOr, tAnd, tNot, tB, tTest, tCB, tCall, tCons, tVar, tNil, tC, tRet, tRetN, tNext, tAsg, gName, tDrop, tOp, tUn, tAug, ipI, tPar, tIf, tAndV, tOrV, tNotV, tChain, tNever, rI0, rI, rU, L2.start, cxK, List.map_cons, List.map_nil, List.length_cons, List.length_nil, Nat.reduceAdd, Nat.reduceSub, List.replicate, List.cons_append, List.nil_append, List.append_nil, List.set_cons_zero, List.set_cons_succ, List.getElem?_cons_zero, List.getElem?_cons_succ, Option.some.injEq, V.int.injEq, V.bl.injEq, exists_eq_left', exists_eq_left, exists_and_left, tFor_eq, iRng1, iRng2, iRng3, iList, iEnum, iZip, iTup, tLst_eq, tTup_eq, rCat_eq, rCatS, rSum, rAppend_eq, rListOf, rSlL_eq, tSl, tNoPart, tPart, tLc_eq, tBM, rIxL, rIxT, min3_eq, rEq_int, rNe_int, min_if, max_if, and_assoc, V.ref.injEq, V.str.injEq, List.cons.injEq, and_true, true_and, ↓reduceIte, Bool.false_eq_true, Bool.not_true, Bool.not_false, Int.reduceToNat, Int.reducePow, Int.reduceAdd, Int.reduceSub, Int.reduceNeg]
      refine ⟨i, p, g, by simp, hn.g1, hn.g2, ?_⟩
      have e : S (added p g) i + added p g i = U p g 0 i := (U_reach p g (by have := hn.p1; omega) (by have := hn.g1; omega) i).symm
      refine ⟨_, rfl, ?_⟩
      rw [e]
      by_cases h : d ≤ U p g 0 i
      · refine ifT (decide_eq_true h) ?_
        have : i = n := by
          by_cases hc : i < n
          · obtain ⟨b, rfl⟩ : ∃ b, n = b + 1 := ⟨n - 1, by omega⟩
            have h1 := hn.few b rfl
            have h2 := U_mono (show 0 ≤ p by have := hn.p1; omega) (show 0 ≤ g by have := hn.g1; omega) (show i ≤ b by omega)
            omega
          · omega
        subst this
        simpa using q
      · refine ifF (decide_eq_false h) ?_
        refine (hPv _ _ _).mpr ⟨rfl, ?_, some (.int (0 + (i : Int))), ?_⟩
        · by_cases hc : i = n
          · subst hc
            exact absurd hn.most h
          · omega
        · rw [show S (added p g) (i + 1) = U p g 0 i from e]
    · intro σ H' hp
      obtain ⟨rfl, h, _⟩ := (hPv _ _ _).mp hp
      have := hn.n2
      omega
def sp_steps_of : Sp := fun vs H Q _ => ∃ (d p g : Int) (n : Nat), vs = [.int d, .int p, .int g] ∧ Few p g d n ∧ d ≤ 1000000000000 ∧ RetL ((row p g n 0 d).map V.int) H Q
theorem ok_steps_of (B : Bt mg) (F_need_whole : Fn P w K mg base "need_whole" ["thing", "least", "most", "what"] CX0 2 sp_need_whole) (F_need_drive : Fn P w K mg base "need_drive" ["pace", "gain"] CX0 3 sp_need_drive) (F_fewest_steps : Fn P w K mg base "fewest_steps" ["distance", "pace", "gain"] CX0 2 sp_fewest_steps) (F_greatest_step : Fn P w K mg base "greatest_step" ["ahead", "behind", "left", "pace", "gain"] CX0 1 sp_greatest_step) {f : Addr} {fd : FuncData} (F : Fun K "steps_of" "steps_of" s_steps_of f fd) : FnOk P w K mg base CX0 4 f fd ["distance", "pace", "gain"] sp_steps_of := by
  refine F.ok sc_steps_of (fun vs H Q E h => ?_) (fun cdv A outer s H vs Q E hr h => ?_)
  · obtain ⟨d, p, g, n, rfl, _⟩ := h
    rfl
  · obtain ⟨d, p, g, n, rfl, hn, hd, q⟩ := h
    refine ⟨_, (pss_cons (ps_expr (pe_fn F_need_whole (hr.mono (by decide)) (pa_cons (pv 0) (pa_cons pe_int (pa_cons (pe_gint B.g_MOST_DISTANCE) (pa_cons pe_str pa_nil))))))
      (pss_cons (ps_expr (pe_fn F_need_drive (hr.mono (by decide)) (pa_cons (pv 1) (pa_cons (pv 2) pa_nil))))
      (pss_cons (ps_set (i := 3) sc_steps_of.nd rfl (.inl rfl) (pe_fn F_fewest_steps (hr.mono (by decide)) (pa_cons (pv 0) (pa_cons (pv 1) (pa_cons (pv 2) pa_nil)))))
      (pss_cons (ps_set (i := 4) sc_steps_of.nd rfl (.inl rfl) (pe_lst pa_nil))
      (pss_cons (ps_set (i := 5) sc_steps_of.nd rfl (.inl rfl) pe_int)
      (pss_cons (ps_set (i := 6) sc_steps_of.nd rfl (.inl rfl) (pv 0))
      (pss_cons (ps_for PassesOwn.never rfl (pi_range3 (by rfl) B.b_range (pa_cons (pe_op op_sub (pv 3) pe_int) (pa_cons (pe_un un_neg pe_int) (pa_cons (pe_un un_neg pe_int) pa_nil)))) (pg_name (i := 7) sc_steps_of.nd rfl (.inl rfl))
        (pss_cons (ps_set (i := 5) sc_steps_of.nd rfl (.inl rfl) (pe_fn F_greatest_step (hr.mono (by decide)) (pa_cons (pv 5) (pa_cons (pv 7) (pa_cons (pv 6) (pa_cons (pv 1) (pa_cons (pv 2) pa_nil)))))))
      (pss_cons (ps_aug (i := 6) sc_steps_of.nd rfl (.inl rfl) (pv 5) ip_sub)
      (pss_one (ps_expr (pe_bm PySem.F.plainAttrs_list PySem.F.slot_list_append PySem.F.type_list_append mt_append (pv 4) (pa_cons (pv 5) pa_nil)))))))
      (pss_one (ps_ret (pv 4)))))))))), ?_⟩
    simp only [tSeq, tIfS, tOr, tAnd, tNot, tB, tTest, tCB, tCall, tCons, tVar, tNil, tC, tRet, tRetN, tNext, tAsg, gName, tDrop, tOp, tUn, tAug, ipI, tPar, tIf, tAndV, tOrV, tNotV, tChain, tNever, rI0, rI, rU, L2.start, cxK, List.map_cons, List.map_nil, List.length_cons, List.length_nil, Nat.reduceAdd, Nat.reduceSub, List.replicate, List.cons_append, List.nil_append, List.append_nil, List.set_cons_zero, List.set_cons_succ, List.getElem?_cons_zero, List.getElem?_cons_succ, Option.some.injEq, V.int.injEq, V.bl.injEq, exists_eq_left', exists_eq_left, exists_and_left, tFor_eq, iRng1, iRng2, iRng3, iList, iEnum, iZip, iTup, tLst_eq, tTup_eq, rCat_eq, rCatS, rSum, rAppend_eq, rListOf, rSlL_eq, tSl, tNoPart, tPart, tLc_eq, tBM, rIxL, rIxT, min3_eq, rEq_int, rNe_int, min_if, max_if, and_assoc, V.ref.injEq, V.str.injEq, List.cons.injEq, and_true, true_and, ↓reduceIte, Bool.false_eq_true, Bool.not_true, Bool.not_false, Int.reduceToNat, Int.reducePow, Int.reduceAdd, Int.reduceSub, Int.reduceNeg]
    refine ⟨_, _, _, _, rfl, hn.d0, hd, _, _, rfl, hn.p1, hn.p2, hn.g1, hn.g2, _, _, _, n, rfl, hn, Nat.zero_le _, new_of fun l H1 nl e1 hl => ?_⟩
    have hn2 := hn.n2
    refine ⟨_, rfl, _, RgC.neg (by omega) (by omega) (by decide) (by decide), ?_⟩
    have en : ((n : Int) - 1 - -1).toNat = n := by omega
    rw [en]
    obtain ⟨Pv, hPv⟩ : ∃ Pv : Nat → L2.St → Hp → Prop, ∀ i σ H', Pv i σ H' ↔ i ≤ n ∧ ∃ (s L : Int) (y : Option V) (acc : List Int), Go p g s (n - i) L ∧ acc.length = i ∧ acc ++ row p g (n - i) s L = row p g n 0 d ∧ σ = [some (.int d), some (.int p), some (.int g), some (.int n), some (.ref l), some (.int s), some (.int L), y] ∧ Ex H H' ∧ H' l = some (.lst (acc.map V.int)) := ⟨_, fun _ _ _ => Iff.rfl⟩
    refine loop_rangeC Pv ((hPv _ _ _).mpr ⟨Nat.zero_le _, 0, d, none, [], go_start hn.p1 hn.g1 hn.d0 hn.most hn.few, rfl, rfl, rfl, e1, hl⟩) ?_ ?_
    · intro i σ H' hi hp
      obtain ⟨_, s, L, y, acc, hg, hlen, hrow, rfl, e2, hl2⟩ := (hPv _ _ _).mp hp
      obtain ⟨b, hb⟩ : ∃ b, n - i = b + 1 := ⟨n - i - 1, by omega⟩
      rw [hb] at hg hrow
      have good := next_good hn.p1 hn.g1 hg
      have eb : (n : Int) - 1 + (i : Int) * -1 = (b : Int) := by omega
      rw [eb]
      simp only [tSeq, tIfS, tOr, tAnd, tNot, tB, tTest, tCB, tCall, tCons, tVar, tNil, tC, tRet, tRetN, tNext, tAsg, gName, tDrop, tOp, tUn, tAug, ipI, tPar, tIf, tAndV, tOrV, tNotV, tChain, tNever, rI0, rI, rU, L2.start, cxK, List.map_cons, List.map_nil, List.length_cons, List.length_nil, Nat.reduceAdd, Nat.reduceSub, List.replicate, List.cons_append, List.nil_append, List.append_nil, List.set_cons_zero, List.set_cons_succ, List.getElem?_cons_zero, List.getElem?_cons_succ, Option.some.injEq, V.int.injEq, V.bl.injEq, exists_eq_left', exists_eq_left, exists_and_left, tFor_eq, iRng1, iRng2, iRng3, iList, iEnum, iZip, iTup, tLst_eq, tTup_eq, rCat_eq, rCatS, rSum, rAppend_eq, rListOf, rSlL_eq, tSl, tNoPart, tPart, tLc_eq, tBM, rIxL, rIxT, min3_eq, rEq_int, rNe_int, min_if, max_if, and_assoc, V.ref.injEq, V.str.injEq, List.cons.injEq, and_true, true_and, ↓reduceIte, Bool.false_eq_true, Bool.not_true, Bool.not_false, Int.reduceToNat, Int.reducePow, Int.reduceAdd, Int.reduceSub, Int.reduceNeg]
      refine ⟨s, b, L, p, g, rfl, by omega, hn.g1, hn.g2, ⟨_, rfl, ?_⟩⟩
      refine ⟨.inl ⟨rfl, _, sq_of hl2⟩, _, hl2, ?_, chg_of fun H3 k3 h3 => ?_⟩
      · rw [List.length_map, hlen]
        exact sz_lt (by omega)
      · refine (hPv _ _ _).mpr ⟨by omega, next p g s b L, L - next p g s b L, _, acc ++ [next p g s b L], ?_, ?_, ?_, rfl, ex_chg e2 nl k3, ?_⟩
        · rw [show n - (i + 1) = b by omega]
          exact good.go
        · rw [List.length_append, hlen]
          rfl
        · rw [show n - (i + 1) = b by omega, List.append_assoc]
          exact hrow
        · rw [h3, List.map_append]
          rfl
    · intro σ H' hp
      obtain ⟨_, s, L, y, acc, hg, hlen, hrow, rfl, e2, hl2⟩ := (hPv _ _ _).mp hp
      simp only [tSeq, tIfS, tOr, tAnd, tNot, tB, tTest, tCB, tCall, tCons, tVar, tNil, tC, tRet, tRetN, tNext, tAsg, gName, tDrop, tOp, tUn, tAug, ipI, tPar, tIf, tAndV, tOrV, tNotV, tChain, tNever, rI0, rI, rU, L2.start, cxK, List.map_cons, List.map_nil, List.length_cons, List.length_nil, Nat.reduceAdd, Nat.reduceSub, List.replicate, List.cons_append, List.nil_append, List.append_nil, List.set_cons_zero, List.set_cons_succ, List.getElem?_cons_zero, List.getElem?_cons_succ, Option.some.injEq, V.int.injEq, V.bl.injEq, exists_eq_left', exists_eq_left, exists_and_left, tFor_eq, iRng1, iRng2, iRng3, iList, iEnum, iZip, iTup, tLst_eq, tTup_eq, rCat_eq, rCatS, rSum, rAppend_eq, rListOf, rSlL_eq, tSl, tNoPart, tPart, tLc_eq, tBM, rIxL, rIxT, min3_eq, rEq_int, rNe_int, min_if, max_if, and_assoc, V.ref.injEq, V.str.injEq, List.cons.injEq, and_true, true_and, ↓reduceIte, Bool.false_eq_true, Bool.not_true, Bool.not_false, Int.reduceToNat, Int.reducePow, Int.reduceAdd, Int.reduceSub, Int.reduceNeg]
      rw [Nat.sub_self] at hrow
      rw [show acc = row p g n 0 d from (List.append_nil acc).symm.trans hrow] at hl2
      exact q l H' nl e2 hl2
end
end FW

set_option Elab.async false
set_option linter.all false
set_option maxRecDepth 100000
set_option maxHeartbeats 4000000
namespace FW
open PySem PySem.Spec PyProof.Rows L2 Evl
section
variable {P : Program} {w : World} {K : PySem.W.Frag} {mg : Str → Option Value} {base : Heap}
/-! ### the law's draws -/
def sp__law_wide : Sp := fun vs H Q _ => ∃ (c : Int) (k : Nat), vs = [.int c, .int k] ∧ k ≤ 2000 ∧ ∀ n : Int, 0 ≤ n → Q (.int n) H
theorem nat_lt {i : Int} {a : Nat} (h0 : 0 ≤ i) (h : i < 2 ^ a) : i.natAbs < 2 ^ a := by
  have e : ((2 ^ a : Nat) : Int) = (2 : Int) ^ a := by rw [Int.natCast_pow]; rfl
  omega
theorem ok__law_wide (B : Bt mg) {f : Addr} {fd : FuncData} (F : Fun K "_law_wide" "_law_wide" s__law_wide f fd) : FnOk P w K mg base CX0 1 f fd ["_law_cell", "_law_k"] sp__law_wide := by
  refine F.ok sc__law_wide (fun vs H Q E h => ?_) (fun cdv A outer s H vs Q E hr h => ?_)
  · obtain ⟨c, k, rfl, _⟩ := h
    rfl
  · obtain ⟨c, k, rfl, hk, q⟩ := h
    refine ⟨_, (pss_cons (ps_set (i := 0) sc__law_wide.nd rfl (.inl rfl) (pe_op op_mulW (pe_op op_add (pe_op op_add (pe_op op_add (pe_op op_mod (pv 0) (pe_op op_pow pe_int pe_int)) (pe_op op_mulW (pe_op op_mulW pe_int (pv 1)) (pv 1))) (pe_op op_mulW pe_int (pv 1))) pe_int) pe_int))
      (pss_one (ps_ret (pe_op op_fdivW (pe_op op_mod (pe_op op_mulW (pv 0) (pv 0)) pe_int) (pe_op op_pow pe_int pe_int))))), ?_⟩
    simp only [tSeq, tIfS, tOr, tAnd, tNot, tB, tTest, tCB, tCall, tCons, tVar, tNil, tC, tRet, tRetN, tNext, tAsg, gName, tDrop, tOp, tUn, tAug, ipI, tPar, tIf, tAndV, tOrV, tNotV, tChain, tNever, rI0, rI, rU, L2.start, cxK, List.map_cons, List.map_nil, List.length_cons, List.length_nil, Nat.reduceAdd, Nat.reduceSub, List.replicate, List.cons_append, List.nil_append, List.append_nil, List.set_cons_zero, List.set_cons_succ, List.getElem?_cons_zero, List.getElem?_cons_succ, Option.some.injEq, V.int.injEq, V.bl.injEq, exists_eq_left', exists_eq_left, exists_and_left, tFor_eq, iRng1, iRng2, iRng3, iList, iEnum, iZip, iTup, tLst_eq, tTup_eq, rCat_eq, rCatS, rSum, rAppend_eq, rListOf, rSlL_eq, tSl, tNoPart, tPart, tLc_eq, tBM, rIxL, rIxT, min3_eq, rEq_int, rNe_int, min_if, max_if, and_assoc, V.ref.injEq, V.str.injEq, List.cons.injEq, and_true, true_and, ↓reduceIte, Bool.false_eq_true, Bool.not_true, Bool.not_false, Int.reduceToNat, Int.reducePow, Int.reduceAdd, Int.reduceSub, Int.reduceNeg]
    have k1 : (k : Int).natAbs < 2 ^ 11 := by omega
    have z1 : (104729 * (k : Int)).natAbs < 2 ^ 17 * 2 ^ 11 := by omega
    have m0 : 0 ≤ c % 1000000000000000000000000000000000000000000000000000000000000 := Int.emod_nonneg _ (by decide)
    have m1 : c % 1000000000000000000000000000000000000000000000000000000000000 < 1000000000000000000000000000000000000000000000000000000000000 := Int.emod_lt_of_pos _ (by decide)
    have sq : 0 ≤ 104729 * (k : Int) * (k : Int) := Int.mul_nonneg (by omega) (by omega)
    have sq1 : 104729 * (k : Int) * (k : Int) ≤ 104729 * 2000 * 2000 := Int.mul_le_mul (by omega) (by omega) (by omega) (by omega)
    generalize c % 1000000000000000000000000000000000000000000000000000000000000 = r at *
    generalize e2 : 104729 * (k : Int) * (k : Int) = y at *
    have z2 : (r + y + 7919 * (k : Int) + 3).natAbs < 2 ^ 201 := nat_lt (by omega) (by omega)
    have z3 : ((r + y + 7919 * (k : Int) + 3) * 2862933555777941757).natAbs < 2 ^ 270 := nat_lt (by omega) (by omega)
    refine ⟨⟨by decide, by decide, by decide⟩, by decide, cmw (a := 17) (b := 11) (by decide) k1 (by decide) (by decide) (by decide), cmw (a := 28) (b := 11) (by omega) k1 (by decide) (by decide) (by decide), cmw (a := 17) (b := 11) (by decide) k1 (by decide) (by decide) (by decide),
      cmw (a := 201) (b := 64) z2 (by decide) (by decide) (by decide) (by decide), cmw z3 z3 (by decide) (by decide) (by decide), by decide, ⟨by decide, by decide, by decide⟩, cdw (by decide) (by decide), ?_⟩
    exact q _ (Int.ediv_nonneg (Int.emod_nonneg _ (by decide)) (by decide))
def Rate (r : Int) : Prop := 1 ≤ r ∧ r ≤ 1000000000
def sp__law_rate : Sp := fun vs H Q _ => ∃ (n : Int), vs = [.int n] ∧ 0 ≤ n ∧ ∀ (r : Int) H', Rate r → Ex H H' → Q (.int r) H'
theorem ok__law_rate (B : Bt mg) {f : Addr} {fd : FuncData} (F : Fun K "_law_rate" "_law_rate" s__law_rate f fd) : FnOk P w K mg base CX0 1 f fd ["_law_number"] sp__law_rate := by
  refine F.ok sc__law_rate (fun vs H Q E h => ?_) (fun cdv A outer s H vs Q E hr h => ?_)
  · obtain ⟨n, rfl, _⟩ := h
    rfl
  · obtain ⟨n, rfl, hn, q⟩ := h
    refine ⟨_, (pss_cons (ps_set (i := 1) sc__law_rate.nd rfl (.inl rfl) (pe_op op_pow pe_int pe_int))
      (pss_one (ps_ret (pe_ix (k_ixl (K := K) rfl) (pe_lst (pa_cons (pe_op op_add pe_int (pe_op op_mod (pe_op op_fdivW (pv 0) pe_int) pe_int)) (pa_cons (pe_op op_add pe_int (pe_op op_mod (pe_op op_fdivW (pv 0) pe_int) pe_int)) (pa_cons (pe_op op_add pe_int (pe_op op_mod (pe_op op_fdivW (pv 0) pe_int) (pv 1))) (pa_cons (pv 1) (pa_cons pe_int (pa_cons pe_int (pa_cons pe_int (pa_cons pe_int pa_nil))))))))) (pe_op op_mod (pv 0) pe_int) (fun _ _ => rfl))))), ?_⟩
    simp only [tSeq, tIfS, tOr, tAnd, tNot, tB, tTest, tCB, tCall, tCons, tVar, tNil, tC, tRet, tRetN, tNext, tAsg, gName, tDrop, tOp, tUn, tAug, ipI, tPar, tIf, tAndV, tOrV, tNotV, tChain, tNever, rI0, rI, rU, L2.start, cxK, List.map_cons, List.map_nil, List.length_cons, List.length_nil, Nat.reduceAdd, Nat.reduceSub, List.replicate, List.cons_append, List.nil_append, List.append_nil, List.set_cons_zero, List.set_cons_succ, List.getElem?_cons_zero, List.getElem?_cons_succ, Option.some.injEq, V.int.injEq, V.bl.injEq, exists_eq_left', exists_eq_left, exists_and_left, tFor_eq, iRng1, iRng2, iRng3, iList, iEnum, iZip, iTup, tLst_eq, tTup_eq, rCat_eq, rCatS, rSum, rAppend_eq, rListOf, rSlL_eq, tSl, tNoPart, tPart, tLc_eq, tBM, rIxL, rIxT, min3_eq, rEq_int, rNe_int, min_if, max_if, and_assoc, V.ref.injEq, V.str.injEq, List.cons.injEq, and_true, true_and, ↓reduceIte, Bool.false_eq_true, Bool.not_true, Bool.not_false, Int.reduceToNat, Int.reducePow, Int.reduceAdd, Int.reduceSub, Int.reduceNeg]
    refine ⟨⟨by decide, by decide, by decide⟩, cdw (by decide) (by decide), by decide, cdw (by decide) (by decide), by decide, cdw (by decide) (by decide), by decide, sz_of (by decide), new_of fun p H1 np e hp => ⟨by decide, _, sq_of hp, ?_⟩⟩
    obtain ⟨v, hv, ha⟩ := at_mem (xs := [V.int (1 + n / 8 % 9), V.int (1 + n / 8 % 1000), V.int (1 + n / 8 % 1000000000), V.int 1000000000, V.int 1, V.int 2, V.int 7, V.int 3]) (i := n % 8) (by omega) (by show n % 8 < 8; omega)
    have hr : ∃ r, v = .int r ∧ Rate r := by
      simp only [List.mem_cons, List.not_mem_nil, or_false] at hv
      rcases hv with rfl | rfl | rfl | rfl | rfl | rfl | rfl | rfl <;> exact ⟨_, rfl, by unfold Rate; omega⟩
    obtain ⟨r, rfl, hr⟩ := hr
    exact ⟨_, ha, q r H1 hr e⟩
def sp__law_reach : Sp := fun vs H Q _ => ∃ (m : Nat) (p g : Int), vs = [.int m, .int p, .int g] ∧ m ≤ 1000 ∧ 1 ≤ g ∧ g ≤ 1000000000 ∧ RetV (.int (U p g 0 m)) H Q
theorem ok__law_reach (B : Bt mg) {f : Addr} {fd : FuncData} (F : Fun K "_law_reach" "_law_reach" s__law_reach f fd) : FnOk P w K mg base CX0 1 f fd ["_law_many", "_law_pace", "_law_gain"] sp__law_reach := by
  refine F.ok sc__law_reach (fun vs H Q E h => ?_) (fun cdv A outer s H vs Q E hr h => ?_)
  · obtain ⟨m, p, g, rfl, _⟩ := h
    rfl
  · obtain ⟨m, p, g, rfl, hm, h1, h2, q⟩ := h
    refine ⟨_, (pss_one (ps_ret (pe_callB (k_sum (K := K) rfl (by rfl)) (by rfl) B.b_sum (by decide +kernel) (pa_cons (pe_lc (own := [("_law_k", 3)]) (g := gName 3) (tt := tYes) (by rfl) sc__law_reach.nd (pi_range1 (by rfl) B.b_range (pa_cons (pv 0) pa_nil)) (blkOk_by (own := [("_law_k", 3)]) (N := ["_law_many", "_law_pace", "_law_gain", "_law_k"]) (sc := defScope s__law_reach) (by decide +kernel)) (fun _ _ _ _ _ => (pg_name (i := 3) sc__law_reach.nd rfl (.inl rfl))) (fun _ _ _ _ _ => pts_nil) (fun _ _ _ _ _ => (pe_callB (call_min3Nu rfl) (by rfl) B.b_min (by decide +kernel) (pa_cons (pv 1) (pa_cons (pe_op op_mul (pv 2) (pe_op op_add (pv 3) pe_int)) (pa_cons (pe_op op_mul (pv 2) (pe_op op_sub (pv 0) (pv 3))) pa_nil)))))) pa_nil)))), ?_⟩
    simp only [tSeq, tIfS, tOr, tAnd, tNot, tB, tTest, tCB, tCall, tCons, tVar, tNil, tC, tRet, tRetN, tNext, tAsg, gName, tDrop, tOp, tUn, tAug, ipI, tPar, tIf, tAndV, tOrV, tNotV, tChain, tNever, rI0, rI, rU, L2.start, cxK, List.map_cons, List.map_nil, List.length_cons, List.length_nil, Nat.reduceAdd, Nat.reduceSub, List.replicate, List.cons_append, List.nil_append, List.append_nil, List.set_cons_zero, List.set_cons_succ, List.getElem?_cons_zero, List.getElem?_cons_succ, Option.some.injEq, V.int.injEq, V.bl.injEq, exists_eq_left', exists_eq_left, exists_and_left, tFor_eq, iRng1, iRng2, iRng3, iList, iEnum, iZip, iTup, tLst_eq, tTup_eq, rCat_eq, rCatS, rSum, rAppend_eq, rListOf, rSlL_eq, tSl, tNoPart, tPart, tLc_eq, tBM, rIxL, rIxT, min3_eq, rEq_int, rNe_int, min_if, max_if, and_assoc, V.ref.injEq, V.str.injEq, List.cons.injEq, and_true, true_and, ↓reduceIte, Bool.false_eq_true, Bool.not_true, Bool.not_false, Int.reduceToNat, Int.reducePow, Int.reduceAdd, Int.reduceSub, Int.reduceNeg]
    refine ⟨by omega, by omega, fun Dl hD => lc_gives walk_range (fun k => some (.int (top p g 0 m k))) hD (fun _ _ => trivial) ?_ ?_⟩
    · rintro i x H0 H' hi e0 hl ⟨rfl, rfl⟩
      simp only [tSeq, tIfS, tOr, tAnd, tNot, tB, tTest, tCB, tCall, tCons, tVar, tNil, tC, tRet, tRetN, tNext, tAsg, gName, tDrop, tOp, tUn, tAug, ipI, tPar, tIf, tAndV, tOrV, tNotV, tChain, tNever, rI0, rI, rU, L2.start, cxK, List.map_cons, List.map_nil, List.length_cons, List.length_nil, Nat.reduceAdd, Nat.reduceSub, List.replicate, List.cons_append, List.nil_append, List.append_nil, List.set_cons_zero, List.set_cons_succ, List.getElem?_cons_zero, List.getElem?_cons_succ, Option.some.injEq, V.int.injEq, V.bl.injEq, exists_eq_left', exists_eq_left, exists_and_left, tFor_eq, iRng1, iRng2, iRng3, iList, iEnum, iZip, iTup, tLst_eq, tTup_eq, rCat_eq, rCatS, rSum, rAppend_eq, rListOf, rSlL_eq, tSl, tNoPart, tPart, tLc_eq, tBM, rIxL, rIxT, min3_eq, rEq_int, rNe_int, min_if, max_if, and_assoc, V.ref.injEq, V.str.injEq, List.cons.injEq, and_true, true_and, ↓reduceIte, Bool.false_eq_true, Bool.not_true, Bool.not_false, Int.reduceToNat, Int.reducePow, Int.reduceAdd, Int.reduceSub, Int.reduceNeg, wipe, tYes]
      refine ⟨.inl ⟨by omega, by omega⟩, .inl ⟨by omega, by omega⟩, put_of hD e0 hl (sz_lt (by omega)) ?_⟩
      unfold top
      simp only [Int.zero_add]
    · intro H' e h
      rw [gives_map] at h
      have e2 : (List.range (m : Int).toNat).map (fun k => V.int (top p g 0 m k)) = ((List.range m).map (top p g 0 m)).map V.int := by
        rw [List.map_map]
        rfl
      rw [e2] at h
      refine ⟨_, rfl, _, sq_of h, ?_⟩
      rw [sum_S]
      exact q H' e
/-- the least that the steps behind may come to, from below -/
def sp__law_least : Sp := fun vs H Q _ => ∃ (s : Int) (b : Nat) (g : Int), vs = [.int s, .int b, .int g] ∧ b ≤ 1000 ∧ ∀ z : Int, s * (b : Int) - g * tri b ≤ z → Q (.int z) H
theorem ok__law_least (B : Bt mg) {f : Addr} {fd : FuncData} (F : Fun K "_law_least" "_law_least" s__law_least f fd) : FnOk P w K mg base CX0 1 f fd ["_law_step", "_law_many", "_law_gain"] sp__law_least := by
  refine F.ok sc__law_least (fun vs H Q E h => ?_) (fun cdv A outer s H vs Q E hr h => ?_)
  · obtain ⟨s, b, g, rfl, _⟩ := h
    rfl
  · obtain ⟨s, b, g, rfl, hb, q⟩ := h
    refine ⟨_, (pss_cons (ps_set (i := 3) sc__law_least.nd rfl (.inl rfl) pe_int)
      (pss_cons (ps_for PassesOwn.never rfl (pi_range1 (by rfl) B.b_range (pa_cons (pv 1) pa_nil)) (pg_name (i := 4) sc__law_least.nd rfl (.inl rfl))
        (pss_cons (ps_set (i := 0) sc__law_least.nd rfl (.inl rfl) (pe_callB (call_max2 rfl) (by rfl) B.b_max (by decide +kernel) (pa_cons pe_int (pa_cons (pe_op op_sub (pv 0) (pv 2)) pa_nil))))
      (pss_one (ps_set (i := 3) sc__law_least.nd rfl (.inl rfl) (pe_op op_add (pv 3) (pv 0))))))
      (pss_one (ps_ret (pv 3))))), ?_⟩
    simp only [tSeq, tIfS, tOr, tAnd, tNot, tB, tTest, tCB, tCall, tCons, tVar, tNil, tC, tRet, tRetN, tNext, tAsg, gName, tDrop, tOp, tUn, tAug, ipI, tPar, tIf, tAndV, tOrV, tNotV, tChain, tNever, rI0, rI, rU, L2.start, cxK, List.map_cons, List.map_nil, List.length_cons, List.length_nil, Nat.reduceAdd, Nat.reduceSub, List.replicate, List.cons_append, List.nil_append, List.append_nil, List.set_cons_zero, List.set_cons_succ, List.getElem?_cons_zero, List.getElem?_cons_succ, Option.some.injEq, V.int.injEq, V.bl.injEq, exists_eq_left', exists_eq_left, exists_and_left, tFor_eq, iRng1, iRng2, iRng3, iList, iEnum, iZip, iTup, tLst_eq, tTup_eq, rCat_eq, rCatS, rSum, rAppend_eq, rListOf, rSlL_eq, tSl, tNoPart, tPart, tLc_eq, tBM, rIxL, rIxT, min3_eq, rEq_int, rNe_int, min_if, max_if, and_assoc, V.ref.injEq, V.str.injEq, List.cons.injEq, and_true, true_and, ↓reduceIte, Bool.false_eq_true, Bool.not_true, Bool.not_false, Int.reduceToNat, Int.reducePow, Int.reduceAdd, Int.reduceSub, Int.reduceNeg]
    obtain ⟨Pv, hPv⟩ : ∃ Pv : Nat → L2.St → Hp → Prop, ∀ i σ H', Pv i σ H' ↔ H' = H ∧ ∃ (t z : Int) (y : Option V), s - g * (i : Int) ≤ t ∧ s * (i : Int) - g * tri i ≤ z ∧ σ = [some (.int t), some (.int b), some (.int g), some (.int z), y] := ⟨_, fun _ _ _ => Iff.rfl⟩
    refine ⟨by omega, by omega, loop_range Pv ((hPv _ _ _).mpr ⟨rfl, s, 0, none, by simp, ?_, rfl⟩) ?_ ?_⟩
    · show s * 0 - g * 0 ≤ 0
      omega
    · intro i σ H' hi hp
      obtain ⟨rfl, t, z, y, h1, h2, rfl⟩ := (hPv _ _ _).mp hp
      simp only [tSeq, tIfS, tOr, tAnd, tNot, tB, tTest, tCB, tCall, tCons, tVar, tNil, tC, tRet, tRetN, tNext, tAsg, gName, tDrop, tOp, tUn, tAug, ipI, tPar, tIf, tAndV, tOrV, tNotV, tChain, tNever, rI0, rI, rU, L2.start, cxK, List.map_cons, List.map_nil, List.length_cons, List.length_nil, Nat.reduceAdd, Nat.reduceSub, List.replicate, List.cons_append, List.nil_append, List.append_nil, List.set_cons_zero, List.set_cons_succ, List.getElem?_cons_zero, List.getElem?_cons_succ, Option.some.injEq, V.int.injEq, V.bl.injEq, exists_eq_left', exists_eq_left, exists_and_left, tFor_eq, iRng1, iRng2, iRng3, iList, iEnum, iZip, iTup, tLst_eq, tTup_eq, rCat_eq, rCatS, rSum, rAppend_eq, rListOf, rSlL_eq, tSl, tNoPart, tPart, tLc_eq, tBM, rIxL, rIxT, min3_eq, rEq_int, rNe_int, min_if, max_if, and_assoc, V.ref.injEq, V.str.injEq, List.cons.injEq, and_true, true_and, ↓reduceIte, Bool.false_eq_true, Bool.not_true, Bool.not_false, Int.reduceToNat, Int.reducePow, Int.reduceAdd, Int.reduceSub, Int.reduceNeg]
      have e1 : ((i + 1 : Nat) : Int) = (i : Int) + 1 := by omega
      have e2 : g * ((i : Int) + 1) = g * (i : Int) + g := by rw [Int.mul_add, Int.mul_one]
      have e3 : s * ((i : Int) + 1) = s * (i : Int) + s := by rw [Int.mul_add, Int.mul_one]
      have e4 : g * tri (i + 1) = g * tri i + (g * (i : Int) + g) := by
        show g * (tri i + ((i : Int) + 1)) = _
        rw [Int.mul_add, e2]
      refine (hPv _ _ _).mpr ⟨rfl, _, _, _, ?_, ?_, rfl⟩
      · rw [e1, e2]
        omega
      · rw [e1, e3, e4]
        omega
    · intro σ H' hp
      obtain ⟨rfl, t, z, y, h1, h2, rfl⟩ := (hPv _ _ _).mp hp
      simp only [tSeq, tIfS, tOr, tAnd, tNot, tB, tTest, tCB, tCall, tCons, tVar, tNil, tC, tRet, tRetN, tNext, tAsg, gName, tDrop, tOp, tUn, tAug, ipI, tPar, tIf, tAndV, tOrV, tNotV, tChain, tNever, rI0, rI, rU, L2.start, cxK, List.map_cons, List.map_nil, List.length_cons, List.length_nil, Nat.reduceAdd, Nat.reduceSub, List.replicate, List.cons_append, List.nil_append, List.append_nil, List.set_cons_zero, List.set_cons_succ, List.getElem?_cons_zero, List.getElem?_cons_succ, Option.some.injEq, V.int.injEq, V.bl.injEq, exists_eq_left', exists_eq_left, exists_and_left, tFor_eq, iRng1, iRng2, iRng3, iList, iEnum, iZip, iTup, tLst_eq, tTup_eq, rCat_eq, rCatS, rSum, rAppend_eq, rListOf, rSlL_eq, tSl, tNoPart, tPart, tLc_eq, tBM, rIxL, rIxT, min3_eq, rEq_int, rNe_int, min_if, max_if, and_assoc, V.ref.injEq, V.str.injEq, List.cons.injEq, and_true, true_and, ↓reduceIte, Bool.false_eq_true, Bool.not_true, Bool.not_false, Int.reduceToNat, Int.reducePow, Int.reduceAdd, Int.reduceSub, Int.reduceNeg]
      exact q z (by simpa using h2)
theorem few_of {p g d : Int} (hp : Rate p) (hg : Rate g) (hd : 0 ≤ d) : ∀ m : Nat, m ≤ 200 → d ≤ U p g 0 m → ∃ n, Few p g d n
  | 0, h, hm => ⟨0, hp.1, hp.2, hg.1, hg.2, hd, h, hm, fun b e => by omega⟩
  | m + 1, h, hm => by
    by_cases c : d ≤ U p g 0 m
    · exact few_of hp hg hd m (by omega) c
    · exact ⟨m + 1, hp.1, hp.2, hg.1, hg.2, hd, h, hm, fun b e => by
        have : b = m := by omega
        subst this
        omega⟩
def sp__law_distance : Sp := fun vs H Q _ => ∃ (n p g : Int), vs = [.int n, .int p, .int g] ∧ 0 ≤ n ∧ Rate p ∧ Rate g ∧ ∀ (d : Int) (m : Nat) H', Few p g d m → d ≤ 1000000000000 → Ex H H' → Q (.int d) H'
theorem ok__law_distance (B : Bt mg) (F__law_reach : Fn P w K mg base "_law_reach" ["_law_many", "_law_pace", "_law_gain"] CX0 1 sp__law_reach) {f : Addr} {fd : FuncData} (F : Fun K "_law_distance" "_law_distance" s__law_distance f fd) : FnOk P w K mg base CX0 2 f fd ["_law_number", "_law_pace", "_law_gain"] sp__law_distance := by
  refine F.ok sc__law_distance (fun vs H Q E h => ?_) (fun cdv A outer s H vs Q E hr h => ?_)
  · obtain ⟨n, p, g, rfl, _⟩ := h
    rfl
  · obtain ⟨n, p, g, rfl, hn, hp, hg, q⟩ := h
    refine ⟨_, (pss_cons (ps_set (i := 3) sc__law_distance.nd rfl (.inl rfl) (pe_ix (k_ixl (K := K) rfl) (pe_lst (pa_cons pe_int (pa_cons pe_int (pa_cons pe_int (pa_cons pe_int (pa_cons pe_int (pa_cons pe_int (pa_cons pe_int (pa_cons pe_int (pa_cons pe_int (pa_cons pe_int pa_nil))))))))))) (pe_op op_mod (pv 0) pe_int) (fun _ _ => rfl)))
      (pss_cut (ps_if (pt_cmpR op_eq (pe_op op_mod (pe_op op_fdivW (pv 0) pe_int) pe_int) pe_int (nomark _))
        (pss_one (ps_set (i := 3) sc__law_distance.nd rfl (.inl rfl) (pe_op op_mod (pe_op op_fdivW (pv 0) pe_int) (pe_op op_add (pv 3) pe_int))))
        pss_nil)
      (pss_cons (ps_set (i := 4) sc__law_distance.nd rfl (.inl rfl) (pe_fn F__law_reach (hr.mono (by decide)) (pa_cons (pv 3) (pa_cons (pv 1) (pa_cons (pv 2) pa_nil)))))
      (pss_cons (ps_set (i := 5) sc__law_distance.nd rfl (.inl rfl) (pe_lst (pa_cons (pv 4) (pa_cons (pe_callB (call_max2 rfl) (by rfl) B.b_max (by decide +kernel) (pa_cons pe_int (pa_cons (pe_op op_sub (pv 4) pe_int) pa_nil))) (pa_cons (pe_callB (call_max2 rfl) (by rfl) B.b_max (by decide +kernel) (pa_cons pe_int (pa_cons (pe_op op_sub (pv 4) pe_int) pa_nil))) (pa_cons (pe_op op_mod (pe_op op_fdivW (pv 0) (pe_op op_pow pe_int pe_int)) (pe_op op_add (pv 4) pe_int)) (pa_cons (pe_op op_mod (pe_op op_fdivW (pv 0) (pe_op op_pow pe_int pe_int)) (pe_op op_add (pv 4) pe_int)) pa_nil)))))))
      (pss_cut (ps_if (pt_cmpR op_lt (pv 3) pe_int (nomark _))
        (pss_one (ps_set (i := 5) sc__law_distance.nd rfl (.inl rfl) (pe_op (k_catS (K := K) rfl) (pv 5) (pe_lst (pa_cons (pe_op op_add (pv 4) pe_int) (pa_cons (pv 3) (pa_cons (pe_op op_mod (pe_op op_fdivW (pv 0) (pe_op op_pow pe_int pe_int)) (pe_op op_add (pv 4) pe_int)) pa_nil)))))))
        pss_nil)
      (pss_one (ps_ret (pe_callB (call_min2 rfl) (by rfl) B.b_min (by decide +kernel) (pa_cons (pe_op op_pow pe_int pe_int) (pa_cons (pe_ix (k_ixl (K := K) rfl) (pv 5) (pe_op op_mod (pe_op op_fdivW (pv 0) pe_int) (pe_callB (k_len (K := K) rfl) (by rfl) B.b_len (by decide +kernel) (pa_cons (pv 5) pa_nil))) (fun _ _ => rfl)) pa_nil)))))))))), ?_⟩
    simp only [tSeq, tIfS, tOr, tAnd, tNot, tB, tTest, tCB, tCall, tCons, tVar, tNil, tC, tRet, tRetN, tNext, tAsg, gName, tDrop, tOp, tUn, tAug, ipI, tPar, tIf, tAndV, tOrV, tNotV, tChain, tNever, rI0, rI, rU, L2.start, cxK, List.map_cons, List.map_nil, List.length_cons, List.length_nil, Nat.reduceAdd, Nat.reduceSub, List.replicate, List.cons_append, List.nil_append, List.append_nil, List.set_cons_zero, List.set_cons_succ, List.getElem?_cons_zero, List.getElem?_cons_succ, Option.some.injEq, V.int.injEq, V.bl.injEq, exists_eq_left', exists_eq_left, exists_and_left, tFor_eq, iRng1, iRng2, iRng3, iList, iEnum, iZip, iTup, tLst_eq, tTup_eq, rCat_eq, rCatS, rSum, rAppend_eq, rListOf, rSlL_eq, tSl, tNoPart, tPart, tLc_eq, tBM, rIxL, rIxT, min3_eq, rEq_int, rNe_int, min_if, max_if, and_assoc, V.ref.injEq, V.str.injEq, List.cons.injEq, and_true, true_and, ↓reduceIte, Bool.false_eq_true, Bool.not_true, Bool.not_false, Int.reduceToNat, Int.reducePow, Int.reduceAdd, Int.reduceSub, Int.reduceNeg]
    refine ⟨sz_of (by decide), new_of fun l1 H1 n1 e1 h1 => ⟨by decide, _, sq_of h1, ?_⟩⟩
    obtain ⟨v, hv, ha⟩ := at_mem (xs := [V.int 0, V.int 1, V.int 2, V.int 3, V.int 5, V.int 9, V.int 20, V.int 40, V.int 12, V.int 200]) (i := n % 10) (by omega) (by show n % 10 < 10; omega)
    have hr : ∃ r : Nat, v = .int r ∧ r ≤ 200 := by
      simp only [List.mem_cons, List.not_mem_nil, or_false] at hv
      rcases hv with rfl | rfl | rfl | rfl | rfl | rfl | rfl | rfl | rfl | rfl
      · exact ⟨0, rfl, by decide⟩
      · exact ⟨1, rfl, by decide⟩
      · exact ⟨2, rfl, by decide⟩
      · exact ⟨3, rfl, by decide⟩
      · exact ⟨5, rfl, by decide⟩
      · exact ⟨9, rfl, by decide⟩
      · exact ⟨20, rfl, by decide⟩
      · exact ⟨40, rfl, by decide⟩
      · exact ⟨12, rfl, by decide⟩
      · exact ⟨200, rfl, by decide⟩
    obtain ⟨r, rfl, hr⟩ := hr
    obtain ⟨M, hM⟩ : ∃ M : L2.St → Hp → Prop, ∀ σ H', M σ H' ↔ ∃ m : Nat, m ≤ 200 ∧ σ = [some (.int n), some (.int p), some (.int g), some (.int m), none, none] ∧ Ex H H' := ⟨_, fun _ _ => Iff.rfl⟩
    refine ⟨_, ha, q_cut (M := M) ?_ ?_⟩
    · simp only [tSeq, tIfS, tOr, tAnd, tNot, tB, tTest, tCB, tCall, tCons, tVar, tNil, tC, tRet, tRetN, tNext, tAsg, gName, tDrop, tOp, tUn, tAug, ipI, tPar, tIf, tAndV, tOrV, tNotV, tChain, tNever, rI0, rI, rU, L2.start, cxK, List.map_cons, List.map_nil, List.length_cons, List.length_nil, Nat.reduceAdd, Nat.reduceSub, List.replicate, List.cons_append, List.nil_append, List.append_nil, List.set_cons_zero, List.set_cons_succ, List.getElem?_cons_zero, List.getElem?_cons_succ, Option.some.injEq, V.int.injEq, V.bl.injEq, exists_eq_left', exists_eq_left, exists_and_left, tFor_eq, iRng1, iRng2, iRng3, iList, iEnum, iZip, iTup, tLst_eq, tTup_eq, rCat_eq, rCatS, rSum, rAppend_eq, rListOf, rSlL_eq, tSl, tNoPart, tPart, tLc_eq, tBM, rIxL, rIxT, min3_eq, rEq_int, rNe_int, min_if, max_if, and_assoc, V.ref.injEq, V.str.injEq, List.cons.injEq, and_true, true_and, ↓reduceIte, Bool.false_eq_true, Bool.not_true, Bool.not_false, Int.reduceToNat, Int.reducePow, Int.reduceAdd, Int.reduceSub, Int.reduceNeg]
      refine ⟨cdw (by decide) (by decide), by decide, ite2 (fun _ => ?_) (fun _ => (hM _ _).mpr ⟨r, hr, rfl, e1⟩)⟩
      refine ⟨cdw (by decide) (by decide), by omega, (hM _ _).mpr ⟨(n / 30 % ((r : Int) + 1)).toNat, ?_, ?_, e1⟩⟩
      · have := Int.emod_lt_of_pos (n / 30) (show (0 : Int) < (r : Int) + 1 by omega)
        omega
      · rw [Int.toNat_of_nonneg (Int.emod_nonneg _ (by omega))]
    · intro σ H2 hp2
      obtain ⟨m, hm, rfl, e2⟩ := (hM _ _).mp hp2
      simp only [tSeq, tIfS, tOr, tAnd, tNot, tB, tTest, tCB, tCall, tCons, tVar, tNil, tC, tRet, tRetN, tNext, tAsg, gName, tDrop, tOp, tUn, tAug, ipI, tPar, tIf, tAndV, tOrV, tNotV, tChain, tNever, rI0, rI, rU, L2.start, cxK, List.map_cons, List.map_nil, List.length_cons, List.length_nil, Nat.reduceAdd, Nat.reduceSub, List.replicate, List.cons_append, List.nil_append, List.append_nil, List.set_cons_zero, List.set_cons_succ, List.getElem?_cons_zero, List.getElem?_cons_succ, Option.some.injEq, V.int.injEq, V.bl.injEq, exists_eq_left', exists_eq_left, exists_and_left, tFor_eq, iRng1, iRng2, iRng3, iList, iEnum, iZip, iTup, tLst_eq, tTup_eq, rCat_eq, rCatS, rSum, rAppend_eq, rListOf, rSlL_eq, tSl, tNoPart, tPart, tLc_eq, tBM, rIxL, rIxT, min3_eq, rEq_int, rNe_int, min_if, max_if, and_assoc, V.ref.injEq, V.str.injEq, List.cons.injEq, and_true, true_and, ↓reduceIte, Bool.false_eq_true, Bool.not_true, Bool.not_false, Int.reduceToNat, Int.reducePow, Int.reduceAdd, Int.reduceSub, Int.reduceNeg]
      have p1 := hp.1
      have g1 := hg.1
      refine ⟨m, p, g, rfl, by omega, hg.1, hg.2, fun H3 e3 => ?_⟩
      have far := U_ge hp.1 hg.1 (Int.le_refl 0) m
      have top_ := U_mono (p := p) (g := g) (by omega) (by omega) hm
      have more : m < 200 → U p g 0 m + 1 ≤ U p g 0 200 := fun h => by
        have a := U_mono (p := p) (g := g) (by omega) (by omega) (show m + 1 ≤ 200 by omega)
        rw [U_reach p g (by omega) (by omega) (m + 1)] at a
        rw [U_reach p g (by omega) (by omega) m]
        have b : 1 ≤ added p g (m + 1) := by
          unfold added
          have : 1 ≤ g * ((((m + 1 : Nat) : Int) + 1) / 2) := pos_mul hg.1 (by omega)
          omega
        have a : S (added p g) (m + 1) + added p g (m + 1) ≤ U p g 0 200 := a
        omega
      have ml : ∀ z : Int, 0 ≤ z % (U p g 0 m + 1) ∧ z % (U p g 0 m + 1) ≤ U p g 0 m := fun z => ⟨Int.emod_nonneg _ (by omega), by
        have := Int.emod_lt_of_pos z (show 0 < U p g 0 m + 1 by omega)
        omega⟩
      generalize U p g 0 m = far_ at *
      refine ⟨_, rfl, _, rfl, ⟨by decide, by decide, by decide⟩, cdw (by decide) (by decide), _, rfl, by omega, ⟨by decide, by decide, by decide⟩, cdw (by decide) (by decide), _, rfl, by omega, sz_of (by decide), new_of fun l2 H4 n4 e4 h4 => ?_⟩
      obtain ⟨M2, hM2⟩ : ∃ M : L2.St → Hp → Prop, ∀ σ H', M σ H' ↔ ∃ (l : Addr) (xs : List Int), σ = [some (.int n), some (.int p), some (.int g), some (.int m), some (.int far_), some (.ref l)] ∧ Ex H H' ∧ H' l = some (.lst (xs.map V.int)) ∧ 0 < xs.length ∧ xs.length ≤ 8 ∧ ∀ x ∈ xs, 0 ≤ x ∧ x ≤ U p g 0 200 := ⟨_, fun _ _ => Iff.rfl⟩
      refine q_cut (M := M2) ?_ ?_
      · simp only [tSeq, tIfS, tOr, tAnd, tNot, tB, tTest, tCB, tCall, tCons, tVar, tNil, tC, tRet, tRetN, tNext, tAsg, gName, tDrop, tOp, tUn, tAug, ipI, tPar, tIf, tAndV, tOrV, tNotV, tChain, tNever, rI0, rI, rU, L2.start, cxK, List.map_cons, List.map_nil, List.length_cons, List.length_nil, Nat.reduceAdd, Nat.reduceSub, List.replicate, List.cons_append, List.nil_append, List.append_nil, List.set_cons_zero, List.set_cons_succ, List.getElem?_cons_zero, List.getElem?_cons_succ, Option.some.injEq, V.int.injEq, V.bl.injEq, exists_eq_left', exists_eq_left, exists_and_left, tFor_eq, iRng1, iRng2, iRng3, iList, iEnum, iZip, iTup, tLst_eq, tTup_eq, rCat_eq, rCatS, rSum, rAppend_eq, rListOf, rSlL_eq, tSl, tNoPart, tPart, tLc_eq, tBM, rIxL, rIxT, min3_eq, rEq_int, rNe_int, min_if, max_if, and_assoc, V.ref.injEq, V.str.injEq, List.cons.injEq, and_true, true_and, ↓reduceIte, Bool.false_eq_true, Bool.not_true, Bool.not_false, Int.reduceToNat, Int.reducePow, Int.reduceAdd, Int.reduceSub, Int.reduceNeg]
        have m1 := ml (n / 10000)
        refine ite2 (fun hc => ?_) (fun _ => (hM2 _ _).mpr ⟨l2, [far_, max 0 (far_ - 1), max 0 (far_ - 2), n / 10000 % (far_ + 1), n / 10000 % (far_ + 1)], rfl, (e2.trans e3).trans e4, h4, by simp, by simp, ?_⟩)
        · have mo := more (by have := of_decide_eq_true hc; omega)
          refine ⟨⟨by decide, by decide, by decide⟩, cdw (by decide) (by decide), by omega, sz_of (by decide), new_of fun l3 H5 n5 e5 h5 => ?_⟩
          refine ⟨_, sq_of (e5 _ _ h4), _, sq_of h5, sz_of (by simp), new_of fun l4 H6 n6 e6 h6 => ?_⟩
          refine (hM2 _ _).mpr ⟨l4, [far_, max 0 (far_ - 1), max 0 (far_ - 2), n / 10000 % (far_ + 1), n / 10000 % (far_ + 1), far_ + 1, m, n / 10000 % (far_ + 1)], rfl, (((e2.trans e3).trans e4).trans e5).trans e6, h6, by simp, by simp, ?_⟩
          intro x hx
          simp only [List.mem_cons, List.not_mem_nil, or_false] at hx
          omega
        · intro x hx
          simp only [List.mem_cons, List.not_mem_nil, or_false] at hx
          omega
      · intro σ H5 hp5
        obtain ⟨l, xs, rfl, e5, h5, x1, x2, hx⟩ := (hM2 _ _).mp hp5
        simp only [tSeq, tIfS, tOr, tAnd, tNot, tB, tTest, tCB, tCall, tCons, tVar, tNil, tC, tRet, tRetN, tNext, tAsg, gName, tDrop, tOp, tUn, tAug, ipI, tPar, tIf, tAndV, tOrV, tNotV, tChain, tNever, rI0, rI, rU, L2.start, cxK, List.map_cons, List.map_nil, List.length_cons, List.length_nil, Nat.reduceAdd, Nat.reduceSub, List.replicate, List.cons_append, List.nil_append, List.append_nil, List.set_cons_zero, List.set_cons_succ, List.getElem?_cons_zero, List.getElem?_cons_succ, Option.some.injEq, V.int.injEq, V.bl.injEq, exists_eq_left', exists_eq_left, exists_and_left, tFor_eq, iRng1, iRng2, iRng3, iList, iEnum, iZip, iTup, tLst_eq, tTup_eq, rCat_eq, rCatS, rSum, rAppend_eq, rListOf, rSlL_eq, tSl, tNoPart, tPart, tLc_eq, tBM, rIxL, rIxT, min3_eq, rEq_int, rNe_int, min_if, max_if, and_assoc, V.ref.injEq, V.str.injEq, List.cons.injEq, and_true, true_and, ↓reduceIte, Bool.false_eq_true, Bool.not_true, Bool.not_false, Int.reduceToNat, Int.reducePow, Int.reduceAdd, Int.reduceSub, Int.reduceNeg]
        refine ⟨⟨by decide, by decide, by decide⟩, cdw (by decide) (by decide), _, .inl (sq_of h5), by rw [List.length_map]; omega, _, sq_of h5, ?_⟩
        obtain ⟨v, hv, ha⟩ := at_mem (xs := xs.map V.int) (i := n / 1000 % ((xs.map V.int).length : Int)) (Int.emod_nonneg _ (by rw [List.length_map]; omega)) (Int.emod_lt_of_pos _ (by rw [List.length_map]; omega))
        obtain ⟨x, hx2, rfl⟩ := List.mem_map.mp hv
        have b := hx x hx2
        refine ⟨_, ha, _, rfl, ?_⟩
        obtain ⟨k, hk⟩ := few_of (d := min 1000000000000 x) hp hg (by omega) 200 (Nat.le_refl _) (by omega)
        exact q _ k H5 hk (by omega) e5
theorem get_int {ns : List Int} {i : Nat} {x : V} (h : (ns.map V.int)[i]? = some x) : ∃ z, ns[i]? = some z ∧ x = .int z := by
  rw [List.getElem?_map] at h
  cases e : ns[i]? with
  | none =>
    rw [e] at h
    cases h
  | some z =>
    rw [e] at h
    exact ⟨z, rfl, (Option.some.inj h).symm⟩
/-! ### the law's looks -/
def lstI (ns : List Int) : HO := .lst (ns.map V.int)
def sp__law_is_greatest : Sp := fun vs H Q _ => ∃ (l : Addr) (d p g : Int) (n : Nat), vs = [.ref l, .int d, .int p, .int g] ∧ Few p g d n ∧ H l = some (lstI (row p g n 0 d)) ∧ RetV (.bl true) H Q
theorem row_drop {p g : Int} {n : Nat} {s L : Int} {acc : List Int} {b : Nat} {r : List Int} (h : acc ++ row p g (b + 1) s L = r) : r[acc.length]? = some (next p g s b L) := by
  rw [← h, List.getElem?_append_right (Nat.le_refl _), Nat.sub_self]
  rfl
theorem ok__law_is_greatest (B : Bt mg) (F__law_least : Fn P w K mg base "_law_least" ["_law_step", "_law_many", "_law_gain"] CX0 1 sp__law_least) {f : Addr} {fd : FuncData} (F : Fun K "_law_is_greatest" "_law_is_greatest" s__law_is_greatest f fd) : FnOk P w K mg base CX0 2 f fd ["_law_steps", "_law_distance_here", "_law_pace", "_law_gain"] sp__law_is_greatest := by
  refine F.ok sc__law_is_greatest (fun vs H Q E h => ?_) (fun cdv A outer s H vs Q E hr h => ?_)
  · obtain ⟨l, d, p, g, n, rfl, _⟩ := h
    rfl
  · obtain ⟨l, d, p, g, n, rfl, hn, hl, q⟩ := h
    have hn2 := hn.n2
    have g1 := hn.g1
    have g2 := hn.g2
    have len : ((row p g n 0 d).map V.int).length = n := by rw [List.length_map, row_len]
    refine ⟨_, (pss_cons (ps_set (i := 4) sc__law_is_greatest.nd rfl (.inl rfl) (pv 1))
      (pss_cons (ps_set (i := 5) sc__law_is_greatest.nd rfl (.inl rfl) pe_int)
      (pss_cons (ps_for PassesOwn.never rfl (pi_enum (by rfl) B.b_enumerate (pa_cons (pv 0) pa_nil)) (k_pgt (K := K) rfl rfl (pgs_cons (pg_name (i := 6) sc__law_is_greatest.nd rfl (.inl rfl)) (pgs_cons (pg_name (i := 7) sc__law_is_greatest.nd rfl (.inl rfl)) pgs_nil)))
        (pss_cons (ps_set (i := 8) sc__law_is_greatest.nd rfl (.inl rfl) (pe_op op_sub (pe_op op_sub (pe_callB (k_len (K := K) rfl) (by rfl) B.b_len (by decide +kernel) (pa_cons (pv 0) pa_nil)) pe_int) (pv 6)))
      (pss_cons (ps_set (i := 9) sc__law_is_greatest.nd rfl (.inl rfl) (pe_callB (call_min3Nu rfl) (by rfl) B.b_min (by decide +kernel) (pa_cons (pv 2) (pa_cons (pe_op op_add (pv 5) (pv 3)) (pa_cons (pe_op op_mul (pv 3) (pe_op op_add (pv 8) pe_int)) pa_nil)))))
      (pss_cons (ps_if (PW.pt (pw_and (pt_cmpR op_lt (pv 7) (pv 9) (nomark _)) (pw_and1 (pt_cmpR op_le (pe_op op_add (pe_op op_add (pv 7) pe_int) (pe_fn F__law_least (hr.mono (by decide)) (pa_cons (pe_op op_add (pv 7) pe_int) (pa_cons (pv 8) (pa_cons (pv 3) pa_nil))))) (pv 4) (nomark _)))))
        (pss_one (ps_ret pe_bl))
        pss_nil)
      (pss_cons (ps_set (i := 4) sc__law_is_greatest.nd rfl (.inl rfl) (pe_op op_sub (pv 4) (pv 7)))
      (pss_one (ps_set (i := 5) sc__law_is_greatest.nd rfl (.inl rfl) (pv 7))))))))
      (pss_one (ps_ret pe_bl))))), ?_⟩
    simp only [tSeq, tIfS, tOr, tAnd, tNot, tB, tTest, tCB, tCall, tCons, tVar, tNil, tC, tRet, tRetN, tNext, tAsg, gName, tDrop, tOp, tUn, tAug, ipI, tPar, tIf, tAndV, tOrV, tNotV, tChain, tNever, rI0, rI, rU, L2.start, cxK, List.map_cons, List.map_nil, List.length_cons, List.length_nil, Nat.reduceAdd, Nat.reduceSub, List.replicate, List.cons_append, List.nil_append, List.append_nil, List.set_cons_zero, List.set_cons_succ, List.getElem?_cons_zero, List.getElem?_cons_succ, Option.some.injEq, V.int.injEq, V.bl.injEq, exists_eq_left', exists_eq_left, exists_and_left, tFor_eq, iRng1, iRng2, iRng3, iList, iEnum, iZip, iTup, tLst_eq, tTup_eq, rCat_eq, rCatS, rSum, rAppend_eq, rListOf, rSlL_eq, tSl, tNoPart, tPart, tLc_eq, tBM, rIxL, rIxT, min3_eq, rEq_int, rNe_int, min_if, max_if, and_assoc, V.ref.injEq, V.str.injEq, List.cons.injEq, and_true, true_and, ↓reduceIte, Bool.false_eq_true, Bool.not_true, Bool.not_false, Int.reduceToNat, Int.reducePow, Int.reduceAdd, Int.reduceSub, Int.reduceNeg]
    obtain ⟨Pv, hPv⟩ : ∃ Pv : Nat → L2.St → Hp → Prop, ∀ i σ H', Pv i σ H' ↔ i ≤ n ∧ Ex H H' ∧ ∃ (s L : Int) (y1 y2 y3 y4 : Option V) (acc : List Int), Go p g s (n - i) L ∧ acc.length = i ∧ acc ++ row p g (n - i) s L = row p g n 0 d ∧
      σ = [some (.ref l), some (.int d), some (.int p), some (.int g), some (.int L), some (.int s), y1, y2, y3, y4] := ⟨_, fun _ _ _ => Iff.rfl⟩
    refine ⟨_, sq_of hl, loop_enum (xs := (row p g n 0 d).map V.int) Pv ((hPv _ _ _).mpr ⟨Nat.zero_le _, Ex.refl H, 0, d, none, none, none, none, [], go_start hn.p1 hn.g1 hn.d0 hn.most hn.few, rfl, rfl, rfl⟩) (fun i σ H' hp => ex_l ((hPv _ _ _).mp hp).2.1 (sq_of hl)) ?_ ?_⟩
    · intro i x σ H0 T H' hx hp nT e hT
      obtain ⟨_, e0, s, L, y1, y2, y3, y4, acc, hg, hlen, hrow, rfl⟩ := (hPv _ _ _).mp hp
      have hi : i < n := by
        have := (List.getElem?_eq_some_iff.mp hx).1
        omega
      obtain ⟨b, hb⟩ : ∃ b, n - i = b + 1 := ⟨n - i - 1, by omega⟩
      rw [hb] at hg hrow
      have good := next_good hn.p1 hn.g1 hg
      have ex : x = .int (next p g s b L) := by
        have := row_drop (n := n) hrow
        rw [hlen] at this
        rw [List.getElem?_map, this] at hx
        exact (Option.some.inj hx).symm
      subst ex
      have e2 : Ex H H' := e0.trans e
      refine ⟨T, _, rfl, st_of hT, rfl, ?_⟩
      simp only [tSeq, tIfS, tOr, tAnd, tNot, tB, tTest, tCB, tCall, tCons, tVar, tNil, tC, tRet, tRetN, tNext, tAsg, gName, tDrop, tOp, tUn, tAug, ipI, tPar, tIf, tAndV, tOrV, tNotV, tChain, tNever, rI0, rI, rU, L2.start, cxK, List.map_cons, List.map_nil, List.length_cons, List.length_nil, Nat.reduceAdd, Nat.reduceSub, List.replicate, List.cons_append, List.nil_append, List.append_nil, List.set_cons_zero, List.set_cons_succ, List.getElem?_cons_zero, List.getElem?_cons_succ, Option.some.injEq, V.int.injEq, V.bl.injEq, exists_eq_left', exists_eq_left, exists_and_left, tFor_eq, iRng1, iRng2, iRng3, iList, iEnum, iZip, iTup, tLst_eq, tTup_eq, rCat_eq, rCatS, rSum, rAppend_eq, rListOf, rSlL_eq, tSl, tNoPart, tPart, tLc_eq, tBM, rIxL, rIxT, min3_eq, rEq_int, rNe_int, min_if, max_if, and_assoc, V.ref.injEq, V.str.injEq, List.cons.injEq, and_true, true_and, ↓reduceIte, Bool.false_eq_true, Bool.not_true, Bool.not_false, Int.reduceToNat, Int.reducePow, Int.reduceAdd, Int.reduceSub, Int.reduceNeg, gCons, gNil]
      refine ⟨_, .inl (sq_of (e2 _ _ hl)), ?_⟩
      rw [len]
      have eb : (n : Int) - 1 - (i : Int) = (b : Int) := by omega
      rw [eb]
      have nxt : ∀ (H2 : Hp) (z1 z2 z3 z4 : Option V), Ex H' H2 → Pv (i + 1) [some (.ref l), some (.int d), some (.int p), some (.int g), some (.int (L - next p g s b L)), some (.int (next p g s b L)), z1, z2, z3, z4] H2 := fun H2 z1 z2 z3 z4 e3 => by
        refine (hPv _ _ _).mpr ⟨by omega, e2.trans e3, _, _, z1, z2, z3, z4, acc ++ [next p g s b L], ?_, ?_, ?_, rfl⟩
        · rw [show n - (i + 1) = b by omega]
          exact good.go
        · rw [List.length_append, hlen]
          rfl
        · rw [show n - (i + 1) = b by omega, List.append_assoc]
          exact hrow
      refine ⟨.inl ⟨by omega, by omega⟩, ite2 (fun hc => ?_) (fun _ => nxt H' _ _ _ _ (Ex.refl _))⟩
      refine ⟨_, b, g, rfl, by omega, fun z hz => ⟨z, rfl, ifF (decide_eq_false fun hle => ?_) (nxt H' _ _ _ _ (Ex.refl _))⟩⟩
      have hc := of_decide_eq_true hc
      have e3 : (next p g s b L + 1) * ((b : Int) + 1) = (next p g s b L + 1) * (b : Int) + (next p g s b L + 1) := by rw [Int.mul_add, Int.mul_one]
      rcases good.great with h | h | h <;> omega
    · intro σ H' hp
      obtain ⟨_, e0, s, L, y1, y2, y3, y4, acc, hg, hlen, hrow, rfl⟩ := (hPv _ _ _).mp hp
      simp only [tSeq, tIfS, tOr, tAnd, tNot, tB, tTest, tCB, tCall, tCons, tVar, tNil, tC, tRet, tRetN, tNext, tAsg, gName, tDrop, tOp, tUn, tAug, ipI, tPar, tIf, tAndV, tOrV, tNotV, tChain, tNever, rI0, rI, rU, L2.start, cxK, List.map_cons, List.map_nil, List.length_cons, List.length_nil, Nat.reduceAdd, Nat.reduceSub, List.replicate, List.cons_append, List.nil_append, List.append_nil, List.set_cons_zero, List.set_cons_succ, List.getElem?_cons_zero, List.getElem?_cons_succ, Option.some.injEq, V.int.injEq, V.bl.injEq, exists_eq_left', exists_eq_left, exists_and_left, tFor_eq, iRng1, iRng2, iRng3, iList, iEnum, iZip, iTup, tLst_eq, tTup_eq, rCat_eq, rCatS, rSum, rAppend_eq, rListOf, rSlL_eq, tSl, tNoPart, tPart, tLc_eq, tBM, rIxL, rIxT, min3_eq, rEq_int, rNe_int, min_if, max_if, and_assoc, V.ref.injEq, V.str.injEq, List.cons.injEq, and_true, true_and, ↓reduceIte, Bool.false_eq_true, Bool.not_true, Bool.not_false, Int.reduceToNat, Int.reducePow, Int.reduceAdd, Int.reduceSub, Int.reduceNeg]
      exact q H' e0
def sp__law_is_right : Sp := fun vs H Q _ => ∃ (l : Addr) (d p g : Int) (n : Nat), vs = [.ref l, .int d, .int p, .int g] ∧ Few p g d n ∧ H l = some (lstI (row p g n 0 d)) ∧ RetV (.bl true) H Q
theorem row_all {p g : Int} (hp : 1 ≤ p) (hg : 1 ≤ g) : ∀ (m : Nat) (s L : Int), Go p g s m L → ∀ x ∈ row p g m s L, 1 ≤ x ∧ x ≤ p
  | 0, _, _, _, x, h => by cases h
  | b + 1, s, L, I, x, h => by
    have good := next_good hp hg I
    rcases List.mem_cons.mp h with rfl | h
    · exact ⟨good.x1, good.xP⟩
    · exact row_all hp hg b _ _ good.go x h
/-- what stands ahead of each step, and what it is -/
theorem row_pair {p g : Int} (hp : 1 ≤ p) (hg : 1 ≤ g) : ∀ (m : Nat) (s L : Int), Go p g s m L → s ≤ g * ((m : Int) + 1) → ∀ (i : Nat) (x y : Int), (s :: row p g m s L)[i]? = some x → (row p g m s L ++ [0])[i]? = some y → -g ≤ x - y ∧ x - y ≤ g
  | 0, s, L, I, hs, 0, x, y, h1, h2 => by
    cases h1
    cases h2
    have e : g * (((0 : Nat) : Int) + 1) = g := by simp
    have := I.s0
    omega
  | 0, s, L, I, hs, i + 1, x, y, h1, h2 => by cases h1
  | b + 1, s, L, I, hs, 0, x, y, h1, h2 => by
    have good := next_good hp hg I
    cases h1
    cases h2
    have := good.up
    have := good.down
    omega
  | b + 1, s, L, I, hs, i + 1, x, y, h1, h2 => by
    have good := next_good hp hg I
    exact row_pair hp hg b _ _ good.go good.end_ i x y h1 h2
theorem ok__law_is_right (B : Bt mg) (F__law_reach : Fn P w K mg base "_law_reach" ["_law_many", "_law_pace", "_law_gain"] CX0 1 sp__law_reach) (F__law_is_greatest : Fn P w K mg base "_law_is_greatest" ["_law_steps", "_law_distance_here", "_law_pace", "_law_gain"] CX0 2 sp__law_is_greatest) {f : Addr} {fd : FuncData} (F : Fun K "_law_is_right" "_law_is_right" s__law_is_right f fd) : FnOk P w K mg base CX0 3 f fd ["_law_steps", "_law_distance_here", "_law_pace", "_law_gain"] sp__law_is_right := by
  refine F.ok sc__law_is_right (fun vs H Q E h => ?_) (fun cdv A outer s H vs Q E hr h => ?_)
  · obtain ⟨l, d, p, g, n, rfl, _⟩ := h
    rfl
  · obtain ⟨l, d, p, g, n, rfl, hn, hl, q⟩ := h
    have hn2 := hn.n2
    have go := go_start hn.p1 hn.g1 hn.d0 hn.most hn.few
    have len : ((row p g n 0 d).map V.int).length = n := by rw [List.length_map, row_len]
    refine ⟨_, (pss_cons (ps_if (PW.pt (pw_or (pt_not (pt_val (pe_callB (k_isi (K := K) rfl) (by rfl) B.b_isinstance (by decide +kernel) (pa_cons (pv 0) (pa_cons (pe_bltn (v := .ty "list") (by rfl) B.b_list (by decide +kernel) rfl) pa_nil))))) (pw_or (pt_cmpR op_ne (pe_callB (k_sum (K := K) rfl (by rfl)) (by rfl) B.b_sum (by decide +kernel) (pa_cons (pv 0) pa_nil)) (pv 1) (nomark _)) (pw_or1 (pt_cmpR op_gt (pe_callB (k_len (K := K) rfl) (by rfl) B.b_len (by decide +kernel) (pa_cons (pv 0) pa_nil)) pe_int (nomark _))))))
        (pss_one (ps_ret pe_bl))
        pss_nil)
      (pss_cons (ps_if (pt_cmpR (k_neD (K := K) rfl hr.units) (pe_lc (own := [("_law_step", 6)]) (g := gName 6) (by rfl) sc__law_is_right.nd (k_pil (K := K) rfl (pv 0)) (blkOk_by (own := [("_law_step", 6)]) (N := ["_law_steps", "_law_distance_here", "_law_pace", "_law_gain", "_law_one", "_law_other", "_law_step"]) (sc := defScope s__law_is_right) (by decide +kernel)) (fun _ _ _ _ _ => (pg_name (i := 6) sc__law_is_right.nd rfl (.inl rfl))) (fun _ _ _ _ _ => (pts_one (PW.pt (pw_or (pt_val (pe_callB (k_isi (K := K) rfl) (by rfl) B.b_isinstance (by decide +kernel) (pa_cons (pv 6) (pa_cons (pe_bltn (v := .ty "bool") (by rfl) B.b_bool (by decide +kernel) rfl) pa_nil)))) (pw_or (pt_not (pt_val (pe_callB (k_isi (K := K) rfl) (by rfl) B.b_isinstance (by decide +kernel) (pa_cons (pv 6) (pa_cons (pe_bltn (v := .ty "int") (by rfl) B.b_int (by decide +kernel) rfl) pa_nil))))) (pw_or1 (pt_not (pt_chain op_le op_le pe_int (pv 6) (pv 2))))))))) (fun _ _ _ _ _ => (pv 6))) (pe_lst pa_nil) (nomark _))
        (pss_one (ps_ret pe_bl))
        pss_nil)
      (pss_cons (ps_for PassesOwn.never rfl (pi_zip (by rfl) B.b_zip (pa_cons (pe_op (k_catS (K := K) rfl) (pe_lst (pa_cons pe_int pa_nil)) (pv 0)) (pa_cons (pe_op (k_catS (K := K) rfl) (pv 0) (pe_lst (pa_cons pe_int pa_nil))) pa_nil))) (k_pgt (K := K) rfl rfl (pgs_cons (pg_name (i := 4) sc__law_is_right.nd rfl (.inl rfl)) (pgs_cons (pg_name (i := 5) sc__law_is_right.nd rfl (.inl rfl)) pgs_nil)))
        (pss_one (ps_if (pt_not (pt_chain op_le op_le (pe_un un_neg (pv 3)) (pe_op op_sub (pv 4) (pv 5)) (pv 3)))
        (pss_one (ps_ret pe_bl))
        pss_nil)))
      (pss_cons (ps_if (PW.pt (pw_and (pt_cmpR (k_neD (K := K) rfl hr.units) (pv 0) (pe_lst pa_nil) (nomark _)) (pw_and1 (pt_cmpR op_ge (pe_fn F__law_reach (hr.mono (by decide)) (pa_cons (pe_op op_sub (pe_callB (k_len (K := K) rfl) (by rfl) B.b_len (by decide +kernel) (pa_cons (pv 0) pa_nil)) pe_int) (pa_cons (pv 2) (pa_cons (pv 3) pa_nil)))) (pv 1) (nomark _)))))
        (pss_one (ps_ret pe_bl))
        pss_nil)
      (pss_one (ps_ret (pe_fn F__law_is_greatest (hr.mono (by decide)) (pa_cons (pv 0) (pa_cons (pv 1) (pa_cons (pv 2) (pa_cons (pv 3) pa_nil))))))))))), ?_⟩
    simp only [tSeq, tIfS, tOr, tAnd, tNot, tB, tTest, tCB, tCall, tCons, tVar, tNil, tC, tRet, tRetN, tNext, tAsg, gName, tDrop, tOp, tUn, tAug, ipI, tPar, tIf, tAndV, tOrV, tNotV, tChain, tNever, rI0, rI, rU, L2.start, cxK, List.map_cons, List.map_nil, List.length_cons, List.length_nil, Nat.reduceAdd, Nat.reduceSub, List.replicate, List.cons_append, List.nil_append, List.append_nil, List.set_cons_zero, List.set_cons_succ, List.getElem?_cons_zero, List.getElem?_cons_succ, Option.some.injEq, V.int.injEq, V.bl.injEq, exists_eq_left', exists_eq_left, exists_and_left, tFor_eq, iRng1, iRng2, iRng3, iList, iEnum, iZip, iTup, tLst_eq, tTup_eq, rCat_eq, rCatS, rSum, rAppend_eq, rListOf, rSlL_eq, tSl, tNoPart, tPart, tLc_eq, tBM, rIxL, rIxT, min3_eq, rEq_int, rNe_int, min_if, max_if, and_assoc, V.ref.injEq, V.str.injEq, List.cons.injEq, and_true, true_and, ↓reduceIte, Bool.false_eq_true, Bool.not_true, Bool.not_false, Int.reduceToNat, Int.reducePow, Int.reduceAdd, Int.reduceSub, Int.reduceNeg]
    refine isi_ty (.base (.lst hl)) (b := true) (by decide +kernel) ⟨_, rfl, ifF rfl ⟨_, sq_of hl, ?_⟩⟩
    rw [row_sum hn.p1 hn.g1 n 0 d go]
    refine ifF (by simp) ⟨_, .inl (sq_of hl), ifF (decide_eq_false (by rw [len]; omega)) ⟨⟨_, sq_of hl⟩, fun Dl hD => ?_⟩⟩
    refine lc_gives (walk_list (xs := (row p g n 0 d).map V.int)) (fun _ => none) hD (fun H' e => sq_of (e _ _ hl)) ?_ ?_
    · rintro i x H0 H' hi e0 h0 ⟨rfl, hx⟩
      obtain ⟨z, hz, rfl⟩ := get_int hx
      have b := row_all hn.p1 hn.g1 n 0 d go z (List.mem_of_getElem? hz)
      simp only [tSeq, tIfS, tOr, tAnd, tNot, tB, tTest, tCB, tCall, tCons, tVar, tNil, tC, tRet, tRetN, tNext, tAsg, gName, tDrop, tOp, tUn, tAug, ipI, tPar, tIf, tAndV, tOrV, tNotV, tChain, tNever, rI0, rI, rU, L2.start, cxK, List.map_cons, List.map_nil, List.length_cons, List.length_nil, Nat.reduceAdd, Nat.reduceSub, List.replicate, List.cons_append, List.nil_append, List.append_nil, List.set_cons_zero, List.set_cons_succ, List.getElem?_cons_zero, List.getElem?_cons_succ, Option.some.injEq, V.int.injEq, V.bl.injEq, exists_eq_left', exists_eq_left, exists_and_left, tFor_eq, iRng1, iRng2, iRng3, iList, iEnum, iZip, iTup, tLst_eq, tTup_eq, rCat_eq, rCatS, rSum, rAppend_eq, rListOf, rSlL_eq, tSl, tNoPart, tPart, tLc_eq, tBM, rIxL, rIxT, min3_eq, rEq_int, rNe_int, min_if, max_if, and_assoc, V.ref.injEq, V.str.injEq, List.cons.injEq, and_true, true_and, ↓reduceIte, Bool.false_eq_true, Bool.not_true, Bool.not_false, Int.reduceToNat, Int.reducePow, Int.reduceAdd, Int.reduceSub, Int.reduceNeg, wipe]
      refine isi_int (b := false) (by decide +kernel) ⟨_, rfl, ifF rfl (isi_int (b := true) (by decide +kernel) ⟨_, rfl, ifF rfl ?_⟩)⟩
      refine ifT (decide_eq_true b.1) ?_
      rw [decide_eq_true b.2]
      exact ifF rfl (skip_of e0 h0 rfl)
    · intro H1 e1 h1
      rw [gives_nil _ (fun _ _ => rfl)] at h1
      refine ⟨Nat.zero_le _, new_of fun p2 H2 n2 e2 h2 => neD_ints (xs := []) (ys := []) (sq_of (e2 _ _ h1)) (sq_of h2) ⟨_, rfl, ifF (by simp) ?_⟩⟩
      have x2 : Ex H H2 := e1.trans e2
      refine ⟨sz_of (by decide), new_of fun l3 H3 n3 e3 h3 => ⟨_, sq_of h3, _, sq_of (e3 _ _ (x2 _ _ hl)), ?_, new_of fun l4 H4 n4 e4 h4 => ?_⟩⟩
      · exact sz_of (by simp only [List.length_map, row_len, List.length_cons, List.length_nil]; omega)
      have x4 : Ex H H4 := (x2.trans e3).trans e4
      refine ⟨sz_of (by decide), new_of fun l5 H5 n5 e5 h5 => ⟨_, sq_of (e5 _ _ (x4 _ _ hl)), _, sq_of h5, ?_, new_of fun l6 H6 n6 e6 h6 => ?_⟩⟩
      · exact sz_of (by simp only [List.length_map, row_len, List.length_cons, List.length_nil]; omega)
      have x6 : Ex H H6 := (x4.trans e5).trans e6
      have h46 := e6 _ _ (e5 _ _ h4)
      have z4 : ([V.int 0] ++ (row p g n 0 d).map V.int) = (0 :: row p g n 0 d).map V.int := rfl
      have z6 : ((row p g n 0 d).map V.int ++ [V.int 0]) = (row p g n 0 d ++ [0]).map V.int := by
        rw [List.map_append]
        rfl
      obtain ⟨Pv, hPv⟩ : ∃ Pv : Nat → L2.St → Hp → Prop, ∀ i σ H', Pv i σ H' ↔ Ex H6 H' ∧ ∃ (y1 y2 y3 : Option V), σ = [some (.ref l), some (.int d), some (.int p), some (.int g), y1, y2, y3] := ⟨_, fun _ _ _ => Iff.rfl⟩
      refine ⟨_, sq_of h46, _, sq_of h6, loop_zip (xs := [V.int 0] ++ (row p g n 0 d).map V.int) (ys := (row p g n 0 d).map V.int ++ [V.int 0]) (n := n + 1) ?_ Pv ((hPv _ _ _).mpr ⟨Ex.refl _, none, none, none, rfl⟩) (fun i σ H' hp => ?_) ?_ ?_⟩
      · simp only [List.length_append, List.length_map, row_len, List.length_cons, List.length_nil]
        omega
      · have e := ((hPv _ _ _).mp hp).1
        exact ⟨sq_of (e _ _ h46), sq_of (e _ _ h6)⟩
      · intro i x y σ H0 T H' hx hy hp nT e hT
        obtain ⟨e0, y1, y2, y3, rfl⟩ := (hPv _ _ _).mp hp
        rw [z4] at hx
        rw [z6] at hy
        obtain ⟨x1, hx1, rfl⟩ := get_int hx
        obtain ⟨y1, hy1, rfl⟩ := get_int hy
        have b := row_pair hn.p1 hn.g1 n 0 d go (Int.mul_nonneg (by have := hn.g1; omega) (by omega)) i x1 y1 hx1 hy1
        refine ⟨T, _, rfl, st_of hT, rfl, ?_⟩
        simp only [tSeq, tIfS, tOr, tAnd, tNot, tB, tTest, tCB, tCall, tCons, tVar, tNil, tC, tRet, tRetN, tNext, tAsg, gName, tDrop, tOp, tUn, tAug, ipI, tPar, tIf, tAndV, tOrV, tNotV, tChain, tNever, rI0, rI, rU, L2.start, cxK, List.map_cons, List.map_nil, List.length_cons, List.length_nil, Nat.reduceAdd, Nat.reduceSub, List.replicate, List.cons_append, List.nil_append, List.append_nil, List.set_cons_zero, List.set_cons_succ, List.getElem?_cons_zero, List.getElem?_cons_succ, Option.some.injEq, V.int.injEq, V.bl.injEq, exists_eq_left', exists_eq_left, exists_and_left, tFor_eq, iRng1, iRng2, iRng3, iList, iEnum, iZip, iTup, tLst_eq, tTup_eq, rCat_eq, rCatS, rSum, rAppend_eq, rListOf, rSlL_eq, tSl, tNoPart, tPart, tLc_eq, tBM, rIxL, rIxT, min3_eq, rEq_int, rNe_int, min_if, max_if, and_assoc, V.ref.injEq, V.str.injEq, List.cons.injEq, and_true, true_and, ↓reduceIte, Bool.false_eq_true, Bool.not_true, Bool.not_false, Int.reduceToNat, Int.reducePow, Int.reduceAdd, Int.reduceSub, Int.reduceNeg, gCons, gNil]
        refine ifT (decide_eq_true b.1) ?_
        rw [decide_eq_true b.2]
        exact ifF rfl ((hPv _ _ _).mpr ⟨e0.trans e, _, _, _, rfl⟩)
      · intro σ H7 hp
        obtain ⟨e7, y1, y2, y3, rfl⟩ := (hPv _ _ _).mp hp
        have x7 : Ex H H7 := x6.trans e7
        simp only [tSeq, tIfS, tOr, tAnd, tNot, tB, tTest, tCB, tCall, tCons, tVar, tNil, tC, tRet, tRetN, tNext, tAsg, gName, tDrop, tOp, tUn, tAug, ipI, tPar, tIf, tAndV, tOrV, tNotV, tChain, tNever, rI0, rI, rU, L2.start, cxK, List.map_cons, List.map_nil, List.length_cons, List.length_nil, Nat.reduceAdd, Nat.reduceSub, List.replicate, List.cons_append, List.nil_append, List.append_nil, List.set_cons_zero, List.set_cons_succ, List.getElem?_cons_zero, List.getElem?_cons_succ, Option.some.injEq, V.int.injEq, V.bl.injEq, exists_eq_left', exists_eq_left, exists_and_left, tFor_eq, iRng1, iRng2, iRng3, iList, iEnum, iZip, iTup, tLst_eq, tTup_eq, rCat_eq, rCatS, rSum, rAppend_eq, rListOf, rSlL_eq, tSl, tNoPart, tPart, tLc_eq, tBM, rIxL, rIxT, min3_eq, rEq_int, rNe_int, min_if, max_if, and_assoc, V.ref.injEq, V.str.injEq, List.cons.injEq, and_true, true_and, ↓reduceIte, Bool.false_eq_true, Bool.not_true, Bool.not_false, Int.reduceToNat, Int.reducePow, Int.reduceAdd, Int.reduceSub, Int.reduceNeg]
        refine ⟨Nat.zero_le _, new_of fun l8 H8 n8 e8 h8 => neD_ints (xs := row p g n 0 d) (ys := []) (sq_of (e8 _ _ (x7 _ _ hl))) (sq_of h8) ⟨_, rfl, ?_⟩⟩
        have x8 : Ex H H8 := x7.trans e8
        have last : ∀ H9, Ex H8 H9 → sp__law_is_greatest [V.ref l, V.int d, V.int p, V.int g] H9 Q E0 := fun H9 e9 => ⟨l, d, p, g, n, rfl, hn, e9 _ _ (x8 _ _ hl), fun H10 e10 => q H10 ((x8.trans e9).trans e10)⟩
        by_cases h0 : row p g n 0 d = []
        · exact ifF (by simp [h0]) (last H8 (Ex.refl _))
        · have n0 : n ≠ 0 := fun z => by
            subst z
            exact h0 rfl
          obtain ⟨b, rfl⟩ : ∃ b, n = b + 1 := ⟨n - 1, by omega⟩
          have few := hn.few b rfl
          refine ifT (by simp [h0]) ⟨_, .inl (sq_of (x8 _ _ hl)), ?_⟩
          rw [len]
          refine ⟨b, p, g, by rw [show ((b + 1 : Nat) : Int) - 1 = (b : Int) by omega], by omega, hn.g1, hn.g2, fun H9 e9 => ⟨_, rfl, ifF (decide_eq_false (by omega)) (last H9 e9)⟩⟩
def spLaw (K : PySem.W.Frag) : Sp := fun vs H Q _ => ∃ (a : Addr) (ns : List Int), vs = [.ref a] ∧ SqL K H a (ns.map V.int) ∧ ns.length ≤ 63 ∧ ∀ H', Q (.bl true) H'
theorem ok_law (B : Bt mg) (F__law_wide : Fn P w K mg base "_law_wide" ["_law_cell", "_law_k"] CX0 1 sp__law_wide) (F__law_rate : Fn P w K mg base "_law_rate" ["_law_number"] CX0 1 sp__law_rate) (F__law_distance : Fn P w K mg base "_law_distance" ["_law_number", "_law_pace", "_law_gain"] CX0 2 sp__law_distance) (F__law_is_right : Fn P w K mg base "_law_is_right" ["_law_steps", "_law_distance_here", "_law_pace", "_law_gain"] CX0 3 sp__law_is_right) (F_steps_of : Fn P w K mg base "steps_of" ["distance", "pace", "gain"] CX0 4 sp_steps_of) {f : Addr} {fd : FuncData} (F : Fun K "law" "law" s_law f fd) : FnOk P w K mg base CX0 5 f fd ["_law_script"] (spLaw K) := by
  refine F.ok sc_law (fun vs H Q E h => ?_) (fun cdv A outer s H vs Q E hr h => ?_)
  · obtain ⟨a, ns, rfl, _⟩ := h
    rfl
  · obtain ⟨a, ns, rfl, hS, hlen, q⟩ := h
    refine ⟨_, (pss_cons (ps_for PassesOwn.never rfl (pi_enum (by rfl) B.b_enumerate (pa_cons (pe_op (k_catS (K := K) rfl) (pv 0) (pe_lst (pa_cons pe_int pa_nil))) pa_nil)) (k_pgt (K := K) rfl rfl (pgs_cons (pg_name (i := 1) sc_law.nd rfl (.inl rfl)) (pgs_cons (pg_name (i := 2) sc_law.nd rfl (.inl rfl)) pgs_nil)))
        (pss_cons (ps_set (i := 3) sc_law.nd rfl (.inl rfl) (pe_fn F__law_wide (hr.mono (by decide)) (pa_cons (pv 2) (pa_cons (pv 1) pa_nil))))
      (pss_cons (ps_par (i := 4) (j := 5) (by rfl) sc_law.nd rfl rfl (by decide) rfl rfl (pa_cons (pe_fn F__law_rate (hr.mono (by decide)) (pa_cons (pv 3) pa_nil)) (pa_cons (pe_fn F__law_rate (hr.mono (by decide)) (pa_cons (pe_op op_fdivW (pv 3) (pe_op op_pow pe_int pe_int)) pa_nil)) pa_nil)) (by rfl))
      (pss_cons (ps_set (i := 6) sc_law.nd rfl (.inl rfl) (pe_fn F__law_distance (hr.mono (by decide)) (pa_cons (pe_fn F__law_wide (hr.mono (by decide)) (pa_cons (pv 2) (pa_cons (pe_op op_add (pv 1) pe_int) pa_nil))) (pa_cons (pv 4) (pa_cons (pv 5) pa_nil)))))
      (pss_cons (ps_set (i := 7) sc_law.nd rfl (.inl rfl) (pe_fn F_steps_of (hr.mono (by decide)) (pa_cons (pv 6) (pa_cons (pv 4) (pa_cons (pv 5) pa_nil)))))
      (pss_cons (ps_if (pt_not (pt_val (pe_fn F__law_is_right (hr.mono (by decide)) (pa_cons (pv 7) (pa_cons (pv 6) (pa_cons (pv 4) (pa_cons (pv 5) pa_nil)))))))
        (pss_one (ps_ret pe_bl))
        pss_nil)
      (pss_cons (ps_set (i := 8) sc_law.nd rfl (.inl rfl) (pe_callTy (k_listof2 (K := K) rfl) (by rfl) B.b_list (by decide +kernel) (pa_cons (pv 7) pa_nil)))
      (pss_cons (ps_expr (pe_bm PySem.F.plainAttrs_list PySem.F.slot_list_append PySem.F.type_list_append mt_append (pv 7) (pa_cons pe_int pa_nil)))
      (pss_one (ps_if (pt_cmpR (k_neD (K := K) rfl hr.units) (pe_fn F_steps_of (hr.mono (by decide)) (pa_cons (pv 6) (pa_cons (pv 4) (pa_cons (pv 5) pa_nil)))) (pv 8) (nomark _))
        (pss_one (ps_ret pe_bl))
        pss_nil))))))))))
      (pss_one (ps_ret pe_bl))), ?_⟩
    simp only [tSeq, tIfS, tOr, tAnd, tNot, tB, tTest, tCB, tCall, tCons, tVar, tNil, tC, tRet, tRetN, tNext, tAsg, gName, tDrop, tOp, tUn, tAug, ipI, tPar, tIf, tAndV, tOrV, tNotV, tChain, tNever, rI0, rI, rU, L2.start, cxK, List.map_cons, List.map_nil, List.length_cons, List.length_nil, Nat.reduceAdd, Nat.reduceSub, List.replicate, List.cons_append, List.nil_append, List.append_nil, List.set_cons_zero, List.set_cons_succ, List.getElem?_cons_zero, List.getElem?_cons_succ, Option.some.injEq, V.int.injEq, V.bl.injEq, exists_eq_left', exists_eq_left, exists_and_left, tFor_eq, iRng1, iRng2, iRng3, iList, iEnum, iZip, iTup, tLst_eq, tTup_eq, rCat_eq, rCatS, rSum, rAppend_eq, rListOf, rSlL_eq, tSl, tNoPart, tPart, tLc_eq, tBM, rIxL, rIxT, min3_eq, rEq_int, rNe_int, min_if, max_if, and_assoc, V.ref.injEq, V.str.injEq, List.cons.injEq, and_true, true_and, ↓reduceIte, Bool.false_eq_true, Bool.not_true, Bool.not_false, Int.reduceToNat, Int.reducePow, Int.reduceAdd, Int.reduceSub, Int.reduceNeg]
    refine ⟨sz_of (by decide), new_of fun l1 H1 n1 e1 h1 => ⟨_, ex_l e1 hS, _, sq_of h1, ?_, new_of fun l2 H2 n2 e2 h2 => ?_⟩⟩
    · exact sz_of (by simp only [List.length_map, List.length_cons, List.length_nil]; omega)
    have z2 : (ns.map V.int ++ [V.int 0]) = (ns ++ [0]).map V.int := by
      rw [List.map_append]
      rfl
    rw [z2] at h2
    obtain ⟨Pv, hPv⟩ : ∃ Pv : Nat → L2.St → Hp → Prop, ∀ i σ H', Pv i σ H' ↔ Ex H2 H' ∧ ∃ (y1 y2 y3 y4 y5 y6 y7 y8 : Option V), σ = [some (.ref a), y1, y2, y3, y4, y5, y6, y7, y8] := ⟨_, fun _ _ _ => Iff.rfl⟩
    refine ⟨_, sq_of h2, loop_enum (xs := (ns ++ [0]).map V.int) Pv ((hPv _ _ _).mpr ⟨Ex.refl _, none, none, none, none, none, none, none, none, rfl⟩) (fun i σ H' hp => sq_of (((hPv _ _ _).mp hp).1 _ _ h2)) ?_ ?_⟩
    · intro i x σ H0 T H' hx hp nT e hT
      obtain ⟨e0, y1, y2, y3, y4, y5, y6, y7, y8, rfl⟩ := (hPv _ _ _).mp hp
      obtain ⟨z, hz, rfl⟩ := get_int hx
      have hi : i ≤ 63 := by
        have := (List.getElem?_eq_some_iff.mp hz).1
        rw [List.length_append] at this
        simp only [List.length_cons, List.length_nil] at this
        omega
      have x3 : Ex H2 H' := e0.trans e
      refine ⟨T, _, rfl, st_of hT, rfl, ?_⟩
      simp only [tSeq, tIfS, tOr, tAnd, tNot, tB, tTest, tCB, tCall, tCons, tVar, tNil, tC, tRet, tRetN, tNext, tAsg, gName, tDrop, tOp, tUn, tAug, ipI, tPar, tIf, tAndV, tOrV, tNotV, tChain, tNever, rI0, rI, rU, L2.start, cxK, List.map_cons, List.map_nil, List.length_cons, List.length_nil, Nat.reduceAdd, Nat.reduceSub, List.replicate, List.cons_append, List.nil_append, List.append_nil, List.set_cons_zero, List.set_cons_succ, List.getElem?_cons_zero, List.getElem?_cons_succ, Option.some.injEq, V.int.injEq, V.bl.injEq, exists_eq_left', exists_eq_left, exists_and_left, tFor_eq, iRng1, iRng2, iRng3, iList, iEnum, iZip, iTup, tLst_eq, tTup_eq, rCat_eq, rCatS, rSum, rAppend_eq, rListOf, rSlL_eq, tSl, tNoPart, tPart, tLc_eq, tBM, rIxL, rIxT, min3_eq, rEq_int, rNe_int, min_if, max_if, and_assoc, V.ref.injEq, V.str.injEq, List.cons.injEq, and_true, true_and, ↓reduceIte, Bool.false_eq_true, Bool.not_true, Bool.not_false, Int.reduceToNat, Int.reducePow, Int.reduceAdd, Int.reduceSub, Int.reduceNeg, gCons, gNil]
      refine ⟨z, i, rfl, by omega, fun n hn => ⟨n, rfl, hn, fun p H4 hp4 e4 => ⟨⟨by decide, by decide, by decide⟩, n, rfl, cdw (by decide) (by decide), ?_⟩⟩⟩
      refine ⟨n / 100000000000, rfl, Int.ediv_nonneg hn (by decide), fun g H5 hg e5 => ?_⟩
      refine ⟨z, i + 1000, by rw [show ((i + 1000 : Nat) : Int) = (i : Int) + 1000 by omega], by omega, fun m hm => ⟨m, p, g, rfl, hm, hp4, hg, fun d k H6 few hd e6 => ?_⟩⟩
      refine ⟨d, p, g, k, rfl, few, hd, fun l7 H7 n7 e7 h7 => ?_⟩
      refine ⟨l7, d, p, g, k, rfl, few, h7, fun H8 e8 => ⟨_, rfl, ?_⟩⟩
      refine ifF rfl ⟨_, rfl, _, .inl (sq_of (e8 _ _ h7)), new_of fun l9 H9 n9 e9 h9 => ⟨.inl ⟨rfl, _, sq_of (e9 _ _ (e8 _ _ h7))⟩, _, rfl, _, e9 _ _ (e8 _ _ h7), ?_, chg_of fun H10 k10 h10 => ?_⟩⟩
      · rw [List.length_map, row_len]
        have := few.n2
        exact sz_lt (by omega)
      have x6 : Ex H2 H6 := ((x3.trans e4).trans e5).trans e6
      have h9b : H10 l9 = some (.lst ((row p g k 0 d).map V.int)) := by
        rw [k10 l9 (ne_of_none (e8 _ _ h7) n9).symm]
        exact h9
      refine ⟨d, p, g, k, rfl, few, hd, fun l11 H11 n11 e11 h11 => neD_ints (sq_of h11) (sq_of (e11 _ _ h9b)) ⟨_, rfl, ifF (by simp) ((hPv _ _ _).mpr ⟨?_, _, _, _, _, _, _, _, _, rfl⟩)⟩⟩
      exact (ex_chg (((x6.trans e7).trans e8).trans e9) (fresh_back x6 n7) k10).trans e11
    · intro σ H' hp
      obtain ⟨e0, y1, y2, y3, y4, y5, y6, y7, y8, rfl⟩ := (hPv _ _ _).mp hp
      simp only [tSeq, tIfS, tOr, tAnd, tNot, tB, tTest, tCB, tCall, tCons, tVar, tNil, tC, tRet, tRetN, tNext, tAsg, gName, tDrop, tOp, tUn, tAug, ipI, tPar, tIf, tAndV, tOrV, tNotV, tChain, tNever, rI0, rI, rU, L2.start, cxK, List.map_cons, List.map_nil, List.length_cons, List.length_nil, Nat.reduceAdd, Nat.reduceSub, List.replicate, List.cons_append, List.nil_append, List.append_nil, List.set_cons_zero, List.set_cons_succ, List.getElem?_cons_zero, List.getElem?_cons_succ, Option.some.injEq, V.int.injEq, V.bl.injEq, exists_eq_left', exists_eq_left, exists_and_left, tFor_eq, iRng1, iRng2, iRng3, iList, iEnum, iZip, iTup, tLst_eq, tTup_eq, rCat_eq, rCatS, rSum, rAppend_eq, rListOf, rSlL_eq, tSl, tNoPart, tPart, tLc_eq, tBM, rIxL, rIxT, min3_eq, rEq_int, rNe_int, min_if, max_if, and_assoc, V.ref.injEq, V.str.injEq, List.cons.injEq, and_true, true_and, ↓reduceIte, Bool.false_eq_true, Bool.not_true, Bool.not_false, Int.reduceToNat, Int.reducePow, Int.reduceAdd, Int.reduceSub, Int.reduceNeg]
      exact q H'
end
end FW

set_option Elab.async false
set_option linter.all false
set_option maxRecDepth 100000
set_option maxHeartbeats 4000000
namespace FW
open PySem PySem.Spec PyProof.Rows L2 Evl
theorem all_mk {P : Program} {w : World} {K : PySem.W.Frag} {h : Heap} {mg : Str → Option Value} {fa f8 f12 f14 f16 f17 f18 f19 f9 f13 f20 f21 f10 f22 f11 f23 : Addr} (X : K.In h) (G : h.Ns mainGlobals mg) (hfa : mg "law" = some (.ref fa))
    {od8 an8 od12 an12 od14 an14 od16 an16 od17 an17 od18 an18 od19 an19 od9 an9 od13 an13 od20 an20 od21 an21 od10 an10 od22 an22 od11 an11 od23 an23 : Option Addr} {sl8 sl12 sl14 sl16 sl17 sl18 sl19 sl9 sl13 sl20 sl21 sl10 sl22 sl11 sl23 : Array (Option Value)} {oc8 kV8 dc8 pm8 cd8 ct8 oc12 kV12 dc12 pm12 cd12 ct12 oc14 kV14 dc14 pm14 cd14 ct14 oc16 kV16 dc16 pm16 cd16 ct16 oc17 kV17 dc17 pm17 cd17 ct17 oc18 kV18 dc18 pm18 cd18 ct18 oc19 kV19 dc19 pm19 cd19 ct19 oc9 kV9 dc9 pm9 cd9 ct9 oc13 kV13 dc13 pm13 cd13 ct13 oc20 kV20 dc20 pm20 cd20 ct20 oc21 kV21 dc21 pm21 cd21 ct21 oc10 kV10 dc10 pm10 cd10 ct10 oc22 kV22 dc22 pm22 cd22 ct22 oc11 kV11 dc11 pm11 cd11 ct11 oc23 kV23 dc23 pm23 cd23 ct23 : Value}
    (a8 : PySem.W.nsIn K mainGlobals "is_whole" = some (some (.ref f8))) (l8 : K.lookup f8 = some ⟨oc8, od8, .func (PySem.W.fnOf "is_whole" "is_whole" (defArgs s_is_whole) (defBody s_is_whole) (defScope s_is_whole) .none kV8 dc8 pm8 an8 cd8 ct8), sl8⟩) (c8 : PySem.W.codeIn K cd8 "is_whole" = true) (k8 : PySem.W.keepIn K (.ref f8) = true)
    (a12 : PySem.W.nsIn K mainGlobals "added_reach" = some (some (.ref f12))) (l12 : K.lookup f12 = some ⟨oc12, od12, .func (PySem.W.fnOf "added_reach" "added_reach" (defArgs s_added_reach) (defBody s_added_reach) (defScope s_added_reach) .none kV12 dc12 pm12 an12 cd12 ct12), sl12⟩) (c12 : PySem.W.codeIn K cd12 "added_reach" = true) (k12 : PySem.W.keepIn K (.ref f12) = true)
    (a14 : PySem.W.nsIn K mainGlobals "greatest_step" = some (some (.ref f14))) (l14 : K.lookup f14 = some ⟨oc14, od14, .func (PySem.W.fnOf "greatest_step" "greatest_step" (defArgs s_greatest_step) (defBody s_greatest_step) (defScope s_greatest_step) .none kV14 dc14 pm14 an14 cd14 ct14), sl14⟩) (c14 : PySem.W.codeIn K cd14 "greatest_step" = true) (k14 : PySem.W.keepIn K (.ref f14) = true)
    (a16 : PySem.W.nsIn K mainGlobals "_law_wide" = some (some (.ref f16))) (l16 : K.lookup f16 = some ⟨oc16, od16, .func (PySem.W.fnOf "_law_wide" "_law_wide" (defArgs s__law_wide) (defBody s__law_wide) (defScope s__law_wide) .none kV16 dc16 pm16 an16 cd16 ct16), sl16⟩) (c16 : PySem.W.codeIn K cd16 "_law_wide" = true) (k16 : PySem.W.keepIn K (.ref f16) = true)
    (a17 : PySem.W.nsIn K mainGlobals "_law_rate" = some (some (.ref f17))) (l17 : K.lookup f17 = some ⟨oc17, od17, .func (PySem.W.fnOf "_law_rate" "_law_rate" (defArgs s__law_rate) (defBody s__law_rate) (defScope s__law_rate) .none kV17 dc17 pm17 an17 cd17 ct17), sl17⟩) (c17 : PySem.W.codeIn K cd17 "_law_rate" = true) (k17 : PySem.W.keepIn K (.ref f17) = true)
    (a18 : PySem.W.nsIn K mainGlobals "_law_reach" = some (some (.ref f18))) (l18 : K.lookup f18 = some ⟨oc18, od18, .func (PySem.W.fnOf "_law_reach" "_law_reach" (defArgs s__law_reach) (defBody s__law_reach) (defScope s__law_reach) .none kV18 dc18 pm18 an18 cd18 ct18), sl18⟩) (c18 : PySem.W.codeIn K cd18 "_law_reach" = true) (k18 : PySem.W.keepIn K (.ref f18) = true)
    (a19 : PySem.W.nsIn K mainGlobals "_law_least" = some (some (.ref f19))) (l19 : K.lookup f19 = some ⟨oc19, od19, .func (PySem.W.fnOf "_law_least" "_law_least" (defArgs s__law_least) (defBody s__law_least) (defScope s__law_least) .none kV19 dc19 pm19 an19 cd19 ct19), sl19⟩) (c19 : PySem.W.codeIn K cd19 "_law_least" = true) (k19 : PySem.W.keepIn K (.ref f19) = true)
    (a9 : PySem.W.nsIn K mainGlobals "need_whole" = some (some (.ref f9))) (l9 : K.lookup f9 = some ⟨oc9, od9, .func (PySem.W.fnOf "need_whole" "need_whole" (defArgs s_need_whole) (defBody s_need_whole) (defScope s_need_whole) .none kV9 dc9 pm9 an9 cd9 ct9), sl9⟩) (c9 : PySem.W.codeIn K cd9 "need_whole" = true) (k9 : PySem.W.keepIn K (.ref f9) = true)
    (a13 : PySem.W.nsIn K mainGlobals "fewest_steps" = some (some (.ref f13))) (l13 : K.lookup f13 = some ⟨oc13, od13, .func (PySem.W.fnOf "fewest_steps" "fewest_steps" (defArgs s_fewest_steps) (defBody s_fewest_steps) (defScope s_fewest_steps) .none kV13 dc13 pm13 an13 cd13 ct13), sl13⟩) (c13 : PySem.W.codeIn K cd13 "fewest_steps" = true) (k13 : PySem.W.keepIn K (.ref f13) = true)
    (a20 : PySem.W.nsIn K mainGlobals "_law_distance" = some (some (.ref f20))) (l20 : K.lookup f20 = some ⟨oc20, od20, .func (PySem.W.fnOf "_law_distance" "_law_distance" (defArgs s__law_distance) (defBody s__law_distance) (defScope s__law_distance) .none kV20 dc20 pm20 an20 cd20 ct20), sl20⟩) (c20 : PySem.W.codeIn K cd20 "_law_distance" = true) (k20 : PySem.W.keepIn K (.ref f20) = true)
    (a21 : PySem.W.nsIn K mainGlobals "_law_is_greatest" = some (some (.ref f21))) (l21 : K.lookup f21 = some ⟨oc21, od21, .func (PySem.W.fnOf "_law_is_greatest" "_law_is_greatest" (defArgs s__law_is_greatest) (defBody s__law_is_greatest) (defScope s__law_is_greatest) .none kV21 dc21 pm21 an21 cd21 ct21), sl21⟩) (c21 : PySem.W.codeIn K cd21 "_law_is_greatest" = true) (k21 : PySem.W.keepIn K (.ref f21) = true)
    (a10 : PySem.W.nsIn K mainGlobals "need_drive" = some (some (.ref f10))) (l10 : K.lookup f10 = some ⟨oc10, od10, .func (PySem.W.fnOf "need_drive" "need_drive" (defArgs s_need_drive) (defBody s_need_drive) (defScope s_need_drive) .none kV10 dc10 pm10 an10 cd10 ct10), sl10⟩) (c10 : PySem.W.codeIn K cd10 "need_drive" = true) (k10 : PySem.W.keepIn K (.ref f10) = true)
    (a22 : PySem.W.nsIn K mainGlobals "_law_is_right" = some (some (.ref f22))) (l22 : K.lookup f22 = some ⟨oc22, od22, .func (PySem.W.fnOf "_law_is_right" "_law_is_right" (defArgs s__law_is_right) (defBody s__law_is_right) (defScope s__law_is_right) .none kV22 dc22 pm22 an22 cd22 ct22), sl22⟩) (c22 : PySem.W.codeIn K cd22 "_law_is_right" = true) (k22 : PySem.W.keepIn K (.ref f22) = true)
    (a11 : PySem.W.nsIn K mainGlobals "steps_of" = some (some (.ref f11))) (l11 : K.lookup f11 = some ⟨oc11, od11, .func (PySem.W.fnOf "steps_of" "steps_of" (defArgs s_steps_of) (defBody s_steps_of) (defScope s_steps_of) .none kV11 dc11 pm11 an11 cd11 ct11), sl11⟩) (c11 : PySem.W.codeIn K cd11 "steps_of" = true) (k11 : PySem.W.keepIn K (.ref f11) = true)
    (a23 : PySem.W.nsIn K mainGlobals "law" = some (some (.ref f23))) (l23 : K.lookup f23 = some ⟨oc23, od23, .func (PySem.W.fnOf "law" "law" (defArgs s_law) (defBody s_law) (defScope s_law) .none kV23 dc23 pm23 an23 cd23 ct23), sl23⟩) (c23 : PySem.W.codeIn K cd23 "law" = true) (k23 : PySem.W.keepIn K (.ref f23) = true)
    (z_isinstance : PySem.W.nsIn K mainGlobals "isinstance" = some none)
    (z_int : PySem.W.nsIn K mainGlobals "int" = some none)
    (z_bool : PySem.W.nsIn K mainGlobals "bool" = some none)
    (z_range : PySem.W.nsIn K mainGlobals "range" = some none)
    (z_min : PySem.W.nsIn K mainGlobals "min" = some none)
    (z_max : PySem.W.nsIn K mainGlobals "max" = some none)
    (z_sum : PySem.W.nsIn K mainGlobals "sum" = some none)
    (z_len : PySem.W.nsIn K mainGlobals "len" = some none)
    (z_list : PySem.W.nsIn K mainGlobals "list" = some none)
    (z_enumerate : PySem.W.nsIn K mainGlobals "enumerate" = some none)
    (z_zip : PySem.W.nsIn K mainGlobals "zip" = some none)
    {t_MOST_STEPS : Tok} (z_MOST_STEPS : PySem.W.nsIn K mainGlobals "MOST_STEPS" = some (some (.int 200 t_MOST_STEPS)))
    (z_MOST_PACE : ∃ t, mg "MOST_PACE" = some (.int 1000000000 t))
    (z_MOST_DISTANCE : ∃ t, mg "MOST_DISTANCE" = some (.int 1000000000000 t)) :
    ∃ fd : FuncData, (∀ (s : Shared) (v : Value), BindsTo s fd ⟨[v], []⟩ [("_law_script", v)]) ∧ ∀ base : Heap, K.In base → base.Ns mainGlobals mg → FnOk P w K mg base CX0 5 fa fd ["_law_script"] (spLaw K) := by
  have e := hfa.symm.trans (PySem.W.mg_of X G a23)
  cases e
  have F8 := fun_mk (st := s_is_whole) l8 c8 k8
  have b8 := F8.binds (ps := ["thing", "least", "most"]) fun _ _ _ _ _ _ us hl => match us, hl with | [_, _, _], _ => rfl
  have F12 := fun_mk (st := s_added_reach) l12 c12 k12
  have b12 := F12.binds (ps := ["many", "pace", "gain"]) fun _ _ _ _ _ _ us hl => match us, hl with | [_, _, _], _ => rfl
  have F14 := fun_mk (st := s_greatest_step) l14 c14 k14
  have b14 := F14.binds (ps := ["ahead", "behind", "left", "pace", "gain"]) fun _ _ _ _ _ _ us hl => match us, hl with | [_, _, _, _, _], _ => rfl
  have F16 := fun_mk (st := s__law_wide) l16 c16 k16
  have b16 := F16.binds (ps := ["_law_cell", "_law_k"]) fun _ _ _ _ _ _ us hl => match us, hl with | [_, _], _ => rfl
  have F17 := fun_mk (st := s__law_rate) l17 c17 k17
  have b17 := F17.binds (ps := ["_law_number"]) fun _ _ _ _ _ _ us hl => match us, hl with | [_], _ => rfl
  have F18 := fun_mk (st := s__law_reach) l18 c18 k18
  have b18 := F18.binds (ps := ["_law_many", "_law_pace", "_law_gain"]) fun _ _ _ _ _ _ us hl => match us, hl with | [_, _, _], _ => rfl
  have F19 := fun_mk (st := s__law_least) l19 c19 k19
  have b19 := F19.binds (ps := ["_law_step", "_law_many", "_law_gain"]) fun _ _ _ _ _ _ us hl => match us, hl with | [_, _, _], _ => rfl
  have F9 := fun_mk (st := s_need_whole) l9 c9 k9
  have b9 := F9.binds (ps := ["thing", "least", "most", "what"]) fun _ _ _ _ _ _ us hl => match us, hl with | [_, _, _, _], _ => rfl
  have F13 := fun_mk (st := s_fewest_steps) l13 c13 k13
  have b13 := F13.binds (ps := ["distance", "pace", "gain"]) fun _ _ _ _ _ _ us hl => match us, hl with | [_, _, _], _ => rfl
  have F20 := fun_mk (st := s__law_distance) l20 c20 k20
  have b20 := F20.binds (ps := ["_law_number", "_law_pace", "_law_gain"]) fun _ _ _ _ _ _ us hl => match us, hl with | [_, _, _], _ => rfl
  have F21 := fun_mk (st := s__law_is_greatest) l21 c21 k21
  have b21 := F21.binds (ps := ["_law_steps", "_law_distance_here", "_law_pace", "_law_gain"]) fun _ _ _ _ _ _ us hl => match us, hl with | [_, _, _, _], _ => rfl
  have F10 := fun_mk (st := s_need_drive) l10 c10 k10
  have b10 := F10.binds (ps := ["pace", "gain"]) fun _ _ _ _ _ _ us hl => match us, hl with | [_, _], _ => rfl
  have F22 := fun_mk (st := s__law_is_right) l22 c22 k22
  have b22 := F22.binds (ps := ["_law_steps", "_law_distance_here", "_law_pace", "_law_gain"]) fun _ _ _ _ _ _ us hl => match us, hl with | [_, _, _, _], _ => rfl
  have F11 := fun_mk (st := s_steps_of) l11 c11 k11
  have b11 := F11.binds (ps := ["distance", "pace", "gain"]) fun _ _ _ _ _ _ us hl => match us, hl with | [_, _, _], _ => rfl
  have F23 := fun_mk (st := s_law) l23 c23 k23
  have B : Bt mg := ⟨PySem.W.mg_none_of X G z_isinstance, PySem.W.mg_none_of X G z_int, PySem.W.mg_none_of X G z_bool, PySem.W.mg_none_of X G z_range, PySem.W.mg_none_of X G z_min, PySem.W.mg_none_of X G z_max, PySem.W.mg_none_of X G z_sum, PySem.W.mg_none_of X G z_len, PySem.W.mg_none_of X G z_list, PySem.W.mg_none_of X G z_enumerate, PySem.W.mg_none_of X G z_zip, ⟨_, PySem.W.mg_of X G z_MOST_STEPS⟩, z_MOST_PACE, z_MOST_DISTANCE⟩
  refine ⟨PySem.W.fnOf "law" "law" (defArgs s_law) (defBody s_law) (defScope s_law) .none kV23 dc23 pm23 an23 cd23 ct23, fun s v => .of_eq rfl, fun base _ _ => ?_⟩
  have F_is_whole : Fn P w K mg base "is_whole" ["thing", "least", "most"] CX0 1 _ := ⟨f8, _, ok_is_whole B  F8, PySem.W.mg_of X G a8, k8, b8⟩
  have F_added_reach : Fn P w K mg base "added_reach" ["many", "pace", "gain"] CX0 1 _ := ⟨f12, _, ok_added_reach B  F12, PySem.W.mg_of X G a12, k12, b12⟩
  have F_greatest_step : Fn P w K mg base "greatest_step" ["ahead", "behind", "left", "pace", "gain"] CX0 1 _ := ⟨f14, _, ok_greatest_step B  F14, PySem.W.mg_of X G a14, k14, b14⟩
  have F__law_wide : Fn P w K mg base "_law_wide" ["_law_cell", "_law_k"] CX0 1 _ := ⟨f16, _, ok__law_wide B  F16, PySem.W.mg_of X G a16, k16, b16⟩
  have F__law_rate : Fn P w K mg base "_law_rate" ["_law_number"] CX0 1 _ := ⟨f17, _, ok__law_rate B  F17, PySem.W.mg_of X G a17, k17, b17⟩
  have F__law_reach : Fn P w K mg base "_law_reach" ["_law_many", "_law_pace", "_law_gain"] CX0 1 _ := ⟨f18, _, ok__law_reach B  F18, PySem.W.mg_of X G a18, k18, b18⟩
  have F__law_least : Fn P w K mg base "_law_least" ["_law_step", "_law_many", "_law_gain"] CX0 1 _ := ⟨f19, _, ok__law_least B  F19, PySem.W.mg_of X G a19, k19, b19⟩
  have F_need_whole : Fn P w K mg base "need_whole" ["thing", "least", "most", "what"] CX0 2 _ := ⟨f9, _, ok_need_whole B F_is_whole F9, PySem.W.mg_of X G a9, k9, b9⟩
  have F_fewest_steps : Fn P w K mg base "fewest_steps" ["distance", "pace", "gain"] CX0 2 _ := ⟨f13, _, ok_fewest_steps B F_added_reach F13, PySem.W.mg_of X G a13, k13, b13⟩
  have F__law_distance : Fn P w K mg base "_law_distance" ["_law_number", "_law_pace", "_law_gain"] CX0 2 _ := ⟨f20, _, ok__law_distance B F__law_reach F20, PySem.W.mg_of X G a20, k20, b20⟩
  have F__law_is_greatest : Fn P w K mg base "_law_is_greatest" ["_law_steps", "_law_distance_here", "_law_pace", "_law_gain"] CX0 2 _ := ⟨f21, _, ok__law_is_greatest B F__law_least F21, PySem.W.mg_of X G a21, k21, b21⟩
  have F_need_drive : Fn P w K mg base "need_drive" ["pace", "gain"] CX0 3 _ := ⟨f10, _, ok_need_drive B F_need_whole F10, PySem.W.mg_of X G a10, k10, b10⟩
  have F__law_is_right : Fn P w K mg base "_law_is_right" ["_law_steps", "_law_distance_here", "_law_pace", "_law_gain"] CX0 3 _ := ⟨f22, _, ok__law_is_right B F__law_reach F__law_is_greatest F22, PySem.W.mg_of X G a22, k22, b22⟩
  have F_steps_of : Fn P w K mg base "steps_of" ["distance", "pace", "gain"] CX0 4 _ := ⟨f11, _, ok_steps_of B F_need_whole F_need_drive F_fewest_steps F_greatest_step F11, PySem.W.mg_of X G a11, k11, b11⟩
  exact ok_law B F__law_wide F__law_rate F__law_distance F__law_is_right F_steps_of F23
end FW
open PySem PySem.W PyProof.Rows
set_option maxHeartbeats 0 in
theorem PySem.Challenge.cw_flywright_k02_whole_steps_of_moves_holds : PySem.Challenge.rw_flywright_k02_whole_steps_of_moves.Holds := by
  w_on; o_law; k_head; (case hw => w_witness2)
  k_fill
  refine L2.walk_ofX (l := PySem.Challenge.rw_flywright_k02_whole_steps_of_moves) (n := 63) (k := 5) (x := "_law_script") (sp := FW.spLaw) rfl (by decide) rfl ⟨rfl, by decide, by decide⟩ (fun w h Y => PySem.W.kIn_of Y) ?F (fun _ _ a ns hl _ hS => ⟨a, ns, rfl, hS, hl, fun _ => rfl⟩)
  case F =>
    intro w mg fa h KX G XX hmg
    refine' FW.all_mk KX G hmg ?a8 ?l8 ?c8 ?k8 ?a12 ?l12 ?c12 ?k12 ?a14 ?l14 ?c14 ?k14 ?a16 ?l16 ?c16 ?k16 ?a17 ?l17 ?c17 ?k17 ?a18 ?l18 ?c18 ?k18 ?a19 ?l19 ?c19 ?k19 ?a9 ?l9 ?c9 ?k9 ?a13 ?l13 ?c13 ?k13 ?a20 ?l20 ?c20 ?k20 ?a21 ?l21 ?c21 ?k21 ?a10 ?l10 ?c10 ?k10 ?a22 ?l22 ?c22 ?k22 ?a11 ?l11 ?c11 ?k11 ?a23 ?l23 ?c23 ?k23 ?z_isinstance ?z_int ?z_bool ?z_range ?z_min ?z_max ?z_sum ?z_len ?z_list ?z_enumerate ?z_zip ?z_MOST_STEPS ?z_MOST_PACE ?z_MOST_DISTANCE
    (case a8 => k_is)
    (case l8 => k_is)
    (case c8 => k_is)
    (case k8 => k_is)
    (case a12 => k_is)
    (case l12 => k_is)
    (case c12 => k_is)
    (case k12 => k_is)
    (case a14 => k_is)
    (case l14 => k_is)
    (case c14 => k_is)
    (case k14 => k_is)
    (case a16 => k_is)
    (case l16 => k_is)
    (case c16 => k_is)
    (case k16 => k_is)
    (case a17 => k_is)
    (case l17 => k_is)
    (case c17 => k_is)
    (case k17 => k_is)
    (case a18 => k_is)
    (case l18 => k_is)
    (case c18 => k_is)
    (case k18 => k_is)
    (case a19 => k_is)
    (case l19 => k_is)
    (case c19 => k_is)
    (case k19 => k_is)
    (case a9 => k_is)
    (case l9 => k_is)
    (case c9 => k_is)
    (case k9 => k_is)
    (case a13 => k_is)
    (case l13 => k_is)
    (case c13 => k_is)
    (case k13 => k_is)
    (case a20 => k_is)
    (case l20 => k_is)
    (case c20 => k_is)
    (case k20 => k_is)
    (case a21 => k_is)
    (case l21 => k_is)
    (case c21 => k_is)
    (case k21 => k_is)
    (case a10 => k_is)
    (case l10 => k_is)
    (case c10 => k_is)
    (case k10 => k_is)
    (case a22 => k_is)
    (case l22 => k_is)
    (case c22 => k_is)
    (case k22 => k_is)
    (case a11 => k_is)
    (case l11 => k_is)
    (case c11 => k_is)
    (case k11 => k_is)
    (case a23 => k_is)
    (case l23 => k_is)
    (case c23 => k_is)
    (case k23 => k_is)
    (case z_isinstance => k_is)
    (case z_int => k_is)
    (case z_bool => k_is)
    (case z_range => k_is)
    (case z_min => k_is)
    (case z_max => k_is)
    (case z_sum => k_is)
    (case z_len => k_is)
    (case z_list => k_is)
    (case z_enumerate => k_is)
    (case z_zip => k_is)
    (case z_MOST_STEPS => k_is)
    (case z_MOST_PACE => exact L2.loose_int XX (by simp))
    (case z_MOST_DISTANCE => exact L2.loose_int XX (by simp))

