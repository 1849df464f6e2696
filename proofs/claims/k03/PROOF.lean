import PyProof.Rows.All
import Wide.All
import OpenK.AllK
import Wide.FinOn
import PySem.Challenge.RW_flywright_k03_moves_refused
import HandS.ForMost
import HandS.Evl
import HandS.Wide
import HandS.Flt
import HandS.IsInst
import HandS.Walk
import HandS.Exc
import HandS.ExcOwn
import HandS.ExcIs
import HandS.RaiseMore
import HandS.FStr
import HandS.WordsExc
set_option Elab.async false
set_option linter.all false
set_option maxRecDepth 100000
set_option maxHeartbeats 4000000
namespace FW
/-- the sum of f 0 .. f (n - 1) -/
def S (f : Nat → Int) : Nat → Int
  | 0 => 0
  | n + 1 => S f n + f n
def tri : Nat → Int
  | 0 => 0
  | n + 1 => tri n + ((n : Int) + 1)
theorem S_le {f g : Nat → Int} : ∀ {n : Nat}, (∀ i, i < n → f i ≤ g i) → S f n ≤ S g n
  | 0, _ => Int.le_refl _
  | n + 1, h => by
    have h1 := S_le (n := n) (fun i hi => h i (by omega))
    have h2 := h n (by omega)
    show S f n + f n ≤ S g n + g n
    omega
theorem S_congr {f g : Nat → Int} {n : Nat} (h : ∀ i, i < n → f i = g i) : S f n = S g n :=
  Int.le_antisymm (S_le fun i hi => Int.le_of_eq (h i hi)) (S_le fun i hi => Int.le_of_eq (h i hi).symm)
theorem S_first (f : Nat → Int) : ∀ n : Nat, S f (n + 1) = f 0 + S (fun i => f (i + 1)) n
  | 0 => by
    show 0 + f 0 = f 0 + 0
    omega
  | n + 1 => by
    have h := S_first f n
    show S f (n + 1) + f (n + 1) = f 0 + (S (fun i => f (i + 1)) n + f (n + 1))
    omega
theorem S_ones : ∀ n : Nat, S (fun _ => 1) n = n
  | 0 => rfl
  | n + 1 => by
    have h := S_ones n
    show S (fun _ => 1) n + 1 = ((n + 1 : Nat) : Int)
    omega
theorem tri_two : ∀ n : Nat, 2 * tri n = (n : Int) * ((n : Int) + 1)
  | 0 => rfl
  | n + 1 => by
    have h := tri_two n
    show 2 * (tri n + ((n : Int) + 1)) = ((n + 1 : Nat) : Int) * (((n + 1 : Nat) : Int) + 1)
    have e1 : ((n + 1 : Nat) : Int) = (n : Int) + 1 := by omega
    rw [e1, Int.mul_add, h]
    generalize (n : Int) = z
    have e2 : (z + 1) * (z + 1 + 1) = z * (z + 1) + (z + 1) + (z + 1) := by
      simp only [Int.add_mul, Int.mul_add]
      omega
    rw [e2]
    omega
theorem tri_sq (n : Nat) : tri n + tri (n + 1) = ((n : Int) + 1) * ((n : Int) + 1) := by
  have h := tri_two n
  show tri n + (tri n + ((n : Int) + 1)) = _
  generalize (n : Int) = z at *
  have e : (z + 1) * (z + 1) = z * (z + 1) + (z + 1) := by
    simp only [Int.add_mul, Int.mul_add]
    omega
  omega
theorem tri_nn : ∀ n : Nat, 0 ≤ tri n
  | 0 => Int.le_refl _
  | n + 1 => by
    have h := tri_nn n
    show 0 ≤ tri n + ((n : Int) + 1)
    omega
/-- G (n - 0) + G (n - 1) + .. + G 1 -/
theorem S_down (G : Int) : ∀ n : Nat, S (fun i => G * ((n : Int) - (i : Int))) n = G * tri n
  | 0 => by
    show (0 : Int) = G * 0
    omega
  | n + 1 => by
    have h := S_down G n
    rw [S_first]
    have e : S (fun i => G * (((n + 1 : Nat) : Int) - ((i + 1 : Nat) : Int))) n = S (fun i => G * ((n : Int) - (i : Int))) n := S_congr fun i _ => by
      have e1 : ((n + 1 : Nat) : Int) - ((i + 1 : Nat) : Int) = (n : Int) - (i : Int) := by omega
      rw [e1]
    rw [e, h]
    show G * (((n + 1 : Nat) : Int) - ((0 : Nat) : Int)) + G * tri n = G * (tri n + ((n : Int) + 1))
    have e2 : ((n + 1 : Nat) : Int) - ((0 : Nat) : Int) = (n : Int) + 1 := by omega
    rw [e2, Int.mul_add G (tri n)]
    omega
/-- (x - G) + (x - 2 G) + .. + (x - n G) -/
theorem S_fall (G x : Int) : ∀ n : Nat, S (fun i => x - G * ((i : Int) + 1)) n = x * (n : Int) - G * tri n
  | 0 => by
    show (0 : Int) = x * ((0 : Nat) : Int) - G * 0
    simp
  | n + 1 => by
    have h := S_fall G x n
    show S (fun i => x - G * ((i : Int) + 1)) n + (x - G * ((n : Int) + 1)) = x * ((n + 1 : Nat) : Int) - G * (tri n + ((n : Int) + 1))
    have e1 : ((n + 1 : Nat) : Int) = (n : Int) + 1 := by omega
    rw [h, e1, Int.mul_add G (tri n), Int.mul_add x]
    omega

/-- the greatest sum of m steps behind a step s -/
def top (P G s : Int) (m i : Nat) : Int := min (min P (s + G * ((i : Int) + 1))) (G * ((m : Int) - (i : Int)))
def U (P G s : Int) (m : Nat) : Int := S (top P G s m) m
section
variable {P G s L : Int}
theorem pos_mul {a b : Int} (ha : 1 ≤ a) (hb : 1 ≤ b) : 1 ≤ a * b := by
  have h : 0 < a * b := Int.mul_pos (by omega) (by omega)
  omega
theorem U_ge (hP : 1 ≤ P) (hG : 1 ≤ G) (hs : 0 ≤ s) (m : Nat) : (m : Int) ≤ U P G s m := by
  rw [← S_ones m]
  refine S_le fun i hi => ?_
  have h1 : 1 ≤ G * ((i : Int) + 1) := pos_mul hG (by omega)
  have h2 : 1 ≤ G * ((m : Int) - (i : Int)) := pos_mul hG (by omega)
  unfold top
  omega
theorem U_le_tri (m : Nat) : U P G s m ≤ G * tri m := by
  rw [← S_down G m]
  refine S_le fun i _ => ?_
  unfold top
  omega
/-- what holds with m steps to go, behind a step s, L still to be gone -/
structure Go (P G s : Int) (m : Nat) (L : Int) : Prop where
  s0 : 0 ≤ s
  sP : s ≤ P
  most : L ≤ U P G s m
  fewest : ∀ b, m = b + 1 → U P G s b < L
  least : s * (m : Int) - G * tri m ≤ L
def next (P G s : Int) (b : Nat) (L : Int) : Int := min (min P (s + G)) ((L + G * tri b) / ((b : Int) + 1))
structure Good (P G s : Int) (b : Nat) (L x : Int) : Prop where
  x1 : 1 ≤ x
  xP : x ≤ P
  up : x ≤ s + G
  down : s - G ≤ x
  end_ : x ≤ G * ((b : Int) + 1)
  great : x = P ∨ x = s + G ∨ L < (x + 1) * ((b : Int) + 1) - G * tri b
  go : Go P G x b (L - x)
theorem le_of_mul {a b c : Int} (hc : 0 < c) (h : a * c ≤ b * c) : a ≤ b := Int.le_of_mul_le_mul_right h hc
theorem next_good (hP : 1 ≤ P) (hG : 1 ≤ G) {b : Nat} (I : Go P G s (b + 1) L) : Good P G s b L (next P G s b L) := by
  obtain ⟨s0, sP, most, fewest, least⟩ := I
  have few := fewest b rfl
  have hm : (0 : Int) < (b : Int) + 1 := by omega
  have q1 : (L + G * tri b) / ((b : Int) + 1) * ((b : Int) + 1) ≤ L + G * tri b := Int.ediv_mul_le _ (by omega)
  have q2 : L + G * tri b < ((L + G * tri b) / ((b : Int) + 1) + 1) * ((b : Int) + 1) := Int.lt_ediv_add_one_mul_self _ hm
  have qge : ∀ z : Int, z * ((b : Int) + 1) ≤ L + G * tri b → z ≤ (L + G * tri b) / ((b : Int) + 1) := fun z hz => (Int.le_ediv_iff_mul_le hm).mpr hz
  have hx : next P G s b L = min (min P (s + G)) ((L + G * tri b) / ((b : Int) + 1)) := rfl
  generalize (L + G * tri b) / ((b : Int) + 1) = q at *
  generalize next P G s b L = x at *
  have xq : x ≤ q := by omega
  have xP : x ≤ P := by omega
  have xs : x ≤ s + G := by omega
  have eT : tri (b + 1) = tri b + ((b : Int) + 1) := rfl
  have GT : G * tri (b + 1) = G * tri b + G * ((b : Int) + 1) := by rw [eT, Int.mul_add]
  have tnn := tri_nn b
  have Gt : 0 ≤ G * tri b := Int.mul_nonneg (by omega) tnn
  have xm : x * ((b : Int) + 1) ≤ L + G * tri b := Int.le_trans (Int.mul_le_mul_of_nonneg_right xq (by omega)) q1
  have ub := U_ge hP hG s0 b
  have lo1 : 1 ≤ q := qge 1 (by omega)
  have x1 : 1 ≤ x := by omega
  have cb : ((b + 1 : Nat) : Int) = (b : Int) + 1 := by omega
  rw [cb] at least
  have lo2 : s - G ≤ q := qge _ (by
    rw [Int.sub_mul]
    rw [GT] at least
    omega)
  have uT : U P G s (b + 1) ≤ G * tri (b + 1) := U_le_tri _
  have sq := tri_sq b
  have Gsq : G * tri b + G * tri (b + 1) = G * ((b : Int) + 1) * ((b : Int) + 1) := by
    rw [← Int.mul_add, sq, Int.mul_assoc]
  have xe : x ≤ G * ((b : Int) + 1) := le_of_mul hm (by omega)
  have xb : x * ((b : Int) + 1) = x * (b : Int) + x := by rw [Int.mul_add, Int.mul_one]
  refine ⟨x1, xP, xs, by omega, xe, ?_, ?_⟩
  · by_cases h1 : x = P
    · exact .inl h1
    · by_cases h2 : x = s + G
      · exact .inr (.inl h2)
      · have e : x = q := by omega
        subst e
        exact .inr (.inr (by omega))
  · refine ⟨by omega, xP, ?_, ?_, by omega⟩
    · by_cases h : x = P ∨ x = s + G
      · -- the first two
        have e1 : U P G s (b + 1) = top P G s (b + 1) 0 + S (fun i => top P G s (b + 1) (i + 1)) b := S_first _ _
        have e2 : top P G s (b + 1) 0 ≤ x := by
          unfold top
          have : s + G * (((0 : Nat) : Int) + 1) = s + G := by simp
          omega
        have e3 : S (fun i => top P G s (b + 1) (i + 1)) b ≤ U P G x b := S_le fun i hi => by
          unfold top
          have c1 : ((b + 1 : Nat) : Int) - ((i + 1 : Nat) : Int) = (b : Int) - (i : Int) := by omega
          have c2 : ((i + 1 : Nat) : Int) + 1 = ((i : Int) + 1) + 1 := by omega
          rw [c1, c2, Int.mul_add G ((i : Int) + 1) 1, Int.mul_one]
          have p1 : 1 ≤ G * ((i : Int) + 1) := pos_mul hG (by omega)
          omega
        omega
      · have e : x = q := by omega
        subst e
        have ex : (x + 1) * ((b : Int) + 1) = x * (b : Int) + x + ((b : Int) + 1) := by
          rw [Int.add_mul, Int.one_mul, xb]
        by_cases hl : x = G * ((b : Int) + 1)
        · have e1 : G * tri b ≤ U P G x b := by
            rw [← S_down G b]
            refine S_le fun i hi => ?_
            unfold top
            have m1 : G * ((b : Int) - (i : Int)) ≤ G * ((b : Int) + 1) := Int.mul_le_mul_of_nonneg_left (by omega) (by omega)
            have p1 : 1 ≤ G * ((i : Int) + 1) := pos_mul hG (by omega)
            omega
          omega
        · have e1 : (x + 1) * (b : Int) - G * tri b ≤ U P G x b := by
            rw [← S_fall G (x + 1) b]
            refine S_le fun i hi => ?_
            unfold top
            have p1 : 1 ≤ G * ((i : Int) + 1) := pos_mul hG (by omega)
            have c : G * ((b : Int) - (i : Int)) = G * ((b : Int) + 1) - G * ((i : Int) + 1) := by
              rw [← Int.mul_sub]
              congr 1
              omega
            omega
          rw [Int.add_mul, Int.one_mul] at e1
          omega
    · intro c hc
      subst hc
      have cb2 : ((c + 1 : Nat) : Int) = (c : Int) + 1 := by omega
      have xc : x * ((c + 1 : Nat) : Int) = x * ((c : Int) + 1) := by rw [cb2]
      by_cases hl : x ≤ G * ((c : Int) + 1)
      · have e1 : U P G s (c + 1) = top P G s (c + 1) 0 + S (fun i => top P G s (c + 1) (i + 1)) c := S_first _ _
        have e2 : x ≤ top P G s (c + 1) 0 := by
          unfold top
          have c1 : s + G * (((0 : Nat) : Int) + 1) = s + G := by simp
          have c2 : ((c + 1 : Nat) : Int) - ((0 : Nat) : Int) = (c : Int) + 1 := by omega
          rw [c1, c2]
          omega
        have e3 : U P G x c ≤ S (fun i => top P G s (c + 1) (i + 1)) c := S_le fun i hi => by
          unfold top
          have c1 : ((c + 1 : Nat) : Int) - ((i + 1 : Nat) : Int) = (c : Int) - (i : Int) := by omega
          have c2 : ((i + 1 : Nat) : Int) + 1 = ((i : Int) + 1) + 1 := by omega
          rw [c1, c2, Int.mul_add G ((i : Int) + 1) 1, Int.mul_one]
          omega
        omega
      · have u2 : U P G x c ≤ G * tri c := U_le_tri _
        have sq2 := tri_sq c
        have Gsq2 : G * tri c + G * tri (c + 1) = G * ((c : Int) + 1) * ((c : Int) + 1) := by
          rw [← Int.mul_add, sq2, Int.mul_assoc]
        have xl : (G * ((c : Int) + 1) + 1) * ((c : Int) + 1) ≤ x * ((c : Int) + 1) := Int.mul_le_mul_of_nonneg_right (by omega) (by omega)
        rw [Int.add_mul, Int.one_mul] at xl
        omega
/-- the row of steps -/
def row (P G : Int) : Nat → Int → Int → List Int
  | 0, _, _ => []
  | b + 1, s, L => next P G s b L :: row P G b (next P G s b L) (L - next P G s b L)
theorem row_len : ∀ (m : Nat) (s L : Int), (row P G m s L).length = m
  | 0, _, _ => rfl
  | b + 1, s, L => by
    show (row P G b _ _).length + 1 = b + 1
    rw [row_len b]
theorem Go.zero (I : Go P G s 0 L) : L = 0 := by
  have h1 := I.most
  have h2 := I.least
  have e1 : U P G s 0 = 0 := rfl
  have e2 : s * ((0 : Nat) : Int) - G * tri 0 = 0 := by
    show s * 0 - G * 0 = 0
    omega
  omega
theorem row_sum (hP : 1 ≤ P) (hG : 1 ≤ G) : ∀ (m : Nat) (s L : Int), Go P G s m L → (row P G m s L).sum = L
  | 0, s, L, I => by
    rw [I.zero]
    rfl
  | b + 1, s, L, I => by
    have g := next_good hP hG I
    have ih := row_sum hP hG b _ _ g.go
    show (next P G s b L :: row P G b _ _).sum = L
    rw [List.sum_cons, ih]
    omega
/-! ### the reach -/
/-- by the middle: f 1, f 1, f 2, f 2, .. -/
theorem S_mid : ∀ (n : Nat) (f : Nat → Int), S (fun i => f (min (i + 1) (n - i))) n = S (fun j => f ((j + 2) / 2)) n
  | 0, _ => rfl
  | 1, f => rfl
  | n + 2, f => by
    have ih := S_mid n (fun k => f (k + 1))
    have e1 : S (fun i => f (min (i + 1) (n + 2 - i))) (n + 2) = f 1 + S (fun i => f (min (i + 1) (n - i) + 1)) n + f 1 := by
      show S (fun i => f (min (i + 1) (n + 2 - i))) (n + 1) + f (min (n + 1 + 1) (n + 2 - (n + 1))) = _
      rw [S_first]
      have a1 : min (n + 1 + 1) (n + 2 - (n + 1)) = 1 := by omega
      have a2 : min (0 + 1) (n + 2 - 0) = 1 := by omega
      rw [a1, a2]
      have a3 : S (fun i => f (min (i + 1 + 1) (n + 2 - (i + 1)))) n = S (fun i => f (min (i + 1) (n - i) + 1)) n := S_congr fun i hi => by
        congr 1
        omega
      rw [a3]
    have e2 : S (fun j => f ((j + 2) / 2)) (n + 2) = f 1 + (f 1 + S (fun j => f ((j + 2) / 2 + 1)) n) := by
      rw [S_first, S_first]
      have a3 : S (fun i => f ((i + 1 + 1 + 2) / 2)) n = S (fun j => f ((j + 2) / 2 + 1)) n := S_congr fun i hi => by
        congr 1
        omega
      rw [a3]
    rw [e1, e2, ih]
    omega
/-- what one more step adds -/
def added (P G : Int) (j : Nat) : Int := min P (G * (((j : Int) + 1) / 2))
theorem U_reach (P G : Int) (hP : 0 ≤ P) (hG : 0 ≤ G) (n : Nat) : U P G 0 n = S (added P G) (n + 1) := by
  rw [S_first]
  have a0 : added P G 0 = 0 := by
    unfold added
    show min P (G * ((0 + 1) / 2)) = 0
    have : ((0 : Int) + 1) / 2 = 0 := by decide
    rw [this]
    omega
  rw [a0, Int.zero_add]
  have e1 : U P G 0 n = S (fun i => (fun k : Nat => min P (G * (k : Int))) (min (i + 1) (n - i))) n := S_congr fun i hi => by
    unfold top
    show min (min P (0 + G * ((i : Int) + 1))) (G * ((n : Int) - (i : Int))) = min P (G * ((min (i + 1) (n - i) : Nat) : Int))
    by_cases h : i + 1 ≤ n - i
    · have c : min (i + 1) (n - i) = i + 1 := by omega
      have m1 : G * ((i : Int) + 1) ≤ G * ((n : Int) - (i : Int)) := Int.mul_le_mul_of_nonneg_left (by omega) hG
      rw [c]
      have c2 : ((i + 1 : Nat) : Int) = (i : Int) + 1 := by omega
      rw [c2]
      omega
    · have c : min (i + 1) (n - i) = n - i := by omega
      have m1 : G * ((n : Int) - (i : Int)) ≤ G * ((i : Int) + 1) := Int.mul_le_mul_of_nonneg_left (by omega) hG
      rw [c]
      have c2 : ((n - i : Nat) : Int) = (n : Int) - (i : Int) := by omega
      rw [c2]
      omega
  rw [e1]
  refine (S_mid n (fun k : Nat => min P (G * (k : Int)))).trans ?_
  refine S_congr fun i _ => ?_
  unfold added
  show min P (G * (((i + 2) / 2 : Nat) : Int)) = min P (G * ((((i + 1 : Nat) : Int) + 1) / 2))
  have c : (((i + 2) / 2 : Nat) : Int) = (((i + 1 : Nat) : Int) + 1) / 2 := by omega
  rw [c]
theorem go_start (hP : 1 ≤ P) (hG : 1 ≤ G) {n : Nat} {d : Int} (hd : 0 ≤ d) (h1 : d ≤ U P G 0 n) (h2 : ∀ b, n = b + 1 → U P G 0 b < d) : Go P G 0 n d := by
  refine ⟨Int.le_refl _, by omega, h1, h2, ?_⟩
  have t := Int.mul_nonneg (show (0 : Int) ≤ G by omega) (tri_nn n)
  rw [Int.zero_mul]
  omega
end
end FW
/-! ### the layer of this hand: own defs by one fact each, constants of the top, the law's end with the loose names -/
namespace L2
open PySem PySem.Spec PyProof.Rows
/-- the def of the top called x keeps the promise sp -/
def Fn (P : Program) (w : World) (K : PySem.W.Frag) (mg : Str → Option Value) (base : Heap) (x : Str) (ps : List Str) (CX : CXT) (k : Nat) (sp : Sp) : Prop :=
  ∃ (f : Addr) (fd : FuncData), FnOk P w K mg base CX k f fd ps sp ∧ mg x = some (.ref f) ∧ PySem.W.keepIn K (.ref f) = true ∧ Binds K fd ps []
section
variable {X : Cx} {k : Nat} {ps : List Str} {sp : Sp} {x : Str} {p pos : Pos} {e : Expr} {es : List Expr} {t : TA} {ps : List Str}
theorem pe_fn (F : Fn X.prog X.w X.K X.mg X.base x ps CX0 k sp) (hr : Room k X.A) (ha : PA X (e :: es) t) (hg : Gl X x := by rfl) (hdb : (x == ("__debug__" : Str)) = false := by decide)
    (he : starEach (e :: es) X.env = (false, eval e X.env) :: starEach es X.env := by rfl) (hpl : (backTo pos (starEach es X.env)).any (·.1) = false := by rfl) :
    PE X (.Call (.Name x p) (e :: es) [] pos) (tCall sp [] E0 t) := by
  obtain ⟨f, fd, h1, h2, h3, h4⟩ := F
  exact pe_call h1 hr hg h2 h3 h4 .nil pass0 ha hdb he hpl
theorem pe_gint {i : Int} (h : ∃ t, X.mg x = some (.int i t)) (hg : Gl X x := by rfl) (hd : (x == ("__debug__" : Str)) = false := by decide) : PE X (.Name x pos) (tC (.int i)) := by
  obtain ⟨t, e⟩ := h
  exact pe_glob hg e ⟨_, rfl⟩ hd
end
theorem walk_ofX {l : PySem.W.OpenLaw} {n k : Nat} {q : Program} {loose : List Str} {XP : (Str → Option Value) → Heap → Prop} {YP : World → Heap → Prop} {d : DefRec} {K : Params → PySem.W.Frag} {sp : PySem.W.Frag → Sp} {x : Str}
    (hn : l.most = some n) (hn2 : n ≤ sizeLine) (hdf : d.params.defaults = []) (hr : Room k callerA)
    (hY : ∀ (w : World) (h : Heap), YP w h → (K w.params).In h)
    (F : ∀ (w : World) (mg : Str → Option Value) (fa : Addr) (h : Heap), (K w.params).In h → h.Ns mainGlobals mg → XP mg h → mg d.name = some (.ref fa) →
      ∃ fd : FuncData, (∀ (s : Shared) (u : Value), BindsTo s fd ⟨[u], []⟩ [(x, u)]) ∧
        ∀ base : Heap, (K w.params).In base → base.Ns mainGlobals mg → FnOk l.prog w (K w.params) mg base CX0 k fa fd [x] (sp (K w.params)))
    (hsp : ∀ (K : PySem.W.Frag) (H : Hp) (a : Addr) (ns : List Int), ns.length ≤ n → Only H → SqL K H a (ns.map V.int) → sp K [.ref a] H (fun v _ => v = .bl true) fun _ _ _ => False) :
    PySem.W.WalkO q loose XP YP l.row.toRowW d [] (fun f vs => PySem.call f vs) := by
  refine Att.attach_call hn hdf fun w s₀ s₁ mg mb fa o pm cd doc a vs ns G Y ho hd hcd hmg hobj hints hlen hg => ?_
  have KX := hY w _ Y
  obtain ⟨fd, hb, hF⟩ := F w mg fa _ KX G.T.g G.X hmg
  exact law_call KX G.T.g G.T.b G.T.builtins G.T.nolimit hg hobj hints (Nat.le_trans hlen hn2) hr hF hb (fun H hO hS => hsp (K w.params) H a ns hlen hO hS) fun H e s' z => z
theorem loose_int {lv : List (Str × PySem.W.WData)} {mg : Str → Option Value} {h : Heap} {q : Program} (X : PySem.W.XL q lv mg h) {x : Str} {i : Int} (hm : (x, PySem.W.WData.int i) ∈ lv) : ∃ t, mg x = some (.int i t) := by
  obtain ⟨v, e, r⟩ := X.2.val _ hm
  cases r
  exact ⟨_, e⟩
end L2
/-! ### readings, by what they come to -/
namespace L2
open PySem PySem.Spec PyProof.Rows Evl
theorem ex_upd {H : Hp} {p : Addr} {o : HO} (h : H p = none) : Ex H (upd H p o) := Ex.new h
theorem ifT {c : Bool} {A B : Prop} (hc : c = true) (h : A) : if c = true then A else B := by
  rw [if_pos hc]
  exact h
theorem ifF {c : Bool} {A B : Prop} (hc : c = false) (h : B) : if c = true then A else B := by
  rw [hc, if_neg Bool.false_ne_true]
  exact h
theorem cxK {CX : CXT} {P : Program} {w : World} {K : PySem.W.Frag} {mg : Str → Option Value} {base : Heap} {N : List Str} {q : Str} {sc : Scope} {f : Addr} {cdv : Value} {A : Around} {outer : List Env} {s : Shared} {H : Hp} {E : XK} :
    (cxOf CX P w K mg base N q sc f cdv A outer s H E).K = K := rfl
theorem isi_ty {K : PySem.W.Frag} {H : Hp} {x : V} {s n : String} {b : Bool} {Q : VK} (ht : TyX K H x (.type s)) (hk : kitB s n = some b) (q : Q (.bl b) H) : rIsi K [x, .ty n] H Q :=
  ⟨x, .ty n, .type s, .type n, b, rfl, .ty n, ht, kit_ty hk, q⟩
theorem isi_int {K : PySem.W.Frag} {H : Hp} {i : Int} {n : String} {b : Bool} {Q : VK} (hk : kitB "int" n = some b) (q : Q (.bl b) H) : rIsi K [.int i, .ty n] H Q := isi_ty (.base (.int i)) hk q
theorem min_if (a b : Int) : (if b < a then b else a) = min a b := by omega
theorem max_if (a b : Int) : (if b > a then b else a) = max a b := by omega
theorem min3_nu (a b c : Int) : nuMin3 (.int a) (.int b) (.int c) = some (.int (min (min a b) c)) := by
  unfold nuMin3 nuMin2 nuLt nuCB
  show (some (if decide (b < a) = true then V.int b else V.int a)).bind _ = _
  by_cases h : b < a
  · rw [decide_eq_true h, if_pos rfl, show min a b = b by omega]
    show some (if decide (c < b) = true then V.int c else V.int b) = _
    by_cases h2 : c < b
    · rw [decide_eq_true h2, if_pos rfl, show min b c = c by omega]
    · rw [decide_eq_false h2, if_neg Bool.false_ne_true, show min b c = b by omega]
  · rw [decide_eq_false h, if_neg Bool.false_ne_true, show min a b = a by omega]
    show some (if decide (c < a) = true then V.int c else V.int a) = _
    by_cases h2 : c < a
    · rw [decide_eq_true h2, if_pos rfl, show min a c = c by omega]
    · rw [decide_eq_false h2, if_neg Bool.false_ne_true, show min a c = a by omega]
theorem min3_eq {a b c : Int} {H : Hp} {Q : VK} : rNuC3 nuMin3 [.int a, .int b, .int c] H Q = Q (.int (min (min a b) c)) H := by
  refine propext ⟨fun h => ?_, fun q => ⟨_, _, _, _, rfl, min3_nu a b c, q⟩⟩
  obtain ⟨x, y, z, v, e, e2, q⟩ := h
  cases e
  rw [min3_nu] at e2
  cases e2
  exact q
theorem rEq_int {a b : Int} {H : Hp} {Q : VK} : rEq (.int a) (.int b) H Q = Q (.bl (decide (a = b))) H := by
  have e : decide (V.int a = V.int b) = decide (a = b) := by simp
  refine propext ⟨fun h => ?_, fun q => ⟨rfl, ?_⟩⟩
  · have h2 := h.2
    rw [e] at h2
    exact h2
  · rw [e]
    exact q
theorem rNe_int {a b : Int} {H : Hp} {Q : VK} : rNe (.int a) (.int b) H Q = Q (.bl (!decide (a = b))) H := by
  have e : decide (V.int a = V.int b) = decide (a = b) := by simp
  refine propext ⟨fun h => ?_, fun q => ⟨rfl, ?_⟩⟩
  · have h2 := h.2
    rw [e] at h2
    exact h2
  · rw [e]
    exact q
theorem ex_chg {H H' H'' : Hp} {l : Addr} (e : Ex H H') (hl : H l = none) (k : ∀ a, a ≠ l → H'' a = H' a) : Ex H H'' := fun a o h => by
  rw [k a (ne_of_none h hl)]
  exact e a o h
theorem cdw {i j : Int} (h : 0 < j) (h2 : j < 2 ^ 100) : CDivW i j := wide_div (b := 100) h (by omega) (by decide) (by decide)
theorem cmw {i j : Int} {a b : Nat} (hi : i.natAbs < 2 ^ a) (hj : j.natAbs < 2 ^ b) (h0 : 0 < a) (h1 : 0 < b) (h : a + b ≤ 1000000) : CMulW i j := wide_mul hi hj h0 h1 h
end L2
namespace L2
open PySem PySem.Spec PyProof.Rows Evl
/-- a loop over J -/
def LoopI (J : It) (g : TG) (tb : TS) (D : Ends) (σ : St) (H1 : Hp) : Prop := ∃ W : Nat → Nat → St → Hp → Prop, (∃ m, W 0 m σ H1) ∧ ∀ i m σ H, W i m σ H →
  (J.stop i H ∧ D.nx σ H) ∨ (J.go i H ∧ ∃ N : St → Hp → Prop, (∀ σ' H', N σ' H' → ∃ m', m' < m ∧ W (i + 1) m' σ' H') ∧ ∀ x H', J.yld i H x H' → g x σ H' fun σ2 H2 => tb { D with nx := N, ct := N, bk := D.nx } σ2 H2)
theorem tFor_eq {wi : TI} {g : TG} {tb : TS} {D : Ends} {σ : St} {H : Hp} : tFor wi g tb D σ H = wi σ H fun J H1 => LoopI J g tb D σ H1 := rfl
/-- a new object -/
def New (H : Hp) (o : HO) (R : Addr → Hp → Prop) : Prop := ∀ p, H p = none → R p (upd H p o)
theorem new_of {H : Hp} {o : HO} {R : Addr → Hp → Prop} (h : ∀ p H', H p = none → Ex H H' → H' p = some o → R p H') : New H o R := fun p np => h p _ np (Ex.new np) upd_same
/-- an object changes -/
def Chg (H : Hp) (l : Addr) (o : HO) (R : Hp → Prop) : Prop := R (upd H l o)
theorem chg_of {H : Hp} {l : Addr} {o : HO} {R : Hp → Prop} (h : ∀ H', (∀ a, a ≠ l → H' a = H a) → H' l = some o → R H') : Chg H l o R := h _ (fun _ ha => upd_ne ha) upd_same
theorem tLst_eq {t : TA} {σ : St} {H : Hp} {Q : VK} : tLst t σ H Q = t σ H fun xs H1 => xs.length ≤ sizeLine ∧ New H1 (.lst xs) fun p H2 => Q (.ref p) H2 := rfl
theorem tTup_eq {t : TA} {σ : St} {H : Hp} {Q : VK} : tTup t σ H Q = t σ H fun xs H1 => xs.length ≤ sizeLine ∧ New H1 (.tup xs) fun p H2 => Q (.ref p) H2 := rfl
theorem rCat_eq {x y : V} {H : Hp} {Q : VK} : rCat x y H Q = ∃ l b xs zs, x = .ref l ∧ y = .ref b ∧ H l = some (.lst xs) ∧ H b = some (.lst zs) ∧ xs.length + zs.length ≤ sizeLine ∧ New H (.lst (xs ++ zs)) fun p H2 => Q (.ref p) H2 := rfl
theorem rAppend_eq {x : V} {vs : List V} {H : Hp} {Q : VK} : rAppend x vs H Q = ∃ l xs y, x = .ref l ∧ vs = [y] ∧ H l = some (.lst xs) ∧ xs.length < sizeLine ∧ Chg H l (.lst (xs ++ [y])) fun H2 => Q .non H2 := rfl
/-- a comprehension over J, its list at Dl -/
def LcI (J : It) (g : TG) (tt : TT) (te : TE) (vs : List Nat) (σ : St) (H1 : Hp) (D : Addr) (Q : VK) : Prop := ∃ W : Nat → Nat → Hp → Prop, (∃ m, W 0 m (upd H1 D (.lst []))) ∧ ∀ i m H, W i m H →
  (J.stop i H ∧ Q (.ref D) H) ∨ (J.go i H ∧ ∃ Nx : Hp → Prop, (∀ H', Nx H' → ∃ m', m' < m ∧ W (i + 1) m' H') ∧ ∀ x H', J.yld i H x H' → g x (wipe σ vs) H' fun σ2 H2 => wipe σ2 vs = wipe σ vs ∧ tt σ2 H2 fun b H3 =>
    if b = true then te σ2 H3 fun y H4 => ∃ acc, H4 D = some (.lst acc) ∧ acc.length < sizeLine ∧ Nx (upd H4 D (.lst (acc ++ [y]))) else Nx H3)
theorem tLc_eq {wi : TI} {g : TG} {tt : TT} {te : TE} {vs : List Nat} {σ : St} {H : Hp} {Q : VK} : tLc wi g tt te vs σ H Q = wi σ H fun J H1 => ∀ D, H1 D = none → LcI J g tt te vs σ H1 D Q := rfl
section
variable {K : PySem.W.Frag} {a b : Addr} {xs ys : List V} {g : TG} {tb : TS} {D : Ends} {σ : St} {H : Hp}
theorem loop_range {lo : Int} {n : Nat} (Pv : Nat → St → Hp → Prop) (h0 : Pv 0 σ H) (hs : ∀ i σ H, i < n → Pv i σ H → g (.int (lo + i)) σ H fun σ2 H2 => tb { D with nx := Pv (i + 1), ct := Pv (i + 1), bk := D.nx } σ2 H2) (hd : ∀ σ H, Pv n σ H → D.nx σ H) :
    LoopI (Itr lo n) g tb D σ H := for_it walk_range Pv h0 (fun _ _ _ _ _ => trivial) (fun i x σ H H' hi p y => by obtain ⟨rfl, rfl⟩ := y; exact hs i σ _ hi p) hd
theorem loop_rangeC {lo c : Int} {n : Nat} (Pv : Nat → St → Hp → Prop) (h0 : Pv 0 σ H) (hs : ∀ i σ H, i < n → Pv i σ H → g (.int (lo + (i : Nat) * c)) σ H fun σ2 H2 => tb { D with nx := Pv (i + 1), ct := Pv (i + 1), bk := D.nx } σ2 H2) (hd : ∀ σ H, Pv n σ H → D.nx σ H) :
    LoopI (Itc lo c n) g tb D σ H := for_it walk_rangeC Pv h0 (fun _ _ _ _ _ => trivial) (fun i x σ H H' hi p y => by obtain ⟨rfl, rfl⟩ := y; exact hs i σ _ hi p) hd
theorem loop_list (Pv : Nat → St → Hp → Prop) (h0 : Pv 0 σ H) (hl : ∀ i σ H, Pv i σ H → SqL K H a xs) (hs : ∀ i x σ H, xs[i]? = some x → Pv i σ H → g x σ H fun σ2 H2 => tb { D with nx := Pv (i + 1), ct := Pv (i + 1), bk := D.nx } σ2 H2) (hd : ∀ σ H, Pv xs.length σ H → D.nx σ H) :
    LoopI (Itl K a) g tb D σ H := for_it (walk_list (xs := xs)) Pv h0 (fun i σ H _ p => hl i σ H p) (fun i x σ H H' hi p y => by obtain ⟨rfl, e⟩ := y; exact hs i x σ _ e p) hd
/-- the pair is a new tuple at T -/
theorem loop_enum (Pv : Nat → St → Hp → Prop) (h0 : Pv 0 σ H) (hl : ∀ i σ H, Pv i σ H → SqL K H a xs)
    (hs : ∀ i x σ H T H', xs[i]? = some x → Pv i σ H → H T = none → Ex H H' → H' T = some (.tup [.int (i : Nat), x]) → g (.ref T) σ H' fun σ2 H2 => tb { D with nx := Pv (i + 1), ct := Pv (i + 1), bk := D.nx } σ2 H2) (hd : ∀ σ H, Pv xs.length σ H → D.nx σ H) :
    LoopI (Ite K a) g tb D σ H := for_it (walk_enum (xs := xs)) Pv h0 (fun i σ H _ p => hl i σ H p) (fun i v σ H H' hi p y => by
      obtain ⟨T, x, y, rfl, nT, rfl, e1, e2⟩ := y
      cases e1
      exact hs i y σ H T _ e2 p nT (Ex.new nT) upd_same) hd
theorem loop_zip {n : Nat} (hn : n = min xs.length ys.length) (Pv : Nat → St → Hp → Prop) (h0 : Pv 0 σ H) (hl : ∀ i σ H, Pv i σ H → SqL K H a xs ∧ SqL K H b ys)
    (hs : ∀ i x y σ H T H', xs[i]? = some x → ys[i]? = some y → Pv i σ H → H T = none → Ex H H' → H' T = some (.tup [x, y]) → g (.ref T) σ H' fun σ2 H2 => tb { D with nx := Pv (i + 1), ct := Pv (i + 1), bk := D.nx } σ2 H2) (hd : ∀ σ H, Pv n σ H → D.nx σ H) :
    LoopI (Itz K a b) g tb D σ H := for_it (walk_zip hn) Pv h0 (fun i σ H _ p => hl i σ H p) (fun i v σ H H' hi p y => by
      obtain ⟨T, x, y, rfl, nT, rfl, e1, e2⟩ := y
      exact hs i x y σ H T _ e1 e2 p nT (Ex.new nT) upd_same) hd
/-- a comprehension's turns give what f says of each turn (none: passed over) -/
def gives (f : Nat → Option V) : Nat → List V
  | 0 => []
  | n + 1 => gives f n ++ (f n).toList
theorem gives_len (f : Nat → Option V) : ∀ n, (gives f n).length ≤ n
  | 0 => Nat.le_refl _
  | n + 1 => by
    have h := gives_len f n
    show (gives f n ++ (f n).toList).length ≤ n + 1
    rw [List.length_append]
    cases f n with
    | none => exact Nat.le_succ_of_le h
    | some v => exact Nat.succ_le_succ h
/-- the turn's item is laid; the turn is passed over -/
def Put (H : Hp) (Dl : Addr) (f : Nat → Option V) (i : Nat) (y : V) (H4 : Hp) : Prop := ∃ acc, H4 Dl = some (.lst acc) ∧ acc.length < sizeLine ∧ (Ex H (upd H4 Dl (.lst (acc ++ [y]))) ∧ upd H4 Dl (.lst (acc ++ [y])) Dl = some (.lst (gives f (i + 1))))
def Skip (H : Hp) (Dl : Addr) (f : Nat → Option V) (i : Nat) (H3 : Hp) : Prop := Ex H H3 ∧ H3 Dl = some (.lst (gives f (i + 1)))
theorem put_of {f : Nat → Option V} {i : Nat} {y : V} {H4 : Hp} {Dl : Addr} (hD : H Dl = none) (e : Ex H H4) (h4 : H4 Dl = some (.lst (gives f i))) (hi : i < sizeLine) (ef : f i = some y) : Put H Dl f i y H4 := by
  refine ⟨gives f i, h4, Nat.lt_of_le_of_lt (gives_len f i) hi, Ex.mut e hD, ?_⟩
  show upd H4 Dl _ Dl = some (.lst (gives f i ++ (f i).toList))
  rw [upd_same, ef]
  rfl
theorem skip_of {f : Nat → Option V} {i : Nat} {H3 : Hp} {Dl : Addr} (e : Ex H H3) (h3 : H3 Dl = some (.lst (gives f i))) (ef : f i = none) : Skip H Dl f i H3 := by
  refine ⟨e, ?_⟩
  show H3 Dl = some (.lst (gives f i ++ (f i).toList))
  rw [ef, h3]
  show _ = some (HO.lst (gives f i ++ []))
  rw [List.append_nil]
theorem lc_gives {J : It} {n : Nat} {G : Hp → Prop} {Y : Nat → Hp → V → Hp → Prop} (w : Walk J n G Y) {tt : TT} {te : TE} {vs : List Nat} {Q : VK} {Dl : Addr} (f : Nat → Option V) (hD : H Dl = none) (hG : ∀ H', Ex H H' → G H')
    (hs : ∀ i x H0 H', i < n → Ex H H0 → H0 Dl = some (.lst (gives f i)) → Y i H0 x H' → g x (wipe σ vs) H' fun σ2 H2 => wipe σ2 vs = wipe σ vs ∧ tt σ2 H2 fun b H3 => if b = true then te σ2 H3 fun y H4 => Put H Dl f i y H4 else Skip H Dl f i H3)
    (hd : ∀ H', Ex H H' → H' Dl = some (.lst (gives f n)) → Q (.ref Dl) H') : LcI J g tt te vs σ H Dl Q :=
  lc_it w (fun i H' => Ex H H' ∧ H' Dl = some (.lst (gives f i))) ⟨Ex.new hD, upd_same⟩ (fun i H' _ p => hG H' p.1) (fun i x H0 H' hi p y => hs i x H0 H' hi p.1 p.2 y) (fun H' p => hd H' p.1 p.2)
theorem gives_map (v : Nat → V) : ∀ n, gives (fun i => some (v i)) n = (List.range n).map v
  | 0 => rfl
  | n + 1 => by
    have h := gives_map v n
    show gives _ n ++ [v n] = _
    rw [h, List.range_succ, List.map_append]
    rfl
theorem gives_nil {f : Nat → Option V} : ∀ n, (∀ i, i < n → f i = none) → gives f n = []
  | 0, _ => rfl
  | n + 1, h => by
    show gives f n ++ (f n).toList = []
    rw [gives_nil n fun i hi => h i (by omega), h n (by omega)]
    rfl
end
end L2
namespace L2
open PySem PySem.Spec PyProof.Rows Evl
section
variable {X : Cx}
/-- xs + ys, of any lists (also the script) -/
def rCatS (K : PySem.W.Frag) : R2 := fun x y H Q => ∃ l b xs zs, x = .ref l ∧ y = .ref b ∧ SqL K H l xs ∧ SqL K H b zs ∧ xs.length + zs.length ≤ sizeLine ∧ New H (.lst (xs ++ zs)) fun p H2 => Q (.ref p) H2
theorem op_catS : OpR X (binaryOp .Add) (rCatS X.K) := by
  intro pins s σ H x y v u Q I rx ry h
  obtain ⟨l, b, xs, zs, rfl, rfl, hH, hB, hz, q⟩ := h
  cases rx
  cases ry
  obtain ⟨its, r, ⟨⟨cls, dd, data, sl⟩, n, ho, hc, hdd, hd⟩, _⟩ := I.list hH
  obtain ⟨its2, r2, ⟨⟨cls2, dd2, data2, sl2⟩, n2, ho2, hc2, hdd2, hd2⟩, _⟩ := I.list hB
  have l1 := r.length
  have l2 := r2.length
  simp only at hc hd hc2 hd2
  subst hc hd hc2 hd2
  have e : its.toArray ++ its2.toArray = (its ++ its2).toArray := by simp
  refine concat_meets ⟨_, ho, rfl⟩ ⟨_, ho2, rfl⟩ noFill_list_add seq_list_add PySem.F.slot_list_add PySem.F.entry_list_add (PySem.F.args_list_add_2 _ _) (list_addW l b its.toArray its2.toArray n n2 dd dd2 sl sl2 (by rw [List.size_toArray, List.size_toArray]; omega)) ⟨ho, ho2, ?_⟩
  rw [e]
  exact ⟨.ref _, _, I.lnew (t' := s.toks) (r.append r2) (by rw [List.length_append]; omega), rfl, q _ I.fresh⟩
end
theorem sum_S (f : Nat → Int) : ∀ n, ((List.range n).map f).sum = FW.S f n
  | 0 => rfl
  | n + 1 => by
    have h := sum_S f n
    rw [List.range_succ, List.map_append, List.sum_append, h]
    show FW.S f n + ([f n] : List Int).sum = FW.S f n + f n
    rw [List.sum_cons, List.sum_nil]
    omega
/-- an item of a written list at a drawn place -/
theorem at_mem {xs : List V} {i : Int} (h0 : 0 ≤ i) (h1 : i < (xs.length : Int)) : ∃ v, v ∈ xs ∧ atI xs i = some v := by
  have hj : i.toNat < xs.length := by omega
  exact ⟨xs[i.toNat], List.getElem_mem hj, at_of (j := i.toNat) (by omega) (List.getElem?_eq_getElem hj)⟩
end L2
namespace L2
open PySem PySem.Spec PyProof.Rows Evl
/-! ### lists of ints compared -/
theorem dp_ints {K : PySem.W.Frag} {H : Hp} : ∀ ns : List Int, DpAll K H (ns.map V.int) (ns.map PyData.int)
  | [] => .nil
  | n :: r => .cons (.int n) (dp_ints r)
theorem eqv_ints : ∀ xs ys : List Int, PyData.eqvAll (xs.map PyData.int) (ys.map PyData.int) = decide (xs = ys)
  | [], [] => rfl
  | [], _ :: _ => rfl
  | _ :: _, [] => rfl
  | x :: xs, y :: ys => by
    show (x == y && PyData.eqvAll (xs.map PyData.int) (ys.map PyData.int)) = _
    rw [eqv_ints xs ys]
    by_cases h : x = y
    · subst h
      by_cases h2 : xs = ys
      · subst h2
        simp
      · simp [h2]
    · have e : (x == y) = false := by simpa using h
      rw [e]
      simp [h]
theorem depth_ints : ∀ ns : List Int, PyData.depthAll (ns.map PyData.int) ≤ 1
  | [] => by simp [PyData.depthAll]
  | n :: r => by
    have h := depth_ints r
    simp only [List.map_cons, PyData.depthAll, PyData.depth]
    omega
theorem lay_ints : ∀ ns : List Int, PyData.canLayAll0 (ns.map PyData.int) = true
  | [] => rfl
  | n :: r => by
    have h := lay_ints r
    simp only [List.map_cons, PyData.canLayAll0, PyData.canLay0, h, Bool.and_self]
theorem shaped_ints (ns : List Int) : SeqAt.shaped (.list (ns.map PyData.int)) = true := by
  have h := depth_ints ns
  unfold SeqAt.shaped
  rw [Bool.and_eq_true]
  refine ⟨?_, decide_eq_true ?_⟩
  · simp only [PyData.canLay0]
    exact lay_ints ns
  · simp only [PyData.depth]
    omega
theorem neD_ints {K : PySem.W.Frag} {H : Hp} {a b : Addr} {xs ys : List Int} {Q : VK} (ha : SqL K H a (xs.map V.int)) (hb : SqL K H b (ys.map V.int)) (q : Q (.bl (!decide (xs = ys))) H) : rNeD K (.ref a) (.ref b) H Q := by
  refine ⟨_, _, .lst ha (dp_ints xs), .lst hb (dp_ints ys), shaped_ints xs, shaped_ints ys, ?_⟩
  show Q (.bl (!PyData.eqvAll _ _)) H
  rw [eqv_ints]
  exact q
theorem eqD_ints {K : PySem.W.Frag} {H : Hp} {a b : Addr} {xs ys : List Int} {Q : VK} (ha : SqL K H a (xs.map V.int)) (hb : SqL K H b (ys.map V.int)) (q : Q (.bl (decide (xs = ys))) H) : rEqD K (.ref a) (.ref b) H Q := by
  refine ⟨_, _, .lst ha (dp_ints xs), .lst hb (dp_ints ys), shaped_ints xs, shaped_ints ys, ?_⟩
  show Q (.bl (PyData.eqvAll _ _)) H
  rw [eqv_ints]
  exact q
end L2
namespace L2
open PySem PySem.Spec PyProof.Rows Evl
/-! ### the rules that name the written part, K told -/
section
variable {X : Cx} {K : PySem.W.Frag}
theorem k_isi (hK : X.K = K) : CallR X (.builtin "isinstance") (rIsi K) := hK ▸ call_isi
theorem k_isiT (hK : X.K = K) : CallR X (.builtin "isinstance") (rIsiT K) := hK ▸ call_isiT
theorem k_len (hK : X.K = K) : CallR X (.builtin "len") (fun xs H Q => ∃ p ys, xs = [.ref p] ∧ (SqL K H p ys ∨ SqT K H p ys) ∧ Q (.int ys.length) H) := hK ▸ call_len_seq
theorem k_sum (hK : X.K = K) (hc : X.calm = true) : CallR X (.builtin "sum") (rSum K) := hK ▸ cr_sum hc
theorem k_max (hK : X.K = K) (hc : X.calm = true) : CallR X (.builtin "max") (rMax K) := hK ▸ cr_max hc
theorem k_ixl (hK : X.K = K) : IxR X (rIxL K) := hK ▸ ix_list
theorem k_ixt (hK : X.K = K) : IxR X (rIxT K) := hK ▸ ix_tup
theorem k_catS (hK : X.K = K) : OpR X (binaryOp .Add) (rCatS K) := hK ▸ op_catS
theorem k_eqD (hK : X.K = K) (hu : X.A.units + 64 < cLine) : OpR X (compareOp .Eq) (rEqD K) := hK ▸ op_eqD hu
theorem k_neD (hK : X.K = K) (hu : X.A.units + 64 < cLine) : OpR X (compareOp .NotEq) (rNeD K) := hK ▸ op_neD hu
theorem k_listof (hK : X.K = K) : CallR X (.type "list") (fun xs H Q => ∃ p ys, xs = [.ref p] ∧ (SqL K H p ys ∨ SqT K H p ys) ∧ ∀ l, H l = none → Q (.ref l) (upd H l (.lst ys))) := hK ▸ call_list_of
theorem k_sll (hK : X.K = K) : SlR X (rSlL K) := hK ▸ sl_list
theorem k_pil {tg l : Expr} {tl : TE} (hK : X.K = K) (hl : PE X l tl) : PI X tg l (iList K tl) := hK ▸ pi_list hl
theorem k_pit {tg l : Expr} {tl : TE} (hK : X.K = K) (hl : PE X l tl) : PI X tg l (iTup K tl) := hK ▸ pi_tup hl
theorem k_pgt {es : List Expr} {k : Nat} {t : TGs} {n : Nat} {pos : Pos} (hK : X.K = K) (hc : X.calm = true) (h : PGs X es t) (hn : (assignEach es X.env).length = n := by rfl) (hst : (assignEach es X.env).findIdx? (·.1) = none := by rfl) : PG X (.Tuple es k pos) (gTup K n t) :=
  hK ▸ pg_tup hc h hn hst
end
def rListOf (K : PySem.W.Frag) : List V → Hp → VK → Prop := fun xs H Q => ∃ p ys, xs = [.ref p] ∧ (SqL K H p ys ∨ SqT K H p ys) ∧ New H (.lst ys) fun l H2 => Q (.ref l) H2
theorem k_listof2 {X : Cx} {K : PySem.W.Frag} (hK : X.K = K) : CallR X (.type "list") (rListOf K) := k_listof hK
theorem rSlL_eq {K : PySem.W.Frag} {x : V} {lo hi : Option Int} {H : Hp} {Q : VK} : rSlL K x lo hi H Q = ∃ a xs, x = .ref a ∧ SqL K H a xs ∧ New H (.lst (cutV xs lo hi)) fun p H2 => Q (.ref p) H2 := rfl
end L2
/-! ### an exception that is caught and kept by a name -/
namespace L2
open PySem PySem.Spec PyProof.Rows Evl
/-- a caught exception of the class cls (its own dict d), at a -/
def ExK (cls : Value) (d : Option Addr) (a : Addr) : HO := .ext fun h => ∃ (oe : Obj) (vs : Array Value), h.get? a = some oe ∧ Zc cls d oe ∧ oe.data = .fields vs
theorem exK_ok {P : Program} {w : World} {H : Hp} {h : Heap} {a : Addr} {cls : Value} {d : Option Addr} {oe : Obj} {vs : Array Value} (e : h.get? a = some oe) (z : Zc cls d oe) (q : oe.data = .fields vs) : ObjOk P w H h a (ExK cls d a) :=
  ⟨⟨oe, vs, e, z, q⟩, ⟨oe, e⟩, fun _ _ k1 k2 => by
    obtain ⟨o, v, g, r⟩ := k1
    exact ⟨o, v, k2 o g, r⟩⟩
section
variable {X : Cx} {pins : List (Addr × Obj)} {σ : St} {H : Hp} {s : Shared}
/-- what stands in the heap untracked, and is no older than the def's entry, may be tracked -/
theorem Inv.track {a : Addr} {oe : Obj} {o : HO} {vs : Array Value} (J : Inv X pins σ H s) (ha : s.heap.get? a = some oe) (hd : oe.data = .fields vs) (na : H a = none) (nL : a ≠ X.env.locals) (n0 : X.s_0.heap.get? a = none) (hp : ∀ p ∈ X.pn ++ pins, p.1 ≠ a)
    (ho : ObjOk X.prog X.w (upd H a o) s.heap a o) : Inv X pins σ (upd H a o) s := by
  have old : ∀ b u, H b = some u → b ≠ a := fun b u e => ne_of_none e na
  have ent : ∀ b u, X.s_0.heap.get? b = some u → b ≠ a := fun b u e z => by
    rw [z, n0] at e
    exact nomatch e
  have U := J.base
  constructor
  · exact J.ok
  · exact J.os
  · exact J.bare
  · refine ⟨U.keep, U.slot, ?_, U.there, ?_, ?_, ?_⟩
    · intro b u e n hx
      rw [upd_ne (ent b u e)]
      exact U.free b u e n hx
    · intro b xs e
      have q := U.tups b xs e
      rw [upd_ne (old _ _ q), q]
    · intro b u v e
      have q := U.frzs b u v e
      rw [upd_ne (old _ _ q), q]
    · intro b ps e
      obtain ⟨m, q⟩ := U.tbls b ps e
      exact ⟨m, by rw [upd_ne (old _ _ q), q]⟩
  · exact J.loc
  · exact J.cell
  · rw [upd_ne (Ne.symm nL)]
    exact J.free
  · intro x c e
    have nc : c ≠ a := fun z => by
      obtain ⟨v, oc, q1, q2⟩ := J.cell x c e
      rw [z, ha] at q1
      cases q1
      rw [hd] at q2
      exact nomatch q2
    rw [upd_ne nc]
    exact J.freeC x c e
  · intro p h
    obtain ⟨q1, q2, q3⟩ := J.pin p h
    exact ⟨q1, by rw [upd_ne (hp p h)]; exact q2, q3⟩
  · intro b u e
    by_cases hb : b = a
    · rw [hb, upd_same] at e
      cases e
      rw [hb]
      exact ho
    · rw [upd_ne hb] at e
      exact (J.hok b u e).stay (fun _ _ _ q => q) (fun c q => by rw [upd_ne (old _ _ q)]; exact q) fun c xs q => by rw [upd_ne (old _ _ q)]; exact q
  · exact J.len
/-- the wish of «except c as n: y = n» (n in slot i, y in slot j): behind it y is the exception, tracked -/
def wKeep (K : PySem.W.Frag) (c : Value) (i j : Nat) (D : Ends) : WX := fun cls d σ H =>
  PySem.W.exmOne K cls c = some true ∧ ∀ a, H a = none → D.nx (((σ.set i (some (.ref a))).set j (some (.ref a))).set i none) (upd H a (ExK cls d a))
theorem ps_try_keep {x n y : Str} {c : Value} {i j : Nat} {body : List Stmt} {np p1 p2 p3 pos pos' : Pos} {tb : WX → TS} (hs : X.stack = X.env :: X.outer) (hf : X.env.frame = some X.env.locals) (hex : X.ex = []) (hN : X.N.Nodup) (hi : X.N[i]? = some n) (hj : X.N[j]? = some y)
    (kn : X.env.kindOf n = some .local) (ky : X.env.scope.names.lookup y = some .local) (vn : Vis X.env.scope n) (hc : Names X x c)
    (hb : ∀ (W : WX) (pn : List (Addr × Obj)) (xe : Value → Shared → Prop), Takes (X.tr pn xe) W → PassesOwn (model X.prog X.w) X.A X.env xe → PSs (X.tr pn xe) body (tb W))
    (sw : swapsWith (.Name n p2) (some (.Name y p1)) p3.line X.env = pure false := by rfl) (dn : (n == ("__debug__" : Str)) = false := by decide) (cn : (n == ("__classdict__" : Str)) = false := by decide) :
    PS X (.Try body [.ExceptHandler (some (.Name x np)) (some n) [.Assign [.Name y p1] (.Name n p2) p3] pos'] [] [] pos) (fun D σ H => tb (wKeep X.K c i j D) D σ H) := by
  constructor
  intro pins s σ H D I h
  have ok := I.ok
  have fr : X.A.frames = some (X.env :: X.outer) := ok.frames.trans (congrArg some hs)
  apply wpAny_Try_except
  refine wpAny_mono ((hb (wKeep X.K c i j D) (X.pn ++ pins) (fun e s₁ => wpAny (model X.prog X.w) X.A (noteFrame e X.env) (fun _ s₂ => wpAny (model X.prog X.w) X.A (setFlight e none)
    (fun _ s₃ => wpAny (model X.prog X.w) X.A (handleBy e X.env [.ExceptHandler (some (.Name x np)) (some n) [.Assign [.Name y p1] (.Name n p2) p3] pos']) (SP X pins D) X.xe s₃) X.xe s₂) X.xe s₁) ?hca PassesOwn.looking).run [] s σ H D (I.toTry _) h) (fun f s1 hsp => ?fin) (fun _ _ z => z)
  case hca =>
    rintro u s' ⟨a, B, sI, pq, σ', H', cls, d, rfl, J', nb, up, sky, na, os, ag, match_, then_⟩
    have J : Inv X pins σ' H' sI := J'.ofTry ok
    rw [show (X.tr (X.pn ++ pins) _).stack = X.env :: X.outer from hs] at sky
    refine Sky.land Zc.steady fr hf sky fun h3 fl3 up3 => ?_
    have J3 : Inv X pins σ' H' { s' with heap := h3 } := J.landed nb fl3.1 (up.trans up3) os ag
    obtain ⟨oe3, vs3, he3, hz3, hd3⟩ := fl3.there
    have nfr : a ∉ frs (X.env :: X.outer) := fun hm => by
      obtain ⟨_, o', e', hnf⟩ := fl3.2.2.1.mem hm
      rw [he3] at e'
      cases e'
      exact hnf _ hd3
    have nL : a ≠ X.env.locals := fun z => nfr (List.mem_filterMap.mpr ⟨X.env, List.mem_cons_self, by rw [hf, z]⟩)
    have nF : a ∉ X.fs := fun hm => by
      obtain ⟨e, he, q⟩ := List.mem_filterMap.mp hm
      exact nfr (List.mem_filterMap.mpr ⟨e, List.mem_cons_of_mem _ he, q⟩)
    have nI : sI.heap.get? a = none := by
      cases q : sI.heap.get? a with
      | none => rfl
      | some o => exact nomatch (fl3.2.1.symm.trans (nb a o q (by rw [hs]; exact nfr)))
    have n0 : X.s_0.heap.get? a = none := by
      cases q : X.s_0.heap.get? a with
      | none => rfl
      | some o =>
        obtain ⟨o', q'⟩ := J.base.there a o q (by rw [hex]; exact fun z => nomatch z)
        exact nomatch (nI.symm.trans q')
    have S3 := J3.suite he3 hd3 na nL nF
    refine wpAny_handleBy_cons (codeAny_handlers_test ?_) (fun q => nomatch q)
    have LT : PySem.W.Looks (model X.prog X.w) h3 (typeOf (.ref a)) cls := fun A Q E s k q => wpAny_typeOf_ref (k _ _ he3) (hz3.1.symm ▸ q)
    have LM := PySem.W.exm_one (M := model X.prog X.w) J3.kIn LT match_
    have named : ∀ {Q : Value → Shared → Prop} {E : Value → Shared → Prop}, Q c { s' with heap := h3 } → wpAny (model X.prog X.w) (X.A.mark (some (.ref a))) (eval (.Name x np) X.env) Q E { s' with heap := h3 } := by
      intro Q E q
      rcases hc with ⟨hg, hdbg, hm | ⟨hm, hv, hnn⟩⟩
      · exact ld_glob (X := X.suite a ((a, oe3) :: (X.pn ++ pins))) S3 hg hm q hdbg -- the clause's class
      · exact ld_blt (X := X.suite a ((a, oe3) :: (X.pn ++ pins))) S3 hg hm hv q hnn hdbg -- ..
    refine named (LM.here (codeAny_handlers_suite_as (HandSPX.lands_againZ fl3 fun h4 fl4 up4 => ?_)))
    have J4 : Inv X pins σ' H' { s' with heap := h4 } := J.landed nb fl4.1 ((up.trans up3).trans up4) os ag
    obtain ⟨oe, vs, he, hz, hd⟩ := fl4.there
    have S4 := J4.suite he hd na nL nF
    refine store_ok (X := X.suite a ((a, oe) :: (X.pn ++ pins))) (v := .ref a) S4 hN hi (.inl kn) rfl (fun s5 S5 => ?_) (.inr kn)
    have st : PSs (X.suite a ((a, oe) :: (X.pn ++ pins))) [.Assign [.Name y p1] (.Name n p2) p3] (tAsg (tVar i) (gName j)) := pss_one (ps_set (X := X.suite a ((a, oe) :: (X.pn ++ pins))) hN hj (.inl ky) (pe_var hi vn dn cn) sw (.inr ky))
    have li : i < σ'.length := by
      rw [J.len]
      exact (List.getElem?_eq_some_iff.mp hi).1
    refine wpAny_mono (st.run [] s5 _ H' { nx := fun σ6 H6 => σ6 = (σ'.set i (some (.ref a))).set j (some (.ref a)) ∧ H6 = H', rt := fun _ _ => False, bk := fun _ _ => False, ct := fun _ _ => False } S5 ⟨.ref a, List.getElem?_set_self li, rfl, rfl⟩) (fun f s6 hsp => ?_) (fun _ _ z => z.elim)
    cases f with
    | next =>
      obtain ⟨σ6, H6, S6, rfl, rfl⟩ := hsp
      have S7 : Inv X ((a, oe) :: pins) ((σ'.set i (some (.ref a))).set j (some (.ref a))) H6 s6 :=
        ⟨ok, S6.os, S6.bare, S6.base, S6.loc, S6.cell, S6.free, S6.freeC, fun p hp => S6.pin p (by
          rcases List.mem_append.mp hp with q | q
          · exact List.mem_append_left _ (List.mem_cons_of_mem _ (List.mem_append_left _ q))
          · rcases List.mem_cons.mp q with q | q
            · exact List.mem_append_left _ (List.mem_cons.mpr (.inl q))
            · exact List.mem_append_left _ (List.mem_cons_of_mem _ (List.mem_append_right _ q))), S6.hok, S6.len⟩
      refine gone_ok S7 hN hi kn fun s8 J8 => ?_
      obtain ⟨g1, g2, _⟩ := J8.pin (a, oe) (List.mem_append_right _ List.mem_cons_self)
      have J9 : Inv X pins (((σ'.set i (some (.ref a))).set j (some (.ref a))).set i none) H6 s8 := J8.pins_of fun p hp => J8.pin p (List.mem_append_right _ (List.mem_cons_of_mem _ hp))
      refine ⟨_, _, J9.track g1 hd g2 nL n0 (fun p hp z => ?_) (exK_ok g1 hz hd), then_ a na⟩
      have q := (J.pin p hp).1
      rw [z, nI] at q
      exact nomatch q
    | ret u =>
      obtain ⟨_, _, _, _, _, z⟩ := hsp
      exact z.elim
    | brk =>
      obtain ⟨_, _, _, z⟩ := hsp
      exact z.elim
    | cont =>
      obtain ⟨_, _, _, z⟩ := hsp
      exact z.elim
  case fin =>
    cases f with
    | next =>
      obtain ⟨σ', H', K', q⟩ := hsp
      exact wpAny_execs_nil ⟨σ', H', K'.ofTry ok, q⟩
    | ret u =>
      obtain ⟨v, σ', H', K', r, q⟩ := hsp
      exact ⟨v, σ', H', K'.ofTry ok, r, q⟩
    | brk =>
      obtain ⟨σ', H', K', q⟩ := hsp
      exact ⟨σ', H', K'.ofTry ok, q⟩
    | cont =>
      obtain ⟨σ', H', K', q⟩ := hsp
      exact ⟨σ', H', K'.ofTry ok, q⟩
end
/-! ### isinstance of it -/
inductive TyY (K : PySem.W.Frag) (H : Hp) : V → Value → Prop where
  | base {x : V} {t : Value} (h : TyX K H x t) : TyY K H x t
  | exc {a D : Addr} (e : H a = some (ExK (.ref D) none a)) (C : ExcC K D) : TyY K H (.ref a) (.ref D)
section
variable {X : Cx} {pins : List (Addr × Obj)} {σ : St} {H : Hp} {s : Shared}
theorem kit_y {x : V} {u t : Value} (I : Inv X pins σ H s) (rx : RelV x u) (ty : TyY X.K H x t) : ∃ P : Heap → Prop, PySem.W.KitX X.K u t P ∧ P s.heap ∧ u ≠ .builtin "__main__.__loader__#opaque" := by
  cases ty with
  | base h => exact kit_of I rx h
  | @exc a D e C =>
    cases (show u = Value.ref a from rx)
    obtain ⟨⟨oe, vs, ho, hz, hd⟩, _⟩ := (show ObjOk X.prog X.w H s.heap a (ExK (.ref D) none a) from I.hok a _ e)
    obtain ⟨oc, od, oda, osl⟩ := oe
    obtain ⟨z1, z2⟩ := hz
    dsimp only at z1 z2 hd
    subst z1 z2 hd
    exact ⟨_, PySem.W.handS_kitx_exc C.hg C.hk C.hs C.hd C.ha C.hn C.ht C.hm, ⟨ho, rfl, rfl, trivial⟩, fun z => nomatch z⟩
def rIsY (K : PySem.W.Frag) : List V → Hp → VK → Prop := fun xs H Q => ∃ (x c : V) (t u : Value) (b : Bool), xs = [x, c] ∧ ClsV c u ∧ TyY K H x t ∧ PySem.W.kitOne K t u = some b ∧ Q (.bl b) H
def rIsYT (K : PySem.W.Frag) : List V → Hp → VK → Prop := fun xs H Q => ∃ (x : V) (tp : Addr) (cs : List V) (t : Value) (us : List Value) (b : Bool), xs = [x, .ref tp] ∧ H tp = some (.tup cs) ∧ Paired ClsV cs us ∧ TyY K H x t ∧ PySem.W.kitAny K t us = some b ∧ Q (.bl b) H
theorem k_isY {K : PySem.W.Frag} (hK : X.K = K) : CallR X (.builtin "isinstance") (rIsY K) := by
  subst hK
  intro pins s σ H xs us Q I r h
  obtain ⟨x, c, t, u, b, rfl, k, ty, e, q⟩ := h
  obtain ⟨u1, u2, rfl, r1, r2⟩ := vals2 r
  cases k.eq r2
  obtain ⟨P, Z, p, hx⟩ := kit_y I r1 ty
  exact PySem.W.kia_one Z I.kIn p e hx fun tk => ⟨.bl b, H, I.tok tk, rfl, q⟩
theorem k_isYT {K : PySem.W.Frag} (hK : X.K = K) : CallR X (.builtin "isinstance") (rIsYT K) := by
  subst hK
  intro pins s σ H xs us Q I r h
  obtain ⟨x, tp, cs, t, ws, b, rfl, hT, k, ty, e, q⟩ := h
  obtain ⟨u1, u2, rfl, r1, r2⟩ := vals2 r
  cases (show u2 = Value.ref tp from r2)
  obtain ⟨P, Z, p, hx⟩ := kit_y I r1 ty
  obtain ⟨_, its, rv, ⟨oc, od, dt, sl⟩, h1, h2, n, h3⟩ := (show ObjOk X.prog X.w H s.heap tp (.tup cs) from I.hok tp _ hT)
  cases ClsV.all k rv
  dsimp only at h2 h3
  subst h2 h3
  exact PySem.W.kia_tup Z I.kIn p h1 e hx fun tk => ⟨.bl b, H, I.tok tk, rfl, q⟩
end
theorem isy {K : PySem.W.Frag} {H : Hp} {x : V} {t : Value} {n : String} {b : Bool} {Q : VK} (ht : TyY K H x t) (hk : PySem.W.kitOne K t (.type n) = some b) (q : Q (.bl b) H) : rIsY K [x, .ty n] H Q := ⟨x, .ty n, t, .type n, b, rfl, .ty n, ht, hk, q⟩
theorem isyC {K : PySem.W.Frag} {H : Hp} {x : V} {t : Value} {C : Addr} {b : Bool} {Q : VK} (ht : TyY K H x t) (hk : PySem.W.kitOne K t (.ref C) = some b) (q : Q (.bl b) H) : rIsY K [x, .ref C] H Q := ⟨x, .ref C, t, .ref C, b, rfl, .own C, ht, hk, q⟩
end L2
namespace L2
open PySem PySem.Spec PyProof.Rows Evl
/-! ### own exceptions: facts of a class, raise, calls that may raise -/
/-- the class at C, called x, over the class at S, without a method of its own -/
structure Ex1 (K : PySem.W.Frag) (mg : Str → Option Value) (C S : Addr) (x : Str) : Prop where
  g : mg x = some (.ref C)
  xin : PySem.W.excIn K C [.type "ValueError", .type "Exception", .type "BaseException", .type "object"] "ValueError.__new__" = true
  kp : PySem.W.keepIn K (.ref C) = true
  sb : PySem.W.subIn K (.ref C) (.type "BaseException") = some true
  ty : PySem.W.typeIn K (.ref C) = some (.type "type")
  ec : ExcC K C
  em : PySem.W.exmOne K (.ref C) (.ref S) = some true
section
variable {X : Cx} {k : Nat} {ps : List Str} {sp : Sp} {x : Str} {p pos pos2 : Pos} {e : Expr} {es : List Expr} {t : TA} {E : XK} {W : WX} {C S : Addr} {te : TE}
theorem pe_fnX (F : Fn X.prog X.w X.K X.mg X.base x ps (L2.CX X.prog X.w) k sp) (hr : Room k X.A) (hx : Passes (L2.CX X.prog X.w) X E) (ha : PA X (e :: es) t) (hg : Gl X x := by rfl) (hdb : (x == ("__debug__" : Str)) = false := by decide)
    (he : starEach (e :: es) X.env = (false, eval e X.env) :: starEach es X.env := by rfl) (hpl : (backTo pos (starEach es X.env)).any (·.1) = false := by rfl) :
    PE X (.Call (.Name x p) (e :: es) [] pos) (tCall sp [] E t) := by
  obtain ⟨f, fd, h1, h2, h3, h4⟩ := F
  exact pe_call h1 hr hg h2 h3 h4 .nil hx ha hdb he hpl
theorem pe_fnS (F : Fn X.prog X.w X.K X.mg X.base x ps (L2.CX X.prog X.w) k sp) (hr : Room k X.A) (tk : Takes X W) (ha : PA X (e :: es) t) (hg : Gl X x := by rfl) (hdb : (x == ("__debug__" : Str)) = false := by decide)
    (he : starEach (e :: es) X.env = (false, eval e X.env) :: starEach es X.env := by rfl) (hpl : (backTo pos (starEach es X.env)).any (·.1) = false := by rfl) :
    PE X (.Call (.Name x p) (e :: es) [] pos) (tCallS sp (WE W) t) := by
  obtain ⟨f, fd, h1, h2, h3, h4⟩ := F
  exact pe_callS h1 hr hg h2 h3 h4 (fun σ => passAt tk σ) ha hdb he hpl
/-- raise C(e) -/
def tRaise1 (C : Addr) (W : WX) (te : TE) : TS := fun _ σ H => te σ H fun _ H1 => W (.ref C) none σ H1
theorem ps_raise1 (hc : X.calm = true) (T : Ex1 X.K X.mg C S x) (tk : Takes X W) (he : PE X e te) (hg : Gl X x := by rfl) (hs : starEach [e] X.env = (false, eval e X.env) :: starEach [] X.env := by rfl) (hdb : (x == ("__debug__" : Str)) = false := by decide) :
    PS X (.Raise (some (.Call (.Name x p) [e] [] pos)) none pos2) (tRaise1 C W te) := ps_raise hc tk (SkE.pmk_own1 PySem.F.excBase_ValueError T.xin T.g T.kp (raises_own T.sb T.ty) hg he hs hdb)
end
def NewD (H : Hp) (o : Addr → HO) (R : Addr → Hp → Prop) : Prop := ∀ p, H p = none → R p (upd H p (o p))
theorem newD_of {H : Hp} {o : Addr → HO} {R : Addr → Hp → Prop} (h : ∀ p H', H p = none → Ex H H' → H' p = some (o p) → R p H') : NewD H o R := fun p np => h p _ np (Ex.new np) upd_same
theorem wKeep_eq {K : PySem.W.Frag} {c : Value} {i j : Nat} {D : Ends} {cls : Value} {d : Option Addr} {σ : St} {H : Hp} :
    wKeep K c i j D cls d σ H = (PySem.W.exmOne K cls c = some true ∧ NewD H (ExK cls d) fun a H1 => D.nx (((σ.set i (some (.ref a))).set j (some (.ref a))).set i none) H1) := rfl
theorem str_len (a b : Str) : (a ++ b).length = a.length + b.length := PySem.Str.length_append a b
theorem int_len {i : Int} (h : i.natAbs < 2 ^ 1000) : i.natAbs.log2 < 1920 ∧ (Str.ofString (toString i)).length ≤ 2000 := by
  have hl : i.natAbs.log2 < 1000 := by
    by_cases z : i.natAbs = 0
    · rw [z]
      decide
    · exact (Nat.log2_lt z).mpr h
  refine ⟨by omega, ?_⟩
  have q := int_text_length_le (a := i) (k := 1000) (by decide) hl
  rw [PySem.ofString_length]
  omega
end L2
namespace L2
open PySem PySem.Spec PyProof.Rows Evl
theorem isy_ty {K : PySem.W.Frag} {H : Hp} {x : V} {s n : String} {b : Bool} {Q : VK} (ht : TyX K H x (.type s)) (hk : kitB s n = some b) (q : Q (.bl b) H) : rIsY K [x, .ty n] H Q := isy (.base ht) (kit_ty hk) q
theorem isy_int {K : PySem.W.Frag} {H : Hp} {i : Int} {n : String} {b : Bool} {Q : VK} (hk : kitB "int" n = some b) (q : Q (.bl b) H) : rIsY K [.int i, .ty n] H Q := isy_ty (.base (.int i)) hk q
theorem str_empty : Str.empty.length = 0 := rfl
theorem rNe_str {a b : Str} {H : Hp} {Q : VK} : rNe (.str a) (.str b) H Q = Q (.bl (!decide (a = b))) H := by
  have e : decide (V.str a = V.str b) = decide (a = b) := by simp
  refine propext ⟨fun h => ?_, fun q => ⟨rfl, ?_⟩⟩
  · have h2 := h.2
    rw [e] at h2
    exact h2
  · rw [e]
    exact q
theorem rEq_str {a b : Str} {H : Hp} {Q : VK} : rEq (.str a) (.str b) H Q = Q (.bl (decide (a = b))) H := by
  have e : decide (V.str a = V.str b) = decide (a = b) := by simp
  refine propext ⟨fun h => ?_, fun q => ⟨rfl, ?_⟩⟩
  · have h2 := h.2
    rw [e] at h2
    exact h2
  · rw [e]
    exact q
theorem rEq_bl {a b : Bool} {H : Hp} {Q : VK} : rEq (.bl a) (.bl b) H Q = Q (.bl (decide (a = b))) H := by
  have e : decide (V.bl a = V.bl b) = decide (a = b) := by simp
  refine propext ⟨fun h => ?_, fun q => ⟨rfl, ?_⟩⟩
  · have h2 := h.2
    rw [e] at h2
    exact h2
  · rw [e]
    exact q
end L2
namespace L2
open PySem PySem.Spec PyProof.Rows Evl
def tDictN : TE := fun _ H Q => New H (.dK []) fun p H2 => Q (.ref p) H2
theorem pe_dnewN {X : Cx} {pos : Pos} : PE X (.Dict [] [] pos) tDictN := pe_dnewK
theorem tyx_mono {K : PySem.W.Frag} {H H' : Hp} {x : V} {t : Value} (e : Ex H H') (h : TyX K H x t) : TyX K H' x t := by
  cases h with
  | base h =>
    cases h with
    | non => exact .base .non
    | bl b => exact .base (.bl b)
    | int i => exact .base (.int i)
    | str z => exact .base (.str z)
    | flt z => exact .base (.flt z)
    | lst q => exact .base (.lst (e _ _ q))
    | frz q => exact .base (.frz (e _ _ q))
    | tup q => exact .base (.tup (e _ _ q))
    | dK q => exact .base (.dK (e _ _ q))
    | dT q => exact .base (.dT (e _ _ q))
    | ins q c1 c2 c3 c4 c5 => exact .base (.ins (e _ _ q) c1 c2 c3 c4 c5)
  | byt b => exact .byt b
  | set q => exact .set (e _ _ q)
  | kList q c => exact .kList q c
  | kTuple q c => exact .kTuple q c
  | kDict q c => exact .kDict q c
  | fTuple q => exact .fTuple (e _ _ q)
  | fDict q => exact .fDict (e _ _ q)
end L2
namespace L2
open PySem PySem.Spec PyProof.Rows Evl
/-- one statement at a time -/
theorem cut_eq {t u : TS} {D : Ends} {σ : St} {H : Hp} (h : ∀ N, u D = N → t { D with nx := N } σ H) : tSeq t u D σ H := h _ rfl
theorem asg_eq {te : TE} {g : TG} {D : Ends} {σ : St} {H : Hp} (h : ∀ N : VK, (fun x H1 => g x σ H1 D.nx) = N → te σ H N) : tAsg te g D σ H := h _ rfl
theorem ret_eq {te : TE} {D : Ends} {σ : St} {H : Hp} (h : ∀ N : VK, D.rt = N → te σ H N) : tRet te D σ H := h _ rfl
end L2
namespace L2
open PySem PySem.Spec PyProof.Rows Evl
section
variable {K : PySem.W.Frag} {t : Value} {C : Addr} {b : Bool}
theorem kitCls_own (h1 : PySem.W.isClsIn K C = true) (h2 : PySem.W.typeIn K (.ref C) = some (.type "type")) (h3 : PySem.W.subIn K t (.ref C) = some b) : PySem.W.kitCls K t (.ref C) = some b := by
  have e : ((PySem.W.clsIn K C).isSome && PySem.W.typeIn K (.ref C) == some (.type "type")) = true := by
    have h1' : (PySem.W.clsIn K C).isSome = true := h1
    rw [h1', h2]
    rfl
  show (if _ then _ else _) = _
  rw [if_pos e]
  exact h3
theorem kitOne_own (self : PySem.W.subIn K t t = some true) (h1 : PySem.W.isClsIn K C = true) (h2 : PySem.W.typeIn K (.ref C) = some (.type "type")) (h3 : PySem.W.subIn K t (.ref C) = some b) : PySem.W.kitOne K t (.ref C) = some b := by
  unfold PySem.W.kitOne
  by_cases h : (t == Value.ref C) = true
  · have e : t = .ref C := beq_iff_eq.mp h
    rw [if_pos h]
    rw [← e, self] at h3
    exact h3
  · rw [if_neg h]
    exact kitCls_own h1 h2 h3
theorem kitOne_ty {n : String} {D : Addr} (hm : PySem.W.kitMeta n = true) (h3 : PySem.W.subIn K (.ref D) (.type n) = some b) : PySem.W.kitOne K (.ref D) (.type n) = some b := by
  unfold PySem.W.kitOne
  rw [if_neg (by intro q; exact nomatch (beq_iff_eq.mp q))]
  show (if _ then _ else _) = _
  rw [if_pos hm]
  exact h3
theorem exm_own (h0 : PySem.W.subIn K (.ref C) (.type "BaseException") = some true) (h1 : PySem.W.isClsIn K C = true) (h2 : PySem.W.typeIn K (.ref C) = some (.type "type")) (h3 : PySem.W.subIn K t (.ref C) = some b) : PySem.W.exmOne K t (.ref C) = some b := by
  unfold PySem.W.exmOne
  rw [h0, if_pos (by rfl)]
  exact kitCls_own h1 h2 h3
theorem kitAny_no {cs : List Value} (h : ∀ c ∈ cs, PySem.W.kitOne K t c = some false) : PySem.W.kitAny K t cs = some false := by
  induction cs with
  | nil => rfl
  | cons c r ih => exact kitAny_cons (h c List.mem_cons_self) (fun _ => ih fun d hd => h d (List.mem_cons_of_mem _ hd)) (fun z => nomatch z)
end
end L2
namespace FW
open PySem PySem.Spec PyProof.Rows L2
def topS (i : Nat) : Stmt := PySem.Challenge.pw_flywright_k03_moves_refused.main.body.getD i (.Pass ⟨0, 0, 0, 0⟩)
abbrev s_is_whole : Stmt := topS 18
theorem sc_is_whole : FnScope ["thing", "least", "most"] ["thing", "least", "most"] (defScope s_is_whole) := ⟨rfl, rfl, rfl, by decide +kernel, rfl, by decide +kernel, by decide +kernel⟩
abbrev s_need_whole : Stmt := topS 19
theorem sc_need_whole : FnScope ["thing", "least", "most", "what"] ["thing", "least", "most", "what"] (defScope s_need_whole) := ⟨rfl, rfl, rfl, by decide +kernel, rfl, by decide +kernel, by decide +kernel⟩
abbrev s_need_drive : Stmt := topS 20
theorem sc_need_drive : FnScope ["pace", "gain"] ["pace", "gain"] (defScope s_need_drive) := ⟨rfl, rfl, rfl, by decide +kernel, rfl, by decide +kernel, by decide +kernel⟩
abbrev s_steps_of : Stmt := topS 21
theorem sc_steps_of : FnScope ["distance", "pace", "gain", "many", "steps", "step", "left", "behind"] ["distance", "pace", "gain"] (defScope s_steps_of) := ⟨rfl, rfl, rfl, by decide +kernel, rfl, by decide +kernel, by decide +kernel⟩
abbrev s_added_reach : Stmt := topS 22
theorem sc_added_reach : FnScope ["many", "pace", "gain"] ["many", "pace", "gain"] (defScope s_added_reach) := ⟨rfl, rfl, rfl, by decide +kernel, rfl, by decide +kernel, by decide +kernel⟩
abbrev s_fewest_steps : Stmt := topS 23
theorem sc_fewest_steps : FnScope ["distance", "pace", "gain", "reached", "many"] ["distance", "pace", "gain"] (defScope s_fewest_steps) := ⟨rfl, rfl, rfl, by decide +kernel, rfl, by decide +kernel, by decide +kernel⟩
abbrev s_greatest_step : Stmt := topS 24
theorem sc_greatest_step : FnScope ["ahead", "behind", "left", "pace", "gain", "fallen"] ["ahead", "behind", "left", "pace", "gain"] (defScope s_greatest_step) := ⟨rfl, rfl, rfl, by decide +kernel, rfl, by decide +kernel, by decide +kernel⟩
abbrev s__law_wide : Stmt := topS 26
theorem sc__law_wide : FnScope ["_law_cell", "_law_k"] ["_law_cell", "_law_k"] (defScope s__law_wide) := ⟨rfl, rfl, rfl, by decide +kernel, rfl, by decide +kernel, by decide +kernel⟩
abbrev s__law_rate : Stmt := topS 27
theorem sc__law_rate : FnScope ["_law_number", "_law_most"] ["_law_number"] (defScope s__law_rate) := ⟨rfl, rfl, rfl, by decide +kernel, rfl, by decide +kernel, by decide +kernel⟩
abbrev s__law_reach : Stmt := topS 28
theorem sc__law_reach : FnScope ["_law_many", "_law_pace", "_law_gain", "_law_k"] ["_law_many", "_law_pace", "_law_gain"] (defScope s__law_reach) := ⟨rfl, rfl, rfl, by decide +kernel, rfl, by decide +kernel, by decide +kernel⟩
abbrev s__law_said : Stmt := topS 29
theorem sc__law_said : FnScope ["_law_distance", "_law_pace", "_law_gain", "_law_caught", "_law_found", "e", "_law_others", "_law_told"] ["_law_distance", "_law_pace", "_law_gain"] (defScope s__law_said) := ⟨rfl, rfl, rfl, by decide +kernel, rfl, by decide +kernel, by decide +kernel⟩
abbrev s__law_odd : Stmt := topS 30
theorem sc__law_odd : FnScope ["_law_number", "_law_most", "_law_far", "_law_some"] ["_law_number", "_law_most"] (defScope s__law_odd) := ⟨rfl, rfl, rfl, by decide +kernel, rfl, by decide +kernel, by decide +kernel⟩
abbrev s__law_right : Stmt := topS 31
theorem sc__law_right : FnScope ["_law_number", "_law_more", "_law_pace", "_law_gain", "_law_far", "_law_beyond", "_law_odd_here", "_law_none", "_law_some", "_law_row"] ["_law_number", "_law_more"] (defScope s__law_right) := ⟨rfl, rfl, rfl, by decide +kernel, rfl, by decide +kernel, by decide +kernel⟩
abbrev s_law : Stmt := topS 32
theorem sc_law : FnScope ["_law_script", "_law_k", "_law_cell"] ["_law_script"] (defScope s_law) := ⟨rfl, rfl, rfl, by decide +kernel, rfl, by decide +kernel, by decide +kernel⟩
structure Bt (mg : Str → Option Value) (cl : Nat → Addr) : Prop where
  c_StageError : mg "StageError" = some (.ref (cl 0))
  c_BadNumber : mg "BadNumber" = some (.ref (cl 1))
  c_BadName : mg "BadName" = some (.ref (cl 2))
  c_BadStage : mg "BadStage" = some (.ref (cl 3))
  c_BadSheet : mg "BadSheet" = some (.ref (cl 4))
  c_TooLong : mg "TooLong" = some (.ref (cl 5))
  c_Busy : mg "Busy" = some (.ref (cl 6))
  c_TooNear : mg "TooNear" = some (.ref (cl 7))
  c_Stopped : mg "Stopped" = some (.ref (cl 8))
  c_NotStopped : mg "NotStopped" = some (.ref (cl 9))
  c_Moving : mg "Moving" = some (.ref (cl 10))
  c_NoCue : mg "NoCue" = some (.ref (cl 11))
  c_BadRow : mg "BadRow" = some (.ref (cl 12))
  b_isinstance : mg "isinstance" = none
  b_int : mg "int" = none
  b_bool : mg "bool" = none
  b_range : mg "range" = none
  b_min : mg "min" = none
  b_max : mg "max" = none
  b_sum : mg "sum" = none
  b_len : mg "len" = none
  b_list : mg "list" = none
  b_enumerate : mg "enumerate" = none
  b_ValueError : mg "ValueError" = none
  g_MOST_STEPS : ∃ t, mg "MOST_STEPS" = some (.int 200 t)
  g_MOST_PACE : ∃ t, mg "MOST_PACE" = some (.int 1000000000 t)
  g_MOST_DISTANCE : ∃ t, mg "MOST_DISTANCE" = some (.int 1000000000000 t)
/-- what the written part says of the exceptions that are raised -/
structure Exs (K : PySem.W.Frag) (mg : Str → Option Value) (cl : Nat → Addr) : Prop where
  BadNumber : Ex1 K mg (cl 1) (cl 0) "BadNumber"
  v_BadNumber : PySem.W.kitOne K (.ref (cl 1)) (.type "ValueError") = some true
  o0_BadNumber : PySem.W.kitAny K (.ref (cl 1)) [.ref (cl 2), .ref (cl 12), .ref (cl 4), .ref (cl 3), .ref (cl 6), .ref (cl 10)] = some false
  o1_BadNumber : PySem.W.kitAny K (.ref (cl 1)) [.ref (cl 11), .ref (cl 9), .ref (cl 8), .ref (cl 7)] = some false
  k_BadNumber_BadNumber : PySem.W.kitOne K (.ref (cl 1)) (.ref (cl 1)) = some true
  k_BadNumber_TooLong : PySem.W.kitOne K (.ref (cl 1)) (.ref (cl 5)) = some false
  TooLong : Ex1 K mg (cl 5) (cl 0) "TooLong"
  v_TooLong : PySem.W.kitOne K (.ref (cl 5)) (.type "ValueError") = some true
  o0_TooLong : PySem.W.kitAny K (.ref (cl 5)) [.ref (cl 2), .ref (cl 12), .ref (cl 4), .ref (cl 3), .ref (cl 6), .ref (cl 10)] = some false
  o1_TooLong : PySem.W.kitAny K (.ref (cl 5)) [.ref (cl 11), .ref (cl 9), .ref (cl 8), .ref (cl 7)] = some false
  k_TooLong_BadNumber : PySem.W.kitOne K (.ref (cl 5)) (.ref (cl 1)) = some false
  k_TooLong_TooLong : PySem.W.kitOne K (.ref (cl 5)) (.ref (cl 5)) = some true
end FW

set_option Elab.async false
set_option linter.all false
set_option maxRecDepth 100000
set_option maxHeartbeats 4000000
namespace FW
open PySem PySem.Spec PyProof.Rows L2 Evl
section
variable {P : Program} {w : World} {K : PySem.W.Frag} {mg : Str → Option Value} {base : Heap} {cl : Nat → Addr}
/-- a thing of which it is told whether it is an int -/
def Known (K : PySem.W.Frag) (H : Hp) (x : V) : Prop := (∃ a, x = .int a) ∨ (∃ b, x = .bl b) ∨ ∃ s, TyX K H x (.type s) ∧ kitB s "int" = some false
def wholeV (x : V) (l m : Int) : Bool := match x with
  | .int a => decide (l ≤ a) && decide (a ≤ m)
  | _ => false
theorem whole_no {K : PySem.W.Frag} {H : Hp} {x : V} {s : String} {l m : Int} (ht : TyX K H x (.type s)) (hk : kitB s "int" = some false) : wholeV x l m = false := by
  cases x with
  | int a =>
    cases ht with
    | base h =>
      cases h
      exact absurd hk (by decide +kernel)
  | _ => rfl
def sp_is_whole (K : PySem.W.Frag) : Sp := fun vs H Q _ => ∃ (x : V) (l m : Int), vs = [x, .int l, .int m] ∧ Known K H x ∧ Q (.bl (wholeV x l m)) H
theorem ok_is_whole (B : Bt mg cl) {f : Addr} {fd : FuncData} (F : Fun K "is_whole" "is_whole" s_is_whole f fd) : FnOk P w K mg base CX0 1 f fd ["thing", "least", "most"] (sp_is_whole K) := by
  refine F.ok sc_is_whole (fun vs H Q E h => ?_) (fun cdv A outer s H vs Q E hr h => ?_)
  · obtain ⟨x, l, m, rfl, _⟩ := h
    rfl
  · obtain ⟨x, l, m, rfl, kn, q⟩ := h
    refine ⟨_, (pss_cons (ps_if (PW.pt (pw_or (pt_not (pt_val (pe_callB (k_isY (K := K) rfl) (by rfl) B.b_isinstance (by decide +kernel) (pa_cons (pv 0) (pa_cons (pe_bltn (v := .ty "int") (by rfl) B.b_int (by decide +kernel) rfl) pa_nil))))) (pw_or1 (pt_val (pe_callB (k_isY (K := K) rfl) (by rfl) B.b_isinstance (by decide +kernel) (pa_cons (pv 0) (pa_cons (pe_bltn (v := .ty "bool") (by rfl) B.b_bool (by decide +kernel) rfl) pa_nil)))))))
        (pss_one (ps_ret pe_bl))
        pss_nil)
      (pss_one (ps_ret (pe_chain op_le op_le (pv 1) (pv 0) (pv 2))))), ?_⟩
    simp only [tSeq, tIfS, tOr, tAnd, tNot, tB, tTest, tCB, tCall, tCons, tVar, tNil, tC, tRet, tRetN, tNext, tAsg, gName, tDrop, tOp, tUn, tAug, ipI, tPar, tIf, tAndV, tOrV, tNotV, tChain, tNever, rI0, rI, rU, L2.start, cxK, List.map_cons, List.map_nil, List.length_cons, List.length_nil, Nat.reduceAdd, Nat.reduceSub, List.replicate, List.cons_append, List.nil_append, List.append_nil, List.set_cons_zero, List.set_cons_succ, List.getElem?_cons_zero, List.getElem?_cons_succ, Option.some.injEq, V.int.injEq, V.bl.injEq, exists_eq_left', exists_eq_left, exists_and_left, tFor_eq, iRng1, iRng2, iRng3, iList, iEnum, iZip, iTup, tLst_eq, tTup_eq, rCat_eq, rCatS, rSum, rAppend_eq, rListOf, rSlL_eq, tSl, tNoPart, tPart, tLc_eq, tBM, rIxL, rIxT, min3_eq, rEq_int, rNe_int, min_if, max_if, and_assoc, V.ref.injEq, V.str.injEq, List.cons.injEq, and_true, true_and, ↓reduceIte, Bool.false_eq_true, Bool.not_true, Bool.not_false, Int.reduceToNat, Int.reducePow, Int.reduceAdd, Int.reduceSub, Int.reduceNeg, rNe_str, rEq_str, rEq_bl, tRaise1, tFmt, tJs, tCallS, WE, wKeep_eq, reduceCtorEq, false_and, and_false, exists_false, or_false, false_or, tIsN, tNotN, decide_true, decide_false, tDictN]
    rcases kn with ⟨a, rfl⟩ | ⟨b, rfl⟩ | ⟨s, ht, hk⟩
    · refine isy_int (b := true) (by decide +kernel) ⟨_, rfl, ?_⟩
      refine ifF rfl (isy_int (b := false) (by decide +kernel) ⟨_, rfl, ?_⟩)
      refine ifF rfl ?_
      have e : wholeV (.int a) l m = (decide (l ≤ a) && decide (a ≤ m)) := rfl
      rw [e] at q
      by_cases h1 : l ≤ a
      · rw [decide_eq_true h1, Bool.true_and] at q
        exact ⟨_, rfl, ifT (decide_eq_true h1) ⟨_, rfl, q⟩⟩
      · rw [decide_eq_false h1, Bool.false_and] at q
        exact ⟨_, rfl, ifF (decide_eq_false h1) q⟩
    · refine isy_ty (.base (.bl b)) (b := true) (by decide +kernel) ⟨_, rfl, ?_⟩
      refine ifF rfl (isy_ty (.base (.bl b)) (b := true) (by decide +kernel) ⟨_, rfl, ?_⟩)
      exact ifT rfl q
    · rw [whole_no ht hk] at q
      refine isy_ty ht hk ⟨_, rfl, ?_⟩
      exact ifT rfl q
/-- BadNumber of what isn't within -/
def sp_need_whole (K : PySem.W.Frag) (C : Addr) : Sp := fun vs H Q E => ∃ (x : V) (l m : Int) (t : Str), vs = [x, .int l, .int m, .str t] ∧ Known K H x ∧ l.natAbs < 2 ^ 1000 ∧ m.natAbs < 2 ^ 1000 ∧ t.length ≤ 1000 ∧ (wholeV x l m = true → Q .non H) ∧ (wholeV x l m = false → E (.ref C) none H)
theorem ok_need_whole (B : Bt mg cl) (EE : Exs K mg cl) (F_is_whole : Fn P w K mg base "is_whole" ["thing", "least", "most"] CX0 1 (sp_is_whole K)) {f : Addr} {fd : FuncData} (F : Fun K "need_whole" "need_whole" s_need_whole f fd) : FnOk P w K mg base (L2.CX P w) 2 f fd ["thing", "least", "most", "what"] (sp_need_whole K (cl 1)) := by
  refine F.okX sc_need_whole (fun vs H Q E h => ?_) (fun cdv A outer s H vs Q E hr h => ?_)
  · obtain ⟨x, l, m, t, rfl, _⟩ := h
    rfl
  · obtain ⟨x, l, m, t, rfl, kn, hl, hm, ht, q, q2⟩ := h
    refine ⟨_, (pss_one (ps_if (pt_not (pt_val (pe_fn F_is_whole (hr.mono (by decide)) (pa_cons (pv 0) (pa_cons (pv 1) (pa_cons (pv 2) pa_nil))))))
        (pss_one (ps_raise1 rfl EE.BadNumber (takes_of rfl rfl rfl rfl) (pe_joined (.cons pe_str (.cons (pe_fmt (pv 3)) (.cons pe_str (.cons (pe_fmt (pv 1)) (.cons pe_str (.cons (pe_fmt (pv 2)) .nil)))))))))
        pss_nil)), ?_⟩
    simp only [tSeq, tIfS, tOr, tAnd, tNot, tB, tTest, tCB, tCall, tCons, tVar, tNil, tC, tRet, tRetN, tNext, tAsg, gName, tDrop, tOp, tUn, tAug, ipI, tPar, tIf, tAndV, tOrV, tNotV, tChain, tNever, rI0, rI, rU, L2.start, cxK, List.map_cons, List.map_nil, List.length_cons, List.length_nil, Nat.reduceAdd, Nat.reduceSub, List.replicate, List.cons_append, List.nil_append, List.append_nil, List.set_cons_zero, List.set_cons_succ, List.getElem?_cons_zero, List.getElem?_cons_succ, Option.some.injEq, V.int.injEq, V.bl.injEq, exists_eq_left', exists_eq_left, exists_and_left, tFor_eq, iRng1, iRng2, iRng3, iList, iEnum, iZip, iTup, tLst_eq, tTup_eq, rCat_eq, rCatS, rSum, rAppend_eq, rListOf, rSlL_eq, tSl, tNoPart, tPart, tLc_eq, tBM, rIxL, rIxT, min3_eq, rEq_int, rNe_int, min_if, max_if, and_assoc, V.ref.injEq, V.str.injEq, List.cons.injEq, and_true, true_and, ↓reduceIte, Bool.false_eq_true, Bool.not_true, Bool.not_false, Int.reduceToNat, Int.reducePow, Int.reduceAdd, Int.reduceSub, Int.reduceNeg, rNe_str, rEq_str, rEq_bl, tRaise1, tFmt, tJs, tCallS, WE, wKeep_eq, reduceCtorEq, false_and, and_false, exists_false, or_false, false_or, tIsN, tNotN, decide_true, decide_false, tDictN]
    refine ⟨_, _, _, rfl, kn, _, rfl, ?_⟩
    cases e : wholeV x l m with
    | true => exact ifF rfl (q e)
    | false =>
      obtain ⟨l1, l2⟩ := int_len hl
      obtain ⟨m1, m2⟩ := int_len hm
      have c1 : (Str.ofString "the ").length ≤ 100 := by decide +kernel
      have c2 : (Str.ofString " must be a whole number from ").length ≤ 100 := by decide +kernel
      have c3 : (Str.ofString " to ").length ≤ 100 := by decide +kernel
      refine ifT rfl ?_
      simp only [str_len, str_empty]
      exact ⟨sz_of (by omega), sz_of (by omega), sz_of (by omega), sz_of (by omega), l1, sz_of (by omega), sz_of (by omega), m1, sz_of (by omega), q2 e⟩
def sp_need_drive (K : PySem.W.Frag) (C : Addr) : Sp := fun vs H Q E => ∃ (y z : V), vs = [y, z] ∧ Known K H y ∧ Known K H z ∧ (wholeV y 1 1000000000 = true → wholeV z 1 1000000000 = true → Q .non H) ∧ (wholeV y 1 1000000000 = false ∨ wholeV z 1 1000000000 = false → E (.ref C) none H)
theorem ok_need_drive (B : Bt mg cl) (F_need_whole : Fn P w K mg base "need_whole" ["thing", "least", "most", "what"] (L2.CX P w) 2 (sp_need_whole K (cl 1))) {f : Addr} {fd : FuncData} (F : Fun K "need_drive" "need_drive" s_need_drive f fd) : FnOk P w K mg base (L2.CX P w) 3 f fd ["pace", "gain"] (sp_need_drive K (cl 1)) := by
  refine F.okX sc_need_drive (fun vs H Q E h => ?_) (fun cdv A outer s H vs Q E hr h => ?_)
  · obtain ⟨p, g, rfl, _⟩ := h
    rfl
  · obtain ⟨y, z, rfl, ky, kz, q, q2⟩ := h
    refine ⟨_, (pss_cons (ps_expr (pe_fnX F_need_whole (hr.mono (by decide)) (passes_call (takes_of rfl rfl rfl rfl) (fun _ _ _ _ h => h)) (pa_cons (pv 0) (pa_cons pe_int (pa_cons (pe_gint B.g_MOST_PACE) (pa_cons pe_str pa_nil))))))
      (pss_one (ps_expr (pe_fnX F_need_whole (hr.mono (by decide)) (passes_call (takes_of rfl rfl rfl rfl) (fun _ _ _ _ h => h)) (pa_cons (pv 1) (pa_cons pe_int (pa_cons (pe_gint B.g_MOST_PACE) (pa_cons pe_str pa_nil)))))))), ?_⟩
    simp only [tSeq, tIfS, tOr, tAnd, tNot, tB, tTest, tCB, tCall, tCons, tVar, tNil, tC, tRet, tRetN, tNext, tAsg, gName, tDrop, tOp, tUn, tAug, ipI, tPar, tIf, tAndV, tOrV, tNotV, tChain, tNever, rI0, rI, rU, L2.start, cxK, List.map_cons, List.map_nil, List.length_cons, List.length_nil, Nat.reduceAdd, Nat.reduceSub, List.replicate, List.cons_append, List.nil_append, List.append_nil, List.set_cons_zero, List.set_cons_succ, List.getElem?_cons_zero, List.getElem?_cons_succ, Option.some.injEq, V.int.injEq, V.bl.injEq, exists_eq_left', exists_eq_left, exists_and_left, tFor_eq, iRng1, iRng2, iRng3, iList, iEnum, iZip, iTup, tLst_eq, tTup_eq, rCat_eq, rCatS, rSum, rAppend_eq, rListOf, rSlL_eq, tSl, tNoPart, tPart, tLc_eq, tBM, rIxL, rIxT, min3_eq, rEq_int, rNe_int, min_if, max_if, and_assoc, V.ref.injEq, V.str.injEq, List.cons.injEq, and_true, true_and, ↓reduceIte, Bool.false_eq_true, Bool.not_true, Bool.not_false, Int.reduceToNat, Int.reducePow, Int.reduceAdd, Int.reduceSub, Int.reduceNeg, rNe_str, rEq_str, rEq_bl, tRaise1, tFmt, tJs, tCallS, WE, wKeep_eq, reduceCtorEq, false_and, and_false, exists_false, or_false, false_or, tIsN, tNotN, decide_true, decide_false, tDictN]
    refine ⟨_, _, _, _, rfl, ky, by decide, by decide, by decide, fun e => ⟨_, _, _, _, rfl, kz, by decide, by decide, by decide, fun e2 => q e e2, fun e2 => q2 (.inr e2)⟩, fun e => q2 (.inl e)⟩
/-! ### the steps -/
def sp_added_reach : Sp := fun vs H Q _ => ∃ (j : Nat) (p g : Int), vs = [.int j, .int p, .int g] ∧ 1 ≤ g ∧ g ≤ 1000000000 ∧ Q (.int (added p g j)) H
theorem ok_added_reach (B : Bt mg cl) {f : Addr} {fd : FuncData} (F : Fun K "added_reach" "added_reach" s_added_reach f fd) : FnOk P w K mg base CX0 1 f fd ["many", "pace", "gain"] sp_added_reach := by
  refine F.ok sc_added_reach (fun vs H Q E h => ?_) (fun cdv A outer s H vs Q E hr h => ?_)
  · obtain ⟨j, p, g, rfl, _⟩ := h
    rfl
  · obtain ⟨j, p, g, rfl, h1, h2, q⟩ := h
    refine ⟨_, (pss_one (ps_ret (pe_callB (call_min2 rfl) (by rfl) B.b_min (by decide +kernel) (pa_cons (pv 1) (pa_cons (pe_op op_mul (pv 2) (pe_op op_fdivW (pe_op op_add (pv 0) pe_int) pe_int)) pa_nil))))), ?_⟩
    simp only [tSeq, tIfS, tOr, tAnd, tNot, tB, tTest, tCB, tCall, tCons, tVar, tNil, tC, tRet, tRetN, tNext, tAsg, gName, tDrop, tOp, tUn, tAug, ipI, tPar, tIf, tAndV, tOrV, tNotV, tChain, tNever, rI0, rI, rU, L2.start, cxK, List.map_cons, List.map_nil, List.length_cons, List.length_nil, Nat.reduceAdd, Nat.reduceSub, List.replicate, List.cons_append, List.nil_append, List.append_nil, List.set_cons_zero, List.set_cons_succ, List.getElem?_cons_zero, List.getElem?_cons_succ, Option.some.injEq, V.int.injEq, V.bl.injEq, exists_eq_left', exists_eq_left, exists_and_left, tFor_eq, iRng1, iRng2, iRng3, iList, iEnum, iZip, iTup, tLst_eq, tTup_eq, rCat_eq, rCatS, rSum, rAppend_eq, rListOf, rSlL_eq, tSl, tNoPart, tPart, tLc_eq, tBM, rIxL, rIxT, min3_eq, rEq_int, rNe_int, min_if, max_if, and_assoc, V.ref.injEq, V.str.injEq, List.cons.injEq, and_true, true_and, ↓reduceIte, Bool.false_eq_true, Bool.not_true, Bool.not_false, Int.reduceToNat, Int.reducePow, Int.reduceAdd, Int.reduceSub, Int.reduceNeg, rNe_str, rEq_str, rEq_bl, tRaise1, tFmt, tJs, tCallS, WE, wKeep_eq, reduceCtorEq, false_and, and_false, exists_false, or_false, false_or, tIsN, tNotN, decide_true, decide_false, tDictN]
    refine ⟨cdw (by decide) (by decide), .inl ⟨by omega, by omega⟩, ?_⟩
    exact q
theorem tri_half (b : Nat) : (b : Int) * ((b : Int) + 1) / 2 = tri b := by
  rw [← tri_two]
  omega
def sp_greatest_step : Sp := fun vs H Q _ => ∃ (s : Int) (b : Nat) (l p g : Int), vs = [.int s, .int b, .int l, .int p, .int g] ∧ b ≤ 200 ∧ 1 ≤ g ∧ g ≤ 1000000000 ∧ Q (.int (next p g s b l)) H
theorem ok_greatest_step (B : Bt mg cl) {f : Addr} {fd : FuncData} (F : Fun K "greatest_step" "greatest_step" s_greatest_step f fd) : FnOk P w K mg base CX0 1 f fd ["ahead", "behind", "left", "pace", "gain"] sp_greatest_step := by
  refine F.ok sc_greatest_step (fun vs H Q E h => ?_) (fun cdv A outer s H vs Q E hr h => ?_)
  · obtain ⟨s, b, l, p, g, rfl, _⟩ := h
    rfl
  · obtain ⟨s, b, l, p, g, rfl, hb, h1, h2, q⟩ := h
    refine ⟨_, (pss_cons (ps_set (i := 5) sc_greatest_step.nd rfl (.inl rfl) (pe_op op_mul (pv 4) (pe_op op_fdivW (pe_op op_mul (pv 1) (pe_op op_add (pv 1) pe_int)) pe_int)))
      (pss_one (ps_ret (pe_callB (call_min3Nu rfl) (by rfl) B.b_min (by decide +kernel) (pa_cons (pv 3) (pa_cons (pe_op op_add (pv 0) (pv 4)) (pa_cons (pe_op op_fdivW (pe_op op_add (pv 2) (pv 5)) (pe_op op_add (pv 1) pe_int)) pa_nil))))))), ?_⟩
    simp only [tSeq, tIfS, tOr, tAnd, tNot, tB, tTest, tCB, tCall, tCons, tVar, tNil, tC, tRet, tRetN, tNext, tAsg, gName, tDrop, tOp, tUn, tAug, ipI, tPar, tIf, tAndV, tOrV, tNotV, tChain, tNever, rI0, rI, rU, L2.start, cxK, List.map_cons, List.map_nil, List.length_cons, List.length_nil, Nat.reduceAdd, Nat.reduceSub, List.replicate, List.cons_append, List.nil_append, List.append_nil, List.set_cons_zero, List.set_cons_succ, List.getElem?_cons_zero, List.getElem?_cons_succ, Option.some.injEq, V.int.injEq, V.bl.injEq, exists_eq_left', exists_eq_left, exists_and_left, tFor_eq, iRng1, iRng2, iRng3, iList, iEnum, iZip, iTup, tLst_eq, tTup_eq, rCat_eq, rCatS, rSum, rAppend_eq, rListOf, rSlL_eq, tSl, tNoPart, tPart, tLc_eq, tBM, rIxL, rIxT, min3_eq, rEq_int, rNe_int, min_if, max_if, and_assoc, V.ref.injEq, V.str.injEq, List.cons.injEq, and_true, true_and, ↓reduceIte, Bool.false_eq_true, Bool.not_true, Bool.not_false, Int.reduceToNat, Int.reducePow, Int.reduceAdd, Int.reduceSub, Int.reduceNeg, rNe_str, rEq_str, rEq_bl, tRaise1, tFmt, tJs, tCallS, WE, wKeep_eq, reduceCtorEq, false_and, and_false, exists_false, or_false, false_or, tIsN, tNotN, decide_true, decide_false, tDictN]
    refine ⟨.inl ⟨by omega, by omega⟩, cdw (by decide) (by decide), .inl ⟨by omega, by omega⟩, cdw (by omega) (by omega), ?_⟩
    rw [tri_half]
    exact q
/-- the least number of steps -/
structure Few (p g d : Int) (n : Nat) : Prop where
  p1 : 1 ≤ p
  p2 : p ≤ 1000000000
  g1 : 1 ≤ g
  g2 : g ≤ 1000000000
  d0 : 0 ≤ d
  n2 : n ≤ 200
  most : d ≤ U p g 0 n
  few : ∀ b, n = b + 1 → U p g 0 b < d
theorem added_nn {p g : Int} (hp : 0 ≤ p) (hg : 0 ≤ g) (j : Nat) : 0 ≤ added p g j := by
  unfold added
  have : 0 ≤ g * (((j : Int) + 1) / 2) := Int.mul_nonneg hg (by omega)
  omega
theorem U_mono {p g : Int} (hp : 0 ≤ p) (hg : 0 ≤ g) : ∀ {i j : Nat}, i ≤ j → U p g 0 i ≤ U p g 0 j := by
  intro i j h
  induction j with
  | zero =>
    have : i = 0 := by omega
    rw [this]
    exact Int.le_refl _
  | succ j ih =>
    by_cases e : i = j + 1
    · rw [e]
      exact Int.le_refl _
    · have := ih (by omega)
      rw [U_reach p g hp hg (j + 1)]
      rw [U_reach p g hp hg j] at this
      have a := added_nn hp hg (j + 1)
      show _ ≤ S (added p g) (j + 1) + added p g (j + 1)
      omega
def sp_fewest_steps (C : Addr) : Sp := fun vs H Q E => ∃ (d p g : Int), vs = [.int d, .int p, .int g] ∧ 1 ≤ p ∧ p ≤ 1000000000 ∧ 1 ≤ g ∧ g ≤ 1000000000 ∧ 0 ≤ d ∧ d ≤ 1000000000000 ∧ (∀ n, Few p g d n → Q (.int n) H) ∧ (U p g 0 200 < d → E (.ref C) none H)
theorem ok_fewest_steps (B : Bt mg cl) (EE : Exs K mg cl) (F_added_reach : Fn P w K mg base "added_reach" ["many", "pace", "gain"] CX0 1 sp_added_reach) {f : Addr} {fd : FuncData} (F : Fun K "fewest_steps" "fewest_steps" s_fewest_steps f fd) : FnOk P w K mg base (L2.CX P w) 2 f fd ["distance", "pace", "gain"] (sp_fewest_steps (cl 5)) := by
  refine F.okX sc_fewest_steps (fun vs H Q E h => ?_) (fun cdv A outer s H vs Q E hr h => ?_)
  · obtain ⟨d, p, g, rfl, _⟩ := h
    rfl
  · obtain ⟨d, p, g, rfl, p1, p2, g1, g2, d0, d1, q, q2⟩ := h
    refine ⟨_, (pss_cons (ps_set (i := 3) sc_fewest_steps.nd rfl (.inl rfl) pe_int)
      (pss_cons (ps_for (passes_of rfl) rfl (pi_range1 (by rfl) B.b_range (pa_cons (pe_op op_add (pe_gint B.g_MOST_STEPS) pe_int) pa_nil)) (pg_name (i := 4) sc_fewest_steps.nd rfl (.inl rfl))
        (pss_cons (ps_aug (i := 3) sc_fewest_steps.nd rfl (.inl rfl) (pe_fn F_added_reach (hr.mono (by decide)) (pa_cons (pv 4) (pa_cons (pv 1) (pa_cons (pv 2) pa_nil)))) ip_add)
      (pss_one (ps_if (pt_cmpR op_le (pv 0) (pv 3) (nomark _))
        (pss_one (ps_ret (pv 4)))
        pss_nil))))
      (pss_one (ps_raise1 rfl EE.TooLong (takes_of rfl rfl rfl rfl) (pe_joined (.cons pe_str (.cons (pe_fmt (pe_gint B.g_MOST_STEPS)) (.cons pe_str (.cons (pe_fmt (pv 0)) .nil))))))))), ?_⟩
    simp only [tSeq, tIfS, tOr, tAnd, tNot, tB, tTest, tCB, tCall, tCons, tVar, tNil, tC, tRet, tRetN, tNext, tAsg, gName, tDrop, tOp, tUn, tAug, ipI, tPar, tIf, tAndV, tOrV, tNotV, tChain, tNever, rI0, rI, rU, L2.start, cxK, List.map_cons, List.map_nil, List.length_cons, List.length_nil, Nat.reduceAdd, Nat.reduceSub, List.replicate, List.cons_append, List.nil_append, List.append_nil, List.set_cons_zero, List.set_cons_succ, List.getElem?_cons_zero, List.getElem?_cons_succ, Option.some.injEq, V.int.injEq, V.bl.injEq, exists_eq_left', exists_eq_left, exists_and_left, tFor_eq, iRng1, iRng2, iRng3, iList, iEnum, iZip, iTup, tLst_eq, tTup_eq, rCat_eq, rCatS, rSum, rAppend_eq, rListOf, rSlL_eq, tSl, tNoPart, tPart, tLc_eq, tBM, rIxL, rIxT, min3_eq, rEq_int, rNe_int, min_if, max_if, and_assoc, V.ref.injEq, V.str.injEq, List.cons.injEq, and_true, true_and, ↓reduceIte, Bool.false_eq_true, Bool.not_true, Bool.not_false, Int.reduceToNat, Int.reducePow, Int.reduceAdd, Int.reduceSub, Int.reduceNeg, rNe_str, rEq_str, rEq_bl, tRaise1, tFmt, tJs, tCallS, WE, wKeep_eq, reduceCtorEq, false_and, and_false, exists_false, or_false, false_or, tIsN, tNotN, decide_true, decide_false, tDictN]
    obtain ⟨Pv, hPv⟩ : ∃ Pv : Nat → L2.St → Hp → Prop, ∀ i σ H', Pv i σ H' ↔ H' = H ∧ (∀ b, i = b + 1 → U p g 0 b < d) ∧ ∃ y, σ = [some (.int d), some (.int p), some (.int g), some (.int (S (added p g) i)), y] := ⟨_, fun _ _ _ => Iff.rfl⟩
    refine ⟨by decide, by decide, loop_range Pv ((hPv _ _ _).mpr ⟨rfl, fun b e => by omega, none, rfl⟩) ?_ ?_⟩
    · intro i σ H' hi hp
      obtain ⟨rfl, hin, y, rfl⟩ := (hPv _ _ _).mp hp
      simp only [tSeq, tIfS, tOr, tAnd, tNot, tB, tTest, tCB, tCall, tCons, tVar, tNil, tC, tRet, tRetN, tNext, tAsg, gName, tDrop, tOp, tUn, tAug, ipI, tPar, tIf, tAndV, tOrV, tNotV, tChain, tNever, rI0, rI, rU, L2.start, cxK, List.map_cons, List.map_nil, List.length_cons, List.length_nil, Nat.reduceAdd, Nat.reduceSub, List.replicate, List.cons_append, List.nil_append, List.append_nil, List.set_cons_zero, List.set_cons_succ, List.getElem?_cons_zero, List.getElem?_cons_succ, Option.some.injEq, V.int.injEq, V.bl.injEq, exists_eq_left', exists_eq_left, exists_and_left, tFor_eq, iRng1, iRng2, iRng3, iList, iEnum, iZip, iTup, tLst_eq, tTup_eq, rCat_eq, rCatS, rSum, rAppend_eq, rListOf, rSlL_eq, tSl, tNoPart, tPart, tLc_eq, tBM, rIxL, rIxT, min3_eq, rEq_int, rNe_int, min_if, max_if, and_assoc, V.ref.injEq, V.str.injEq, List.cons.injEq, and_true, true_and, ↓reduceIte, Bool.false_eq_true, Bool.not_true, Bool.not_false, Int.reduceToNat, Int.reducePow, Int.reduceAdd, Int.reduceSub, Int.reduceNeg, rNe_str, rEq_str, rEq_bl, tRaise1, tFmt, tJs, tCallS, WE, wKeep_eq, reduceCtorEq, false_and, and_false, exists_false, or_false, false_or, tIsN, tNotN, decide_true, decide_false, tDictN]
      refine ⟨i, p, g, by simp, g1, g2, ?_⟩
      have e : S (added p g) i + added p g i = U p g 0 i := (U_reach p g (by omega) (by omega) i).symm
      refine ⟨_, rfl, ?_⟩
      rw [e]
      by_cases h : d ≤ U p g 0 i
      · refine ifT (decide_eq_true h) ?_
        simpa using q i ⟨p1, p2, g1, g2, d0, by omega, h, hin⟩
      · refine ifF (decide_eq_false h) ?_
        refine (hPv _ _ _).mpr ⟨rfl, fun b eb => ?_, some (.int (0 + (i : Int))), ?_⟩
        · have : b = i := by omega
          subst this
          omega
        · rw [show S (added p g) (i + 1) = U p g 0 i from e]
    · intro σ H' hp
      obtain ⟨rfl, h, y, rfl⟩ := (hPv _ _ _).mp hp
      have far := h 200 rfl
      obtain ⟨l1, l2⟩ := int_len (i := 200) (by decide)
      obtain ⟨m1, m2⟩ := int_len (i := d) (by omega)
      have c1 : (Str.ofString "more than ").length ≤ 100 := by decide +kernel
      have c2 : (Str.ofString " steps to go ").length ≤ 100 := by decide +kernel
      simp only [tSeq, tIfS, tOr, tAnd, tNot, tB, tTest, tCB, tCall, tCons, tVar, tNil, tC, tRet, tRetN, tNext, tAsg, gName, tDrop, tOp, tUn, tAug, ipI, tPar, tIf, tAndV, tOrV, tNotV, tChain, tNever, rI0, rI, rU, L2.start, cxK, List.map_cons, List.map_nil, List.length_cons, List.length_nil, Nat.reduceAdd, Nat.reduceSub, List.replicate, List.cons_append, List.nil_append, List.append_nil, List.set_cons_zero, List.set_cons_succ, List.getElem?_cons_zero, List.getElem?_cons_succ, Option.some.injEq, V.int.injEq, V.bl.injEq, exists_eq_left', exists_eq_left, exists_and_left, tFor_eq, iRng1, iRng2, iRng3, iList, iEnum, iZip, iTup, tLst_eq, tTup_eq, rCat_eq, rCatS, rSum, rAppend_eq, rListOf, rSlL_eq, tSl, tNoPart, tPart, tLc_eq, tBM, rIxL, rIxT, min3_eq, rEq_int, rNe_int, min_if, max_if, and_assoc, V.ref.injEq, V.str.injEq, List.cons.injEq, and_true, true_and, ↓reduceIte, Bool.false_eq_true, Bool.not_true, Bool.not_false, Int.reduceToNat, Int.reducePow, Int.reduceAdd, Int.reduceSub, Int.reduceNeg, rNe_str, rEq_str, rEq_bl, tRaise1, tFmt, tJs, tCallS, WE, wKeep_eq, reduceCtorEq, false_and, and_false, exists_false, or_false, false_or, tIsN, tNotN, decide_true, decide_false, tDictN]
      simp only [str_len, str_empty]
      exact ⟨sz_of (by omega), l1, sz_of (by omega), sz_of (by omega), m1, sz_of (by omega), q2 far⟩
/-- steps_of with whatever is handed in -/
def sp_steps_of (K : PySem.W.Frag) (C D : Addr) : Sp := fun vs H Q E => ∃ (x y z : V), vs = [x, y, z] ∧ Known K H x ∧ Known K H y ∧ Known K H z ∧ ((wholeV x 0 1000000000000 && wholeV y 1 1000000000 && wholeV z 1 1000000000) = false → E (.ref C) none H) ∧
  ∀ d p g : Int, x = .int d → y = .int p → z = .int g → (∀ n, Few p g d n → d ≤ 1000000000000 → RetL ((row p g n 0 d).map V.int) H Q) ∧ (0 ≤ d → d ≤ 1000000000000 → 1 ≤ p → p ≤ 1000000000 → 1 ≤ g → g ≤ 1000000000 → U p g 0 200 < d → E (.ref D) none H)
theorem whole_int {x : V} {l m : Int} (h : wholeV x l m = true) : ∃ a, x = .int a ∧ l ≤ a ∧ a ≤ m := by
  cases x with
  | int a =>
    have h : (decide (l ≤ a) && decide (a ≤ m)) = true := h
    rw [Bool.and_eq_true] at h
    exact ⟨a, rfl, of_decide_eq_true h.1, of_decide_eq_true h.2⟩
  | _ => cases h
theorem ok_steps_of (B : Bt mg cl) (F_need_whole : Fn P w K mg base "need_whole" ["thing", "least", "most", "what"] (L2.CX P w) 2 (sp_need_whole K (cl 1))) (F_need_drive : Fn P w K mg base "need_drive" ["pace", "gain"] (L2.CX P w) 3 (sp_need_drive K (cl 1))) (F_fewest_steps : Fn P w K mg base "fewest_steps" ["distance", "pace", "gain"] (L2.CX P w) 2 (sp_fewest_steps (cl 5))) (F_greatest_step : Fn P w K mg base "greatest_step" ["ahead", "behind", "left", "pace", "gain"] CX0 1 sp_greatest_step) {f : Addr} {fd : FuncData} (F : Fun K "steps_of" "steps_of" s_steps_of f fd) : FnOk P w K mg base (L2.CX P w) 4 f fd ["distance", "pace", "gain"] (sp_steps_of K (cl 1) (cl 5)) := by
  refine F.okX sc_steps_of (fun vs H Q E h => ?_) (fun cdv A outer s H vs Q E hr h => ?_)
  · obtain ⟨x, y, z, rfl, _⟩ := h
    rfl
  · obtain ⟨x, y, z, rfl, kx, ky, kz, bad, good⟩ := h
    refine ⟨_, (pss_cons (ps_expr (pe_fnX F_need_whole (hr.mono (by decide)) (passes_call (takes_of rfl rfl rfl rfl) (fun _ _ _ _ h => h)) (pa_cons (pv 0) (pa_cons pe_int (pa_cons (pe_gint B.g_MOST_DISTANCE) (pa_cons pe_str pa_nil))))))
      (pss_cons (ps_expr (pe_fnX F_need_drive (hr.mono (by decide)) (passes_call (takes_of rfl rfl rfl rfl) (fun _ _ _ _ h => h)) (pa_cons (pv 1) (pa_cons (pv 2) pa_nil))))
      (pss_cons (ps_set (i := 3) sc_steps_of.nd rfl (.inl rfl) (pe_fnX F_fewest_steps (hr.mono (by decide)) (passes_call (takes_of rfl rfl rfl rfl) (fun _ _ _ _ h => h)) (pa_cons (pv 0) (pa_cons (pv 1) (pa_cons (pv 2) pa_nil)))))
      (pss_cons (ps_set (i := 4) sc_steps_of.nd rfl (.inl rfl) (pe_lst pa_nil))
      (pss_cons (ps_set (i := 5) sc_steps_of.nd rfl (.inl rfl) pe_int)
      (pss_cons (ps_set (i := 6) sc_steps_of.nd rfl (.inl rfl) (pv 0))
      (pss_cons (ps_for (passes_of rfl) rfl (pi_range3 (by rfl) B.b_range (pa_cons (pe_op op_sub (pv 3) pe_int) (pa_cons (pe_un un_neg pe_int) (pa_cons (pe_un un_neg pe_int) pa_nil)))) (pg_name (i := 7) sc_steps_of.nd rfl (.inl rfl))
        (pss_cons (ps_set (i := 5) sc_steps_of.nd rfl (.inl rfl) (pe_fn F_greatest_step (hr.mono (by decide)) (pa_cons (pv 5) (pa_cons (pv 7) (pa_cons (pv 6) (pa_cons (pv 1) (pa_cons (pv 2) pa_nil)))))))
      (pss_cons (ps_aug (i := 6) sc_steps_of.nd rfl (.inl rfl) (pv 5) ip_sub)
      (pss_one (ps_expr (pe_bm PySem.F.plainAttrs_list PySem.F.slot_list_append PySem.F.type_list_append mt_append (pv 4) (pa_cons (pv 5) pa_nil)))))))
      (pss_one (ps_ret (pv 4)))))))))), ?_⟩
    simp only [tSeq, tIfS, tOr, tAnd, tNot, tB, tTest, tCB, tCall, tCons, tVar, tNil, tC, tRet, tRetN, tNext, tAsg, gName, tDrop, tOp, tUn, tAug, ipI, tPar, tIf, tAndV, tOrV, tNotV, tChain, tNever, rI0, rI, rU, L2.start, cxK, List.map_cons, List.map_nil, List.length_cons, List.length_nil, Nat.reduceAdd, Nat.reduceSub, List.replicate, List.cons_append, List.nil_append, List.append_nil, List.set_cons_zero, List.set_cons_succ, List.getElem?_cons_zero, List.getElem?_cons_succ, Option.some.injEq, V.int.injEq, V.bl.injEq, exists_eq_left', exists_eq_left, exists_and_left, tFor_eq, iRng1, iRng2, iRng3, iList, iEnum, iZip, iTup, tLst_eq, tTup_eq, rCat_eq, rCatS, rSum, rAppend_eq, rListOf, rSlL_eq, tSl, tNoPart, tPart, tLc_eq, tBM, rIxL, rIxT, min3_eq, rEq_int, rNe_int, min_if, max_if, and_assoc, V.ref.injEq, V.str.injEq, List.cons.injEq, and_true, true_and, ↓reduceIte, Bool.false_eq_true, Bool.not_true, Bool.not_false, Int.reduceToNat, Int.reducePow, Int.reduceAdd, Int.reduceSub, Int.reduceNeg, rNe_str, rEq_str, rEq_bl, tRaise1, tFmt, tJs, tCallS, WE, wKeep_eq, reduceCtorEq, false_and, and_false, exists_false, or_false, false_or, tIsN, tNotN, decide_true, decide_false, tDictN]
    refine ⟨_, _, _, _, rfl, kx, by decide, by decide, by decide, fun ex => ?_, fun ex => bad (by rw [ex]; rfl)⟩
    refine ⟨_, _, rfl, ky, kz, fun ey ez => ?_, fun e => bad (by rcases e with e | e <;> rw [e] <;> simp)⟩
    obtain ⟨d, rfl, d0, d1⟩ := whole_int ex
    obtain ⟨p, rfl, p1, p2⟩ := whole_int ey
    obtain ⟨g, rfl, g1, g2⟩ := whole_int ez
    obtain ⟨q, long⟩ := good d p g rfl rfl rfl
    refine ⟨_, _, _, rfl, p1, p2, g1, g2, d0, d1, fun n hn => ?_, fun far => long d0 d1 p1 p2 g1 g2 far⟩
    have q := q n hn d1
    refine ⟨Nat.zero_le _, new_of fun l H1 nl e1 hl => ?_⟩
    have hn2 := hn.n2
    refine ⟨_, rfl, _, RgC.neg (by omega) (by omega) (by decide) (by decide), ?_⟩
    have en : ((n : Int) - 1 - -1).toNat = n := by omega
    rw [en]
    obtain ⟨Pv, hPv⟩ : ∃ Pv : Nat → L2.St → Hp → Prop, ∀ i σ H', Pv i σ H' ↔ i ≤ n ∧ ∃ (s L : Int) (y : Option V) (acc : List Int), Go p g s (n - i) L ∧ acc.length = i ∧ acc ++ row p g (n - i) s L = row p g n 0 d ∧ σ = [some (.int d), some (.int p), some (.int g), some (.int n), some (.ref l), some (.int s), some (.int L), y] ∧ Ex H H' ∧ H' l = some (.lst (acc.map V.int)) := ⟨_, fun _ _ _ => Iff.rfl⟩
    refine loop_rangeC Pv ((hPv _ _ _).mpr ⟨Nat.zero_le _, 0, d, none, [], go_start hn.p1 hn.g1 hn.d0 hn.most hn.few, rfl, rfl, rfl, e1, hl⟩) ?_ ?_
    · intro i σ H' hi hp
      obtain ⟨_, s, L, y, acc, hg, hlen, hrow, rfl, e2, hl2⟩ := (hPv _ _ _).mp hp
      obtain ⟨b, hb⟩ : ∃ b, n - i = b + 1 := ⟨n - i - 1, by omega⟩
      rw [hb] at hg hrow
      have good := next_good hn.p1 hn.g1 hg
      have eb : (n : Int) - 1 + (i : Int) * -1 = (b : Int) := by omega
      rw [eb]
      simp only [tSeq, tIfS, tOr, tAnd, tNot, tB, tTest, tCB, tCall, tCons, tVar, tNil, tC, tRet, tRetN, tNext, tAsg, gName, tDrop, tOp, tUn, tAug, ipI, tPar, tIf, tAndV, tOrV, tNotV, tChain, tNever, rI0, rI, rU, L2.start, cxK, List.map_cons, List.map_nil, List.length_cons, List.length_nil, Nat.reduceAdd, Nat.reduceSub, List.replicate, List.cons_append, List.nil_append, List.append_nil, List.set_cons_zero, List.set_cons_succ, List.getElem?_cons_zero, List.getElem?_cons_succ, Option.some.injEq, V.int.injEq, V.bl.injEq, exists_eq_left', exists_eq_left, exists_and_left, tFor_eq, iRng1, iRng2, iRng3, iList, iEnum, iZip, iTup, tLst_eq, tTup_eq, rCat_eq, rCatS, rSum, rAppend_eq, rListOf, rSlL_eq, tSl, tNoPart, tPart, tLc_eq, tBM, rIxL, rIxT, min3_eq, rEq_int, rNe_int, min_if, max_if, and_assoc, V.ref.injEq, V.str.injEq, List.cons.injEq, and_true, true_and, ↓reduceIte, Bool.false_eq_true, Bool.not_true, Bool.not_false, Int.reduceToNat, Int.reducePow, Int.reduceAdd, Int.reduceSub, Int.reduceNeg, rNe_str, rEq_str, rEq_bl, tRaise1, tFmt, tJs, tCallS, WE, wKeep_eq, reduceCtorEq, false_and, and_false, exists_false, or_false, false_or, tIsN, tNotN, decide_true, decide_false, tDictN]
      refine ⟨s, b, L, p, g, rfl, by omega, hn.g1, hn.g2, ⟨_, rfl, ?_⟩⟩
      refine ⟨.inl ⟨rfl, _, sq_of hl2⟩, _, hl2, ?_, chg_of fun H3 k3 h3 => ?_⟩
      · rw [List.length_map, hlen]
        exact sz_lt (by omega)
      · refine (hPv _ _ _).mpr ⟨by omega, next p g s b L, L - next p g s b L, _, acc ++ [next p g s b L], ?_, ?_, ?_, rfl, ex_chg e2 nl k3, ?_⟩
        · rw [show n - (i + 1) = b by omega]
          exact good.go
        · rw [List.length_append, hlen]
          rfl
        · rw [show n - (i + 1) = b by omega, List.append_assoc]
          exact hrow
        · rw [h3, List.map_append]
          rfl
    · intro σ H' hp
      obtain ⟨_, s, L, y, acc, hg, hlen, hrow, rfl, e2, hl2⟩ := (hPv _ _ _).mp hp
      simp only [tSeq, tIfS, tOr, tAnd, tNot, tB, tTest, tCB, tCall, tCons, tVar, tNil, tC, tRet, tRetN, tNext, tAsg, gName, tDrop, tOp, tUn, tAug, ipI, tPar, tIf, tAndV, tOrV, tNotV, tChain, tNever, rI0, rI, rU, L2.start, cxK, List.map_cons, List.map_nil, List.length_cons, List.length_nil, Nat.reduceAdd, Nat.reduceSub, List.replicate, List.cons_append, List.nil_append, List.append_nil, List.set_cons_zero, List.set_cons_succ, List.getElem?_cons_zero, List.getElem?_cons_succ, Option.some.injEq, V.int.injEq, V.bl.injEq, exists_eq_left', exists_eq_left, exists_and_left, tFor_eq, iRng1, iRng2, iRng3, iList, iEnum, iZip, iTup, tLst_eq, tTup_eq, rCat_eq, rCatS, rSum, rAppend_eq, rListOf, rSlL_eq, tSl, tNoPart, tPart, tLc_eq, tBM, rIxL, rIxT, min3_eq, rEq_int, rNe_int, min_if, max_if, and_assoc, V.ref.injEq, V.str.injEq, List.cons.injEq, and_true, true_and, ↓reduceIte, Bool.false_eq_true, Bool.not_true, Bool.not_false, Int.reduceToNat, Int.reducePow, Int.reduceAdd, Int.reduceSub, Int.reduceNeg, rNe_str, rEq_str, rEq_bl, tRaise1, tFmt, tJs, tCallS, WE, wKeep_eq, reduceCtorEq, false_and, and_false, exists_false, or_false, false_or, tIsN, tNotN, decide_true, decide_false, tDictN]
      rw [Nat.sub_self] at hrow
      rw [show acc = row p g n 0 d from (List.append_nil acc).symm.trans hrow] at hl2
      exact q l H' nl e2 hl2
end
end FW

set_option Elab.async false
set_option linter.all false
set_option maxRecDepth 100000
set_option maxHeartbeats 4000000
namespace FW
open PySem PySem.Spec PyProof.Rows L2 Evl
section
variable {P : Program} {w : World} {K : PySem.W.Frag} {mg : Str → Option Value} {base : Heap} {cl : Nat → Addr}
/-! ### the law's draws -/
def sp__law_wide : Sp := fun vs H Q _ => ∃ (c : Int) (k : Nat), vs = [.int c, .int k] ∧ k ≤ 2000 ∧ ∀ n : Int, 0 ≤ n → Q (.int n) H
theorem nat_lt {i : Int} {a : Nat} (h0 : 0 ≤ i) (h : i < 2 ^ a) : i.natAbs < 2 ^ a := by
  have e : ((2 ^ a : Nat) : Int) = (2 : Int) ^ a := by rw [Int.natCast_pow]; rfl
  omega
theorem ok__law_wide (B : Bt mg cl) {f : Addr} {fd : FuncData} (F : Fun K "_law_wide" "_law_wide" s__law_wide f fd) : FnOk P w K mg base CX0 1 f fd ["_law_cell", "_law_k"] sp__law_wide := by
  refine F.ok sc__law_wide (fun vs H Q E h => ?_) (fun cdv A outer s H vs Q E hr h => ?_)
  · obtain ⟨c, k, rfl, _⟩ := h
    rfl
  · obtain ⟨c, k, rfl, hk, q⟩ := h
    refine ⟨_, (pss_cons (ps_set (i := 0) sc__law_wide.nd rfl (.inl rfl) (pe_op op_mulW (pe_op op_add (pe_op op_add (pe_op op_add (pe_op op_mod (pv 0) (pe_op op_pow pe_int pe_int)) (pe_op op_mulW (pe_op op_mulW pe_int (pv 1)) (pv 1))) (pe_op op_mulW pe_int (pv 1))) pe_int) pe_int))
      (pss_one (ps_ret (pe_op op_fdivW (pe_op op_mod (pe_op op_mulW (pv 0) (pv 0)) pe_int) (pe_op op_pow pe_int pe_int))))), ?_⟩
    simp only [tSeq, tIfS, tOr, tAnd, tNot, tB, tTest, tCB, tCall, tCons, tVar, tNil, tC, tRet, tRetN, tNext, tAsg, gName, tDrop, tOp, tUn, tAug, ipI, tPar, tIf, tAndV, tOrV, tNotV, tChain, tNever, rI0, rI, rU, L2.start, cxK, List.map_cons, List.map_nil, List.length_cons, List.length_nil, Nat.reduceAdd, Nat.reduceSub, List.replicate, List.cons_append, List.nil_append, List.append_nil, List.set_cons_zero, List.set_cons_succ, List.getElem?_cons_zero, List.getElem?_cons_succ, Option.some.injEq, V.int.injEq, V.bl.injEq, exists_eq_left', exists_eq_left, exists_and_left, tFor_eq, iRng1, iRng2, iRng3, iList, iEnum, iZip, iTup, tLst_eq, tTup_eq, rCat_eq, rCatS, rSum, rAppend_eq, rListOf, rSlL_eq, tSl, tNoPart, tPart, tLc_eq, tBM, rIxL, rIxT, min3_eq, rEq_int, rNe_int, min_if, max_if, and_assoc, V.ref.injEq, V.str.injEq, List.cons.injEq, and_true, true_and, ↓reduceIte, Bool.false_eq_true, Bool.not_true, Bool.not_false, Int.reduceToNat, Int.reducePow, Int.reduceAdd, Int.reduceSub, Int.reduceNeg, rNe_str, rEq_str, rEq_bl, tRaise1, tFmt, tJs, tCallS, WE, wKeep_eq, reduceCtorEq, false_and, and_false, exists_false, or_false, false_or, tIsN, tNotN, decide_true, decide_false, tDictN]
    have k1 : (k : Int).natAbs < 2 ^ 11 := by omega
    have z1 : (104729 * (k : Int)).natAbs < 2 ^ 17 * 2 ^ 11 := by omega
    have m0 : 0 ≤ c % 1000000000000000000000000000000000000000000000000000000000000 := Int.emod_nonneg _ (by decide)
    have m1 : c % 1000000000000000000000000000000000000000000000000000000000000 < 1000000000000000000000000000000000000000000000000000000000000 := Int.emod_lt_of_pos _ (by decide)
    have sq : 0 ≤ 104729 * (k : Int) * (k : Int) := Int.mul_nonneg (by omega) (by omega)
    have sq1 : 104729 * (k : Int) * (k : Int) ≤ 104729 * 2000 * 2000 := Int.mul_le_mul (by omega) (by omega) (by omega) (by omega)
    generalize c % 1000000000000000000000000000000000000000000000000000000000000 = r at *
    generalize e2 : 104729 * (k : Int) * (k : Int) = y at *
    have z2 : (r + y + 7919 * (k : Int) + 3).natAbs < 2 ^ 201 := nat_lt (by omega) (by omega)
    have z3 : ((r + y + 7919 * (k : Int) + 3) * 2862933555777941757).natAbs < 2 ^ 270 := nat_lt (by omega) (by omega)
    refine ⟨⟨by decide, by decide, by decide⟩, by decide, cmw (a := 17) (b := 11) (by decide) k1 (by decide) (by decide) (by decide), cmw (a := 28) (b := 11) (by omega) k1 (by decide) (by decide) (by decide), cmw (a := 17) (b := 11) (by decide) k1 (by decide) (by decide) (by decide),
      cmw (a := 201) (b := 64) z2 (by decide) (by decide) (by decide) (by decide), cmw z3 z3 (by decide) (by decide) (by decide), by decide, ⟨by decide, by decide, by decide⟩, cdw (by decide) (by decide), ?_⟩
    exact q _ (Int.ediv_nonneg (Int.emod_nonneg _ (by decide)) (by decide))
def Rate (r : Int) : Prop := 1 ≤ r ∧ r ≤ 1000000000
def sp__law_rate : Sp := fun vs H Q _ => ∃ (n : Int), vs = [.int n] ∧ 0 ≤ n ∧ ∀ (r : Int) H', Rate r → Ex H H' → Q (.int r) H'
theorem ok__law_rate (B : Bt mg cl) {f : Addr} {fd : FuncData} (F : Fun K "_law_rate" "_law_rate" s__law_rate f fd) : FnOk P w K mg base CX0 1 f fd ["_law_number"] sp__law_rate := by
  refine F.ok sc__law_rate (fun vs H Q E h => ?_) (fun cdv A outer s H vs Q E hr h => ?_)
  · obtain ⟨n, rfl, _⟩ := h
    rfl
  · obtain ⟨n, rfl, hn, q⟩ := h
    refine ⟨_, (pss_cons (ps_set (i := 1) sc__law_rate.nd rfl (.inl rfl) (pe_op op_pow pe_int pe_int))
      (pss_one (ps_ret (pe_ix (k_ixl (K := K) rfl) (pe_lst (pa_cons (pe_op op_add pe_int (pe_op op_mod (pe_op op_fdivW (pv 0) pe_int) pe_int)) (pa_cons (pe_op op_add pe_int (pe_op op_mod (pe_op op_fdivW (pv 0) pe_int) pe_int)) (pa_cons (pe_op op_add pe_int (pe_op op_mod (pe_op op_fdivW (pv 0) pe_int) (pv 1))) (pa_cons (pv 1) (pa_cons pe_int (pa_cons pe_int (pa_cons pe_int (pa_cons pe_int pa_nil))))))))) (pe_op op_mod (pv 0) pe_int) (fun _ _ => rfl))))), ?_⟩
    simp only [tSeq, tIfS, tOr, tAnd, tNot, tB, tTest, tCB, tCall, tCons, tVar, tNil, tC, tRet, tRetN, tNext, tAsg, gName, tDrop, tOp, tUn, tAug, ipI, tPar, tIf, tAndV, tOrV, tNotV, tChain, tNever, rI0, rI, rU, L2.start, cxK, List.map_cons, List.map_nil, List.length_cons, List.length_nil, Nat.reduceAdd, Nat.reduceSub, List.replicate, List.cons_append, List.nil_append, List.append_nil, List.set_cons_zero, List.set_cons_succ, List.getElem?_cons_zero, List.getElem?_cons_succ, Option.some.injEq, V.int.injEq, V.bl.injEq, exists_eq_left', exists_eq_left, exists_and_left, tFor_eq, iRng1, iRng2, iRng3, iList, iEnum, iZip, iTup, tLst_eq, tTup_eq, rCat_eq, rCatS, rSum, rAppend_eq, rListOf, rSlL_eq, tSl, tNoPart, tPart, tLc_eq, tBM, rIxL, rIxT, min3_eq, rEq_int, rNe_int, min_if, max_if, and_assoc, V.ref.injEq, V.str.injEq, List.cons.injEq, and_true, true_and, ↓reduceIte, Bool.false_eq_true, Bool.not_true, Bool.not_false, Int.reduceToNat, Int.reducePow, Int.reduceAdd, Int.reduceSub, Int.reduceNeg, rNe_str, rEq_str, rEq_bl, tRaise1, tFmt, tJs, tCallS, WE, wKeep_eq, reduceCtorEq, false_and, and_false, exists_false, or_false, false_or, tIsN, tNotN, decide_true, decide_false, tDictN]
    refine ⟨⟨by decide, by decide, by decide⟩, cdw (by decide) (by decide), by decide, cdw (by decide) (by decide), by decide, cdw (by decide) (by decide), by decide, sz_of (by decide), new_of fun p H1 np e hp => ⟨by decide, _, sq_of hp, ?_⟩⟩
    obtain ⟨v, hv, ha⟩ := at_mem (xs := [V.int (1 + n / 8 % 9), V.int (1 + n / 8 % 1000), V.int (1 + n / 8 % 1000000000), V.int 1000000000, V.int 1, V.int 2, V.int 7, V.int 3]) (i := n % 8) (by omega) (by show n % 8 < 8; omega)
    have hr : ∃ r, v = .int r ∧ Rate r := by
      simp only [List.mem_cons, List.not_mem_nil, or_false] at hv
      rcases hv with rfl | rfl | rfl | rfl | rfl | rfl | rfl | rfl <;> exact ⟨_, rfl, by unfold Rate; omega⟩
    obtain ⟨r, rfl, hr⟩ := hr
    exact ⟨_, ha, q r H1 hr e⟩
def sp__law_reach : Sp := fun vs H Q _ => ∃ (m : Nat) (p g : Int), vs = [.int m, .int p, .int g] ∧ m ≤ 1000 ∧ 1 ≤ g ∧ g ≤ 1000000000 ∧ RetV (.int (U p g 0 m)) H Q
theorem ok__law_reach (B : Bt mg cl) {f : Addr} {fd : FuncData} (F : Fun K "_law_reach" "_law_reach" s__law_reach f fd) : FnOk P w K mg base CX0 1 f fd ["_law_many", "_law_pace", "_law_gain"] sp__law_reach := by
  refine F.ok sc__law_reach (fun vs H Q E h => ?_) (fun cdv A outer s H vs Q E hr h => ?_)
  · obtain ⟨m, p, g, rfl, _⟩ := h
    rfl
  · obtain ⟨m, p, g, rfl, hm, h1, h2, q⟩ := h
    refine ⟨_, (pss_one (ps_ret (pe_callB (k_sum (K := K) rfl (by rfl)) (by rfl) B.b_sum (by decide +kernel) (pa_cons (pe_lc (own := [("_law_k", 3)]) (g := gName 3) (tt := tYes) (by rfl) sc__law_reach.nd (pi_range1 (by rfl) B.b_range (pa_cons (pv 0) pa_nil)) (blkOk_by (own := [("_law_k", 3)]) (N := ["_law_many", "_law_pace", "_law_gain", "_law_k"]) (sc := defScope s__law_reach) (by decide +kernel)) (fun _ _ _ _ _ => (pg_name (i := 3) sc__law_reach.nd rfl (.inl rfl))) (fun _ _ _ _ _ => pts_nil) (fun _ _ _ _ _ => (pe_callB (call_min3Nu rfl) (by rfl) B.b_min (by decide +kernel) (pa_cons (pv 1) (pa_cons (pe_op op_mul (pv 2) (pe_op op_add (pv 3) pe_int)) (pa_cons (pe_op op_mul (pv 2) (pe_op op_sub (pv 0) (pv 3))) pa_nil)))))) pa_nil)))), ?_⟩
    simp only [tSeq, tIfS, tOr, tAnd, tNot, tB, tTest, tCB, tCall, tCons, tVar, tNil, tC, tRet, tRetN, tNext, tAsg, gName, tDrop, tOp, tUn, tAug, ipI, tPar, tIf, tAndV, tOrV, tNotV, tChain, tNever, rI0, rI, rU, L2.start, cxK, List.map_cons, List.map_nil, List.length_cons, List.length_nil, Nat.reduceAdd, Nat.reduceSub, List.replicate, List.cons_append, List.nil_append, List.append_nil, List.set_cons_zero, List.set_cons_succ, List.getElem?_cons_zero, List.getElem?_cons_succ, Option.some.injEq, V.int.injEq, V.bl.injEq, exists_eq_left', exists_eq_left, exists_and_left, tFor_eq, iRng1, iRng2, iRng3, iList, iEnum, iZip, iTup, tLst_eq, tTup_eq, rCat_eq, rCatS, rSum, rAppend_eq, rListOf, rSlL_eq, tSl, tNoPart, tPart, tLc_eq, tBM, rIxL, rIxT, min3_eq, rEq_int, rNe_int, min_if, max_if, and_assoc, V.ref.injEq, V.str.injEq, List.cons.injEq, and_true, true_and, ↓reduceIte, Bool.false_eq_true, Bool.not_true, Bool.not_false, Int.reduceToNat, Int.reducePow, Int.reduceAdd, Int.reduceSub, Int.reduceNeg, rNe_str, rEq_str, rEq_bl, tRaise1, tFmt, tJs, tCallS, WE, wKeep_eq, reduceCtorEq, false_and, and_false, exists_false, or_false, false_or, tIsN, tNotN, decide_true, decide_false, tDictN]
    refine ⟨by omega, by omega, fun Dl hD => lc_gives walk_range (fun k => some (.int (top p g 0 m k))) hD (fun _ _ => trivial) ?_ ?_⟩
    · rintro i x H0 H' hi e0 hl ⟨rfl, rfl⟩
      simp only [tSeq, tIfS, tOr, tAnd, tNot, tB, tTest, tCB, tCall, tCons, tVar, tNil, tC, tRet, tRetN, tNext, tAsg, gName, tDrop, tOp, tUn, tAug, ipI, tPar, tIf, tAndV, tOrV, tNotV, tChain, tNever, rI0, rI, rU, L2.start, cxK, List.map_cons, List.map_nil, List.length_cons, List.length_nil, Nat.reduceAdd, Nat.reduceSub, List.replicate, List.cons_append, List.nil_append, List.append_nil, List.set_cons_zero, List.set_cons_succ, List.getElem?_cons_zero, List.getElem?_cons_succ, Option.some.injEq, V.int.injEq, V.bl.injEq, exists_eq_left', exists_eq_left, exists_and_left, tFor_eq, iRng1, iRng2, iRng3, iList, iEnum, iZip, iTup, tLst_eq, tTup_eq, rCat_eq, rCatS, rSum, rAppend_eq, rListOf, rSlL_eq, tSl, tNoPart, tPart, tLc_eq, tBM, rIxL, rIxT, min3_eq, rEq_int, rNe_int, min_if, max_if, and_assoc, V.ref.injEq, V.str.injEq, List.cons.injEq, and_true, true_and, ↓reduceIte, Bool.false_eq_true, Bool.not_true, Bool.not_false, Int.reduceToNat, Int.reducePow, Int.reduceAdd, Int.reduceSub, Int.reduceNeg, rNe_str, rEq_str, rEq_bl, tRaise1, tFmt, tJs, tCallS, WE, wKeep_eq, reduceCtorEq, false_and, and_false, exists_false, or_false, false_or, tIsN, tNotN, decide_true, decide_false, tDictN, wipe, tYes]
      refine ⟨.inl ⟨by omega, by omega⟩, .inl ⟨by omega, by omega⟩, put_of hD e0 hl (sz_lt (by omega)) ?_⟩
      unfold top
      simp only [Int.zero_add]
    · intro H' e h
      rw [gives_map] at h
      have e2 : (List.range (m : Int).toNat).map (fun k => V.int (top p g 0 m k)) = ((List.range m).map (top p g 0 m)).map V.int := by
        rw [List.map_map]
        rfl
      rw [e2] at h
      refine ⟨_, rfl, _, sq_of h, ?_⟩
      rw [sum_S]
      exact q H' e
theorem few_of {p g d : Int} (hp : Rate p) (hg : Rate g) (hd : 0 ≤ d) : ∀ m : Nat, m ≤ 200 → d ≤ U p g 0 m → ∃ n, Few p g d n
  | 0, h, hm => ⟨0, hp.1, hp.2, hg.1, hg.2, hd, h, hm, fun b e => by omega⟩
  | m + 1, h, hm => by
    by_cases c : d ≤ U p g 0 m
    · exact few_of hp hg hd m (by omega) c
    · exact ⟨m + 1, hp.1, hp.2, hg.1, hg.2, hd, h, hm, fun b e => by
        have : b = m := by omega
        subst this
        omega⟩
theorem get_int {ns : List Int} {i : Nat} {x : V} (h : (ns.map V.int)[i]? = some x) : ∃ z, ns[i]? = some z ∧ x = .int z := by
  rw [List.getElem?_map] at h
  cases e : ns[i]? with
  | none =>
    rw [e] at h
    cases h
  | some z =>
    rw [e] at h
    exact ⟨z, rfl, (Option.some.inj h).symm⟩
/-! ### what a call of steps_of comes to -/
/-- by its arguments: told, number, long -/
inductive Comes (x y z : V) : Str → Prop where
  | number (h : (wholeV x 0 1000000000000 && wholeV y 1 1000000000 && wholeV z 1 1000000000) = false) : Comes x y z "number"
  | told {d p g : Int} {n : Nat} (ex : x = .int d) (ey : y = .int p) (ez : z = .int g) (h : Few p g d n) (hd : d ≤ 1000000000000) : Comes x y z "told"
  | long {d p g : Int} (ex : x = .int d) (ey : y = .int p) (ez : z = .int g) (d0 : 0 ≤ d) (d1 : d ≤ 1000000000000) (hp : Rate p) (hg : Rate g) (h : U p g 0 200 < d) : Comes x y z "long"
def sp__law_said (K : PySem.W.Frag) : Sp := fun vs H Q _ => ∃ (x y z : V) (t : Str), vs = [x, y, z] ∧ Known K H x ∧ Known K H y ∧ Known K H z ∧ Comes x y z t ∧ RetV (.str t) H Q
theorem ok__law_said (B : Bt mg cl) (EE : Exs K mg cl) (F_steps_of : Fn P w K mg base "steps_of" ["distance", "pace", "gain"] (L2.CX P w) 4 (sp_steps_of K (cl 1) (cl 5))) {f : Addr} {fd : FuncData} (F : Fun K "_law_said" "_law_said" s__law_said f fd) : FnOk P w K mg base CX0 5 f fd ["_law_distance", "_law_pace", "_law_gain"] (sp__law_said K) := by
  refine F.ok sc__law_said (fun vs H Q E h => ?_) (fun cdv A outer s H vs Q E hr h => ?_)
  · obtain ⟨x, y, z, t, rfl, _⟩ := h
    rfl
  · obtain ⟨x, y, z, t, rfl, kx, ky, kz, c, q⟩ := h
    refine ⟨_, (pss_cons (ps_set (i := 3) sc__law_said.nd rfl (.inl rfl) pe_non)
      (pss_cons (ps_set (i := 4) sc__law_said.nd rfl (.inl rfl) pe_non)
      (pss_cons (ps_try_keep (i := 5) (j := 3) (tb := _) rfl rfl rfl sc__law_said.nd rfl rfl rfl rfl (.inl rfl) ⟨rfl, by decide, .inl B.c_StageError⟩ (fun W pn xe tk _ =>
        (pss_one (ps_set (i := 4) sc__law_said.nd rfl (.inl rfl) (pe_fnS F_steps_of (hr.mono (by decide)) tk (pa_cons (pv 0) (pa_cons (pv 1) (pa_cons (pv 2) pa_nil))))))))
      (pss_cons (ps_if (pt_cmpR op_isN (pv 3) pe_non (nomark _))
        (pss_one (ps_ret (pe_ifExp (PW.pt (pw_and (pt_val (pe_callB (k_isY (K := K) rfl) (by rfl) B.b_isinstance (by decide +kernel) (pa_cons (pv 4) (pa_cons (pe_bltn (v := .ty "list") (by rfl) B.b_list (by decide +kernel) rfl) pa_nil)))) (pw_and (pt_cmpR op_le (pe_callB (k_len (K := K) rfl) (by rfl) B.b_len (by decide +kernel) (pa_cons (pv 4) pa_nil)) pe_int (nomark _)) (pw_and1 (pt_cmpR op_eq (pe_callB (k_sum (K := K) rfl (by rfl)) (by rfl) B.b_sum (by decide +kernel) (pa_cons (pv 4) pa_nil)) (pv 0) (nomark _)))))) pe_str pe_str)))
        pss_nil)
      (pss_cons (ps_set (i := 6) sc__law_said.nd rfl (.inl rfl) (pe_callB (k_isYT (K := K) rfl) (by rfl) B.b_isinstance (by decide +kernel) (pa_cons (pv 3) (pa_cons (pe_tup (pa_cons (pe_glob (v := .ref _) (by rfl) B.c_BadName rfl) (pa_cons (pe_glob (v := .ref _) (by rfl) B.c_BadRow rfl) (pa_cons (pe_glob (v := .ref _) (by rfl) B.c_BadSheet rfl) (pa_cons (pe_glob (v := .ref _) (by rfl) B.c_BadStage rfl) (pa_cons (pe_glob (v := .ref _) (by rfl) B.c_Busy rfl) (pa_cons (pe_glob (v := .ref _) (by rfl) B.c_Moving rfl) pa_nil))))))) pa_nil))))
      (pss_cons (ps_set (i := 6) sc__law_said.nd rfl (.inl rfl) (pe_or (pv 6) (pe_one (pe_callB (k_isYT (K := K) rfl) (by rfl) B.b_isinstance (by decide +kernel) (pa_cons (pv 3) (pa_cons (pe_tup (pa_cons (pe_glob (v := .ref _) (by rfl) B.c_NoCue rfl) (pa_cons (pe_glob (v := .ref _) (by rfl) B.c_NotStopped rfl) (pa_cons (pe_glob (v := .ref _) (by rfl) B.c_Stopped rfl) (pa_cons (pe_glob (v := .ref _) (by rfl) B.c_TooNear rfl) pa_nil))))) pa_nil))))))
      (pss_cons (ps_set (i := 7) sc__law_said.nd rfl (.inl rfl) (pe_lst (pa_cons (pe_callB (k_isY (K := K) rfl) (by rfl) B.b_isinstance (by decide +kernel) (pa_cons (pv 3) (pa_cons (pe_glob (v := .ref _) (by rfl) B.c_BadNumber rfl) pa_nil))) (pa_cons (pe_callB (k_isY (K := K) rfl) (by rfl) B.b_isinstance (by decide +kernel) (pa_cons (pv 3) (pa_cons (pe_glob (v := .ref _) (by rfl) B.c_TooLong rfl) pa_nil))) pa_nil))))
      (pss_cons (ps_if (PW.pt (pw_or (pt_val (pv 6)) (pw_or (pt_not (pt_val (pe_callB (k_isY (K := K) rfl) (by rfl) B.b_isinstance (by decide +kernel) (pa_cons (pv 3) (pa_cons (pe_bltn (v := .ty "ValueError") (by rfl) B.b_ValueError (by decide +kernel) rfl) pa_nil))))) (pw_or1 (pt_cmpR op_eq (pe_ix (k_ixl (K := K) rfl) (pv 7) pe_int (fun _ _ => rfl)) (pe_ix (k_ixl (K := K) rfl) (pv 7) pe_int (fun _ _ => rfl)) (nomark _))))))
        (pss_one (ps_ret pe_str))
        pss_nil)
      (pss_one (ps_ret (pe_ifExp (pt_val (pe_ix (k_ixl (K := K) rfl) (pv 7) pe_int (fun _ _ => rfl))) pe_str pe_str))))))))))), ?_⟩
    simp only [tSeq, tIfS, tOr, tAnd, tNot, tB, tTest, tCB, tCall, tCons, tVar, tNil, tC, tRet, tRetN, tNext, tAsg, gName, tDrop, tOp, tUn, tAug, ipI, tPar, tIf, tAndV, tOrV, tNotV, tChain, tNever, rI0, rI, rU, L2.start, cxK, List.map_cons, List.map_nil, List.length_cons, List.length_nil, Nat.reduceAdd, Nat.reduceSub, List.replicate, List.cons_append, List.nil_append, List.append_nil, List.set_cons_zero, List.set_cons_succ, List.getElem?_cons_zero, List.getElem?_cons_succ, Option.some.injEq, V.int.injEq, V.bl.injEq, exists_eq_left', exists_eq_left, exists_and_left, tFor_eq, iRng1, iRng2, iRng3, iList, iEnum, iZip, iTup, tLst_eq, tTup_eq, rCat_eq, rCatS, rSum, rAppend_eq, rListOf, rSlL_eq, tSl, tNoPart, tPart, tLc_eq, tBM, rIxL, rIxT, min3_eq, rEq_int, rNe_int, min_if, max_if, and_assoc, V.ref.injEq, V.str.injEq, List.cons.injEq, and_true, true_and, ↓reduceIte, Bool.false_eq_true, Bool.not_true, Bool.not_false, Int.reduceToNat, Int.reducePow, Int.reduceAdd, Int.reduceSub, Int.reduceNeg, rNe_str, rEq_str, rEq_bl, tRaise1, tFmt, tJs, tCallS, WE, wKeep_eq, reduceCtorEq, false_and, and_false, exists_false, or_false, false_or, tIsN, tNotN, decide_true, decide_false, tDictN]
    refine ⟨x, y, z, rfl, kx, ky, kz, fun bad => ?_, fun d p g ex ey ez => ⟨fun n few hd l H1 nl e1 hl => ?_, fun d0 d1 p1 p2 g1 g2 far => ?_⟩⟩
    · have et : t = "number" := by
        cases c with
        | number h => rfl
        | told ex ey ez h hd =>
          subst ex ey ez
          exact absurd bad (by simp [wholeV, h.p1, h.p2, h.g1, h.g2, h.d0, hd])
        | long ex ey ez d0 d1 hp hg h =>
          subst ex ey ez
          exact absurd bad (by simp [wholeV, hp.1, hp.2, hg.1, hg.2, d0, d1])
      subst et
      simp only [tSeq, tIfS, tOr, tAnd, tNot, tB, tTest, tCB, tCall, tCons, tVar, tNil, tC, tRet, tRetN, tNext, tAsg, gName, tDrop, tOp, tUn, tAug, ipI, tPar, tIf, tAndV, tOrV, tNotV, tChain, tNever, rI0, rI, rU, L2.start, cxK, List.map_cons, List.map_nil, List.length_cons, List.length_nil, Nat.reduceAdd, Nat.reduceSub, List.replicate, List.cons_append, List.nil_append, List.append_nil, List.set_cons_zero, List.set_cons_succ, List.getElem?_cons_zero, List.getElem?_cons_succ, Option.some.injEq, V.int.injEq, V.bl.injEq, exists_eq_left', exists_eq_left, exists_and_left, tFor_eq, iRng1, iRng2, iRng3, iList, iEnum, iZip, iTup, tLst_eq, tTup_eq, rCat_eq, rCatS, rSum, rAppend_eq, rListOf, rSlL_eq, tSl, tNoPart, tPart, tLc_eq, tBM, rIxL, rIxT, min3_eq, rEq_int, rNe_int, min_if, max_if, and_assoc, V.ref.injEq, V.str.injEq, List.cons.injEq, and_true, true_and, ↓reduceIte, Bool.false_eq_true, Bool.not_true, Bool.not_false, Int.reduceToNat, Int.reducePow, Int.reduceAdd, Int.reduceSub, Int.reduceNeg, rNe_str, rEq_str, rEq_bl, tRaise1, tFmt, tJs, tCallS, WE, wKeep_eq, reduceCtorEq, false_and, and_false, exists_false, or_false, false_or, tIsN, tNotN, decide_true, decide_false, tDictN]
      refine ⟨EE.BadNumber.em, newD_of fun a H1 na e1 h1 => ?_⟩
      refine ⟨sz_of (by decide), new_of fun p2 H2 n2 e2 h2 => ⟨_, _, _, .ref (cl 1), _, false, rfl, h2, .cons (.own _) (.cons (.own _) (.cons (.own _) (.cons (.own _) (.cons (.own _) (.cons (.own _) .nil))))), .exc (e2 _ _ h1) EE.BadNumber.ec, EE.o0_BadNumber, _, rfl, ifF rfl ?_⟩⟩
      refine ⟨sz_of (by decide), new_of fun p3 H3 n3 e3 h3 => ⟨_, _, _, .ref (cl 1), _, false, rfl, h3, .cons (.own _) (.cons (.own _) (.cons (.own _) (.cons (.own _) .nil))), .exc (e3 _ _ (e2 _ _ h1)) EE.BadNumber.ec, EE.o1_BadNumber, ?_⟩⟩
      have ty : TyY K H3 (.ref a) (.ref (cl 1)) := .exc (e3 _ _ (e2 _ _ h1)) EE.BadNumber.ec
      refine isyC ty EE.k_BadNumber_BadNumber (isyC ty EE.k_BadNumber_TooLong ⟨sz_of (by simp), new_of fun p4 H4 n4 e4 h4 => ⟨_, rfl, ifF rfl ?_⟩⟩)
      have ty4 : TyY K H4 (.ref a) (.ref (cl 1)) := .exc (e4 _ _ (e3 _ _ (e2 _ _ h1))) EE.BadNumber.ec
      refine isy ty4 EE.v_BadNumber ⟨_, rfl, ifF rfl ⟨_, sq_of h4, _, rfl, _, sq_of h4, _, rfl, ?_⟩⟩
      simp only [tSeq, tIfS, tOr, tAnd, tNot, tB, tTest, tCB, tCall, tCons, tVar, tNil, tC, tRet, tRetN, tNext, tAsg, gName, tDrop, tOp, tUn, tAug, ipI, tPar, tIf, tAndV, tOrV, tNotV, tChain, tNever, rI0, rI, rU, L2.start, cxK, List.map_cons, List.map_nil, List.length_cons, List.length_nil, Nat.reduceAdd, Nat.reduceSub, List.replicate, List.cons_append, List.nil_append, List.append_nil, List.set_cons_zero, List.set_cons_succ, List.getElem?_cons_zero, List.getElem?_cons_succ, Option.some.injEq, V.int.injEq, V.bl.injEq, exists_eq_left', exists_eq_left, exists_and_left, tFor_eq, iRng1, iRng2, iRng3, iList, iEnum, iZip, iTup, tLst_eq, tTup_eq, rCat_eq, rCatS, rSum, rAppend_eq, rListOf, rSlL_eq, tSl, tNoPart, tPart, tLc_eq, tBM, rIxL, rIxT, min3_eq, rEq_int, rNe_int, min_if, max_if, and_assoc, V.ref.injEq, V.str.injEq, List.cons.injEq, and_true, true_and, ↓reduceIte, Bool.false_eq_true, Bool.not_true, Bool.not_false, Int.reduceToNat, Int.reducePow, Int.reduceAdd, Int.reduceSub, Int.reduceNeg, rNe_str, rEq_str, rEq_bl, tRaise1, tFmt, tJs, tCallS, WE, wKeep_eq, reduceCtorEq, false_and, and_false, exists_false, or_false, false_or, tIsN, tNotN, decide_true, decide_false, tDictN]
      refine ⟨_, sq_of h4, _, rfl, _, rfl, ?_⟩
      exact ifT rfl (q H4 (((e1.trans e2).trans e3).trans e4))
    · subst ex ey ez
      have et : t = "told" := by
        cases c with
        | number h => exact absurd h (by simp [wholeV, few.p1, few.p2, few.g1, few.g2, few.d0, hd])
        | told => rfl
        | long ex ey ez d0 d1 hp hg h =>
          cases ex
          cases ey
          cases ez
          have := U_mono (p := p) (g := g) (by have := few.p1; omega) (by have := few.g1; omega) few.n2
          have := few.most
          omega
      subst et
      have go := go_start few.p1 few.g1 few.d0 few.most few.few
      simp only [tSeq, tIfS, tOr, tAnd, tNot, tB, tTest, tCB, tCall, tCons, tVar, tNil, tC, tRet, tRetN, tNext, tAsg, gName, tDrop, tOp, tUn, tAug, ipI, tPar, tIf, tAndV, tOrV, tNotV, tChain, tNever, rI0, rI, rU, L2.start, cxK, List.map_cons, List.map_nil, List.length_cons, List.length_nil, Nat.reduceAdd, Nat.reduceSub, List.replicate, List.cons_append, List.nil_append, List.append_nil, List.set_cons_zero, List.set_cons_succ, List.getElem?_cons_zero, List.getElem?_cons_succ, Option.some.injEq, V.int.injEq, V.bl.injEq, exists_eq_left', exists_eq_left, exists_and_left, tFor_eq, iRng1, iRng2, iRng3, iList, iEnum, iZip, iTup, tLst_eq, tTup_eq, rCat_eq, rCatS, rSum, rAppend_eq, rListOf, rSlL_eq, tSl, tNoPart, tPart, tLc_eq, tBM, rIxL, rIxT, min3_eq, rEq_int, rNe_int, min_if, max_if, and_assoc, V.ref.injEq, V.str.injEq, List.cons.injEq, and_true, true_and, ↓reduceIte, Bool.false_eq_true, Bool.not_true, Bool.not_false, Int.reduceToNat, Int.reducePow, Int.reduceAdd, Int.reduceSub, Int.reduceNeg, rNe_str, rEq_str, rEq_bl, tRaise1, tFmt, tJs, tCallS, WE, wKeep_eq, reduceCtorEq, false_and, and_false, exists_false, or_false, false_or, tIsN, tNotN, decide_true, decide_false, tDictN]
      refine isy_ty (.base (.lst hl)) (b := true) (by decide +kernel) ⟨_, rfl, ifT rfl ⟨_, .inl (sq_of hl), ?_⟩⟩
      have hn2 := few.n2
      refine ifT (decide_eq_true (by rw [List.length_map, row_len]; omega)) ⟨_, sq_of hl, ?_⟩
      rw [row_sum few.p1 few.g1 n 0 d go]
      exact ifT (decide_eq_true rfl) (q H1 e1)
    · subst ex ey ez
      have et : t = "long" := by
        cases c with
        | number h => exact absurd h (by simp [wholeV, p1, p2, g1, g2, d0, d1])
        | @told _ _ _ n ex ey ez h hd =>
          cases ex
          cases ey
          cases ez
          have := U_mono (p := p) (g := g) (by omega) (by omega) h.n2
          have := h.most
          omega
        | long => rfl
      subst et
      simp only [tSeq, tIfS, tOr, tAnd, tNot, tB, tTest, tCB, tCall, tCons, tVar, tNil, tC, tRet, tRetN, tNext, tAsg, gName, tDrop, tOp, tUn, tAug, ipI, tPar, tIf, tAndV, tOrV, tNotV, tChain, tNever, rI0, rI, rU, L2.start, cxK, List.map_cons, List.map_nil, List.length_cons, List.length_nil, Nat.reduceAdd, Nat.reduceSub, List.replicate, List.cons_append, List.nil_append, List.append_nil, List.set_cons_zero, List.set_cons_succ, List.getElem?_cons_zero, List.getElem?_cons_succ, Option.some.injEq, V.int.injEq, V.bl.injEq, exists_eq_left', exists_eq_left, exists_and_left, tFor_eq, iRng1, iRng2, iRng3, iList, iEnum, iZip, iTup, tLst_eq, tTup_eq, rCat_eq, rCatS, rSum, rAppend_eq, rListOf, rSlL_eq, tSl, tNoPart, tPart, tLc_eq, tBM, rIxL, rIxT, min3_eq, rEq_int, rNe_int, min_if, max_if, and_assoc, V.ref.injEq, V.str.injEq, List.cons.injEq, and_true, true_and, ↓reduceIte, Bool.false_eq_true, Bool.not_true, Bool.not_false, Int.reduceToNat, Int.reducePow, Int.reduceAdd, Int.reduceSub, Int.reduceNeg, rNe_str, rEq_str, rEq_bl, tRaise1, tFmt, tJs, tCallS, WE, wKeep_eq, reduceCtorEq, false_and, and_false, exists_false, or_false, false_or, tIsN, tNotN, decide_true, decide_false, tDictN]
      refine ⟨EE.TooLong.em, newD_of fun a H1 na e1 h1 => ?_⟩
      refine ⟨sz_of (by decide), new_of fun p2 H2 n2 e2 h2 => ⟨_, _, _, .ref (cl 5), _, false, rfl, h2, .cons (.own _) (.cons (.own _) (.cons (.own _) (.cons (.own _) (.cons (.own _) (.cons (.own _) .nil))))), .exc (e2 _ _ h1) EE.TooLong.ec, EE.o0_TooLong, _, rfl, ifF rfl ?_⟩⟩
      refine ⟨sz_of (by decide), new_of fun p3 H3 n3 e3 h3 => ⟨_, _, _, .ref (cl 5), _, false, rfl, h3, .cons (.own _) (.cons (.own _) (.cons (.own _) (.cons (.own _) .nil))), .exc (e3 _ _ (e2 _ _ h1)) EE.TooLong.ec, EE.o1_TooLong, ?_⟩⟩
      have ty : TyY K H3 (.ref a) (.ref (cl 5)) := .exc (e3 _ _ (e2 _ _ h1)) EE.TooLong.ec
      refine isyC ty EE.k_TooLong_BadNumber (isyC ty EE.k_TooLong_TooLong ⟨sz_of (by simp), new_of fun p4 H4 n4 e4 h4 => ⟨_, rfl, ifF rfl ?_⟩⟩)
      have ty4 : TyY K H4 (.ref a) (.ref (cl 5)) := .exc (e4 _ _ (e3 _ _ (e2 _ _ h1))) EE.TooLong.ec
      refine isy ty4 EE.v_TooLong ⟨_, rfl, ifF rfl ⟨_, sq_of h4, _, rfl, _, sq_of h4, _, rfl, ?_⟩⟩
      simp only [tSeq, tIfS, tOr, tAnd, tNot, tB, tTest, tCB, tCall, tCons, tVar, tNil, tC, tRet, tRetN, tNext, tAsg, gName, tDrop, tOp, tUn, tAug, ipI, tPar, tIf, tAndV, tOrV, tNotV, tChain, tNever, rI0, rI, rU, L2.start, cxK, List.map_cons, List.map_nil, List.length_cons, List.length_nil, Nat.reduceAdd, Nat.reduceSub, List.replicate, List.cons_append, List.nil_append, List.append_nil, List.set_cons_zero, List.set_cons_succ, List.getElem?_cons_zero, List.getElem?_cons_succ, Option.some.injEq, V.int.injEq, V.bl.injEq, exists_eq_left', exists_eq_left, exists_and_left, tFor_eq, iRng1, iRng2, iRng3, iList, iEnum, iZip, iTup, tLst_eq, tTup_eq, rCat_eq, rCatS, rSum, rAppend_eq, rListOf, rSlL_eq, tSl, tNoPart, tPart, tLc_eq, tBM, rIxL, rIxT, min3_eq, rEq_int, rNe_int, min_if, max_if, and_assoc, V.ref.injEq, V.str.injEq, List.cons.injEq, and_true, true_and, ↓reduceIte, Bool.false_eq_true, Bool.not_true, Bool.not_false, Int.reduceToNat, Int.reducePow, Int.reduceAdd, Int.reduceSub, Int.reduceNeg, rNe_str, rEq_str, rEq_bl, tRaise1, tFmt, tJs, tCallS, WE, wKeep_eq, reduceCtorEq, false_and, and_false, exists_false, or_false, false_or, tIsN, tNotN, decide_true, decide_false, tDictN]
      refine ⟨_, sq_of h4, _, rfl, _, rfl, ?_⟩
      exact ifF rfl (q H4 (((e1.trans e2).trans e3).trans e4))
theorem known_mono {H H' : Hp} {x : V} (e : Ex H H') (h : Known K H x) : Known K H' x := by
  rcases h with h | h | ⟨s, h1, h2⟩
  · exact .inl h
  · exact .inr (.inl h)
  · exact .inr (.inr ⟨s, tyx_mono e h1, h2⟩)
/-- no whole number from 0 to m -/
structure Odd (K : PySem.W.Frag) (H : Hp) (m : Int) (v : V) : Prop where
  known : Known K H v
  no : ∀ l, 0 ≤ l → wholeV v l m = false
theorem odd_int {H : Hp} {m a : Int} (h : a < 0 ∨ m < a) : Odd K H m (.int a) := ⟨.inl ⟨a, rfl⟩, fun l hl => by
  show (decide (l ≤ a) && decide (a ≤ m)) = false
  rw [Bool.and_eq_false_iff]
  rcases h with h | h
  · exact .inl (decide_eq_false (by omega))
  · exact .inr (decide_eq_false (by omega))⟩
theorem odd_ty {H : Hp} {m : Int} {v : V} {s : String} (ht : TyX K H v (.type s)) (hk : kitB s "int" = some false) : Odd K H m v := ⟨.inr (.inr ⟨s, ht, hk⟩), fun l _ => whole_no ht hk⟩
def sp__law_odd (K : PySem.W.Frag) : Sp := fun vs H Q _ => ∃ (n m : Int), vs = [.int n, .int m] ∧ 0 ≤ n ∧ 1 ≤ m ∧ m ≤ 1000000000000 ∧ ∀ (v : V) H', Ex H H' → Odd K H' m v → Q v H'
theorem ok__law_odd (B : Bt mg cl) {f : Addr} {fd : FuncData} (F : Fun K "_law_odd" "_law_odd" s__law_odd f fd) : FnOk P w K mg base CX0 1 f fd ["_law_number", "_law_most"] (sp__law_odd K) := by
  refine F.ok sc__law_odd (fun vs H Q E h => ?_) (fun cdv A outer s H vs Q E hr h => ?_)
  · obtain ⟨n, m, rfl, _⟩ := h
    rfl
  · obtain ⟨n, m, rfl, hn, m1, m2, q⟩ := h
    refine ⟨_, (pss_cons (ps_set (i := 2) sc__law_odd.nd rfl (.inl rfl) (pe_op op_mod (pe_op op_fdivW (pv 0) pe_int) (pe_op op_pow pe_int pe_int)))
      (pss_cons (ps_set (i := 3) sc__law_odd.nd rfl (.inl rfl) (pe_lst (pa_cons pe_non (pa_cons pe_bl (pa_cons pe_bl (pa_cons (pe_un un_neg pe_int) (pa_cons (pe_op op_add (pv 1) pe_int) (pa_cons (pe_op op_add (pe_op op_add (pv 1) pe_int) (pv 2)) (pa_cons (pe_op op_sub (pe_un un_neg pe_int) (pv 2)) (pa_cons pe_str (pa_cons (pe_lst (pa_cons pe_int pa_nil)) (pa_cons (pe_tup (pa_cons pe_int pa_nil)) (pa_cons pe_dnewN (pa_cons (pe_op op_add (pe_op op_mul (pv 1) (pe_op op_pow pe_int pe_int)) pe_int) pa_nil))))))))))))))
      (pss_one (ps_ret (pe_ix (k_ixl (K := K) rfl) (pe_op (k_catS (K := K) rfl) (pv 3) (pe_lst (pa_cons pe_str (pa_cons pe_str (pa_cons (pe_lst pa_nil) (pa_cons (pe_tup pa_nil) pa_nil)))))) (pe_op op_mod (pv 0) pe_int) (fun _ _ => rfl)))))), ?_⟩
    refine cut_eq fun N1 hN1 => ?_
    simp only [tSeq, tIfS, tOr, tAnd, tNot, tB, tTest, tCB, tCall, tCons, tVar, tNil, tC, tRet, tRetN, tNext, tAsg, gName, tDrop, tOp, tUn, tAug, ipI, tPar, tIf, tAndV, tOrV, tNotV, tChain, tNever, rI0, rI, rU, L2.start, cxK, List.map_cons, List.map_nil, List.length_cons, List.length_nil, Nat.reduceAdd, Nat.reduceSub, List.replicate, List.cons_append, List.nil_append, List.append_nil, List.set_cons_zero, List.set_cons_succ, List.getElem?_cons_zero, List.getElem?_cons_succ, Option.some.injEq, V.int.injEq, V.bl.injEq, exists_eq_left', exists_eq_left, exists_and_left, tFor_eq, iRng1, iRng2, iRng3, iList, iEnum, iZip, iTup, tLst_eq, tTup_eq, rCat_eq, rCatS, rSum, rAppend_eq, rListOf, rSlL_eq, tSl, tNoPart, tPart, tLc_eq, tBM, rIxL, rIxT, min3_eq, rEq_int, rNe_int, min_if, max_if, and_assoc, V.ref.injEq, V.str.injEq, List.cons.injEq, and_true, true_and, ↓reduceIte, Bool.false_eq_true, Bool.not_true, Bool.not_false, Int.reduceToNat, Int.reducePow, Int.reduceAdd, Int.reduceSub, Int.reduceNeg, rNe_str, rEq_str, rEq_bl, tRaise1, tFmt, tJs, tCallS, WE, wKeep_eq, reduceCtorEq, false_and, and_false, exists_false, or_false, false_or, tIsN, tNotN, decide_true, decide_false, tDictN]
    refine ⟨cdw (by decide) (by decide), ⟨by decide, by decide, by decide⟩, by decide, ?_⟩
    rw [← hN1]
    have f0 : 0 ≤ n / 16 % 1000000000000 := Int.emod_nonneg _ (by decide)
    generalize n / 16 % 1000000000000 = far at *
    clear hN1
    refine cut_eq fun N2 hN2 => ?_
    simp only [tSeq, tIfS, tOr, tAnd, tNot, tB, tTest, tCB, tCall, tCons, tVar, tNil, tC, tRet, tRetN, tNext, tAsg, gName, tDrop, tOp, tUn, tAug, ipI, tPar, tIf, tAndV, tOrV, tNotV, tChain, tNever, rI0, rI, rU, L2.start, cxK, List.map_cons, List.map_nil, List.length_cons, List.length_nil, Nat.reduceAdd, Nat.reduceSub, List.replicate, List.cons_append, List.nil_append, List.append_nil, List.set_cons_zero, List.set_cons_succ, List.getElem?_cons_zero, List.getElem?_cons_succ, Option.some.injEq, V.int.injEq, V.bl.injEq, exists_eq_left', exists_eq_left, exists_and_left, tFor_eq, iRng1, iRng2, iRng3, iList, iEnum, iZip, iTup, tLst_eq, tTup_eq, rCat_eq, rCatS, rSum, rAppend_eq, rListOf, rSlL_eq, tSl, tNoPart, tPart, tLc_eq, tBM, rIxL, rIxT, min3_eq, rEq_int, rNe_int, min_if, max_if, and_assoc, V.ref.injEq, V.str.injEq, List.cons.injEq, and_true, true_and, ↓reduceIte, Bool.false_eq_true, Bool.not_true, Bool.not_false, Int.reduceToNat, Int.reducePow, Int.reduceAdd, Int.reduceSub, Int.reduceNeg, rNe_str, rEq_str, rEq_bl, tRaise1, tFmt, tJs, tCallS, WE, wKeep_eq, reduceCtorEq, false_and, and_false, exists_false, or_false, false_or, tIsN, tNotN, decide_true, decide_false, tDictN]
    refine ⟨sz_of (by decide), new_of fun p1 H1 n1 e1 h1 => ⟨sz_of (by decide), new_of fun p2 H2 n2 e2 h2 => new_of fun p3 H3 n3 e3 h3 => ?_⟩⟩
    refine ⟨⟨by decide, by decide, by decide⟩, .inl ⟨by omega, by omega⟩, sz_of (by decide), new_of fun p4 H4 n4 e4 h4 => ?_⟩
    rw [← hN2]
    clear hN2
    refine ret_eq fun N3 hN3 => ?_
    simp only [tSeq, tIfS, tOr, tAnd, tNot, tB, tTest, tCB, tCall, tCons, tVar, tNil, tC, tRet, tRetN, tNext, tAsg, gName, tDrop, tOp, tUn, tAug, ipI, tPar, tIf, tAndV, tOrV, tNotV, tChain, tNever, rI0, rI, rU, L2.start, cxK, List.map_cons, List.map_nil, List.length_cons, List.length_nil, Nat.reduceAdd, Nat.reduceSub, List.replicate, List.cons_append, List.nil_append, List.append_nil, List.set_cons_zero, List.set_cons_succ, List.getElem?_cons_zero, List.getElem?_cons_succ, Option.some.injEq, V.int.injEq, V.bl.injEq, exists_eq_left', exists_eq_left, exists_and_left, tFor_eq, iRng1, iRng2, iRng3, iList, iEnum, iZip, iTup, tLst_eq, tTup_eq, rCat_eq, rCatS, rSum, rAppend_eq, rListOf, rSlL_eq, tSl, tNoPart, tPart, tLc_eq, tBM, rIxL, rIxT, min3_eq, rEq_int, rNe_int, min_if, max_if, and_assoc, V.ref.injEq, V.str.injEq, List.cons.injEq, and_true, true_and, ↓reduceIte, Bool.false_eq_true, Bool.not_true, Bool.not_false, Int.reduceToNat, Int.reducePow, Int.reduceAdd, Int.reduceSub, Int.reduceNeg, rNe_str, rEq_str, rEq_bl, tRaise1, tFmt, tJs, tCallS, WE, wKeep_eq, reduceCtorEq, false_and, and_false, exists_false, or_false, false_or, tIsN, tNotN, decide_true, decide_false, tDictN]
    refine ⟨Nat.zero_le _, new_of fun p5 H5 n5 e5 h5 => ⟨Nat.zero_le _, new_of fun p6 H6 n6 e6 h6 => ⟨sz_of (by decide), new_of fun p7 H7 n7 e7 h7 => ?_⟩⟩⟩
    refine ⟨_, sq_of (e7 _ _ (e6 _ _ (e5 _ _ h4))), _, sq_of h7, sz_of (by simp), new_of fun p8 H8 n8 e8 h8 => ⟨by decide, _, sq_of h8, ?_⟩⟩
    rw [← hN3]
    obtain ⟨v, hv, ha⟩ := at_mem (xs := [V.non, V.bl true, V.bl false, V.int (-1), V.int (m + 1), V.int (m + 1 + far), V.int (-1 - far), V.str (Str.ofString "1"), V.ref p1, V.ref p2, V.ref p3, V.int (m * 100000000000000000000 + 1), V.str (Str.ofString ""), V.str (Str.ofString "one"), V.ref p5, V.ref p6]) (i := n % 16) (by omega) (by show n % 16 < 16; omega)
    refine ⟨v, ha, q v H8 ((((((((e1.trans e2).trans e3).trans e4).trans e5).trans e6).trans e7).trans e8)) ?_⟩
    have x8 : Ex H4 H8 := ((e5.trans e6).trans e7).trans e8
    simp only [List.mem_cons, List.not_mem_nil, or_false] at hv
    rcases hv with rfl | rfl | rfl | rfl | rfl | rfl | rfl | rfl | rfl | rfl | rfl | rfl | rfl | rfl | rfl | rfl
    · exact odd_ty (.base .non) (by decide +kernel)
    · exact ⟨.inr (.inl ⟨_, rfl⟩), fun _ _ => rfl⟩
    · exact ⟨.inr (.inl ⟨_, rfl⟩), fun _ _ => rfl⟩
    · exact odd_int (by omega)
    · exact odd_int (by omega)
    · exact odd_int (by omega)
    · exact odd_int (by omega)
    · exact odd_ty (.base (.str _)) (by decide +kernel)
    · exact odd_ty (.base (.lst (x8 _ _ (e4 _ _ (e3 _ _ (e2 _ _ h1)))))) (by decide +kernel)
    · exact odd_ty (.base (.tup (x8 _ _ (e4 _ _ (e3 _ _ h2))))) (by decide +kernel)
    · exact odd_ty (.base (.dK (x8 _ _ (e4 _ _ h3)))) (by decide +kernel)
    · exact odd_int (by omega)
    · exact odd_ty (.base (.str _)) (by decide +kernel)
    · exact odd_ty (.base (.str _)) (by decide +kernel)
    · exact odd_ty (.base (.lst (e8 _ _ (e7 _ _ (e6 _ _ h5))))) (by decide +kernel)
    · exact odd_ty (.base (.tup (e8 _ _ (e7 _ _ h6)))) (by decide +kernel)
end
end FW

set_option Elab.async false
set_option linter.all false
set_option maxRecDepth 100000
set_option maxHeartbeats 4000000
namespace FW
open PySem PySem.Spec PyProof.Rows L2 Evl
section
variable {P : Program} {w : World} {K : PySem.W.Frag} {mg : Str → Option Value} {base : Heap} {cl : Nat → Addr}
def sp__law_right : Sp := fun vs H Q _ => ∃ (n m : Int), vs = [.int n, .int m] ∧ 0 ≤ n ∧ 0 ≤ m ∧ RetV (.bl true) H Q
theorem ok__law_right (B : Bt mg cl) (F__law_rate : Fn P w K mg base "_law_rate" ["_law_number"] CX0 1 sp__law_rate) (F__law_reach : Fn P w K mg base "_law_reach" ["_law_many", "_law_pace", "_law_gain"] CX0 1 sp__law_reach) (F__law_said : Fn P w K mg base "_law_said" ["_law_distance", "_law_pace", "_law_gain"] CX0 5 (sp__law_said K)) (F__law_odd : Fn P w K mg base "_law_odd" ["_law_number", "_law_most"] CX0 1 (sp__law_odd K)) {f : Addr} {fd : FuncData} (F : Fun K "_law_right" "_law_right" s__law_right f fd) : FnOk P w K mg base CX0 6 f fd ["_law_number", "_law_more"] sp__law_right := by
  refine F.ok sc__law_right (fun vs H Q E h => ?_) (fun cdv A outer s H vs Q E hr h => ?_)
  · obtain ⟨n, m, rfl, _⟩ := h
    rfl
  · obtain ⟨n, m, rfl, hn, hm, q⟩ := h
    refine ⟨_, (pss_cons (ps_par (i := 2) (j := 3) (by rfl) sc__law_right.nd rfl rfl (by decide) rfl rfl (pa_cons (pe_fn F__law_rate (hr.mono (by decide)) (pa_cons (pv 0) pa_nil)) (pa_cons (pe_fn F__law_rate (hr.mono (by decide)) (pa_cons (pe_op op_fdivW (pv 0) (pe_op op_pow pe_int pe_int)) pa_nil)) pa_nil)) (by rfl))
      (pss_cons (ps_set (i := 4) sc__law_right.nd rfl (.inl rfl) (pe_fn F__law_reach (hr.mono (by decide)) (pa_cons pe_int (pa_cons (pv 2) (pa_cons (pv 3) pa_nil)))))
      (pss_cons (ps_set (i := 5) sc__law_right.nd rfl (.inl rfl) (pe_callB (call_min2 rfl) (by rfl) B.b_min (by decide +kernel) (pa_cons (pe_op op_pow pe_int pe_int) (pa_cons (pe_op op_add (pe_op op_add (pv 4) pe_int) (pe_ix (k_ixl (K := K) rfl) (pe_lst (pa_cons pe_int (pa_cons pe_int (pa_cons (pe_op op_mod (pv 1) (pe_op op_pow pe_int pe_int)) (pa_cons (pe_op op_mod (pv 1) (pe_op op_pow pe_int pe_int)) pa_nil))))) (pe_op op_mod (pe_op op_fdivW (pv 1) pe_int) pe_int) (fun _ _ => rfl))) pa_nil))))
      (pss_cons (ps_if (pt_cmpR op_ne (pe_fn F__law_said (hr.mono (by decide)) (pa_cons (pe_callB (call_min2 rfl) (by rfl) B.b_min (by decide +kernel) (pa_cons (pv 4) (pa_cons (pe_op op_pow pe_int pe_int) pa_nil))) (pa_cons (pv 2) (pa_cons (pv 3) pa_nil)))) pe_str (nomark _))
        (pss_one (ps_ret pe_bl))
        pss_nil)
      (pss_cons (ps_if (PW.pt (pw_and (pt_cmpR op_gt (pv 5) (pv 4) (nomark _)) (pw_and1 (pt_cmpR op_ne (pe_fn F__law_said (hr.mono (by decide)) (pa_cons (pv 5) (pa_cons (pv 2) (pa_cons (pv 3) pa_nil)))) pe_str (nomark _)))))
        (pss_one (ps_ret pe_bl))
        pss_nil)
      (pss_cons (ps_par (i := 6) (j := 7) (by rfl) sc__law_right.nd rfl rfl (by decide) rfl rfl (pa_cons (pe_fn F__law_odd (hr.mono (by decide)) (pa_cons (pe_op op_fdivW (pv 1) pe_int) (pa_cons (pe_op op_pow pe_int pe_int) pa_nil))) (pa_cons (pe_fn F__law_odd (hr.mono (by decide)) (pa_cons (pe_op op_fdivW (pv 1) pe_int) (pa_cons (pe_op op_pow pe_int pe_int) pa_nil))) pa_nil)) (by rfl))
      (pss_cons (ps_set (i := 8) sc__law_right.nd rfl (.inl rfl) (pe_lst (pa_cons (pe_tup (pa_cons (pv 7) (pa_cons (pv 2) (pa_cons (pv 3) pa_nil)))) (pa_cons (pe_tup (pa_cons (pv 5) (pa_cons (pv 6) (pa_cons (pv 3) pa_nil)))) (pa_cons (pe_tup (pa_cons (pv 5) (pa_cons (pv 2) (pa_cons (pv 6) pa_nil)))) (pa_cons (pe_tup (pa_cons (pv 7) (pa_cons (pv 6) (pa_cons (pv 6) pa_nil)))) (pa_cons (pe_tup (pa_cons pe_int (pa_cons pe_int (pa_cons (pv 3) pa_nil)))) (pa_cons (pe_tup (pa_cons pe_int (pa_cons (pv 2) (pa_cons pe_int pa_nil)))) pa_nil))))))))
      (pss_one (ps_ret (pe_cmpR (k_eqD (K := K) rfl hr.units) (pe_lc (own := [("_law_row", 9)]) (g := gName 9) (by rfl) sc__law_right.nd (k_pil (K := K) rfl (pv 8)) (blkOk_by (own := [("_law_row", 9)]) (N := ["_law_number", "_law_more", "_law_pace", "_law_gain", "_law_far", "_law_beyond", "_law_odd_here", "_law_none", "_law_some", "_law_row"]) (sc := defScope s__law_right) (by decide +kernel)) (fun _ _ _ _ _ => (pg_name (i := 9) sc__law_right.nd rfl (.inl rfl))) (fun _ _ _ _ _ => (pts_one (pt_cmpR op_ne (pe_fn F__law_said (hr.mono (by decide)) (pa_cons (pe_ix (k_ixt (K := K) rfl) (pv 9) pe_int (fun _ _ => rfl)) (pa_cons (pe_ix (k_ixt (K := K) rfl) (pv 9) pe_int (fun _ _ => rfl)) (pa_cons (pe_ix (k_ixt (K := K) rfl) (pv 9) pe_int (fun _ _ => rfl)) pa_nil)))) pe_str (nomark _)))) (fun _ _ _ _ _ => (pv 9))) (pe_lst pa_nil) (nomark _))))))))))), ?_⟩
    refine cut_eq fun N1 hN1 => ?_
    simp only [tSeq, tIfS, tOr, tAnd, tNot, tB, tTest, tCB, tCall, tCons, tVar, tNil, tC, tRet, tRetN, tNext, tAsg, gName, tDrop, tOp, tUn, tAug, ipI, tPar, tIf, tAndV, tOrV, tNotV, tChain, tNever, rI0, rI, rU, L2.start, cxK, List.map_cons, List.map_nil, List.length_cons, List.length_nil, Nat.reduceAdd, Nat.reduceSub, List.replicate, List.cons_append, List.nil_append, List.append_nil, List.set_cons_zero, List.set_cons_succ, List.getElem?_cons_zero, List.getElem?_cons_succ, Option.some.injEq, V.int.injEq, V.bl.injEq, exists_eq_left', exists_eq_left, exists_and_left, tFor_eq, iRng1, iRng2, iRng3, iList, iEnum, iZip, iTup, tLst_eq, tTup_eq, rCat_eq, rCatS, rSum, rAppend_eq, rListOf, rSlL_eq, tSl, tNoPart, tPart, tLc_eq, tBM, rIxL, rIxT, min3_eq, rEq_int, rNe_int, min_if, max_if, and_assoc, V.ref.injEq, V.str.injEq, List.cons.injEq, and_true, true_and, ↓reduceIte, Bool.false_eq_true, Bool.not_true, Bool.not_false, Int.reduceToNat, Int.reducePow, Int.reduceAdd, Int.reduceSub, Int.reduceNeg, rNe_str, rEq_str, rEq_bl, tRaise1, tFmt, tJs, tCallS, WE, wKeep_eq, reduceCtorEq, false_and, and_false, exists_false, or_false, false_or, tIsN, tNotN, decide_true, decide_false, tDictN]
    refine ⟨n, rfl, hn, fun p H1 hp e1 => ⟨⟨by decide, by decide, by decide⟩, cdw (by decide) (by decide), n / 100000000000, rfl, Int.ediv_nonneg hn (by decide), fun g H2 hg e2 => ?_⟩⟩
    have p1 := hp.1
    have p2 := hp.2
    have g1 := hg.1
    have g2 := hg.2
    show N1 [some (V.int n), some (V.int m), some (V.int p), some (V.int g), none, none, none, none, none, none] H2
    rw [← hN1]
    clear hN1
    refine cut_eq fun N1 hN1 => ?_
    simp only [tSeq, tIfS, tOr, tAnd, tNot, tB, tTest, tCB, tCall, tCons, tVar, tNil, tC, tRet, tRetN, tNext, tAsg, gName, tDrop, tOp, tUn, tAug, ipI, tPar, tIf, tAndV, tOrV, tNotV, tChain, tNever, rI0, rI, rU, L2.start, cxK, List.map_cons, List.map_nil, List.length_cons, List.length_nil, Nat.reduceAdd, Nat.reduceSub, List.replicate, List.cons_append, List.nil_append, List.append_nil, List.set_cons_zero, List.set_cons_succ, List.getElem?_cons_zero, List.getElem?_cons_succ, Option.some.injEq, V.int.injEq, V.bl.injEq, exists_eq_left', exists_eq_left, exists_and_left, tFor_eq, iRng1, iRng2, iRng3, iList, iEnum, iZip, iTup, tLst_eq, tTup_eq, rCat_eq, rCatS, rSum, rAppend_eq, rListOf, rSlL_eq, tSl, tNoPart, tPart, tLc_eq, tBM, rIxL, rIxT, min3_eq, rEq_int, rNe_int, min_if, max_if, and_assoc, V.ref.injEq, V.str.injEq, List.cons.injEq, and_true, true_and, ↓reduceIte, Bool.false_eq_true, Bool.not_true, Bool.not_false, Int.reduceToNat, Int.reducePow, Int.reduceAdd, Int.reduceSub, Int.reduceNeg, rNe_str, rEq_str, rEq_bl, tRaise1, tFmt, tJs, tCallS, WE, wKeep_eq, reduceCtorEq, false_and, and_false, exists_false, or_false, false_or, tIsN, tNotN, decide_true, decide_false, tDictN]
    refine ⟨200, p, g, rfl, by decide, g1, g2, fun H3 e3 => ?_⟩
    show N1 [some (V.int n), some (V.int m), some (V.int p), some (V.int g), some (V.int (U p g 0 200)), none, none, none, none, none] H3
    rw [← hN1]
    clear hN1
    have far := U_ge p1 g1 (Int.le_refl 0) 200
    generalize hU : U p g 0 200 = U2 at *
    refine cut_eq fun N1 hN1 => ?_
    simp only [tSeq, tIfS, tOr, tAnd, tNot, tB, tTest, tCB, tCall, tCons, tVar, tNil, tC, tRet, tRetN, tNext, tAsg, gName, tDrop, tOp, tUn, tAug, ipI, tPar, tIf, tAndV, tOrV, tNotV, tChain, tNever, rI0, rI, rU, L2.start, cxK, List.map_cons, List.map_nil, List.length_cons, List.length_nil, Nat.reduceAdd, Nat.reduceSub, List.replicate, List.cons_append, List.nil_append, List.append_nil, List.set_cons_zero, List.set_cons_succ, List.getElem?_cons_zero, List.getElem?_cons_succ, Option.some.injEq, V.int.injEq, V.bl.injEq, exists_eq_left', exists_eq_left, exists_and_left, tFor_eq, iRng1, iRng2, iRng3, iList, iEnum, iZip, iTup, tLst_eq, tTup_eq, rCat_eq, rCatS, rSum, rAppend_eq, rListOf, rSlL_eq, tSl, tNoPart, tPart, tLc_eq, tBM, rIxL, rIxT, min3_eq, rEq_int, rNe_int, min_if, max_if, and_assoc, V.ref.injEq, V.str.injEq, List.cons.injEq, and_true, true_and, ↓reduceIte, Bool.false_eq_true, Bool.not_true, Bool.not_false, Int.reduceToNat, Int.reducePow, Int.reduceAdd, Int.reduceSub, Int.reduceNeg, rNe_str, rEq_str, rEq_bl, tRaise1, tFmt, tJs, tCallS, WE, wKeep_eq, reduceCtorEq, false_and, and_false, exists_false, or_false, false_or, tIsN, tNotN, decide_true, decide_false, tDictN]
    have a6 : 0 ≤ m % 1000000 := Int.emod_nonneg _ (by decide)
    have a12 : 0 ≤ m % 1000000000000 := Int.emod_nonneg _ (by decide)
    refine ⟨⟨by decide, by decide, by decide⟩, ⟨by decide, by decide, by decide⟩, by decide, ⟨by decide, by decide, by decide⟩, by decide, sz_of (by decide), new_of fun l4 H4 n4 e4 h4 => ⟨cdw (by decide) (by decide), by decide, _, sq_of h4, ?_⟩⟩
    obtain ⟨v, hv, ha⟩ := at_mem (xs := [V.int 0, V.int 1, V.int (m % 1000000), V.int (m % 1000000000000)]) (i := m / 7 % 4) (by omega) (by show m / 7 % 4 < 4; omega)
    have hr : ∃ r, v = .int r ∧ 0 ≤ r := by
      simp only [List.mem_cons, List.not_mem_nil, or_false] at hv
      rcases hv with rfl | rfl | rfl | rfl <;> exact ⟨_, rfl, by omega⟩
    obtain ⟨r, rfl, hr⟩ := hr
    refine ⟨_, ha, _, rfl, ?_⟩
    rw [← hN1]
    clear hN1
    obtain ⟨b, hb⟩ : ∃ b, b = min 1000000000000 (U2 + 1 + r) := ⟨_, rfl⟩
    rw [← hb]
    have x4 : Ex H H4 := ((e1.trans e2).trans e3).trans e4
    -- at the reach: told
    refine cut_eq fun N1 hN1 => ?_
    simp only [tSeq, tIfS, tOr, tAnd, tNot, tB, tTest, tCB, tCall, tCons, tVar, tNil, tC, tRet, tRetN, tNext, tAsg, gName, tDrop, tOp, tUn, tAug, ipI, tPar, tIf, tAndV, tOrV, tNotV, tChain, tNever, rI0, rI, rU, L2.start, cxK, List.map_cons, List.map_nil, List.length_cons, List.length_nil, Nat.reduceAdd, Nat.reduceSub, List.replicate, List.cons_append, List.nil_append, List.append_nil, List.set_cons_zero, List.set_cons_succ, List.getElem?_cons_zero, List.getElem?_cons_succ, Option.some.injEq, V.int.injEq, V.bl.injEq, exists_eq_left', exists_eq_left, exists_and_left, tFor_eq, iRng1, iRng2, iRng3, iList, iEnum, iZip, iTup, tLst_eq, tTup_eq, rCat_eq, rCatS, rSum, rAppend_eq, rListOf, rSlL_eq, tSl, tNoPart, tPart, tLc_eq, tBM, rIxL, rIxT, min3_eq, rEq_int, rNe_int, min_if, max_if, and_assoc, V.ref.injEq, V.str.injEq, List.cons.injEq, and_true, true_and, ↓reduceIte, Bool.false_eq_true, Bool.not_true, Bool.not_false, Int.reduceToNat, Int.reducePow, Int.reduceAdd, Int.reduceSub, Int.reduceNeg, rNe_str, rEq_str, rEq_bl, tRaise1, tFmt, tJs, tCallS, WE, wKeep_eq, reduceCtorEq, false_and, and_false, exists_false, or_false, false_or, tIsN, tNotN, decide_true, decide_false, tDictN]
    obtain ⟨k, few⟩ := few_of (d := min U2 1000000000000) hp hg (by omega) 200 (Nat.le_refl _) (by omega)
    refine ⟨⟨by decide, by decide, by decide⟩, _, _, _, _, rfl, .inl ⟨_, rfl⟩, .inl ⟨_, rfl⟩, .inl ⟨_, rfl⟩, .told rfl rfl rfl few (by omega), fun H5 e5 => ?_⟩
    show rNe _ _ _ _
    rw [rNe_str]
    refine ⟨_, rfl, ifF (by simp) ?_⟩
    rw [← hN1]
    clear hN1
    -- beyond it: long
    refine cut_eq fun N1 hN1 => ?_
    have nxt : ∀ H6, Ex H5 H6 → N1 [some (V.int n), some (V.int m), some (V.int p), some (V.int g), some (V.int U2), some (V.int b), none, none, none, none] H6 := by
      intro H6 e6
      rw [← hN1]
      clear hN1
      have x6 : Ex H H6 := (x4.trans e5).trans e6
      refine cut_eq fun N1 hN1 => ?_
      simp only [tSeq, tIfS, tOr, tAnd, tNot, tB, tTest, tCB, tCall, tCons, tVar, tNil, tC, tRet, tRetN, tNext, tAsg, gName, tDrop, tOp, tUn, tAug, ipI, tPar, tIf, tAndV, tOrV, tNotV, tChain, tNever, rI0, rI, rU, L2.start, cxK, List.map_cons, List.map_nil, List.length_cons, List.length_nil, Nat.reduceAdd, Nat.reduceSub, List.replicate, List.cons_append, List.nil_append, List.append_nil, List.set_cons_zero, List.set_cons_succ, List.getElem?_cons_zero, List.getElem?_cons_succ, Option.some.injEq, V.int.injEq, V.bl.injEq, exists_eq_left', exists_eq_left, exists_and_left, tFor_eq, iRng1, iRng2, iRng3, iList, iEnum, iZip, iTup, tLst_eq, tTup_eq, rCat_eq, rCatS, rSum, rAppend_eq, rListOf, rSlL_eq, tSl, tNoPart, tPart, tLc_eq, tBM, rIxL, rIxT, min3_eq, rEq_int, rNe_int, min_if, max_if, and_assoc, V.ref.injEq, V.str.injEq, List.cons.injEq, and_true, true_and, ↓reduceIte, Bool.false_eq_true, Bool.not_true, Bool.not_false, Int.reduceToNat, Int.reducePow, Int.reduceAdd, Int.reduceSub, Int.reduceNeg, rNe_str, rEq_str, rEq_bl, tRaise1, tFmt, tJs, tCallS, WE, wKeep_eq, reduceCtorEq, false_and, and_false, exists_false, or_false, false_or, tIsN, tNotN, decide_true, decide_false, tDictN]
      have m0 : 0 ≤ m / 100 := Int.ediv_nonneg hm (by decide)
      refine ⟨cdw (by decide) (by decide), ⟨by decide, by decide, by decide⟩, m / 100, 1000000000, rfl, m0, by decide, by decide, fun odd1 H7 e7 o1 => ?_⟩
      refine ⟨cdw (by decide) (by decide), ⟨by decide, by decide, by decide⟩, m / 100, 1000000000000, rfl, m0, by decide, by decide, fun odd2 H8 e8 o2 => ?_⟩
      show N1 [some (V.int n), some (V.int m), some (V.int p), some (V.int g), some (V.int U2), some (V.int b), some odd1, some odd2, none, none] H8
      rw [← hN1]
      clear hN1
      have x8 : Ex H H8 := (x6.trans e7).trans e8
      have o1k := known_mono e8 o1.known
      have o1n : wholeV odd1 1 1000000000 = false := o1.no 1 (by decide)
      have o2n : wholeV odd2 0 1000000000000 = false := o2.no 0 (by decide)
      have o2k := o2.known
      clear o1 o2
      refine cut_eq fun N1 hN1 => ?_
      simp only [tSeq, tIfS, tOr, tAnd, tNot, tB, tTest, tCB, tCall, tCons, tVar, tNil, tC, tRet, tRetN, tNext, tAsg, gName, tDrop, tOp, tUn, tAug, ipI, tPar, tIf, tAndV, tOrV, tNotV, tChain, tNever, rI0, rI, rU, L2.start, cxK, List.map_cons, List.map_nil, List.length_cons, List.length_nil, Nat.reduceAdd, Nat.reduceSub, List.replicate, List.cons_append, List.nil_append, List.append_nil, List.set_cons_zero, List.set_cons_succ, List.getElem?_cons_zero, List.getElem?_cons_succ, Option.some.injEq, V.int.injEq, V.bl.injEq, exists_eq_left', exists_eq_left, exists_and_left, tFor_eq, iRng1, iRng2, iRng3, iList, iEnum, iZip, iTup, tLst_eq, tTup_eq, rCat_eq, rCatS, rSum, rAppend_eq, rListOf, rSlL_eq, tSl, tNoPart, tPart, tLc_eq, tBM, rIxL, rIxT, min3_eq, rEq_int, rNe_int, min_if, max_if, and_assoc, V.ref.injEq, V.str.injEq, List.cons.injEq, and_true, true_and, ↓reduceIte, Bool.false_eq_true, Bool.not_true, Bool.not_false, Int.reduceToNat, Int.reducePow, Int.reduceAdd, Int.reduceSub, Int.reduceNeg, rNe_str, rEq_str, rEq_bl, tRaise1, tFmt, tJs, tCallS, WE, wKeep_eq, reduceCtorEq, false_and, and_false, exists_false, or_false, false_or, tIsN, tNotN, decide_true, decide_false, tDictN]
      refine ⟨sz_of (by simp), new_of fun t1 K1 _ f1 w1 => ⟨sz_of (by simp), new_of fun t2 K2 _ f2 w2 => ⟨sz_of (by simp), new_of fun t3 K3 _ f3 w3 => ⟨sz_of (by simp), new_of fun t4 K4 _ f4 w4 => ⟨sz_of (by simp), new_of fun t5 K5 _ f5 w5 => ⟨sz_of (by simp), new_of fun t6 K6 _ f6 w6 => ⟨sz_of (by simp), new_of fun l7 K7 _ f7 w7 => ?_⟩⟩⟩⟩⟩⟩⟩
      rw [← hN1]
      clear hN1
      have y7 : Ex H8 K7 := (((((f1.trans f2).trans f3).trans f4).trans f5).trans f6).trans f7
      have rows : ∀ x ∈ [V.ref t1, V.ref t2, V.ref t3, V.ref t4, V.ref t5, V.ref t6], ∃ (t : Addr) (a c d : V), x = .ref t ∧ K7 t = some (.tup [a, c, d]) ∧ Known K H8 a ∧ Known K H8 c ∧ Known K H8 d ∧ Comes a c d "number" := by
        intro x hx
        simp only [List.mem_cons, List.not_mem_nil, or_false] at hx
        have ki : ∀ z : Int, Known K H8 (.int z) := fun z => .inl ⟨z, rfl⟩
        rcases hx with rfl | rfl | rfl | rfl | rfl | rfl
        · exact ⟨t1, _, _, _, rfl, f7 _ _ (f6 _ _ (f5 _ _ (f4 _ _ (f3 _ _ (f2 _ _ w1))))), o2k, ki p, ki g, .number (by rw [o2n]; rfl)⟩
        · exact ⟨t2, _, _, _, rfl, f7 _ _ (f6 _ _ (f5 _ _ (f4 _ _ (f3 _ _ w2)))), ki b, o1k, ki g, .number (by rw [o1n]; simp)⟩
        · exact ⟨t3, _, _, _, rfl, f7 _ _ (f6 _ _ (f5 _ _ (f4 _ _ w3))), ki b, ki p, o1k, .number (by rw [o1n]; simp)⟩
        · exact ⟨t4, _, _, _, rfl, f7 _ _ (f6 _ _ (f5 _ _ w4)), o2k, o1k, o1k, .number (by rw [o2n]; rfl)⟩
        · exact ⟨t5, _, _, _, rfl, f7 _ _ (f6 _ _ w5), ki 5, ki 0, ki g, .number (by simp [wholeV])⟩
        · exact ⟨t6, _, _, _, rfl, f7 _ _ w6, ki 5, ki p, ki 0, .number (by simp [wholeV])⟩
      generalize [V.ref t1, V.ref t2, V.ref t3, V.ref t4, V.ref t5, V.ref t6] = xs at *
      simp only [tSeq, tIfS, tOr, tAnd, tNot, tB, tTest, tCB, tCall, tCons, tVar, tNil, tC, tRet, tRetN, tNext, tAsg, gName, tDrop, tOp, tUn, tAug, ipI, tPar, tIf, tAndV, tOrV, tNotV, tChain, tNever, rI0, rI, rU, L2.start, cxK, List.map_cons, List.map_nil, List.length_cons, List.length_nil, Nat.reduceAdd, Nat.reduceSub, List.replicate, List.cons_append, List.nil_append, List.append_nil, List.set_cons_zero, List.set_cons_succ, List.getElem?_cons_zero, List.getElem?_cons_succ, Option.some.injEq, V.int.injEq, V.bl.injEq, exists_eq_left', exists_eq_left, exists_and_left, tFor_eq, iRng1, iRng2, iRng3, iList, iEnum, iZip, iTup, tLst_eq, tTup_eq, rCat_eq, rCatS, rSum, rAppend_eq, rListOf, rSlL_eq, tSl, tNoPart, tPart, tLc_eq, tBM, rIxL, rIxT, min3_eq, rEq_int, rNe_int, min_if, max_if, and_assoc, V.ref.injEq, V.str.injEq, List.cons.injEq, and_true, true_and, ↓reduceIte, Bool.false_eq_true, Bool.not_true, Bool.not_false, Int.reduceToNat, Int.reducePow, Int.reduceAdd, Int.reduceSub, Int.reduceNeg, rNe_str, rEq_str, rEq_bl, tRaise1, tFmt, tJs, tCallS, WE, wKeep_eq, reduceCtorEq, false_and, and_false, exists_false, or_false, false_or, tIsN, tNotN, decide_true, decide_false, tDictN]
      refine ⟨⟨_, sq_of w7⟩, fun Dl hD => lc_gives (walk_list (xs := xs)) (fun _ => none) hD (fun H' e => sq_of (e _ _ w7)) ?_ ?_⟩
      · rintro i x H0 H' hi e0 h0 ⟨rfl, hx⟩
        obtain ⟨t, a, c, d, rfl, ht, ka, kc, kd, co⟩ := rows x (List.mem_of_getElem? hx)
        have y0 := y7.trans e0
        simp only [tSeq, tIfS, tOr, tAnd, tNot, tB, tTest, tCB, tCall, tCons, tVar, tNil, tC, tRet, tRetN, tNext, tAsg, gName, tDrop, tOp, tUn, tAug, ipI, tPar, tIf, tAndV, tOrV, tNotV, tChain, tNever, rI0, rI, rU, L2.start, cxK, List.map_cons, List.map_nil, List.length_cons, List.length_nil, Nat.reduceAdd, Nat.reduceSub, List.replicate, List.cons_append, List.nil_append, List.append_nil, List.set_cons_zero, List.set_cons_succ, List.getElem?_cons_zero, List.getElem?_cons_succ, Option.some.injEq, V.int.injEq, V.bl.injEq, exists_eq_left', exists_eq_left, exists_and_left, tFor_eq, iRng1, iRng2, iRng3, iList, iEnum, iZip, iTup, tLst_eq, tTup_eq, rCat_eq, rCatS, rSum, rAppend_eq, rListOf, rSlL_eq, tSl, tNoPart, tPart, tLc_eq, tBM, rIxL, rIxT, min3_eq, rEq_int, rNe_int, min_if, max_if, and_assoc, V.ref.injEq, V.str.injEq, List.cons.injEq, and_true, true_and, ↓reduceIte, Bool.false_eq_true, Bool.not_true, Bool.not_false, Int.reduceToNat, Int.reducePow, Int.reduceAdd, Int.reduceSub, Int.reduceNeg, rNe_str, rEq_str, rEq_bl, tRaise1, tFmt, tJs, tCallS, WE, wKeep_eq, reduceCtorEq, false_and, and_false, exists_false, or_false, false_or, tIsN, tNotN, decide_true, decide_false, tDictN, wipe]
        refine ⟨_, st_of (e0 _ _ ht), _, rfl, _, st_of (e0 _ _ ht), _, rfl, _, st_of (e0 _ _ ht), _, rfl, _, _, _, _, rfl, known_mono y0 ka, known_mono y0 kc, known_mono y0 kd, co, fun H1 e1 => ?_⟩
        show rNe _ _ _ _
        rw [rNe_str]
        exact ⟨_, rfl, ifF (by simp) (skip_of (e0.trans e1) (e1 _ _ h0) rfl)⟩
      · intro H9 e9 h9
        rw [gives_nil _ (fun _ _ => rfl)] at h9
        refine ⟨Nat.zero_le _, new_of fun l10 H10 n10 e10 h10 => eqD_ints (xs := []) (ys := []) (sq_of (e10 _ _ h9)) (sq_of h10) ?_⟩
        exact q H10 (((x8.trans y7).trans e9).trans e10)
    simp only [tSeq, tIfS, tOr, tAnd, tNot, tB, tTest, tCB, tCall, tCons, tVar, tNil, tC, tRet, tRetN, tNext, tAsg, gName, tDrop, tOp, tUn, tAug, ipI, tPar, tIf, tAndV, tOrV, tNotV, tChain, tNever, rI0, rI, rU, L2.start, cxK, List.map_cons, List.map_nil, List.length_cons, List.length_nil, Nat.reduceAdd, Nat.reduceSub, List.replicate, List.cons_append, List.nil_append, List.append_nil, List.set_cons_zero, List.set_cons_succ, List.getElem?_cons_zero, List.getElem?_cons_succ, Option.some.injEq, V.int.injEq, V.bl.injEq, exists_eq_left', exists_eq_left, exists_and_left, tFor_eq, iRng1, iRng2, iRng3, iList, iEnum, iZip, iTup, tLst_eq, tTup_eq, rCat_eq, rCatS, rSum, rAppend_eq, rListOf, rSlL_eq, tSl, tNoPart, tPart, tLc_eq, tBM, rIxL, rIxT, min3_eq, rEq_int, rNe_int, min_if, max_if, and_assoc, V.ref.injEq, V.str.injEq, List.cons.injEq, and_true, true_and, ↓reduceIte, Bool.false_eq_true, Bool.not_true, Bool.not_false, Int.reduceToNat, Int.reducePow, Int.reduceAdd, Int.reduceSub, Int.reduceNeg, rNe_str, rEq_str, rEq_bl, tRaise1, tFmt, tJs, tCallS, WE, wKeep_eq, reduceCtorEq, false_and, and_false, exists_false, or_false, false_or, tIsN, tNotN, decide_true, decide_false, tDictN]
    by_cases hc : U2 < b
    · refine ifT (decide_eq_true hc) ⟨_, _, _, _, rfl, .inl ⟨_, rfl⟩, .inl ⟨_, rfl⟩, .inl ⟨_, rfl⟩, .long rfl rfl rfl (by omega) (by omega) hp hg (by omega), fun H6 e6 => ?_⟩
      show rNe _ _ _ _
      rw [rNe_str]
      exact ⟨_, rfl, ifF (by simp) (nxt H6 e6)⟩
    · exact ifF (decide_eq_false hc) (nxt H5 (Ex.refl _))
def spLaw (K : PySem.W.Frag) : Sp := fun vs H Q _ => ∃ (a : Addr) (ns : List Int), vs = [.ref a] ∧ SqL K H a (ns.map V.int) ∧ ns.length ≤ 63 ∧ ∀ H', Q (.bl true) H'
theorem ok_law (B : Bt mg cl) (F__law_wide : Fn P w K mg base "_law_wide" ["_law_cell", "_law_k"] CX0 1 sp__law_wide) (F__law_right : Fn P w K mg base "_law_right" ["_law_number", "_law_more"] CX0 6 sp__law_right) {f : Addr} {fd : FuncData} (F : Fun K "law" "law" s_law f fd) : FnOk P w K mg base CX0 7 f fd ["_law_script"] (spLaw K) := by
  refine F.ok sc_law (fun vs H Q E h => ?_) (fun cdv A outer s H vs Q E hr h => ?_)
  · obtain ⟨a, ns, rfl, _⟩ := h
    rfl
  · obtain ⟨a, ns, rfl, hS, hlen, q⟩ := h
    refine ⟨_, (pss_cons (ps_for PassesOwn.never rfl (pi_enum (by rfl) B.b_enumerate (pa_cons (pe_op (k_catS (K := K) rfl) (pv 0) (pe_lst (pa_cons pe_int pa_nil))) pa_nil)) (k_pgt (K := K) rfl rfl (pgs_cons (pg_name (i := 1) sc_law.nd rfl (.inl rfl)) (pgs_cons (pg_name (i := 2) sc_law.nd rfl (.inl rfl)) pgs_nil)))
        (pss_one (ps_if (pt_not (pt_val (pe_fn F__law_right (hr.mono (by decide)) (pa_cons (pe_fn F__law_wide (hr.mono (by decide)) (pa_cons (pv 2) (pa_cons (pv 1) pa_nil))) (pa_cons (pe_fn F__law_wide (hr.mono (by decide)) (pa_cons (pv 2) (pa_cons (pe_op op_add (pv 1) pe_int) pa_nil))) pa_nil)))))
        (pss_one (ps_ret pe_bl))
        pss_nil)))
      (pss_one (ps_ret pe_bl))), ?_⟩
    simp only [tSeq, tIfS, tOr, tAnd, tNot, tB, tTest, tCB, tCall, tCons, tVar, tNil, tC, tRet, tRetN, tNext, tAsg, gName, tDrop, tOp, tUn, tAug, ipI, tPar, tIf, tAndV, tOrV, tNotV, tChain, tNever, rI0, rI, rU, L2.start, cxK, List.map_cons, List.map_nil, List.length_cons, List.length_nil, Nat.reduceAdd, Nat.reduceSub, List.replicate, List.cons_append, List.nil_append, List.append_nil, List.set_cons_zero, List.set_cons_succ, List.getElem?_cons_zero, List.getElem?_cons_succ, Option.some.injEq, V.int.injEq, V.bl.injEq, exists_eq_left', exists_eq_left, exists_and_left, tFor_eq, iRng1, iRng2, iRng3, iList, iEnum, iZip, iTup, tLst_eq, tTup_eq, rCat_eq, rCatS, rSum, rAppend_eq, rListOf, rSlL_eq, tSl, tNoPart, tPart, tLc_eq, tBM, rIxL, rIxT, min3_eq, rEq_int, rNe_int, min_if, max_if, and_assoc, V.ref.injEq, V.str.injEq, List.cons.injEq, and_true, true_and, ↓reduceIte, Bool.false_eq_true, Bool.not_true, Bool.not_false, Int.reduceToNat, Int.reducePow, Int.reduceAdd, Int.reduceSub, Int.reduceNeg, rNe_str, rEq_str, rEq_bl, tRaise1, tFmt, tJs, tCallS, WE, wKeep_eq, reduceCtorEq, false_and, and_false, exists_false, or_false, false_or, tIsN, tNotN, decide_true, decide_false, tDictN]
    refine ⟨sz_of (by decide), new_of fun l1 H1 n1 e1 h1 => ⟨_, ex_l e1 hS, _, sq_of h1, ?_, new_of fun l2 H2 n2 e2 h2 => ?_⟩⟩
    · exact sz_of (by simp only [List.length_map, List.length_cons, List.length_nil]; omega)
    have z2 : (ns.map V.int ++ [V.int 0]) = (ns ++ [0]).map V.int := by
      rw [List.map_append]
      rfl
    rw [z2] at h2
    obtain ⟨Pv, hPv⟩ : ∃ Pv : Nat → L2.St → Hp → Prop, ∀ i σ H', Pv i σ H' ↔ Ex H2 H' ∧ ∃ (y1 y2 : Option V), σ = [some (.ref a), y1, y2] := ⟨_, fun _ _ _ => Iff.rfl⟩
    refine ⟨_, sq_of h2, loop_enum (xs := (ns ++ [0]).map V.int) Pv ((hPv _ _ _).mpr ⟨Ex.refl _, none, none, rfl⟩) (fun i σ H' hp => sq_of (((hPv _ _ _).mp hp).1 _ _ h2)) ?_ ?_⟩
    · intro i x σ H0 T H' hx hp nT e hT
      obtain ⟨e0, y1, y2, rfl⟩ := (hPv _ _ _).mp hp
      obtain ⟨z, hz, rfl⟩ := get_int hx
      have hi : i ≤ 63 := by
        have := (List.getElem?_eq_some_iff.mp hz).1
        rw [List.length_append] at this
        simp only [List.length_cons, List.length_nil] at this
        omega
      have x3 : Ex H2 H' := e0.trans e
      refine ⟨T, _, rfl, st_of hT, rfl, ?_⟩
      simp only [tSeq, tIfS, tOr, tAnd, tNot, tB, tTest, tCB, tCall, tCons, tVar, tNil, tC, tRet, tRetN, tNext, tAsg, gName, tDrop, tOp, tUn, tAug, ipI, tPar, tIf, tAndV, tOrV, tNotV, tChain, tNever, rI0, rI, rU, L2.start, cxK, List.map_cons, List.map_nil, List.length_cons, List.length_nil, Nat.reduceAdd, Nat.reduceSub, List.replicate, List.cons_append, List.nil_append, List.append_nil, List.set_cons_zero, List.set_cons_succ, List.getElem?_cons_zero, List.getElem?_cons_succ, Option.some.injEq, V.int.injEq, V.bl.injEq, exists_eq_left', exists_eq_left, exists_and_left, tFor_eq, iRng1, iRng2, iRng3, iList, iEnum, iZip, iTup, tLst_eq, tTup_eq, rCat_eq, rCatS, rSum, rAppend_eq, rListOf, rSlL_eq, tSl, tNoPart, tPart, tLc_eq, tBM, rIxL, rIxT, min3_eq, rEq_int, rNe_int, min_if, max_if, and_assoc, V.ref.injEq, V.str.injEq, List.cons.injEq, and_true, true_and, ↓reduceIte, Bool.false_eq_true, Bool.not_true, Bool.not_false, Int.reduceToNat, Int.reducePow, Int.reduceAdd, Int.reduceSub, Int.reduceNeg, rNe_str, rEq_str, rEq_bl, tRaise1, tFmt, tJs, tCallS, WE, wKeep_eq, reduceCtorEq, false_and, and_false, exists_false, or_false, false_or, tIsN, tNotN, decide_true, decide_false, tDictN, gCons, gNil]
      refine ⟨z, i, rfl, by omega, fun n hn => ⟨z, i + 1000, by rw [show ((i + 1000 : Nat) : Int) = (i : Int) + 1000 by omega], by omega, fun m hm => ⟨n, m, rfl, hn, hm, fun H4 e4 => ⟨_, rfl, ifF rfl ((hPv _ _ _).mpr ⟨x3.trans e4, _, _, rfl⟩)⟩⟩⟩⟩
    · intro σ H' hp
      obtain ⟨e0, y1, y2, rfl⟩ := (hPv _ _ _).mp hp
      simp only [tSeq, tIfS, tOr, tAnd, tNot, tB, tTest, tCB, tCall, tCons, tVar, tNil, tC, tRet, tRetN, tNext, tAsg, gName, tDrop, tOp, tUn, tAug, ipI, tPar, tIf, tAndV, tOrV, tNotV, tChain, tNever, rI0, rI, rU, L2.start, cxK, List.map_cons, List.map_nil, List.length_cons, List.length_nil, Nat.reduceAdd, Nat.reduceSub, List.replicate, List.cons_append, List.nil_append, List.append_nil, List.set_cons_zero, List.set_cons_succ, List.getElem?_cons_zero, List.getElem?_cons_succ, Option.some.injEq, V.int.injEq, V.bl.injEq, exists_eq_left', exists_eq_left, exists_and_left, tFor_eq, iRng1, iRng2, iRng3, iList, iEnum, iZip, iTup, tLst_eq, tTup_eq, rCat_eq, rCatS, rSum, rAppend_eq, rListOf, rSlL_eq, tSl, tNoPart, tPart, tLc_eq, tBM, rIxL, rIxT, min3_eq, rEq_int, rNe_int, min_if, max_if, and_assoc, V.ref.injEq, V.str.injEq, List.cons.injEq, and_true, true_and, ↓reduceIte, Bool.false_eq_true, Bool.not_true, Bool.not_false, Int.reduceToNat, Int.reducePow, Int.reduceAdd, Int.reduceSub, Int.reduceNeg, rNe_str, rEq_str, rEq_bl, tRaise1, tFmt, tJs, tCallS, WE, wKeep_eq, reduceCtorEq, false_and, and_false, exists_false, or_false, false_or, tIsN, tNotN, decide_true, decide_false, tDictN]
      exact q H'
end
end FW

set_option Elab.async false
set_option linter.all false
set_option maxRecDepth 100000
set_option maxHeartbeats 4000000
namespace FW
open PySem PySem.Spec PyProof.Rows L2 Evl
theorem all_mk {P : Program} {w : World} {K : PySem.W.Frag} {h : Heap} {mg : Str → Option Value} {fa f18 f22 f24 f26 f27 f28 f30 f19 f23 f20 f21 f29 f31 f32 : Addr} (X : K.In h) (G : h.Ns mainGlobals mg) (hfa : mg "law" = some (.ref fa))
    {od18 an18 od22 an22 od24 an24 od26 an26 od27 an27 od28 an28 od30 an30 od19 an19 od23 an23 od20 an20 od21 an21 od29 an29 od31 an31 od32 an32 : Option Addr} {sl18 sl22 sl24 sl26 sl27 sl28 sl30 sl19 sl23 sl20 sl21 sl29 sl31 sl32 : Array (Option Value)} {oc18 kV18 dc18 pm18 cd18 ct18 oc22 kV22 dc22 pm22 cd22 ct22 oc24 kV24 dc24 pm24 cd24 ct24 oc26 kV26 dc26 pm26 cd26 ct26 oc27 kV27 dc27 pm27 cd27 ct27 oc28 kV28 dc28 pm28 cd28 ct28 oc30 kV30 dc30 pm30 cd30 ct30 oc19 kV19 dc19 pm19 cd19 ct19 oc23 kV23 dc23 pm23 cd23 ct23 oc20 kV20 dc20 pm20 cd20 ct20 oc21 kV21 dc21 pm21 cd21 ct21 oc29 kV29 dc29 pm29 cd29 ct29 oc31 kV31 dc31 pm31 cd31 ct31 oc32 kV32 dc32 pm32 cd32 ct32 : Value}
    (a18 : PySem.W.nsIn K mainGlobals "is_whole" = some (some (.ref f18))) (l18 : K.lookup f18 = some ⟨oc18, od18, .func (PySem.W.fnOf "is_whole" "is_whole" (defArgs s_is_whole) (defBody s_is_whole) (defScope s_is_whole) .none kV18 dc18 pm18 an18 cd18 ct18), sl18⟩) (c18 : PySem.W.codeIn K cd18 "is_whole" = true) (k18 : PySem.W.keepIn K (.ref f18) = true)
    (a22 : PySem.W.nsIn K mainGlobals "added_reach" = some (some (.ref f22))) (l22 : K.lookup f22 = some ⟨oc22, od22, .func (PySem.W.fnOf "added_reach" "added_reach" (defArgs s_added_reach) (defBody s_added_reach) (defScope s_added_reach) .none kV22 dc22 pm22 an22 cd22 ct22), sl22⟩) (c22 : PySem.W.codeIn K cd22 "added_reach" = true) (k22 : PySem.W.keepIn K (.ref f22) = true)
    (a24 : PySem.W.nsIn K mainGlobals "greatest_step" = some (some (.ref f24))) (l24 : K.lookup f24 = some ⟨oc24, od24, .func (PySem.W.fnOf "greatest_step" "greatest_step" (defArgs s_greatest_step) (defBody s_greatest_step) (defScope s_greatest_step) .none kV24 dc24 pm24 an24 cd24 ct24), sl24⟩) (c24 : PySem.W.codeIn K cd24 "greatest_step" = true) (k24 : PySem.W.keepIn K (.ref f24) = true)
    (a26 : PySem.W.nsIn K mainGlobals "_law_wide" = some (some (.ref f26))) (l26 : K.lookup f26 = some ⟨oc26, od26, .func (PySem.W.fnOf "_law_wide" "_law_wide" (defArgs s__law_wide) (defBody s__law_wide) (defScope s__law_wide) .none kV26 dc26 pm26 an26 cd26 ct26), sl26⟩) (c26 : PySem.W.codeIn K cd26 "_law_wide" = true) (k26 : PySem.W.keepIn K (.ref f26) = true)
    (a27 : PySem.W.nsIn K mainGlobals "_law_rate" = some (some (.ref f27))) (l27 : K.lookup f27 = some ⟨oc27, od27, .func (PySem.W.fnOf "_law_rate" "_law_rate" (defArgs s__law_rate) (defBody s__law_rate) (defScope s__law_rate) .none kV27 dc27 pm27 an27 cd27 ct27), sl27⟩) (c27 : PySem.W.codeIn K cd27 "_law_rate" = true) (k27 : PySem.W.keepIn K (.ref f27) = true)
    (a28 : PySem.W.nsIn K mainGlobals "_law_reach" = some (some (.ref f28))) (l28 : K.lookup f28 = some ⟨oc28, od28, .func (PySem.W.fnOf "_law_reach" "_law_reach" (defArgs s__law_reach) (defBody s__law_reach) (defScope s__law_reach) .none kV28 dc28 pm28 an28 cd28 ct28), sl28⟩) (c28 : PySem.W.codeIn K cd28 "_law_reach" = true) (k28 : PySem.W.keepIn K (.ref f28) = true)
    (a30 : PySem.W.nsIn K mainGlobals "_law_odd" = some (some (.ref f30))) (l30 : K.lookup f30 = some ⟨oc30, od30, .func (PySem.W.fnOf "_law_odd" "_law_odd" (defArgs s__law_odd) (defBody s__law_odd) (defScope s__law_odd) .none kV30 dc30 pm30 an30 cd30 ct30), sl30⟩) (c30 : PySem.W.codeIn K cd30 "_law_odd" = true) (k30 : PySem.W.keepIn K (.ref f30) = true)
    (a19 : PySem.W.nsIn K mainGlobals "need_whole" = some (some (.ref f19))) (l19 : K.lookup f19 = some ⟨oc19, od19, .func (PySem.W.fnOf "need_whole" "need_whole" (defArgs s_need_whole) (defBody s_need_whole) (defScope s_need_whole) .none kV19 dc19 pm19 an19 cd19 ct19), sl19⟩) (c19 : PySem.W.codeIn K cd19 "need_whole" = true) (k19 : PySem.W.keepIn K (.ref f19) = true)
    (a23 : PySem.W.nsIn K mainGlobals "fewest_steps" = some (some (.ref f23))) (l23 : K.lookup f23 = some ⟨oc23, od23, .func (PySem.W.fnOf "fewest_steps" "fewest_steps" (defArgs s_fewest_steps) (defBody s_fewest_steps) (defScope s_fewest_steps) .none kV23 dc23 pm23 an23 cd23 ct23), sl23⟩) (c23 : PySem.W.codeIn K cd23 "fewest_steps" = true) (k23 : PySem.W.keepIn K (.ref f23) = true)
    (a20 : PySem.W.nsIn K mainGlobals "need_drive" = some (some (.ref f20))) (l20 : K.lookup f20 = some ⟨oc20, od20, .func (PySem.W.fnOf "need_drive" "need_drive" (defArgs s_need_drive) (defBody s_need_drive) (defScope s_need_drive) .none kV20 dc20 pm20 an20 cd20 ct20), sl20⟩) (c20 : PySem.W.codeIn K cd20 "need_drive" = true) (k20 : PySem.W.keepIn K (.ref f20) = true)
    (a21 : PySem.W.nsIn K mainGlobals "steps_of" = some (some (.ref f21))) (l21 : K.lookup f21 = some ⟨oc21, od21, .func (PySem.W.fnOf "steps_of" "steps_of" (defArgs s_steps_of) (defBody s_steps_of) (defScope s_steps_of) .none kV21 dc21 pm21 an21 cd21 ct21), sl21⟩) (c21 : PySem.W.codeIn K cd21 "steps_of" = true) (k21 : PySem.W.keepIn K (.ref f21) = true)
    (a29 : PySem.W.nsIn K mainGlobals "_law_said" = some (some (.ref f29))) (l29 : K.lookup f29 = some ⟨oc29, od29, .func (PySem.W.fnOf "_law_said" "_law_said" (defArgs s__law_said) (defBody s__law_said) (defScope s__law_said) .none kV29 dc29 pm29 an29 cd29 ct29), sl29⟩) (c29 : PySem.W.codeIn K cd29 "_law_said" = true) (k29 : PySem.W.keepIn K (.ref f29) = true)
    (a31 : PySem.W.nsIn K mainGlobals "_law_right" = some (some (.ref f31))) (l31 : K.lookup f31 = some ⟨oc31, od31, .func (PySem.W.fnOf "_law_right" "_law_right" (defArgs s__law_right) (defBody s__law_right) (defScope s__law_right) .none kV31 dc31 pm31 an31 cd31 ct31), sl31⟩) (c31 : PySem.W.codeIn K cd31 "_law_right" = true) (k31 : PySem.W.keepIn K (.ref f31) = true)
    (a32 : PySem.W.nsIn K mainGlobals "law" = some (some (.ref f32))) (l32 : K.lookup f32 = some ⟨oc32, od32, .func (PySem.W.fnOf "law" "law" (defArgs s_law) (defBody s_law) (defScope s_law) .none kV32 dc32 pm32 an32 cd32 ct32), sl32⟩) (c32 : PySem.W.codeIn K cd32 "law" = true) (k32 : PySem.W.keepIn K (.ref f32) = true)
    (z_isinstance : PySem.W.nsIn K mainGlobals "isinstance" = some none)
    (z_int : PySem.W.nsIn K mainGlobals "int" = some none)
    (z_bool : PySem.W.nsIn K mainGlobals "bool" = some none)
    (z_range : PySem.W.nsIn K mainGlobals "range" = some none)
    (z_min : PySem.W.nsIn K mainGlobals "min" = some none)
    (z_max : PySem.W.nsIn K mainGlobals "max" = some none)
    (z_sum : PySem.W.nsIn K mainGlobals "sum" = some none)
    (z_len : PySem.W.nsIn K mainGlobals "len" = some none)
    (z_list : PySem.W.nsIn K mainGlobals "list" = some none)
    (z_enumerate : PySem.W.nsIn K mainGlobals "enumerate" = some none)
    (z_ValueError : PySem.W.nsIn K mainGlobals "ValueError" = some none)
    {C_StageError : Addr} (q_StageError : PySem.W.nsIn K mainGlobals "StageError" = some (some (.ref C_StageError)))
    {C_BadNumber : Addr} (q_BadNumber : PySem.W.nsIn K mainGlobals "BadNumber" = some (some (.ref C_BadNumber)))
    {C_BadName : Addr} (q_BadName : PySem.W.nsIn K mainGlobals "BadName" = some (some (.ref C_BadName)))
    {C_BadStage : Addr} (q_BadStage : PySem.W.nsIn K mainGlobals "BadStage" = some (some (.ref C_BadStage)))
    {C_BadSheet : Addr} (q_BadSheet : PySem.W.nsIn K mainGlobals "BadSheet" = some (some (.ref C_BadSheet)))
    {C_TooLong : Addr} (q_TooLong : PySem.W.nsIn K mainGlobals "TooLong" = some (some (.ref C_TooLong)))
    {C_Busy : Addr} (q_Busy : PySem.W.nsIn K mainGlobals "Busy" = some (some (.ref C_Busy)))
    {C_TooNear : Addr} (q_TooNear : PySem.W.nsIn K mainGlobals "TooNear" = some (some (.ref C_TooNear)))
    {C_Stopped : Addr} (q_Stopped : PySem.W.nsIn K mainGlobals "Stopped" = some (some (.ref C_Stopped)))
    {C_NotStopped : Addr} (q_NotStopped : PySem.W.nsIn K mainGlobals "NotStopped" = some (some (.ref C_NotStopped)))
    {C_Moving : Addr} (q_Moving : PySem.W.nsIn K mainGlobals "Moving" = some (some (.ref C_Moving)))
    {C_NoCue : Addr} (q_NoCue : PySem.W.nsIn K mainGlobals "NoCue" = some (some (.ref C_NoCue)))
    {C_BadRow : Addr} (q_BadRow : PySem.W.nsIn K mainGlobals "BadRow" = some (some (.ref C_BadRow)))
    (i_StageError : PySem.W.isClsIn K C_StageError = true) (y_StageError : PySem.W.typeIn K (.ref C_StageError) = some (.type "type"))
    (i_BadNumber : PySem.W.isClsIn K C_BadNumber = true) (y_BadNumber : PySem.W.typeIn K (.ref C_BadNumber) = some (.type "type"))
    (i_BadName : PySem.W.isClsIn K C_BadName = true) (y_BadName : PySem.W.typeIn K (.ref C_BadName) = some (.type "type"))
    (i_BadStage : PySem.W.isClsIn K C_BadStage = true) (y_BadStage : PySem.W.typeIn K (.ref C_BadStage) = some (.type "type"))
    (i_BadSheet : PySem.W.isClsIn K C_BadSheet = true) (y_BadSheet : PySem.W.typeIn K (.ref C_BadSheet) = some (.type "type"))
    (i_TooLong : PySem.W.isClsIn K C_TooLong = true) (y_TooLong : PySem.W.typeIn K (.ref C_TooLong) = some (.type "type"))
    (i_Busy : PySem.W.isClsIn K C_Busy = true) (y_Busy : PySem.W.typeIn K (.ref C_Busy) = some (.type "type"))
    (i_TooNear : PySem.W.isClsIn K C_TooNear = true) (y_TooNear : PySem.W.typeIn K (.ref C_TooNear) = some (.type "type"))
    (i_Stopped : PySem.W.isClsIn K C_Stopped = true) (y_Stopped : PySem.W.typeIn K (.ref C_Stopped) = some (.type "type"))
    (i_NotStopped : PySem.W.isClsIn K C_NotStopped = true) (y_NotStopped : PySem.W.typeIn K (.ref C_NotStopped) = some (.type "type"))
    (i_Moving : PySem.W.isClsIn K C_Moving = true) (y_Moving : PySem.W.typeIn K (.ref C_Moving) = some (.type "type"))
    (i_NoCue : PySem.W.isClsIn K C_NoCue = true) (y_NoCue : PySem.W.typeIn K (.ref C_NoCue) = some (.type "type"))
    (i_BadRow : PySem.W.isClsIn K C_BadRow = true) (y_BadRow : PySem.W.typeIn K (.ref C_BadRow) = some (.type "type"))
    (sbS : PySem.W.subIn K (.ref C_StageError) (.type "BaseException") = some true)
    (x_BadNumber_xin : PySem.W.excIn K C_BadNumber [.type "ValueError", .type "Exception", .type "BaseException", .type "object"] "ValueError.__new__" = true)
    (x_BadNumber_kp : PySem.W.keepIn K (.ref C_BadNumber) = true)
    (x_BadNumber_sb : PySem.W.subIn K (.ref C_BadNumber) (.type "BaseException") = some true)
    (x_BadNumber_ty : PySem.W.typeIn K (.ref C_BadNumber) = some (.type "type"))
    (x_BadNumber_hg : PySem.W.findIn K (.ref C_BadNumber) "__getattribute__" = some (some (.builtin "BaseException.__getattribute__")))
    (x_BadNumber_hk : PySem.W.findIn K (.ref C_BadNumber) "__getattr__" = some none)
    (x_BadNumber_hd : PySem.W.hasDictIn K C_BadNumber = true)
    (x_BadNumber_ha : PySem.W.findIn K (.ref C_BadNumber) "__class__" = some (some (.builtin "object.__class__")))
    (x_BadNumber_hn : PySem.W.specialIn K (.builtin "object.__class__") "__get__" = some (some (.builtin "getset_descriptor.__get__")))
    (x_BadNumber_ht : PySem.W.takesIn K (.builtin "object.__class__") = some true)
    (x_BadNumber_hm : PySem.W.mroIn K C_BadNumber (.type "object") = some true)
    (x_BadNumber_v : PySem.W.subIn K (.ref C_BadNumber) (.type "ValueError") = some true)
    (x_BadNumber_u_StageError : PySem.W.subIn K (.ref C_BadNumber) (.ref C_StageError) = some true)
    (x_BadNumber_u_BadNumber : PySem.W.subIn K (.ref C_BadNumber) (.ref C_BadNumber) = some true)
    (x_BadNumber_u_BadName : PySem.W.subIn K (.ref C_BadNumber) (.ref C_BadName) = some false)
    (x_BadNumber_u_BadStage : PySem.W.subIn K (.ref C_BadNumber) (.ref C_BadStage) = some false)
    (x_BadNumber_u_BadSheet : PySem.W.subIn K (.ref C_BadNumber) (.ref C_BadSheet) = some false)
    (x_BadNumber_u_TooLong : PySem.W.subIn K (.ref C_BadNumber) (.ref C_TooLong) = some false)
    (x_BadNumber_u_Busy : PySem.W.subIn K (.ref C_BadNumber) (.ref C_Busy) = some false)
    (x_BadNumber_u_TooNear : PySem.W.subIn K (.ref C_BadNumber) (.ref C_TooNear) = some false)
    (x_BadNumber_u_Stopped : PySem.W.subIn K (.ref C_BadNumber) (.ref C_Stopped) = some false)
    (x_BadNumber_u_NotStopped : PySem.W.subIn K (.ref C_BadNumber) (.ref C_NotStopped) = some false)
    (x_BadNumber_u_Moving : PySem.W.subIn K (.ref C_BadNumber) (.ref C_Moving) = some false)
    (x_BadNumber_u_NoCue : PySem.W.subIn K (.ref C_BadNumber) (.ref C_NoCue) = some false)
    (x_BadNumber_u_BadRow : PySem.W.subIn K (.ref C_BadNumber) (.ref C_BadRow) = some false)
    (x_TooLong_xin : PySem.W.excIn K C_TooLong [.type "ValueError", .type "Exception", .type "BaseException", .type "object"] "ValueError.__new__" = true)
    (x_TooLong_kp : PySem.W.keepIn K (.ref C_TooLong) = true)
    (x_TooLong_sb : PySem.W.subIn K (.ref C_TooLong) (.type "BaseException") = some true)
    (x_TooLong_ty : PySem.W.typeIn K (.ref C_TooLong) = some (.type "type"))
    (x_TooLong_hg : PySem.W.findIn K (.ref C_TooLong) "__getattribute__" = some (some (.builtin "BaseException.__getattribute__")))
    (x_TooLong_hk : PySem.W.findIn K (.ref C_TooLong) "__getattr__" = some none)
    (x_TooLong_hd : PySem.W.hasDictIn K C_TooLong = true)
    (x_TooLong_ha : PySem.W.findIn K (.ref C_TooLong) "__class__" = some (some (.builtin "object.__class__")))
    (x_TooLong_hn : PySem.W.specialIn K (.builtin "object.__class__") "__get__" = some (some (.builtin "getset_descriptor.__get__")))
    (x_TooLong_ht : PySem.W.takesIn K (.builtin "object.__class__") = some true)
    (x_TooLong_hm : PySem.W.mroIn K C_TooLong (.type "object") = some true)
    (x_TooLong_v : PySem.W.subIn K (.ref C_TooLong) (.type "ValueError") = some true)
    (x_TooLong_u_StageError : PySem.W.subIn K (.ref C_TooLong) (.ref C_StageError) = some true)
    (x_TooLong_u_BadNumber : PySem.W.subIn K (.ref C_TooLong) (.ref C_BadNumber) = some false)
    (x_TooLong_u_BadName : PySem.W.subIn K (.ref C_TooLong) (.ref C_BadName) = some false)
    (x_TooLong_u_BadStage : PySem.W.subIn K (.ref C_TooLong) (.ref C_BadStage) = some false)
    (x_TooLong_u_BadSheet : PySem.W.subIn K (.ref C_TooLong) (.ref C_BadSheet) = some false)
    (x_TooLong_u_TooLong : PySem.W.subIn K (.ref C_TooLong) (.ref C_TooLong) = some true)
    (x_TooLong_u_Busy : PySem.W.subIn K (.ref C_TooLong) (.ref C_Busy) = some false)
    (x_TooLong_u_TooNear : PySem.W.subIn K (.ref C_TooLong) (.ref C_TooNear) = some false)
    (x_TooLong_u_Stopped : PySem.W.subIn K (.ref C_TooLong) (.ref C_Stopped) = some false)
    (x_TooLong_u_NotStopped : PySem.W.subIn K (.ref C_TooLong) (.ref C_NotStopped) = some false)
    (x_TooLong_u_Moving : PySem.W.subIn K (.ref C_TooLong) (.ref C_Moving) = some false)
    (x_TooLong_u_NoCue : PySem.W.subIn K (.ref C_TooLong) (.ref C_NoCue) = some false)
    (x_TooLong_u_BadRow : PySem.W.subIn K (.ref C_TooLong) (.ref C_BadRow) = some false)
    {t_MOST_STEPS : Tok} (z_MOST_STEPS : PySem.W.nsIn K mainGlobals "MOST_STEPS" = some (some (.int 200 t_MOST_STEPS)))
    (z_MOST_PACE : ∃ t, mg "MOST_PACE" = some (.int 1000000000 t))
    (z_MOST_DISTANCE : ∃ t, mg "MOST_DISTANCE" = some (.int 1000000000000 t)) :
    ∃ fd : FuncData, (∀ (s : Shared) (v : Value), BindsTo s fd ⟨[v], []⟩ [("_law_script", v)]) ∧ ∀ base : Heap, K.In base → base.Ns mainGlobals mg → FnOk P w K mg base CX0 7 fa fd ["_law_script"] (spLaw K) := by
  have e := hfa.symm.trans (PySem.W.mg_of X G a32)
  cases e
  have F18 := fun_mk (st := s_is_whole) l18 c18 k18
  have b18 := F18.binds (ps := ["thing", "least", "most"]) fun _ _ _ _ _ _ us hl => match us, hl with | [_, _, _], _ => rfl
  have F22 := fun_mk (st := s_added_reach) l22 c22 k22
  have b22 := F22.binds (ps := ["many", "pace", "gain"]) fun _ _ _ _ _ _ us hl => match us, hl with | [_, _, _], _ => rfl
  have F24 := fun_mk (st := s_greatest_step) l24 c24 k24
  have b24 := F24.binds (ps := ["ahead", "behind", "left", "pace", "gain"]) fun _ _ _ _ _ _ us hl => match us, hl with | [_, _, _, _, _], _ => rfl
  have F26 := fun_mk (st := s__law_wide) l26 c26 k26
  have b26 := F26.binds (ps := ["_law_cell", "_law_k"]) fun _ _ _ _ _ _ us hl => match us, hl with | [_, _], _ => rfl
  have F27 := fun_mk (st := s__law_rate) l27 c27 k27
  have b27 := F27.binds (ps := ["_law_number"]) fun _ _ _ _ _ _ us hl => match us, hl with | [_], _ => rfl
  have F28 := fun_mk (st := s__law_reach) l28 c28 k28
  have b28 := F28.binds (ps := ["_law_many", "_law_pace", "_law_gain"]) fun _ _ _ _ _ _ us hl => match us, hl with | [_, _, _], _ => rfl
  have F30 := fun_mk (st := s__law_odd) l30 c30 k30
  have b30 := F30.binds (ps := ["_law_number", "_law_most"]) fun _ _ _ _ _ _ us hl => match us, hl with | [_, _], _ => rfl
  have F19 := fun_mk (st := s_need_whole) l19 c19 k19
  have b19 := F19.binds (ps := ["thing", "least", "most", "what"]) fun _ _ _ _ _ _ us hl => match us, hl with | [_, _, _, _], _ => rfl
  have F23 := fun_mk (st := s_fewest_steps) l23 c23 k23
  have b23 := F23.binds (ps := ["distance", "pace", "gain"]) fun _ _ _ _ _ _ us hl => match us, hl with | [_, _, _], _ => rfl
  have F20 := fun_mk (st := s_need_drive) l20 c20 k20
  have b20 := F20.binds (ps := ["pace", "gain"]) fun _ _ _ _ _ _ us hl => match us, hl with | [_, _], _ => rfl
  have F21 := fun_mk (st := s_steps_of) l21 c21 k21
  have b21 := F21.binds (ps := ["distance", "pace", "gain"]) fun _ _ _ _ _ _ us hl => match us, hl with | [_, _, _], _ => rfl
  have F29 := fun_mk (st := s__law_said) l29 c29 k29
  have b29 := F29.binds (ps := ["_law_distance", "_law_pace", "_law_gain"]) fun _ _ _ _ _ _ us hl => match us, hl with | [_, _, _], _ => rfl
  have F31 := fun_mk (st := s__law_right) l31 c31 k31
  have b31 := F31.binds (ps := ["_law_number", "_law_more"]) fun _ _ _ _ _ _ us hl => match us, hl with | [_, _], _ => rfl
  have F32 := fun_mk (st := s_law) l32 c32 k32
  obtain ⟨cl, hcl⟩ : ∃ cl : Nat → Addr, cl = fun i => [C_StageError, C_BadNumber, C_BadName, C_BadStage, C_BadSheet, C_TooLong, C_Busy, C_TooNear, C_Stopped, C_NotStopped, C_Moving, C_NoCue, C_BadRow].getD i 0 := ⟨_, rfl⟩
  have j0 : cl 0 = C_StageError := by rw [hcl]; rfl
  have j1 : cl 1 = C_BadNumber := by rw [hcl]; rfl
  have j2 : cl 2 = C_BadName := by rw [hcl]; rfl
  have j3 : cl 3 = C_BadStage := by rw [hcl]; rfl
  have j4 : cl 4 = C_BadSheet := by rw [hcl]; rfl
  have j5 : cl 5 = C_TooLong := by rw [hcl]; rfl
  have j6 : cl 6 = C_Busy := by rw [hcl]; rfl
  have j7 : cl 7 = C_TooNear := by rw [hcl]; rfl
  have j8 : cl 8 = C_Stopped := by rw [hcl]; rfl
  have j9 : cl 9 = C_NotStopped := by rw [hcl]; rfl
  have j10 : cl 10 = C_Moving := by rw [hcl]; rfl
  have j11 : cl 11 = C_NoCue := by rw [hcl]; rfl
  have j12 : cl 12 = C_BadRow := by rw [hcl]; rfl
  clear hcl
  subst j0 j1 j2 j3 j4 j5 j6 j7 j8 j9 j10 j11 j12
  have EE : Exs K mg cl := ⟨⟨PySem.W.mg_of X G q_BadNumber, x_BadNumber_xin, x_BadNumber_kp, x_BadNumber_sb, x_BadNumber_ty, ⟨x_BadNumber_hg, x_BadNumber_hk, x_BadNumber_sb, x_BadNumber_hd, x_BadNumber_ha, x_BadNumber_hn, x_BadNumber_ht, x_BadNumber_hm⟩, exm_own sbS i_StageError y_StageError x_BadNumber_u_StageError⟩, kitOne_ty (by decide +kernel) x_BadNumber_v, kitAny_no (fun c hc => by simp only [List.mem_cons, List.not_mem_nil, or_false] at hc; rcases hc with rfl | rfl | rfl | rfl | rfl | rfl; (· exact kitOne_own x_BadNumber_u_BadNumber i_BadName y_BadName x_BadNumber_u_BadName); (· exact kitOne_own x_BadNumber_u_BadNumber i_BadRow y_BadRow x_BadNumber_u_BadRow); (· exact kitOne_own x_BadNumber_u_BadNumber i_BadSheet y_BadSheet x_BadNumber_u_BadSheet); (· exact kitOne_own x_BadNumber_u_BadNumber i_BadStage y_BadStage x_BadNumber_u_BadStage); (· exact kitOne_own x_BadNumber_u_BadNumber i_Busy y_Busy x_BadNumber_u_Busy); (· exact kitOne_own x_BadNumber_u_BadNumber i_Moving y_Moving x_BadNumber_u_Moving)), kitAny_no (fun c hc => by simp only [List.mem_cons, List.not_mem_nil, or_false] at hc; rcases hc with rfl | rfl | rfl | rfl; (· exact kitOne_own x_BadNumber_u_BadNumber i_NoCue y_NoCue x_BadNumber_u_NoCue); (· exact kitOne_own x_BadNumber_u_BadNumber i_NotStopped y_NotStopped x_BadNumber_u_NotStopped); (· exact kitOne_own x_BadNumber_u_BadNumber i_Stopped y_Stopped x_BadNumber_u_Stopped); (· exact kitOne_own x_BadNumber_u_BadNumber i_TooNear y_TooNear x_BadNumber_u_TooNear)), kitOne_own x_BadNumber_u_BadNumber i_BadNumber y_BadNumber x_BadNumber_u_BadNumber, kitOne_own x_BadNumber_u_BadNumber i_TooLong y_TooLong x_BadNumber_u_TooLong, ⟨PySem.W.mg_of X G q_TooLong, x_TooLong_xin, x_TooLong_kp, x_TooLong_sb, x_TooLong_ty, ⟨x_TooLong_hg, x_TooLong_hk, x_TooLong_sb, x_TooLong_hd, x_TooLong_ha, x_TooLong_hn, x_TooLong_ht, x_TooLong_hm⟩, exm_own sbS i_StageError y_StageError x_TooLong_u_StageError⟩, kitOne_ty (by decide +kernel) x_TooLong_v, kitAny_no (fun c hc => by simp only [List.mem_cons, List.not_mem_nil, or_false] at hc; rcases hc with rfl | rfl | rfl | rfl | rfl | rfl; (· exact kitOne_own x_TooLong_u_TooLong i_BadName y_BadName x_TooLong_u_BadName); (· exact kitOne_own x_TooLong_u_TooLong i_BadRow y_BadRow x_TooLong_u_BadRow); (· exact kitOne_own x_TooLong_u_TooLong i_BadSheet y_BadSheet x_TooLong_u_BadSheet); (· exact kitOne_own x_TooLong_u_TooLong i_BadStage y_BadStage x_TooLong_u_BadStage); (· exact kitOne_own x_TooLong_u_TooLong i_Busy y_Busy x_TooLong_u_Busy); (· exact kitOne_own x_TooLong_u_TooLong i_Moving y_Moving x_TooLong_u_Moving)), kitAny_no (fun c hc => by simp only [List.mem_cons, List.not_mem_nil, or_false] at hc; rcases hc with rfl | rfl | rfl | rfl; (· exact kitOne_own x_TooLong_u_TooLong i_NoCue y_NoCue x_TooLong_u_NoCue); (· exact kitOne_own x_TooLong_u_TooLong i_NotStopped y_NotStopped x_TooLong_u_NotStopped); (· exact kitOne_own x_TooLong_u_TooLong i_Stopped y_Stopped x_TooLong_u_Stopped); (· exact kitOne_own x_TooLong_u_TooLong i_TooNear y_TooNear x_TooLong_u_TooNear)), kitOne_own x_TooLong_u_TooLong i_BadNumber y_BadNumber x_TooLong_u_BadNumber, kitOne_own x_TooLong_u_TooLong i_TooLong y_TooLong x_TooLong_u_TooLong⟩
  have B : Bt mg cl := ⟨PySem.W.mg_of X G q_StageError, PySem.W.mg_of X G q_BadNumber, PySem.W.mg_of X G q_BadName, PySem.W.mg_of X G q_BadStage, PySem.W.mg_of X G q_BadSheet, PySem.W.mg_of X G q_TooLong, PySem.W.mg_of X G q_Busy, PySem.W.mg_of X G q_TooNear, PySem.W.mg_of X G q_Stopped, PySem.W.mg_of X G q_NotStopped, PySem.W.mg_of X G q_Moving, PySem.W.mg_of X G q_NoCue, PySem.W.mg_of X G q_BadRow, PySem.W.mg_none_of X G z_isinstance, PySem.W.mg_none_of X G z_int, PySem.W.mg_none_of X G z_bool, PySem.W.mg_none_of X G z_range, PySem.W.mg_none_of X G z_min, PySem.W.mg_none_of X G z_max, PySem.W.mg_none_of X G z_sum, PySem.W.mg_none_of X G z_len, PySem.W.mg_none_of X G z_list, PySem.W.mg_none_of X G z_enumerate, PySem.W.mg_none_of X G z_ValueError, ⟨_, PySem.W.mg_of X G z_MOST_STEPS⟩, z_MOST_PACE, z_MOST_DISTANCE⟩
  refine ⟨PySem.W.fnOf "law" "law" (defArgs s_law) (defBody s_law) (defScope s_law) .none kV32 dc32 pm32 an32 cd32 ct32, fun s v => .of_eq rfl, fun base _ _ => ?_⟩
  have F_is_whole : Fn P w K mg base "is_whole" ["thing", "least", "most"] CX0 1 _ := ⟨f18, _, ok_is_whole B  F18, PySem.W.mg_of X G a18, k18, b18⟩
  have F_added_reach : Fn P w K mg base "added_reach" ["many", "pace", "gain"] CX0 1 _ := ⟨f22, _, ok_added_reach B  F22, PySem.W.mg_of X G a22, k22, b22⟩
  have F_greatest_step : Fn P w K mg base "greatest_step" ["ahead", "behind", "left", "pace", "gain"] CX0 1 _ := ⟨f24, _, ok_greatest_step B  F24, PySem.W.mg_of X G a24, k24, b24⟩
  have F__law_wide : Fn P w K mg base "_law_wide" ["_law_cell", "_law_k"] CX0 1 _ := ⟨f26, _, ok__law_wide B  F26, PySem.W.mg_of X G a26, k26, b26⟩
  have F__law_rate : Fn P w K mg base "_law_rate" ["_law_number"] CX0 1 _ := ⟨f27, _, ok__law_rate B  F27, PySem.W.mg_of X G a27, k27, b27⟩
  have F__law_reach : Fn P w K mg base "_law_reach" ["_law_many", "_law_pace", "_law_gain"] CX0 1 _ := ⟨f28, _, ok__law_reach B  F28, PySem.W.mg_of X G a28, k28, b28⟩
  have F__law_odd : Fn P w K mg base "_law_odd" ["_law_number", "_law_most"] CX0 1 _ := ⟨f30, _, ok__law_odd B  F30, PySem.W.mg_of X G a30, k30, b30⟩
  have F_need_whole : Fn P w K mg base "need_whole" ["thing", "least", "most", "what"] (L2.CX P w) 2 _ := ⟨f19, _, ok_need_whole B EE F_is_whole F19, PySem.W.mg_of X G a19, k19, b19⟩
  have F_fewest_steps : Fn P w K mg base "fewest_steps" ["distance", "pace", "gain"] (L2.CX P w) 2 _ := ⟨f23, _, ok_fewest_steps B EE F_added_reach F23, PySem.W.mg_of X G a23, k23, b23⟩
  have F_need_drive : Fn P w K mg base "need_drive" ["pace", "gain"] (L2.CX P w) 3 _ := ⟨f20, _, ok_need_drive B F_need_whole F20, PySem.W.mg_of X G a20, k20, b20⟩
  have F_steps_of : Fn P w K mg base "steps_of" ["distance", "pace", "gain"] (L2.CX P w) 4 _ := ⟨f21, _, ok_steps_of B F_need_whole F_need_drive F_fewest_steps F_greatest_step F21, PySem.W.mg_of X G a21, k21, b21⟩
  have F__law_said : Fn P w K mg base "_law_said" ["_law_distance", "_law_pace", "_law_gain"] CX0 5 _ := ⟨f29, _, ok__law_said B EE F_steps_of F29, PySem.W.mg_of X G a29, k29, b29⟩
  have F__law_right : Fn P w K mg base "_law_right" ["_law_number", "_law_more"] CX0 6 _ := ⟨f31, _, ok__law_right B F__law_rate F__law_reach F__law_said F__law_odd F31, PySem.W.mg_of X G a31, k31, b31⟩
  exact ok_law B F__law_wide F__law_right F32
end FW
open PySem PySem.W PyProof.Rows
set_option maxHeartbeats 0 in
theorem PySem.Challenge.cw_flywright_k03_moves_refused_holds : PySem.Challenge.rw_flywright_k03_moves_refused.Holds := by
  w_on; o_law; k_head; (case hw => w_witness2)
  k_fill
  refine L2.walk_ofX (l := PySem.Challenge.rw_flywright_k03_moves_refused) (n := 63) (k := 7) (x := "_law_script") (sp := FW.spLaw) rfl (by decide) rfl ⟨rfl, by decide, by decide⟩ (fun w h Y => PySem.W.kIn_of Y) ?F (fun _ _ a ns hl _ hS => ⟨a, ns, rfl, hS, hl, fun _ => rfl⟩)
  case F =>
    intro w mg fa h KX G XX hmg
    refine' FW.all_mk KX G hmg ?a18 ?l18 ?c18 ?k18 ?a22 ?l22 ?c22 ?k22 ?a24 ?l24 ?c24 ?k24 ?a26 ?l26 ?c26 ?k26 ?a27 ?l27 ?c27 ?k27 ?a28 ?l28 ?c28 ?k28 ?a30 ?l30 ?c30 ?k30 ?a19 ?l19 ?c19 ?k19 ?a23 ?l23 ?c23 ?k23 ?a20 ?l20 ?c20 ?k20 ?a21 ?l21 ?c21 ?k21 ?a29 ?l29 ?c29 ?k29 ?a31 ?l31 ?c31 ?k31 ?a32 ?l32 ?c32 ?k32 ?z_isinstance ?z_int ?z_bool ?z_range ?z_min ?z_max ?z_sum ?z_len ?z_list ?z_enumerate ?z_ValueError ?q_StageError ?q_BadNumber ?q_BadName ?q_BadStage ?q_BadSheet ?q_TooLong ?q_Busy ?q_TooNear ?q_Stopped ?q_NotStopped ?q_Moving ?q_NoCue ?q_BadRow ?i_StageError ?y_StageError ?i_BadNumber ?y_BadNumber ?i_BadName ?y_BadName ?i_BadStage ?y_BadStage ?i_BadSheet ?y_BadSheet ?i_TooLong ?y_TooLong ?i_Busy ?y_Busy ?i_TooNear ?y_TooNear ?i_Stopped ?y_Stopped ?i_NotStopped ?y_NotStopped ?i_Moving ?y_Moving ?i_NoCue ?y_NoCue ?i_BadRow ?y_BadRow ?sbS ?x_BadNumber_xin ?x_BadNumber_kp ?x_BadNumber_sb ?x_BadNumber_ty ?x_BadNumber_hg ?x_BadNumber_hk ?x_BadNumber_hd ?x_BadNumber_ha ?x_BadNumber_hn ?x_BadNumber_ht ?x_BadNumber_hm ?x_BadNumber_v ?x_BadNumber_u_StageError ?x_BadNumber_u_BadNumber ?x_BadNumber_u_BadName ?x_BadNumber_u_BadStage ?x_BadNumber_u_BadSheet ?x_BadNumber_u_TooLong ?x_BadNumber_u_Busy ?x_BadNumber_u_TooNear ?x_BadNumber_u_Stopped ?x_BadNumber_u_NotStopped ?x_BadNumber_u_Moving ?x_BadNumber_u_NoCue ?x_BadNumber_u_BadRow ?x_TooLong_xin ?x_TooLong_kp ?x_TooLong_sb ?x_TooLong_ty ?x_TooLong_hg ?x_TooLong_hk ?x_TooLong_hd ?x_TooLong_ha ?x_TooLong_hn ?x_TooLong_ht ?x_TooLong_hm ?x_TooLong_v ?x_TooLong_u_StageError ?x_TooLong_u_BadNumber ?x_TooLong_u_BadName ?x_TooLong_u_BadStage ?x_TooLong_u_BadSheet ?x_TooLong_u_TooLong ?x_TooLong_u_Busy ?x_TooLong_u_TooNear ?x_TooLong_u_Stopped ?x_TooLong_u_NotStopped ?x_TooLong_u_Moving ?x_TooLong_u_NoCue ?x_TooLong_u_BadRow ?z_MOST_STEPS ?z_MOST_PACE ?z_MOST_DISTANCE
    (case a18 => k_is)
    (case l18 => k_is)
    (case c18 => k_is)
    (case k18 => k_is)
    (case a22 => k_is)
    (case l22 => k_is)
    (case c22 => k_is)
    (case k22 => k_is)
    (case a24 => k_is)
    (case l24 => k_is)
    (case c24 => k_is)
    (case k24 => k_is)
    (case a26 => k_is)
    (case l26 => k_is)
    (case c26 => k_is)
    (case k26 => k_is)
    (case a27 => k_is)
    (case l27 => k_is)
    (case c27 => k_is)
    (case k27 => k_is)
    (case a28 => k_is)
    (case l28 => k_is)
    (case c28 => k_is)
    (case k28 => k_is)
    (case a30 => k_is)
    (case l30 => k_is)
    (case c30 => k_is)
    (case k30 => k_is)
    (case a19 => k_is)
    (case l19 => k_is)
    (case c19 => k_is)
    (case k19 => k_is)
    (case a23 => k_is)
    (case l23 => k_is)
    (case c23 => k_is)
    (case k23 => k_is)
    (case a20 => k_is)
    (case l20 => k_is)
    (case c20 => k_is)
    (case k20 => k_is)
    (case a21 => k_is)
    (case l21 => k_is)
    (case c21 => k_is)
    (case k21 => k_is)
    (case a29 => k_is)
    (case l29 => k_is)
    (case c29 => k_is)
    (case k29 => k_is)
    (case a31 => k_is)
    (case l31 => k_is)
    (case c31 => k_is)
    (case k31 => k_is)
    (case a32 => k_is)
    (case l32 => k_is)
    (case c32 => k_is)
    (case k32 => k_is)
    (case z_isinstance => k_is)
    (case z_int => k_is)
    (case z_bool => k_is)
    (case z_range => k_is)
    (case z_min => k_is)
    (case z_max => k_is)
    (case z_sum => k_is)
    (case z_len => k_is)
    (case z_list => k_is)
    (case z_enumerate => k_is)
    (case z_ValueError => k_is)
    (case q_StageError => k_is)
    (case q_BadNumber => k_is)
    (case q_BadName => k_is)
    (case q_BadStage => k_is)
    (case q_BadSheet => k_is)
    (case q_TooLong => k_is)
    (case q_Busy => k_is)
    (case q_TooNear => k_is)
    (case q_Stopped => k_is)
    (case q_NotStopped => k_is)
    (case q_Moving => k_is)
    (case q_NoCue => k_is)
    (case q_BadRow => k_is)
    (case i_StageError => k_is)
    (case y_StageError => k_is)
    (case i_BadNumber => k_is)
    (case y_BadNumber => k_is)
    (case i_BadName => k_is)
    (case y_BadName => k_is)
    (case i_BadStage => k_is)
    (case y_BadStage => k_is)
    (case i_BadSheet => k_is)
    (case y_BadSheet => k_is)
    (case i_TooLong => k_is)
    (case y_TooLong => k_is)
    (case i_Busy => k_is)
    (case y_Busy => k_is)
    (case i_TooNear => k_is)
    (case y_TooNear => k_is)
    (case i_Stopped => k_is)
    (case y_Stopped => k_is)
    (case i_NotStopped => k_is)
    (case y_NotStopped => k_is)
    (case i_Moving => k_is)
    (case y_Moving => k_is)
    (case i_NoCue => k_is)
    (case y_NoCue => k_is)
    (case i_BadRow => k_is)
    (case y_BadRow => k_is)
    (case sbS => k_is)
    (case x_BadNumber_xin => k_exc)
    (case x_BadNumber_kp => k_is)
    (case x_BadNumber_sb => k_is)
    (case x_BadNumber_ty => k_is)
    (case x_BadNumber_hg => k_is)
    (case x_BadNumber_hk => k_is)
    (case x_BadNumber_hd => k_is)
    (case x_BadNumber_ha => k_is)
    (case x_BadNumber_hn => k_is)
    (case x_BadNumber_ht => k_is)
    (case x_BadNumber_hm => k_is)
    (case x_BadNumber_v => k_is)
    (case x_BadNumber_u_StageError => first | rfl | k_is)
    (case x_BadNumber_u_BadNumber => first | rfl | k_is)
    (case x_BadNumber_u_BadName => first | rfl | k_is)
    (case x_BadNumber_u_BadStage => first | rfl | k_is)
    (case x_BadNumber_u_BadSheet => first | rfl | k_is)
    (case x_BadNumber_u_TooLong => first | rfl | k_is)
    (case x_BadNumber_u_Busy => first | rfl | k_is)
    (case x_BadNumber_u_TooNear => first | rfl | k_is)
    (case x_BadNumber_u_Stopped => first | rfl | k_is)
    (case x_BadNumber_u_NotStopped => first | rfl | k_is)
    (case x_BadNumber_u_Moving => first | rfl | k_is)
    (case x_BadNumber_u_NoCue => first | rfl | k_is)
    (case x_BadNumber_u_BadRow => first | rfl | k_is)
    (case x_TooLong_xin => k_exc)
    (case x_TooLong_kp => k_is)
    (case x_TooLong_sb => k_is)
    (case x_TooLong_ty => k_is)
    (case x_TooLong_hg => k_is)
    (case x_TooLong_hk => k_is)
    (case x_TooLong_hd => k_is)
    (case x_TooLong_ha => k_is)
    (case x_TooLong_hn => k_is)
    (case x_TooLong_ht => k_is)
    (case x_TooLong_hm => k_is)
    (case x_TooLong_v => k_is)
    (case x_TooLong_u_StageError => first | rfl | k_is)
    (case x_TooLong_u_BadNumber => first | rfl | k_is)
    (case x_TooLong_u_BadName => first | rfl | k_is)
    (case x_TooLong_u_BadStage => first | rfl | k_is)
    (case x_TooLong_u_BadSheet => first | rfl | k_is)
    (case x_TooLong_u_TooLong => first | rfl | k_is)
    (case x_TooLong_u_Busy => first | rfl | k_is)
    (case x_TooLong_u_TooNear => first | rfl | k_is)
    (case x_TooLong_u_Stopped => first | rfl | k_is)
    (case x_TooLong_u_NotStopped => first | rfl | k_is)
    (case x_TooLong_u_Moving => first | rfl | k_is)
    (case x_TooLong_u_NoCue => first | rfl | k_is)
    (case x_TooLong_u_BadRow => first | rfl | k_is)
    (case z_MOST_STEPS => k_is)
    (case z_MOST_PACE => exact L2.loose_int XX (by simp))
    (case z_MOST_DISTANCE => exact L2.loose_int XX (by simp))

